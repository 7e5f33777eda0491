import PyProof.Rows.All
import Wide.All
import OpenK.AllK
import Wide.FinOn
import Lean
import PyProof.EqAt
import PyProof.EqKinds
import PyProof.TupleCall
import PyProof.ZipIter
import PyProof.DictWalks
import PyProof.StrOps2
import KE.IntTextLaws
import PyProof.StrBlockI
import PyProof.StrLawsIn
import PyProof.StrLawsChain
import PyProof.StrLawsTight
import PyProof.Rows.StrItems
import PyProof.ExcInit
import PyProof.ExcClass3
import PyProof.ExcBaseAll.ValueError
import PyProof.FString
import PyProof.Rows.FStr
import PyProof.RaisesMany
import PyProof.RulesAs
import PyProof.NsDelKeeps
import PyProof.ExcAttrAll.ValueError
import PyProof.AutoSeq1
import PyProof.WalkInts
import PyProof.Rows.SetFrom
import PyProof.SetKind
import PyProof.CollectWalk
import PyProof.MinMaxWalk
import PyProof.TupleKey
import PyProof.FString5
import KE.KDictOf
import PyProof.AttrMissHeap
import KE.KSortTup
import PyProof.MeetsSeq3
import PyProof.DictUpdate
import PyProof.Rows.SumAny
import KE.KMulAny
import PyProof.FactsAll.tuple_2
import PySem.Challenge.RW_digmatrix_k05_a_wrong_line
set_option Elab.async false
set_option linter.all false
set_option maxRecDepth 100000
def PySem.W.Fast.tw16859090058516817960:Unit:=()
def PySem.W.Fast.tw1625862065901966517:Unit:=()
def PySem.W.Fast.tw14680757758487085549:Unit:=()
def PySem.W.Fast.tw7000653631067543977:Unit:=()
def PySem.W.Fast.tw9871949235801384333:Unit:=()
def PySem.W.Fast.tw2131630364271415640:Unit:=()
def PySem.W.Fast.tw16805247304857583352:Unit:=()
def PySem.W.Fast.tw5785501468968775650:Unit:=()
def PySem.W.Fast.tw15821493486959335801:Unit:=()
def PySem.W.Fast.tw3669142624056679352:Unit:=()
def PySem.W.Fast.tw3533570392952006909:Unit:=()
def PySem.W.Fast.tw1715982530165377377:Unit:=()
def PySem.W.Fast.tw16618808950353858654:Unit:=()
def PySem.W.Fast.tw4429355269153078308:Unit:=()
def PySem.W.Fast.tw7261194043266258700:Unit:=()
def PySem.W.Fast.tw11018719509937710312:Unit:=()
def PySem.W.Fast.tw12793772739730288065:Unit:=()
def PySem.W.Fast.tw17685269421980405635:Unit:=()
def PySem.W.Fast.tw16520938403255386826:Unit:=()
def PySem.W.Fast.tw1799913510435211252:Unit:=()
def PySem.W.Fast.tw9842104243563017045:Unit:=()
def PySem.W.Fast.tw11070127692549619452:Unit:=()
def PySem.W.Fast.tw11190014462435838089:Unit:=()
def PySem.W.Fast.tw3752049885798762065:Unit:=()
def PySem.W.Fast.tw11416459238975930029:Unit:=()
def PySem.W.Fast.tw10528051398666068761:Unit:=()
namespace L2
open PySem PySem.Spec PyProof.Rows
abbrev Key:=Sum Int Str
def qV:Key->Value->Bool
  | .inl k,v=>Value.isInt k v
  | .inr x,v=>Value.isStrOf x v
def A6 (w:World):Key->Int
  | .inl k=>hashInt k
  | .inr x=>hashStr w x
theorem nR:∀{k:Key}{v:Value},qV k v=true->(∃i t,k=Sum.inl i/\v=Value.int i t)\/(∃x t,k=Sum.inr x/\v=Value.str x t)
  | .inl i,v,h=>by
    obtain⟨t,e⟩:=Value.isInt_shape (k:=i) (v:=v) h;exact .inl ⟨i,t,rfl,e⟩
  | .inr x,v,h=>by
    obtain⟨t,e⟩:=Value.isStrOf_shape (x:=x) (v:=v) h;exact .inr ⟨x,t,rfl,e⟩
theorem Lh (i:Int) (t:Tok):qV (.inl i) (.int i t)=true:=by simp[qV,Value.isInt]
theorem Li (x:Str) (t:Tok):qV (.inr x) (.str x t)=true:=by simp[qV,Value.isStrOf]
theorem Lj (a b:Int):decide ((Sum.inl a:Key)=Sum.inl b)=(a == b):=by
  by_cases e:a=b
  · subst e;simp
  · have h:¬(Sum.inl a:Key)=Sum.inl b:=fun q=>e (Sum.inl.inj q)
    rw[decide_eq_false h];exact (beq_eq_false_iff_ne.mpr e).symm
theorem Lk (a b:Str):decide ((Sum.inr a:Key)=Sum.inr b)=decide (a=b):=by
  by_cases e:a=b
  · subst e;simp
  · have h:¬(Sum.inr a:Key)=Sum.inr b:=fun q=>e (Sum.inr.inj q)
    rw[decide_eq_false h,decide_eq_false e]
theorem Ll (a:Int) (b:Str):decide ((Sum.inl a:Key)=Sum.inr b)=false:=decide_eq_false (fun q=>nomatch q)
theorem Lm (a:Str) (b:Int):decide ((Sum.inr a:Key)=Sum.inl b)=false:=decide_eq_false (fun q=>nomatch q)
def jF (prog:Program) (w:World):PySem.KeyKind prog w Key where
  is:=qV
  hash:=A6 w
  inj:=fun v a b ha hb=>by
    rcases nR ha with ⟨i,t,rfl,rfl⟩ | ⟨x,t,rfl,rfl⟩
    · rcases nR hb with ⟨j,u,rfl,e⟩ | ⟨y,u,rfl,e⟩
      · injection e with e1 _;rw[e1]
      · exact nomatch e
    · rcases nR hb with ⟨j,u,rfl,e⟩ | ⟨y,u,rfl,e⟩
      · exact nomatch e
      · injection e with e1 _;rw[e1]
  byValue:=fun k v h=>by
    rcases nR h with ⟨i,t,rfl,rfl⟩ | ⟨x,t,rfl,rfl⟩<;>rfl
  pyHash:=fun hv h=>by
    rcases nR hv with ⟨i,t,rfl,rfl⟩ | ⟨x,t,rfl,rfl⟩
    · exact wpAny_pyHash_int h
    · exact wpAny_pyHash_str h
  eqBool:=fun hu hv h=>by
    rcases nR hu with ⟨i,t,rfl,rfl⟩ | ⟨x,t,rfl,rfl⟩
    · rcases nR hv with ⟨j,u,rfl,rfl⟩ | ⟨y,u,rfl,rfl⟩
      · rw[Lj] at h;exact wpAny_eqBool_int h
      · rw[Ll] at h;exact SeqAt.EqAt.int_str i t y u _ _ _ _ h
    · rcases nR hv with ⟨j,u,rfl,rfl⟩ | ⟨y,u,rfl,rfl⟩
      · rw[Lm] at h;exact SeqAt.EqAt.str_int x t j u _ _ _ _ h
      · rw[Lk] at h;exact wpAny_eqBool_str h
  «strs»:=fun k x t v h=>by
    rcases nR h with ⟨i,u,rfl,e⟩ | ⟨y,u,rfl,e⟩
    · exact nomatch e
    · injection e with e1 _
      subst e1;cases v<;>rfl
theorem Lo (prog:Program) (w:World) (i:Int) (t:Tok):(jF prog w).is (.inl i) (.int i t)=true:=Lh i t
theorem A7 (prog:Program) (w:World) (x:Str) (t:Tok):(jF prog w).is (.inr x) (.str x t)=true:=Li x t
inductive V where
  | aL | bl (b:Bool) | int (i:Int) | str (x:Str) | lN (b:Array UInt8) | pX (b:UInt64) | ref (a:Addr) | ty (n:String)
  deriving DecidableEq
def RelV:V->Value->Prop
  | .aL,u=>u=Value.none
  | .bl b,u=>u=Value.bool b
  | .int i,u=>∃t,u=Value.int i t
  | .str x,u=>∃t,u=Value.str x t
  | .lN b,u=>∃t,u=Value.bytes b t
  | .pX b,u=>∃t,u=Value.float b t
  | .ref a,u=>u=Value.ref a
  | .ty n,u=>u=Value.type n
abbrev Vals:List V->List Value->Prop:=Paired RelV
theorem Vals.length {xs:List V}{us:List Value}(r:Vals xs us):xs.length=us.length:=Paired.length r
theorem Vals.get:∀{xs:List V}{us:List Value}{i:Nat}{x:V},Vals xs us->xs[i]? = some x->∃u,us[i]? = some u/\RelV x u
  | _,_,_,_,.nil,e=>by simp at e
  | _,_,0,_,.cons r _,e=>by simp at e;subst e;exact⟨_,rfl,r⟩
  | _,_,i+1,x,.cons _ t,e=>by
    obtain⟨u,h1,h2⟩:=Vals.get (i:=i) (x:=x) t (by simpa using e);exact⟨u,by simpa using h1,h2⟩
theorem Vals.append:∀{xs ys:List V}{us ws:List Value},Vals xs us->Vals ys ws->Vals (xs++ys) (us++ws)
  | _,_,_,_,.nil,s=>s
  | _,_,_,_,.cons r t,s=>.cons r (Vals.append t s)
theorem Vals.take:∀{xs:List V}{us:List Value}(n:Nat),Vals xs us->Vals (xs.take n) (us.take n)
  | _,_,0,_=>.nil
  | _,_,_+1,.nil=>.nil
  | _,_,n+1,.cons r t=>.cons r (Vals.take n t)
theorem Vals.drop:∀{xs:List V}{us:List Value}(n:Nat),Vals xs us->Vals (xs.drop n) (us.drop n)
  | _,_,0,r=>r
  | _,_,_+1,.nil=>.nil
  | _,_,n+1,.cons _ t=>Vals.drop n t
def eV:Option V->Option Value->Prop
  | some v,some u=>RelV v u
  | none,none=>True
  | _,_=>False
def KV {κ:Type}:List (κ×V)->List (κ×Value)->Prop:=Paired fun (p:κ×V) (q:κ×Value)=>p.1=q.1/\RelV p.2 q.2
def kV:Key->V
  | .inl i=>.int i
  | .inr x=>.str x
inductive HO where
    | lst (xs:List V)
    | tup (xs:List V)
    | dK (aq:List (Key×V)) | dT (aq:List (List Key×V))
    | set (S:Int->Bool) (n:Nat)
    | ins (C dx:Addr) (fs:List (Str×V))
    | own (x:Addr)
    | xd (fs:List (Str×V))
    | met (f x:Addr)
    | A8 (lo hi:Int)
    | k7 (o:Obj) (u:HO)
    | qW (ps:Array Value)
    | ext (φ:Heap->Prop)
abbrev Hp:=Addr->Option HO
def upd (H:Hp) (a:Addr) (o:HO):Hp:=fun b=>if b=a then some o else H b
theorem zd {H:Hp}{a:Addr}{o:HO}:upd H a o a=some o:=by unfold upd;rw[if_pos rfl]
theorem aJ {H:Hp}{a b:Addr}{o:HO}(h:b≠a):upd H a o b=H b:=by unfold upd;rw[if_neg h]
theorem Lp {H:Hp}{a:Addr}{o u:HO}:upd (upd H a o) a u=upd H a u:=by
  funext b;unfold upd;split<;>rfl
theorem j8 {H:Hp}{a b:Addr}{o u:HO}(h:H a=some o) (h':H b=some u) (d:o≠u):a≠b:=by
  intro e;subst e;rw[h] at h';exact d (Option.some.inj h')
theorem cI {H:Hp}{a b:Addr}{o:HO}(h:H a=some o) (h':H b=none):a≠b:=by
  intro e;subst e;rw[h] at h';cases h'
section
variable (P:Program) (w:World)
def aH (H:Hp) (h:Heap) (a:Addr):HO->Prop
  | .lst xs=>xs.length<=sizeLine/\∃(its:List Value) (n:Nat),Vals xs its/\h.get? a=some { cls:=.type "list",data:=.seq its.toArray n }
  | .tup xs=>xs.length<=sizeLine/\∃its:List Value,Vals xs its/\IsTup h a its.toArray
  | .dK aq=>aq.length<=sizeLine/\(a == sysModules)=false/\∃vs,KV aq vs/\h.DictOf (jF P w) a vs
  | .dT aq=>aq.length<=sizeLine/\(a == sysModules)=false/\∃xs:List (List Key×Addr×Value),
      Paired (fun (p:List Key×V) (q:List Key×Addr×Value)=>p.1=q.1/\H q.2.1=some (.tup (p.1.map kV))/\RelV p.2 q.2.2) aq xs/\
      ∃o es ep,h.get? a=some o/\o.ExactDict/\o.data = .dict es ep/\es.toList=xs.map (entryOfKey (tupleKind (jF P w)))/\(xs.map (·.1)).Nodup
  | .set S n=>h.SetOf (intKind P w) a S n
  | .ins C dx fs=>H dx=some (.own a)/\fs.length<=1000/\dx≠a/\h.get? a=some (PySem.W.instObj C dx)/\
      ∃mA,h.Ns1 dx mA/\(∀f,eV (fs.lookup f) (mA f))/\PySem.Within mA (fs.map (·.1))
  | .own _=>∃o,h.get? a=some o
  | .xd fs=>∃mA,h.Ns1 a mA/\∀f,eV (fs.lookup f) (mA f)
  | .A8 lo hi=>∃t u v,h.get? a=some { cls:=.type "range",data:=.fields #[.int lo t,.int hi u,.int 1 v] }
  | .k7 o u=>h.get? a=some o/\aH H h a u
  | .qW ps=>h.get? a=some { cls:=.none,data:=.fields ps }
  | .met f x=>h.get? a=some (PySem.W.methodObj (.ref f) (.ref x))
  | .ext φ=>φ h/\(∃o,h.get? a=some o)/\∀h1 h2:Heap,φ h1->(∀o,h1.get? a=some o->h2.get? a=some o)->φ h2
def fq (H:Hp) (h:Heap):Prop:=∀a o,H a=some o->aH P w H h a o
end
section
variable {P:Program}{w:World}{H H':Hp}{h h':Heap}{a:Addr}{o:HO}
theorem aH.lt (x:aH P w H h a o):a<h.objs.size:=by
  cases o with
  | lst xs=>obtain⟨_,_,_,_,e⟩:=x;exact Heap.lt_size e
  | tup xs=>obtain⟨_,_,_,p⟩:=x;exact p.lt
  | dK aq=>obtain⟨_,_,_,_,o,_,_,e,_⟩:=x;exact Heap.lt_size e
  | dT aq=>obtain⟨_,_,_,_,o,_,_,e,_⟩:=x;exact Heap.lt_size e
  | set S n=>obtain⟨o,_,_,_,e,_⟩:=x;exact Heap.lt_size e
  | ins C dx fs=>obtain⟨_,_,_,e,_⟩:=x;exact Heap.lt_size e
  | own y=>obtain⟨_,e⟩:=x;exact Heap.lt_size e
  | xd fs=>obtain⟨_,⟨_,_,_,e,_⟩,_⟩:=x;exact Heap.lt_size e
  | A8 lo hi=>obtain⟨_,_,_,e⟩:=x;exact Heap.lt_size e
  | k7 ob u=>obtain⟨e,_⟩:=x;exact Heap.lt_size e
  | qW ps=>exact Heap.lt_size (show h.get? a=some _ from x)
  | met f y=>exact Heap.lt_size (show h.get? a=some _ from x)
  | ext φ=>obtain⟨_,⟨_,e⟩,_⟩:=x;exact Heap.lt_size e
theorem Paired.qX {α β:Type}{F G:α->β->Prop}:∀{mQ:List α}{mR:List β},Paired F mQ mR->(∀a b,F a b->G a b)->Paired G mQ mR
  | _,_,.nil,_=>.nil
  | _,_,.cons r t,f=>.cons (f _ _ r) (Paired.qX t f)
theorem aH.bH (x:aH P w H h a o) (k:∀b u,(b=a\/H b=some (.own a))->h.get? b=some u->h'.get? b=some u)
    (ho:∀b,H b=some (.own a)->H' b=some (.own a)) (ht:∀b xs,H b=some (.tup xs)->H' b=some (.tup xs)):aH P w H' h' a o:=by
  induction o with
  | lst xs=>obtain⟨z,its,n,r,e⟩:=x;exact⟨z,its,n,r,k _ _ (.inl rfl) e⟩
  | tup xs=>obtain⟨z,its,r,ob,e,c⟩:=x;exact⟨z,its,r,ob,k _ _ (.inl rfl) e,c⟩
  | dK aq=>obtain⟨z,y,vs,r,ob,es,ep,e,c⟩:=x;exact⟨z,y,vs,r,ob,es,ep,k _ _ (.inl rfl) e,c⟩
  | dT aq=>
    obtain⟨z,y,xs,r,ob,es,ep,e,c⟩:=x;exact⟨z,y,xs,Paired.qX r fun p q z=>⟨z.1,ht _ _ z.2.1,z.2.2⟩,ob,es,ep,k _ _ (.inl rfl) e,c⟩
  | set S n=>obtain⟨ob,es,ep,t,e,c⟩:=x;exact⟨ob,es,ep,t,k _ _ (.inl rfl) e,c⟩
  | ins C dx fs=>
    obtain⟨d,z,ne,e,mA,⟨od,es,ep,e2,c⟩,r⟩:=x;exact⟨ho _ d,z,ne,k _ _ (.inl rfl) e,mA,⟨od,es,ep,k _ _ (.inr d) e2,c⟩,r⟩
  | own y=>obtain⟨ob,e⟩:=x;exact⟨ob,k _ _ (.inl rfl) e⟩
  | xd fs=>obtain⟨mA,⟨od,es,ep,e,c⟩,r⟩:=x;exact⟨mA,⟨od,es,ep,k _ _ (.inl rfl) e,c⟩,r⟩
  | A8 lo hi=>obtain⟨t,u,v,e⟩:=x;exact⟨t,u,v,k _ _ (.inl rfl) e⟩
  | k7 ob u ih=>obtain⟨e,q⟩:=x;exact⟨k _ _ (.inl rfl) e,ih q⟩
  | qW ps=>
    have e:h.get? a=some { cls:=.none,data:=.fields ps }:=x;show h'.get? a=some { cls:=.none,data:=.fields ps };exact k a _ (.inl rfl) e
  | met f y=>
    have e:h.get? a=some (PySem.W.methodObj (.ref f) (.ref y)):=x;show h'.get? a=some (PySem.W.methodObj (.ref f) (.ref y));exact k a _ (.inl rfl) e
  | ext φ=>obtain⟨p,⟨o,e⟩,st⟩:=x;exact⟨st _ _ p fun o q=>k _ _ (.inl rfl) q,⟨o,k _ _ (.inl rfl) e⟩,st⟩
theorem fq.lt (x:fq P w H h) (e:H a=some o):a<h.objs.size:=(x a o e).lt
theorem fq.fresh (x:fq P w H h) (e:h.objs.size<=a):H a=none:=by
  cases q:H a with
  | none=>rfl
  | some u=>exact absurd (Nat.lt_of_lt_of_le (x.lt q) e) (Nat.lt_irrefl _)
theorem fq.kept (x:fq P w H h) (k:∀b u,h.get? b=some u->h'.get? b=some u):fq P w H h':=fun a o e=>
  (x a o e).bH (fun b u _ q=>k b u q) (fun _ q=>q) fun _ _ q=>q
theorem fq.laid (x:fq P w H h) (k:∀b u,h.get? b=some u->h'.get? b=some u) (hp:h.objs.size<=a) (new:aH P w (upd H a o) h' a o):fq P w (upd H a o) h':=fun b u e=>by
  have hn:=x.fresh hp
  by_cases hb:b=a
  · subst hb;rw[zd] at e;cases e;exact new
  · rw[aJ hb] at e;exact (x b u e).bH (fun c v _ q=>k c v q) (fun c q=>by rw[aJ (cI q hn)];exact q) fun c xs q=>by rw[aJ (cI q hn)];exact q
end
def Rd (H:Hp) (a:Addr) (u:HO):Prop:=H a=some u\/∃o,H a=some (.k7 o u)
theorem Rd.ok {P:Program}{w:World}{H:Hp}{h:Heap}{a:Addr}{u:HO}(r:Rd H a u) (x:fq P w H h):aH P w H h a u:=by
  rcases r with r | ⟨o,r⟩
  · exact x a u r
  · obtain⟨_,q⟩:=x a _ r;exact q
def vF:Option HO->Prop
  | some (.lst _)=>True
  | some (.dK _)=>True
  | some (.dT _)=>True
  | some (.set _ _)=>True
  | some (.ins _ _ _)=>True
  | some (.ext _)=>True
  | _=>False
section
variable {P:Program}{w:World}{H:Hp}{h h':Heap}{x e:Addr}{o':HO}
theorem fq.write (ok:fq P w H h) (mu:vF (H x)) (he:e=x\/H e=some (.own x)) (k:∀b u,b≠e->h.get? b=some u->h'.get? b=some u) (uE:∃u,h'.get? e=some u)
    (new:aH P w (upd H x o') h' x o'):fq P w (upd H x o') h':=fun b u q=>by
  have vG:∀c y,H c=some (.own y)->c≠x:=fun c y r z=>by subst z;rw[r] at mu;exact mu
  have A9:∀c xs,H c=some (.tup xs)->c≠x:=fun c xs r z=>by subst z;rw[r] at mu;exact mu
  by_cases hb:b=x
  · subst hb;rw[zd] at q;cases q;exact new
  · rw[aJ hb] at q
    by_cases qY:b=e
    · have q':H b=some (.own x):=by
        rcases he with z | z
        · exact absurd (qY.trans z) hb
        · rw[qY];exact z
      rw[q] at q';cases q';obtain⟨v,hv⟩:=uE;exact⟨v,by rw[qY];exact hv⟩
    · refine (ok b u q).bH (fun c v hc r=>k c v ?_ r) (fun c r=>by rw[aJ (vG c b r)];exact r) fun c xs r=>by rw[aJ (A9 c xs r)];exact r
      rcases hc with rfl | hc
      · exact qY
      · rintro rfl;rcases he with z | z
        · exact vG c b hc z
        · rw[hc] at z;cases z;exact hb rfl
end
structure Un (fs ex:List Addr) (H H':Hp) (h h':Heap):Prop where
  keep:∀b o,h.get? b=some o->H b=none->b ∉ fs->b ∉ ex->h'.get? b=some o
  slot:∀b o,h.get? b=some o->H b=none->b∈fs->b ∉ ex->∃sl,h'.get? b=some { o with slots:=sl }
  free:∀b o,h.get? b=some o->H b=none->b ∉ ex->H' b=none
  there:∀b o,h.get? b=some o->b ∉ ex->∃o',h'.get? b=some o'
  eW:∀b xs,H b=some (.tup xs)->H' b=some (.tup xs)
  gE:∀b o u,H b=some (.k7 o u)->H' b=some (.k7 o u)
  gW:∀b ps,H b=some (.qW ps)->∃more,H' b=some (.qW (ps++more))
section
variable {fs uF ex Yu:List Addr}{H H1 H2:Hp}{h h1 h2 h':Heap}{a x e:Addr}{o:HO}
theorem Un.any (u:Un fs ex H H1 h h1) {b:Addr}{ob:Obj}(q:h.get? b=some ob) (n:H b=none) (hx:b ∉ ex):∃sl,h1.get? b=some { ob with slots:=sl }:=by
  by_cases hb:b∈fs
  · exact u.slot b ob q n hb hx
  · exact⟨ob.slots,u.keep b ob q n hb hx⟩
theorem Un.kept (k:∀b u,h.get? b=some u->h'.get? b=some u):Un fs ex H H h h':=
  ⟨fun b ob q _ _ _=>k b ob q,fun b ob q _ _ _=>⟨ob.slots,k b ob q⟩,fun _ _ _ n _=>n,fun b ob q _=>⟨ob,k b ob q⟩,fun _ _ q=>q,fun _ _ _ q=>q,fun _ ps q=>⟨#[],by rw[q];simp⟩⟩
theorem Un.refl:Un fs ex H H h h:=Un.kept fun _ _ q=>q
theorem Un.laid (k:∀b u,h.get? b=some u->h'.get? b=some u) (hp:h.objs.size<=a) (hn:H a=none):Un fs ex H (upd H a o) h h' where
  keep:=fun b u q _ _ _=>k b u q
  slot:=fun b u q _ _ _=>⟨u.slots,k b u q⟩
  free:=fun b u q n _=>by rw[aJ (Nat.ne_of_lt (Nat.lt_of_lt_of_le (Heap.lt_size q) hp))];exact n
  there:=fun b u q _=>⟨u,k b u q⟩
  eW:=fun b xs q=>by rw[aJ (cI q hn)];exact q
  gE:=fun b u xs q=>by rw[aJ (cI q hn)];exact q
  gW:=fun b ps q=>⟨#[],by rw[aJ (cI q hn),q];simp⟩
theorem Un.write (mu:vF (H x)) (he:e=x\/H e=some (.own x)) (k:∀b u,b≠e->h.get? b=some u->h'.get? b=some u) (uE:∃u,h'.get? e=some u):Un fs ex H (upd H x o) h h':=by
  have hx:∀b,H b=none->b≠x:=fun b n z=>by subst z;rw[n] at mu;exact mu
  have hb:∀b,H b=none->b≠e:=fun b n z=>by
    subst z;rcases he with r | r
    · exact hx b n r
    · rw[n] at r;cases r
  have hm:∀b u,H b=some u->¬vF (some u)->b≠x:=fun b u q nm z=>by subst z;rw[q] at mu;exact nm mu
  refine⟨fun b u q n _ _=>k b u (hb b n) q,fun b u q n _ _=>⟨u.slots,k b u (hb b n) q⟩,fun b u q n _=>by rw[aJ (hx b n)];exact n,fun b u q _=>?_,
    fun b xs q=>by rw[aJ (hm b _ q fun z=>z)];exact q,fun b u xs q=>by rw[aJ (hm b _ q fun z=>z)];exact q,fun b ps q=>⟨#[],by rw[aJ (hm b _ q fun z=>z),q];simp⟩⟩
  by_cases qY:b=e
  · subst qY;exact uE
  · exact⟨u,k b u qY q⟩
end
def yU (h:Heap) (H:Hp):List Addr:=(List.range h.objs.size).filter fun a=>(H a).isSome
def jl (h:Heap) (H:Hp):Heap:=PySem.W.hideAll h (yU h H)
theorem Lq (h:Heap) (H:Hp):(jl h H).objs.size=h.objs.size:=PySem.W.hideAll_size _ _
theorem Lr {h:Heap}{H:Hp}{b:Addr}{o:Obj}(e:h.get? b=some o) (n:H b=none):(jl h H).get? b=some o:=
  PySem.W.hideAll_get _ e fun hm=>by
    have q:(H b).isSome=true:=(List.mem_filter.mp hm).2;rw[n] at q;simp at q
theorem Ls {h:Heap}{H:Hp}{b:Addr}{o:Obj}(e:(jl h H).get? b=some o):h.get? b=some o/\H b=none:=by
  have e':h.get? b=some o:=PySem.W.of_hideAll (yU h H) e;refine⟨e',?_⟩;cases q:H b with
  | none=>rfl
  | some x=>
    have hm:b∈yU h H:=List.mem_filter.mpr ⟨List.mem_range.mpr (Heap.lt_size e'),by simp[q]⟩;have z:(jl h H).get? b=none:=PySem.W.hideAll_none (yU h H) hm;rw[z] at e;cases e
def Lu (g h:Heap) (L:Addr):List (Addr×Obj):=(List.range h.objs.size).filterMap fun a=>if a=L\/(g.get? a).isSome=true then none else (h.get? a).map fun o=>(a,o)
def rest (g h:Heap) (L d:Addr):List (Addr×Obj):=(Lu g h L).filter fun p=>decide (p.1≠d)
structure Mod (K:PySem.W.Frag) (mg:Str->Option Value) (base:Heap):Prop where
  uG:K.In base
  glob:base.Ns mainGlobals mg
  blt:∃mb,base.Ns builtinsNs mb/\∀x:Str,x≠"__name__"->mb x=bootBuiltins x
  nolimit:base.NoLimit
structure Cx where
  prog:Program
  w:World
  K:PySem.W.Frag
  mg:Str->Option Value
  base:Heap
  A:Around
  N:List Str
  bw:Shared
  jM:Hp
  env:Env
  outer:List Env
  stack:List Env
  ex:List Addr
  fn:Str->Bool
  calm:Bool
  pn:List (Addr×Obj)
  xe:Value->Shared->Prop
def cR (l:List Env):List Addr:=l.filterMap (·.frame)
abbrev Cx.fs (X:Cx):List Addr:=cR X.outer
def Ba (sc:Scope) (x:Str):Prop:=sc.names.lookup x=some .local\/sc.names.lookup x=some .cell\/sc.names.lookup x=some .free
def Loc (sc:Scope) (x:Str):Prop:=sc.names.lookup x=some .local\/sc.names.lookup x=some .cell
def Look (env:Env) (h:Heap) (m:Str->Option Value) (x:Str) (u:Value):Prop:=
  (env.kindOf x=some .local/\m x=some u)\/((env.kindOf x=some .cell\/env.kindOf x=some .free)/\∃c,env.cells.lookup x=some c/\h.IsCell c (some u))
structure Cx.Ok (X:Cx):Prop where
  mod:Mod X.K X.mg X.base
  kind:X.env.scope.kind = .function
  glob:X.env.globals=mainGlobals
  blt:X.env.builtins=builtinsNs
  above:X.bw.heap.objs.size<=X.env.locals
  inj:∀x y c,X.env.cells.lookup x=some c->X.env.cells.lookup y=some c->x=y
  has:∀x,(X.env.kindOf x=some .cell\/X.env.kindOf x=some .free)->∃c,X.env.cells.lookup x=some c
  qZ:∀x c,X.fn x=true->X.env.cells.lookup x=some c->X.bw.heap.objs.size<=c
  hd:X.calm=true->X.A.handled=none
  frames:X.A.frames=some X.stack
  ri:X.stack=X.outer\/(X.stack=X.env::X.outer/\X.env.frame=some X.env.locals)
  yV:∀b∈X.ex,b≠X.env.locals/\∀x c,X.env.cells.lookup x=some c->c≠b
  bs:∀b o,X.base.get? b=some o->X.bw.heap.get? b=some o/\X.jM b=none
  mj:X.base.objs.size<=X.bw.heap.objs.size
  jN:∀b o,X.base.get? b=some o->b ∉ X.ex
  lO:∀b∈X.ex,b ∉ X.fs
  fW:X.bw.heap.FunFrames X.base X.outer
  oJ:∀b∈X.fs,X.jM b=none
structure Inv (X:Cx) (pins:List (Addr×Obj)) (σ:List (Option V)) (H:Hp) (s:Shared):Prop where
  ok:X.Ok
  os:s.os=X.bw.os
  bare:AllBare s.gens
  base:Un X.fs X.ex X.jM H X.bw.heap s.heap
  loc:∃m,s.heap.Ns X.env.locals m/\∀(i:Nat) (x:Str) (v:V),X.N[i]? = some x->σ[i]? = some (some v)->Ba X.env.scope x->∃u,RelV v u/\Look X.env s.heap m x u
  cell:∀x c,X.env.cells.lookup x=some c->∃v,s.heap.IsCell c v
  free:H X.env.locals=none
  cF:∀x c,X.env.cells.lookup x=some c->H c=none
  pin:∀p∈X.pn++pins,s.heap.get? p.1=some p.2/\H p.1=none/\p.1≠X.env.locals/\p.1 ∉ X.fs/\∀v,p.2.data≠.cell v
  aF:fq X.prog X.w H s.heap
  len:σ.length=X.N.length
section
variable {X:Cx}{pins:List (Addr×Obj)}{σ:List (Option V)}{H H':Hp}{s:Shared}{h':Heap}
theorem Cx.Ok.Bb (ok:X.Ok) {b:Addr}{o:Obj}(e:X.base.get? b=some o):b ∉ X.fs:=fun hb=>by
  have:=(ok.fW.mem hb).1;rw[e] at this;cases this
theorem Inv.bs (I:Inv X pins σ H s):∀b o,X.base.get? b=some o->s.heap.get? b=some o/\H b=none:=fun b o e=>
  ⟨I.base.keep b o (I.ok.bs b o e).1 (I.ok.bs b o e).2 (I.ok.Bb e) (I.ok.jN b o e),I.base.free b o (I.ok.bs b o e).1 (I.ok.bs b o e).2 (I.ok.jN b o e)⟩
theorem Inv.bk (I:Inv X pins σ H s):∀b o,X.base.get? b=some o->s.heap.get? b=some o:=fun b o e=>(I.bs b o e).1
theorem Inv.mod (I:Inv X pins σ H s):Mod X.K X.mg X.base:=I.ok.mod
theorem Inv.cS (I:Inv X pins σ H s):X.K.In s.heap:=I.ok.mod.uG.keeps I.bk
theorem Inv.lt (I:Inv X pins σ H s):X.env.locals<s.heap.objs.size:=let ⟨_,hn,_⟩:=I.loc;hn.lt
theorem Inv.sz (I:Inv X pins σ H s):X.bw.heap.objs.size<=s.heap.objs.size:=Nat.le_trans I.ok.above (Nat.le_of_lt I.lt)
theorem Inv.Bc (I:Inv X pins σ H s) {a:Addr}(h:s.heap.objs.size<=a):a ∉ X.fs:=fun hb=>by
  obtain⟨_,o,ho,_⟩:=I.ok.fW.mem hb;exact absurd (Nat.lt_of_lt_of_le (Heap.lt_size ho) (Nat.le_trans I.sz h)) (Nat.lt_irrefl _)
theorem Inv.mS (I:Inv X pins σ H s):∀x c,X.env.cells.lookup x=some c->c≠X.env.locals:=fun x c e z=>by
  obtain⟨v,o,ho,hd⟩:=I.cell x c e;obtain⟨m,⟨o',es,ep,mT,k8,_⟩,_⟩:=I.loc;rw[z,mT] at ho;cases ho;rw[k8] at hd;cases hd
theorem Inv.fW (I:Inv X pins σ H s):s.heap.FunFrames X.base X.outer:=by
  have all:∀(l:List Env),(∀b∈cR l,b∈X.fs)->X.bw.heap.FunFrames X.base l->s.heap.FunFrames X.base l:=by
    intro l
    induction l with
    | nil=>intro _ _;trivial
    | cons env r ih=>
      intro hs hl;obtain⟨hk,⟨L,o,hf,hn,ho,hd⟩,hr⟩:=hl;have hL:L∈X.fs:=hs L (by unfold cR;rw[List.filterMap_cons,hf];exact List.mem_cons_self);obtain⟨sl,e⟩:=I.base.slot L o ho (I.ok.oJ L hL) hL fun z=>I.ok.lO L z hL
      exact⟨hk,⟨L,_,hf,hn,e,hd⟩,ih (fun b hb=>hs b (by unfold cR;rw[List.filterMap_cons,hf];exact List.mem_cons_of_mem _ hb)) hr⟩
  exact all X.outer (fun _ hb=>hb) I.ok.fW
theorem Inv.stack (I:Inv X pins σ H s):s.heap.FunFrames X.base X.stack:=by
  rcases I.ok.ri with e | ⟨e,hf⟩
  · rw[e];exact I.fW
  · rw[e];obtain⟨m,hn,_⟩:=I.loc;refine .cons (by rw[I.ok.kind];decide) hf hn ?_ I.fW;exact Heap.get?_none_of_le (Nat.le_trans I.ok.mj I.ok.above)
theorem Inv.iD (I:Inv X pins σ H s):∀b∈cR X.stack,b∈X.env.locals::X.fs:=fun b hb=>by
  rcases I.ok.ri with e | ⟨e,hf⟩
  · rw[e] at hb;exact List.mem_cons_of_mem _ hb
  · rw[e] at hb;unfold cR at hb;rw[List.filterMap_cons,hf] at hb;exact hb
theorem Inv.iz (I:Inv X pins σ H s):∀b∈cR X.stack,H b=none:=fun b hb=>by
  rcases List.mem_cons.mp (I.iD b hb) with e | hb
  · rw[e];exact I.free
  · obtain⟨_,o,ho,_⟩:=I.ok.fW.mem hb;exact I.base.free b o ho (I.ok.oJ b hb) fun z=>I.ok.lO b z hb
theorem Inv.step {g':Array GenState}{t':Nat}{d':Drawn}{ch:List Addr}(I:Inv X pins σ H s)
    (nS:∀b∈ch,(b∈X.ex\/X.bw.heap.objs.size<=b)/\b≠X.env.locals/\(∀x c,X.env.cells.lookup x=some c->c≠b)/\∀p∈X.pn++pins,p.1≠b)
    (keep:∀b o,b≠X.env.locals->b ∉ X.fs->b ∉ ch->s.heap.get? b=some o->H b=none->h'.get? b=some o)
    (slot:∀b o,b≠X.env.locals->b∈X.fs->b ∉ ch->s.heap.get? b=some o->H b=none->∃sl,h'.get? b=some { o with slots:=sl }) (free:∀b o,b ∉ ch->s.heap.get? b=some o->H b=none->H' b=none)
    (there:∀b o,b ∉ ch->s.heap.get? b=some o->∃o',h'.get? b=some o')
    (eW:∀b xs,H b=some (.tup xs)->H' b=some (.tup xs)) (gE:∀b o u,H b=some (.k7 o u)->H' b=some (.k7 o u)) (gW:∀b ps,H b=some (.qW ps)->∃more,H' b=some (.qW (ps++more)))
    (ns:∀m,s.heap.Ns X.env.locals m->h'.Ns X.env.locals m) (aF:fq X.prog X.w H' h') (hg:AllBare g') :
    Inv X pins σ H' { s with heap:=h',gens:=g',drawn:=d',toks:=t' }:=by
  have EX:∀b o,X.bw.heap.get? b=some o->b≠X.env.locals:=fun b o e=>Nat.ne_of_lt (Nat.lt_of_lt_of_le (Heap.lt_size e) I.ok.above)
  have yW:∀b o,X.bw.heap.get? b=some o->b ∉ X.ex->b ∉ ch:=fun b o e hx hb=>by
    rcases (nS b hb).1 with z | z
    · exact hx z
    · exact absurd (Nat.lt_of_lt_of_le (Heap.lt_size e) z) (Nat.lt_irrefl _)
  have cellK:∀x c,X.env.cells.lookup x=some c->∀v,s.heap.IsCell c v->h'.IsCell c v:=fun x c e v ⟨o,ho,hd⟩=>by
    have vH:c ∉ ch:=fun z=>(nS c z).2.2.1 x c e rfl
    by_cases hc:c∈X.fs
    · obtain⟨sl,q⟩:=slot c o (I.mS x c e) hc vH ho (I.cF x c e);exact⟨_,q,hd⟩
    · exact⟨o,keep c o (I.mS x c e) hc vH ho (I.cF x c e),hd⟩
  refine⟨I.ok,I.os,hg,⟨fun b o e n hb hx=>?_,fun b o e n hb hx=>?_,fun b o e n hx=>?_,fun b o e hx=>?_,fun b xs e=>eW b xs (I.base.eW b xs e),fun b o xs e=>gE b o xs (I.base.gE b o xs e),fun b ps e=>?_⟩,?_,fun x c e=>?_,?_,fun x c e=>?_,fun p hp=>?_,aF,I.len⟩
  · exact keep b o (EX b o e) hb (yW b o e hx) (I.base.keep b o e n hb hx) (I.base.free b o e n hx)
  · obtain⟨sl,e1⟩:=I.base.slot b o e n hb hx;obtain⟨rj,e2⟩:=slot b _ (EX b o e) hb (yW b o e hx) e1 (I.base.free b o e n hx);exact⟨rj,e2⟩
  · obtain⟨o',e1⟩:=I.base.there b o e hx;exact free b o' (yW b o e hx) e1 (I.base.free b o e n hx)
  · obtain⟨o',e1⟩:=I.base.there b o e hx;exact there b o' (yW b o e hx) e1
  · obtain⟨m1,e1⟩:=I.base.gW b ps e;obtain⟨m2,e2⟩:=gW b _ e1;exact⟨m1++m2,by rw[e2,Array.append_assoc]⟩
  · obtain⟨m,hn,hl⟩:=I.loc;refine⟨m,ns m hn,fun i x v e1 e2 e3=>?_⟩;obtain⟨u,r,l⟩:=hl i x v e1 e2 e3;refine⟨u,r,?_⟩;rcases l with l | ⟨k,c,e,z⟩
    · exact .inl l
    · exact .inr ⟨k,c,e,cellK x c e _ z⟩
  · obtain⟨v,z⟩:=I.cell x c e;exact⟨v,cellK x c e v z⟩
  · obtain⟨m,⟨o,_,_,ho,_⟩,_⟩:=I.loc;exact free _ o (fun z=>(nS _ z).2.1 rfl) ho I.free
  · obtain⟨v,o,ho,hd⟩:=I.cell x c e;exact free c o (fun z=>(nS c z).2.2.1 x c e rfl) ho (I.cF x c e)
  · obtain⟨e,n,ne,nf,d⟩:=I.pin p hp;have vH:p.1 ∉ ch:=fun z=>(nS p.1 z).2.2.2 p hp rfl
    exact⟨keep p.1 p.2 ne nf vH e n,free p.1 p.2 vH e n,ne,nf,d⟩
theorem Inv.un {t':Nat}(I:Inv X pins σ H s) (u:Un X.fs [] H H' s.heap h') (aF:fq X.prog X.w H' h'):Inv X pins σ H' { s with heap:=h',toks:=t' }:=by
  obtain⟨m,⟨o,es,ep,ho,r⟩,_⟩:=id I.loc;obtain⟨sl,hL⟩:=u.any ho I.free (by simp);exact I.step (g':=s.gens) (d':=s.drawn) (ch:=[]) (fun _ z=>nomatch z) (fun b o _ hb _ e n=>u.keep b o e n hb (by simp)) (fun b o _ hb _ e n=>u.slot b o e n hb (by simp)) (fun b o _ e n=>u.free b o e n (by simp)) (fun b o _ e=>u.there b o e (by simp)) u.eW u.gE u.gW (fun m' hm=>by
    obtain⟨o',Bd,Be,mT,r'⟩:=hm;rw[ho] at mT;cases mT;exact⟨_,Bd,Be,hL,r'⟩) aF I.bare
theorem Inv.call {g':Array GenState}{t':Nat}{d':Drawn}{ch:List Addr}(I:Inv X pins σ H s) (u:Un (cR X.stack) ch H H' s.heap h') (aF:fq X.prog X.w H' h') (hg:AllBare g')
    (nS:∀b∈ch,(b∈X.ex\/X.bw.heap.objs.size<=b)/\b≠X.env.locals/\(∀x c,X.env.cells.lookup x=some c->c≠b)/\∀p∈X.pn++pins,p.1≠b) :
    Inv X pins σ H' { s with heap:=h',gens:=g',drawn:=d',toks:=t' }:=by
  obtain⟨m,⟨o,es,ep,ho,r⟩,_⟩:=id I.loc;obtain⟨sl,hL⟩:=u.any ho I.free fun z=>(nS _ z).2.1 rfl
  exact I.step (ch:=ch) nS (fun b o hL hb hc e n=>u.keep b o e n (fun z=>(List.mem_cons.mp (I.iD b z)).elim hL hb) hc) (fun b o _ _ hc e n=>u.any e n hc) (fun b o hc e n=>u.free b o e n hc) (fun b o hc e=>u.there b o e hc) u.eW u.gE u.gW (fun m' hm=>by
    obtain⟨o',Bd,Be,mT,r'⟩:=hm;rw[ho] at mT;cases mT;exact⟨_,Bd,Be,hL,r'⟩) aF hg
theorem Inv.turned {t':Nat}{it:Addr}(I:Inv X pins σ H s) (k:∀b o,b≠it->s.heap.get? b=some o->h'.get? b=some o) (hn:H it=none) (hL:it≠X.env.locals)
    (h1:it∈X.ex\/X.bw.heap.objs.size<=it) (h2:∀x c,X.env.cells.lookup x=some c->c≠it) (h3:∀p∈X.pn++pins,p.1≠it):Inv X pins σ H { s with heap:=h',toks:=t' }:=by
  have pY:∀b u,H b=some u->b≠it:=fun b u e z=>by rw[z,hn] at e;cases e
  refine I.step (g':=s.gens) (d':=s.drawn) (ch:=[it]) (fun b hb=>?_) (fun b o _ _ hc e _=>k b o (fun z=>hc (by simp[z])) e) (fun b o _ _ hc e _=>⟨o.slots,k b o (fun z=>hc (by simp[z])) e⟩) (fun _ _ _ _ n=>n)
    (fun b o hc e=>⟨o,k b o (fun z=>hc (by simp[z])) e⟩) (fun _ _ e=>e) (fun _ _ _ e=>e) (fun b ps e=>⟨#[],by rw[e];simp⟩) (fun m hm=>?_) (fun b u e=>?_) I.bare
  · have e:b=it:=by simpa using hb
    subst e;exact⟨h1,hL,h2,h3⟩
  · obtain⟨o,es,ep,ho,r⟩:=hm;exact⟨o,es,ep,k _ o (Ne.symm hL) ho,r⟩
  · refine (I.aF b u e).bH (fun c v hc q=>k c v ?_ q) (fun _ q=>q) fun _ _ q=>q
    rcases hc with z | z
    · rw[z];exact pY b u e
    · exact pY c _ z
theorem Inv.tok (I:Inv X pins σ H s) (t:Nat):Inv X pins σ H { s with toks:=t }:=I.un (h':=s.heap) (t':=t) Un.refl I.aF
theorem Inv.kept {t':Nat}(I:Inv X pins σ H s) (k:∀b u,s.heap.get? b=some u->h'.get? b=some u):Inv X pins σ H { s with heap:=h',toks:=t' }:=I.un (Un.kept k) (I.aF.kept k)
theorem Inv.laid {a:Addr}{o:HO}{t':Nat}(I:Inv X pins σ H s) (k:∀b u,s.heap.get? b=some u->h'.get? b=some u) (hp:s.heap.objs.size<=a) (new:aH X.prog X.w (upd H a o) h' a o) :
    Inv X pins σ (upd H a o) { s with heap:=h',toks:=t' }:=I.un (Un.laid k hp (I.aF.fresh hp)) (I.aF.laid k hp new)
theorem Inv.write {x e:Addr}{o:HO}{t':Nat}(I:Inv X pins σ H s) (mu:vF (H x)) (he:e=x\/H e=some (.own x)) (k:∀b u,b≠e->s.heap.get? b=some u->h'.get? b=some u) (uE:∃u,h'.get? e=some u)
    (new:aH X.prog X.w (upd H x o) h' x o):Inv X pins σ (upd H x o) { s with heap:=h',toks:=t' }:=I.un (Un.write mu he k uE) (I.aF.write mu he k uE new)
theorem Inv.k9 {jO:List (Addr×Obj)}(I:Inv X pins σ H s) (h:∀p∈jO,s.heap.get? p.1=some p.2/\H p.1=none/\p.1≠X.env.locals/\p.1 ∉ X.fs/\∀v,p.2.data≠.cell v):Inv X jO σ H s:=
  ⟨I.ok,I.os,I.bare,I.base,I.loc,I.cell,I.free,I.cF,fun p hp=>(List.mem_append.mp hp).elim (fun z=>I.pin p (List.mem_append_left _ z)) (h p),I.aF,I.len⟩
theorem Bf {N:List Str}(hN:N.Nodup) {i j:Nat}{x:Str}(a:N[i]? = some x) (b:N[j]? = some x):i=j:=by
  obtain⟨h1,e1⟩:=List.getElem?_eq_some_iff.mp a;obtain⟨h2,e2⟩:=List.getElem?_eq_some_iff.mp b;exact (List.getElem_inj hN).mp (e1.trans e2.symm)
theorem Bg {M:Model}{A:Around}{E:Value->Shared->Prop}{i:Nat}{x:Str}{v:V}{u:Value}{Q:Unit->Shared->Prop}(I:Inv X pins σ H s) (hN:X.N.Nodup) (hi:X.N[i]? = some x) (hx:Loc X.env.scope x) (r:RelV v u)
    (h:∀s',Inv X pins (σ.set i (some v)) H s'->(∃a,Heap.SameBut a s.heap s'.heap/\(a=X.env.locals\/X.env.cells.lookup x=some a))->Q () s') (hf:X.fn x=true\/X.env.scope.names.lookup x=some .local:=by first | exact .inl rfl | exact .inr rfl | assumption):wpAny M A (storeName X.env x u) Q E s:=by
  obtain⟨m,hn,hl⟩:=id I.loc;have rm:(X.env.scope.kind == .class||(X.env.scope.kind == .module&&X.env.locals != X.env.globals))=false:=by rw[I.ok.kind];rfl
  have vJ:i<σ.length:=by rw[I.len];exact (List.getElem?_eq_some_iff.mp hi).1
  have mS:=I.mS;have tracked:∀{a:Addr}{h':Heap},(∃o,s.heap.get? a=some o/\H a=none)->Heap.SameBut a s.heap h'->fq X.prog X.w H h':=fun {a h'} ha hs b ob e=>by
    obtain⟨_,_,pZ⟩:=ha;refine (I.aF b ob e).bH (fun c w' hc q=>(hs.2 c ?_).trans q) (fun _ q=>q) fun _ _ q=>q
    rintro rfl;rcases hc with rfl | hc
    · rw[pZ] at e;cases e
    · rw[pZ] at hc;cases hc
  rcases hx with hk | hk
  · refine wpAny_storeName_local hk hn (fun h' qa hs=>?_) rm;obtain⟨oL,_,_,EY,_⟩:=id hn;refine h _ ⟨I.ok,I.os,I.bare,⟨fun b o e n hb hx=>?_,fun b o e n hb hx=>?_,I.base.free,fun b o e hx=>?_,I.base.eW,I.base.gE,I.base.gW⟩,⟨_,qa,fun j y v' e1 e2 e3=>?_⟩,fun y c e=>?_,I.free,I.cF,fun p hp=>?_,tracked ⟨oL,EY,I.free⟩ hs,by simpa using I.len⟩ ⟨_,hs,.inl rfl⟩
    · exact (hs.2 b (Nat.ne_of_lt (Nat.lt_of_lt_of_le (Heap.lt_size e) I.ok.above))).trans (I.base.keep b o e n hb hx)
    · obtain⟨sl,e1⟩:=I.base.slot b o e n hb hx;exact⟨sl,(hs.2 b (Nat.ne_of_lt (Nat.lt_of_lt_of_le (Heap.lt_size e) I.ok.above))).trans e1⟩
    · obtain⟨o',e1⟩:=I.base.there b o e hx;exact⟨o',(hs.2 b (Nat.ne_of_lt (Nat.lt_of_lt_of_le (Heap.lt_size e) I.ok.above))).trans e1⟩
    · by_cases hj:j=i
      · subst hj;rw[hi] at e1;cases e1;rw[List.getElem?_set_self vJ] at e2;cases e2;exact⟨u,r,.inl ⟨hk,by simp⟩⟩
      · rw[List.getElem?_set_ne (Ne.symm hj)] at e2;obtain⟨u',r',q⟩:=hl j y v' e1 e2 e3;refine⟨u',r',?_⟩;rcases q with ⟨k,e⟩ | ⟨k,c,e,z⟩
        · refine .inl ⟨k,?_⟩;have:y≠x:=fun e=>hj (Bf hN e1 (e▸hi))
          simp[this,e]
        · exact .inr ⟨k,c,e,z.sameBut hs (mS y c e)⟩
    · obtain⟨w',z⟩:=I.cell y c e;exact⟨w',z.sameBut hs (mS y c e)⟩
    · obtain⟨e,n,ne,nf,d⟩:=I.pin p hp;exact⟨(hs.2 p.1 ne).trans e,n,ne,nf,d⟩
  · have Bh:X.fn x=true:=by
      rcases hf with z | z
      · exact z
      · rw[z] at hk;cases hk
    obtain⟨c,hc⟩:=I.ok.has x (.inl hk);obtain⟨w',z⟩:=I.cell x c hc;refine wpAny_storeName_cell I.ok.kind hk hc z (fun h' yX hs=>?_);obtain⟨oc,EZ,Bj⟩:=id z;refine h { s with heap:=h' } ⟨I.ok,I.os,I.bare,⟨fun b o e n hb hx=>?_,fun b o e n hb hx=>?_,I.base.free,fun b o e hx=>?_,I.base.eW,I.base.gE,I.base.gW⟩,⟨m,hn.sameBut hs (Ne.symm (mS x c hc)),fun j y v' e1 e2 e3=>?_⟩,fun y c' e=>?_,I.free,I.cF,fun p hp=>?_,tracked ⟨oc,EZ,I.cF x c hc⟩ hs,by simpa using I.len⟩ ⟨c,hs,.inr hc⟩
    · exact (hs.2 b (Nat.ne_of_lt (Nat.lt_of_lt_of_le (Heap.lt_size e) (I.ok.qZ x c Bh hc)))).trans (I.base.keep b o e n hb hx)
    · obtain⟨sl,e1⟩:=I.base.slot b o e n hb hx;exact⟨sl,(hs.2 b (Nat.ne_of_lt (Nat.lt_of_lt_of_le (Heap.lt_size e) (I.ok.qZ x c Bh hc)))).trans e1⟩
    · obtain⟨o',e1⟩:=I.base.there b o e hx;exact⟨o',(hs.2 b (Nat.ne_of_lt (Nat.lt_of_lt_of_le (Heap.lt_size e) (I.ok.qZ x c Bh hc)))).trans e1⟩
    · by_cases hj:j=i
      · subst hj;rw[hi] at e1;cases e1;rw[List.getElem?_set_self vJ] at e2;cases e2;exact⟨u,r,.inr ⟨.inl hk,c,hc,yX⟩⟩
      · rw[List.getElem?_set_ne (Ne.symm hj)] at e2;obtain⟨u',r',q⟩:=hl j y v' e1 e2 e3;refine⟨u',r',?_⟩;rcases q with q | ⟨k,c',e,z'⟩
        · exact .inl q
        · refine .inr ⟨k,c',e,z'.sameBut hs ?_⟩;rintro rfl;exact hj (Bf hN e1 (I.ok.inj _ _ _ e hc▸hi))
    · by_cases E2:c'=c
      · subst E2;exact⟨_,yX⟩
      · obtain⟨w2,z2⟩:=I.cell y c' e;exact⟨w2,z2.sameBut hs E2⟩
    · obtain⟨e,n,ne,nf,d⟩:=I.pin p hp;refine⟨(hs.2 p.1 ?_).trans e,n,ne,nf,d⟩;intro q;rw[q,EZ] at e;have q':oc=p.2:=Option.some.inj e;exact d w' (by rw[←q'];exact Bj)
theorem yY {M:Model}{A:Around}{E:Value->Shared->Prop}{i:Nat}{x:Str}{v:V}{u:Value}{Q:Unit->Shared->Prop}(I:Inv X pins σ H s) (hN:X.N.Nodup) (hi:X.N[i]? = some x) (hx:Loc X.env.scope x) (r:RelV v u)
    (h:∀s',Inv X pins (σ.set i (some v)) H s'->Q () s') (hf:X.fn x=true\/X.env.scope.names.lookup x=some .local:=by first | exact .inl rfl | exact .inr rfl | assumption):wpAny M A (storeName X.env x u) Q E s:=
  Bg I hN hi hx r (fun s' I' _=>h s' I') hf
theorem Inv.jP {s':Shared}{ch:List Addr}(I:Inv X pins σ H s) (ho:s'.os=s.os) (u:Un (cR X.stack) ch H H' s.heap s'.heap) (aF:fq X.prog X.w H' s'.heap) (hg:AllBare s'.gens)
    (nS:∀b∈ch,(b∈X.ex\/X.bw.heap.objs.size<=b)/\b≠X.env.locals/\(∀x c,X.env.cells.lookup x=some c->c≠b)/\∀p∈X.pn++pins,p.1≠b):Inv X pins σ H' s':=by
  obtain⟨h',g',d',t',o'⟩:=s';have e:o'=s.os:=ho;subst e;exact I.call (g':=g') (t':=t') (d':=d') u aF hg nS
end
abbrev XK:=Value->Option Addr->Hp->Prop
abbrev St:=List (Option V)
abbrev VK:=V->Hp->Prop
abbrev TE:=St->Hp->VK->Prop
abbrev TT:=St->Hp->(Bool->Hp->Prop)->Prop
abbrev TA:=St->Hp->(List V->Hp->Prop)->Prop
structure Ends where
  nx:St->Hp->Prop
  rt:VK
  bk:St->Hp->Prop:=fun _ _=>False
  ct:St->Hp->Prop:=fun _ _=>False
abbrev TS:=Ends->St->Hp->Prop
def EP (X:Cx) (pins:List (Addr×Obj)) (σ:St) (Q:VK) (u:Value) (s':Shared):Prop:=∃v H',Inv X pins σ H' s'/\RelV v u/\Q v H'
def TP (X:Cx) (pins:List (Addr×Obj)) (σ:St) (Q:Bool->Hp->Prop) (b:Bool) (s':Shared):Prop:=∃H',Inv X pins σ H' s'/\Q b H'
def AP (X:Cx) (pins:List (Addr×Obj)) (σ:St) (Q:List V->Hp->Prop) (us:List Value) (s':Shared):Prop:=∃vs H',Inv X pins σ H' s'/\Vals vs us/\Q vs H'
def SP (X:Cx) (pins:List (Addr×Obj)) (D:Ends) (f:Flow) (s':Shared):Prop:=
  match f with
  | .next=>∃au H',Inv X pins au H' s'/\D.nx au H'
  | .brk=>∃au H',Inv X pins au H' s'/\D.bk au H'
  | .cont=>∃au H',Inv X pins au H' s'/\D.ct au H'
  | .ret u=>∃v au H',Inv X pins au H' s'/\RelV v u/\D.rt v H'
def PE (X:Cx) (e:Expr) (t:TE):Prop:=
  ∀(pins:List (Addr×Obj)) (s:Shared) (σ:St) (H:Hp) (Q:VK),Inv X pins σ H s->t σ H Q->wpAny (model X.prog X.w) X.A (eval e X.env) (EP X pins σ Q) X.xe s
def PT (X:Cx) (e:Expr) (t:TT):Prop:=
  ∀(pins:List (Addr×Obj)) (s:Shared) (σ:St) (H:Hp) (Q:Bool->Hp->Prop),Inv X pins σ H s->t σ H Q->wpAny (model X.prog X.w) X.A (isTrue e X.env (eval e X.env)) (TP X pins σ Q) X.xe s
def PW (X:Cx) (e:Expr) (t:TT):Prop:=
  ∀(whole:Sem Value) (pins:List (Addr×Obj)) (s:Shared) (σ:St) (H:Hp) (Q:Bool->Hp->Prop),Inv X pins σ H s->t σ H Q->wpAny (model X.prog X.w) X.A (isTrue e X.env whole) (TP X pins σ Q) X.xe s
theorem PW.pt {X:Cx}{e:Expr}{t:TT}(h:PW X e t):PT X e t:=h _
def PA (X:Cx) (es:List Expr) (t:TA):Prop:=
  ∀(pos:Pos) (pins:List (Addr×Obj)) (s:Shared) (σ:St) (H:Hp) (Q:List V->Hp->Prop),Inv X pins σ H s->t σ H Q->wpAny (model X.prog X.w) X.A (spliced (backTo pos (starEach es X.env))) (AP X pins σ Q) X.xe s
def PS (X:Cx) (st:Stmt) (t:TS):Prop:=
  ∀(pins:List (Addr×Obj)) (s:Shared) (σ:St) (H:Hp) (D:Ends),Inv X pins σ H s->t D σ H->wpAny (model X.prog X.w) X.A (exec st X.env) (SP X pins D) X.xe s
def jm (X:Cx) (st:List Stmt) (t:TS):Prop:=
  ∀(pins:List (Addr×Obj)) (s:Shared) (σ:St) (H:Hp) (D:Ends),Inv X pins σ H s->t D σ H->wpAny (model X.prog X.w) X.A (execs st X.env) (SP X pins D) X.xe s
theorem aM {α:Type}{t:Sem α}{Q Q':α->Shared->Prop}{M:Model}{A:Around}{E:Value->Shared->Prop}{s:Shared}(h:wpAny M A t Q E s) (hQ:∀a s,Q a s->Q' a s):wpAny M A t Q' E s:=wpAny_mono h hQ fun _ _ x=>x
section
variable {X:Cx}
theorem bin {a b:Expr}{ta tb:TE}(ha:PE X a ta) (hb:PE X b tb) {pins:List (Addr×Obj)}{s:Shared}{σ:St}{H:Hp}{R:V->V->Hp->Prop}(I:Inv X pins σ H s) (h:ta σ H fun x H1=>tb σ H1 fun y H2=>R x y H2)
    {α:Type}{Q:α->Shared->Prop}{f:Value->Value->Sem α}
    (hf:∀v u s2 x y H2,Inv X pins σ H2 s2->RelV x v->RelV y u->R x y H2->wpAny (model X.prog X.w) X.A (f v u) Q X.xe s2) :
    wpAny (model X.prog X.w) X.A (eval a X.env) (fun v aI=>wpAny (model X.prog X.w) X.A (eval b X.env) (fun u dW=>wpAny (model X.prog X.w) X.A (f v u) Q X.xe dW) X.xe aI) X.xe s:=by
  refine aM (ha pins s σ H _ I h) fun v s1 aE=>?_
  obtain⟨x,H1,I1,r1,q1⟩:=aE;refine aM (hb pins s1 σ H1 _ I1 q1) fun u s2 aE=>?_
  obtain⟨y,H2,I2,r2,q2⟩:=aE;exact hf v u s2 x y H2 I2 r1 r2 q2
def cJ (i:Nat):TE:=fun σ H Q=>∃v,σ[i]? = some (some v)/\Q v H
def tC (v:V):TE:=fun _ H Q=>Q v H
theorem Lv {i:Nat}{x:Str}{pos:Pos}(hN:X.N[i]? = some x) (hv:Ba X.env.scope x) (hd:(x == ("__debug__" : Str))=false:=by decide) (jo:(x == ("__classdict__" : Str))=false:=by decide):PE X (.Name x pos) (cJ i):=by
  intro pins s σ H Q I h;obtain⟨v,e,h⟩:=h;obtain⟨m,hn,hl⟩:=I.loc;obtain⟨u,r,l⟩:=hl i x v hN e hv;have fin:EP X pins σ Q u s:=⟨v,H,I,r,h⟩;rcases l with ⟨hk,hm⟩ | ⟨hk,c,hc,qb⟩
  · exact wpAny_Name (wpAny_loadName_local I.ok.kind hk hn hm fin) hd
  · rcases hk with hk | hk
    · exact wpAny_Name (wpAny_loadName_cell I.ok.kind hk hc qb fin) hd
    · exact wpAny_Name (wpAny_loadName_free I.ok.kind hk hc qb fin jo) hd
theorem zr {i j pos}:PE X (.Constant (.int i) j pos) (tC (.int i)):=fun _ _ _ H _ I h=>wpAny_Constant_int ⟨.int i,H,I.tok _,⟨_,rfl⟩,h⟩
theorem mq {b j pos}:PE X (.Constant (.bool b) j pos) (tC (.bl b)):=fun _ _ _ H _ I h=>Constant_bool ⟨.bl b,H,I,rfl,h⟩
theorem vK {j pos}:PE X (.Constant .none j pos) (tC .aL):=fun _ _ _ H _ I h=>Constant_none ⟨.aL,H,I,rfl,h⟩
theorem zp {x j pos}:PE X (.Constant (.str x) j pos) (tC (.str x)):=fun _ _ _ H _ I h=>Calls.Constant_str ⟨.str x,H,I.tok _,⟨_,rfl⟩,h⟩
def Gl (X:Cx) (x:Str):Prop:=X.env.kindOf x=some .globalImplicit
theorem nU {E:Value->Shared->Prop}{pins:List (Addr×Obj)}{s:Shared}{σ:St}{H:Hp}{x:Str}{u:Value}{pos:Pos}{Q:Value->Shared->Prop}(I:Inv X pins σ H s) (hg:Gl X x) (hm:X.mg x=some u) (h:Q u s)
    (hd:(x == ("__debug__" : Str))=false:=by decide):wpAny (model X.prog X.w) X.A (eval (.Name x pos) X.env) Q E s:=
  Calls.Name_function_global I.ok.kind hg (Calls.loadGlobal_global (by rw[I.ok.glob];exact I.mod.glob.keeps I.bk) hm h) hd
theorem uH {E:Value->Shared->Prop}{pins:List (Addr×Obj)}{s:Shared}{σ:St}{H:Hp}{x:Str}{u:Value}{pos:Pos}{Q:Value->Shared->Prop}(I:Inv X pins σ H s) (hg:Gl X x) (hm:X.mg x=none) (hv:bootBuiltins x=some u) (h:Q u s)
    (hn:x≠"__name__":=by decide) (hd:(x == ("__debug__" : Str))=false:=by decide):wpAny (model X.prog X.w) X.A (eval (.Name x pos) X.env) Q E s:=by
  obtain⟨mb,h1,h2⟩:=I.mod.blt;exact Calls.Name_function_global I.ok.kind hg (Calls.loadGlobal_builtin (by rw[I.ok.glob];exact I.mod.glob.keeps I.bk) hm (by rw[I.ok.blt];exact h1.keeps I.bk) ((h2 x hn).trans hv) h) hd
theorem jQ {x:Str}{v:V}{u:Value}{pos:Pos}(hg:Gl X x) (hm:X.mg x=some u) (r:RelV v u) (hd:(x == ("__debug__" : Str))=false:=by decide):PE X (.Name x pos) (tC v):=
  fun _ _ _ H _ I h=>nU I hg hm ⟨v,H,I,r,h⟩ hd
theorem vL {x:Str}{v:V}{u:Value}{pos:Pos}(hg:Gl X x) (hm:X.mg x=none) (hv:bootBuiltins x=some u) (r:RelV v u) (hn:x≠"__name__":=by decide) (hd:(x == ("__debug__" : Str))=false:=by decide):PE X (.Name x pos) (tC v):=
  fun _ _ _ H _ I h=>uH I hg hm hv ⟨v,H,I,r,h⟩ hn hd
variable {a b:Expr}{ta tb:TE}{pos:Pos}
def PC (X:Cx) (op:CmpOp) (a b:Expr) (t:TE):Prop:=
  ∀(pins:List (Addr×Obj)) (s:Shared) (σ:St) (H:Hp) (Q:VK),Inv X pins σ H s->t σ H Q->
    wpAny (model X.prog X.w) X.A (eval a X.env) (fun v aI=>wpAny (model X.prog X.w) X.A (eval b X.env) (fun u dW=>wpAny (model X.prog X.w) X.A (compareOp op v u) (EP X pins σ Q) X.xe dW) X.xe aI) X.xe s
theorem E3 (b:Expr) {op:CmpOp}(h:op≠.In) (h2:op≠.NotIn):behindInMarks op b=false:=by
  have e1:(op == CmpOp.In)=false:=by cases op<;>first | rfl | exact absurd rfl h
  have e2:(op == CmpOp.NotIn)=false:=by cases op<;>first | rfl | exact absurd rfl h2
  cases b<;>simp[behindInMarks,e1,e2]
def Bk (ta:TE):TE:=fun σ H Q=>ta σ H fun x H1=>Q (.bl (decide (x = .aL))) H1
theorem RelV.mU {x:V}{v:Value}(r:RelV x v):(v == Value.none)=decide (x = .aL):=by
  cases x with
  | aL=>cases r;rfl
  | bl _=>cases r;rfl
  | int _=>obtain⟨t,rfl⟩:=r;rfl
  | str _=>obtain⟨t,rfl⟩:=r;rfl
  | lN _=>obtain⟨t,rfl⟩:=r;rfl
  | pX _=>obtain⟨t,rfl⟩:=r;rfl
  | ref _=>cases r;rfl
  | ty _=>cases r;rfl
theorem uI {j pos'}(ha:PE X a ta):PC X .Is a (.Constant .none j pos') (Bk ta):=by
  intro pins s σ H Q I h;refine aM (ha pins s σ H _ I h) fun v s1 aE=>?_
  obtain⟨x,H1,I1,r1,q1⟩:=aE;exact Constant_none (is_none_gen ⟨.bl _,H1,I1,by rw[r1.mU];rfl,q1⟩)
def tB (t:TE):TT:=fun σ H Q=>t σ H fun x H1=>∃c,x = .bl c/\Q c H1
theorem E4 {op:CmpOp}{t:TE}(h:PC X op a b t) (h1:behindInMarks op b=false:=by first | exact E3 _ (by decide) (by decide) | rfl):PE X (.Compare a [op] [b] pos) t:=fun pins s σ H Q I hw=>wpAny_Compare1 (h pins s σ H Q I hw) h1
theorem lq {op:CmpOp}{t:TE}(h:PC X op a b t) (h1:behindInMarks op b=false:=by first | exact E3 _ (by decide) (by decide) | rfl):PT X (.Compare a [op] [b] pos) (tB t):=by
  intro pins s σ H Q I hw;refine wpAny_isTrue_Compare1 (aM (h pins s σ H _ I hw) fun v s1 h1=>aM h1 fun u s2 h2=>aM h2 fun c s3 aE=>?_) h1;obtain⟨x,H1,I1,r1,q1⟩:=aE;obtain⟨d,rfl,q⟩:=q1;cases r1;exact wpAny_truthy_bool ⟨H1,I1,q⟩
theorem ly {e:Expr}{t:TE}(h:PE X e t) (he:∀whole,isTrue e X.env whole=(do let v ←whole;standAt e.pos;holding [v] (truthy v)):=by intro _;rfl):PT X e (tB t):=by
  intro pins s σ H Q I hw;refine isTrue_plain (aM (h pins s σ H _ I hw) fun v s1 aE=>?_) (he _);obtain⟨x,H1,I1,r1,q1⟩:=aE;obtain⟨d,rfl,q⟩:=q1;cases r1;exact wpAny_truthy_bool ⟨H1,I1,q⟩
variable {tA yZ:TT}{rest:List Expr}
def Bl (t u:TT):TT:=fun σ H Q=>t σ H fun c H1=>if c=true then u σ H1 Q else Q false H1
def Lw (t u:TT):TT:=fun σ H Q=>t σ H fun c H1=>if c=true then Q true H1 else u σ H1 Q
def Bm (t:TT):TT:=fun σ H Q=>t σ H fun c H1=>Q (!c) H1
theorem qc (ha:PT X a tA):PW X (.BoolOp .And [a] pos) tA:=by
  intro wh pins s σ H Q I h;refine isTrue_and (aM (ha pins s σ H Q I h) fun c s1 e=>?_);cases c with
  | true=>exact isTrue_and_nil e
  | false=>exact e
theorem vM (ha:PT X a tA):PW X (.BoolOp .Or [a] pos) tA:=by
  intro wh pins s σ H Q I h;refine isTrue_or (aM (ha pins s σ H Q I h) fun c s1 e=>?_);cases c with
  | false=>exact isTrue_or_nil e
  | true=>exact e
theorem qd (ha:PT X a tA) (hb:PW X (.BoolOp .And (b::rest) pos) yZ):PW X (.BoolOp .And (a::b::rest) pos) (Bl tA yZ):=by
  intro wh pins s σ H Q I h;refine isTrue_and (aM (ha pins s σ H _ I h) fun c s1 aE=>?_);obtain⟨H1,I1,q1⟩:=aE;cases c with
  | true=>exact hb wh pins s1 σ H1 Q I1 q1
  | false=>exact⟨H1,I1,q1⟩
theorem rA (ha:PT X a tA) (hb:PW X (.BoolOp .Or (b::rest) pos) yZ):PW X (.BoolOp .Or (a::b::rest) pos) (Lw tA yZ):=by
  intro wh pins s σ H Q I h;refine isTrue_or (aM (ha pins s σ H _ I h) fun c s1 aE=>?_);obtain⟨H1,I1,q1⟩:=aE;cases c with
  | true=>exact⟨H1,I1,q1⟩
  | false=>exact hb wh pins s1 σ H1 Q I1 q1
theorem mw (ha:PT X a tA):PT X (.UnaryOp .Not a pos) (Bm tA):=by
  intro pins s σ H Q I h;exact isTrue_not (ha pins s σ H (fun c H1=>Q (!c) H1) I h)
def Lx (ta tb:TE):TE:=fun σ H Q=>ta σ H fun x H1=>∃c,x = .bl c/\if c=true then tb σ H1 Q else Q (.bl false) H1
def Bo (ta tb:TE):TE:=fun σ H Q=>ta σ H fun x H1=>∃c,x = .bl c/\if c=true then Q (.bl true) H1 else tb σ H1 Q
theorem E5 {op}{t:TE}(h:PE X a t):PE X (.BoolOp op [a] pos) t:=fun pins s σ H Q I hw=>BoolOp_one (h pins s σ H Q I hw)
theorem Ly (ha:PE X a ta) (hb:PE X (.BoolOp .And (b::rest) pos) tb):PE X (.BoolOp .And (a::b::rest) pos) (Lx ta tb):=by
  intro pins s σ H Q I h;refine BoolOp_and (aM (ha pins s σ H _ I h) fun v s1 aE=>?_);obtain⟨x,H1,I1,r1,q1⟩:=aE;obtain⟨c,rfl,q1⟩:=q1;cases r1;refine wpAny_truthy_bool ?_;cases c with
  | true=>exact hb pins s1 σ H1 Q I1 q1
  | false=>exact⟨.bl false,H1,I1,rfl,q1⟩
theorem Lz (ha:PE X a ta) (hb:PE X (.BoolOp .Or (b::rest) pos) tb):PE X (.BoolOp .Or (a::b::rest) pos) (Bo ta tb):=by
  intro pins s σ H Q I h;refine BoolOp_or (aM (ha pins s σ H _ I h) fun v s1 aE=>?_);obtain⟨x,H1,I1,r1,q1⟩:=aE;obtain⟨c,rfl,q1⟩:=q1;cases r1;refine wpAny_truthy_bool ?_;cases c with
  | false=>exact hb pins s1 σ H1 Q I1 q1
  | true=>exact⟨.bl true,H1,I1,rfl,q1⟩
def LA (t:TT) (ta tb:TE):TE:=fun σ H Q=>t σ H fun c H1=>if c=true then ta σ H1 Q else tb σ H1 Q
theorem LB {c:Expr}(hc:PT X c tA) (ha:PE X a ta) (hb:PE X b tb):PE X (.IfExp c a b pos) (LA tA ta tb):=by
  intro pins s σ H Q I h;refine wpAny_IfExp (aM (hc pins s σ H _ I h) fun d s1 aE=>?_);obtain⟨H1,I1,q1⟩:=aE;cases d with
  | true=>exact ha pins s1 σ H1 Q I1 q1
  | false=>exact hb pins s1 σ H1 Q I1 q1
end
def ak (K:PySem.W.Frag) (H:Hp) (a:Addr) (xs:List V):Prop:=
  Rd H a (.lst xs)\/
    ∃(o:Obj) (its:Array Value) (n:Nat),K.lookup a=some o/\o.cls = .type "list"/\o.dict=none/\o.data = .seq its n/\its.size<=sizeLine/\Vals xs its.toList
def aD (K:PySem.W.Frag) (H:Hp) (a:Addr) (xs:List V):Prop:=
  Rd H a (.tup xs)\/
    ∃(o:Obj) (its:Array Value) (n:Nat),K.lookup a=some o/\o.cls = .type "tuple"/\o.data = .seq its n/\its.size<=sizeLine/\Vals xs its.toList
def vN:Value->Option V
  | .none=>some .aL
  | .bool b=>some (.bl b)
  | .int i _=>some (.int i)
  | .str x _=>some (.str x)
  | .bytes b _=>some (.lN b)
  | .float b _=>some (.pX b)
  | .ref a=>some (.ref a)
  | .type n=>some (.ty n)
  | _=>none
theorem RelV.abs {x:V}{u:Value}(r:RelV x u):vN u=some x:=by
  cases x with
  | aL=>cases r;rfl
  | bl _=>cases r;rfl
  | int _=>obtain⟨t,rfl⟩:=r;rfl
  | str _=>obtain⟨t,rfl⟩:=r;rfl
  | lN _=>obtain⟨t,rfl⟩:=r;rfl
  | pX _=>obtain⟨t,rfl⟩:=r;rfl
  | ref _=>cases r;rfl
  | ty _=>cases r;rfl
theorem RelV.inj {x y:V}{u:Value}(r:RelV x u) (q:RelV y u):x=y:=Option.some.inj (r.abs.symm.trans q.abs)
theorem Vals.inj:∀{xs ys:List V}{us:List Value},Vals xs us->Vals ys us->xs=ys
  | _,_,_,.nil,.nil=>rfl
  | _,_,_,.cons r t,.cons r' t'=>by rw[r.inj r',Vals.inj t t']
section
variable {X:Cx}{pins:List (Addr×Obj)}{σ:St}{H:Hp}{s:Shared}{a:Addr}{xs ys:List V}
theorem ak.of {K:PySem.W.Frag}(h:H a=some (.lst xs)):ak K H a xs:=.inl (.inl h)
theorem aD.of {K:PySem.W.Frag}(h:H a=some (.tup xs)):aD K H a xs:=.inl (.inl h)
theorem Inv.list (I:Inv X pins σ H s) (h:ak X.K H a xs):∃its:List Value,Vals xs its/\PlainL s.heap a its.toArray/\xs.length<=sizeLine:=by
  rcases h with h | ⟨o,its,n,hk,hc,hd,hs,hz,r⟩
  · obtain⟨z,its,n,r,e⟩:=h.ok I.aF;exact⟨its,r,⟨_,n,e,rfl,rfl,rfl⟩,z⟩
  · refine⟨its.toList,r,⟨o,n,I.cS a o hk,hc,hd,by simpa using hs⟩,?_⟩;have e:=r.length;simp only [Array.length_toList] at e;omega
theorem Inv.tuple (I:Inv X pins σ H s) (h:aD X.K H a xs):∃its:List Value,Vals xs its/\IsTup s.heap a its.toArray/\xs.length<=sizeLine:=by
  rcases h with h | ⟨o,its,n,hk,hc,hs,hz,r⟩
  · obtain⟨z,its,r,p⟩:=h.ok I.aF;exact⟨its,r,p,z⟩
  · refine⟨its.toList,r,⟨o,I.cS a o hk,hc,n,by simpa using hs⟩,?_⟩;have e:=r.length;simp only [Array.length_toList] at e;omega
theorem Inv.dB (I:Inv X pins σ H s) (h:ak X.K H a xs) (h':ak X.K H a ys):xs=ys:=by
  obtain⟨its,r,⟨o,n,e,_,_,d⟩,_⟩:=I.list h;obtain⟨its',r',⟨o',n',e',_,_,d'⟩,_⟩:=I.list h';rw[e] at e';cases e';rw[d] at d';injection d' with d1 _
  have:its=its':=by simpa using congrArg Array.toList d1
  subst this;exact r.inj r'
theorem Inv.gF (I:Inv X pins σ H s) (h:aD X.K H a xs) (h':aD X.K H a ys):xs=ys:=by
  obtain⟨its,r,⟨o,e,_,n,d⟩,_⟩:=I.tuple h;obtain⟨its',r',⟨o',e',_,n',d'⟩,_⟩:=I.tuple h';rw[e] at e';cases e';rw[d] at d';injection d' with d1 _
  have:its=its':=by simpa using congrArg Array.toList d1
  subst this;exact r.inj r'
end
abbrev Cx.eX (X:Cx) (E:Value->Shared->Prop):Cx:={ X with xe:=E }
abbrev Cx.bX (X:Cx):Cx:=X.eX fun _ _=>False
theorem Cx.Ok.eX {X:Cx}(ok:X.Ok) (E:Value->Shared->Prop):(X.eX E).Ok:=
  ⟨ok.mod,ok.kind,ok.glob,ok.blt,ok.above,ok.inj,ok.has,ok.qZ,ok.hd,ok.frames,ok.ri,ok.yV,ok.bs,ok.mj,ok.jN,ok.lO,ok.fW,ok.oJ⟩
theorem Cx.Ok.dh {X:Cx}{E:Value->Shared->Prop}(ok:(X.eX E).Ok):X.Ok:=
  ⟨ok.mod,ok.kind,ok.glob,ok.blt,ok.above,ok.inj,ok.has,ok.qZ,ok.hd,ok.frames,ok.ri,ok.yV,ok.bs,ok.mj,ok.jN,ok.lO,ok.fW,ok.oJ⟩
section
variable {X:Cx}{pins:List (Addr×Obj)}{σ:St}{H:Hp}{s:Shared}{E:Value->Shared->Prop}
theorem Inv.eX (I:Inv X pins σ H s) (E:Value->Shared->Prop):Inv (X.eX E) pins σ H s:=⟨I.ok.eX E,I.os,I.bare,I.base,I.loc,I.cell,I.free,I.cF,I.pin,I.aF,I.len⟩
theorem Inv.dh (I:Inv (X.eX E) pins σ H s):Inv X pins σ H s:=⟨I.ok.dh,I.os,I.bare,I.base,I.loc,I.cell,I.free,I.cF,I.pin,I.aF,I.len⟩
theorem SP.dh {D:Ends}{f:Flow}{s':Shared}(h:SP (X.eX E) pins D f s'):SP X pins D f s':=by
  cases f with
  | next=>obtain⟨au,H',I,q⟩:=h;exact⟨au,H',I.dh,q⟩
  | brk=>obtain⟨au,H',I,q⟩:=h;exact⟨au,H',I.dh,q⟩
  | cont=>obtain⟨au,H',I,q⟩:=h;exact⟨au,H',I.dh,q⟩
  | ret u=>obtain⟨v,au,H',I,r,q⟩:=h;exact⟨v,au,H',I.dh,r,q⟩
theorem jm.bX {st:List Stmt}{t:TS}(h:jm X.bX st t):jm X st t:=fun pins s σ H D I hw=>
  wpAny_mono (h pins s σ H D (I.eX _) hw) (fun _ _ q=>q.dh) fun _ _ z=>False.elim z
end
section
variable {X:Cx}{st:Stmt}{rest:List Stmt}{t u:TS}{e:Expr}{te:TE}{pos:Pos}
def nV:TS:=fun D σ H=>D.nx σ H
def eY (t u:TS):TS:=fun D σ H=>t { D with nx:=u D } σ H
theorem cQ:jm X [] nV:=fun _ _ σ H _ I h=>wpAny_execs_nil ⟨σ,H,I,h⟩
theorem zk (h1:PS X st t) (h2:jm X rest u):jm X (st::rest) (eY t u):=by
  intro pins s σ H D I h;refine wpAny_execs_cons (aM (h1 pins s σ H { D with nx:=u D } I h) fun f s1 q=>?_);cases f with
  | next=>
    obtain⟨au,H',I',q⟩:=q;exact h2 pins s1 au H' D I' q
  | ret v=>exact q
  | brk=>exact q
  | cont=>exact q
theorem zv (h1:PS X st t):jm X [st] t:=by
  intro pins s σ H D I h;refine wpAny_execs_cons (aM (h1 pins s σ H D I h) fun f s1 q=>?_);cases f with
  | next=>exact wpAny_execs_nil q
  | ret v=>exact q
  | brk=>exact q
  | cont=>exact q
theorem Inv.quiet {pins:List (Addr×Obj)}{σ:St}{H:Hp}{s:Shared}(I:Inv X pins σ H s):interactive X.env=false:=by simp[interactive,I.ok.kind]
def LC (te:TE):TS:=fun D σ H=>te σ H fun _ H1=>D.nx σ H1
theorem gX (he:PE X e te) (hs:swapsWith e none pos.line X.env=pure false:=by rfl):PS X (.Expr e pos) (LC te):=by
  intro pins s σ H D I h;exact wpAny_Expr_any (aM (he pins s σ H _ I h) fun v s1 ⟨x,H1,I1,r1,q1⟩=>⟨σ,H1,I1,q1⟩) I.quiet hs
def rB (te:TE):TS:=fun D σ H=>te σ H D.rt
theorem cH (he:PE X e te):PS X (.Return (some e) pos) (rB te):=by
  intro pins s σ H D I h;exact wpAny_Return_some (aM (he pins s σ H _ I h) fun v s1 ⟨x,H1,I1,r1,q1⟩=>⟨x,σ,H1,I1,r1,q1⟩)
def rD (c:TT) (t u:TS):TS:=fun D σ H=>c σ H fun b H1=>if b=true then t D σ H1 else u D σ H1
theorem cy {c:Expr}{a b:List Stmt}{tc:TT}(hc:PT X c tc) (ha:jm X a t) (hb:jm X b u):PS X (.If c a b pos) (rD tc t u):=by
  intro pins s σ H D I h;refine wpAny_If (aM (hc pins s σ H _ I h) fun d s1 aE=>?_);obtain⟨H1,I1,q1⟩:=aE;cases d with
  | true=>exact ha pins s1 σ H1 D I1 q1
  | false=>exact hb pins s1 σ H1 D I1 q1
def LD:TS:=fun _ _ _=>False
theorem mz:PS X st LD:=fun _ _ _ _ _ _ h=>h.elim
end
abbrev TG:=V->St->Hp->(St->Hp->Prop)->Prop
abbrev qe:=List V->St->Hp->(St->Hp->Prop)->Prop
def PG (X:Cx) (target:Expr) (t:TG):Prop:=
  ∀(pins:List (Addr×Obj)) (s:Shared) (σ:St) (H:Hp) (v:V) (u:Value) (Q:St->Hp->Prop),Inv X pins σ H s->RelV v u->t v σ H Q->
    wpAny (model X.prog X.w) X.A (assign target X.env u) (fun _ s'=>∃au H',Inv X pins au H' s'/\Q au H') X.xe s
def vO (X:Cx) (ts:List Expr) (t:qe):Prop:=
  ∀(pins:List (Addr×Obj)) (s:Shared) (σ:St) (H:Hp) (vs:List V) (us:List Value) (Q:St->Hp->Prop),Inv X pins σ H s->Vals vs us->t vs σ H Q->
    wpAny (model X.prog X.w) X.A (assignInOrder ((assignEach ts X.env).map (·.2)) us) (fun _ s'=>∃au H',Inv X pins au H' s'/\Q au H') X.xe s
section
variable {X:Cx}{pos:Pos}
def bM (i:Nat):TG:=fun v σ H Q=>Q (σ.set i (some v)) H
theorem d9 {i:Nat}{x:Str}(hN:X.N.Nodup) (hi:X.N[i]? = some x) (hx:Loc X.env.scope x) (hf:X.fn x=true\/X.env.scope.names.lookup x=some .local:=by first | exact .inl rfl | exact .inr rfl | assumption):PG X (.Name x pos) (bM i):=by
  intro pins s σ H v u Q I r h;exact wpAny_assign_Name (yY I hN hi hx r (fun s' I'=>⟨_,H,I',h⟩) hf)
def rE:qe:=fun vs σ H Q=>vs = []/\Q σ H
def vP (t:TG) (u:qe):qe:=fun vs σ H Q=>∃v r,vs=v::r/\t v σ H fun au H'=>u r au H' Q
theorem rF:vO X [] rE:=by
  intro pins s σ H vs us Q I r h;obtain⟨e,h⟩:=h;subst e;cases r;exact assignInOrder_nil ⟨σ,H,I,h⟩
theorem j9 {e:Expr}{es:List Expr}{t:TG}{u:qe}(h1:PG X e t) (h2:vO X es u)
    (hs:(assignEach (e::es) X.env).map (·.2)=assign e X.env::(assignEach es X.env).map (·.2):=by rfl):vO X (e::es) (vP t u):=by
  intro pins s σ H vs us Q I r h;obtain⟨v,vr,e1,h⟩:=h;subst e1;cases r with
  | cons r rr=>
    rw[hs];refine assignInOrder_cons (aM (h1 pins s σ H _ _ _ I r h) fun _ s1 aE=>?_);obtain⟨LF,H1,I1,q1⟩:=aE;exact h2 pins s1 LF H1 _ _ Q I1 rr q1
def oK (K:PySem.W.Frag) (n:Nat) (t:qe):TG:=fun v σ H Q=>∃a xs,v = .ref a/\aD K H a xs/\xs.length=n/\t xs σ H Q
theorem LG {es:List Expr}{k:Nat}{t:qe}{n:Nat}(hc:X.calm=true) (h:vO X es t)
    (hn:(assignEach es X.env).length=n:=by rfl) (i8:(assignEach es X.env).findIdx? (·.1)=none:=by rfl):PG X (.Tuple es k pos) (oK X.K n t):=by
  intro pins s σ H v u Q I r hw;obtain⟨a,xs,e1,hq,hl,hw⟩:=hw;subst e1;cases r;obtain⟨its,rv,ht,hz⟩:=I.tuple hq;refine assign_Tuple_tuple (I.ok.hd hc) ht (by simp[hn,←hl,rv.length]) i8 fun h' hx=>?_
  have I1:Inv X pins σ H { s with heap:=h' }:=I.kept (t':=s.toks) fun b o e=>hx b o (Nat.ne_of_lt (Heap.lt_size e)) e
  exact h pins _ σ H xs _ Q I1 (by simpa using rv) hw
def dX (te:TE) (g:TG):TS:=fun D σ H=>te σ H fun x H1=>g x σ H1 D.nx
theorem Bp {tg e:Expr}{te:TE}{g:TG}(he:PE X e te) (hg:PG X tg g) (hs:swapsWithSole [tg] e pos.line X.env=pure false:=by rfl) (hw:swappedStores [tg] e X.env=pure none:=by rfl)
    (h1:(assignEach [tg] X.env).map (·.2) = [assign tg X.env]:=by rfl):PS X (.Assign [tg] e pos) (dX te g):=by
  intro pins s σ H D I h;refine wpAny_Assign_stores (aM (he pins s σ H _ I h) fun v s1 aE=>?_) hs hw;obtain⟨x,H1,I1,r1,q1⟩:=aE;rw[h1];exact aM (hg pins s1 σ H1 x v _ I1 r1 q1) fun _ s2 q=>q
theorem bQ {i:Nat}{x:Str}{e:Expr}{te:TE}{pos':Pos}(hN:X.N.Nodup) (hi:X.N[i]? = some x) (hx:Loc X.env.scope x) (he:PE X e te) (hs:swapsWith e (some (.Name x pos')) pos.line X.env=pure false:=by rfl) (hf:X.fn x=true\/X.env.scope.names.lookup x=some .local:=by first | exact .inl rfl | exact .inr rfl | assumption) :
    PS X (.Assign [.Name x pos'] e pos) (dX te (bM i)):=by
  intro pins s σ H D I h;refine wpAny_Assign_Name (aM (he pins s σ H _ I h) fun v s1 aE=>?_) hs;obtain⟨y,H1,I1,r1,q1⟩:=aE;exact yY I1 hN hi hx r1 (fun s2 I2=>⟨_,H1,I2,q1⟩) hf
end
structure It where
  go:Nat->Hp->Prop
  mV:Nat->Hp->V->Hp->Prop
  stop:Nat->Hp->Prop
def cg (X:Cx) (pins:List (Addr×Obj)) (H:Hp) (b:Addr):Prop:=
  H b=none/\b≠X.env.locals/\b ∉ X.fs/\(b∈X.ex\/X.bw.heap.objs.size<=b)/\(∀x c,X.env.cells.lookup x=some c->c≠b)/\∀p∈X.pn++pins,p.1≠b
theorem Inv.gY {X:Cx}{pins:List (Addr×Obj)}{σ:St}{H H':Hp}{s:Shared}{b:Addr}(I:Inv X pins σ H s) (hb:s.heap.objs.size<=b) (hn:H' b=none):cg X pins H' b:=by
  refine⟨hn,Nat.ne_of_gt (Nat.lt_of_lt_of_le I.lt hb),I.Bc hb,.inr (Nat.le_trans I.sz hb),fun x c e z=>?_,fun p hp z=>?_⟩
  · obtain⟨v,q⟩:=I.cell x c e;exact absurd (Nat.lt_of_lt_of_le q.lt (by rw[z];exact hb)) (Nat.lt_irrefl _)
  · exact absurd (Nat.lt_of_lt_of_le (Heap.lt_size (I.pin p hp).1) (by rw[z];exact hb)) (Nat.lt_irrefl _)
structure Turn (P:Program) (w:World) (K:PySem.W.Frag) (tg:Expr) (J:It) (fp:List Addr) (it:Addr) (tn:Nat->Heap->Prop):Prop where
  mem:it∈fp
  obj:∀i h,tn i h->∀b∈fp,∃o,h.get? b=some o/\∀v,o.data≠.cell v
  keep:∀i h h',tn i h->(∀b∈fp,∀o,h.get? b=some o->h'.get? b=some o)->tn i h'
  item:∀(X:Cx),X.prog=P->X.w=w->X.K=K->X.calm=true->∀(i:Nat) (pins:List (Addr×Obj)) (s:Shared) (σ:St) (H:Hp) (E:Value->Shared->Prop),Inv X pins σ H s->(∀b∈fp,cg X pins H b)->tn i s.heap->J.go i H->
    wpAny (model P w) X.A (pyNext (.ref it)) (fun r s1=>∃u,r=some u/\
      wpAny (model P w) X.A (letOwnedTupleGo tg (.ref it) u) (fun _ s2=>∃x H',Inv X pins σ H' s2/\RelV x u/\J.mV i H x H'/\tn (i+1) s2.heap/\∀b∈fp,H' b=none) E s1) E s
  done:∀(X:Cx),X.prog=P->X.w=w->X.K=K->X.calm=true->∀(i:Nat) (pins:List (Addr×Obj)) (s:Shared) (σ:St) (H:Hp) (E:Value->Shared->Prop),Inv X pins σ H s->(∀b∈fp,cg X pins H b)->tn i s.heap->J.stop i H->
    wpAny (model P w) X.A (pyNext (.ref it)) (fun r s1=>r=none/\Inv X pins σ H s1) E s
  self:∀(A:Around) (i:Nat) (s:Shared) (Q:Value->Shared->Prop) (E:Value->Shared->Prop),tn i s.heap->Q (.ref it) s->wpAny (model P w) A (pyIter (.ref it)) Q E s
abbrev TI:=St->Hp->(It->Hp->Prop)->Prop
def vQ (X:Cx) (pins:List (Addr×Obj)) (σ:St) (tg:Expr) (R:It->Hp->Prop) (mW:Value) (s2:Shared):Prop:=
  ∃(it:Addr) (fp:List Addr) (tn:Nat->Heap->Prop) (J:It) (H':Hp),mW = .ref it/\Inv X pins σ H' s2/\Turn X.prog X.w X.K tg J fp it tn/\tn 0 s2.heap/\(∀b∈fp,cg X pins H' b)/\R J H'
def PI (X:Cx) (tg iter:Expr) (wi:TI):Prop:=
  ∀(pins:List (Addr×Obj)) (s:Shared) (σ:St) (H:Hp) (R:It->Hp->Prop),Inv X pins σ H s->wi σ H R->
    wpAny (model X.prog X.w) X.A (eval iter X.env) (fun v s1=>wpAny (model X.prog X.w) X.A (pyIter v) (vQ X pins σ tg R) X.xe s1) X.xe s
theorem y9 {M:Model}{A:Around}{E:Value->Shared->Prop}{s:Shared}{tg:Expr}{it:Addr}{u:Value}{o:Obj}{n:String}{vs:Array Value}{Q:Unit->Shared->Prop}(ho:s.heap.get? it=some o) (hc:o.cls = .type n) (hd:o.data = .fields vs)
    (hn : ["enumerate","zip","dict_itemiterator","dict_reverseitemiterator","odict_iterator","itertools.zip_longest","itertools.pairwise"].contains n=false) (hQ:Q () s):wpAny M A (letOwnedTupleGo tg (.ref it) u) Q E s:=by
  unfold letOwnedTupleGo;cases tg<;>first
    | exact wpAny_pure hQ
    | (cases u<;>first
        | exact wpAny_pure hQ
        | (refine wpAny_bind (wpAny_load ho ?_)
           rw[hc,hd];show wpAny M A (if (["enumerate","zip","dict_itemiterator","dict_reverseitemiterator","odict_iterator","itertools.zip_longest","itertools.pairwise"].contains n&&vs[0]? == some (rawInt _))=true then _ else _) Q E s;rw[if_neg (by intro h;rw[hn,Bool.false_and] at h;cases h)];exact wpAny_pure hQ))
def uJ (K:PySem.W.Frag) (a:Addr):It:=
  ⟨fun i H=>∃xs x,ak K H a xs/\xs[i]? = some x,fun i H x H'=>H'=H/\∀xs,ak K H a xs->xs[i]? = some x,fun i H=>∃xs,ak K H a xs/\xs.length<=i⟩
def vR (K:PySem.W.Frag) (a:Addr):It:=
  ⟨fun i H=>∃xs x,aD K H a xs/\xs[i]? = some x,fun i H x H'=>H'=H/\∀xs,aD K H a xs->xs[i]? = some x,fun i H=>∃xs,aD K H a xs/\xs.length<=i⟩
def rG (lo:Int) (n:Nat):It:=⟨fun i _=>i<n,fun i H x H'=>H'=H/\x = .int (lo+i),fun i _=>n<=i⟩
theorem LH {P:Program}{w:World}{K:PySem.W.Frag}{tg:Expr}(a it:Addr):Turn P w K tg (uJ K a) [it] it (fun i h=>h.IsListIter it a i) where
  mem:=by simp
  obj:=fun i h st b hb=>by
    have e:b=it:=by simpa using hb
    subst e;obtain⟨o,e,c,d⟩:=st;exact⟨o,e,fun v z=>by rw[d] at z;cases z⟩
  keep:=fun i h h' st k=>st.at fun o e=>k it (by simp) o e
  item:=by
    intro X hP hw hK hc i pins s σ H E I hf st hg;subst hP hw hK;obtain⟨xs,x,hq,hx⟩:=hg;obtain⟨its,rv,p,hz⟩:=I.list hq;obtain⟨u,hu,ru⟩:=rv.get hx;obtain⟨f0,f1,f2,f3,f4,f5⟩:=hf it (by simp);refine wpAny_pyNext_list_item st p.isList (x:=u) (by simpa using hu) fun h' iX sb=>?_
    have I1:Inv X pins σ H { s with heap:=h' }:=I.turned (t':=s.toks) (fun b o hb e=>(sb.2 b hb).trans e) f0 f1 f3 f4 f5;obtain⟨o,e,c,d⟩:=id iX;exact⟨u,rfl,y9 (s:={ s with heap:=h' }) e c d (by decide) ⟨x,H,I1,ru,⟨rfl,fun ys hy=>by rw[I.dB hy hq];exact hx⟩,iX,fun b hb=>(hf b hb).1⟩⟩
  done:=by
    intro X hP hw hK hc i pins s σ H E I hf st hg;subst hP hw hK;obtain⟨xs,hq,hx⟩:=hg;obtain⟨its,rv,p,hz⟩:=I.list hq;obtain⟨f0,f1,f2,f3,f4,f5⟩:=hf it (by simp);have hl:=rv.length;exact wpAny_pyNext_list_end (I.ok.hd hc) st p.isList (by simp;omega) fun h' eb=>⟨rfl,I.turned (t':=s.toks) (fun b o hb e=>eb b o hb e) f0 f1 f3 f4 f5⟩
  self:=fun _ _ _ _ _ st h=>wpAny_pyIter_listiter st h
theorem LI {P:Program}{w:World}{K:PySem.W.Frag}{tg:Expr}(a it:Addr):Turn P w K tg (vR K a) [it] it (fun i h=>h.IsTupleIter it a i) where
  mem:=by simp
  obj:=fun i h st b hb=>by
    have e:b=it:=by simpa using hb
    subst e;obtain⟨o,e,c,d⟩:=st;exact⟨o,e,fun v z=>by rw[d] at z;cases z⟩
  keep:=fun i h h' st k=>st.at fun o e=>k it (by simp) o e
  item:=by
    intro X hP hw hK hc i pins s σ H E I hf st hg;subst hP hw hK;obtain⟨xs,x,hq,hx⟩:=hg;obtain⟨its,rv,p,hz⟩:=I.tuple hq;obtain⟨u,hu,ru⟩:=rv.get hx;obtain⟨f0,f1,f2,f3,f4,f5⟩:=hf it (by simp);refine wpAny_pyNext_tuple_item st (show s.heap.IsTuple a its.toArray from p) (x:=u) (by simpa using hu) fun h' iX sb=>?_
    have I1:Inv X pins σ H { s with heap:=h' }:=I.turned (t':=s.toks) (fun b o hb e=>(sb.2 b hb).trans e) f0 f1 f3 f4 f5;obtain⟨o,e,c,d⟩:=id iX;exact⟨u,rfl,y9 (s:={ s with heap:=h' }) e c d (by decide) ⟨x,H,I1,ru,⟨rfl,fun ys hy=>by rw[I.gF hy hq];exact hx⟩,iX,fun b hb=>(hf b hb).1⟩⟩
  done:=by
    intro X hP hw hK hc i pins s σ H E I hf st hg;subst hP hw hK;obtain⟨xs,hq,hx⟩:=hg;obtain⟨its,rv,p,hz⟩:=I.tuple hq;obtain⟨f0,f1,f2,f3,f4,f5⟩:=hf it (by simp);have hl:=rv.length;exact wpAny_pyNext_tuple_end (I.ok.hd hc) st (show s.heap.IsTuple a its.toArray from p) (by simp;omega) fun h' eb=>⟨rfl,I.turned (t':=s.toks) (fun b o hb e=>eb b o hb e) f0 f1 f3 f4 f5⟩
  self:=fun _ _ _ _ _ st h=>wpAny_pyIter_tupleiter st h
theorem LJ {P:Program}{w:World}{K:PySem.W.Frag}{tg:Expr}(it:Addr) (lo:Int) (n:Nat):Turn P w K tg (rG lo n) [it] it (fun i h=>IsRangeIter h it (lo+(i:Nat) * 1) ((n:Int)-(i:Nat)) 1) where
  mem:=by simp
  obj:=fun i h st b hb=>by
    have e:b=it:=by simpa using hb
    subst e;exact⟨_,st,fun v z=>by
      have z':Data.fields _=Data.cell v:=z;cases z'⟩
  keep:=fun i h h' st k=>k it (by simp) _ st
  item:=by
    intro X hP hw hK hc i pins s σ H E I hf st hg;subst hP hw hK;obtain⟨f0,f1,f2,f3,f4,f5⟩:=hf it (by simp);have W:=Walks.range (prog:=X.prog) (w:=X.w) (I.ok.hd hc) it lo 1 n;refine W.item i s _ _ hg st fun v h' tk hv iX kk=>?_
    obtain⟨t,rfl⟩:=hv;have I1:Inv X pins σ H { s with heap:=h',toks:=tk }:=I.turned (fun b o hb e=>kk b o (by simpa using hb) e) f0 f1 f3 f4 f5;refine⟨_,rfl,y9 (s:={ s with heap:=h',toks:=tk }) (n:="range_iterator") iX rfl rfl (by decide) ⟨.int (lo+i),H,I1,⟨t,?_⟩,⟨rfl,rfl⟩,iX,fun b hb=>(hf b hb).1⟩⟩;rw[Int.mul_one]
  done:=by
    intro X hP hw hK hc i pins s σ H E I hf st hg;subst hP hw hK;obtain⟨f0,f1,f2,f3,f4,f5⟩:=hf it (by simp);exact wpAny_pyNext_range_end (I.ok.hd hc) st (by have:n<=i:=hg;omega) fun h' eb=>⟨rfl,I.turned (t':=s.toks) (fun b o hb e=>eb b o hb e) f0 f1 f3 f4 f5⟩
  self:=fun _ _ _ _ _ st h=>wpAny_pyIter_rangeiter st h
section
variable {X:Cx}{tg:Expr}
def zA (K:PySem.W.Frag) (tl:TE):TI:=fun σ H R=>tl σ H fun x H1=>∃a,x = .ref a/\(∃xs,ak K H1 a xs)/\R (uJ K a) H1
def vS (K:PySem.W.Frag) (tl:TE):TI:=fun σ H R=>tl σ H fun x H1=>∃a,x = .ref a/\(∃xs,aD K H1 a xs)/\R (vR K a) H1
theorem LK {l:Expr}{tl:TE}(hl:PE X l tl):PI X tg l (zA X.K tl):=by
  intro pins s σ H R I h;refine aM (hl pins s σ H _ I h) fun v s1 aE=>?_
  obtain⟨x,H1,I1,r1,q1⟩:=aE;obtain⟨a,e,⟨xs,hq⟩,q⟩:=q1;subst e;cases r1;obtain⟨its,rv,p,hz⟩:=I1.list hq;refine wpAny_pyIter_list p.isList ?_;refine⟨s1.heap.objs.size,[s1.heap.objs.size],_,_,H1,rfl,I1.kept (t':=s1.toks) fun b o e=>Heap.get?_push_of_some _ e,LH a _,⟨_,Heap.get?_push_size _ rfl,rfl,rfl⟩,fun b hb=>?_,q⟩;have e:b=s1.heap.objs.size:=by simpa using hb
  subst e;exact I1.gY (Nat.le_refl _) (I1.aF.fresh (Nat.le_refl _))
theorem LL {l:Expr}{tl:TE}(hl:PE X l tl):PI X tg l (vS X.K tl):=by
  intro pins s σ H R I h;refine aM (hl pins s σ H _ I h) fun v s1 aE=>?_
  obtain⟨x,H1,I1,r1,q1⟩:=aE;obtain⟨a,e,⟨xs,hq⟩,q⟩:=q1;subst e;cases r1;obtain⟨its,rv,p,hz⟩:=I1.tuple hq;refine wpAny_pyIter_tuple (show s1.heap.IsTuple a its.toArray from p) ?_;refine⟨s1.heap.objs.size,[s1.heap.objs.size],_,_,H1,rfl,I1.kept (t':=s1.toks) fun b o e=>Heap.get?_push_of_some _ e,LI a _,⟨_,Heap.get?_push_size _ rfl,rfl,rfl⟩,fun b hb=>?_,q⟩;have e:b=s1.heap.objs.size:=by simpa using hb
  subst e;exact I1.gY (Nat.le_refl _) (I1.aF.fresh (Nat.le_refl _))
theorem LM {pins:List (Addr×Obj)}{σ:St}{H:Hp}{s:Shared}{R:It->Hp->Prop}{E:Value->Shared->Prop}{lo hi:Int}{t u v:Tok}{tk:Nat}(I:Inv X pins σ H s) (h1 : -(2 ^ 62)<=lo) (h2:lo<2 ^ 62) (h3 : -(2 ^ 62)<=hi) (h4:hi<2 ^ 62)
    (q:R (rG lo (hi-lo).toNat) H):wpAny (model X.prog X.w) X.A (pyIter (.ref s.heap.objs.size)) (vQ X pins σ tg R) E { s with heap:=s.heap.push { cls:=.type "range",data:=.fields #[.int lo t,.int hi u,.int 1 v] },toks:=tk }:=by
  refine wpAny_pyIter_range (IsRange.new ..) (small_one h1 h2 h3 h4) ?_;have I1:Inv X pins σ H { s with heap:=s.heap.push { cls:=.type "range",data:=.fields #[.int lo t,.int hi u,.int 1 v] },toks:=tk }:=I.kept fun b o e=>Heap.get?_push_of_some _ e
  refine⟨(s.heap.push { cls:=.type "range",data:=.fields #[.int lo t,.int hi u,.int 1 v] }).objs.size,[(s.heap.push { cls:=.type "range",data:=.fields #[.int lo t,.int hi u,.int 1 v] }).objs.size],_,_,H,rfl,
    I1.kept (t':=tk) fun b o e=>Heap.get?_push_of_some _ e,LJ _ lo (hi-lo).toNat,?_,fun b hb=>?_,q⟩
  · have e1:lo+((0:Nat):Int) * 1=lo:=by simp
    have e2:(((hi-lo).toNat:Nat):Int)-((0:Nat):Int)=Builtin.Range.rangeSize lo hi 1:=by rw[rangeSize_one];split<;>omega
    show IsRangeIter _ _ (lo+((0:Nat):Int) * 1) ((((hi-lo).toNat:Nat):Int)-((0:Nat):Int)) 1;rw[e1,e2];exact Heap.get?_push_size _ rfl
  · have e:b=(s.heap.push { cls:=.type "range",data:=.fields #[.int lo t,.int hi u,.int 1 v] }).objs.size:=by simpa using hb
    subst e;exact I1.gY (Nat.le_refl _) (I1.aF.fresh (Nat.le_refl _))
def LN (ta:TA):TI:=fun σ H R=>ta σ H fun vs H1=>∃j:Int,vs = [.int j]/\-(2 ^ 62)<=j/\j<2 ^ 62/\R (rG 0 j.toNat) H1
theorem zB {a:Expr}{ta:TA}{p pos:Pos}(hg:Gl X "range") (hm:X.mg "range" = none) (ha:PA X [a] ta) (hs:starEach [a] X.env = [(false,eval a X.env)]:=by rfl):PI X tg (.Call (.Name "range" p) [a] [] pos) (LN ta):=by
  intro pins s σ H R I h;refine Call_ (uH I hg hm boot_range (PyProof.Rows.callWith_type1 (aM (ha pos pins s σ H _ I h) fun us s1 aE=>?_) hs rfl));obtain⟨vs,H1,I1,r1,q1⟩:=aE;obtain⟨j,e,q1,q2,q⟩:=q1;subst e;cases r1 with
  | cons r rr=>
    cases rr;obtain⟨t,rfl⟩:=r;exact call_range_1 (LM I1 (by omega) (by omega) q1 q2 (by simpa using q))
def Bq (wi:TI) (g:TG) (tb:TS):TS:=fun D σ H=>wi σ H fun J H1=>∃W:Nat->Nat->St->Hp->Prop,(∃m,W 0 m σ H1)/\∀i m σ H,W i m σ H->
  (J.stop i H/\D.nx σ H)\/(J.go i H/\∃N:St->Hp->Prop,(∀au H',N au H'->∃m',m'<m/\W (i+1) m' au H')/\∀x H',J.mV i H x H'->g x σ H' fun jR H2=>tb { D with nx:=N,ct:=N,bk:=D.nx } jR H2)
def uK (fp:List Addr) (h:Heap):List (Addr×Obj):=fp.filterMap fun b=>(h.get? b).map fun o=>(b,o)
theorem uL {fp:List Addr}{h:Heap}{b:Addr}{o:Obj}(hb:b∈fp) (e:h.get? b=some o):(b,o)∈uK fp h:=List.mem_filterMap.mpr ⟨b,hb,by rw[e];rfl⟩
theorem LO {fp:List Addr}{h:Heap}{p:Addr×Obj}(hp:p∈uK fp h):p.1∈fp/\h.get? p.1=some p.2:=by
  obtain⟨b,hb,e⟩:=List.mem_filterMap.mp hp;cases q:h.get? b with
  | none=>rw[q] at e;cases e
  | some o=>
    rw[q] at e;have e':(b,o)=p:=Option.some.inj e;subst e';exact⟨hb,q⟩
theorem Inv.pinned {pins:List (Addr×Obj)}{σ:St}{H:Hp}{s:Shared}{fp:List Addr}(I:Inv X pins σ H s) (hf:∀b∈fp,cg X pins H b) (ho:∀b∈fp,∃o,s.heap.get? b=some o/\∀v,o.data≠.cell v):Inv X (pins++uK fp s.heap) σ H s:=
  I.k9 fun p hp=>(List.mem_append.mp hp).elim (fun z=>I.pin p (List.mem_append_right _ z)) fun z=>by
    obtain⟨hb,e⟩:=LO z;obtain⟨f0,f1,f2,_⟩:=hf p.1 hb;obtain⟨o,e',d⟩:=ho p.1 hb;rw[e] at e';cases e';exact⟨e,f0,f1,f2,d⟩
theorem Inv.ee {pins pl:List (Addr×Obj)}{σ:St}{H:Hp}{s:Shared}(I:Inv X (pins++pl) σ H s):Inv X pins σ H s:=I.k9 fun p hp=>I.pin p (List.mem_append_right _ (List.mem_append_left _ hp))
theorem uM {iter:Expr}{body:List Stmt}{wi:TI}{g:TG}{tb:TS}{pos:Pos}(hp:PassesOwn (model X.prog X.w) X.A X.env X.xe) (hc:X.calm=true) (hi:PI X tg iter wi) (hg:PG X tg g) (hb:jm X body tb)
    (hs:∀x,foldedSetIterable iter X.env x=pure x:=by intro _;rfl):PS X (.For tg iter body [] pos) (Bq wi g tb):=by
  intro pins s σ H D I h;refine wpAny_For (aM (hi pins s σ H _ I h) fun v s1 h1=>aM h1 fun mW s2 h2=>?_) hs;obtain⟨it,fp,tn,J,H2,e,I2,T,rH,f2,W,⟨m0,w0⟩,turn⟩:=h2;subst e;have iE:∀{H':Hp},(∀b∈fp,H' b=none)->∀b∈fp,cg X pins H' b:=fun hn b hb=>⟨hn b hb,(f2 b hb).2⟩
  refine codeAny_forLoop_any (fun n s'=>∃i au H',Inv X pins au H' s'/\tn i s'.heap/\(∀b∈fp,H' b=none)/\W i n au H') ?_ m0 ⟨0,σ,H2,I2,rH,fun b hb=>(f2 b hb).1,w0⟩;rintro n s3 ⟨i,kB,H3,I3,E6,E7,w3⟩;rcases turn i n kB H3 w3 with ⟨stop,qn⟩ | ⟨go,N,hN,step⟩
  · refine wpAny_passesOwn hp (aM (T.done X rfl rfl rfl hc i pins s3 kB H3 X.xe I3 (iE E7) E6 stop) fun r s4 aE=>?_);obtain⟨hr,I4⟩:=aE;subst hr;exact wpAny_execs_nil ⟨kB,H3,I4,qn⟩
  · refine wpAny_passesOwn hp (aM (T.item X rfl rfl rfl hc i pins s3 kB H3 X.xe I3 (iE E7) E6 go) fun r s4 aE=>?_);obtain⟨u,hr,h4⟩:=aE;subst hr;refine wpAny_passesOwn hp (aM h4 fun _ s5 aE=>?_);obtain⟨x,H5,I5,r5,y5,oM,rJ⟩:=aE;have LP:=I5.pinned (iE rJ) (T.obj _ _ oM);refine wpAny_passesOwn hp (aM (hg _ s5 kB H5 x u _ LP r5 (step x H5 y5)) fun _ s6 aE=>?_);obtain⟨LQ,H6,I6,q6⟩:=aE;refine wpAny_passesOwn hp (aM (hb _ s6 LQ H6 _ I6 q6) fun f s7 q7=>?_);have again:∀{mX:St}{H7:Hp},Inv X (pins++uK fp s5.heap) mX H7 s7->N mX H7->∃m,m<n/\∃i au H',Inv X pins au H' s7/\tn i s7.heap/\(∀b∈fp,H' b=none)/\W i m au H':=fun {mX H7} I7 n7=>by
      obtain⟨m',hm,w7⟩:=hN mX H7 n7;refine⟨m',hm,i+1,mX,H7,I7.ee,T.keep _ _ _ oM fun b hb o e=>(I7.pin (b,o) (List.mem_append_right _ (List.mem_append_right _ (uL hb e)))).1,fun b hb=>?_,w7⟩;obtain⟨o,e,d⟩:=T.obj _ _ oM b hb;exact (I7.pin (b,o) (List.mem_append_right _ (List.mem_append_right _ (uL hb e)))).2.1
    cases f with
    | next=>obtain⟨mX,H7,I7,n7⟩:=q7;exact again I7 n7
    | cont=>obtain⟨mX,H7,I7,n7⟩:=q7;exact again I7 n7
    | brk=>obtain⟨mX,H7,I7,q7⟩:=q7;exact⟨mX,H7,I7.ee,q7⟩
    | ret v=>obtain⟨x7,mX,H7,I7,r7,q7⟩:=q7;exact⟨x7,mX,H7,I7.ee,r7,q7⟩
end
theorem LR {K:PySem.W.Frag}{a:Addr}{xs:List V}{g:TG}{tb:TS}{D:Ends}{σ:St}{H:Hp}(Pv:Nat->St->Hp->Prop) (h0:Pv 0 σ H) (hl:∀i σ H,i<=xs.length->Pv i σ H->ak K H a xs)
    (hs:∀i x σ H,xs[i]? = some x->Pv i σ H->g x σ H fun jR H2=>tb { D with nx:=Pv (i+1),ct:=Pv (i+1),bk:=D.nx } jR H2) (hd:∀σ H,Pv xs.length σ H->D.nx σ H) :
    ∃W:Nat->Nat->St->Hp->Prop,(∃m,W 0 m σ H)/\∀i m σ H,W i m σ H->
      ((uJ K a).stop i H/\D.nx σ H)\/((uJ K a).go i H/\∃N:St->Hp->Prop,(∀au H',N au H'->∃m',m'<m/\W (i+1) m' au H')/\∀x H',(uJ K a).mV i H x H'->g x σ H' fun jR H2=>tb { D with nx:=N,ct:=N,bk:=D.nx } jR H2):=by
  refine⟨fun i m σ H=>m=xs.length-i/\i<=xs.length/\Pv i σ H,⟨xs.length,by simp,Nat.zero_le _,h0⟩,?_⟩;rintro i m σ H ⟨rfl,hi,p⟩;have q:=hl i σ H hi p
  by_cases fz:i<xs.length
  · refine .inr ⟨⟨xs,xs[i],q,by simp[fz]⟩,Pv (i+1),fun au H' p'=>⟨xs.length-(i+1),by omega,rfl,fz,p'⟩,fun x H' y=>?_⟩;obtain⟨e,y⟩:=y;subst e;exact hs i x σ _ (y xs q) p
  · have e:i=xs.length:=by omega
    subst e;exact .inl ⟨⟨xs,q,Nat.le_refl _⟩,hd σ H p⟩
theorem LS {K:PySem.W.Frag}{a:Addr}{xs:List V}{g:TG}{tb:TS}{D:Ends}{σ:St}{H:Hp}(Pv:Nat->St->Hp->Prop) (h0:Pv 0 σ H) (hl:∀i σ H,i<=xs.length->Pv i σ H->aD K H a xs)
    (hs:∀i x σ H,xs[i]? = some x->Pv i σ H->g x σ H fun jR H2=>tb { D with nx:=Pv (i+1),ct:=Pv (i+1),bk:=D.nx } jR H2) (hd:∀σ H,Pv xs.length σ H->D.nx σ H) :
    ∃W:Nat->Nat->St->Hp->Prop,(∃m,W 0 m σ H)/\∀i m σ H,W i m σ H->
      ((vR K a).stop i H/\D.nx σ H)\/((vR K a).go i H/\∃N:St->Hp->Prop,(∀au H',N au H'->∃m',m'<m/\W (i+1) m' au H')/\∀x H',(vR K a).mV i H x H'->g x σ H' fun jR H2=>tb { D with nx:=N,ct:=N,bk:=D.nx } jR H2):=by
  refine⟨fun i m σ H=>m=xs.length-i/\i<=xs.length/\Pv i σ H,⟨xs.length,by simp,Nat.zero_le _,h0⟩,?_⟩;rintro i m σ H ⟨rfl,hi,p⟩;have q:=hl i σ H hi p
  by_cases fz:i<xs.length
  · refine .inr ⟨⟨xs,xs[i],q,by simp[fz]⟩,Pv (i+1),fun au H' p'=>⟨xs.length-(i+1),by omega,rfl,fz,p'⟩,fun x H' y=>?_⟩;obtain⟨e,y⟩:=y;subst e;exact hs i x σ _ (y xs q) p
  · have e:i=xs.length:=by omega
    subst e;exact .inl ⟨⟨xs,q,Nat.le_refl _⟩,hd σ H p⟩
theorem E8 {lo:Int}{n:Nat}{g:TG}{tb:TS}{D:Ends}{σ:St}{H:Hp}(Pv:Nat->St->Hp->Prop) (h0:Pv 0 σ H)
    (hs:∀i σ H,i<n->Pv i σ H->g (.int (lo+i)) σ H fun jR H2=>tb { D with nx:=Pv (i+1),ct:=Pv (i+1),bk:=D.nx } jR H2) (hd:∀σ H,Pv n σ H->D.nx σ H) :
    ∃W:Nat->Nat->St->Hp->Prop,(∃m,W 0 m σ H)/\∀i m σ H,W i m σ H->
      ((rG lo n).stop i H/\D.nx σ H)\/((rG lo n).go i H/\∃N:St->Hp->Prop,(∀au H',N au H'->∃m',m'<m/\W (i+1) m' au H')/\∀x H',(rG lo n).mV i H x H'->g x σ H' fun jR H2=>tb { D with nx:=N,ct:=N,bk:=D.nx } jR H2):=by
  refine⟨fun i m σ H=>m=n-i/\i<=n/\Pv i σ H,⟨n,by simp,Nat.zero_le _,h0⟩,?_⟩;rintro i m σ H ⟨rfl,hi,p⟩
  by_cases fz:i<n
  · refine .inr ⟨fz,Pv (i+1),fun au H' p'=>⟨n-(i+1),by omega,rfl,fz,p'⟩,fun x H' y=>?_⟩;obtain⟨e,y⟩:=y;subst e y;exact hs i σ _ fz p
  · have e:i=n:=by omega
    subst e;exact .inl ⟨Nat.le_refl _,hd σ H p⟩
abbrev R2:=V->V->Hp->VK->Prop
def dR (X:Cx) (f:Value->Value->Sem Value) (r:R2):Prop:=
  ∀(pins:List (Addr×Obj)) (s:Shared) (σ:St) (H:Hp) (x y:V) (v u:Value) (Q:VK),Inv X pins σ H s->RelV x v->RelV y u->r x y H Q->
    wpAny (model X.prog X.w) X.A (f v u) (EP X pins σ Q) X.xe s
def Br (X:Cx) (f:Value->Sem Value) (r:V->Hp->VK->Prop):Prop:=
  ∀(pins:List (Addr×Obj)) (s:Shared) (σ:St) (H:Hp) (x:V) (v:Value) (Q:VK),Inv X pins σ H s->RelV x v->r x H Q->
    wpAny (model X.prog X.w) X.A (f v) (EP X pins σ Q) X.xe s
def i9 (X:Cx) (f:Value) (r:List V->Hp->VK->Prop):Prop:=
  ∀(pins:List (Addr×Obj)) (s:Shared) (σ:St) (H:Hp) (xs:List V) (us:List Value) (Q:VK),Inv X pins σ H s->Vals xs us->r xs H Q->
    wpAny (model X.prog X.w) X.A (call f us) (EP X pins σ Q) X.xe s
def iF (r:R2) (ta tb:TE):TE:=fun σ H Q=>ta σ H fun x H1=>tb σ H1 fun y H2=>r x y H2 Q
def LU (r:V->Hp->VK->Prop) (ta:TE):TE:=fun σ H Q=>ta σ H fun x H1=>r x H1 Q
def rI (C:Int->Int->Prop) (g:Int->Int->V):R2:=fun x y H Q=>∃i j,x = .int i/\y = .int j/\C i j/\Q (g i j) H
def nW (g:Int->Int->V):R2:=fun x y H Q=>∃i j,x = .int i/\y = .int j/\Q (g i j) H
def rU (g:Int->V):V->Hp->VK->Prop:=fun x H Q=>∃i,x = .int i/\Q (g i) H
section
variable {X:Cx}{a b c:Expr}{ta tb tc:TE}{pos:Pos}
theorem rK (ha:PE X a ta) (hb:PE X b tb) {pins:List (Addr×Obj)}{s:Shared}{σ:St}{H:Hp}{R:V->V->Hp->Prop}(I:Inv X pins σ H s)
    (h:ta σ H fun x H1=>tb σ H1 fun y H2=>R x y H2) {Q:Value->Shared->Prop}{f:Value->Value->Sem Value}
    (hf:∀v u s2 x y H2,Inv X pins σ H2 s2->RelV x v->RelV y u->R x y H2->wpAny (model X.prog X.w) X.A (f v u) Q X.xe s2) :
    wpAny (model X.prog X.w) X.A (eval a X.env) (fun v aI=>wpAny (model X.prog X.w) X.A (eval b X.env) (fun u dW=>wpAny (model X.prog X.w) X.A (f v u) Q X.xe dW) X.xe aI) X.xe s:=by
  refine aM (ha pins s σ H _ I h) fun v s1 aE=>?_
  obtain⟨x,H1,I1,r1,q1⟩:=aE;refine aM (hb pins s1 σ H1 _ I1 q1) fun u s2 aE=>?_
  obtain⟨y,H2,I2,r2,q2⟩:=aE;exact hf v u s2 x y H2 I2 r1 r2 q2
theorem ao {op:Operator}{r:R2}(ho:dR X (binaryOp op) r) (ha:PE X a ta) (hb:PE X b tb):PE X (.BinOp a op b pos) (iF r ta tb):=by
  intro pins s σ H Q I h;exact wpAny_BinOp (rK ha hb I h fun v u s2 x y H2 I2 rx ry q=>ho pins s2 σ H2 x y v u Q I2 rx ry q)
theorem oN {op:UnaryOp}{r:V->Hp->VK->Prop}(ho:Br X (unaryOp op) r) (ha:PE X a ta):PE X (.UnaryOp op a pos) (LU r ta):=by
  intro pins s σ H Q I h;exact UnaryOp_ (aM (ha pins s σ H _ I h) fun v s1 ⟨x,H1,I1,r1,q1⟩=>ho pins s1 σ H1 x v Q I1 r1 q1)
theorem zC {f:Value->Value->Sem Value}{C:Int->Int->Prop}{g:Int->Int->Int}
    (rule:∀(i j:Int) (t u:Tok) (s:Shared) (Q:Value->Shared->Prop) (E:Value->Shared->Prop),C i j->Q (.int (g i j) s.toks) { s with toks:=s.toks+1 }->wpAny (model X.prog X.w) X.A (f (.int i t) (.int j u)) Q E s) :
    dR X f (rI C fun i j=>.int (g i j)):=by
  intro pins s σ H x y v u Q I rx ry h;obtain⟨i,j,rfl,rfl,hc,q⟩:=h;obtain⟨t,rfl⟩:=rx;obtain⟨t',rfl⟩:=ry;exact rule i j t t' s _ _ hc ⟨.int (g i j),H,I.tok _,⟨_,rfl⟩,q⟩
theorem vU {f:Value->Value->Sem Value}{g:Int->Int->Int}
    (rule:∀(i j:Int) (t u:Tok) (s:Shared) (Q:Value->Shared->Prop) (E:Value->Shared->Prop),Q (.int (g i j) s.toks) { s with toks:=s.toks+1 }->wpAny (model X.prog X.w) X.A (f (.int i t) (.int j u)) Q E s) :
    dR X f (nW fun i j=>.int (g i j)):=by
  intro pins s σ H x y v u Q I rx ry h;obtain⟨i,j,rfl,rfl,q⟩:=h;obtain⟨t,rfl⟩:=rx;obtain⟨t',rfl⟩:=ry;exact rule i j t t' s _ _ ⟨.int (g i j),H,I.tok _,⟨_,rfl⟩,q⟩
theorem oO {f:Value->Value->Sem Value}{g:Int->Int->Bool}
    (rule:∀(i j:Int) (t u:Tok) (s:Shared) (Q:Value->Shared->Prop) (E:Value->Shared->Prop),Q (.bool (g i j)) s->wpAny (model X.prog X.w) X.A (f (.int i t) (.int j u)) Q E s) :
    dR X f (nW fun i j=>.bl (g i j)):=by
  intro pins s σ H x y v u Q I rx ry h;obtain⟨i,j,rfl,rfl,q⟩:=h;obtain⟨t,rfl⟩:=rx;obtain⟨t',rfl⟩:=ry;exact rule i j t t' s _ _ ⟨.bl (g i j),H,I,rfl,q⟩
def Bs (i j:Int):Prop:=0<j/\j<1073741824
def oQ (i j:Int):Prop:=0<=j/\j<=1000000/\i.natAbs<2 ^ 64
def rL (i j:Int):Prop:=(-(2 ^ 64)<i/\i<2 ^ 64)\/(-(2 ^ 64)<j/\j<2 ^ 64)
theorem rL.ok {i j:Int}(h:rL i j):IntMulOk i j:=by
  rcases h with ⟨h1,h2⟩ | ⟨h1,h2⟩
  · exact .of_left (intBits_le_64 h1 h2)
  · exact .of_right (intBits_le_64 h1 h2)
theorem jG:dR X (binaryOp .Add) (nW fun i j=>.int (i+j)):=vU fun _ _ _ _ _ _ _ q=>add_int q
theorem Bt:dR X (binaryOp .Sub) (nW fun i j=>.int (i-j)):=vU fun _ _ _ _ _ _ _ q=>sub_int q
theorem uN:dR X (binaryOp .Mult) (rI rL fun i j=>.int (i * j)):=zC fun _ _ _ _ _ _ _ hc q=>mul_int q hc.ok
theorem uO:dR X (binaryOp .FloorDiv) (rI Bs fun i j=>.int (i / j)):=zC fun i j _ _ _ _ _ hc q=>by
  have h1:(0:Int)<j:=hc.1;have h2:j<1073741824:=hc.2;exact floordiv_int (by omega) (by rw[Int.fdiv_eq_ediv_of_nonneg i (by omega)];exact q) (.inl (PyProof.noPylong_small (by omega)))
theorem gz:dR X (binaryOp .Mod) (rI (fun _ j=>0<j) fun i j=>.int (i%j)):=zC fun i j _ _ _ _ _ hc q=>by
  have h1:(0:Int)<j:=hc;exact mod_int' (by omega) (by rw[Int.fmod_eq_emod_of_nonneg i (by omega)];exact q)
theorem uP:dR X (binaryOp .Pow) (rI oQ fun i j=>.int (i ^ j.toNat)):=zC fun _ _ _ _ _ _ _ hc q=>pow_int_small hc.1 hc.2.1 hc.2.2 q
theorem LV {f:Value->Sem Value}{g:Int->Int}
    (rule:∀(i:Int) (t:Tok) (s:Shared) (Q:Value->Shared->Prop) (E:Value->Shared->Prop),Q (.int (g i) s.toks) { s with toks:=s.toks+1 }->wpAny (model X.prog X.w) X.A (f (.int i t)) Q E s) :
    Br X f (rU fun i=>.int (g i)):=by
  intro pins s σ H x v Q I rx h;obtain⟨i,rfl,q⟩:=h;obtain⟨t,rfl⟩:=rx;exact rule i t s _ _ ⟨.int (g i),H,I.tok _,⟨_,rfl⟩,q⟩
theorem oR:Br X (unaryOp .USub) (rU fun i=>.int (-i)):=LV fun _ _ _ _ _ q=>neg_int q
end
def vV:V->V->Bool
  | .aL,.aL=>true | .aL,.int _=>true | .int _,.aL=>true | .aL,.bl _=>true | .bl _,.aL=>true | .aL,.str _=>true | .str _,.aL=>true
  | .int _,.int _=>true | .bl _,.bl _=>true | .str _,.str _=>true | .lN _,.lN _=>true
  | .int _,.str _=>true | .str _,.int _=>true | .bl _,.str _=>true | .str _,.bl _=>true
  | _,_=>false
def LW:R2:=fun x y H Q=>vV x y=true/\Q (.bl (decide (x=y))) H
def LX:R2:=fun x y H Q=>vV x y=true/\Q (.bl (!decide (x=y))) H
theorem E9 {i j:Int}:decide (V.int i=V.int j)=(i == j):=by
  rw[Bool.eq_iff_iff];simp
theorem Fb {i j:Bool}:decide (V.bl i=V.bl j)=(i == j):=by
  rw[Bool.eq_iff_iff];simp
theorem Fc {i j:Str}:decide (V.str i=V.str j)=(i == j):=by
  rw[Bool.eq_iff_iff];simp
theorem Fd {i j:Array UInt8}:decide (V.lN i=V.lN j)=(i.toList == j.toList):=by
  rw[Bool.eq_iff_iff];cases i;cases j;simp
section
variable {X:Cx}{a b c:Expr}{ta tb tc:TE}{pos:Pos}
theorem fC {pins:List (Addr×Obj)}{σ:St}{H:Hp}{s:Shared}{Q:VK}{k k':Bool}(I:Inv X pins σ H s) (q:Q (.bl k) H) (e:k=k'):EP X pins σ Q (.bool k') s:=by
  subst e;exact⟨.bl k,H,I,rfl,q⟩
theorem iG:dR X (compareOp .Eq) LW:=by
  intro pins s σ H x y v u Q I rx ry h;obtain⟨hs,q⟩:=h;cases x with
  | aL=>
    cases rx;cases y with
    | aL=>cases ry;exact PySem.EqNone.eq_none_none (fC I q (by simp))
    | bl j=>cases ry;exact PySem.EqNone.eq_none_bool (fC I q (by simp))
    | int j=>obtain⟨t',rfl⟩:=ry;exact PySem.EqNone.eq_none_int (fC I q (by simp))
    | str j=>obtain⟨t',rfl⟩:=ry;exact PySem.EqNone.eq_none_str (fC I q (by simp))
    | _=>exact absurd (show false=true from hs) Bool.false_ne_true
  | bl i=>
    cases rx;cases y with
    | aL=>cases ry;exact PySem.EqNone.eq_bool_none (fC I q (by simp))
    | bl j=>cases ry;exact eq_bool (fC I q Fb)
    | str j=>obtain⟨t',rfl⟩:=ry;exact PySem.EqMixed.eq_bool_str (fC I q (by simp))
    | _=>exact absurd (show false=true from hs) Bool.false_ne_true
  | int i=>
    obtain⟨t,rfl⟩:=rx;cases y with
    | aL=>cases ry;exact PySem.EqNone.eq_int_none (fC I q (by simp))
    | int j=>obtain⟨t',rfl⟩:=ry;exact eq_int (fC I q E9)
    | str j=>obtain⟨t',rfl⟩:=ry;exact PySem.EqMixed.eq_int_str (fC I q (by simp))
    | _=>exact absurd (show false=true from hs) Bool.false_ne_true
  | str i=>
    obtain⟨t,rfl⟩:=rx;cases y with
    | aL=>cases ry;exact PySem.EqNone.eq_str_none (fC I q (by simp))
    | bl j=>cases ry;exact PySem.EqMixed.eq_str_bool (fC I q (by simp))
    | int j=>obtain⟨t',rfl⟩:=ry;exact PySem.EqMixed.eq_str_int (fC I q (by simp))
    | str j=>obtain⟨t',rfl⟩:=ry;exact eq_str (fC I q Fc)
    | _=>exact absurd (show false=true from hs) Bool.false_ne_true
  | lN i=>
    obtain⟨t,rfl⟩:=rx;cases y with
    | lN j=>obtain⟨t',rfl⟩:=ry;exact PySem.W.eq_bytes (fC I q Fd)
    | _=>exact absurd (show false=true from hs) Bool.false_ne_true
  | _=>cases y<;>exact absurd (show false=true from hs) Bool.false_ne_true
theorem qf:dR X (compareOp .NotEq) LX:=by
  intro pins s σ H x y v u Q I rx ry h;obtain⟨hs,q⟩:=h;cases x with
  | aL=>
    cases rx;cases y with
    | aL=>cases ry;exact PySem.EqNone.ne_none_none (fC I q (by simp))
    | bl j=>cases ry;exact PySem.EqNone.ne_none_bool (fC I q (by simp))
    | int j=>obtain⟨t',rfl⟩:=ry;exact PySem.EqNone.ne_none_int (fC I q (by simp))
    | str j=>obtain⟨t',rfl⟩:=ry;exact PySem.EqNone.ne_none_str (fC I q (by simp))
    | _=>exact absurd (show false=true from hs) Bool.false_ne_true
  | bl i=>
    cases rx;cases y with
    | aL=>cases ry;exact PySem.EqNone.ne_bool_none (fC I q (by simp))
    | bl j=>cases ry;exact ne_bool (fC I q (congrArg not Fb))
    | str j=>obtain⟨t',rfl⟩:=ry;exact PySem.EqMixed.ne_bool_str (fC I q (by simp))
    | _=>exact absurd (show false=true from hs) Bool.false_ne_true
  | int i=>
    obtain⟨t,rfl⟩:=rx;cases y with
    | aL=>cases ry;exact PySem.EqNone.ne_int_none (fC I q (by simp))
    | int j=>obtain⟨t',rfl⟩:=ry;exact ne_int (fC I q (congrArg not E9))
    | str j=>obtain⟨t',rfl⟩:=ry;exact PySem.EqMixed.ne_int_str (fC I q (by simp))
    | _=>exact absurd (show false=true from hs) Bool.false_ne_true
  | str i=>
    obtain⟨t,rfl⟩:=rx;cases y with
    | aL=>cases ry;exact PySem.EqNone.ne_str_none (fC I q (by simp))
    | bl j=>cases ry;exact PySem.EqMixed.ne_str_bool (fC I q (by simp))
    | int j=>obtain⟨t',rfl⟩:=ry;exact PySem.EqMixed.ne_str_int (fC I q (by simp))
    | str j=>obtain⟨t',rfl⟩:=ry;exact ne_str (fC I q (congrArg not Fc))
    | _=>exact absurd (show false=true from hs) Bool.false_ne_true
  | lN i=>
    obtain⟨t,rfl⟩:=rx;cases y with
    | lN j=>obtain⟨t',rfl⟩:=ry;exact PySem.W.ne_bytes (fC I q (congrArg not Fd))
    | _=>exact absurd (show false=true from hs) Bool.false_ne_true
  | _=>cases y<;>exact absurd (show false=true from hs) Bool.false_ne_true
theorem rM:dR X (compareOp .Lt) (nW fun i j=>.bl (decide (i<j))):=oO fun _ _ _ _ _ _ _ q=>lt_int q
theorem zD:dR X (compareOp .LtE) (nW fun i j=>.bl (decide (i<=j))):=oO fun _ _ _ _ _ _ _ q=>le_int q
theorem Fe:dR X (compareOp .Gt) (nW fun i j=>.bl (decide (j<i))):=oO fun _ _ _ _ _ _ _ q=>gt_int q
theorem LY:dR X (compareOp .GtE) (nW fun i j=>.bl (decide (j<=i))):=oO fun _ _ _ _ _ _ _ q=>ge_int q
theorem LZ:dR X (compareOp .In) (fun x y H Q=>∃i j,x = .str i/\y = .str j/\Q (.bl (!(Builtin.Str.occurrences j i 0 j.length 1).isEmpty)) H):=by
  intro pins s σ H x y v u Q I rx ry h;obtain⟨i,j,rfl,rfl,q⟩:=h;obtain⟨t,rfl⟩:=rx;obtain⟨t',rfl⟩:=ry;exact in_str (fC I q rfl)
theorem cK (b:Expr) {op:CmpOp}(h:op≠.In:=by decide) (h2:op≠.NotIn:=by decide):behindInMarks op b=false:=by
  have e1:(op == CmpOp.In)=false:=by cases op<;>first | rfl | exact absurd rfl h
  have e2:(op == CmpOp.NotIn)=false:=by cases op<;>first | rfl | exact absurd rfl h2
  cases b<;>simp[behindInMarks,e1,e2]
theorem rN {op:CmpOp}{r:R2}(ho:dR X (compareOp op) r) (ha:PE X a ta) (hb:PE X b tb) (hm:behindInMarks op b=false):PE X (.Compare a [op] [b] pos) (iF r ta tb):=by
  intro pins s σ H Q I h;exact wpAny_Compare1 (rK ha hb I h fun v u s2 x y H2 I2 rx ry q=>ho pins s2 σ H2 x y v u Q I2 rx ry q) hm
def zE (t:TE):TT:=fun σ H Q=>t σ H fun x H'=>∃k,x = .bl k/\Q k H'
theorem cO {op:CmpOp}{r:R2}(ho:dR X (compareOp op) r) (ha:PE X a ta) (hb:PE X b tb) (hm:behindInMarks op b=false):PT X (.Compare a [op] [b] pos) (zE (iF r ta tb)):=by
  intro pins s σ H Q I h;refine wpAny_isTrue_Compare1 (aM (ha pins s σ H _ I h) fun v s1 ⟨x,H1,I1,r1,q1⟩=>aM (hb pins s1 σ H1 _ I1 q1) fun u s2 ⟨y,H2,I2,r2,q2⟩=>
    aM (ho pins s2 σ H2 x y v u _ I2 r1 r2 q2) fun c s3 ⟨z,H3,I3,r3,k,e,q3⟩=>?_) hm
  subst e;cases r3;exact wpAny_truthy_bool ⟨H3,I3,q3⟩
def Ff (r r':R2) (ta tb tc:TE):TE:=fun σ H Q=>ta σ H fun x H1=>tb σ H1 fun y H2=>r x y H2 fun z H3=>∃k,z = .bl k/\
  (if k=true then tc σ H3 fun w' H4=>r' y w' H4 Q else Q (.bl false) H3)
theorem L7 {op rO:CmpOp}{r r':R2}(ho:dR X (compareOp op) r) (mT:dR X (compareOp rO) r') (ha:PE X a ta) (hb:PE X b tb) (hc:PE X c tc)
    (hm:lastMarks [op,rO] [b,c]=false:=by with_unfolding_all rfl):PE X (.Compare a [op,rO] [b,c] pos) (Ff r r' ta tb tc):=by
  intro pins s σ H Q I h;refine Compare_chain (aM (ha pins s σ H _ I h) fun v s1 ⟨x,H1,I1,r1,q1⟩=>chain_link (aM (hb pins s1 σ H1 _ I1 q1) fun u s2 ⟨y,H2,I2,r2,q2⟩=>
    aM (ho pins s2 σ H2 x y v u _ I2 r1 r2 q2) fun d s3 ⟨z,H3,I3,r3,k,e,q3⟩=>?_)) hm
  subst e;cases r3;refine wpAny_truthy_bool ?_;cases k with
  | false=>exact ite_ff ⟨.bl false,H3,I3,rfl,q3⟩
  | true=>exact ite_tt (chain_last (aM (hc pins s3 σ H3 _ I3 q3) fun w' s4 ⟨z',H4,I4,r4,q4⟩=>mT pins s4 σ H4 y z' u w' Q I4 r2 r4 q4))
theorem L8 {op rO:CmpOp}{r r':R2}(ho:dR X (compareOp op) r) (mT:dR X (compareOp rO) r') (ha:PE X a ta) (hb:PE X b tb) (hc:PE X c tc)
    (hm:lastMarks [op,rO] [b,c]=false:=by with_unfolding_all rfl):PT X (.Compare a [op,rO] [b,c] pos) (zE (Ff r r' ta tb tc)):=by
  intro pins s σ H Q I h;refine isTrue_chain (aM (ha pins s σ H _ I h) fun v s1 ⟨x,H1,I1,r1,q1⟩=>test_link (aM (hb pins s1 σ H1 _ I1 q1) fun u s2 ⟨y,H2,I2,r2,q2⟩=>
    aM (ho pins s2 σ H2 x y v u _ I2 r1 r2 q2) fun d s3 ⟨z,H3,I3,r3,k,e,q3⟩=>?_)) hm
  subst e;cases r3;refine wpAny_truthy_bool ?_;cases k with
  | false=>
    obtain⟨k',e',q'⟩:=q3;cases e';exact ite_ff ⟨H3,I3,q'⟩
  | true=>
    refine ite_tt (test_last (aM (hc pins s3 σ H3 _ I3 q3) fun w' s4 ⟨z',H4,I4,r4,q4⟩=>aM (mT pins s4 σ H4 y z' u w' _ I4 r2 r4 q4) fun d' s5 aE=>?_));obtain⟨z2,H5,I5,r5,k2,e2,q5⟩:=aE;subst e2;cases r5;exact wpAny_truthy_bool ⟨H5,I5,q5⟩
theorem vW:(sizeLine:Nat)<2 ^ 63:=by rw[sizeLine_eq];decide
theorem zq:dR X (binaryOp .Add) (fun x y H Q=>∃i j,x = .str i/\y = .str j/\i.length+j.length<=sizeLine/\Q (.str (i++j)) H):=by
  intro pins s σ H x y v u Q I rx ry h;obtain⟨i,j,rfl,rfl,hz,q⟩:=h;obtain⟨t,rfl⟩:=rx;obtain⟨t',rfl⟩:=ry;exact add_str (fun t' tk=>⟨.str (i++j),H,I.tok _,⟨_,rfl⟩,q⟩) hz
theorem jH {x:V}{us:List Value}(r:Vals [x] us):∃u,us = [u]/\RelV x u:=by
  cases r with
  | cons r1 r2=>cases r2;exact⟨_,rfl,r1⟩
theorem zF {x y:V}{us:List Value}(r:Vals [x,y] us):∃u w',us = [u,w']/\RelV x u/\RelV y w':=by
  cases r with
  | cons r1 r2=>
    cases r2 with
    | cons r3 r4=>cases r4;exact⟨_,_,rfl,r1,r3⟩
theorem Fg:i9 X (.type "str") (fun xs H Q=>∃i,xs = [.int i]/\i.natAbs.log2<1920/\Q (.str (toString i)) H):=by
  intro pins s σ H xs us Q I r h;obtain⟨i,rfl,hz,q⟩:=h;obtain⟨u,rfl,t,rfl⟩:=jH r;exact PySem.P.str_of_int hz ⟨.str _,H,I.tok _,⟨_,rfl⟩,q⟩
end
structure kC (h:Heap) (x dx C:Addr) (mA:Str->Option Value):Prop where
  obj:h.get? x=some (PySem.W.instObj C dx)
  ns:h.Ns1 dx mA
  ne:dx≠x
theorem zG {h:Heap}{dx:Addr}{mA:Str->Option Value}(n:h.Ns1 dx mA):∃od,h.get? dx=some od/\∀name,PySem.W.lookIn name od=some (mA name):=by
  obtain⟨o,es,ep,ho,hd,hk,_,hm⟩:=n;refine⟨o,ho,fun name=>?_⟩;have e:=hm name;unfold nsFind findBy at e;rw[←Array.find?_toList] at e;unfold PySem.W.lookIn;rw[hd];dsimp only;split
  · rename_i y q;rw[q] at e;exact congrArg some e
  · rename_i q;rw[q] at e;have a:es.toList.any (·.refKey)=false:=by
      rw[List.any_eq_false];intro y hy;obtain⟨z,t,Bu⟩:=hk y (Array.mem_toList_iff.mp hy);simp[DictEntry.refKey,Bu]
    have a':¬es.toList.any (·.refKey)=true:=by rw[a];exact Bool.false_ne_true
    rw[if_neg a'];exact congrArg some e
theorem kC.look {h:Heap}{x dx C:Addr}{mA:Str->Option Value}(I:kC h x dx C mA):∃od,PySem.W.InstAt h x (PySem.W.instObj C dx) C (some od)/\∀name,PySem.W.lookIn name od=some (mA name):=
  let ⟨od,ho,hl⟩:=zG I.ns
  ⟨od,⟨I.obj,rfl,rfl,ho⟩,hl⟩
section
variable {prog:Program}{w:World}{A:Around}{E:Value->Shared->Prop}{s:Shared}{K:PySem.W.Frag}{x dx C f:Addr}{mA:Str->Option Value}{name:Str}{v:Value}
theorem Ma {expr:Bool}{Q:Value->Shared->Prop}(X:K.In s.heap) (I:kC s.heap x dx C mA) (hg:PySem.W.plainGet K C name=true) (hh:PySem.W.hasDictIn K C=true)
    (ha:PySem.W.findIn K (.ref C) name=some none) (hv:mA name=some v) (Mb:PySem.W.handedIn v=true) (h:Q v { s with toks:=s.toks+1 }) :
    wpAny (model prog w) A (getAttr (.ref x) name expr) Q E s:=by
  obtain⟨od,J,hl⟩:=I.look;exact PySem.W.get_value X J (PySem.W.plainGet_of hg).1 (PySem.W.findObj_own hh ha rfl (by rw[hl,hv])) Mb h
theorem Mc {pl:Sem Bool}{Q:Value×List Value->Shared->Prop}(X:K.In s.heap) (I:kC s.heap x dx C mA) (hg:PySem.W.plainGet K C name=true)
    (hf:PySem.W.findIn K (.ref C) name=some (some (.ref f))) (ht:PySem.W.isFn K (.ref f)=true) (hv:mA name=none) (h:Q (.ref f,[.ref x]) s) :
    wpAny (model prog w) A (getMethod (.ref x) name pl) Q E s:=by
  obtain⟨od,J,hl⟩:=I.look;exact PySem.W.method_fn X J (PySem.W.plainGet_of hg).1 (PySem.W.plainGet_of hg).2 hf (beq_iff_eq.mp ht) (by show (PySem.W.lookIn name od).map (·.isSome)=some false;rw[hl,hv];rfl) h
theorem Me {ns:List Str}{Q:Unit->Shared->Prop}(X:K.In s.heap) (I:kC s.heap x dx C mA)
    (hs:PySem.W.findIn K (.ref C) "__setattr__" = some (some (.builtin "object.__setattr__"))) (hp:PySem.W.plainOver K C=true) (ht:PySem.W.takerIn K C name=some none) (hh:PySem.W.hasDictIn K C=true)
    (hw:PySem.Within mA ns) (hsz:ns.length<=sizeLine)
    (h:∀h',kC h' x dx C (fun y=>if y=name then some v else mA y)->Heap.SameBut dx s.heap h'->Q () { s with heap:=h',toks:=s.toks+2 }) :
    wpAny (model prog w) A (setAttr (.ref x) name v) Q E s:=by
  obtain⟨od,J,hl⟩:=I.look;refine PySem.W.set_plain X J hs (PySem.W.osa_open (s:={ s with toks:=s.toks+1 }) (r:=none) X J hp ht fun b=>?_);obtain⟨cd,hc,k8⟩:=PySem.W.any_some hh;have hx:s.heap.get? x=some ⟨.ref C,some dx,.plain,#[]⟩:=I.obj;refine wpAny_bind (wpAny_pure (wpAny_bind (wpAny_bind (wpAny_loadPart hx (wpAny_bind (PySem.W.Looks.here (s:={ s with toks:=s.toks+1 }) (PySem.W.looks_clsIn X hc) ?_))))));rw[k8];refine wpAny_pure (a:=some dx) (wpAny_bind (wpAny_pure (wpAny_bind ?_)));refine wpAny_nsSet1 (s:={ s with toks:=s.toks+1 }) I.ns fun h' qg jI=>?_
  obtain⟨oD,Mf,Mg,Bv,Bw,mY⟩:=qg.count (PySem.Within.cons name v hw);refine wpAny_bind (wpAny_lookBehind Bv (by rw[Bw];exact pastItsLine_dict (Nat.le_trans mY (by rw[List.length_cons];omega))) ?_);exact wpAny_pure (h _ ⟨(jI.2 _ (Ne.symm I.ne)).trans I.obj,qg,I.ne⟩ jI)
theorem Mh {R:Result->Shared->Prop}{vs:List Value}{kw:List (Str×Value)}(X:K.In s.heap) (hm:PySem.W.makesIn K C=true)
    (hi:PySem.W.findIn K (.ref C) "__init__" = some (some (.ref f))) (hf:PySem.W.typeIn K (.ref f)=some (.type "function"))
    (h:codeAny (model prog w) (A.under (.builtin "type.__call__" ⟨.ref C::vs,kw⟩)) (.call (.ref f) ⟨.ref (s.heap.objs.size+1)::vs,kw⟩) (PySem.W.InitBack (s.heap.objs.size+1) R)
      { s with heap:=(s.heap.push PySem.W.emptyDict).push (PySem.W.instObj C s.heap.objs.size) }) :
    codeAny (model prog w) A (.call (.ref C) ⟨vs,kw⟩) R s:=by
  obtain⟨hh,g,d,t,os⟩:=s;exact PySem.W.make_core (PySem.W.makes_of X hm) (PySem.W.looks_findIn X hi) (fun self=>PySem.W.bind_fn X self hf) (.inl rfl) h
end
def bz (f:Str) (v:V):List (Str×V)->List (Str×V)
  | []=>[(f,v)]
  | (g,x)::r=>if g=f then (g,v)::r else (g,x)::bz f v r
theorem Fi (f g:Str) (v:V):∀fs:List (Str×V),(bz f v fs).lookup g=if g=f then some v else fs.lookup g
  | []=>by
    show List.lookup g [(f,v)]=_
    by_cases h:g=f
    · have hb:(g == f)=true:=beq_iff_eq.mpr h;simp only [List.lookup,hb,if_pos h]
    · have hb:(g == f)=false:=beq_eq_false_iff_ne.mpr h;simp only [List.lookup,hb,if_neg h]
  | (k,x)::r=>by
    have ih:=Fi f g v r;rw[show bz f v ((k,x)::r)=(if k=f then (k,v)::r else (k,x)::bz f v r) from rfl]
    by_cases hk:k=f
    · rw[if_pos hk]
      by_cases h:g=k
      · have hb:(g == k)=true:=beq_iff_eq.mpr h;simp only [List.lookup,hb,if_pos (h.trans hk)]
      · have hb:(g == k)=false:=beq_eq_false_iff_ne.mpr h;simp only [List.lookup,hb,if_neg (fun e:g=f=>h (e.trans hk.symm))]
    · rw[if_neg hk]
      by_cases h:g=k
      · have hb:(g == k)=true:=beq_iff_eq.mpr h;simp only [List.lookup,hb,if_neg (fun e:g=f=>hk (h.symm.trans e))]
      · have hb:(g == k)=false:=beq_eq_false_iff_ne.mpr h;simp only [List.lookup,hb];exact ih
theorem Bx (f:Str) (v:V):∀fs:List (Str×V),f∈(bz f v fs).map (·.1)/\∀g,g∈fs.map (·.1)->g∈(bz f v fs).map (·.1)
  | []=>⟨by simp[bz],fun g h=>by simp at h⟩
  | (k,x)::r=>by
    obtain⟨i1,i2⟩:=Bx f v r;rw[show bz f v ((k,x)::r)=(if k=f then (k,v)::r else (k,x)::bz f v r) from rfl]
    by_cases hk:k=f
    · rw[if_pos hk];subst hk;exact⟨by simp,fun g h=>by simpa using h⟩
    · rw[if_neg hk];refine⟨?_,fun g h=>?_⟩
      · rw[List.map_cons];exact List.mem_cons_of_mem _ i1
      · rw[List.map_cons] at h ⊢;rcases List.mem_cons.mp h with e | e
        · exact List.mem_cons.mpr (.inl e)
        · exact List.mem_cons_of_mem _ (i2 g e)
theorem vX (f:Str) (v:V):∀fs:List (Str×V),(bz f v fs).length<=fs.length+1
  | []=>by simp[bz]
  | (k,x)::r=>by
    have ih:=vX f v r;rw[show bz f v ((k,x)::r)=(if k=f then (k,v)::r else (k,x)::bz f v r) from rfl]
    by_cases hk:k=f
    · rw[if_pos hk,List.length_cons,List.length_cons];omega
    · rw[if_neg hk,List.length_cons,List.length_cons];omega
theorem eV.some_of {v:V}{o:Option Value}(r:eV (some v) o):∃u,o=some u/\RelV v u:=by
  cases o with
  | none=>exact (show False from r).elim
  | some u=>exact⟨u,rfl,r⟩
theorem eV.none_of {o:Option Value}(r:eV none o):o=none:=by
  cases o with
  | none=>rfl
  | some u=>exact (show False from r).elim
theorem By {v:V}{u:Value}(r:RelV v u):PySem.W.handedIn u=true:=by
  cases v with
  | aL=>cases (show u=Value.none from r);rfl
  | bl b=>cases (show u=Value.bool b from r);rfl
  | int i=>obtain⟨t,e⟩:=(show ∃t,u=Value.int i t from r);cases e;rfl
  | str x=>obtain⟨t,e⟩:=(show ∃t,u=Value.str x t from r);cases e;rfl
  | lN b=>obtain⟨t,e⟩:=(show ∃t,u=Value.bytes b t from r);cases e;rfl
  | pX b=>obtain⟨t,e⟩:=(show ∃t,u=Value.float b t from r);cases e;rfl
  | ref a=>cases (show u=Value.ref a from r);rfl
  | ty n=>cases (show u=Value.type n from r);rfl
section
variable {P:Program}{w:World}{H H':Hp}{h h':Heap}{a C dx:Addr}{fs uF:List (Str×V)}
theorem zH (aF:fq P w H h) (e:H a=some (.ins C dx fs)):∃mA,kC h a dx C mA/\(∀f,eV (fs.lookup f) (mA f))/\PySem.Within mA (fs.map (·.1))/\fs.length<=1000/\H dx=some (.own a):=by
  obtain⟨d,z,ne,ob,mA,n,r,q⟩:=(show aH P w H h a (.ins C dx fs) from aF a _ e);exact⟨mA,⟨ob,n,ne⟩,r,q,z,d⟩
end
structure kD (K:PySem.W.Frag) (C:Addr):Prop where
  pg:PySem.W.plainGet K C Str.empty=true
  hd:PySem.W.hasDictIn K C=true
  po:PySem.W.plainOver K C=true
  sa:PySem.W.findIn K (.ref C) "__setattr__" = some (some (.builtin "object.__setattr__"))
theorem kD.get {K:PySem.W.Frag}{C:Addr}(c:kD K C) (f:Str):PySem.W.plainGet K C f=true:=c.pg
def av (K:PySem.W.Frag) (C:Addr) (f:Str):Prop:=PySem.W.findIn K (.ref C) f=some none
theorem av.qh {K:PySem.W.Frag}{C:Addr}{f:Str}(n:av K C f):PySem.W.takerIn K C f=some none:=by
  unfold PySem.W.takerIn;rw[show PySem.W.findIn K (.ref C) f=some none from n];rfl
structure Meth (K:PySem.W.Frag) (C:Addr) (m:Str) (f:Addr):Prop where
  at_:PySem.W.findIn K (.ref C) m=some (some (.ref f))
  fn:PySem.W.isFn K (.ref f)=true
  kp:PySem.W.keepIn K (.ref f)=true
section
variable {X:Cx}{pins:List (Addr×Obj)}{σ:St}{H:Hp}{s:Shared}{a C dx:Addr}{fs:List (Str×V)}{f:Str}{v:V}{A:Around}{E:Value->Shared->Prop}
theorem Mi {b:Bool}{Q:Value->Shared->Prop}(I:Inv X pins σ H s) (e:H a=some (.ins C dx fs)) (c:kD X.K C) (n:av X.K C f) (l:fs.lookup f=some v)
    (h:∀u s',Inv X pins σ H s'->RelV v u->Q u s'):wpAny (model X.prog X.w) A (getAttr (.ref a) f b) Q E s:=by
  obtain⟨mA,O,r,_,_,_⟩:=zH I.aF e;obtain⟨u,hu,ru⟩:=eV.some_of (v:=v) (o:=mA f) (by rw[←l];exact r f);exact Ma I.cS O (c.get f) c.hd n hu (By ru) (h u _ (I.tok _) ru)
theorem BA {m:Str}{g:Addr}{pl:Sem Bool}{Q:Value×List Value->Shared->Prop}(I:Inv X pins σ H s) (e:H a=some (.ins C dx fs)) (c:kD X.K C) (k:Meth X.K C m g) (l:fs.lookup m=none)
    (h:Q (.ref g,[.ref a]) s):wpAny (model X.prog X.w) A (getMethod (.ref a) m pl) Q E s:=by
  obtain⟨mA,O,r,_,_,_⟩:=zH I.aF e;have hn:mA m=none:=eV.none_of (by rw[←l];exact r m);exact Mc I.cS O (c.get m) k.at_ k.fn hn h
theorem Mj {y:V}{u:Value}{Q:Unit->Shared->Prop}(I:Inv X pins σ H s) (e:H a=some (.ins C dx fs)) (c:kD X.K C) (n:av X.K C f) (hl:fs.length<1000) (ry:RelV y u)
    (h:∀s',Inv X pins σ (upd H a (.ins C dx (bz f y fs))) s'->Q () s'):wpAny (model X.prog X.w) A (setAttr (.ref a) f u) Q E s:=by
  obtain⟨mA,O,r,wi,_,ho⟩:=zH I.aF e;have hz:(fs.map (·.1)).length<=sizeLine:=by rw[List.length_map,sizeLine_eq];omega
  refine Me I.cS O c.sa c.po n.qh c.hd wi hz fun h' O' sb=>h _ ?_
  have hd:∃o,h'.get? dx=some o:=let ⟨o,_,_,e',_⟩:=O'.ns;⟨o,e'⟩
  refine I.write (x:=a) (e:=dx) (by rw[e];exact True.intro) (.inr ho) (fun b q hb z=>(sb.2 b hb).trans z) hd ?_;refine⟨by rw[aJ O.ne];exact ho,?_,O.ne,O'.obj,_,O'.ns,fun g=>?_,fun g hg=>?_⟩
  · have:=vX f y fs;omega
  · show eV ((bz f y fs).lookup g) (if g=f then some u else mA g);rw[Fi]
    by_cases q:g=f
    · rw[if_pos q,if_pos q];exact ry
    · rw[if_neg q,if_neg q];exact r g
  · by_cases q:g=f
    · rw[q];exact (Bx f y fs).1
    · refine (Bx f y fs).2 g (wi g fun z=>hg ?_);show (if g=f then some u else mA g)=none;rw[if_neg q];exact z
theorem Inv.made (I:Inv X pins σ H s):Inv X pins σ (upd (upd H s.heap.objs.size (.own (s.heap.objs.size+1))) (s.heap.objs.size+1) (.ins C s.heap.objs.size []))
    { s with heap:=(s.heap.push PySem.W.emptyDict).push (PySem.W.instObj C s.heap.objs.size) }:=by
  have e1:(s.heap.push PySem.W.emptyDict).get? s.heap.objs.size=some PySem.W.emptyDict:=Heap.get?_push_size s.heap rfl;have e2:((s.heap.push PySem.W.emptyDict).push (PySem.W.instObj C s.heap.objs.size)).get? (s.heap.objs.size+1)=some (PySem.W.instObj C s.heap.objs.size):=by
    have:=Heap.get?_push_size (s.heap.push PySem.W.emptyDict) (o:=PySem.W.instObj C s.heap.objs.size) rfl
    rwa [Heap.size_push] at this
  have e3:(s.heap.push PySem.W.emptyDict).Ns s.heap.objs.size (fun _=>none):=⟨PySem.W.emptyDict,#[],_,e1,rfl,(fun e he=>absurd he (by simp)),fun _=>rfl⟩;have I1:=I.laid (a:=s.heap.objs.size) (o:=.own (s.heap.objs.size+1)) (h':=s.heap.push PySem.W.emptyDict) (t':=s.toks) (fun b u q=>Heap.get?_push_of_some _ q) (Nat.le_refl _) ⟨_,e1⟩;refine I1.laid (a:=s.heap.objs.size+1) (o:=.ins C s.heap.objs.size []) (t':=s.toks) (fun b u q=>Heap.get?_push_of_some _ q) (Nat.le_of_eq (Heap.size_push _ _)) ?_;have ne:s.heap.objs.size≠s.heap.objs.size+1:=Nat.ne_of_lt (Nat.lt_succ_self _);refine⟨by rw[aJ ne,zd],Nat.zero_le _,ne,e2,fun _=>none,(Heap.Ns1.of_empty e3).at fun o q=>Heap.get?_push_of_some _ q,fun _=>True.intro,fun y hy=>absurd rfl hy⟩
theorem BB {prog:Program}{w:World}{env:Env}{e:Expr}{f:Str}{pos:Pos}{s:Shared}{Q:Value->Shared->Prop}(hb:attributeBase e f env (eval e env)=eval e env)
    (h:wpAny (model prog w) A (eval e env) (fun o aI=>wpAny (model prog w) A (getAttr o f true) Q E aI) E s):wpAny (model prog w) A (eval (.Attribute e f pos) env) Q E s:=
  Attribute_any_ h (by rw[arm_eval_Attribute,hb])
end
def BC (K:PySem.W.Frag) (ta:TE) (f:Str):TE:=fun σ H Q=>ta σ H fun x H1=>∃a C dx fs v,x = .ref a/\H1 a=some (.ins C dx fs)/\kD K C/\av K C f/\fs.lookup f=some v/\Q v H1
def BD (K:PySem.W.Frag) (ta tv:TE) (f:Str):TS:=fun D σ H=>tv σ H fun y H1=>ta σ H1 fun x H2=>∃a C dx fs,x = .ref a/\H2 a=some (.ins C dx fs)/\kD K C/\av K C f/\fs.length<1000/\
  D.nx σ (upd H2 a (.ins C dx (bz f y fs)))
section
variable {X:Cx}{o e value:Expr}{f:Str}{pos pos' jq:Pos}{ta tv:TE}
theorem iY (he:PE X e ta) (hb:attributeBase e f X.env (eval e X.env)=eval e X.env):PE X (.Attribute e f pos) (BC X.K ta f):=by
  intro pins s σ H Q I h;refine BB hb (aM (he pins s σ H _ I h) fun u s1 aE=>?_);obtain⟨x,H1,I1,rx,a,C,dx,fs,v,ex,ea,c,n,l,q⟩:=aE;subst ex;obtain rfl:u=Value.ref a:=rx;exact Mi I1 ea c n l fun u' s2 I2 ru=>⟨v,H1,I2,ru,q⟩
theorem uQ (ha:PE X o ta) (hv:PE X value tv) (hs:swapsWith value (some (.Attribute o f pos')) pos.line X.env=pure false):PS X (.Assign [.Attribute o f pos'] value pos) (BD X.K ta tv f):=by
  intro pins s σ H D I h;refine plainObj_wpAny_Assign_Attribute (aM (hv pins s σ H _ I h) fun u s1 ⟨y,H1,I1,ry,q⟩=>aM (ha pins s1 σ H1 _ I1 q) fun ov s2 aE=>?_) hs;obtain⟨x,H2,I2,rx,a,C,dx,fs,ex,ea,c,n,l,q2⟩:=aE;subst ex;obtain rfl:ov=Value.ref a:=rx;exact Mj I2 ea c n l ry fun s3 I3=>⟨σ,_,I3,q2⟩
theorem Yv {pl:Sem Bool}{m:Str}{apos:Pos}{args:List Expr}{pins:List (Addr×Obj)}{s:Shared}{σ:St}{H:Hp}{Q:Value->Shared->Prop}{te:TE}(he:PE X e te) (I:Inv X pins σ H s)
    (h:te σ H fun x H1=>∃a C dx fs g,x = .ref a/\H1 a=some (.ins C dx fs)/\kD X.K C/\Meth X.K C m g/\fs.lookup m=none/\
      ∀s1,Inv X pins σ H1 s1->wpAny (model X.prog X.w) X.A (callWith pos (.ref g) [.ref a] (backTo pos (starEach args X.env)) (backToKw pos (keywordEach [] X.env))) Q X.xe s1)
    (ht:eval (.Call (.Attribute e m apos) args [] pos) X.env=(do
      let ov ←eval e X.env
      standAt apos.atName
      let (f,first) ←holding [ov] (getMethod ov m pl)
      callWith pos f first (backTo pos (starEach args X.env)) (backToKw pos (keywordEach [] X.env)))) :
    wpAny (model X.prog X.w) X.A (eval (.Call (.Attribute e m apos) args [] pos) X.env) Q X.xe s:=by
  refine PySem.W.methodCall_KW (pl:=pl) (aM (he pins s σ H _ I h) fun u s1 aE=>?_) ht;obtain⟨x,H1,I1,rx,a,C,dx,fs,g,ex,ea,c,k,l,q⟩:=aE;subst ex;obtain rfl:u=Value.ref a:=rx;exact BA I1 ea c k l (q s1 I1)
end
section
variable {X:Cx}{pins:List (Addr×Obj)}{σ:St}{H:Hp}{s:Shared}{A:Around}{E:Value->Shared->Prop}{Q:Value->Shared->Prop}{c:Value}{b:Bool}
inductive fE (K:PySem.W.Frag) (H:Hp):V->Value->Prop where
  | aL:fE K H .aL (.type "NoneType")
  | bl (x:Bool):fE K H (.bl x) (.type "bool")
  | int (i:Int):fE K H (.int i) (.type "int")
  | str (x:Str):fE K H (.str x) (.type "str")
  | pX (x:UInt64):fE K H (.pX x) (.type "float")
  | lst {a:Addr}{xs:List V}(e:H a=some (.lst xs)):fE K H (.ref a) (.type "list")
  | k7 {a:Addr}{o:Obj}{xs:List V}(e:H a=some (.k7 o (.lst xs))):fE K H (.ref a) (.type "list")
  | tup {a:Addr}{xs:List V}(e:H a=some (.tup xs)):fE K H (.ref a) (.type "tuple")
  | dK {a:Addr}{aq:List (Key×V)}(e:H a=some (.dK aq)):fE K H (.ref a) (.type "dict")
  | dT {a:Addr}{aq:List (List Key×V)}(e:H a=some (.dT aq)):fE K H (.ref a) (.type "dict")
  | ins {a C dx:Addr}{fs:List (Str×V)}(e:H a=some (.ins C dx fs)) (cl:kD K C) (ha:PySem.W.findIn K (.ref C) "__class__" = some (some (.builtin "object.__class__")))
      (hn:PySem.W.specialIn K (.builtin "object.__class__") "__get__" = some (some (.builtin "getset_descriptor.__get__"))) (zI:PySem.W.takesIn K (.builtin "object.__class__")=some true)
      (hm:PySem.W.mroIn K C (.type "object")=some true):fE K H (.ref a) (.ref C)
theorem Ml {x:V}{u t:Value}(I:Inv X pins σ H s) (rx:RelV x u) (ty:fE X.K H x t) (e:PySem.W.kitOne X.K t c=some b) (h:∀tk,Q (.bool b) { s with toks:=tk }) :
    wpAny (model X.prog X.w) A (call (.builtin "isinstance") [u,c]) Q E s:=by
  cases ty with
  | aL=>cases (show u=Value.none from rx);exact PySem.W.kia_one PySem.W.kitx_none I.cS True.intro e (fun z=>nomatch z) h
  | bl y=>cases (show u=Value.bool y from rx);exact PySem.W.kia_one PySem.W.kitx_bool I.cS True.intro e (fun z=>nomatch z) h
  | int i=>obtain⟨t,q⟩:=(show ∃t,u=Value.int i t from rx);cases q;exact PySem.W.kia_one PySem.W.kitx_int I.cS True.intro e (fun z=>nomatch z) h
  | str y=>obtain⟨t,q⟩:=(show ∃t,u=Value.str y t from rx);cases q;exact PySem.W.kia_one PySem.W.kitx_str I.cS True.intro e (fun z=>nomatch z) h
  | pX y=>obtain⟨t,q⟩:=(show ∃t,u=Value.float y t from rx);cases q;exact PySem.W.kia_one PySem.W.kitx_float I.cS True.intro e (fun z=>nomatch z) h
  | @lst a xs ea=>
    cases (show u=Value.ref a from rx);obtain⟨_,_,n,_,h1⟩:=(show aH X.prog X.w H s.heap a (.lst xs) from I.aF a _ ea);exact PySem.W.kia_one PySem.W.kitx_list I.cS ⟨_,h1,rfl⟩ e (fun z=>nomatch z) h
  | @k7 a ob xs ea=>
    cases (show u=Value.ref a from rx);obtain⟨_,_,_,n,_,h1⟩:=(show aH X.prog X.w H s.heap a (.k7 ob (.lst xs)) from I.aF a _ ea);exact PySem.W.kia_one PySem.W.kitx_list I.cS ⟨_,h1,rfl⟩ e (fun z=>nomatch z) h
  | @tup a xs ea=>
    cases (show u=Value.ref a from rx);obtain⟨_,_,_,p⟩:=(show aH X.prog X.w H s.heap a (.tup xs) from I.aF a _ ea);obtain⟨o,h1,h2,_⟩:=p;exact PySem.W.kia_one PySem.W.kitx_tuple I.cS ⟨o,h1,h2⟩ e (fun z=>nomatch z) h
  | @dK a aq ea=>
    cases (show u=Value.ref a from rx);obtain⟨_,_,vs,_,p⟩:=(show aH X.prog X.w H s.heap a (.dK aq) from I.aF a _ ea);obtain⟨o,es,ep,h1,h2,_⟩:=p;exact PySem.W.kia_one PySem.W.kitx_dict I.cS ⟨o,h1,h2.1⟩ e (fun z=>nomatch z) h
  | @dT a aq ea=>
    cases (show u=Value.ref a from rx);obtain⟨_,_,xs,_,o,es,ep,h1,h2,_⟩:=(show aH X.prog X.w H s.heap a (.dT aq) from I.aF a _ ea);exact PySem.W.kia_one PySem.W.kitx_dict I.cS ⟨o,h1,h2.1⟩ e (fun z=>nomatch z) h
  | @ins a C dx fs ea cl ha hn zI hm=>
    cases (show u=Value.ref a from rx);obtain⟨mA,O,_⟩:=zH I.aF ea;obtain⟨od,J,_⟩:=O.look;exact PySem.W.kia_one (PySem.W.kitx_own (cl.get _) cl.hd ha hn zI hm) I.cS J e (fun z=>nomatch z) h
end
structure aX (k:Nat) (A:Around):Prop where
  hd:A.handled=none
  dp:A.depth+3 * k+5<recursionLimit
  un:A.units+16 * k+200<cLine
theorem aX.mono {j k:Nat}{A:Around}(r:aX k A) (h:j<=k):aX j A:=⟨r.hd,by have:=r.dp;omega,by have:=r.un;omega⟩
theorem aX.deeper {k:Nat}{A:Around}(r:aX (k+1) A) (env:Env):aX k (A.deeper env):=
  ⟨r.hd,by have:=r.dp;show A.depth+1+3 * k+5<_;omega,by have:=r.un;show A.units+3+16 * k+200<_;omega⟩
theorem Mm {A:Around}{C:Addr}{us:List Value}{kw:List (Str×Value)}:(A.under (.builtin "type.__call__" ⟨.ref C::us,kw⟩)).depth=A.depth+1:=by
  first | rfl | simp[Around.under,Code.weight,Code.isCreation,Code.isGuard,Code.isCaller,Code.frames,Code.isFrame,guardIds]
theorem Mn {A:Around}{C:Addr}{us:List Value}{kw:List (Str×Value)}:(A.under (.builtin "type.__call__" ⟨.ref C::us,kw⟩)).units=A.units+1:=by
  first | rfl | simp[Around.under,Code.cUnits,Code.frames,Code.isFrame]
theorem aX.make {k:Nat}{A:Around}(r:aX (k+1) A) (C:Addr) (us:List Value) (kw:List (Str×Value)):aX k (A.under (.builtin "type.__call__" ⟨.ref C::us,kw⟩)):=
  ⟨r.hd,by have:=r.dp;rw[Mm];omega,by have:=r.un;rw[Mn];omega⟩
theorem aX.depth {k:Nat}{A:Around}(r:aX k A):A.depth<recursionLimit:=by have:=r.dp;omega
theorem aX.units {k:Nat}{A:Around}(r:aX k A):A.units+64<cLine:=by have:=r.un;omega
def gZ:TA:=fun _ H Q=>Q [] H
def oS (ta:TE) (tr:TA):TA:=fun σ H Q=>ta σ H fun x H1=>tr σ H1 fun xs H2=>Q (x::xs) H2
section
variable {X:Cx}{e:Expr}{es:List Expr}{te:TE}{t:TA}{pos:Pos}
theorem zh:PA X [] gZ:=fun _ _ _ _ H Q I h=>Calls.spliced_nil ⟨[],H,I,.nil,h⟩
theorem za (ha:PE X e te) (hr:PA X es t) (hs:starEach (e::es) X.env=(false,eval e X.env)::starEach es X.env:=by rfl):PA X (e::es) (oS te t):=by
  intro pos pins s σ H Q I h;rw[hs];show wpAny _ _ (spliced ((false,eval e X.env)::backTo pos (starEach es X.env))) _ _ s;refine Calls.spliced_cons (aM (ha pins s σ H _ I h) fun u s1 aE=>?_);obtain⟨x,H1,I1,r1,q1⟩:=aE;exact aM (hr pos pins s1 σ H1 _ I1 q1) fun us s2 ⟨xs,H2,I2,r2,q2⟩=>⟨x::xs,H2,I2,.cons r1 r2,q2⟩
def vY (t:TA):TE:=fun σ H Q=>t σ H fun xs H1=>xs.length<=sizeLine/\∀p,H1 p=none->Q (.ref p) (upd H1 p (.tup xs))
def fX (t:TA):TE:=fun σ H Q=>t σ H fun xs H1=>xs.length<=sizeLine/\∀p,H1 p=none->Q (.ref p) (upd H1 p (.lst xs))
theorem dJ {x1}(h:PA X es t):PE X (.Tuple es x1 pos) (vY t):=by
  intro pins s σ H Q I hq;refine wpAny_Tuple_spliced (aM (h pos pins s σ H _ I hq) fun us s1 ⟨xs,H1,I1,r,z,q⟩=>⟨by rw[←r.length];exact z,?_⟩);have hf:H1 s1.heap.objs.size=none:=I1.aF.fresh (Nat.le_refl _);refine⟨.ref s1.heap.objs.size,upd H1 s1.heap.objs.size (.tup xs),I1.laid (t':=s1.toks) (fun b u e=>Heap.get?_push_of_some _ e) (Nat.le_refl _) ?_,rfl,q _ hf⟩;exact⟨z,us,r,⟨_,Heap.get?_push_size _ rfl,rfl,_,rfl⟩⟩
theorem dm (h:PA X es t):PE X (.List es pos) (fX t):=by
  intro pins s σ H Q I hq;refine wpAny_List_spliced (aM (h pos pins s σ H _ I hq) fun us s1 ⟨xs,H1,I1,r,z,q⟩=>⟨by rw[←r.length];exact z,?_⟩);have hf:H1 s1.heap.objs.size=none:=I1.aF.fresh (Nat.le_refl _);refine⟨.ref s1.heap.objs.size,upd H1 s1.heap.objs.size (.lst xs),I1.laid (t':=s1.toks) (fun b u e=>Heap.get?_push_of_some _ e) (Nat.le_refl _) ?_,rfl,q _ hf⟩;exact⟨z,us,0,r,Heap.get?_push_size _ rfl⟩
end
abbrev Sp:=List V->Hp->VK->XK->Prop
abbrev jJ:=List Env->Hp->Shared->XK->Value->Shared->Prop
structure kF (P:Program) (w:World) (K:PySem.W.Frag) (mg:Str->Option Value) (base:Heap) (A:Around) (outer:List Env) (s:Shared) (H:Hp):Prop where
  frames:A.frames=some outer
  mod:Mod K mg base
  bs:∀b o,base.get? b=some o->s.heap.get? b=some o/\H b=none
  mj:base.objs.size<=s.heap.objs.size
  fW:s.heap.FunFrames base outer
  oJ:∀b∈cR outer,H b=none
  aF:fq P w H s.heap
  bare:AllBare s.gens
def CE (outer:List Env) (P:Program) (w:World) (H:Hp) (s:Shared) (Q:VK) (u:Value) (s':Shared):Prop:=
  ∃v H',s'.os=s.os/\AllBare s'.gens/\Un (cR outer) [] H H' s.heap s'.heap/\fq P w H' s'.heap/\RelV v u/\Q v H'
def CR (CX:jJ) (outer:List Env) (P:Program) (w:World) (H:Hp) (s:Shared) (Q:VK) (E:XK) (r:Result) (s':Shared):Prop:=
  match r with
  | .ok (.ret u)=>CE outer P w H s Q u s'
  | .ok _=>False
  | .error e=>CX outer H s E e s'
structure eg (P:Program) (w:World) (K:PySem.W.Frag) (mg:Str->Option Value) (base:Heap) (CX:jJ) (k:Nat) (f:Addr) (fd:FuncData) (ps:List Str) (sp:Sp):Prop where
  len:∀vs H Q E,sp vs H Q E->vs.length=ps.length
  run:∀(A:Around) (outer:List Env) (s:Shared) (H:Hp) (args:Args) (us:List Value) (vs:List V) (Q:VK) (E:XK),aX k A->kF P w K mg base A outer s H->BindsTo s fd args (ps.zip us)->Vals vs us->sp vs H Q E->
    codeAny (model P w) A (.call (.ref f) args) (CR CX outer P w H s Q E) s
theorem kF.make {P:Program}{w:World}{K:PySem.W.Frag}{mg:Str->Option Value}{base:Heap}{A:Around}{outer:List Env}{s:Shared}{H:Hp}(e:kF P w K mg base A outer s H) (C:Addr) (us:List Value) (kw:List (Str×Value)) :
    kF P w K mg base (A.under (.builtin "type.__call__" ⟨.ref C::us,kw⟩)) outer s H:=⟨by first | exact e.frames | (simpa[Around.under,Code.envs,Code.isFrame,pushEnvs] using e.frames),e.mod,e.bs,e.mj,e.fW,e.oJ,e.aF,e.bare⟩
section
variable {X:Cx}{pins:List (Addr×Obj)}{σ:St}{H:Hp}{s s':Shared}
theorem Inv.mZ (I:Inv X pins σ H s):kF X.prog X.w X.K X.mg X.base X.A X.stack s H:=
  ⟨I.ok.frames,I.ok.mod,I.bs,Nat.le_trans I.ok.mj I.sz,I.stack,I.iz,I.aF,I.bare⟩
theorem Inv.after {Q:VK}{u:Value}(I:Inv X pins σ H s) (h:CE X.stack X.prog X.w H s Q u s'):EP X pins σ Q u s':=by
  obtain⟨v,H',os,bare,un,aF,r,q⟩:=h;obtain⟨hh,g,d,t,Mp⟩:=s';obtain rfl:Mp=s.os:=os;exact⟨v,H',I.call (h':=hh) (g':=g) (d':=d) (t':=t) (ch:=[]) un aF bare (fun b z=>absurd z (by simp)),r,q⟩
end
def zJ (sp:Sp) (fY:List V) (E:XK) (t:TA):TE:=fun σ H Q=>t σ H fun vs H1=>sp (vs++fY) H1 Q E
def vZ (C:Addr) (m:Str) (sp:Sp) (fY:List V) (E:XK) (ta:TE) (t:TA):TE:=fun σ H Q=>ta σ H fun x H1=>∃a dx fs,x = .ref a/\H1 a=some (.ins C dx fs)/\fs.lookup m=none/\
  t σ H1 fun vs H2=>sp (x::(vs++fY)) H2 Q E
def Fj (C:Addr) (sp:Sp) (fY:List V) (E:XK) (t:TA):TE:=fun σ H Q=>t σ H fun vs H1=>∀x dx,H1 x=none->H1 dx=none->dx≠x->
  sp (.ref x::(vs++fY)) (upd (upd H1 dx (.own x)) x (.ins C dx [])) (fun v H2=>v = .aL/\Q (.ref x) H2) E
def Binds (K:PySem.W.Frag) (fd:FuncData) (ps:List Str) (ds:List Value):Prop:=
  ∀(s:Shared) (us:List Value),K.In s.heap->(us++ds).length=ps.length->BindsTo s fd ⟨us,[]⟩ (ps.zip (us++ds))
theorem Binds.all {K:PySem.W.Frag}{fd:FuncData}{ps:List Str}(h:∀us:List Value,us.length=ps.length->bindArgs fd ⟨us,[]⟩=pure (ps.zip us)):Binds K fd ps []:=fun s us _ hl=>by
  rw[List.append_nil] at hl ⊢;exact .of_eq (h us hl)
def lP (CX:jJ) (X:Cx) (E:XK):Prop:=∀(pins:List (Addr×Obj)) (σ:St) (H:Hp) (s:Shared) (e:Value) (s':Shared),Inv X pins σ H s->CX X.stack H s E e s'->X.xe e s'
section
variable {X:Cx}{CX:jJ}{k:Nat}{f C:Addr}{fd:FuncData}{ps:List Str}{sp:Sp}{fY:List V}{ds:List Value}{E:XK}{x m:Str}{p pos apos:Pos}{e o:Expr}{es:List Expr}{ta:TE}{t:TA}
theorem BE {pins:List (Addr×Obj)}{σ:St}{H:Hp}{s:Shared}{Q:VK}{us:List Value}{vs:List V}(F:eg X.prog X.w X.K X.mg X.base CX k f fd ps sp) (hr:aX k X.A) (hb:Binds X.K fd ps ds) (hd:Vals fY ds) (hx:lP CX X E)
    (I:Inv X pins σ H s) (r:Vals vs us) (h:sp (vs++fY) H Q E):wpAny (model X.prog X.w) X.A (call (.ref f) us) (EP X pins σ Q) X.xe s:=by
  have r2:Vals (vs++fY) (us++ds):=r.append hd;have hl:(us++ds).length=ps.length:=by rw[←r2.length];exact F.len _ _ _ _ h
  refine wpAny_call (codeAny_mono (F.run X.A X.stack s H ⟨us,[]⟩ (us++ds) (vs++fY) Q E hr I.mZ (hb s us I.cS hl) r2 h) fun r s' hq=>?_);cases r with
  | error e=>exact hx pins σ H s e s' I hq
  | ok fl=>
    cases fl with
    | ret u=>exact I.after hq
    | next=>exact False.elim hq
    | brk=>exact False.elim hq
    | cont=>exact False.elim hq
theorem BF (F:eg X.prog X.w X.K X.mg X.base CX k f fd ps sp) (hr:aX k X.A) (hg:Gl X x) (hm:X.mg x=some (.ref f)) (hk:PySem.W.keepIn X.K (.ref f)=true) (hb:Binds X.K fd ps ds) (hd:Vals fY ds) (hx:lP CX X E)
    (ha:PA X (e::es) t) (fF:(x == ("__debug__" : Str))=false:=by decide) (he:starEach (e::es) X.env=(false,eval e X.env)::starEach es X.env:=by rfl) (bY:(backTo pos (starEach es X.env)).any (·.1)=false:=by rfl) :
    PE X (.Call (.Name x p) (e::es) [] pos) (zJ sp fY E t):=by
  intro pins s σ H Q I h;refine wpAny_Call_Name_kw (nU I hg hm ?_ fF);refine PySem.W.callWith_K (h₀:=X.base) I.ok.mod.uG hk (aM (ha pos pins s σ H _ I h) fun us s1 ⟨vs,H1,I1,r,q⟩=>⟨I1.cS,?_⟩) he bY;exact BE F hr hb hd hx I1 r q
theorem Fl {pl:Sem Bool}(he:PE X o ta) (c:kD X.K C) (hm:Meth X.K C m f) (F:eg X.prog X.w X.K X.mg X.base CX k f fd ps sp) (hr:aX k X.A) (hb:Binds X.K fd ps ds) (hd:Vals fY ds) (hx:lP CX X E) (ha:PA X (e::es) t)
    (i8:starEach (e::es) X.env=(false,eval e X.env)::starEach es X.env:=by rfl) (bY:(backTo pos (starEach es X.env)).any (·.1)=false:=by rfl)
    (ht:eval (.Call (.Attribute o m apos) (e::es) [] pos) X.env=(do
      let ov ←eval o X.env
      standAt apos.atName
      let (f,first) ←holding [ov] (getMethod ov m pl)
      callWith pos f first (backTo pos (starEach (e::es) X.env)) (backToKw pos (keywordEach [] X.env))):=by rfl) :
    PE X (.Call (.Attribute o m apos) (e::es) [] pos) (vZ C m sp fY E ta t):=by
  intro pins s σ H Q I h;refine PySem.W.methodCall_KW (pl:=pl) (aM (he pins s σ H _ I h) fun u s1 aE=>?_) ht;obtain⟨x,H1,I1,rx,a,dx,fs,ex,ea,l,q⟩:=aE;subst ex;obtain rfl:u=Value.ref a:=rx;refine BA I1 ea c hm l ?_;refine PySem.W.callWith_K (first:=[.ref a]) (h₀:=X.base) I.ok.mod.uG hm.kp (aM (ha pos pins s1 σ H1 _ I1 q) fun us s2 ⟨vs,H2,I2,r,q2⟩=>⟨I2.cS,?_⟩) i8 bY;exact BE (us:=.ref a::us) (vs:=.ref a::vs) F hr hb hd hx I2 (.cons rfl r) q2
theorem Mq {pl:Sem Bool}(he:PE X o ta) (c:kD X.K C) (hm:Meth X.K C m f) (F:eg X.prog X.w X.K X.mg X.base CX k f fd ps sp) (hr:aX k X.A) (hb:Binds X.K fd ps ds) (hd:Vals fY ds) (hx:lP CX X E)
    (ht:eval (.Call (.Attribute o m apos) [] [] pos) X.env=(do
      let ov ←eval o X.env
      standAt apos.atName
      let (f,first) ←holding [ov] (getMethod ov m pl)
      callWith pos f first (backTo pos (starEach [] X.env)) (backToKw pos (keywordEach [] X.env))):=by rfl) :
    PE X (.Call (.Attribute o m apos) [] [] pos) (vZ C m sp fY E ta gZ):=by
  intro pins s σ H Q I h;refine PySem.W.methodCall_KW (pl:=pl) (aM (he pins s σ H _ I h) fun u s1 aE=>?_) ht;obtain⟨x,H1,I1,rx,a,dx,fs,ex,ea,l,q⟩:=aE;subst ex;obtain rfl:u=Value.ref a:=rx;refine BA I1 ea c hm l ?_;exact PySem.W.callWith_K0 (first:=[.ref a]) I1.cS hm.kp (BE (us:=[.ref a]) (vs:=[.ref a]) F hr hb hd hx I1 (.cons rfl .nil) q)
structure Mk (K:PySem.W.Frag) (C f:Addr):Prop where
  makes:PySem.W.makesIn K C=true
  init:PySem.W.findIn K (.ref C) "__init__" = some (some (.ref f))
  fn:PySem.W.isFn K (.ref f)=true
  kp:PySem.W.keepIn K (.ref C)=true
theorem Mr {pins:List (Addr×Obj)}{σ:St}{H:Hp}{s:Shared}{Q:VK}{us:List Value}{vs:List V}(M:Mk X.K C f) (F:eg X.prog X.w X.K X.mg X.base CX k f fd ps sp) (hr:aX (k+1) X.A) (hb:Binds X.K fd ps ds) (hd:Vals fY ds)
    (hx:lP CX X E) (I:Inv X pins σ H s) (r:Vals vs us)
    (h:∀x dx,H x=none->H dx=none->dx≠x->sp (.ref x::(vs++fY)) (upd (upd H dx (.own x)) x (.ins C dx [])) (fun v H2=>v = .aL/\Q (.ref x) H2) E) :
    wpAny (model X.prog X.w) X.A (call (.ref C) us) (EP X pins σ Q) X.xe s:=by
  have hq:=h (s.heap.objs.size+1) s.heap.objs.size (I.aF.fresh (Nat.le_succ _)) (I.aF.fresh (Nat.le_refl _)) (Nat.ne_of_lt (Nat.lt_succ_self _));have I2:=Inv.made (C:=C) I;have r2:Vals (V.ref (s.heap.objs.size+1)::(vs++fY)) (Value.ref (s.heap.objs.size+1)::(us++ds)):=.cons rfl (r.append hd);have hl:(Value.ref (s.heap.objs.size+1)::us++ds).length=ps.length:=by
    have e:=r2.length;rw[F.len _ _ _ _ hq] at e;exact e.symm
  refine wpAny_call (Mh (f:=f) I.cS M.makes M.init (beq_iff_eq.mp M.fn) (codeAny_mono (F.run _ X.stack _ _ ⟨Value.ref (s.heap.objs.size+1)::us,[]⟩ (Value.ref (s.heap.objs.size+1)::(us++ds)) _ _ E (hr.make C us [])
    (I2.mZ.make C us []) (hb _ (Value.ref (s.heap.objs.size+1)::us) I2.cS hl) r2 hq) fun r s' jS=>?_))
  cases r with
  | error e=>exact hx pins σ _ _ e s' I2 jS
  | ok fl=>
    cases fl with
    | ret u=>
      obtain⟨v,H',I3,rv,ev,q3⟩:=I2.after jS;subst ev;exact⟨rv,⟨V.ref (s.heap.objs.size+1),H',I3,rfl,q3⟩⟩
    | next=>exact False.elim jS
    | brk=>exact False.elim jS
    | cont=>exact False.elim jS
theorem Ms (M:Mk X.K C f) (F:eg X.prog X.w X.K X.mg X.base CX k f fd ps sp) (hr:aX (k+1) X.A) (hg:Gl X x) (hm:X.mg x=some (.ref C)) (hb:Binds X.K fd ps ds) (hd:Vals fY ds) (hx:lP CX X E)
    (fF:(x == ("__debug__" : Str))=false:=by decide):PE X (.Call (.Name x p) [] [] pos) (Fj C sp fY E gZ):=by
  intro pins s σ H Q I h;refine wpAny_Call_Name_kw (nU I hg hm ?_ fF);exact PySem.W.callWith_K0 I.cS M.kp (Mr (us:=[]) M F hr hb hd hx I .nil h)
end
def PK (X:Cx) (wc:List Keyword) (t:TA):Prop:=
  ∀(pos:Pos) (pins:List (Addr×Obj)) (s:Shared) (σ:St) (H:Hp) (Q:List V->Hp->Prop),Inv X pins σ H s->t σ H Q->wpAny (model X.prog X.w) X.A (evalAll ((backToKw pos (keywordEach wc X.env)).map (·.2))) (AP X pins σ Q) X.xe s
section
variable {X:Cx}{CX:jJ}{k:Nat}{f C:Addr}{fd:FuncData}{ps ks:List Str}{sp:Sp}{E:XK}{x m:Str}{p pos apos kpos:Pos}{e o:Expr}{es:List Expr}{wc:List Keyword}{te ta:TE}{t tk:TA}{nm:Option Str}
theorem Mt:PK X [] gZ:=fun _ _ _ _ H Q I h=>wpAny_evalAll_nil ⟨[],H,I,.nil,h⟩
theorem Mu (ha:PE X e te) (hr:PK X wc t):PK X (⟨nm,e,kpos⟩::wc) (oS te t):=by
  intro pos pins s σ H Q I h;show wpAny _ _ (evalAll ((do let v ←eval e X.env;standAt pos;pure v)::(backToKw pos (keywordEach wc X.env)).map (·.2))) _ _ s;refine wpAny_evalAll_cons (wpAny_bind (aM (ha pins s σ H _ I h) fun u s1 ⟨x,H1,I1,r1,q1⟩=>wpAny_bind (wpAny_standAt (wpAny_pure ?_))));exact aM (hr pos pins s1 σ H1 _ I1 q1) fun us s2 ⟨xs,H2,I2,r2,q2⟩=>⟨x::xs,H2,I2,.cons r1 r2,q2⟩
variable {g:List Value->List Value->List Value}{gV:List V->List V->List V}
end
structure aj (N P:List Str) (sc:Scope):Prop where
  kind:sc.kind = .function
  co:sc.isCoroutine=false
  gen:sc.isGenerator=false
  nd:N.Nodup
  pre:N.take P.length=P
  par:∀x∈P,sc.names.lookup x=some .local\/sc.names.lookup x=some .cell
  rP:∀y∈sc.names,y.2≠.free
theorem Fo {kindOf:Str->Option NameKind}{x:Str}:∀{binds:List (Str×Value)}{m:Str->Option Value},(∀v,(x,v) ∉ binds)->bindL kindOf binds m x=m x
  | [],_,_=>rfl
  | (n,v)::r,m,h=>by
    unfold bindL;rw[Fo fun w hw=>h w (List.mem_cons_of_mem _ hw)];split
    · have:x≠n:=by rintro rfl;exact h v List.mem_cons_self
      simp[this]
    · rfl
theorem Fp {kindOf:Str->Option NameKind}{x:Str}:∀{binds:List (Str×Value)}{m:Str->Option Value},(∀v,(x,v) ∉ binds)->bindC kindOf binds m x=m x
  | [],_,_=>rfl
  | (n,v)::r,m,h=>by
    unfold bindC;rw[Fp fun w hw=>h w (List.mem_cons_of_mem _ hw)];split
    · rfl
    · have:x≠n:=by rintro rfl;exact h v List.mem_cons_self
      simp[this]
theorem Fq {kindOf:Str->Option NameKind}{x:Str}{v:Value}:∀{P:List Str}{vs:List Value}{i:Nat}{m:Str->Option Value},P.Nodup->P[i]? = some x->vs[i]? = some v->kindOf x=some .local->
    bindL kindOf (P.zip vs) m x=some v
  | [],_,_,_,_,h,_,_=>by simp at h
  | _::_,[],_,_,_,_,h,_=>by simp at h
  | p::P,w::vs,0,m,nd,h1,h2,hk=>by
    simp at h1 h2;subst h1;subst h2;show bindL kindOf ((p,w)::P.zip vs) m p=_;unfold bindL;rw[Fo fun v hv=>(List.nodup_cons.mp nd).1 (List.of_mem_zip hv).1,if_pos hk];simp
  | p::P,w::vs,i+1,m,nd,h1,h2,hk=>by
    show bindL kindOf ((p,w)::P.zip vs) m x=_;unfold bindL;exact Fq (i:=i) (List.nodup_cons.mp nd).2 (by simpa using h1) (by simpa using h2) hk
theorem Ft {kindOf:Str->Option NameKind}{x:Str}{v:Value}:∀{P:List Str}{vs:List Value}{i:Nat}{m:Str->Option Value},P.Nodup->P[i]? = some x->vs[i]? = some v->kindOf x≠some .local->
    bindC kindOf (P.zip vs) m x=some v
  | [],_,_,_,_,h,_,_=>by simp at h
  | _::_,[],_,_,_,_,h,_=>by simp at h
  | p::P,w::vs,0,m,nd,h1,h2,hk=>by
    simp at h1 h2;subst h1;subst h2;show bindC kindOf ((p,w)::P.zip vs) m p=_;unfold bindC;rw[Fp fun v hv=>(List.nodup_cons.mp nd).1 (List.of_mem_zip hv).1,if_neg hk];simp
  | p::P,w::vs,i+1,m,nd,h1,h2,hk=>by
    show bindC kindOf ((p,w)::P.zip vs) m x=_;unfold bindC;exact Ft (i:=i) (List.nodup_cons.mp nd).2 (by simpa using h1) (by simpa using h2) hk
def start (N:List Str) (vs:List V):St:=vs.map some++List.replicate (N.length-vs.length) none
def aA (CX:jJ) (P:Program) (w:World) (K:PySem.W.Frag) (mg:Str->Option Value) (base:Heap) (N:List Str) (qual:Str) (scope:Scope) (f:Addr) (cd:Value) (A:Around) (outer:List Env) (s:Shared) (H:Hp) (E:XK):Cx where
  prog:=P
  w:=w
  K:=K
  mg:=mg
  base:=base
  A:=A.deeper (envOfC qual scope s.heap.objs.size f cd)
  N:=N
  bw:=s
  jM:=H
  env:=envOfC qual scope s.heap.objs.size f cd
  outer:=outer
  stack:=envOfC qual scope s.heap.objs.size f cd::outer
  ex:=[]
  calm:=true
  fn:=fun _=>true
  pn:=[]
  xe:=fun e s'=>wpAny (model P w) (A.deeper (envOfC qual scope s.heap.objs.size f cd)) (leaving (envOfC qual scope s.heap.objs.size f cd) e) (fun _ kc=>CX outer H s E e kc) (fun e' kc=>CX outer H s E e' kc) s'
theorem Fv {sc:Scope}{n:Nat}{x:Str}(h:sc.names.lookup x=some .cell):∃c,(cellsFrom n sc.names []).lookup x=some c:=by
  have q:=PySem.W.cellsFrom_some sc.names n [] (.inl h);exact Option.isSome_iff_exists.mp q
theorem Mv {CX:jJ}{P:Program}{w:World}{K:PySem.W.Frag}{mg:Str->Option Value}{base:Heap}{N ps:List Str}{qual:Str}{scope:Scope}{f:Addr}{cd:Value}{A:Around}{outer:List Env}{s s1:Shared}{H:Hp}{E:XK}{us:List Value}{vs:List V}
    (S:aj N ps scope) (hd:A.handled=none) (e0:kF P w K mg base A outer s H) (hl:vs.length=ps.length) (r:Vals vs us)
    (x:InCallC s s.heap.objs.size (bindL (envOfC qual scope s.heap.objs.size f cd).kindOf (ps.zip us) fun _=>none) (cellsFrom (s.heap.objs.size+1) scope.names []) (bindC (envOfC qual scope s.heap.objs.size f cd).kindOf (ps.zip us) fun _=>none) s1) :
    Inv (aA CX P w K mg base N qual scope f cd A outer s H E) [] (start N vs) H s1:=by
  have bY:ps.length<=N.length:=by have:=congrArg List.length S.pre;rw[List.length_take] at this;omega
  obtain⟨h1,tk,rfl,hk⟩:=x.done;have we:∀b:Addr,b ∉ (aA CX P w K mg base N qual scope f cd A outer s H E).ex:=fun b z=>absurd (show b∈([]:List Addr) from z) (by simp)
  refine⟨⟨e0.mod,S.kind,rfl,rfl,Nat.le_refl _,fun y z c h1 h2=>?_,fun y hy=>?_,fun y c _ h=>?_,fun _=>hd,Around.frames_deeper e0.frames,.inr ⟨rfl,rfl⟩,fun b z=>absurd z (we b),e0.bs,e0.mj,fun b _ _=>we b,fun b z=>absurd z (we b),e0.fW,e0.oJ⟩,
    rfl,e0.bare,Un.kept hk,⟨_,x.toInCall.ns,fun i y v h1 h2 h3=>?_⟩,fun y c h=>⟨_,x.cell y c h⟩,e0.aF.fresh (Nat.le_refl _),fun y c h=>?_,fun p hp=>absurd (show p∈([]:List (Addr×Obj)) from hp) (by simp),e0.aF.kept hk,?_⟩
  · exact name_of_addr x.apart (PySem.mem_of_lookup h1) (PySem.mem_of_lookup h2)
  · have hy:scope.names.lookup y=some .cell\/scope.names.lookup y=some .free:=hy;rcases hy with hy | hy
    · exact Fv hy
    · exact absurd rfl (S.rP _ (PySem.mem_of_lookup hy))
  · exact Nat.le_of_lt (x.above y c (PySem.mem_of_lookup h))
  · have hi:i<vs.length:=by
      unfold start at h2
      by_cases hi:i<vs.length
      · exact hi
      · rw[List.getElem?_append_right (by simpa using hi)] at h2;rw[List.getElem?_replicate] at h2;split at h2<;>cases h2
    have ha:vs[i]? = some v:=by
      unfold start at h2;rw[List.getElem?_append_left (by simpa using hi),List.getElem?_map] at h2;cases e:vs[i]? with
      | none=>rw[e] at h2;cases h2
      | some a=>rw[e] at h2;cases h2;rfl
    obtain⟨u,hu,rv⟩:=r.get ha;have hp:ps[i]? = some y:=by
      rw[←S.pre,List.getElem?_take_of_lt (by omega)];exact h1
    have Fw:ps.Nodup:=by rw[←S.pre];exact S.nd.sublist (List.take_sublist _ _)
    refine⟨u,rv,?_⟩;rcases S.par y (List.mem_of_getElem? hp) with k | k
    · exact .inl ⟨k,Fq Fw hp hu k⟩
    · obtain⟨c,e⟩:=Fv (n:=s.heap.objs.size+1) k;refine .inr ⟨.inl k,c,e,?_⟩;have q:=x.cell y c e;rw[Ft Fw hp hu (by show scope.names.lookup y≠_;rw[k];decide)] at q;exact q
  · exact e0.aF.fresh (Nat.le_of_lt (x.above y c (PySem.mem_of_lookup h)))
  · unfold start;show _=N.length;rw[List.length_append,List.length_map,List.length_replicate];omega
theorem BG {CX:jJ}{P:Program}{w:World}{K:PySem.W.Frag}{mg:Str->Option Value}{base:Heap}{k:Nat}{f:Addr}{name qual:Str}{params:Arguments}{body:List Stmt}{scope:Scope}{dV kV doc pm ay ct oc:Value}{an od:Option Addr}
    {fZ:Array (Option Value)}{N ps:List Str}{sp:Sp}(lk:K.lookup f=some ⟨oc,od,.func (PySem.W.fnOf name qual params body scope dV kV doc pm an ay ct),fZ⟩) (jo:PySem.W.codeIn K ay qual=true) (S:aj N ps scope)
    (len:∀vs H Q E,sp vs H Q E->vs.length=ps.length)
    (gg:∀(A:Around) (outer:List Env) (s:Shared) (H:Hp) (vs:List V) (Q:VK) (E:XK),aX k (A.deeper (envOfC qual scope s.heap.objs.size f ay))->sp vs H Q E->
      ∃t,jm (aA CX P w K mg base N qual scope f ay A outer s H E) body t/\t { nx:=fun _ H'=>Q .aL H',rt:=Q } (start N vs) H) :
    eg P w K mg base CX (k+1) f (PySem.W.fnOf name qual params body scope dV kV doc pm an ay ct) ps sp:=by
  refine⟨len,fun A outer s H args us vs Q E hr e0 hb r mC=>?_⟩;have hl:=len _ _ _ _ mC;have KX:K.In s.heap:=e0.mod.uG.keeps fun b o e=>(e0.bs b o e).1
  have lim:s.heap.NoLimit:=e0.mod.nolimit.keeps fun b o e=>(e0.bs b o e).1
  have wg:∀y∈ps.zip us,scope.names.lookup y.1=some .local\/(scope.names.lookup y.1=some .cell/\((cellsFrom (s.heap.objs.size+1) scope.names []).lookup y.1).isSome=true):=fun ⟨n,v⟩ hy=>by
    rcases S.par n (List.of_mem_zip hy).1 with q | q
    · exact .inl q
    · exact .inr ⟨q,PySem.W.cellsFrom_some _ _ _ (.inl q)⟩
  refine codeAny_call_function hr.depth (KX _ _ lk) rfl S.co S.gen rfl (PySem.W.codeRec_of KX jo) (hb _ _ _ _ ?_);refine wpAny_newFunctionEnv_cells S.kind wg fun env he s1 x=>?_
  subst he;refine⟨lim.keeps x.toInCall.keep,codeAny_func ?_⟩;obtain⟨t,ht,hq⟩:=gg A outer s H vs Q E (hr.deeper _) mC;have I:Inv (aA CX P w K mg base N qual scope f ay A outer s H E) [] (start N vs) H s1:=Mv S hr.hd e0 hl r x;refine wpAny_mono (ht [] s1 (start N vs) H _ I hq) (fun fl s' hs=>?_) fun e s' hs=>hs
  have fin:∀{au:St}{H':Hp}{v:V}{u:Value},Inv (aA CX P w K mg base N qual scope f ay A outer s H E) [] au H' s'->RelV v u->Q v H'->CE outer P w H s Q u s':=
    fun {au H' v u} J rv q=>⟨v,H',J.os,J.bare,J.base,J.aF,rv,q⟩
  cases fl with
  | ret u=>
    obtain⟨v,au,H',J,rv,q⟩:=hs;exact fin J rv q
  | next=>
    obtain⟨au,H',J,q⟩:=hs;exact fin (v:=V.aL) (u:=Value.none) J rfl q
  | brk=>
    obtain⟨_,_,_,q⟩:=hs;exact False.elim q
  | cont=>
    obtain⟨_,_,_,q⟩:=hs;exact False.elim q
section
variable {X:Cx}{x:Str}{p pos:Pos}{e:Expr}{es:List Expr}{t:TA}{id T:String}{r:List V->Hp->VK->Prop}
def BH (r:List V->Hp->VK->Prop) (t:TA):TE:=fun σ H Q=>t σ H fun vs H1=>r vs H1 Q
theorem cW (hc:i9 X (.builtin id) r) (hg:Gl X x) (hm:X.mg x=none) (hv:bootBuiltins x=some (.builtin id)) (ha:PA X (e::es) t) (hn:x≠"__name__":=by decide) (fF:(x == ("__debug__" : Str))=false:=by decide)
    (he:starEach (e::es) X.env=(false,eval e X.env)::starEach es X.env:=by rfl) (bY:(backTo pos (starEach es X.env)).any (·.1)=false:=by rfl):PE X (.Call (.Name x p) (e::es) [] pos) (BH r t):=by
  intro pins s σ H Q I h;refine wpAny_Call_Name_kw (uH I hg hm hv ?_ hn fF);exact PyProof.Rows.callWith_builtin1 (aM (ha pos pins s σ H _ I h) fun us s1 ⟨vs,H1,I1,r1,q1⟩=>hc pins s1 σ H1 vs us Q I1 r1 q1) he bY
theorem nX (hc:i9 X (.type T) r) (hg:Gl X x) (hm:X.mg x=none) (hv:bootBuiltins x=some (.type T)) (ha:PA X (e::es) t) (hn:x≠"__name__":=by decide) (fF:(x == ("__debug__" : Str))=false:=by decide)
    (he:starEach (e::es) X.env=(false,eval e X.env)::starEach es X.env:=by rfl) (bY:(backTo pos (starEach es X.env)).any (·.1)=false:=by rfl):PE X (.Call (.Name x p) (e::es) [] pos) (BH r t):=by
  intro pins s σ H Q I h;refine wpAny_Call_Name_kw (uH I hg hm hv ?_ hn fF);exact PyProof.Rows.callWith_type1 (aM (ha pos pins s σ H _ I h) fun us s1 ⟨vs,H1,I1,r1,q1⟩=>hc pins s1 σ H1 vs us Q I1 r1 q1) he bY
end
end L2
namespace HT
open PySem PyProof.Rows
section
open PySem.SeqAt
open PySem.AutoSeq1 (wpAny_loadPart')
open PySem.MeetsSeq PySem.MeetsSeq2 PySem.MeetsSeq3
end
section
variable {prog:Program}{w:World}{A:Around}{E:Value->Shared->Prop}{s:Shared}
theorem oU {t b:Addr}{vs ws:List Value}{Q:Value->Shared->Prop}(ht:IsTup s.heap t vs.toArray) (hb:IsTup s.heap b ws.toArray) (hv:vs≠[])
    (h1:ws = []->Q (.ref t) s) (h2:ws≠[]->Q (.ref s.heap.objs.size) { s with heap:=s.heap.push { cls:=.type "tuple",data:=.seq (vs++ws).toArray } })
    (hsz:vs.length+ws.length<=sizeLine):wpAny (model prog w) A (binaryOp .Add (.ref t) (.ref b)) Q E s:=by
  obtain⟨⟨cls,dd,data,sl⟩,ho,hc,n,hd⟩:=id ht;obtain⟨⟨BI,zK,data2,zL⟩,kg,wj,n2,hd2⟩:=id hb;simp only at hc hd wj hd2;subst hc hd wj hd2;have e:vs.toArray++ws.toArray=(vs++ws).toArray:=by simp
  by_cases hw:ws = []
  · exact concat_meets ⟨_,ho,rfl⟩ ⟨_,kg,rfl⟩ noFill_tuple_add seq_tuple_add PySem.F.slot_tuple_add PySem.F.entry_tuple_add (PySem.F.args_tuple_add_2 _ _)
      (tuple_addW1 t b vs.toArray ws.toArray n n2 dd zK sl zL (by simpa using hv) (by simp[hw])) ⟨ho,kg,h1 hw⟩
  · refine concat_meets ⟨_,ho,rfl⟩ ⟨_,kg,rfl⟩ noFill_tuple_add seq_tuple_add PySem.F.slot_tuple_add PySem.F.entry_tuple_add (PySem.F.args_tuple_add_2 _ _)
      (tuple_addW2 t b vs.toArray ws.toArray n n2 dd zK sl zL (by simpa using hv) (by simpa using hw) (by rw[List.size_toArray,List.size_toArray];exact hsz)) ⟨ho,kg,?_⟩
    rw[e];exact h2 hw
def bA (n d:Nat):Option Int->Nat
  | none=>d
  | some v=>if v<0 then (v+(n:Int)).toNat else min v.toNat n
theorem Mw (n d:Nat) (hd:d<=n) (o:Option Int):bA n d o<=n:=by
  cases o with
  | none=>exact hd
  | some v=>
    show (if v<0 then (v+(n:Int)).toNat else min v.toNat n)<=n
    by_cases hv:v<0
    · rw[if_pos hv];omega
    · rw[if_neg hv];exact Nat.min_le_right _ _
theorem Fx (v:Int) (n d:Nat):(if v<0 then max (v+(n:Int)) 0 else min v (n:Int))=((bA n d (some v):Nat):Int):=by
  show (if v<0 then max (v+(n:Int)) 0 else min v (n:Int))=(((if v<0 then (v+(n:Int)).toNat else min v.toNat n):Nat):Int)
  by_cases hv:v<0
  · simp only [if_pos hv];omega
  · simp only [if_neg hv];omega
theorem Mx (lo hi:Option Int) (n:Nat):Builtin.Slice.sliceAdjust lo hi 1 (n:Int)=(((bA n 0 lo:Nat):Int),((bA n n hi:Nat):Int)):=by
  have h1:¬((1:Int)<0):=by omega
  unfold Builtin.Slice.sliceAdjust;simp only [h1,if_false];refine Prod.ext ?_ ?_
  · cases lo with
    | none=>rfl
    | some v=>exact Fx v n 0
  · cases hi with
    | none=>rfl
    | some v=>exact Fx v n n
theorem My (i j:Nat):Builtin.Slice.slicePlaces (i:Int) (j:Int) 1=j-i:=by
  unfold Builtin.Slice.slicePlaces;have h1:(1:Int) > 0:=by omega
  simp only [h1,if_true,Int.ediv_one];split<;>omega
theorem Fy {v:Value}{o:Option Int}{Q:Option Int->Shared->Prop}(p:IsPart v o) (h:Q o s):wpAny (model prog w) A (Builtin.Slice.slicePartIndex v) Q E s:=by
  cases p with
  | none=>exact slicePart_none h
  | int i t=>exact slicePart_int h
theorem Fz {sl:Addr}{vl vu:Value}{lo hi:Option Int}{n:Nat}{Q:Int×Int×Nat->Shared->Prop}(hs:s.heap.IsSliceOf sl vl vu .none) (pl:IsPart vl lo) (pu:IsPart vu hi)
    (h:Q (((bA n 0 lo:Nat):Int),1,bA n n hi-bA n 0 lo) s):wpAny (model prog w) A (Builtin.Slice.sliceApplied (.ref sl) (pure (n:Int))) Q E s:=by
  obtain⟨os,rQ,zM,wk⟩:=id hs;unfold Builtin.Slice.sliceApplied Builtin.Slice.sliceFields;refine wpAny_bind (wpAny_bind (wpAny_field rQ wk (x:=vl) rfl (wpAny_bind (wpAny_field rQ wk (x:=vu) rfl (wpAny_bind (wpAny_field rQ wk (x:=.none) rfl (wpAny_pure ?_)))))));refine wpAny_bind (slicePart_none ?_);show wpAny _ _ (if ((1:Int) == 0)=true then _ else _) _ _ s;rw[if_neg (by decide)];refine wpAny_bind (Fy pl (wpAny_bind (Fy pu (wpAny_bind (wpAny_pure ?_)))));show wpAny _ _ (match Builtin.Slice.sliceAdjust lo hi 1 (n:Int) with | (lo,hi)=>pure (lo,(1:Int),Builtin.Slice.slicePlaces lo hi 1)) _ _ s;rw[Mx lo hi n];show wpAny _ _ (pure (((bA n 0 lo:Nat):Int),(1:Int),Builtin.Slice.slicePlaces ((bA n 0 lo:Nat):Int) ((bA n n hi:Nat):Int) 1)) _ _ s;rw[My];exact wpAny_pure h
theorem Mz (xs:Array Value) (i k:Nat):((List.range k).filterMap fun (m:Nat)=>xs[((i:Int)+(m:Int) * 1).toNat]?).toArray=((xs.toList.drop i).take k).toArray:=by
  have e:(fun (m:Nat)=>xs[((i:Int)+(m:Int) * 1).toNat]?)=fun m=>xs[i+m]?:=by
    funext m;have:((i:Int)+(m:Int) * 1).toNat=i+m:=by omega
    rw[this]
  rw[e];have:=pick_run xs i k;rw[List.filterMap_map] at this;have e2:((fun x=>xs[x]?) ∘ fun x=>i+x)=fun m=>xs[i+m]?:=rfl
  rw[e2] at this;rw[this]
theorem gh {t sl:Addr}{items:Array Value}{vl vu:Value}{lo hi:Option Int}{Q:Value->Shared->Prop}(ht:IsTup s.heap t items) (hs:s.heap.IsSliceOf sl vl vu .none) (pl:IsPart vl lo) (pu:IsPart vu hi)
    (hw:¬(bA items.size 0 lo=0/\bA items.size items.size hi=items.size))
    (h:Q (.ref s.heap.objs.size) { s with heap:=s.heap.push { cls:=.type "tuple",data:=.seq ((items.toList.drop (bA items.size 0 lo)).take (bA items.size items.size hi-bA items.size 0 lo)).toArray } })
    (hsz:items.size<=sizeLine):wpAny (model prog w) A (getItem (.ref t) (.ref sl)) Q E s:=by
  have lz:sizeOk (.seq ((items.toList.drop (bA items.size 0 lo)).take (bA items.size items.size hi-bA items.size 0 lo)).toArray):=by
    show ((items.toList.drop (bA items.size 0 lo)).take (bA items.size items.size hi-bA items.size 0 lo)).toArray.size<=sizeLine;rw[List.size_toArray,List.length_take,List.length_drop,Array.length_toList];omega
  have hj:bA items.size items.size hi<=items.size:=Mw _ _ (Nat.le_refl _) hi;obtain⟨os,rQ,zM,wk⟩:=id hs;have BJ:s.TypeIs (.ref sl) "slice":=⟨os,rQ,zM⟩;unfold getItem
  try with_reducible refine wpAny_holding ?_
  first | refine wpAny_bind (wpAny_pure ?_) | skip
  refine wpAny_bind (wpAny_sequenceKey ht.typeIs (by decide) ?_);refine wpAny_bind (wpAny_callSpecial?_slot (name:=Str.ofString "__getitem__") ht.typeIs PyProof.Rows.slot_tuple_getitem
    (wpAny_call_entry PyProof.Rows.slot_tuple_getitem ht.typeIs entry_tuple_getitem ?_ (args_tuple_getitem _ _)))
  show wpAny _ _ (Builtin.Tuple.tupleItemsOf (.ref t) >>= _) _ _ s;refine wpAny_bind (tupleItemsOf_ ht ?_);refine wpAny_bind (wpAny_typeOf BJ ?_);rw[if_pos (by decide)];refine wpAny_bind (Fz hs pl pu ?_);have MA:¬((((bA items.size 0 lo:Nat):Int) == 0&&(1:Int) == 1&&(bA items.size items.size hi-bA items.size 0 lo) == items.size)=true):=by
    intro q;rw[Bool.and_eq_true,Bool.and_eq_true] at q;have q1:((bA items.size 0 lo:Nat):Int)=0:=eq_of_beq q.1.1;have q2:bA items.size items.size hi-bA items.size 0 lo=items.size:=eq_of_beq q.2;exact hw ⟨by omega,by omega⟩
  show wpAny _ _ (if (((bA items.size 0 lo:Nat):Int) == 0&&(1:Int) == 1&&(bA items.size items.size hi-bA items.size 0 lo) == items.size)=true then _ else _) _ _ s;rw[if_neg MA,Mz]
  first
    | exact wpAny_bind (m:=Builtin.Tuple.tupleExact _) (wpAny_newObj_type (wpAny_pure ⟨_,rfl,wpAny_pure h⟩) lz)
    | exact wpAny_bind (m:=Builtin.Tuple.tupleExact _) (wpAny_newObj_type (wpAny_bind (wpAny_pure (wpAny_pure ⟨_,rfl,wpAny_pure h⟩))) lz)
    | exact wpAny_bind (wpAny_bind (m:=Builtin.Tuple.tupleExact _) (wpAny_newObj_type (wpAny_pure (wpAny_pure ⟨_,rfl,wpAny_pure h⟩)) lz))
    | exact wpAny_bind (wpAny_bind (m:=Builtin.Tuple.tupleExact _) (wpAny_newObj_type (wpAny_pure ⟨_,rfl,wpAny_pure h⟩) lz))
end
end HT
namespace L2
open PySem PySem.Spec PyProof.Rows
abbrev TO:=St->Hp->(Option Int->Hp->Prop)->Prop
def PO (X:Cx) (e:Option Expr) (t:TO):Prop:=
  ∀(pins:List (Addr×Obj)) (s:Shared) (σ:St) (H:Hp) (Q:Option Int->Hp->Prop),Inv X pins σ H s->t σ H Q->
    wpAny (model X.prog X.w) X.A (evalPart e X.env) (fun u s'=>∃o H',Inv X pins σ H' s'/\IsPart u o/\Q o H') X.xe s
def zN:TO:=fun _ H Q=>Q none H
def zO (t:TE):TO:=fun σ H Q=>t σ H fun x H1=>∃i,x = .int i/\Q (some i) H1
theorem MB {ns:List Int}:∀{us:List Value},Vals (ns.map V.int) us->IntsAre us ns:=by
  induction ns with
  | nil=>intro us r;rw[List.map_nil] at r;cases r;exact .nil
  | cons n ns ih=>
    intro us r;rw[List.map_cons] at r;cases r with
    | cons r1 r2=>
      obtain⟨t,e⟩:=r1;subst e;exact .cons n t (ih r2)
section
variable {X:Cx}{e:Expr}{te:TE}{lo hi:Option Expr}{tl th:TO}{pos p2:Pos}
theorem kh:PO X none zN:=by
  intro pins s σ H Q I h;rw[evalPart_none];exact wpAny_pure ⟨none,H,I,.none,h⟩
theorem jK (h:PE X e te):PO X (some e) (zO te):=by
  intro pins s σ H Q I hw;rw[evalPart_some];refine aM (h pins s σ H _ I hw) fun u s1 aE=>?_
  obtain⟨x,H1,I1,r1,q1⟩:=aE;obtain⟨i,rfl,q⟩:=q1;obtain⟨t,rfl⟩:=r1;exact⟨some i,H1,I1,.int i t,q⟩
def rR (X:Cx) (r:V->Option Int->Option Int->Hp->VK->Prop):Prop:=
  ∀(pins:List (Addr×Obj)) (s:Shared) (σ:St) (H:Hp) (x:V) (v vl vu:Value) (lo hi:Option Int) (sl:Addr) (Q:VK),Inv X pins σ H s->RelV x v->s.heap.IsSliceOf sl vl vu .none->IsPart vl lo->IsPart vu hi->r x lo hi H Q->
    ∃T id,typeLookup (.type T) "__getitem__" = pure (some (.builtin id))/\s.TypeIs v T/\wpAny (model X.prog X.w) X.A (getItem v (.ref sl)) (EP X pins σ Q) X.xe s
def zP (r:V->Option Int->Option Int->Hp->VK->Prop) (te:TE) (tl th:TO):TE:=fun σ H Q=>te σ H fun x H1=>tl σ H1 fun l H2=>th σ H2 fun u H3=>r x l u H3 Q
theorem jT {r:V->Option Int->Option Int->Hp->VK->Prop}(hr:rR X r) (he:PE X e te) (hl:PO X lo tl) (hu:PO X hi th):PE X (.Subscript e (.Slice lo hi none p2) pos) (zP r te tl th):=by
  intro pins s σ H Q I h;refine Subscript_ (aM (he pins s σ H _ I h) fun v s1 aE=>?_);obtain⟨x,H1,I1,r1,q1⟩:=aE;refine wpAny_Slice (aM (hl pins s1 σ H1 _ I1 q1) fun vl s2 ⟨l,H2,I2,pl,q2⟩=>aM (hu pins s2 σ H2 _ I2 q2) fun vu s3 aE=>?_);obtain⟨u,H3,I3,pu,q3⟩:=aE;rw[evalPart_none];refine wpAny_pure ?_;have I4:Inv X pins σ H3 { s3 with heap:=s3.heap.push { cls:=.type "slice",data:=.fields #[vl,vu,.none] } }:=I3.kept (t':=s3.toks) fun b ob q=>Heap.get?_push_of_some _ q
  obtain⟨T,id,hT,ht,hg⟩:=hr pins { s3 with heap:=s3.heap.push { cls:=.type "slice",data:=.fields #[vl,vu,.none] } } σ H3 x v vl vu l u s3.heap.objs.size Q I4 r1 (Heap.IsSliceOf.new ..) pl pu q3;show wpAny (model X.prog X.w) X.A (subscriptTail e (.Slice lo hi none p2) v (.ref s3.heap.objs.size)) (EP X pins σ Q) X.xe { s3 with heap:=s3.heap.push { cls:=.type "slice",data:=.fields #[vl,vu,.none] } };exact tail_any (ops:=[.ref s3.heap.objs.size,v]) ht hT hg (by with_unfolding_all rfl)
def bN (xs:List V) (lo hi:Option Int):List V:=(xs.drop (HT.bA xs.length 0 lo)).take (HT.bA xs.length xs.length hi-HT.bA xs.length 0 lo)
theorem FA (xs:List V) (lo hi:Option Int):(bN xs lo hi).length<=xs.length:=by
  unfold bN;rw[List.length_take,List.length_drop];omega
def wm (K:PySem.W.Frag):V->Option Int->Option Int->Hp->VK->Prop:=fun x lo hi H Q=>∃a xs,x = .ref a/\aD K H a xs/\
  ¬(HT.bA xs.length 0 lo=0/\HT.bA xs.length xs.length hi=xs.length)/\∀p,H p=none->Q (.ref p) (upd H p (.tup (bN xs lo hi)))
theorem FD:rR X (wm X.K):=by
  intro pins s σ H x v vl vu lo hi sl Q I rx hs pl pu h;obtain⟨a,xs,rfl,hx,hw,q⟩:=h;cases rx;obtain⟨its,r,ht,hz⟩:=I.tuple hx;have hlen:its.toArray.size=xs.length:=by rw[List.size_toArray];exact r.length.symm
  refine⟨"tuple",_,PyProof.Rows.slot_tuple_getitem.lookup,ht.typeIs,?_⟩;refine HT.gh ht hs pl pu (by rw[hlen];exact hw) ?_ (by rw[hlen];exact hz);rw[hlen];refine⟨.ref s.heap.objs.size,_,I.laid (t':=s.toks) (o:=.tup (bN xs lo hi)) (fun b ob q=>Heap.get?_push_of_some _ q) (Nat.le_refl _) ?_,rfl,q _ (I.aF.fresh (Nat.le_refl _))⟩;exact⟨Nat.le_trans (FA xs lo hi) hz,_,(r.drop (HT.bA xs.length 0 lo)).take (HT.bA xs.length xs.length hi-HT.bA xs.length 0 lo),IsTup.new _ _⟩
def FE (K:PySem.W.Frag):R2:=fun x y H Q=>∃a b xs ys,x = .ref a/\y = .ref b/\aD K H a xs/\aD K H b ys/\xs≠[]/\xs.length+ys.length<=sizeLine/\
  (ys = []->Q (.ref a) H)/\(ys≠[]->∀p,H p=none->Q (.ref p) (upd H p (.tup (xs++ys))))
theorem Vals.jr {xs:List V}{us:List Value}(r:Vals xs us):us = []↔xs = []:=by
  cases r with
  | nil=>simp
  | cons _ _=>simp
theorem MC:dR X (binaryOp .Add) (FE X.K):=by
  intro pins s σ H x y v u Q I rx ry h;obtain⟨a,b,xs,ys,rfl,rfl,ha,hb,hx,hz,q1,q2⟩:=h;cases rx;cases ry;obtain⟨its,r1,p1,_⟩:=I.tuple ha;obtain⟨b7,r2,p2,_⟩:=I.tuple hb;refine HT.oU p1 p2 (fun z=>hx (r1.jr.mp z)) (fun z=>⟨.ref a,H,I,rfl,q1 (r2.jr.mp z)⟩) (fun z=>?_) (by rw[←r1.length,←r2.length];exact hz);refine⟨.ref s.heap.objs.size,_,I.laid (t':=s.toks) (o:=.tup (xs++ys)) (fun b ob q=>Heap.get?_push_of_some _ q) (Nat.le_refl _) ?_,rfl,q2 (fun w=>z (r2.jr.mpr w)) _ (I.aF.fresh (Nat.le_refl _))⟩;exact⟨by rw[List.length_append];exact hz,_,r1.append r2,IsTup.new _ _⟩
end
def nY (n:Nat) (i:Int):Option Nat:=if 0<=i then (if i<n then some i.toNat else none) else if -(n:Int)<=i then some (i+n).toNat else none
def fG {α:Type}(xs:List α) (i:Int):Option α:=(nY xs.length i).bind fun j=>xs[j]?
theorem MD {n:Nat}{i:Int}{j:Nat}(h:nY n i=some j):seqIndex? i n=some j/\j<n/\-(n:Int)<=i/\i<n:=by
  unfold nY at h
  by_cases h0:0<=i
  · rw[if_pos h0] at h
    by_cases h1:i<n
    · rw[if_pos h1] at h;have e:i.toNat=j:=Option.some.inj h;exact⟨by rw[seqIndex_of h0 h1,e],by omega,by omega,h1⟩
    · rw[if_neg h1] at h;cases h
  · rw[if_neg h0] at h
    by_cases h1 : -(n:Int)<=i
    · rw[if_pos h1] at h;have e:(i+n).toNat=j:=Option.some.inj h;exact⟨by rw[seqIndex_neg (by omega) h1,e],by omega,h1,by omega⟩
    · rw[if_neg h1] at h;cases h
theorem BK {α:Type}{xs:List α}{i:Int}{v:α}(h:fG xs i=some v):∃j,seqIndex? i xs.length=some j/\xs[j]? = some v/\j<xs.length/\-(xs.length:Int)<=i/\i<xs.length:=by
  unfold fG at h;cases e:nY xs.length i with
  | none=>rw[e] at h;cases h
  | some j=>
    rw[e] at h;obtain⟨h1,h2,h3,h4⟩:=MD e;exact⟨j,h1,h,h2,h3,h4⟩
theorem lA {α:Type}{xs:List α}{j:Nat}{v:α}(h:xs[j]? = some v):fG xs (j:Int)=some v:=by
  have hj:j<xs.length:=(List.getElem?_eq_some_iff.mp h).1;have e:nY xs.length (j:Int)=some j:=by
    unfold nY;rw[if_pos (by omega),if_pos (by omega)];simp
  unfold fG;rw[e];exact h
theorem BL {α:Type}(xs:List α) (v:α):fG (xs++[v]) (-1)=some v:=by
  have hl:(xs++[v]).length=xs.length+1:=by simp
  have e:nY (xs++[v]).length (-1)=some xs.length:=by
    unfold nY;rw[hl,if_neg (by decide),if_pos (by omega)]
    congr 1
    omega
  unfold fG;rw[e];show (xs++[v])[xs.length]? = some v;simp
def ME (b:Expr):Prop:=∀o i,subscripted b false o i=operate [o,i] (getItem o i)
def uR (X:Cx) (r:R2):Prop:=
  ∀(value slice:Expr) (pins:List (Addr×Obj)) (s:Shared) (σ:St) (H:Hp) (x y:V) (v u:Value) (Q:VK),Inv X pins σ H s->RelV x v->RelV y u->r x y H Q->
    subscripted slice false v u=operate [v,u] (getItem v u)->wpAny (model X.prog X.w) X.A (subscriptTail value slice v u) (EP X pins σ Q) X.xe s
def oV (X:Cx) (id:String) (r:V->List V->Hp->VK->Prop):Prop:=
  ∀(pins:List (Addr×Obj)) (s:Shared) (σ:St) (H:Hp) (x:V) (xs:List V) (v:Value) (us:List Value) (Q:VK),Inv X pins σ H s->RelV x v->Vals xs us->r x xs H Q->
    wpAny (model X.prog X.w) X.A (call (.builtin id) (v::us)) (EP X pins σ Q) X.xe s
section
variable {X:Cx}{a b:Expr}{ta tb:TE}{pos:Pos}
theorem bI {r:R2}(hr:uR X r) (ha:PE X a ta) (hb:PE X b tb) (hs:ME b):PE X (.Subscript a b pos) (iF r ta tb):=by
  intro pins s σ H Q I h;exact Subscript_ (rK ha hb I h fun v u s2 x y H2 I2 rx ry q=>hr a b pins s2 σ H2 x y v u Q I2 rx ry q (hs _ _))
def oW (K:PySem.W.Frag):R2:=fun x y H Q=>∃p xs i v,x = .ref p/\y = .int i/\ak K H p xs/\fG xs i=some v/\Q v H
def wo (K:PySem.W.Frag):R2:=fun x y H Q=>∃p xs i v,x = .ref p/\y = .int i/\aD K H p xs/\fG xs i=some v/\Q v H
def BN:R2:=fun x y H Q=>∃z i c,x = .str z/\y = .int i/\z.length<=sizeLine/\fG z.cps.toList i=some c/\Q (.str ⟨#[c]⟩) H
theorem MF:uR X (oW X.K):=by
  intro value slice pins s σ H x y v u Q I rx ry h hs;obtain⟨p,xs,i,z,rfl,rfl,hq,he,q⟩:=h;cases rx;obtain⟨t,rfl⟩:=ry;obtain⟨its,r,pl,hz⟩:=I.list hq;obtain⟨j,h1,h2,h3,h4,h5⟩:=BK he;obtain⟨w,ew,lQ⟩:=r.get h2;have hl:=r.length;have hn:=vW;have fin:EP X pins σ Q w s:=⟨z,H,I,lQ,q⟩
  by_cases h0:0<=i
  · have hj:i.toNat=j:=by
      rw[seqIndex_of h0 h5] at h1;exact Option.some.inj h1
    exact item_listR pl.isList h0 (by omega) (by rw[hj];simpa using ew) fin hs
  · have hj:(i+(its.toArray.size:Int)).toNat=j:=by
      rw[seqIndex_neg (by omega) h4] at h1;rw[List.size_toArray,←hl];exact Option.some.inj h1
    exact subscriptTail_builtinR (x:=w) pl.isList.typeIs slot_list_getitem.lookup
      (wpAny_getItem_list_neg (Q:=fun r s'=>r=w/\EP X pins σ Q r s') pl.isList (by omega) (by rw[List.size_toArray]<;>omega) (by omega) (by rw[hj];simpa using ew) ⟨rfl,fin⟩) hs
theorem MG:uR X (wo X.K):=by
  intro value slice pins s σ H x y v u Q I rx ry h hs;obtain⟨p,xs,i,z,rfl,rfl,hq,he,q⟩:=h;cases rx;obtain⟨t,rfl⟩:=ry;obtain⟨its,r,pl,hz⟩:=I.tuple hq;obtain⟨j,h1,h2,h3,h4,h5⟩:=BK he;obtain⟨w,ew,lQ⟩:=r.get h2;have hl:=r.length;have hn:=vW;have fin:EP X pins σ Q w s:=⟨z,H,I,lQ,q⟩;exact subscriptTail_builtinR (x:=w) pl.typeIs slot_tuple_getitem.lookup
    (getItem_tuple (j:=j) (Q:=fun r s'=>r=w/\EP X pins σ Q r s') pl (by omega) (by omega) (by rw[List.size_toArray,←hl];exact h1) (by simpa using ew) ⟨rfl,fin⟩) hs
theorem MH:uR X BN:=by
  intro value slice pins s σ H x y v u Q I rx ry h hs;obtain⟨z,i,c,rfl,rfl,hz,he,q⟩:=h;obtain⟨t,rfl⟩:=rx;obtain⟨t',rfl⟩:=ry;obtain⟨j,h1,h2,h3,h4,h5⟩:=BK he;have hl:z.cps.toList.length=z.length:=by simp[Str.length]
  rw[hl] at h1 h4 h5;have hn:=vW;exact tail_any (typeIs_str s z t) slot_str_getitem.lookup (getItem_str (c:=c) (by
    have e1:decide (i < -(2 ^ 63:Int))=false:=decide_eq_false (by omega);have e2:decide (i≥2 ^ 63)=false:=decide_eq_false (by omega);rw[e1,e2,Bool.or_false]) (by rw[h1];simpa using h2) ⟨.str ⟨#[c]⟩,H,I.tok _,⟨_,rfl⟩,q⟩) hs
theorem MI (lo hi:Option Int) (n:Nat):(sliceBounds lo hi none n).1=((HT.bA n 0 lo:Nat):Int)/\(sliceBounds lo hi none n).2.1=((HT.bA n n hi:Nat):Int)/\(sliceBounds lo hi none n).2.2=1:=by
  refine⟨?_,?_,rfl⟩
  · cases lo with
    | none=>simp[sliceBounds,HT.bA]
    | some i=>
      simp only [sliceBounds,HT.bA,Option.getD_none,show (1:Int) > 0 by decide,if_true]
      by_cases h:i<0
      · simp only [h,if_true]<;>omega
      · simp only [h,if_false]<;>omega
  · cases hi with
    | none=>simp[sliceBounds,HT.bA]
    | some i=>
      simp only [sliceBounds,HT.bA,Option.getD_none,show (1:Int) > 0 by decide,if_true]
      by_cases h:i<0
      · simp only [h,if_true]<;>omega
      · simp only [h,if_false]<;>omega
theorem MJ (its:List Value) (lo hi:Option Int):slicePick its.toArray lo hi none=((its.drop (HT.bA its.length 0 lo)).take (HT.bA its.length its.length hi-HT.bA its.length 0 lo)).toArray:=by
  obtain⟨h1,h2,h3⟩:=MI lo hi its.toArray.size;unfold slicePick;rw[h1,h2,h3];simp only [sliceRange_one,pick_run,List.size_toArray]<;>rfl
def oX (K:PySem.W.Frag):V->Option Int->Option Int->Hp->VK->Prop:=fun x lo hi H Q=>∃a xs,x = .ref a/\ak K H a xs/\∀p,H p=none->Q (.ref p) (upd H p (.lst (bN xs lo hi)))
theorem MK:rR X (oX X.K):=by
  intro pins s σ H x v vl vu lo hi sl Q I rx hs pl pu h;obtain⟨a,xs,rfl,hx,q⟩:=h;cases rx;obtain⟨its,r,ht,hz⟩:=I.list hx;have hlen:=r.length;refine⟨"list",_,slot_list_getitem.lookup,ht.isList.typeIs,?_⟩;refine wpAny_getItem_list_slice ht.isList hs pl pu .none (by simp) ?_ (by rw[List.size_toArray]<;>omega);rw[MJ,←hlen];refine⟨.ref s.heap.objs.size,_,I.laid (t':=s.toks) (o:=.lst (bN xs lo hi)) (fun b ob q=>Heap.get?_push_of_some _ q) (Nat.le_refl _) ?_,rfl,q _ (I.aF.fresh (Nat.le_refl _))⟩;exact⟨Nat.le_trans (FA xs lo hi) hz,_,0,(r.drop (HT.bA xs.length 0 lo)).take (HT.bA xs.length xs.length hi-HT.bA xs.length 0 lo),Heap.get?_push_size _ rfl⟩
def iZ:V->Bool
  | .aL=>true
  | .bl _=>true
  | .int _=>true
  | .str _=>true
  | _=>false
def lB:V->V->Bool
  | .aL,.aL=>true
  | .bl a,.bl b=>a == b
  | .bl a,.int b=>(if a then 1 else 0) == b
  | .int a,.bl b=>a == (if b then 1 else 0)
  | .int a,.int b=>a == b
  | .str a,.str b=>a == b
  | _,_=>false
theorem FF {A:Around}{s:Shared}{y x:V}{u v:Value}(ry:RelV y u) (rx:RelV x v) (fy:iZ y=true) (fx:iZ x=true):SeqAt.EqAt A s u v (lB y x):=by
  cases y with
  | aL=>
    cases ry;cases x with
    | aL=>cases rx;exact SeqAt.EqAt.same _
    | bl b=>cases rx;exact SeqAt.EqAt.none_bool b
    | int b=>obtain⟨t,rfl⟩:=rx;exact SeqAt.EqAt.none_int b t
    | str b=>obtain⟨t,rfl⟩:=rx;exact SeqAt.EqAt.none_str b t
    | _=>exact absurd (show false=true from fx) Bool.false_ne_true
  | bl a=>
    cases ry;cases x with
    | aL=>cases rx;exact SeqAt.EqAt.bool_none a
    | bl b=>cases rx;exact SeqAt.EqAt.bool_bool a b
    | int b=>obtain⟨t,rfl⟩:=rx;exact SeqAt.EqAt.bool_int a b t
    | str b=>obtain⟨t,rfl⟩:=rx;exact SeqAt.EqAt.bool_str a b t
    | _=>exact absurd (show false=true from fx) Bool.false_ne_true
  | int a=>
    obtain⟨t',rfl⟩:=ry;cases x with
    | aL=>cases rx;exact SeqAt.EqAt.int_none a t'
    | bl b=>cases rx;exact SeqAt.EqAt.int_bool a t' b
    | int b=>obtain⟨t,rfl⟩:=rx;exact SeqAt.EqAt.int_int a t' b t
    | str b=>obtain⟨t,rfl⟩:=rx;exact SeqAt.EqAt.int_str a t' b t
    | _=>exact absurd (show false=true from fx) Bool.false_ne_true
  | str a=>
    obtain⟨t',rfl⟩:=ry;cases x with
    | aL=>cases rx;exact SeqAt.EqAt.str_none a t'
    | bl b=>cases rx;exact SeqAt.EqAt.str_bool a t' b
    | int b=>obtain⟨t,rfl⟩:=rx;exact SeqAt.EqAt.str_int a t' b t
    | str b=>obtain⟨t,rfl⟩:=rx;exact SeqAt.EqAt.str_str a t' b t
    | _=>exact absurd (show false=true from fx) Bool.false_ne_true
  | _=>exact absurd (show false=true from fy) Bool.false_ne_true
def oY (x:V) (u:Value):Bool:=match u with
  | .none=>lB .aL x
  | .bool b=>lB (.bl b) x
  | .int i _=>lB (.int i) x
  | .str z _=>lB (.str z) x
  | _=>false
theorem FG {x y:V}{u:Value}(r:RelV y u) (f:iZ y=true):oY x u=lB y x:=by
  cases y with
  | aL=>cases r;rfl
  | bl b=>cases r;rfl
  | int i=>obtain⟨t,rfl⟩:=r;rfl
  | str z=>obtain⟨t,rfl⟩:=r;rfl
  | _=>exact absurd (show false=true from f) Bool.false_ne_true
theorem BO {x:V}:∀{xs:List V}{us:List Value},Vals xs us->xs.all iZ=true->us.any (oY x)=xs.any fun y=>lB y x
  | _,_,.nil,_=>rfl
  | y::xs,u::us,.cons r t,f=>by
    rw[List.all_cons,Bool.and_eq_true] at f;rw[List.any_cons,List.any_cons,FG r f.1,BO t f.2]
theorem BP {A:Around}{s:Shared}{x:V}{v:Value}(rx:RelV x v) (fx:iZ x=true):∀{xs:List V}{us:List Value},Vals xs us->xs.all iZ=true->∀u∈us,SeqAt.EqAt A s u v (oY x u)
  | _,_,.nil,_=>fun u hu=>by cases hu
  | y::xs,u::us,.cons r t,f=>fun u' hu=>by
    rw[List.all_cons,Bool.and_eq_true] at f;rcases List.mem_cons.mp hu with rfl | hu
    · rw[FG r f.1];exact FF r rx f.1 fx
    · exact BP rx fx t f.2 u' hu
def wu (x:V) (xs:List V):Bool:=xs.any fun y=>lB y x
def zQ (K:PySem.W.Frag) (neg:Bool):R2:=fun x y H Q=>∃p xs,y = .ref p/\(ak K H p xs\/aD K H p xs)/\iZ x=true/\xs.all iZ=true/\Q (.bl (if neg then !wu x xs else wu x xs)) H
theorem ML:dR X (compareOp .NotIn) (zQ X.K true):=by
  intro pins s σ H x y v u Q I rx ry h;obtain⟨p,xs,rfl,hq,fx,fs,q⟩:=h;cases ry;rcases hq with hq | hq
  · obtain⟨its,r,pl,hz⟩:=I.list hq;refine SeqAt.notIn_listAt (oY x) pl.isList (fun w hw=>BP rx fx r fs w (by simpa using hw)) ⟨.bl _,H,I,rfl,?_⟩;rw[show its.toArray.any (oY x)=its.any (oY x) by simp,BO r fs];exact q
  · obtain⟨its,r,pl,hz⟩:=I.tuple hq;refine SeqAt.notIn_tupleAt (oY x) pl (fun w hw=>BP rx fx r fs w (by simpa using hw)) ⟨.bl _,H,I,rfl,?_⟩;rw[show its.toArray.any (oY x)=its.any (oY x) by simp,BO r fs];exact q
theorem MM:i9 X (.builtin "len") (fun xs H Q=>∃p ys,xs = [.ref p]/\(ak X.K H p ys\/aD X.K H p ys)/\Q (.int ys.length) H):=by
  intro pins s σ H xs us Q I r h;obtain⟨p,ys,rfl,hq,q⟩:=h;obtain⟨u,rfl,rx⟩:=jH r;cases rx;have hn:=vW;rcases hq with hq | hq
  · obtain⟨its,r',pl,hz⟩:=I.list hq;have hlen:=r'.length;exact Calls.call_len_list pl.isList (by simp only [List.size_toArray]<;>omega) ⟨.int ys.length,H,I.tok _,⟨s.toks+1,by rw[List.size_toArray,hlen]⟩,q⟩
  · obtain⟨its,r',pl,hz⟩:=I.tuple hq;have hlen:=r'.length;exact len_tuple pl (by simp only [List.size_toArray]<;>omega) ⟨.int ys.length,H,I.tok _,⟨s.toks+1,by rw[List.size_toArray,hlen]⟩,q⟩
theorem FH:i9 X (.builtin "len") (fun xs H Q=>∃z,xs = [.str z]/\z.length<=sizeLine/\Q (.int z.length) H):=by
  intro pins s σ H xs us Q I r h;obtain⟨z,rfl,hz,q⟩:=h;obtain⟨u,rfl,t,rfl⟩:=jH r;have hn:=vW;exact len_str (by omega) ⟨.int z.length,H,I.tok _,⟨_,rfl⟩,q⟩
theorem MN:i9 X (.type "tuple") (fun xs H Q=>∃p ys,xs = [.ref p]/\((ak X.K H p ys/\∀l,H l=none->Q (.ref l) (upd H l (.tup ys)))\/(aD X.K H p ys/\Q (.ref p) H))):=by
  intro pins s σ H xs us Q I r h;obtain⟨p,ys,rfl,h⟩:=h;obtain⟨u,rfl,rx⟩:=jH r;cases rx;rcases h with ⟨hq,q⟩ | ⟨hq,q⟩
  · obtain⟨its,r',pl,hz⟩:=I.list hq;have hlen:=r'.length;refine call_tuple_list pl.isList (fun h' kp=>?_) (by simp only [List.size_toArray]<;>omega);have I1:Inv X pins σ H { s with heap:=h' }:=I.kept (t':=s.toks) kp;have I2:Inv X pins σ (upd H h'.objs.size (.tup ys)) { s with heap:=h'.push { cls:=.type "tuple",data:=.seq its.toArray } }:=
      I1.laid (t':=s.toks) (fun b o e=>Heap.get?_push_of_some _ e) (Nat.le_refl _) (show aH X.prog X.w _ _ _ (.tup ys) from ⟨hz,its,r',IsTup.new _ _⟩)
    exact⟨.ref h'.objs.size,_,I2,rfl,q _ (I1.aF.fresh (Nat.le_refl _))⟩
  · obtain⟨its,r',pl,hz⟩:=I.tuple hq;exact call_tuple_same pl ⟨.ref p,H,I,rfl,q⟩
def BQ (K:PySem.W.Frag) (T:String) (x:V) (H:Hp):Prop:=match x with
  | .str _=>T = "str"
  | .int _=>T = "int"
  | .ref p=>(T = "list"/\∃xs,ak K H p xs)\/(T = "tuple"/\∃o,K.lookup p=some o/\o.cls = .type "tuple"/\o.dict=none)\/
      (T = "dict"/\((∃aq,H p=some (.dK aq))\/∃aq,H p=some (.dT aq)))\/(T = "set"/\∃S n,H p=some (.set S n))
  | _=>False
theorem FI {pins:List (Addr×Obj)}{σ:St}{H:Hp}{s:Shared}{T:String}{x:V}{v:Value}(I:Inv X pins σ H s) (r:RelV x v) (ty:BQ X.K T x H) :
    s.TypeIs v T/\∀a,v = .ref a->∃ob,s.heap.get? a=some ob/\ob.dict=none:=by
  cases x with
  | str z=>
    obtain⟨t,rfl⟩:=r;cases (show T = "str" from ty);exact⟨typeIs_str s z t,fun _ e=>nomatch e⟩
  | int i=>
    obtain⟨t,rfl⟩:=r;cases (show T = "int" from ty);exact⟨typeIs_int s i t,fun _ e=>nomatch e⟩
  | ref p=>
    cases r;rcases ty with ⟨rfl,xs,hq⟩ | ⟨rfl,o,hk,hc,hd⟩ | ⟨rfl,hk⟩ | ⟨rfl,S,n,hk⟩
    · obtain⟨its,_,pl,_⟩:=I.list hq;refine⟨pl.isList.typeIs,fun a e=>?_⟩;cases e;obtain⟨o,n,e,c,hd,_⟩:=pl;exact⟨o,e,hd⟩
    · refine⟨⟨o,I.cS p o hk,hc⟩,fun a e=>?_⟩;cases e;exact⟨o,I.cS _ o hk,hd⟩
    · have z:∃o,s.heap.get? p=some o/\o.ExactDict:=by
        rcases hk with ⟨aq,hk⟩ | ⟨aq,hk⟩
        · obtain⟨_,_,_,_,o,_,_,e,ex,_⟩:=I.aF p _ hk;exact⟨o,e,ex⟩
        · obtain⟨_,_,_,_,o,_,_,e,ex,_⟩:=I.aF p _ hk;exact⟨o,e,ex⟩
      obtain⟨o,e,ex⟩:=z;refine⟨⟨o,e,ex.1⟩,fun a e2=>?_⟩;cases e2;exact⟨o,e,ex.2.1⟩
    · obtain⟨o,_,_,_,e,ex,_⟩:=I.aF p _ hk;refine⟨⟨o,e,ex.1⟩,fun a e2=>?_⟩;cases e2;exact⟨o,e,ex.2.1⟩
  | _=>exact False.elim ty
def wA (K:PySem.W.Frag) (T:String) (r:V->List V->Hp->VK->Prop) (to:TE):TE:=fun σ H Q=>to σ H fun x H1=>BQ K T x H1/\r x [] H1 Q
def FJ (K:PySem.W.Frag) (T:String) (r:V->List V->Hp->VK->Prop) (to:TE) (t:TA):TE:=fun σ H Q=>to σ H fun x H1=>BQ K T x H1/\t σ H1 fun xs H2=>r x xs H2 Q
variable {o e:Expr}{es:List Expr}{to:TE}{t:TA}{name:Str}{apos aY:Pos}{T id:String}{r:V->List V->Hp->VK->Prop}
theorem MO (pa:PlainAttrs T) (slot:Slot T name id) (oZ:typeOf (.builtin id)=pure (.type "method_descriptor")) (hm:oV X id r) (ho:PE X o to)
    (iH:attributeBase o name X.env (eval o X.env)=eval o X.env:=by rfl) (iI:(apos.endLine == aY.line)=true:=by rfl):PE X (.Call (.Attribute o name apos) [] [] aY) (wA X.K T r to):=by
  intro pins s σ H Q I h;refine wpAny_Call_method0_late iH iI (aM (ho pins s σ H _ I h) fun v s1 aE=>?_);obtain⟨x,H1,I1,r1,ty,q1⟩:=aE;obtain⟨h1,h2⟩:=FI I1 r1 ty;exact⟨T,id,pa,slot,oZ,h1,h2,Calls.callWith_builtin rfl (PySem.evalArgs_none (hm pins s1 σ H1 x [] v [] Q I1 r1 .nil q1))⟩
theorem MP (pa:PlainAttrs T) (slot:Slot T name id) (oZ:typeOf (.builtin id)=pure (.type "method_descriptor")) (hm:oV X id r) (ho:PE X o to) (ha:PA X (e::es) t)
    (iH:attributeBase o name X.env (eval o X.env)=eval o X.env:=by rfl)
    (rS:((backTo aY (starEach (e::es) X.env)).all (fun x=>!x.1)&&(backToKw aY (keywordEach [] X.env)).all (fun x=>x.1.isSome)
      && decide ((e::es).length+([]:List Keyword).length+(if ([]:List Keyword).isEmpty then 0 else 1)<30))=true:=by rfl)
    (iI:(apos.endLine == aY.line)=true:=by rfl) (hs:starEach (e::es) X.env=(false,eval e X.env)::starEach es X.env:=by rfl) (kG:(backTo aY (starEach es X.env)).any (·.1)=false:=by rfl) :
    PE X (.Call (.Attribute o name apos) (e::es) [] aY) (FJ X.K T r to t):=by
  intro pins s σ H Q I h;refine wpAny_Call_method_late iH rS iI rfl (aM (ho pins s σ H _ I h) fun v s1 aE=>?_);obtain⟨x,H1,I1,r1,ty,q1⟩:=aE;obtain⟨h1,h2⟩:=FI I1 r1 ty;refine⟨T,id,pa,slot,oZ,h1,h2,?_⟩;have hA:=ha aY pins s1 σ H1 _ I1 q1;rw[hs] at hA ⊢;refine Calls.callWith_builtin (by show (false||(backTo aY (starEach es X.env)).any (·.1))=false;rw[kG]<;>rfl) (Calls.evalArgs_plain ?_);exact aM hA fun us s2 ⟨vs,H2,I2,r2,q2⟩=>hm pins s2 σ H2 x vs v us Q I2 r1 r2 q2
end
def MQ (X:Cx) (id:String) (r:V->List V->Hp->VK->Prop):Prop:=
  ∀(pins:List (Addr×Obj)) (s:Shared) (σ:St) (H:Hp) (x:V) (xs:List V) (v:Value) (us:List Value) (Q:VK),Inv X pins σ H s->RelV x v->Vals xs us->r x xs H Q->
    wpAny (model X.prog X.w) X.A (call (.builtin id) (v::us)) (EP X pins σ Q) X.xe s
theorem Vals.one:∀{x:V}{us:List Value},Vals [x] us->∃u,us = [u]/\RelV x u
  | _,_,.cons r .nil=>⟨_,rfl,r⟩
section
variable {X:Cx}{pins:List (Addr×Obj)}{σ:St}{H:Hp}{s:Shared}{l b:Addr}{xs ys zs:List V}
theorem Inv.BR {its its':List Value}{n:Nat}{f:Array Value->Array Value}{t':Nat}(I:Inv X pins σ H s) (hH:H l=some (.lst xs))
    (e:s.heap.get? l=some { cls:=.type "list",data:=.seq its.toArray n }) (hf:f its.toArray=its'.toArray) (hv:Vals ys its') (hz:ys.length<=sizeLine) :
    Inv X pins σ (upd H l (.lst ys)) { s with heap:=s.heap.update l (Obj.mapSeq f),toks:=t' }:=by
  have q:=PySem.IsL.update e f;rw[hf] at q;refine I.write (x:=l) (e:=l) (by rw[hH];exact trivial) (.inl rfl) (fun b' u hb hu=>(Heap.get?_update_other s.heap (Obj.mapSeq f) (Ne.symm hb)).trans hu) ⟨_,q⟩ ?_;exact⟨hz,its',_,hv,q⟩
theorem Inv.o4 {its:List Value}{t':Nat}(I:Inv X pins σ H s) (hv:Vals ys its) (hz:ys.length<=sizeLine) :
    Inv X pins σ (upd H s.heap.objs.size (.lst ys)) { s with heap:=s.heap.push { cls:=.type "list",data:=.seq its.toArray },toks:=t' }:=
  I.laid (fun _ _ q=>Heap.get?_push_of_some _ q) (Nat.le_refl _) ⟨hz,its,0,hv,Heap.get?_push_size _ rfl⟩
theorem Inv.fresh (I:Inv X pins σ H s):H s.heap.objs.size=none:=I.aF.fresh (Nat.le_refl _)
theorem Inv.rT (I:Inv X pins σ H s) (hH:H l=some (.lst xs)):xs.length<=sizeLine/\∃(its:List Value) (n:Nat),Vals xs its/\xs.length=its.length/\s.heap.get? l=some { cls:=.type "list",data:=.seq its.toArray n }:=by
  obtain⟨z,its,n,r,e⟩:=I.aF l _ hH;exact⟨z,its,n,r,r.length,e⟩
theorem Yw {n:Nat}(h:n<=sizeLine):Builtin.List.listTooLong n=false:=by
  unfold Builtin.List.listTooLong;exact decide_eq_false (by omega)
end
section
variable {X:Cx}
def MR:V->List V->Hp->VK->Prop:=fun x vs H Q=>∃l xs y,x = .ref l/\vs = [y]/\H l=some (.lst xs)/\xs.length<sizeLine/\Q .aL (upd H l (.lst (xs++[y])))
theorem o5:MQ X "list.append" MR:=by
  intro pins s σ H x vs v us Q I rx rv h;obtain⟨l,xs,y,rfl,rfl,hH,hz,q⟩:=h;cases rx;obtain⟨u,rfl,ru⟩:=rv.one;obtain⟨z,its,n,r,hl,e⟩:=I.rT hH;refine call_meets F.slot_list_append ⟨_,e,rfl⟩ F.entry_list_append (F.args_list_append_2 _ _) (PySem.list_append l its.toArray n u (by rw[List.size_toArray];omega)) ⟨e,?_⟩;refine⟨.aL,_,I.BR (its':=its++[u]) hH e (by simp) (r.append (.cons ru .nil)) ?_,rfl,q⟩;rw[List.length_append,List.length_singleton];omega
def BS:R2:=fun x y H Q=>∃l b xs zs,x = .ref l/\y = .ref b/\H l=some (.lst xs)/\H b=some (.lst zs)/\xs.length+zs.length<=sizeLine/\∀p,H p=none->Q (.ref p) (upd H p (.lst (xs++zs)))
theorem MS:dR X (binaryOp .Add) BS:=by
  intro pins s σ H x y v u Q I rx ry h;obtain⟨l,b,xs,zs,rfl,rfl,hH,hB,hz,q⟩:=h;cases rx;cases ry;obtain⟨z,its,n,r,hl,e⟩:=I.rT hH;obtain⟨z2,b7,n2,r2,FL,e2⟩:=I.rT hB;refine PySem.P.add_list e e2 ?_ (by rw[List.size_toArray,List.size_toArray];omega);have ea:its.toArray++b7.toArray=(its++b7).toArray:=by simp
  rw[ea];exact⟨.ref _,_,I.o4 (t':=s.toks) (r.append r2) (by rw[List.length_append];omega),rfl,q _ I.fresh⟩
end
section
variable {κ:Type} [DecidableEq κ]
def dM (aq:List (κ×V)) (k:κ):Option V:=(aq.find? fun kv=>decide (kv.1=k)).map (·.2)
def putK (aq:List (κ×V)) (k:κ) (v:V):List (κ×V):=
  if (aq.any fun kv=>decide (kv.1=k))=true then aq.map (fun kv=>if kv.1=k then (kv.1,v) else kv) else aq++[(k,v)]
theorem BU {p:κ×V}{r:List (κ×V)}{k:κ}(e:p.1=k):dM (p::r) k=some p.2:=by simp[dM,List.find?_cons,e]
theorem BV {p:κ×V}{r:List (κ×V)}{k:κ}(e:¬p.1=k):dM (p::r) k=dM r k:=by simp[dM,List.find?_cons,e]
theorem zR (k:κ):∀aq:List (κ×V),(aq.any fun kv=>decide (kv.1=k))=(dM aq k).isSome
  | []=>rfl
  | p::r=>by
    rw[List.any_cons]
    by_cases e:p.1=k
    · simp only [BU e,decide_eq_true e,Bool.true_or,Option.isSome_some]
    · rw[BV e,decide_eq_false e,Bool.false_or];exact zR k r
theorem FN (aq:List (κ×V)) (k:κ) (v:V):(putK aq k v).length<=aq.length+1:=by
  unfold putK;split
  · rw[List.length_map];omega
  · rw[List.length_append,List.length_cons,List.length_nil];omega
theorem BW {aq:List (κ×V)}{k:κ}(v:V) (h:dM aq k=none):putK aq k v=aq++[(k,v)]:=by
  unfold putK;rw[zR,h];exact if_neg (by decide)
theorem eV.dD {o:Option V}{u:Option Value}(r:eV o u):o.isSome=u.isSome:=by
  cases o with
  | none=>cases u with
    | none=>rfl
    | some _=>exact (show False from r).elim
  | some _=>cases u with
    | none=>exact (show False from r).elim
    | some _=>rfl
theorem KV.val {aq:List (κ×V)}{vs:List (κ×Value)}(r:KV aq vs) (k:κ):eV (dM aq k) (valueAt vs k):=by
  unfold KV at r
  induction r with
  | nil=>exact True.intro
  | @cons p q ps qs h t ih=>
    obtain⟨h1,h2⟩:=h
    by_cases e:p.1=k
    · have e':q.1=k:=h1.symm.trans e;have b:valueAt (q::qs) k=some q.2:=by simp[valueAt,List.find?_cons,e']
      rw[BU e,b];exact h2
    · have e':¬q.1=k:=fun z=>e (h1.trans z)
      have b:valueAt (q::qs) k=valueAt qs k:=by simp[valueAt,List.find?_cons,e']
      rw[BV e,b];exact ih
theorem KV.any {aq:List (κ×V)}{vs:List (κ×Value)}(r:KV aq vs) (k:κ):(aq.any fun kv=>decide (kv.1=k))=vs.any fun kv=>decide (kv.1=k):=by
  unfold KV at r
  induction r with
  | nil=>rfl
  | cons h t ih=>rw[List.any_cons,List.any_cons,ih,h.1]
theorem KV.rV {aq:List (κ×V)}{vs:List (κ×Value)}(r:KV aq vs) (k:κ) {y:V}{u:Value}(ry:RelV y u) :
    KV (aq.map fun kv=>if kv.1=k then (kv.1,y) else kv) (vs.map fun kv=>if kv.1=k then (kv.1,u) else kv):=by
  unfold KV at r ⊢
  induction r with
  | nil=>exact .nil
  | @cons p q ps qs h t ih=>
    rw[List.map_cons,List.map_cons];refine .cons ?_ ih;obtain⟨h1,h2⟩:=h
    by_cases e:p.1=k
    · rw[if_pos e,if_pos (h1.symm.trans e)];exact⟨h1,ry⟩
    · rw[if_neg e,if_neg (fun z=>e (h1.trans z))];exact⟨h1,h2⟩
theorem KV.put {aq:List (κ×V)}{vs:List (κ×Value)}(r:KV aq vs) (k:κ) {y:V}{u:Value}(ry:RelV y u):KV (putK aq k y) (stored vs k u):=by
  unfold putK stored;rw[r.any k]
  by_cases e:(vs.any fun kv=>decide (kv.1=k))=true
  · rw[if_pos e,if_pos e];exact r.rV k ry
  · rw[if_neg e,if_neg e];exact Paired.snoc r ⟨rfl,ry⟩
theorem KV.length {aq:List (κ×V)}{vs:List (κ×Value)}(r:KV aq vs):aq.length=vs.length:=Paired.length r
end
theorem uS {P:Program}{w:World}{k:Key}{u:Value}(r:RelV (kV k) u):(jF P w).is k u=true:=by
  cases k with
  | inl i=>obtain⟨t,e⟩:=(show ∃t,u=Value.int i t from r);subst e;exact Lo P w i t
  | inr x=>obtain⟨t,e⟩:=(show ∃t,u=Value.str x t from r);subst e;exact A7 P w x t
theorem FO {P:Program}{w:World}:∀{ks:List Key}{us:List Value},Vals (ks.map kV) us->ItemsAre (jF P w) ks us
  | [],_,r=>by rw[List.map_nil] at r;cases r;exact .nil
  | k::ks,_,r=>by
    rw[List.map_cons] at r;cases r with
    | cons h t=>exact .cons (uS h) (FO t)
abbrev KT (H:Hp):List (List Key×V)->List (List Key×Addr×Value)->Prop:=Paired fun p q=>p.1=q.1/\H q.2.1=some (.tup (p.1.map kV))/\RelV p.2 q.2.2
theorem KT.val {H:Hp}{aq:List (List Key×V)}{xs:List (List Key×Addr×Value)}(r:KT H aq xs) (k:List Key):eV (dM aq k) ((atKey xs k).map (·.2)):=by
  induction r with
  | nil=>exact True.intro
  | @cons p q ps qs h t ih=>
    obtain⟨h1,_,h2⟩:=h
    by_cases e:p.1=k
    · have e':q.1=k:=h1.symm.trans e;have b:atKey (q::qs) k=some q.2:=by simp[atKey,List.find?_cons,e']
      rw[BU e,b];exact h2
    · have e':¬q.1=k:=fun z=>e (h1.trans z)
      have b:atKey (q::qs) k=atKey qs k:=by simp[atKey,List.find?_cons,e']
      rw[BV e,b];exact ih
theorem KT.rV {H:Hp}{aq:List (List Key×V)}{xs:List (List Key×Addr×Value)}(r:KT H aq xs) (k:List Key) {y:V}{u:Value}(ry:RelV y u) :
    KT H (aq.map fun kv=>if kv.1=k then (kv.1,y) else kv) (xs.map (putAt k u)):=by
  induction r with
  | nil=>exact .nil
  | @cons p q ps qs h t ih=>
    rw[List.map_cons,List.map_cons];refine .cons ?_ ih;obtain⟨h1,h2,h3⟩:=h;unfold putAt
    by_cases e:p.1=k
    · rw[if_pos e,if_pos (h1.symm.trans e)];exact⟨h1,h2,ry⟩
    · rw[if_neg e,if_neg (fun z=>e (h1.trans z))];exact⟨h1,h2,h3⟩
theorem KT.put {H:Hp}{aq:List (List Key×V)}{xs:List (List Key×Addr×Value)}(r:KT H aq xs) (k:List Key) {b:Addr}{y:V}{u:Value}(hb:H b=some (.tup (k.map kV))) (ry:RelV y u) :
    KT H (putK aq k y) (storedH xs k b u):=by
  have e:(aq.any fun kv=>decide (kv.1=k))=(atKey xs k).isSome:=by
    rw[zR,(r.val k).dD,Option.isSome_map]
  unfold putK storedH;rw[e]
  by_cases q:(atKey xs k).isSome=true
  · rw[if_pos q,if_pos q];exact r.rV k ry
  · rw[if_neg q,if_neg q];exact Paired.snoc r ⟨rfl,hb,ry⟩
theorem KT.keeps {H H':Hp}{aq:List (List Key×V)}{xs:List (List Key×Addr×Value)}(r:KT H aq xs) (ht:∀b ys,H b=some (.tup ys)->H' b=some (.tup ys)):KT H' aq xs:=
  Paired.qX r fun _ _ z=>⟨z.1,ht _ _ z.2.1,z.2.2⟩
section
variable {P:Program}{w:World}{H:Hp}{h:Heap}{a:Addr}
theorem FP {u:HO}(ok:fq P w H h) (e:Rd H a u):aH P w H h a u:=e.ok ok
theorem BX {aq:List (Key×V)}(ok:fq P w H h) (e:Rd H a (.dK aq)):aq.length<=sizeLine/\(a == sysModules)=false/\∃vs,KV aq vs/\h.DictOf (jF P w) a vs:=
  show aH P w H h a (.dK aq) from FP ok e
theorem MT {aq:List (Key×V)}(ok:fq P w H h) (e:H a=some (.dK aq)):aq.length<=sizeLine/\(a == sysModules)=false/\∃vs,KV aq vs/\h.DictOf (jF P w) a vs:=BX ok (.inl e)
theorem zS {ks:List Key}(ok:fq P w H h) (e:H a=some (.tup (ks.map kV))):(tupleKind (jF P w)).is h ks a:=by
  obtain⟨_,its,r,o,h1,h2,n,h3⟩:=(show aH P w H h a (.tup (ks.map kV)) from ok a _ e);exact⟨o,its.toArray,n,h1,h2,h3,by simpa using FO r⟩
theorem BY {aq:List (List Key×V)}(ok:fq P w H h) (e:Rd H a (.dT aq)):aq.length<=sizeLine/\(a == sysModules)=false/\
    ∃xs,KT H aq xs/\h.DictOfH (tupleKind (jF P w)) a xs:=by
  obtain⟨z,y,xs,r,o,es,ep,h1,h2,h3,h4,h5⟩:=(show aH P w H h a (.dT aq) from FP ok e);refine⟨z,y,xs,r,o,es,ep,h1,h2,h3,h4,fun x hx=>?_,h5⟩;have all:∀{l:List (List Key×V)}{m:List (List Key×Addr×Value)},KT H l m->∀x∈m,(tupleKind (jF P w)).is h x.1 x.2.1:=by
    intro l m q
    induction q with
    | nil=>intro x hx;exact nomatch hx
    | @cons p q ps qs hq t ih=>
      intro x hx;rcases List.mem_cons.mp hx with e | hx
      · subst e;exact zS ok (by rw[←hq.1];exact hq.2.1)
      · exact ih x hx
  exact all r x hx
theorem MU {aq:List (List Key×V)}(ok:fq P w H h) (e:H a=some (.dT aq)):aq.length<=sizeLine/\(a == sysModules)=false/\
    ∃xs,KT H aq xs/\h.DictOfH (tupleKind (jF P w)) a xs:=BY ok (.inl e)
end
def eZ (H:Hp) (a:Addr) (y:V) (r:Option V):Prop:=
  (∃aq k,Rd H a (.dK aq)/\y=kV k/\r=dM aq k)\/∃aq k b,Rd H a (.dT aq)/\y = .ref b/\H b=some (.tup (k.map kV))/\r=dM aq k
def jt (H:Hp) (a:Addr) (y v:V) (H':Hp):Prop:=
  (∃aq k,H a=some (.dK aq)/\y=kV k/\aq.length<sizeLine/\H'=upd H a (.dK (putK aq k v)))\/
  ∃aq k b,H a=some (.dT aq)/\y = .ref b/\H b=some (.tup (k.map kV))/\aq.length<sizeLine/\H'=upd H a (.dT (putK aq k v))
theorem eZ.k {H:Hp}{a:Addr}{aq:List (Key×V)}{k:Key}(e:H a=some (.dK aq)):eZ H a (kV k) (dM aq k):=.inl ⟨aq,k,.inl e,rfl,rfl⟩
theorem eZ.t {H:Hp}{a b:Addr}{aq:List (List Key×V)}{k:List Key}(e:H a=some (.dT aq)) (eb:H b=some (.tup (k.map kV))):eZ H a (.ref b) (dM aq k):=.inr ⟨aq,k,b,.inl e,rfl,eb,rfl⟩
theorem jt.k {H:Hp}{a:Addr}{aq:List (Key×V)}{k:Key}{v:V}(e:H a=some (.dK aq)) (hl:aq.length<sizeLine):jt H a (kV k) v (upd H a (.dK (putK aq k v))):=.inl ⟨aq,k,e,rfl,hl,rfl⟩
theorem jt.t {H:Hp}{a b:Addr}{aq:List (List Key×V)}{k:List Key}{v:V}(e:H a=some (.dT aq)) (eb:H b=some (.tup (k.map kV))) (hl:aq.length<sizeLine) :
    jt H a (.ref b) v (upd H a (.dT (putK aq k v))):=.inr ⟨aq,k,b,e,rfl,eb,hl,rfl⟩
section
variable {X:Cx}{pins:List (Addr×Obj)}{σ:St}{H:Hp}{s:Shared}{a:Addr}{y v:V}{u r:Value}{o:Option V}{A:Around}{E:Value->Shared->Prop}
theorem Inv.big (I:Inv X pins σ H s):sysModules<s.heap.objs.size:=by
  have h:mainGlobals<s.heap.objs.size:=(I.mod.glob.keeps I.bk).lt;exact Nat.lt_trans (by decide) h
theorem BZ {Q:Value->Shared->Prop}(hu:A.units+1<cLine) (I:Inv X pins σ H s) (g:eZ H a y o) (ry:RelV y u) (h:∀s',Inv X pins σ H s'->Q (.bool o.isSome) s') :
    wpAny (model X.prog X.w) A (compareOp .In u (.ref a)) Q E s:=by
  rcases g with ⟨aq,k,e,ey,l⟩ | ⟨aq,k,b,e,ey,eb,l⟩
  · subst ey;obtain⟨z,hd,vs,rel,dd⟩:=BX I.aF e;refine wpAny_in_of (uS ry) hd dd.mapOf ?_;rw[←(rel.val k).dD,←l];exact h _ (I.tok _)
  · subst ey;cases (show u=Value.ref b from ry);obtain⟨z,hd,xs,rel,dd⟩:=BY I.aF e;refine wpAny_in_heap (tupleKind_room_in1 hu) (zS I.aF eb) hd dd ?_;have q:=(rel.val k).dD;rw[Option.isSome_map] at q;rw[←q,←l];exact h _ (I.tok _)
theorem MV {Q:Value->Shared->Prop}(hu:A.units+1<cLine) (I:Inv X pins σ H s) (g:eZ H a y o) (ry:RelV y u) (h:∀s',Inv X pins σ H s'->Q (.bool (!o.isSome)) s') :
    wpAny (model X.prog X.w) A (compareOp .NotIn u (.ref a)) Q E s:=by
  rcases g with ⟨aq,k,e,ey,l⟩ | ⟨aq,k,b,e,ey,eb,l⟩
  · subst ey;obtain⟨z,hd,vs,rel,dd⟩:=BX I.aF e;refine wpAny_notIn_of (uS ry) hd dd.mapOf ?_;rw[←(rel.val k).dD,←l];exact h _ (I.tok _)
  · subst ey;cases (show u=Value.ref b from ry);obtain⟨z,hd,xs,rel,dd⟩:=BY I.aF e;refine wpAny_notIn_heap (tupleKind_room_in1 hu) (zS I.aF eb) hd dd ?_;have q:=(rel.val k).dD;rw[Option.isSome_map] at q;rw[←q,←l];exact h _ (I.tok _)
theorem FQ {h':Heap}{t':Nat}{ob:HO}(I:Inv X pins σ H s) (mu:vF (H a)) (hs:Heap.SameBut a s.heap h') (he:∃q,h'.get? a=some q) (new:aH X.prog X.w (upd H a ob) h' a ob) :
    Inv X pins σ (upd H a ob) { s with heap:=h',toks:=t' }:=
  I.write (x:=a) (e:=a) mu (.inl rfl) (fun b q hb z=>(hs.2 b hb).trans z) he new
theorem MW {P:Program}{w:World}{H':Hp}{h':Heap}{aq:List (Key×V)}{vs:List (Key×Value)}(z:aq.length<=sizeLine) (hd:(a == sysModules)=false) (rel:KV aq vs) (dd:h'.DictOf (jF P w) a vs) :
    aH P w H' h' a (.dK aq):=⟨z,hd,vs,rel,dd⟩
theorem MX {H':Hp}{Q:Unit->Shared->Prop}(hu:A.units+1<cLine) (I:Inv X pins σ H s) (g:jt H a y v H') (ry:RelV y u) (rv:RelV v r) (h:∀s',Inv X pins σ H' s'->Q () s') :
    wpAny (model X.prog X.w) A (setItem (.ref a) u r) Q E s:=by
  rcases g with ⟨aq,k,e,ey,l,eH⟩ | ⟨aq,k,b,e,ey,eb,l,eH⟩
  · subst ey eH;obtain⟨z,hd,vs,rel,dd⟩:=MT I.aF e;have hz:vs.length<=sizeLine:=by rw[←rel.length];exact z
    have hl:(putK aq k v).length<=sizeLine:=by have:=FN aq k v;omega
    refine wpAny_setItem_pairs (hsz:=hz) (uS ry) dd fun h' zT hs=>h _ ?_
    have he:∃q,h'.get? a=some q:=let ⟨q,_,_,hq,_⟩:=zT;⟨q,hq⟩
    exact FQ I (by rw[e];exact True.intro) hs he (MW hl hd (rel.put k rv) zT)
  · subst ey eH;cases (show u=Value.ref b from ry);obtain⟨z,hd,xs,rel,dd⟩:=MU I.aF e;have hz:xs.length<=sizeLine:=by rw[←Paired.length rel];exact z
    have hl:(putK aq k v).length<=sizeLine:=by have:=FN aq k v;omega
    refine wpAny_setItem_heap (hsz:=hz) (tupleKind_room_in1 hu) (zS I.aF eb) dd fun h' zT hs=>h _ ?_
    obtain⟨q,es,ep,hq,h2,h3,h4,_,h5⟩:=zT;refine FQ I (by rw[e];exact True.intro) hs ⟨q,hq⟩ ⟨hl,hd,_,(rel.put k eb rv).keeps fun c ys ec=>?_,q,es,ep,hq,h2,h3,h4,h5⟩;rw[aJ (j8 ec e (fun z=>nomatch z))];exact ec
end
def wB (i:Expr):Prop:=∀ov iv,subscripted i false ov iv=operate [ov,iv] (getItem ov iv)
theorem MY {prog:Program}{w:World}{A:Around}{E:Value->Shared->Prop}{s:Shared}{env:Env}{value slice:Expr}{pos:Pos}{T id:String}{Q:Value->Shared->Prop}
    (hl:typeLookup (.type T) "__getitem__" = pure (some (.builtin id))) (hs:wB slice)
    (h:wpAny (model prog w) A (eval value env) (fun o aI=>wpAny (model prog w) A (eval slice env) (fun i dW=>dW.TypeIs o T/\wpAny (model prog w) A (getItem o i) Q E dW) E aI) E s) :
    wpAny (model prog w) A (eval (.Subscript value slice pos) env) Q E s:=by
  refine Subscript_ (wpAny_mono h (fun o aI cL=>wpAny_mono cL (fun i dW iJ=>?_) fun _ _ x=>x) fun _ _ x=>x);obtain⟨hT,iJ⟩:=iJ;unfold subscriptTail;refine wpAny_bind ?_;rw[getitemInPython_of_ne hT.not_modules];refine wpAny_bind (wpAny_specialOf hT hl ?_);have fin:wpAny (model prog w) A (subscripted slice false o i) (fun r ia=>wpAny (model prog w) A (letTemporaryGo value o r >>= fun _=>pure r) Q E ia) E dW:=by
    rw[hs o i];exact wpAny_operating (wpAny_mono iJ (fun r ia o6=>wpAny_bind (wpAny_letTemporaryGo (wpAny_pure o6))) fun _ _ x=>x)
  first
    | exact wpAny_pure (wpAny_bind fin)
    | exact wpAny_bind (wpAny_pure (wpAny_bind fin))
    | exact wpAny_bind fin
def B0 (ty td:TE):TE:=fun σ H Q=>ty σ H fun y H1=>td σ H1 fun x H2=>∃a o,x = .ref a/\eZ H2 a y o/\Q (.bl o.isSome) H2
def MZ (ty td:TE):TE:=fun σ H Q=>ty σ H fun y H1=>td σ H1 fun x H2=>∃a o,x = .ref a/\eZ H2 a y o/\Q (.bl (!o.isSome)) H2
def M0 (td ty tv:TE):TS:=fun D σ H=>tv σ H fun v H1=>td σ H1 fun x H2=>ty σ H2 fun y H3=>∃a H4,x = .ref a/\jt H3 a y v H4/\D.nx σ H4
section
variable {X:Cx}{o i e value:Expr}{pos pos' jq:Pos}{td ty tv:TE}
theorem uT (hu:X.A.units+1<cLine) (hi:PE X i ty) (ho:PE X o td):PC X .In i o (B0 ty td):=by
  intro pins s σ H Q I h;refine aM (hi pins s σ H _ I h) fun iv s1 ⟨y,H1,I1,ry,q1⟩=>aM (ho pins s1 σ H1 _ I1 q1) fun u s2 aE=>?_
  obtain⟨x,H2,I2,rx,a,ov,ex,g,q2⟩:=aE;subst ex;obtain rfl:u=Value.ref a:=rx;exact BZ hu I2 g ry fun s3 I3=>⟨.bl ov.isSome,H2,I3,rfl,q2⟩
theorem FT (hu:X.A.units+1<cLine) (hi:PE X i ty) (ho:PE X o td):PC X .NotIn i o (MZ ty td):=by
  intro pins s σ H Q I h;refine aM (hi pins s σ H _ I h) fun iv s1 ⟨y,H1,I1,ry,q1⟩=>aM (ho pins s1 σ H1 _ I1 q1) fun u s2 aE=>?_
  obtain⟨x,H2,I2,rx,a,ov,ex,g,q2⟩:=aE;subst ex;obtain rfl:u=Value.ref a:=rx;exact MV hu I2 g ry fun s3 I3=>⟨.bl (!ov.isSome),H2,I3,rfl,q2⟩
theorem uU (hu:X.A.units+1<cLine) (ho:PE X o td) (hi:PE X i ty) (hv:PE X value tv) (hs:swapsWith value (some (.Subscript o i pos')) pos.line X.env=pure false) :
    PS X (.Assign [.Subscript o i pos'] value pos) (M0 td ty tv):=by
  intro pins s σ H D I h;refine wpAny_Assign_Subscript (aM (hv pins s σ H _ I h) fun r s1 ⟨v,H1,I1,rv,q1⟩=>aM (ho pins s1 σ H1 _ I1 q1) fun u s2 ⟨x,H2,I2,rx,q2⟩=>aM (hi pins s2 σ H2 _ I2 q2) fun iv s3 aE=>?_) hs;obtain⟨y,H3,I3,ry,a,H4,ex,g,q3⟩:=aE;subst ex;obtain rfl:u=Value.ref a:=rx;exact MX hu I3 g ry rv fun s4 I4=>⟨σ,H4,I4,q3⟩
end
theorem M1 {P:Program}{w:World}{H:Hp}(h:Heap) (hb:sysModules<h.objs.size):aH P w H (h.push { cls:=.type "dict",data:=.dict #[] }) h.objs.size (.dK []):=
  ⟨Nat.zero_le _,beq_eq_false_iff_ne.mpr (Ne.symm (Nat.ne_of_lt hb)),[],.nil,Heap.DictOf.new h⟩
theorem M3 {P:Program}{w:World}{H:Hp}(h:Heap) (hb:sysModules<h.objs.size):aH P w H (h.push { cls:=.type "dict",data:=.dict #[] }) h.objs.size (.dT []):=
  ⟨Nat.zero_le _,beq_eq_false_iff_ne.mpr (Ne.symm (Nat.ne_of_lt hb)),[],.nil,_,#[],0,Heap.get?_push_size _ rfl,⟨rfl,rfl,rfl⟩,rfl,rfl,List.nodup_nil⟩
def M4:TE:=fun _ H Q=>∀p,H p=none->Q (.ref p) (upd H p (.dK []))
def M5:TE:=fun _ H Q=>∀p,H p=none->Q (.ref p) (upd H p (.dT []))
section
variable {X:Cx}{pos:Pos}
theorem FU:PE X (.Dict [] [] pos) M4:=fun pins s σ H Q I h=>
  wpAny_Dict_empty ⟨.ref s.heap.objs.size,_,I.laid (a:=s.heap.objs.size) (o:=.dK []) (t':=s.toks) (fun _ _ q=>Heap.get?_push_of_some _ q) (Nat.le_refl _) (M1 s.heap I.big),rfl,h _ (I.aF.fresh (Nat.le_refl _))⟩
theorem M6:PE X (.Dict [] [] pos) M5:=fun pins s σ H Q I h=>
  wpAny_Dict_empty ⟨.ref s.heap.objs.size,_,I.laid (a:=s.heap.objs.size) (o:=.dT []) (t':=s.toks) (fun _ _ q=>Heap.get?_push_of_some _ q) (Nat.le_refl _) (M3 s.heap I.big),rfl,h _ (I.aF.fresh (Nat.le_refl _))⟩
end
end L2
namespace FW
open PySem PySem.W PySem.Calls PyProof.Rows
theorem M7 {P:Params}{h:Heap}:∀(ns:List Int) (vs:List Value),WellAll P h vs (ns.map WData.int)->IntsAre vs ns:=by
  intro ns
  induction ns with
  | nil=>
    intro vs w;rw[List.map_nil] at w;cases w;exact .nil
  | cons n ns ih=>
    intro vs w;rw[List.map_cons] at w;cases w with
    | cons a b=>
      cases a;exact .cons _ _ (ih _ b)
theorem M8 {l:OpenLaw}{n:Nat}(hn:l.most=some n) {P:Params}{h:Heap}{args:List WData}{vals:List Value}
    (o7:l.row.toRowW.claim.pre args=true) (B3:WellAll P h vals args) :
    ∃a vs ns,vals = [Value.ref a]/\args = [WData.list (ns.map WData.int)]/\h.get? a=some { cls:=.type "list",data:=.seq vs.toArray }/\IntsAre vs ns/\ns.length<=n:=by
  have zU:WShape.hasAll [] args [.list .int]=true:=(pre_splitW o7).1;have hc:l.pre.holds [] { args:=args } = true:=(pre_splitW o7).2;obtain⟨d,r,rfl,h1,h2⟩:=hasAllW_cons zU;obtain rfl:=hasAllW_nil h2;obtain⟨xs,rfl,h3⟩:=hasW_list h1;obtain⟨ns,rfl⟩:=items_int h3;have hlen:ns.length<=n:=by
    unfold OpenLaw.pre at hc;have h4:(WTm.not (.lt (.lit (.int (n:Int))) (.len (.arg 0)))).holds [] { args:=[.list (ns.map .int)] } = true:=by
      have h4:=(holds_andW hc).1;rw[hn] at h4;exact h4
    have h5:=condW_of h4 (w_not (w_lt w_lit (w_len_list (w_arg rfl))));rw[List.length_map] at h5;refine Nat.le_of_not_lt fun q=>?_
    have q':(n:Int)<((ns.length:Nat):Int):=by omega
    first
      | (rw[decide_eq_true q'] at h5;exact absurd h5 (by decide))
      | (simp at h5;omega)
  cases B3 with
  | cons w1 w2=>
    cases w2;cases w1 with
    | list ho B4=>exact⟨_,_,ns,rfl,rfl,ho,M7 ns _ B4,hlen⟩
theorem M9 (l:OpenLaw) (args:List WData):l.row.toRowW.claim.post args (.bool true) args=true:=
  postW_of (r:=l.row.toRowW) (X:=(true == true))
    (show WShape.has [] (.bool true) .bool=true by first | rfl | decide | simp[WShape.has,WShape.arms,WShape.armsAll])
    (show (WTm.eq .res (.lit (.bool true))).value [] { args:=args,res:=some (.bool true),after:=args } = some (.bool (true == true)) from w_eq_bool (w_res rfl) w_lit) rfl
theorem jU {l:OpenLaw}{n:Nat}{q:Program}{loose:List Str}{XP:(Str->Option Value)->Heap->Prop}{YP:World->Heap->Prop}{d:DefRec}
    (hn:l.most=some n) (mD:d.params.defaults = [])
    (call:∀(w:World) (bw aI:Shared) (mg mb:Str->Option Value) (fa:Addr) (o:Obj) (pm cd doc:Value) (a:Addr) (vs:List Value) (ns:List Int),
      Ground q loose [] XP w bw mg mb aI.heap->YP w aI.heap->
      aI.heap.get? fa=some o->o.data = .func (docDef d.name d.params d.body d.scope pm cd doc)->aI.heap.CodeRec cd d.name->mg d.name=some (.ref fa)->
      aI.heap.get? a=some { cls:=.type "list",data:=.seq vs.toArray }->IntsAre vs ns->ns.length<=n->aI.gens = #[]->
      codeAny (model l.prog w) callerA (.call (.ref fa) ⟨[.ref a],[]⟩) (fun r s'=>r = .ok (.ret (.bool true))/\OldK aI.heap s'.heap/\s'.os=aI.os/\AllBare s'.gens) aI) :
    WalkO q loose XP YP l.row.toRowW d [] (fun f vs=>PySem.call f vs):=by
  intro w bw aI mg mb G Y fa o pm cd doc dV kV ho hd jo hD uV hg args vals as o7 Na Yx B3 o8;obtain rfl:dV = .none:=Dflts.none hD mD;obtain rfl:kV = .none:=Dflts.noKw hD;obtain⟨a,vs,ns,rfl,rfl,rW,hints,hlen⟩:=M8 hn o7 B3;refine enter_call (codeAny_mono (call w bw aI mg mb fa o pm cd doc a vs ns G Y ho (fd_plain hd) jo uV rW hints hlen hg) fun r s' hq=>?_);obtain⟨rfl,h2,h3,h4⟩:=hq;exact⟨.inl ⟨.bool true,.bool true,[],rfl,fun _=>rfl,.bool true,M9 l _,fun _=>⟨List.Pairwise.nil,fun _ hm=>(nomatch hm)⟩⟩,h2,h3,h4⟩
end FW
namespace L2
open PySem PySem.Spec PyProof.Rows
theorem B5:∀{vs:List Value}{ns:List Int},IntsAre vs ns->Vals (ns.map V.int) vs
  | _,_,.nil=>.nil
  | _,_,.cons n t h=>.cons ⟨t,rfl⟩ (B5 h)
def o9 (H:Hp):Prop:=∀b,H b=none\/∃o xs,H b=some (.k7 o (.lst xs))
theorem Nb {P:Program}{w:World}{K:PySem.W.Frag}{mg mb:Str->Option Value}{CX:jJ}{k:Nat}{fa a:Addr}{fd:FuncData}{x:Str}{sp:Sp}{aI:Shared}{vs:List Value}{ns:List Int}
    (KX:K.In aI.heap) (zV:aI.heap.Ns mainGlobals mg) (hb:aI.heap.Ns builtinsNs mb) (Nc:∀x:Str,x≠"__name__"->mb x=bootBuiltins x) (B6:aI.heap.NoLimit) (hg:aI.gens = #[])
    (ha:aI.heap.get? a=some { cls:=.type "list",data:=.seq vs.toArray }) (hi:IntsAre vs ns) (hl:ns.length<=sizeLine) (hr:aX k callerA)
    (F:∀base:Heap,K.In base->base.Ns mainGlobals mg->eg P w K mg base CX k fa fd [x] sp) (wC:∀(s:Shared) (u:Value),BindsTo s fd ⟨[u],[]⟩ [(x,u)])
    (mC:∀H:Hp,o9 H->ak K H a (ns.map V.int)->sp [.ref a] H (fun v _=>v = .bl true) fun _ _ _=>False)
    (wD:∀H e s',CX [] H aI (fun _ _ _=>False) e s'->False) :
    codeAny (model P w) callerA (.call (.ref fa) ⟨[.ref a],[]⟩) (fun r s'=>r = .ok (.ret (.bool true))/\OldK aI.heap s'.heap/\s'.os=aI.os/\AllBare s'.gens) aI:=by
  have rv:=B5 hi;have B7:=hi.length;have core:∀H:Hp,o9 H->ak K H a (ns.map V.int)->fq P w H aI.heap->(∀b,H b≠none->b=a)->(H a≠none->K.lookup a=none)->
      codeAny (model P w) callerA (.call (.ref fa) ⟨[.ref a],[]⟩) (fun r s'=>r = .ok (.ret (.bool true))/\OldK aI.heap s'.heap/\s'.os=aI.os/\AllBare s'.gens) aI:=by
    intro H hO hS aF hA hK;have lC:∀{b:Addr}{o:Obj},aI.heap.get? b=some o->H b=none->(jl aI.heap H).get? b=some o:=fun e n=>Lr e n
    have we:∀{b:Addr}{o:Obj}{es:Array DictEntry}{ep:Nat},aI.heap.get? b=some o->o.data = .dict es ep->H b=none:=fun {b o es ep} e d=>by
      cases q:H b with
      | none=>rfl
      | some u=>
        have e':b=a:=hA b (by rw[q];simp);subst e';rw[ha] at e;cases e;have d':Data.seq vs.toArray _=Data.dict es ep:=d;cases d'
    have zW:∀{b:Addr}{m:Str->Option Value},aI.heap.Ns b m->(jl aI.heap H).Ns b m:=fun {b m} ⟨o,es,ep,e,d,r⟩=>⟨o,es,ep,lC e (we e d),d,r⟩
    have FY:K.In (jl aI.heap H):=fun b o e=>lC (KX b o e) (by
      cases q:H b with
      | none=>rfl
      | some u=>
        have e':b=a:=hA b (by rw[q];simp);subst e';rw[hK (by rw[q];simp)] at e;cases e)
    have hM:Mod K mg (jl aI.heap H):=⟨FY,zW zV,⟨mb,zW hb,Nc⟩,let ⟨mc,h1,h2⟩:=B6;⟨mc,zW h1,h2⟩⟩;have e0:kF P w K mg (jl aI.heap H) callerA [] aI H:=⟨rfl,hM,fun b o e=>Ls e,Nat.le_of_eq (Lq _ _),trivial,fun b hb=>absurd (show b∈([]:List Addr) from hb) (by simp),aF,.of_eq hg⟩;refine codeAny_mono ((F _ FY (zW zV)).run callerA [] aI H ⟨[.ref a],[]⟩ [.ref a] [.ref a] _ _ hr e0 (wC aI (.ref a)) (.cons rfl .nil) (mC H hO hS)) fun r s' h=>?_
    cases r with
    | error e=>exact (wD H e s' h).elim
    | ok fl=>
      cases fl with
      | next=>exact False.elim h
      | brk=>exact False.elim h
      | cont=>exact False.elim h
      | ret u=>
        obtain⟨v,H',os,bare,un,rX,r',q⟩:=h;have q':v = .bl true:=q;subst q';obtain rfl:u=Value.bool true:=r';refine⟨rfl,OldK.of_keep fun b o e=>?_,os,bare⟩;cases q:H b with
        | none=>exact un.keep b o e q (by intro z;exact absurd (show b∈([]:List Addr) from z) (by simp)) (by simp)
        | some u=>
          rcases hO b with z | ⟨ob,xs,z⟩
          · rw[q] at z;cases z
          · have z2:=un.gE b ob _ z;obtain⟨e1,_⟩:=aF b _ z;obtain⟨e2,_⟩:=rX b _ z2;rw[e] at e1;cases e1;exact e2
  cases hk:K.lookup a with
  | some o=>
    have e:=KX a o hk;rw[ha] at e;cases e;refine core (fun _=>none) (fun _=>.inl rfl) (.inr ⟨_,vs.toArray,_,hk,rfl,rfl,rfl,by rw[List.size_toArray,B7];exact hl,by simpa using rv⟩) (fun b u z=>by have z':(none:Option HO)=some u:=z;cases z') (fun b z=>absurd rfl z) fun z=>absurd rfl z
  | none=>
    refine core (fun b=>if b=a then some (.k7 { cls:=.type "list",data:=.seq vs.toArray } (.lst (ns.map V.int))) else none) (fun b=>?_) (.inl (.inr ⟨{ cls:=.type "list",data:=.seq vs.toArray },if_pos rfl⟩)) (fun b u z=>?_) (fun b z=>?_) fun _=>hk
    · by_cases hb:b=a
      · exact .inr ⟨_,_,if_pos hb⟩
      · exact .inl (if_neg hb)
    · by_cases hb:b=a
      · have z':=(if_pos hb).symm.trans z;cases z';subst hb;exact⟨ha,by rw[List.length_map];exact hl,vs,_,rv,ha⟩
      · have z':=(if_neg hb).symm.trans z;cases z'
    · by_cases hb:b=a
      · exact hb
      · exact absurd (if_neg hb) z
abbrev FZ {K:PySem.W.Frag}{h:Heap}(_:K.In h):PySem.W.Frag:=K
theorem Nd {l:PySem.W.OpenLaw}{n k:Nat}{q:Program}{loose:List Str}{XP:(Str->Option Value)->Heap->Prop}{YP:World->Heap->Prop}{d:DefRec}{K:Params->PySem.W.Frag}{CX:World->jJ}{sp:World->Sp}{x:Str}
    (hn:l.most=some n) (qg:n<=sizeLine) (mD:d.params.defaults = []) (hr:aX k callerA)
    (hY:∀(w:World) (h:Heap),YP w h->(K w.params).In h)
    (F:∀(w:World) (mg:Str->Option Value) (fa:Addr) (h:Heap),(K w.params).In h->h.Ns mainGlobals mg->mg d.name=some (.ref fa)->
      ∃fd:FuncData,(∀(s:Shared) (u:Value),BindsTo s fd ⟨[u],[]⟩ [(x,u)])/\
        ∀base:Heap,(K w.params).In base->base.Ns mainGlobals mg->eg l.prog w (K w.params) mg base (CX w) k fa fd [x] (sp w))
    (mC:∀(w:World) (H:Hp) (a:Addr) (ns:List Int),ns.length<=n->o9 H->ak (K w.params) H a (ns.map V.int)->sp w [.ref a] H (fun v _=>v = .bl true) fun _ _ _=>False)
    (wD:∀(w:World) (H:Hp) (s:Shared) (e:Value) (s':Shared),CX w [] H s (fun _ _ _=>False) e s'->False) :
    PySem.W.WalkO q loose XP YP l.row.toRowW d [] (fun f vs=>PySem.call f vs):=by
  refine FW.jU hn mD fun w bw aI mg mb fa o pm cd doc a vs ns G Y ho hd jo uV rW hints hlen hg=>?_
  have KX:=hY w _ Y;obtain⟨fd,hb,hF⟩:=F w mg fa _ KX G.T.g uV;exact Nb KX G.T.g G.T.b G.T.builtins G.T.nolimit hg rW hints (Nat.le_trans hlen qg) hr hF hb (fun H hO hS=>mC w H a ns hlen hO hS) fun H e s'=>wD w H aI e s'
theorem m7 {l:PySem.W.OpenLaw}{n k:Nat}{q:Program}{loose:List Str}{XP:(Str->Option Value)->Heap->Prop}{YP:World->Heap->Prop}{d:DefRec}{K:Params->PySem.W.Frag}{CX:jJ}{sp:PySem.W.Frag->Sp}{x:Str}
    (hn:l.most=some n) (qg:n<=sizeLine) (mD:d.params.defaults = []) (hr:aX k callerA)
    (hY:∀(w:World) (h:Heap),YP w h->(K w.params).In h)
    (F:∀(w:World) (mg:Str->Option Value) (fa:Addr) (h:Heap),(K w.params).In h->h.Ns mainGlobals mg->mg d.name=some (.ref fa)->
      ∃fd:FuncData,(∀(s:Shared) (u:Value),BindsTo s fd ⟨[u],[]⟩ [(x,u)])/\
        ∀base:Heap,(K w.params).In base->base.Ns mainGlobals mg->eg l.prog w (K w.params) mg base CX k fa fd [x] (sp (K w.params)))
    (mC:∀(K:PySem.W.Frag) (H:Hp) (a:Addr) (ns:List Int),ns.length<=n->o9 H->ak K H a (ns.map V.int)->sp K [.ref a] H (fun v _=>v = .bl true) fun _ _ _=>False)
    (wD:∀(H:Hp) (s:Shared) (e:Value) (s':Shared),CX [] H s (fun _ _ _=>False) e s'->False) :
    PySem.W.WalkO q loose XP YP l.row.toRowW d [] (fun f vs=>PySem.call f vs):=
  Nd (K:=K) (CX:=fun _=>CX) (sp:=fun w=>sp (K w.params)) hn qg mD hr hY F (fun w H a ns h1 h2 h3=>mC (K w.params) H a ns h1 h2 h3) fun _ H s e s'=>wD H s e s'
def ic (s:Stmt) (j:Nat):Stmt:=match s with
  | .ClassDef _ _ _ body _ _ _ _ _ _ _=>body.getD j (.Pass ⟨0,0,0,0⟩)
  | _=>.Pass ⟨0,0,0,0⟩
def rY (s:Stmt):Arguments:=match s with
  | .FunctionDef _ a _ _ _ _ _ _ _ _=>a
  | _=>{ posonlyargs:=[],args:=[],vararg:=none,kwonlyargs:=[],kw_defaults:=[],kwarg:=none,defaults:=[] }
def zj (s:Stmt):List Stmt:=match s with
  | .FunctionDef _ _ b _ _ _ _ _ _ _=>b
  | _=>[]
def zm (s:Stmt):Scope:=match s with
  | .FunctionDef _ _ _ _ _ _ sc _ _ _=>sc
  | _=>{ kind:=.function,names:=[],isGenerator:=false,isCoroutine:=false }
abbrev bJ:jJ:=fun _ _ _ _ _ _=>False
abbrev E0:XK:=fun _ _ _=>False
theorem zX {X:Cx}:lP bJ X E0:=fun _ _ _ _ _ _ _ h=>h.elim
structure wG (K:PySem.W.Frag) (x qual:Str) (st:Stmt) (f:Addr) (fd:FuncData):Prop where
  ex:∃(oc:Value) (od:Option Addr) (kV doc pm:Value) (an:Option Addr) (ay ct:Value) (fZ:Array (Option Value)),
    fd=PySem.W.fnOf x qual (rY st) (zj st) (zm st) .none kV doc pm an ay ct/\K.lookup f=some ⟨oc,od,.func fd,fZ⟩/\PySem.W.codeIn K ay qual=true
  kp:PySem.W.keepIn K (.ref f)=true
section
variable {P:Program}{w:World}{K:PySem.W.Frag}{mg:Str->Option Value}{base:Heap}
theorem wG.ok {x qual:Str}{st:Stmt}{f:Addr}{fd:FuncData}{N ps:List Str}{k:Nat}{sp:Sp}(F:wG K x qual st f fd) (S:aj N ps (zm st)) (len:∀vs H Q E,sp vs H Q E->vs.length=ps.length)
    (gg:∀(ay:Value) (A:Around) (outer:List Env) (s:Shared) (H:Hp) (vs:List V) (Q:VK) (E:XK),aX k (A.deeper (envOfC qual (zm st) s.heap.objs.size f ay))->sp vs H Q E->
      ∃t,jm (aA bJ P w K mg base N qual (zm st) f ay A outer s H E).bX (zj st) t/\t { nx:=fun _ H'=>Q .aL H',rt:=Q } (start N vs) H):eg P w K mg base bJ (k+1) f fd ps sp:=by
  obtain⟨oc,od,kV,doc,pm,an,ay,ct,fZ,rfl,lk,jo⟩:=F.ex;refine BG lk jo S len fun A outer s H vs Q E hr mC=>?_
  obtain⟨t,h,q⟩:=gg ay A outer s H vs Q E hr mC;exact⟨t,h.bX,q⟩
theorem F0 {x qual:Str}{st:Stmt}{f:Addr}{oc:Value}{od an:Option Addr}{fZ:Array (Option Value)}{kV doc pm ay ct:Value}(l:K.lookup f=some ⟨oc,od,.func (PySem.W.fnOf x qual (rY st) (zj st) (zm st) .none kV doc pm an ay ct),fZ⟩)
    (c:PySem.W.codeIn K ay qual=true) (k:PySem.W.keepIn K (.ref f)=true):wG K x qual st f (PySem.W.fnOf x qual (rY st) (zj st) (zm st) .none kV doc pm an ay ct):=⟨⟨oc,od,kV,doc,pm,an,ay,ct,fZ,rfl,l,c⟩,k⟩
end
theorem qi {A:Around}{k:Nat}(hr:aX k A):A.units+1<cLine:=Nat.lt_of_le_of_lt (Nat.add_le_add_left (by decide:1<=64) _) hr.units
theorem pe {n:Nat}(h:n<=1000):n<sizeLine:=Nat.lt_of_le_of_lt h (by decide)
section
variable {X:Cx}
theorem pv (i:Nat) {x:Str}{pos:Pos}(hN:X.N[i]? = some x:=by rfl) (hv:Ba X.env.scope x:=by first | exact Or.inl rfl | exact Or.inr (Or.inl rfl) | exact Or.inr (Or.inr rfl)) (hd:(x == ("__debug__" : Str))=false:=by decide)
    (jo:(x == ("__classdict__" : Str))=false:=by decide):PE X (.Name x pos) (cJ i):=Lv hN hv hd jo
end
theorem aB {A B:Prop}(h:B):if false=true then A else B:=by
  rw[if_neg Bool.false_ne_true];exact h
theorem br {A B:Prop}(h:A):if true=true then A else B:=by
  rw[if_pos rfl];exact h
theorem dO {c A B:Prop} [Decidable c] (h1:c->A) (h2:¬c->B):if c then A else B:=by
  by_cases h:c
  · rw[if_pos h];exact h1 h
  · rw[if_neg h];exact h2 h
def aa (H H':Hp):Prop:=∀b o,H b=some o->H' b=some o
theorem aa.refl (H:Hp):aa H H:=fun _ _ h=>h
theorem aa.trans {H H1 H2:Hp}(a:aa H H1) (b:aa H1 H2):aa H H2:=fun c o h=>b c o (a c o h)
theorem aa.free {H H':Hp}(e:aa H H') {l:Addr}(h:H' l=Option.none):H l=Option.none:=by
  cases q:H l with
  | none=>rfl
  | some o=>
    rw[e l o q] at h;cases h
theorem aa.seq {K:PySem.W.Frag}{H H':Hp}{a:Addr}{xs:List V}(e:aa H H') (h:ak K H a xs):ak K H' a xs:=by
  rcases h with (h | ⟨o,h⟩) | h
  · exact .inl (.inl (e _ _ h))
  · exact .inl (.inr ⟨o,e _ _ h⟩)
  · exact .inr h
def kH (cells:List (Str×Addr)):List (Str×NameKind)->List (Str×Addr)->List (Str×Addr)
  | [],cs=>cs
  | (n,k)::r,cs=>kH cells r (if (k == NameKind.free)=true then (match cells.lookup n with | some c=>(n,c)::cs | none=>cs) else cs)
theorem Nf {scope:Scope}{env:Env}(h:∀x∈scope.names,x.2 = .free->∃c,env.cells.lookup x.1=some c):closureFor scope env=pure (kH env.cells scope.names []):=by
  unfold closureFor;have go:∀(names:List (Str×NameKind)) (cs:List (Str×Addr)),(∀x∈names,x.2 = .free->∃c,env.cells.lookup x.1=some c)->
      (forIn names cs (fun (x:Str×NameKind) (r:List (Str×Addr))=>if (x.2 == NameKind.free)=true then (do let a ←cellOf env x.1;pure (ForInStep.yield ((x.1,a)::r))) else pure (ForInStep.yield r)):Sem (List (Str×Addr)))=pure (kH env.cells names cs):=by
    intro names
    induction names with
    | nil=>intro cs _;rfl
    | cons x r ih=>
      intro cs hc;obtain⟨n,k⟩:=x;have hr:∀y∈r,y.2 = .free->∃c,env.cells.lookup y.1=some c:=fun y hy=>hc y (List.mem_cons_of_mem _ hy)
      rw[List.forIn_cons];cases e:(k == NameKind.free) with
      | true=>
        obtain⟨c,hl⟩:=hc (n,k) List.mem_cons_self (by simpa using e);have nZ:env.cells.lookup n=some c:=hl;have ec:cellOf env n=pure c:=by unfold cellOf;rw[nZ]
        show (_ >>= _)=pure (kH env.cells r (if (k == NameKind.free)=true then _ else _));rw[e,nZ];simp only [if_true,ec,pure_bind];exact ih _ hr
      | false=>
        show (_ >>= _)=pure (kH env.cells r (if (k == NameKind.free)=true then _ else _));rw[e];simp only [Bool.false_eq_true,if_false,pure_bind];exact ih _ hr
  exact (congrArg (· >>= fun r=>pure r) (go scope.names [] h)).trans (pure_bind _ _)
theorem uW {α:Type}{y n:Str}{c:α}{r:List (Str×α)}(h:y=n):((n,c)::r).lookup y=some c:=by
  subst h;simp
theorem wH {α:Type}{y n:Str}{c:α}{r:List (Str×α)}(h:¬y=n):((n,c)::r).lookup y=r.lookup y:=by
  rw[List.lookup_cons,beq_eq_false_iff_ne.mpr h]
theorem F3 {cells:List (Str×Addr)}{n:Str}{k:NameKind}{cs:List (Str×Addr)}(hs:∀y d,cs.lookup y=some d->cells.lookup y=some d) :
    ∀y d,(if (k == NameKind.free)=true then (match cells.lookup n with | some c=>(n,c)::cs | none=>cs) else cs).lookup y=some d->cells.lookup y=some d:=by
  intro y d h;split at h
  · split at h
    · rename_i c hc
      by_cases hy:y=n
      · rw[uW hy] at h;rw[hy,hc];exact h
      · rw[wH hy] at h;exact hs y d h
    · exact hs y d h
  · exact hs y d h
theorem zY (cells:List (Str×Addr)):∀(names:List (Str×NameKind)) (cs:List (Str×Addr)),(∀y d,cs.lookup y=some d->cells.lookup y=some d)->
    ∀y d,(kH cells names cs).lookup y=some d->cells.lookup y=some d
  | [],_,hs,y,d,h=>hs y d h
  | (n,k)::r,cs,hs,y,d,h=>zY cells r _ (F3 hs) y d h
theorem F4 (cells:List (Str×Addr)) {x:Str}{c:Addr}(hc:cells.lookup x=some c):∀(names:List (Str×NameKind)) (cs:List (Str×Addr)),(∀y d,cs.lookup y=some d->cells.lookup y=some d)->
    ((x,NameKind.free)∈names\/cs.lookup x=some c)->(kH cells names cs).lookup x=some c
  | [],_,_,h=>by
    rcases h with h | h
    · cases h
    · exact h
  | (n,k)::r,cs,hs,h=>by
    refine F4 cells hc r _ (F3 hs) ?_
    by_cases hx:(x,NameKind.free)=(n,k)
    · cases hx
      right
      rw[if_pos (by rfl),hc];exact uW rfl
    · rcases h with h | h
      · rcases List.mem_cons.mp h with h | h
        · exact absurd h hx
        · exact .inl h
      · right
        split
        · split
          · rename_i c' yX
            by_cases hn:x=n
            · rw[uW hn];rw[hn,yX] at hc;exact hc
            · rw[wH hn];exact h
          · exact h
        · exact h
theorem B8 (env:Env) (x:Str):∀names:List (Str×NameKind),
    (names.map fun (n,k)=>if (k == NameKind.free&&env.scope.kind == .function&&env.kindOf n == some .cell) then (n,NameKind.cell) else (n,k)).lookup x =
      (names.lookup x).map fun k=>if (k == NameKind.free&&env.scope.kind == .function&&env.kindOf x == some .cell) then NameKind.cell else k
  | []=>rfl
  | (n,k)::r=>by
    have ih:=B8 env x r;rw[List.map_cons]
    by_cases hx:x=n
    · subst hx;rw[uW rfl];show List.lookup x ((if (k == NameKind.free&&env.scope.kind == .function&&env.kindOf x == some .cell)=true then (x,NameKind.cell) else (x,k))::_)=some (if (k == NameKind.free&&env.scope.kind == .function&&env.kindOf x == some .cell)=true then NameKind.cell else k)
      by_cases hc:(k == NameKind.free&&env.scope.kind == .function&&env.kindOf x == some .cell)=true
      · rw[if_pos hc,if_pos hc];exact uW rfl
      · rw[if_neg hc,if_neg hc];exact uW rfl
    · rw[wH hx,←ih];show List.lookup x ((if (k == NameKind.free&&env.scope.kind == .function&&env.kindOf n == some .cell)=true then (n,NameKind.cell) else (n,k))::_)=_
      by_cases hc:(k == NameKind.free&&env.scope.kind == .function&&env.kindOf n == some .cell)=true
      · rw[if_pos hc];exact wH hx
      · rw[if_neg hc];exact wH hx
theorem Ng {scope:Scope}{env:Env}{x:Str}(h:scope.names.lookup x=some .free):(relabel scope env).names.lookup x=some .cell\/(relabel scope env).names.lookup x=some .free:=by
  have e:=B8 env x scope.names;rw[h] at e;have e':(relabel scope env).names.lookup x=some (if (NameKind.free == NameKind.free&&env.scope.kind == .function&&env.kindOf x == some .cell)=true then NameKind.cell else NameKind.free):=e;rw[e'];split
  · exact .inl rfl
  · exact .inr rfl
theorem Nh {scope:Scope}{env:Env}{x:Str}(nc:∀y∈scope.names,y.2≠.cell) (h:(relabel scope env).names.lookup x=some .cell\/(relabel scope env).names.lookup x=some .free):(x,NameKind.free)∈scope.names:=by
  have e:=B8 env x scope.names;have e':(relabel scope env).names.lookup x=_:=e;cases q:scope.names.lookup x with
  | none=>
    rw[q] at e';rw[e'] at h;rcases h with h | h<;>cases h
  | some k=>
    rw[q] at e';have m:=PySem.mem_of_lookup q;cases k with
    | free=>exact m
    | cell=>exact absurd rfl (nc _ m)
    | _=>
      rw[e'] at h;rcases h with h | h<;>cases h
structure bC (scope jV:Scope) (cap:List Str):Prop where
  kind:scope.kind = .function
  kI:∀y∈scope.names,y.2≠.cell
  loc:∀y∈scope.names,y.2 = .local->scope.names.lookup y.1=some .local
  free:∀y∈scope.names,y.2 = .free->jV.names.lookup y.1=some .cell\/jV.names.lookup y.1=some .free
  cap:∀x∈cap,scope.names.lookup x=some .free
def ez (X:Cx) (N:List Str) (scope:Scope) (C:Addr) (s:Shared) (H:Hp) (ex:List Addr):Cx where
  prog:=X.prog
  w:=X.w
  K:=X.K
  mg:=X.mg
  base:=X.base
  A:=X.A
  N:=N
  bw:=s
  jM:=H
  env:=compEnvC scope (kH X.env.cells scope.names []) C X.env
  outer:=X.stack
  stack:=X.stack
  ex:=ex
  fn:=fun _=>false
  calm:=X.calm
  pn:=[]
  xe:=fun _ _=>False
def ju (own:List Str) (ix:List Nat) (σ:St):St:=own.map (fun _=>none)++ix.map fun i=>(σ[i]?).join
theorem B9 {X:Cx}{pins:List (Addr×Obj)}{σ:St}{H:Hp}{s:Shared}{scope:Scope}{cap:List Str}(I:Inv X pins σ H s) (S:bC scope X.env.scope cap) :
    closureFor scope X.env=pure (kH X.env.cells scope.names []):=
  Nf fun x hx hf=>I.ok.has x.1 (S.free x hx hf)
theorem F5 {X:Cx}{pins:List (Addr×Obj)}{σ:St}{H:Hp}{s:Shared}{scope:Scope}{own cap:List Str}{ix:List Nat}{fp:List Addr}{cL:Heap}{m:Str->Option Value}{tk:Nat}
    (I:Inv X pins σ H s) (S:bC scope X.env.scope cap) (dw:ix.map (fun i=>X.N[i]?)=cap.map some) (hf:∀b∈fp,cg X pins H b) (fz:∀b∈fp,b<s.heap.objs.size)
    (hn:cL.Ns s.heap.objs.size m) (hk:∀b o,s.heap.get? b=some o->cL.get? b=some o) :
    Inv (ez X (own++cap) scope s.heap.objs.size s H fp) [] (ju own ix σ) H { s with heap:=cL,toks:=tk }:=by
  have sub:∀y d,(kH X.env.cells scope.names []).lookup y=some d->X.env.cells.lookup y=some d:=zY _ _ _ (fun y d h=>by cases h);have has:∀y c,(y,NameKind.free)∈scope.names->X.env.cells.lookup y=some c->(kH X.env.cells scope.names []).lookup y=some c:=fun y c hy hc=>F4 _ hc _ _ (fun y d h=>by cases h) (.inl hy)
  have hlen:ix.length=cap.length:=by
    have:=congrArg List.length dw;simpa using this
  refine⟨⟨I.mod,S.kind,I.ok.glob,I.ok.blt,Nat.le_refl _,fun x y c e1 e2=>I.ok.inj x y c (sub _ _ e1) (sub _ _ e2),fun x hx=>?_,fun x c z=>(by cases z),I.ok.hd,I.ok.frames,.inl rfl,fun b hb=>⟨Nat.ne_of_lt (fz b hb),fun x c e=>(hf b hb).2.2.2.2.1 x c (sub _ _ e)⟩,I.bs,
      Nat.le_trans I.ok.mj I.sz,fun b o e hb=>?_,fun b hb z=>?_,I.stack,I.iz⟩,rfl,I.bare,Un.kept hk,⟨m,hn,fun i x v e1 e2 e3=>?_⟩,fun x c e=>?_,I.aF.fresh (Nat.le_refl _),fun x c e=>I.cF x c (sub _ _ e),fun p hp=>absurd (show p∈([]:List (Addr×Obj)) from hp) (by simp),I.aF.kept hk,?_⟩
  · have m':=Nh (env:=X.env) S.kI hx;obtain⟨c,hc⟩:=I.ok.has x (S.free _ m' rfl);exact⟨c,has x c m' hc⟩
  · obtain⟨f0,f1,f2,f3,f4,f5⟩:=hf b hb;rcases f3 with z | z
    · exact I.ok.jN b o e z
    · exact absurd (Nat.lt_of_lt_of_le (Nat.lt_of_lt_of_le (Heap.lt_size e) I.ok.mj) z) (Nat.lt_irrefl _)
  · obtain⟨f0,f1,f2,f3,f4,f5⟩:=hf b hb;rcases List.mem_cons.mp (I.iD b z) with z | z
    · exact f1 z
    · exact f2 z
  · have e1:(own++cap)[i]? = some x:=e1;unfold ju at e2
    by_cases hi:i<own.length
    · rw[List.getElem?_append_left (by simpa using hi),List.getElem?_map] at e2;cases q:own[i]? with
      | none=>rw[q] at e2;cases e2
      | some y=>rw[q] at e2;cases e2
    · rw[List.getElem?_append_right (by simpa using hi)] at e1;rw[List.getElem?_append_right (by simpa using hi),List.length_map,List.getElem?_map] at e2;generalize i-own.length=j at e1 e2;cases q:ix[j]? with
      | none=>rw[q] at e2;cases e2
      | some k=>
        rw[q] at e2;have e2:(σ[k]?).join=some v:=Option.some.inj e2;have Ni:σ[k]? = some (some v):=by
          cases q2:σ[k]? with
          | none=>rw[q2] at e2;cases e2
          | some o=>rw[q2] at e2;exact congrArg some e2
        have eN:X.N[k]? = some x:=by
          have:=congrArg (fun l=>l[j]?) dw;simp only [List.getElem?_map,q,e1,Option.map_some] at this;exact Option.some.inj this
        have fR:=S.cap x (List.mem_of_getElem? e1);have wI:=PySem.mem_of_lookup fR;have wJ:=S.free _ wI rfl;obtain⟨m0,Yy,hl⟩:=I.loc;obtain⟨u,r,l⟩:=hl k x v eN Ni (.inr wJ);rcases l with ⟨kd,_⟩ | ⟨kd,c,e,z⟩
        · have kd:X.env.scope.names.lookup x=some .local:=kd;rcases wJ with ho | ho<;>(have ho:X.env.scope.names.lookup x=_:=ho;rw[kd] at ho;cases ho)
        · exact⟨u,r,.inr ⟨Ng fR,c,has x c wI e,z.keeps hk⟩⟩
  · obtain⟨v,q⟩:=I.cell x c (sub _ _ e);exact⟨v,q.keeps hk⟩
  · show (ju own ix σ).length=(own++cap).length;unfold ju;simp[hlen]
theorem Ca {X:Cx}{pins:List (Addr×Obj)}{σ au:St}{H H':Hp}{s s':Shared}{scope:Scope}{N:List Str}{fp:List Addr}{h':Heap}
    (I:Inv X pins σ H s) (hf:∀b∈fp,cg X pins H b) (J:Inv (ez X N scope s.heap.objs.size s H fp) [] au H' s') (hs:Heap.SameBut s.heap.objs.size s'.heap h'):Inv X pins σ H' { s' with heap:=h' }:=by
  have ne:∀b o,s.heap.get? b=some o->b≠s.heap.objs.size:=fun b o e=>Nat.ne_of_lt (Heap.lt_size e)
  have B:Un (cR X.stack) fp H H' s.heap s'.heap:=J.base;refine I.jP (s':={ s' with heap:=h' }) (ch:=fp) J.os ⟨fun b o e n hb hx=>?_,fun b o e n hb hx=>?_,B.free,fun b o e hx=>?_,B.eW,B.gE,B.gW⟩ (fun b ob e=>?_) J.bare fun b hb=>?_
  · exact (hs.2 b (ne b o e)).trans (B.keep b o e n hb hx)
  · obtain⟨sl,e1⟩:=B.slot b o e n hb hx;exact⟨sl,(hs.2 b (ne b o e)).trans e1⟩
  · obtain⟨o',e1⟩:=B.there b o e hx;exact⟨o',(hs.2 b (ne b o e)).trans e1⟩
  · have fr:H' s.heap.objs.size=none:=J.free;refine (J.aF b ob e).bH (fun c w' hc q=>(hs.2 c ?_).trans q) (fun _ q=>q) fun _ _ q=>q
    rintro rfl;rcases hc with hc | hc
    · rw[←hc,fr] at e;cases e
    · rw[fr] at hc;cases hc
  · obtain⟨f0,f1,f2,f3,f4,f5⟩:=hf b hb;exact⟨f3,f1,f4,f5⟩
def rZ (X:Cx) (ifs:List Expr) (t:TT):Prop:=
  ∀(pins:List (Addr×Obj)) (s:Shared) (σ:St) (H:Hp) (Q:Bool->Hp->Prop),Inv X pins σ H s->t σ H Q->
    wpAny (model X.prog X.w) X.A (forIn ifs true fun c r=>if r=true then do let ok ←isTrue c X.env (eval c X.env);pure (ForInStep.yield ok) else pure (ForInStep.yield r)) (TP X pins σ Q) X.xe s
def kJ:TT:=fun _ H Q=>Q true H
theorem m8 {X:Cx}:rZ X [] kJ:=fun _ s σ H Q I h=>wpAny_tests_nil ⟨H,I,h⟩
theorem uX {X:Cx}{c:Expr}{t:TT}(h:PT X c t):rZ X [c] t:=fun pins s σ H Q I hw=>wpAny_tests_one (h pins s σ H Q I hw)
theorem F6 {prog:Program}{w:World}{A:Around}{R:Result->Shared->Prop}{s:Shared}{elt target iter:Expr}{ifs:List Expr}{scope:Scope}{pos:Pos}{it acc:Value}{env:Env}(I:Nat->Shared->Prop)
    (turn:∀n s,I n s->wpAny (model prog w) A (pyNext it) (fun r aI=>match r with
      | none=>R (.ok .next) aI
      | some v=>wpAny (model prog w) A (letOwnedTupleGo target it v) (fun _ qj=>wpAny (model prog w) A (assign target env v) (fun _ dW=>
          wpAny (model prog w) A (forIn ifs true fun c r=>if r=true then do let ok ←isTrue c env (eval c env);pure (ForInStep.yield ok) else pure (ForInStep.yield r)) (fun ok ia=>
            if ok=true then wpAny (model prog w) A (eval elt env) (fun x gi=>
              wpAny (model prog w) A (call (.builtin "list.append") [acc,x]) (fun _ wK=>∃m,m<n/\I m wK) (notedBy (model prog w) A env fun e s'=>R (.error e) s') gi) (notedBy (model prog w) A env fun e s'=>R (.error e) s') ia
            else ∃m,m<n/\I m ia) (notedBy (model prog w) A env fun e s'=>R (.error e) s') dW) (notedBy (model prog w) A env fun e s'=>R (.error e) s') qj) (notedBy (model prog w) A env fun e s'=>R (.error e) s') aI) (notedBy (model prog w) A env fun e s'=>R (.error e) s') s)
    (n:Nat) (h:I n s):codeAny (model prog w) A (.compLoop (.ListComp elt [⟨target,iter,ifs,0⟩] scope pos) 0 it acc env) R s:=by
  refine codeAny_loop rfl I (fun n s hI=>?_) n h;show wpAny _ A ((compTurn (.ListComp elt [⟨target,iter,ifs,0⟩] scope pos) 0 it acc env).onRaise (fun x=>do noteFrame x env;theTreesLotGoes x)) _ _ s;refine wpAny_noted ?_;rw[compTurn_list];refine wpAny_bind (wpAny_standAt (wpAny_bind (wpAny_mono (turn n s hI) (fun r aI cL=>?_) fun _ _ h'=>h')));cases r with
  | none=>exact wpAny_pure cL
  | some v=>
    refine wpAny_bind (wpAny_mono cL (fun _ qj wL=>?_) fun _ _ h'=>h');refine wpAny_bind (wpAny_mono wL (fun _ dW iJ=>wpAny_bind (wpAny_mono iJ (fun ok ia o6=>?_) fun _ _ h'=>h')) fun _ _ h'=>h');cases ok with
    | false=>exact wpAny_pure ⟨rfl,o6⟩
    | true=>
      exact wpAny_bind (wpAny_bind (wpAny_mono o6 (fun x gi Cb=>wpAny_bind (wpAny_mono Cb (fun _ wK Cc=>wpAny_pure (wpAny_pure ⟨rfl,Cc⟩)) fun _ _ h'=>h')) fun _ _ h'=>h'))
def qk (own:List Str) (ix:List Nat) (J:It) (g:TG) (tc:TT) (te:TE) (σ:St) (H1:Hp) (D:Addr) (Q:VK):Prop:=
  ∃W:Nat->Nat->St->List V->Hp->Prop,(∃m,W 0 m (ju own ix σ) [] (upd H1 D (.lst [])))/\∀i m au ys H',W i m au ys H'->H' D=some (.lst ys)/\
    ((J.stop i H'/\Q (.ref D) H')\/(J.go i H'/\ys.length<sizeLine/\∀x H2,J.mV i H' x H2->g x au H2 fun kB H3=>tc kB H3 fun b H4=>
      if b=true then te kB H4 fun y H5=>H5 D=some (.lst ys)/\∃m',m'<m/\W (i+1) m' kB (ys++[y]) (upd H5 D (.lst (ys++[y]))) else H4 D=some (.lst ys)/\∃m',m'<m/\W (i+1) m' kB ys H4))
def wM (own:List Str) (ix:List Nat) (wi:TI) (g:TG) (tc:TT) (te:TE):TE:=fun σ H Q=>wi σ H fun J H1=>∀D,H1 D=none->qk own ix J g tc te σ H1 D Q
section
variable {X:Cx}{tg iter elt:Expr}{ifs:List Expr}{scope:Scope}{pos:Pos}{own cap:List Str}{ix:List Nat}{wi:TI}{g:TG}{tc:TT}{te:TE}
theorem F7 {pins:List (Addr×Obj)}{σ:St}{s:Shared}{E:Value->Shared->Prop}{RR:Value->Addr->Result->Shared->Prop}{Q:VK}
    (hc:X.calm=true) (S:bC scope X.env.scope cap) (dw:ix.map (fun i=>X.N[i]?)=cap.map some)
    (hg:∀C s H ex,PG (ez X (own++cap) scope C s H ex) tg g) (ht:∀C s H ex,rZ (ez X (own++cap) scope C s H ex) ifs tc) (he:∀C s H ex,PE (ez X (own++cap) scope C s H ex) elt te)
    {mW:Value}(h:vQ X pins σ tg (fun J H1=>∀D,H1 D=none->qk own ix J g tc te σ H1 D Q) mW s)
    (hR:∀(D C:Addr) (s':Shared) (H':Hp) (m:Str->Option Value),s'.heap.Ns C m->cg X pins H' C->(∀h',Heap.SameBut C s'.heap h'->Inv X pins σ H' { s' with heap:=h' })->Q (.ref D) H'->RR (.ref D) C (.ok .next) s') :
    wpAny (model X.prog X.w) X.A (newList []) (fun acc ia=>wpAny (model X.prog X.w) X.A (newFunctionEnv scope X.env.globals (kH X.env.cells scope.names []) [] X.env.qual none .none (some X.env)) (fun gG gi=>
      codeAny (model X.prog X.w) X.A (.compStart (.ListComp elt [⟨tg,iter,ifs,0⟩] scope pos) 0 mW acc { gG with scope:=relabel scope X.env }) (RR acc gG.locals) gi) E ia) E s:=by
  obtain⟨it,fp,tn,J,H2,rfl,I2,T,rH,f2,q2⟩:=h;refine wpAny_newObj_type (wpAny_newFunctionEnv S.kI (by intro y hy;simp at hy) (fun cL fH fJ=>?_) S.kind);dsimp only at fH fJ ⊢;have hD:H2 s.heap.objs.size=none:=I2.aF.fresh (Nat.le_refl _);obtain⟨W,⟨m0,w0⟩,turn⟩:=q2 s.heap.objs.size hD;have I3:Inv X pins σ (upd H2 s.heap.objs.size (.lst [])) { s with heap:=s.heap.push { cls:=.type "list",data:=.seq ([]:List Value).toArray } }:=I2.o4 (t':=s.toks) (its:=[]) .nil (Nat.zero_le _);have wN:∀b∈fp,b<s.heap.objs.size:=fun b hb=>by
    obtain⟨o,e,_⟩:=T.obj 0 _ rH b hb;exact Heap.lt_size e
  have f3:∀b∈fp,cg X pins (upd H2 s.heap.objs.size (.lst [])) b:=fun b hb=>⟨by rw[aJ (Nat.ne_of_lt (wN b hb))];exact (f2 b hb).1,(f2 b hb).2⟩
  generalize hH:s.heap.push { cls:=.type "list",data:=.seq ([]:List Value).toArray } = H3 at I3 fH fJ ⊢;have sz:H3.objs.size=s.heap.objs.size+1:=by rw[←hH,Heap.size_push]
  have up:∀b o,H3.get? b=some o->cL.get? b=some o:=fun b o e=>fJ.extBut b o (Nat.ne_of_lt (Heap.lt_size e)) (Heap.get?_push_of_some _ e)
  have old:∀b o,s.heap.get? b=some o->cL.get? b=some o:=fun b o e=>up b o (by rw[←hH];exact Heap.get?_push_of_some _ e)
  have sd:∀b∈fp,b<({ s with heap:=H3 }:Shared).heap.objs.size:=fun b hb=>by show b<H3.objs.size;rw[sz];exact Nat.lt_succ_of_lt (wN b hb)
  have wO:tn 0 cL:=T.keep _ _ _ rH fun b _ o e=>old b o e
  have iE:∀{H':Hp},(∀b∈fp,H' b=none)->∀b∈fp,cg (ez X (own++cap) scope H3.objs.size { s with heap:=H3 } (upd H2 s.heap.objs.size (.lst [])) fp) [] H' b:=fun hn b hb=>
    ⟨hn b hb,Nat.ne_of_lt (sd b hb),fun z=>(List.mem_cons.mp (I3.iD b z)).elim (f2 b hb).2.1 (f2 b hb).2.2.1,.inl hb,fun x c e=>(f2 b hb).2.2.2.2.1 x c (zY _ _ _ (fun y d h=>by cases h) _ _ e),fun p hp=>absurd (show p∈([]:List (Addr×Obj)) from hp) (by simp)⟩
  have loop:∀gi:Shared,gi = { s with heap:=cL,toks:=s.toks+([]:List (Str×Value)).length }->
      codeAny (model X.prog X.w) X.A (.compLoop (.ListComp elt [⟨tg,iter,ifs,0⟩] scope pos) 0 (.ref it) (.ref s.heap.objs.size) (compEnvC scope (kH X.env.cells scope.names []) H3.objs.size X.env))
        (RR (.ref s.heap.objs.size) H3.objs.size) gi:=by
    rintro gi rfl;have I4:=F5 (own:=own) (fp:=fp) (tk:=s.toks+([]:List (Str×Value)).length) I3 S dw f3 sd fH up;refine F6 (fun n s'=>∃i au ys H',Inv (ez X (own++cap) scope H3.objs.size { s with heap:=H3 } (upd H2 s.heap.objs.size (.lst [])) fp) [] au H' s'/\tn i s'.heap/\(∀b∈fp,H' b=none)/\W i n au ys H') ?_ m0
      ⟨0,_,[],_,I4,wO,fun b hb=>(f3 b hb).1,w0⟩
    rintro n s5 ⟨i,pq,ys,H5,I5,oM,rJ,w5⟩;obtain⟨Cd,ng⟩:=turn i n pq ys H5 w5;rcases ng with ⟨stop,q⟩ | ⟨go,hz,step⟩
    · refine aM (T.done (ez X (own++cap) scope H3.objs.size { s with heap:=H3 } (upd H2 s.heap.objs.size (.lst [])) fp) rfl rfl rfl hc i [] s5 pq H5 _ I5 (iE rJ) oM stop) fun r s6 aE=>?_
      obtain⟨hr,I6⟩:=aE;subst hr;obtain⟨m6,Ce,_⟩:=I6.loc;exact hR _ _ s6 H5 m6 Ce (I3.gY (Nat.le_refl _) I6.free) (fun h' hs=>Ca I3 f3 I6 hs) q
    · refine aM (T.item (ez X (own++cap) scope H3.objs.size { s with heap:=H3 } (upd H2 s.heap.objs.size (.lst [])) fp) rfl rfl rfl hc i [] s5 pq H5 _ I5 (iE rJ) oM go) fun r s6 aE=>?_
      obtain⟨u,hr,h6⟩:=aE;subst hr;refine aM h6 fun _ s7 aE=>?_
      obtain⟨x,H7,I7,r7,y7,se,Cf⟩:=aE;have Cg:=I7.pinned (iE Cf) (T.obj _ _ se);refine wpAny_mono (hg _ _ _ _ _ s7 pq H7 x u _ Cg r7 (step x H7 y7)) (fun _ s8 aE=>?_) fun _ _ z=>False.elim z
      obtain⟨sj,H8,I8,q8⟩:=aE;refine wpAny_mono (ht _ _ _ _ _ s8 sj H8 _ I8 q8) (fun ok s9 aE=>?_) fun _ _ z=>False.elim z
      obtain⟨H9,I9,q9⟩:=aE;have again:∀{s':Shared}{au:St}{H':Hp}{ql:List V}{m':Nat},Inv (ez X (own++cap) scope H3.objs.size { s with heap:=H3 } (upd H2 s.heap.objs.size (.lst [])) fp) ([]++uK fp s7.heap) au H' s'->m'<n->W (i+1) m' au ql H'->
          ∃m,m<n/\∃i au ys H',Inv (ez X (own++cap) scope H3.objs.size { s with heap:=H3 } (upd H2 s.heap.objs.size (.lst [])) fp) [] au H' s'/\tn i s'.heap/\(∀b∈fp,H' b=none)/\W i m au ys H':=fun {s' au H' ql m'} I' hm w'=>by
        refine⟨m',hm,i+1,au,ql,H',I'.ee,T.keep _ _ _ se fun b hb o e=>(I'.pin (b,o) (List.mem_append_right _ (List.mem_append_right _ (uL hb e)))).1,fun b hb=>?_,w'⟩;obtain⟨o,e,d⟩:=T.obj _ _ se b hb;exact (I'.pin (b,o) (List.mem_append_right _ (List.mem_append_right _ (uL hb e)))).2.1
      cases ok with
      | false=>
        rw[if_neg Bool.false_ne_true] at q9 ⊢;obtain⟨_,m',hm,w'⟩:=q9;exact again I9 hm w'
      | true=>
        rw[if_pos rfl] at q9 ⊢;refine wpAny_mono (he _ _ _ _ _ s9 sj H9 _ I9 q9) (fun v s10 aE=>?_) fun _ _ z=>False.elim z
        obtain⟨y,wQ,Ci,r10,su,m',hm,w'⟩:=aE;refine wpAny_mono (o5 (X:=ez X (own++cap) scope H3.objs.size { s with heap:=H3 } (upd H2 s.heap.objs.size (.lst [])) fp) _ s10 sj wQ (.ref s.heap.objs.size) [y] (.ref s.heap.objs.size) [v] (fun _ H'=>H'=upd wQ s.heap.objs.size (.lst (ys++[y]))) Ci rfl (.cons r10 .nil) ⟨_,ys,y,rfl,rfl,su,hz,rfl⟩)
          (fun _ s11 ⟨_,Nj,Cj,_,Ck⟩=>?_) fun _ _ z=>False.elim z
        subst Ck;exact again Cj hm w'
  exact codeAny_compStart_list (loop _ rfl) (T.self _ 0 _ _ _ wO (loop _ rfl))
theorem pA {jV:Scope}(hc:X.calm=true) (S':bC scope jV cap) (dw:ix.map (fun i=>X.N[i]?)=cap.map some) (hi:PI X tg iter wi)
    (hg:∀C s H ex,PG (ez X (own++cap) scope C s H ex) tg g) (ht:∀C s H ex,rZ (ez X (own++cap) scope C s H ex) ifs tc) (he:∀C s H ex,PE (ez X (own++cap) scope C s H ex) elt te)
    (hs:∀x,foldedSetIterable iter X.env x=pure x:=by intro _;rfl) (ho:X.env.scope=jV:=by rfl):PE X (.ListComp elt [⟨tg,iter,ifs,0⟩] scope pos) (wM own ix wi g tc te):=by
  have S:bC scope X.env.scope cap:=ho▸S';intro pins s σ H Q I h;rw[eval_ListComp];refine wpAny_comprehension_free (use:=none) rfl hs (B9 I S) S.kind S.loc (aM (hi pins s σ H _ I h) fun xv aI cL=>aM cL fun mW dW iJ=>?_);refine F7 (RR:=fun acc C=>compPost (model X.prog X.w) X.A X.xe none (EP X pins σ Q) acc C) hc S dw hg ht he iJ fun D C s' H' m hn _ hI q=>?_
  exact⟨m,hn,fun h' nh=>⟨.ref D,H',hI h' nh,rfl,q⟩⟩
theorem sE {jV:Scope}{i:Nat}{y:Str}{py ni:Pos}(hc:X.calm=true) (hN:X.N.Nodup) (n5:X.N[i]? = some y) (hy:X.env.scope.names.lookup y=some .local)
    (Cm:swapsWith (.ListComp elt [⟨tg,iter,ifs,0⟩] scope pos) (some (.Name y py)) ni.line X.env=pure true) (S':bC scope jV cap) (dw:ix.map (fun i=>X.N[i]?)=cap.map some) (hi:PI X tg iter wi)
    (hg:∀C s H ex,PG (ez X (own++cap) scope C s H ex) tg g) (ht:∀C s H ex,rZ (ez X (own++cap) scope C s H ex) ifs tc) (he:∀C s H ex,PE (ez X (own++cap) scope C s H ex) elt te)
    (hs:∀x,foldedSetIterable iter X.env x=pure x:=by intro _;rfl) (ho:X.env.scope=jV:=by rfl):PS X (.Assign [.Name y py] (.ListComp elt [⟨tg,iter,ifs,0⟩] scope pos) ni) (dX (wM own ix wi g tc te) (bM i)):=by
  have S:bC scope X.env.scope cap:=ho▸S';intro pins s σ H D I h;rw[exec_Assign_Name_used _ _ _ _ Cm];refine wpAny_bind (wpAny_standAt (wpAny_bind ?_));show wpAny _ X.A (do let _ ←comprehension (.ListComp elt [⟨tg,iter,ifs,0⟩] scope pos) scope X.env _ (newList []) false (eval iter X.env) (some (assign (.Name y py) X.env))) _ _ s;refine wpAny_bind (wpAny_mono (wpAny_comprehension_free (use:=some (assign (.Name y py) X.env)) (Q:=fun _ s'=>SP X pins D .next s') rfl hs (B9 I S) S.kind S.loc
    (aM (hi pins s σ H _ I h) fun xv aI cL=>aM cL fun mW dW iJ=>?_)) (fun _ s' hq=>wpAny_pure (wpAny_pure hq)) fun _ _ e=>e)
  refine F7 (RR:=fun acc C=>compPost (model X.prog X.w) X.A X.xe (some (assign (.Name y py) X.env)) (fun _ s'=>SP X pins D .next s') acc C) hc S dw hg ht he iJ fun D' C s' H' m hn hF hI q=>?_
  show wpAny _ X.A (assign (.Name y py) X.env (.ref D')) _ _ _;have I':Inv X pins σ H' s':=hI s'.heap (Heap.SameBut.refl ..);refine wpAny_assign_Name (Bg I' hN n5 (.inl hy) (v:=.ref D') rfl (fun kc Cn aE=>?_) (.inr hy));obtain⟨a,sH,ha⟩:=aE;obtain⟨f0,f1,f2,f3,f4,f5⟩:=hF;have Co:C≠a:=by
    rcases ha with ha | ha
    · rw[ha];exact f1
    · exact fun z=>f4 _ _ ha z.symm
  exact⟨m,hn.sameBut sH Co,fun h' nh=>⟨_,H',Cn.turned (t':=kc.toks) (fun b o hb e=>(nh.2 b hb).trans e) f0 f1 f3 f4 f5,q⟩⟩
end
structure Fix (J:It) (xs:List V) (P:Hp->Prop):Prop where
  go:∀i H,P H->i<xs.length->J.go i H
  mV:∀i H x H',P H->J.mV i H x H'->H'=H/\(i<xs.length->xs[i]? = some x)
  stop:∀i H,P H->xs.length<=i->J.stop i H
theorem nj {K:PySem.W.Frag}{a:Addr}{xs:List V}:Fix (uJ K a) xs (fun H=>ak K H a xs):=
  ⟨fun i H h hi=>⟨xs,xs[i],h,by simp[hi]⟩,fun i H x H' h y=>⟨y.1,fun _=>y.2 xs h⟩,fun i H h hi=>⟨xs,h,hi⟩⟩
theorem F8 {lo:Int}{n:Nat}:Fix (rG lo n) ((List.range n).map fun i=>V.int (lo+(i:Nat))) (fun _=>True):=
  ⟨fun i H h hi=>by show i<n;simpa using hi,fun i H x H' h y=>⟨y.1,fun hi=>by
    have n5:i<n:=by simpa using hi
    rw[List.getElem?_map,List.getElem?_range n5,y.2];rfl⟩,fun i H h hi=>by show n<=i;simpa using hi⟩
theorem zZ {J:It}{xs:List V}{P:Hp->Prop}{own:List Str}{ix:List Nat}{tc:TT}{te:TE}{σ:St}{H1:Hp}{D:Addr}{Q:VK}(F:Fix J xs P) (p:V->Bool) (f:V->V)
    (hP:∀ys,P (upd H1 D (.lst ys))) (hz:xs.length<=sizeLine)
    (ht:∀x∈xs,∀ys (Q':Bool->Hp->Prop),Q' (p x) (upd H1 D (.lst ys))->tc ((ju own ix σ).set 0 (some x)) (upd H1 D (.lst ys)) Q')
    (he:∀x∈xs,p x=true->∀ys (Q':VK),Q' (f x) (upd H1 D (.lst ys))->te ((ju own ix σ).set 0 (some x)) (upd H1 D (.lst ys)) Q')
    (hQ:Q (.ref D) (upd H1 D (.lst ((xs.filter p).map f)))):qk own ix J (bM 0) tc te σ H1 D Q:=by
  refine⟨fun i m au ys H'=>m=xs.length-i/\i<=xs.length/\(∀z,au.set 0 z=(ju own ix σ).set 0 z)/\ys=((xs.take i).filter p).map f/\H'=upd H1 D (.lst ys),
    ⟨xs.length,by simp,Nat.zero_le _,fun _=>rfl,by simp,rfl⟩,?_⟩
  rintro i m au ys H' ⟨rfl,hi,wR,rfl,rfl⟩;refine⟨zd,?_⟩
  by_cases fz:i<xs.length
  · refine .inr ⟨F.go i _ (hP _) fz,?_,fun x H2 y=>?_⟩
    · rw[List.length_map];have h1:((xs.take i).filter p).length<=(xs.take i).length:=List.length_filter_le _ _;rw[List.length_take] at h1;omega
    · obtain⟨e,y'⟩:=F.mV i _ x H2 (hP _) y;subst e;have hx:=y' fz;have hm:x∈xs:=List.mem_of_getElem? hx;have tk:=take_succ_filter p xs i x hx;show tc (au.set 0 (some x)) _ _;rw[wR];refine ht x hm _ _ ?_;have wU:∀z,((ju own ix σ).set 0 (some x)).set 0 z=(ju own ix σ).set 0 z:=fun z=>List.set_set ..
      cases hp:p x with
      | true=>
        rw[if_pos rfl];refine he x hm hp _ _ ⟨zd,xs.length-(i+1),by omega,rfl,fz,wU,?_,?_⟩
        · rw[tk,hp];simp
        · rw[Lp]
      | false=>
        rw[if_neg Bool.false_ne_true];refine⟨zd,xs.length-(i+1),by omega,rfl,fz,wU,?_,?_⟩
        · rw[tk,hp];simp
        · rfl
  · have e:i=xs.length:=by omega
    subst e;refine .inl ⟨F.stop _ _ (hP _) (Nat.le_refl _),?_⟩;rw[List.take_length];exact hQ
def sg (c:Nat):V:=.str ⟨#[c]⟩
def Aa (x:Str):It:=⟨fun i _=>i<x.length,fun i H v H'=>H'=H/\∃c,x.cps.toList[i]? = some c/\v=sg c,fun i _=>x.length<=i⟩
theorem Nk {x:Str}:Fix (Aa x) (x.cps.toList.map sg) (fun _=>True):=by
  have hl:x.cps.toList.length=x.length:=by simp[Str.length]
  refine⟨fun i H _ hi=>?_,fun i H v H' _ y=>⟨y.1,fun _=>?_⟩,fun i H _ hi=>?_⟩
  · rw[List.length_map,hl] at hi;exact hi
  · obtain⟨_,c,hc,rfl⟩:=y;rw[List.getElem?_map,hc];rfl
  · rw[List.length_map,hl] at hi;exact hi
theorem F9 {P:Program}{w:World}{K:PySem.W.Frag}{tg:Expr}(it:Addr) (x:Str) (t:Tok) (ty:String)
    (oZ : ["enumerate","zip","dict_itemiterator","dict_reverseitemiterator","odict_iterator","itertools.zip_longest","itertools.pairwise"].contains ty=false)
    (hi:∀{A:Around}{E:Value->Shared->Prop}{s:Shared}{i c:Nat}{Q:Option Value->Shared->Prop},s.heap.IsStrIter it ty x t i->x.cps[i]? = some c->
      (∀h',h'.IsStrIter it ty x t (i+1)->Heap.SameBut it s.heap h'->Q (some (.str ⟨#[c]⟩ s.toks)) { s with heap:=h',toks:=s.toks+1 })->wpAny (model P w) A (pyNext (.ref it)) Q E s)
    (hd:∀{A:Around}{E:Value->Shared->Prop}{s:Shared}{i:Nat}{Q:Option Value->Shared->Prop},A.handled=none->s.heap.IsStrIter it ty x t i->x.cps[i]? = none->
      (∀h',Heap.ExtBut it s.heap h'->Q none { s with heap:=h' })->wpAny (model P w) A (pyNext (.ref it)) Q E s)
    (hs:∀{A:Around}{E:Value->Shared->Prop}{s:Shared}{i:Nat}{Q:Value->Shared->Prop},s.heap.IsStrIter it ty x t i->Q (.ref it) s->wpAny (model P w) A (pyIter (.ref it)) Q E s) :
    Turn P w K tg (Aa x) [it] it (fun i h=>h.IsStrIter it ty x t i) where
  mem:=by simp
  obj:=fun i h st b hb=>by
    have e:b=it:=by simpa using hb
    subst e;obtain⟨o,e,c,d⟩:=st;exact⟨o,e,fun v z=>by rw[d] at z;cases z⟩
  keep:=fun i h h' st k=>let ⟨o,ho,r⟩:=st;⟨o,k it (by simp) o ho,r⟩
  item:=by
    intro X hP hw hK hc i pins s σ H E I hf st hg;subst hP hw hK;obtain⟨f0,f1,f2,f3,f4,f5⟩:=hf it (by simp);have hg:i<x.cps.size:=hg;refine hi st (c:=x.cps[i]) (by simp[hg]) fun h' iX sb=>?_
    have I1:Inv X pins σ H { s with heap:=h',toks:=s.toks+1 }:=I.turned (fun b o hb e=>(sb.2 b hb).trans e) f0 f1 f3 f4 f5;obtain⟨o,e,c,d⟩:=id iX;exact⟨_,rfl,y9 (s:={ s with heap:=h',toks:=s.toks+1 }) e c d oZ ⟨sg x.cps[i],H,I1,⟨_,rfl⟩,⟨rfl,x.cps[i],by simp[hg],rfl⟩,iX,fun b hb=>(hf b hb).1⟩⟩
  done:=by
    intro X hP hw hK hc i pins s σ H E I hf st hg;subst hP hw hK;obtain⟨f0,f1,f2,f3,f4,f5⟩:=hf it (by simp);have hg:x.cps.size<=i:=hg;exact hd (I.ok.hd hc) st (by simpa using hg) fun h' eb=>⟨rfl,I.turned (t':=s.toks) (fun b o hb e=>eb b o hb e) f0 f1 f3 f4 f5⟩
  self:=fun _ _ _ _ _ st h=>hs st h
def Cp (tl:TE):TI:=fun σ H R=>tl σ H fun v H1=>∃x,v = .str x/\R (Aa x) H1
theorem Nl {X:Cx}{tg l:Expr}{tl:TE}(hl:PE X l tl):PI X tg l (Cp tl):=by
  intro pins s σ H R I h;refine aM (hl pins s σ H _ I h) fun v s1 aE=>?_
  obtain⟨y,H1,I1,r1,q1⟩:=aE;obtain⟨x,rfl,q⟩:=q1;obtain⟨t,rfl⟩:=r1;have fin:∀(ty:String),(Turn X.prog X.w X.K tg (Aa x) [s1.heap.objs.size] s1.heap.objs.size (fun i h=>h.IsStrIter s1.heap.objs.size ty x t i))->
      vQ X pins σ tg R (.ref s1.heap.objs.size) { s1 with heap:=s1.heap.push { cls:=.type ty,data:=.fields #[.str x t,.int 0 0] } }:=fun ty T=>by
    refine⟨s1.heap.objs.size,[s1.heap.objs.size],_,_,H1,rfl,I1.kept (t':=s1.toks) fun b o e=>Heap.get?_push_of_some _ e,T,⟨_,Heap.get?_push_size _ rfl,rfl,rfl⟩,fun b hb=>?_,q⟩;have e:b=s1.heap.objs.size:=by simpa using hb
    subst e;exact I1.gY (Nat.le_refl _) (I1.aF.fresh (Nat.le_refl _))
  cases ha:x.cps.all (· < 128)
  · exact wpAny_pyIter_wide ha (fin "str_iterator" (F9 _ x t _ (by decide) wpAny_pyNext_wide_item wpAny_pyNext_wide_end wpAny_pyIter_striter_wide))
  · exact wpAny_pyIter_ascii ha (fin "str_ascii_iterator" (F9 _ x t _ (by decide) wpAny_pyNext_ascii_item wpAny_pyNext_ascii_end wpAny_pyIter_striter_ascii))
section
variable {X:Cx}
theorem Ga:∀{bs:List Bool}{us:List Value},Vals (bs.map V.bl) us->us=bs.map Value.bool
  | [],_,r=>by cases r;rfl
  | b::bs,_,r=>by
    cases r with
    | cons r1 r2=>rw[show _=Value.bool b from r1,Ga r2];rfl
theorem Nm (bs:List Bool):((List.range bs.length).all fun i=>(bs[i]?).getD true)=bs.all id:=by
  rw[Bool.eq_iff_iff,List.all_eq_true,List.all_eq_true];constructor
  · intro h b hb;obtain⟨i,hi,e⟩:=List.mem_iff_getElem.mp hb;have:=h i (List.mem_range.mpr hi);rw[List.getElem?_eq_getElem hi,Option.getD_some,e] at this;exact this
  · intro h i hi;have n5:=List.mem_range.mp hi;rw[List.getElem?_eq_getElem n5,Option.getD_some];exact h _ (List.getElem_mem n5)
theorem Nn (hc:X.calm=true):i9 X (.builtin "all") (fun xs H Q=>∃(a:Addr) (bs:List Bool),xs = [V.ref a]/\ak X.K H a (bs.map V.bl)/\Q (.bl (bs.all id)) H):=by
  intro pins s σ H xs us Q I r h;obtain⟨a,bs,rfl,ha,q⟩:=h;obtain⟨u,rfl,ru⟩:=jH r;cases ru;obtain⟨its,rv,pl,hz⟩:=I.list ha;have e:its=bs.map Value.bool:=Ga rv;subst e;have hl:=pl.isList;have fz:a<s.heap.objs.size:=by obtain⟨_,e,_⟩:=hl;exact Heap.lt_size e
  refine call_all_walk (wpAny_pyIter_list hl ?_);refine⟨s.heap.objs.size,[s.heap.objs.size,a],[s.heap.objs.size],(bs.map Value.bool).toArray.size,_,_,fun i=>(bs[i]?).getD true,rfl,Walks.list (A:=X.A.in1) (I.ok.hd hc) _ a (Nat.ne_of_lt fz) (bs.map Value.bool).toArray,
    ⟨⟨_,Heap.get?_push_size _ rfl,rfl,rfl⟩,hl.push _⟩,fun i v s' Q' E' hP hQ=>?_,fun h' tk hk=>?_⟩
  · have wV:(bs.map Value.bool)[i]? = some v:=by simpa using hP
    rw[List.getElem?_map] at wV;cases e:bs[i]? with
    | none=>rw[e] at wV;cases wV
    | some b=>
      rw[e] at wV;cases wV;simp only [e,Option.getD_some] at hQ;exact wpAny_truthy_bool hQ
  · have e:((List.range (bs.map Value.bool).toArray.size).all fun i=>(bs[i]?).getD true)=bs.all id:=by
      rw[List.size_toArray,List.length_map];exact Nm bs
    rw[e];refine⟨.bl (bs.all id),H,?_,rfl,q⟩;exact I.kept fun b o eb=>hk b o (fun z=>by rw[List.mem_singleton.mp z] at eb;exact absurd (Heap.lt_size eb) (Nat.lt_irrefl _)) (Heap.get?_push_of_some _ eb)
theorem Np:i9 X (.type "int") (fun xs H Q=>∃x n,xs = [V.str x]/\PySem.intText? x=some n/\x.length<=640/\Q (.int n) H):=by
  intro pins s σ H xs us Q I r h;obtain⟨x,n,rfl,hn,hl,q⟩:=h;obtain⟨u,rfl,t,rfl⟩:=jH r;exact PySem.W.KIN.call_text hn hl ⟨.int n,H,I.tok _,⟨_,rfl⟩,q⟩
theorem Cq:oV X "str.startswith" (fun x xs H Q=>∃a b,x=V.str a/\xs = [V.str b]/\Q (.bl (Txt.startswith a b)) H):=by
  intro pins s σ H x xs v us Q I rx rs h;obtain⟨a,b,rfl,rfl,q⟩:=h;obtain⟨t,rfl⟩:=rx;obtain⟨u,rfl,t',rfl⟩:=jH rs;exact SC.startswith ⟨.bl _,H,I,rfl,q⟩
theorem Gb:∀{ys:List Str}{us:List Value},Vals (ys.map V.str) us->StrsAre us ys
  | [],_,r=>by cases r;exact .nil
  | y::ys,_,r=>by
    cases r with
    | cons r1 r2=>
      obtain⟨t,rfl⟩:=r1;exact .cons y t (Gb r2)
theorem Nq:oV X "str.join" (fun x xs H Q=>∃(sep:Str) (p:Addr) (ys:List Str),x=V.str sep/\xs = [V.ref p]/\ak X.K H p (ys.map V.str)/\(ys.map (·.length)).sum+ys.length * sep.length<=16777216/\Q (.str (Txt.join sep ys)) H):=by
  intro pins s σ H x xs v us Q I rx rs h;obtain⟨sep,p,ys,rfl,rfl,hp,hz,q⟩:=h;obtain⟨t,rfl⟩:=rx;obtain⟨u,rfl,ru⟩:=jH rs;cases ru;obtain⟨its,rv,pl,_⟩:=I.list hp;exact PyProof.Rows.join_list pl.isList (by simpa using Gb rv) hz fun t' k=>⟨.str _,H,I.tok _,⟨_,rfl⟩,q⟩
def wW:V->Option Int->Option Int->Hp->VK->Prop:=fun x lo hi H Q=>∃z,x = .str z/\z.length<=sizeLine/\Q (.str (Txt.slice z lo hi)) H
theorem Gd:rR X wW:=by
  intro pins s σ H x v vl vu lo hi sl Q I rx hs pl pu h;obtain⟨z,rfl,hz,q⟩:=h;obtain⟨t,rfl⟩:=rx;refine⟨"str",_,F.slot_str_getitem.lookup,typeIs_str _ _ _,?_⟩;have fin:∀(t':Tok) (k:Nat),EP X pins σ Q (.str (Txt.slice z lo hi) t') { s with toks:=k }:=fun t' k=>⟨.str _,H,I.tok k,⟨_,rfl⟩,q⟩
  obtain⟨o,ho,nk,hd⟩:=hs;cases pl<;>cases pu
  · exact wpAny_getItem_str_slice (l:=none) (u:=none) (st:=none) ⟨o,ho,nk,hd⟩ rfl (post_val_or_str ⟨Nat.le_trans (Txt.slice_le z _ _) hz,fin⟩)
  · exact wpAny_getItem_str_slice (l:=none) (u:=some (_,_)) (st:=none) ⟨o,ho,nk,hd⟩ rfl (post_val_or_str ⟨Nat.le_trans (Txt.slice_le z _ _) hz,fin⟩)
  · exact wpAny_getItem_str_slice (l:=some (_,_)) (u:=none) (st:=none) ⟨o,ho,nk,hd⟩ rfl (post_val_or_str ⟨Nat.le_trans (Txt.slice_le z _ _) hz,fin⟩)
  · exact wpAny_getItem_str_slice (l:=some (_,_)) (u:=some (_,_)) (st:=none) ⟨o,ho,nk,hd⟩ rfl (post_val_or_str ⟨Nat.le_trans (Txt.slice_le z _ _) hz,fin⟩)
theorem Nr:i9 X (.builtin "isinstance") (fun xs H Q=>∃x t n b,xs = [x,V.ty n]/\fE X.K H x t/\PySem.W.kitOne X.K t (.type n)=some b/\Q (.bl b) H):=by
  intro pins s σ H xs us Q I r h;obtain⟨x,t,n,b,rfl,ty,e,q⟩:=h;obtain⟨u,w',rfl,ru,lQ⟩:=zF r;cases lQ;exact Ml I ru ty e fun tk=>⟨.bl b,H,I.tok tk,rfl,q⟩
end
theorem ie {Pl:List Value->Prop}(h:∀a,Pl [a]):∀us:List Value,us.length=1->Pl us
  | [a],_=>h a
theorem fK {Pl:List Value->Prop}(h:∀a b,Pl [a,b]):∀us:List Value,us.length=2->Pl us
  | [a,b],_=>h a b
theorem gj {Pl:List Value->Prop}(h:∀a b c,Pl [a,b,c]):∀us:List Value,us.length=3->Pl us
  | [a,b,c],_=>h a b c
theorem wX {Pl:List Value->Prop}(h:∀a b c d,Pl [a,b,c,d]):∀us:List Value,us.length=4->Pl us
  | [a,b,c,d],_=>h a b c d
def Df (K:PySem.W.Frag) (mg:Str->Option Value) (x:Str) (st:Stmt) (ps:List Str):Prop:=
  ∃(f:Addr) (fd:FuncData),wG K x x st f fd/\mg x=some (.ref f)/\∀us:List Value,us.length=ps.length->bindArgs fd ⟨us,[]⟩=pure (ps.zip us)
theorem bu {K:PySem.W.Frag}{h:Heap}{mg:Str->Option Value}(X:K.In h) (G:h.Ns mainGlobals mg) {x:Str}{st:Stmt}{ps:List Str}{f:Addr}{oc kV dc pm cd ct:Value}{od an:Option Addr}{sl:Array (Option Value)}
    (hb:∀(kV doc pm:Value) (an:Option Addr) (ay ct:Value) (us:List Value),us.length=ps.length->bindArgs (PySem.W.fnOf x x (rY st) (zj st) (zm st) .none kV doc pm an ay ct) ⟨us,[]⟩=pure (ps.zip us))
    (a:PySem.W.nsIn K mainGlobals x=some (some (.ref f))) (l:K.lookup f=some ⟨oc,od,.func (PySem.W.fnOf x x (rY st) (zj st) (zm st) .none kV dc pm an cd ct),sl⟩) (c:PySem.W.codeIn K cd x=true) (k:PySem.W.keepIn K (.ref f)=true):Df K mg x st ps:=
  ⟨f,_,F0 l c k,PySem.W.mg_of X G a,fun us hl=>hb kV dc pm an cd ct us hl⟩
theorem aV {K:PySem.W.Frag}{h:Heap}{mg:Str->Option Value}(X:K.In h) (G:h.Ns mainGlobals mg) {x:Str}{u:Value}(a:PySem.W.nsIn K mainGlobals x=some (some u)):mg x=some u:=PySem.W.mg_of X G a
theorem jv {K:PySem.W.Frag}{h:Heap}{mg:Str->Option Value}(X:K.In h) (G:h.Ns mainGlobals mg) {x:Str}{u:Value}{v:V}(a:PySem.W.nsIn K mainGlobals x=some (some u)) (r:RelV v u):∃u,mg x=some u/\RelV v u:=⟨u,PySem.W.mg_of X G a,r⟩
theorem cj {K:PySem.W.Frag}{h:Heap}{mg:Str->Option Value}(X:K.In h) (G:h.Ns mainGlobals mg) {x:Str}(a:PySem.W.nsIn K mainGlobals x=some none):mg x=none:=PySem.W.mg_none_of X G a
def fh (P:Program) (w:World) (K:PySem.W.Frag) (mg:Str->Option Value) (base:Heap) (x:Str) (ps:List Str) (k:Nat) (sp:Sp):Prop:=
  ∃(f:Addr) (fd:FuncData),mg x=some (.ref f)/\PySem.W.keepIn K (.ref f)=true/\(∃oc od fZ,K.lookup f=some ⟨oc,od,.func fd,fZ⟩)/\(∀us:List Value,us.length=ps.length->bindArgs fd ⟨us,[]⟩=pure (ps.zip us))/\eg P w K mg base bJ k f fd ps sp
section
variable {P:Program}{w:World}{K:PySem.W.Frag}{mg:Str->Option Value}{base:Heap}
theorem Df.has {x:Str}{st:Stmt}{N ps:List Str}{k:Nat}{sp:Sp}(D:Df K mg x st ps) (S:aj N ps (zm st)) (len:∀vs H Q E,sp vs H Q E->vs.length=ps.length)
    (gg:∀(f:Addr) (ay:Value) (A:Around) (outer:List Env) (s:Shared) (H:Hp) (vs:List V) (Q:VK) (E:XK),aX k (A.deeper (envOfC x (zm st) s.heap.objs.size f ay))->sp vs H Q E->
      ∃t,jm (aA bJ P w K mg base N x (zm st) f ay A outer s H E).bX (zj st) t/\t { nx:=fun _ H'=>Q .aL H',rt:=Q } (start N vs) H):fh P w K mg base x ps (k+1) sp:=by
  obtain⟨f,fd,F,a,b⟩:=D;obtain⟨oc,od,kV,doc,pm,an,ay,ct,fZ,e,lk,jo⟩:=id F.ex;exact⟨f,fd,a,F.kp,⟨oc,od,fZ,lk⟩,b,F.ok S len (gg f)⟩
end
section
variable {X:Cx}{k:Nat}{ps:List Str}{sp:Sp}{x:Str}{p pos:Pos}{e:Expr}{es:List Expr}{t:TA}
theorem b9 (F:fh X.prog X.w X.K X.mg X.base x ps k sp) (hr:aX k X.A) (hg:Gl X x) (ha:PA X (e::es) t) (fF:(x == ("__debug__" : Str))=false:=by decide)
    (he:starEach (e::es) X.env=(false,eval e X.env)::starEach es X.env:=by rfl) (bY:(backTo pos (starEach es X.env)).any (·.1)=false:=by rfl):PE X (.Call (.Name x p) (e::es) [] pos) (zJ sp [] E0 t):=by
  obtain⟨f,fd,a,kp,lk,b,G⟩:=F;exact BF G hr hg a kp (.all b) .nil zX ha fF he bY
end
theorem nq {l:PySem.W.OpenLaw}{q:Program}{loose:List Str}{XP:(Str->Option Value)->Heap->Prop}{YP:World->Heap->Prop}{d:DefRec}{K:Params->PySem.W.Frag}{k:Nat}{x:Str}{sp:PySem.W.Frag->Sp}
    (hn:l.most=some 63) (mD:d.params.defaults = []) (hr:aX k callerA) (hY:∀(w:World) (h:Heap),YP w h->(K w.params).In h)
    (mC:∀(K:PySem.W.Frag) (H:Hp) (a:Addr) (ns:List Int),ns.length<=63->ak K H a (ns.map V.int)->sp K [.ref a] H (fun v _=>v = .bl true) fun _ _ _=>False)
    (F:∀(w:World) (mg:Str->Option Value) (h:Heap),(K w.params).In h->h.Ns mainGlobals mg->∀base:Heap,(K w.params).In base->base.Ns mainGlobals mg->fh l.prog w (K w.params) mg base d.name [x] k (sp (K w.params))) :
    PySem.W.WalkO q loose XP YP l.row.toRowW d [] (fun f vs=>PySem.call f vs):=by
  refine L2.m7 (n:=63) (k:=k) (x:=x) (CX:=bJ) (sp:=sp) hn (by decide) mD hr hY (fun w mg fa h KX G uV=>?_) (fun K H a ns hl _ hS=>mC K H a ns hl hS) fun _ _ _ _ z=>z
  obtain⟨f,fd,a,kp,⟨oc,od,fZ,lk⟩,b,_⟩:=F w mg h KX G h KX G;have ef:fa=f:=by
    rw[uV] at a;cases a;rfl
  subst ef;refine⟨fd,fun s u=>.of_eq (b [u] rfl),fun base kb nb=>?_⟩;obtain⟨f',Ge,a',Nt,⟨Gf,Gg,wY,uY⟩,b',G'⟩:=F w mg h KX G base kb nb;have ef:f'=fa:=by
    rw[uV] at a';cases a';rfl
  subst ef;rw[lk] at uY;cases uY;exact G'
inductive b8 (K:PySem.W.Frag) (H:Hp):Nat->V->V->Bool->Prop where
  | flat {n:Nat}{x y:V}(fx:iZ x=true) (fy:iZ y=true):b8 K H n x y (lB x y)
  | lst {n:Nat}{a b:Addr}{xs ys:List V}(e:Nat->Bool) (hx:ak K H a xs) (hy:ak K H b ys) (hl:xs.length=ys.length) (he:∀(i:Nat) x y,xs[i]? = some x->ys[i]? = some y->b8 K H n x y (e i)) :
      b8 K H (n+1) (.ref a) (.ref b) ((List.range xs.length).all e)
  | pB {n:Nat}{a b:Addr}{xs ys:List V}(hx:ak K H a xs) (hy:ak K H b ys) (hl:xs.length≠ys.length):b8 K H (n+1) (.ref a) (.ref b) false
  | tup {n:Nat}{a b:Addr}{xs ys:List V}(e:Nat->Bool) (hx:aD K H a xs) (hy:aD K H b ys) (he:∀(i:Nat) x y,xs[i]? = some x->ys[i]? = some y->b8 K H n x y (e i)) :
      b8 K H (n+1) (.ref a) (.ref b) ((List.range (min xs.length ys.length)).all e&&xs.length == ys.length)
  | lt {n:Nat}{a b:Addr}{xs ys:List V}(hx:ak K H a xs) (hy:aD K H b ys):b8 K H (n+1) (.ref a) (.ref b) false
  | tl {n:Nat}{a b:Addr}{xs ys:List V}(hx:aD K H a xs) (hy:ak K H b ys):b8 K H (n+1) (.ref a) (.ref b) false
theorem Cr {x:V}(h:iZ x=true):lB x x=true:=by
  cases x<;>first | rfl | (simp[iZ] at h;done) | (simp[lB];done)
section
variable {X:Cx}{pins:List (Addr×Obj)}{σ:St}{H:Hp}{s:Shared}
theorem Gh (I:Inv X pins σ H s) {a:Addr}{xs ys:List V}(hx:ak X.K H a xs) (hy:aD X.K H a ys):False:=by
  obtain⟨its,_,⟨o,n,e,c,_,_⟩,_⟩:=I.list hx;obtain⟨its',_,⟨o',e',c',_⟩,_⟩:=I.tuple hy;rw[e] at e';cases e';rw[c] at c';injection c' with c'
  exact absurd c' (by decide)
theorem b8.refl (I:Inv X pins σ H s) {n:Nat}{x y:V}{b:Bool}(h:b8 X.K H n x y b):x=y->b=true:=by
  induction h with
  | flat fx fy=>intro e;subst e;exact Cr fx
  | lst e hx hy hl he ih=>
    intro q;cases q;have:=I.dB hx hy;subst this;rw[List.all_eq_true];intro i hi;have hi:=List.mem_range.mp hi;exact ih i _ _ (List.getElem?_eq_getElem hi) (List.getElem?_eq_getElem hi) rfl
  | pB hx hy hl=>
    intro q;cases q;exact absurd (congrArg List.length (I.dB hx hy)) hl
  | tup e hx hy he ih=>
    intro q;cases q;have:=I.gF hx hy;subst this;rw[Nat.min_self,beq_self_eq_true,Bool.and_true,List.all_eq_true];intro i hi;have hi:=List.mem_range.mp hi;exact ih i _ _ (List.getElem?_eq_getElem hi) (List.getElem?_eq_getElem hi) rfl
  | lt hx hy=>intro q;cases q;exact (Gh I hx hy).elim
  | tl hx hy=>intro q;cases q;exact (Gh I hy hx).elim
theorem Ab (A:Around):A.in1.units<=A.units+1:=by
  first
    | exact Nat.le_refl _
    | exact Nat.le_succ _
    | (unfold Around.in1;simp)
theorem b8.at (I:Inv X pins σ H s) {n:Nat}{x y:V}{b:Bool}(h:b8 X.K H n x y b):∀{u v:Value}{A:Around},RelV x u->RelV y v->A.units+n<cLine->
    SeqAt.EqAt A s u v b/\((∃p q,x = .ref p/\y = .ref q)->SeqAt.RcAt A s u v b):=by
  induction h with
  | flat fx fy=>
    intro u v A ru rv hu;refine⟨FF ru rv fx fy,fun aE=>?_⟩;obtain⟨p,q,e,_⟩:=aE;subst e;cases fx
  | @lst n a b xs ys e hx hy hl he ih=>
    intro u v A ru rv hu;cases ru;cases rv;obtain⟨its,r1,p1,_⟩:=I.list hx;obtain⟨b7,r2,p2,_⟩:=I.list hy;have l1:=r1.length;have l2:=r2.length;have h1:=Ab A;have rc:SeqAt.RcAt A s (.ref a) (.ref b) ((List.range xs.length).all e):=by
      have:=SeqAt.RcAt.lists (A:=A) (e:=e) p1.isList p2.isList (by simp;omega) (by omega) (fun j j1 j2=>by
        have g1:xs[j]? = some (xs[j]'(by simp at j1;omega)):=List.getElem?_eq_getElem _;have g2:ys[j]? = some (ys[j]'(by simp at j2;omega)):=List.getElem?_eq_getElem _;obtain⟨w1,q1,t1⟩:=r1.get g1;obtain⟨w2,q2,t2⟩:=r2.get g2;have:=(ih j _ _ g1 g2 t1 t2 (A:=A.in1) (by omega)).1;have z1:its.toArray[j]=w1:=by
          have:=List.getElem?_eq_some_iff.mp q1;obtain⟨_,z⟩:=this;simpa using z
        have z2:b7.toArray[j]=w2:=by
          have:=List.getElem?_eq_some_iff.mp q2;obtain⟨_,z⟩:=this;simpa using z
        rw[z1,z2];exact this)
      have es:its.toArray.size=xs.length:=by simp;omega
      rw[es] at this;exact this
    refine⟨?_,fun _=>rc⟩
    by_cases n8:a=b
    · subst n8;have:=(b8.lst e hx hy hl he).refl I rfl;rw[this];exact .same _
    · exact .of_refs n8 rc
  | @pB n a b xs ys hx hy hl=>
    intro u v A ru rv hu;cases ru;cases rv;obtain⟨its,r1,p1,_⟩:=I.list hx;obtain⟨b7,r2,p2,_⟩:=I.list hy;have l1:=r1.length;have l2:=r2.length;have rc:SeqAt.RcAt A s (.ref a) (.ref b) false:=SeqAt.RcAt.lists_lengths p1.isList p2.isList (by simp;omega) (by omega);refine⟨?_,fun _=>rc⟩
    by_cases n8:a=b
    · subst n8;exact absurd (congrArg List.length (I.dB hx hy)) hl
    · exact .of_refs n8 rc
  | @tup n a b xs ys e hx hy he ih=>
    intro u v A ru rv hu;cases ru;cases rv;obtain⟨its,r1,p1,_⟩:=I.tuple hx;obtain⟨b7,r2,p2,_⟩:=I.tuple hy;have l1:=r1.length;have l2:=r2.length;have h1:=Ab A;have rc:SeqAt.RcAt A s (.ref a) (.ref b) ((List.range (min xs.length ys.length)).all e&&xs.length == ys.length):=by
      have:=SeqAt.RcAt.tuples (A:=A) (e:=e) (show s.heap.IsTuple a its.toArray from p1) (show s.heap.IsTuple b b7.toArray from p2) (by omega) (fun j j1 j2=>by
        have g1:xs[j]? = some (xs[j]'(by simp at j1;omega)):=List.getElem?_eq_getElem _;have g2:ys[j]? = some (ys[j]'(by simp at j2;omega)):=List.getElem?_eq_getElem _;obtain⟨w1,q1,t1⟩:=r1.get g1;obtain⟨w2,q2,t2⟩:=r2.get g2;have:=(ih j _ _ g1 g2 t1 t2 (A:=A.in1) (by omega)).1;have z1:its.toArray[j]=w1:=by
          have:=List.getElem?_eq_some_iff.mp q1;obtain⟨_,z⟩:=this;simpa using z
        have z2:b7.toArray[j]=w2:=by
          have:=List.getElem?_eq_some_iff.mp q2;obtain⟨_,z⟩:=this;simpa using z
        rw[z1,z2];exact this)
      have es:its.toArray.size=xs.length:=by simp;omega
      have Nu:b7.toArray.size=ys.length:=by simp;omega
      rw[es,Nu] at this;exact this
    refine⟨?_,fun _=>rc⟩
    by_cases n8:a=b
    · subst n8;have:=(b8.tup e hx hy he).refl I rfl;rw[this];exact .same _
    · exact .of_refs n8 rc
  | @lt n a b xs ys hx hy=>
    intro u v A ru rv hu;cases ru;cases rv;obtain⟨its,r1,p1,_⟩:=I.list hx;obtain⟨b7,r2,p2,_⟩:=I.tuple hy;exact⟨SeqAt.EqAt.list_tuple p1.isList (show s.heap.IsTuple b b7.toArray from p2) (by omega),fun _=>SeqAt.RcAt.list_tuple p1.isList (show s.heap.IsTuple b b7.toArray from p2) (by omega)⟩
  | @tl n a b xs ys hx hy=>
    intro u v A ru rv hu;cases ru;cases rv;obtain⟨its,r1,p1,_⟩:=I.tuple hx;obtain⟨b7,r2,p2,_⟩:=I.list hy;exact⟨SeqAt.EqAt.tuple_list (show s.heap.IsTuple a its.toArray from p1) p2.isList (by omega),fun _=>SeqAt.RcAt.tuple_list (show s.heap.IsTuple a its.toArray from p1) p2.isList (by omega)⟩
end
section
variable {X:Cx}{pins:List (Addr×Obj)}{σ:St}{H:Hp}{s:Shared}
theorem Gi (I:Inv X pins σ H s) {n:Nat}{xs ys:List V}{its b7:List Value}{e:Nat->Bool}(r1:Vals xs its) (r2:Vals ys b7) (he:∀(i:Nat) x y,xs[i]? = some x->ys[i]? = some y->b8 X.K H n x y (e i)) {A:Around}(hu:A.units+n<cLine) :
    ∀(j:Nat) (h1:j<its.toArray.size) (h2:j<b7.toArray.size),SeqAt.EqAt A s its.toArray[j] b7.toArray[j] (e j):=fun j j1 j2=>by
  have l1:=r1.length;have l2:=r2.length;have g1:xs[j]? = some (xs[j]'(by simp at j1;omega)):=List.getElem?_eq_getElem _;have g2:ys[j]? = some (ys[j]'(by simp at j2;omega)):=List.getElem?_eq_getElem _;obtain⟨w1,q1,t1⟩:=r1.get g1;obtain⟨w2,q2,t2⟩:=r2.get g2;have:=((he j _ _ g1 g2).at I t1 t2 (A:=A) hu).1;have z1:its.toArray[j]=w1:=by
    obtain⟨_,z⟩:=List.getElem?_eq_some_iff.mp q1;simpa using z
  have z2:b7.toArray[j]=w2:=by
    obtain⟨_,z⟩:=List.getElem?_eq_some_iff.mp q2;simpa using z
  rw[z1,z2];exact this
theorem b8.ne (I:Inv X pins σ H s) {n:Nat}{p q:Addr}{b:Bool}(h:b8 X.K H n (.ref p) (.ref q) b) {A:Around}(hu:A.units+n<cLine):SeqAt.RcNeAt A s (.ref p) (.ref q) (!b):=by
  have h1:=Ab A;cases h with
  | flat fx fy=>cases fx
  | lst e hx hy hl he=>
    obtain⟨its,r1,p1,_⟩:=I.list hx;obtain⟨b7,r2,p2,_⟩:=I.list hy;have l1:=r1.length;have l2:=r2.length;have:=SeqAt.RcNeAt.lists (A:=A) (e:=e) p1.isList p2.isList (by simp;omega) (by omega) (Gi I r1 r2 he (A:=A.in1) (by omega));rw[List.size_toArray,←l1] at this;exact this
  | pB hx hy hl=>
    obtain⟨its,r1,p1,_⟩:=I.list hx;obtain⟨b7,r2,p2,_⟩:=I.list hy;have l1:=r1.length;have l2:=r2.length;exact SeqAt.RcNeAt.lists_lengths p1.isList p2.isList (by simp;omega) (by omega)
  | tup e hx hy he=>
    obtain⟨its,r1,p1,_⟩:=I.tuple hx;obtain⟨b7,r2,p2,_⟩:=I.tuple hy;have l1:=r1.length;have l2:=r2.length;have:=SeqAt.RcNeAt.tuples (A:=A) (e:=e) (show s.heap.IsTuple p its.toArray from p1) (show s.heap.IsTuple q b7.toArray from p2) (by omega) (Gi I r1 r2 he (A:=A.in1) (by omega));rw[List.size_toArray,List.size_toArray,←l1,←l2] at this;exact this
  | lt hx hy=>
    obtain⟨its,r1,p1,_⟩:=I.list hx;obtain⟨b7,r2,p2,_⟩:=I.tuple hy;exact SeqAt.RcNeAt.list_tuple p1.isList (show s.heap.IsTuple q b7.toArray from p2) (by omega)
  | tl hx hy=>
    obtain⟨its,r1,p1,_⟩:=I.tuple hx;obtain⟨b7,r2,p2,_⟩:=I.list hy;exact SeqAt.RcNeAt.tuple_list (show s.heap.IsTuple p its.toArray from p1) p2.isList (by omega)
end
section
variable {X:Cx}
def wZ (K:PySem.W.Frag):R2:=fun x y H Q=>∃p q b,x = .ref p/\y = .ref q/\b8 K H 8 x y b/\Q (.bl b) H
theorem Nv (hu:X.A.units+9<cLine):dR X (compareOp .Eq) (wZ X.K):=by
  intro pins s σ H x y v u Q I rx ry h;obtain⟨p,q,b,rfl,rfl,d,hq⟩:=h;exact (d.at I rx ry (A:=X.A) (by omega)).2 ⟨p,q,rfl,rfl⟩ X.prog X.w _ _ ⟨.bl b,H,I,rfl,hq⟩
def xh (K:PySem.W.Frag):R2:=fun x y H Q=>∃p q b,x = .ref p/\y = .ref q/\b8 K H 8 x y b/\Q (.bl (!b)) H
theorem Nx (hu:X.A.units+9<cLine):dR X (compareOp .NotEq) (xh X.K):=by
  intro pins s σ H x y v u Q I rx ry h;obtain⟨p,q,b,rfl,rfl,d,hq⟩:=h;cases rx;cases ry;exact d.ne I (A:=X.A) (by omega) X.prog X.w _ _ ⟨.bl (!b),H,I,rfl,hq⟩
def xm (K:PySem.W.Frag) (neg:Bool):R2:=fun x y H Q=>∃(p:Addr) (xs:List V) (e:V->Bool),y = .ref p/\(ak K H p xs\/aD K H p xs)/\(∀z∈xs,b8 K H 8 z x (e z))/\Q (.bl (if neg then !xs.any e else xs.any e)) H
theorem Gj:∀{xs:List V}{us:List Value}{u:Value},Vals xs us->u∈us->∃x∈xs,RelV x u
  | _,_,_,.cons r t,h=>by
    rcases List.mem_cons.mp h with h | h
    · subst h;exact⟨_,List.mem_cons_self ..,r⟩
    · obtain⟨x,hx,q⟩:=Gj t h;exact⟨x,List.mem_cons_of_mem _ hx,q⟩
def ja (e:V->Bool) (u:Value):Bool:=match vN u with
  | some x=>e x
  | none=>false
theorem Gk {e:V->Bool}{x:V}{u:Value}(r:RelV x u):ja e u=e x:=by unfold ja;rw[r.abs]
theorem Ct {e:V->Bool}:∀{xs:List V}{us:List Value},Vals xs us->us.any (ja e)=xs.any e
  | _,_,.nil=>rfl
  | _,_,.cons r t=>by rw[List.any_cons,List.any_cons,Gk r,Ct t]
theorem Ny (hu:X.A.units+10<cLine):dR X (compareOp .NotIn) (xm X.K true):=by
  intro pins s σ H x y v u Q I rx ry h;obtain⟨p,xs,e,rfl,hq,hd,q⟩:=h;cases ry;have h1:=Ab X.A;have items:∀{its:List Value},Vals xs its->∀z,z∈its.toArray->SeqAt.EqAt X.A.in1 s z v (ja e z):=fun {its} r z hz=>by
    obtain⟨x',uZ,rz⟩:=Gj r (by simpa using hz);rw[Gk rz];exact ((hd x' uZ).at I rz rx (A:=X.A.in1) (by omega)).1
  rcases hq with hq | hq
  · obtain⟨its,r,pl,hz⟩:=I.list hq;refine SeqAt.notIn_listAt (ja e) pl.isList (items r) ⟨.bl _,H,I,rfl,?_⟩;rw[show its.toArray.any (ja e)=its.any (ja e) by simp,Ct r];exact q
  · obtain⟨its,r,pl,hz⟩:=I.tuple hq;refine SeqAt.notIn_tupleAt (ja e) pl (items r) ⟨.bl _,H,I,rfl,?_⟩;rw[show its.toArray.any (ja e)=its.any (ja e) by simp,Ct r];exact q
end
def aR:V->Str
  | .str x=>x
  | .int i=>Str.ofString (toString i)
  | _=>Str.empty
def Wd (v:V):Prop:=(∃x,v = .str x/\x.length<=100)\/∃i:Int,v = .int i/\i.natAbs<10 ^ 60
theorem Wd.flat {v:V}(h:Wd v):iZ v=true:=by
  rcases h with ⟨x,rfl,_⟩ | ⟨i,rfl,_⟩<;>rfl
theorem Nz {i:Int}(h:i.natAbs<10 ^ 60):i.natAbs.log2<1920:=by
  by_cases h0:i.natAbs=0
  · rw[h0];decide
  · exact (Nat.log2_lt h0).mpr (Nat.lt_of_lt_of_le h (by decide))
section
variable {X:Cx}
theorem NB:i9 X (.type "str") (fun xs H Q=>∃v,xs = [v]/\Wd v/\Q (.str (aR v)) H):=by
  intro pins s σ H xs us Q I r h;obtain⟨v,rfl,hv,q⟩:=h;rcases hv with ⟨x,rfl,_⟩ | ⟨i,rfl,hi⟩
  · obtain⟨u,rfl,t,rfl⟩:=jH r;exact PySem.P.str_of_str ⟨.str x,H,I,⟨_,rfl⟩,q⟩
  · obtain⟨u,rfl,t,rfl⟩:=jH r;exact PySem.P.str_of_int (Nz hi) ⟨.str _,H,I.tok _,⟨_,rfl⟩,q⟩
theorem NC:i9 X (.builtin "sorted") (fun xs H Q=>∃(a:Addr) (ns:List Int),xs = [V.ref a]/\ak X.K H a (ns.map V.int)/\ns.length<64/\
    ∀(p:Addr) (ms:List Int),H p=none->ms.Perm ns->ms.Pairwise (·<=·)->Q (.ref p) (upd H p (.lst (ms.map V.int)))):=by
  intro pins s σ H xs us Q I r h;obtain⟨a,ns,rfl,ha,hn,q⟩:=h;obtain⟨u,rfl,ru⟩:=jH r;cases ru;obtain⟨its,rv,pl,hz⟩:=I.list ha;have hl:=rv.length;rw[List.length_map] at hl;refine PyProof.Rows.sorted_ints pl.isList (MB rv) (by omega) fun out ms a1 a2 a3=>?_
  obtain⟨e,he⟩:=PyProof.Rows.sortedAll_at s.heap its out;have qa:H (s.heap.objs.size+1)=none:=I.aF.fresh (Nat.le_succ _);have hm:ms.length=ns.length:=a2.length_eq;have hs:sizeLine=16777216:=sizeLine_eq;refine⟨.ref (s.heap.objs.size+1),_,I.laid (t':=s.toks) (a:=s.heap.objs.size+1) (o:=.lst (ms.map V.int)) (fun b o eb=>PyProof.Rows.sortedAll_old eb) (Nat.le_succ _) ⟨?_,out.toList,e,B5 a1,?_⟩,rfl,q _ ms qa a2 a3⟩
  · rw[List.length_map];omega
  · rw[he]
end
def u5 (xs ys:List V):Bool:=(List.range (min xs.length ys.length)).all (fun i=>match xs[i]?,ys[i]? with | some x,some y=>lB x y | _,_=>true)&&xs.length == ys.length
theorem b8.iK {K:PySem.W.Frag}{H:Hp}{n:Nat}{a b:Addr}{xs ys:List V}(hx:aD K H a xs) (hy:aD K H b ys) (fx:∀x∈xs,iZ x=true) (fy:∀x∈ys,iZ x=true):b8 K H (n+1) (.ref a) (.ref b) (u5 xs ys):=by
  refine b8.tup _ hx hy fun i x y e1 e2=>?_
  rw[e1,e2];exact b8.flat (fx x (List.mem_of_getElem? e1)) (fy y (List.mem_of_getElem? e2))
theorem xq {xs:List V}(h:∀x∈xs,iZ x=true):u5 xs xs=true:=by
  unfold u5;rw[beq_self_eq_true,Bool.and_true,List.all_eq_true];intro i hi;rw[Nat.min_self] at hi;have hi:=List.mem_range.mp hi;rw[List.getElem?_eq_getElem hi];exact Cr (h _ (List.getElem_mem hi))
theorem b8.xr {K:PySem.W.Frag}{H:Hp}{n:Nat}{a b:Addr}{xs:List V}(hx:ak K H a xs) (hy:ak K H b xs) (h:∀x∈xs,b8 K H n x x true):b8 K H (n+1) (.ref a) (.ref b) true:=by
  have:=b8.lst (n:=n) (fun _=>true) hx hy rfl fun i x y e1 e2=>by
    rw[e1] at e2;cases e2;exact h x (List.mem_of_getElem? e1)
  rw[show (List.range xs.length).all (fun _=>true)=true from List.all_eq_true.mpr fun _ _=>rfl] at this;exact this
theorem b8.xu {K:PySem.W.Frag}{H:Hp}{n:Nat}{a b:Addr}{xs ys:List V}(hx:aD K H a xs) (hy:aD K H b ys) (hl:xs.length=ys.length) (h:∀(i:Nat) x y,xs[i]? = some x->ys[i]? = some y->b8 K H n x y true):b8 K H (n+1) (.ref a) (.ref b) true:=by
  have:=b8.tup (n:=n) (fun _=>true) hx hy h;rw[show (List.range (min xs.length ys.length)).all (fun _=>true)=true from List.all_eq_true.mpr fun _ _=>rfl,hl,beq_self_eq_true] at this;exact this
theorem aa.tup {K:PySem.W.Frag}{H H':Hp}{a:Addr}{xs:List V}(e:aa H H') (h:aD K H a xs):aD K H' a xs:=by
  rcases h with (h | ⟨o,h⟩) | h
  · exact .inl (.inl (e _ _ h))
  · exact .inl (.inr ⟨o,e _ _ h⟩)
  · exact .inr h
theorem aa.new {H:Hp}{D:Addr}{o:HO}(h:H D=none):aa H (upd H D o):=fun b u e=>by rw[aJ (cI e h)];exact e
theorem aa.upd {H H':Hp}{D:Addr}{o:HO}(e:aa H H') (h:H D=none):aa H (upd H' D o):=fun b u q=>by
  rw[aJ (cI q h)];exact e b u q
section
variable {X:Cx}(K:PySem.W.Frag) (h:X.K=K)
include h
theorem cT:uR X (oW K):=h▸MF
theorem gH:uR X (wo K):=h▸MG
theorem sI:rR X (oX K):=h▸MK
theorem u6:rR X (wm K):=h▸FD
theorem n9:dR X (binaryOp .Add) (FE K):=h▸MC
theorem Cu:dR X (compareOp .NotIn) (zQ K true):=h▸ML
theorem sJ (hu:X.A.units+9<cLine):dR X (compareOp .Eq) (wZ K):=h▸Nv hu
theorem NF (hu:X.A.units+9<cLine):dR X (compareOp .NotEq) (xh K):=h▸Nx hu
theorem NG (hu:X.A.units+10<cLine):dR X (compareOp .NotIn) (xm K true):=h▸Ny hu
theorem jb:i9 X (.builtin "len") (fun xs H Q=>∃p ys,xs = [.ref p]/\(ak K H p ys\/aD K H p ys)/\Q (.int ys.length) H):=h▸MM
theorem Cv:i9 X (.type "tuple") (fun xs H Q=>∃p ys,xs = [.ref p]/\((ak K H p ys/\∀l,H l=none->Q (.ref l) (upd H l (.tup ys)))\/(aD K H p ys/\Q (.ref p) H))):=h▸MN
theorem Ac:i9 X (.builtin "isinstance") (fun xs H Q=>∃x t n b,xs = [x,V.ty n]/\fE K H x t/\PySem.W.kitOne K t (.type n)=some b/\Q (.bl b) H):=h▸Nr
theorem Gm:i9 X (.builtin "sorted") (fun xs H Q=>∃(a:Addr) (ns:List Int),xs = [V.ref a]/\ak K H a (ns.map V.int)/\ns.length<64/\
    ∀(p:Addr) (ms:List Int),H p=none->ms.Perm ns->ms.Pairwise (·<=·)->Q (.ref p) (upd H p (.lst (ms.map V.int)))):=h▸NC
theorem NH (hc:X.calm=true):i9 X (.builtin "all") (fun xs H Q=>∃(a:Addr) (bs:List Bool),xs = [V.ref a]/\ak K H a (bs.map V.bl)/\Q (.bl (bs.all id)) H):=h▸Nn hc
theorem Ad:oV X "str.join" (fun x xs H Q=>∃(sep:Str) (p:Addr) (ys:List Str),x=V.str sep/\xs = [V.ref p]/\ak K H p (ys.map V.str)/\(ys.map (·.length)).sum+ys.length * sep.length<=16777216/\Q (.str (Txt.join sep ys)) H):=h▸Nq
variable {o e:Expr}{es:List Expr}{to:TE}{t:TA}{name:Str}{apos aY:Pos}{T id:String}{r:V->List V->Hp->VK->Prop}
theorem NI (pa:PlainAttrs T) (slot:Slot T name id) (oZ:typeOf (.builtin id)=pure (.type "method_descriptor")) (hm:oV X id r) (ho:PE X o to)
    (iH:attributeBase o name X.env (eval o X.env)=eval o X.env:=by rfl) (iI:(apos.endLine == aY.line)=true:=by rfl):PE X (.Call (.Attribute o name apos) [] [] aY) (wA K T r to):=h▸MO pa slot oZ hm ho iH iI
theorem jW (pa:PlainAttrs T) (slot:Slot T name id) (oZ:typeOf (.builtin id)=pure (.type "method_descriptor")) (hm:oV X id r) (ho:PE X o to) (ha:PA X (e::es) t)
    (iH:attributeBase o name X.env (eval o X.env)=eval o X.env:=by rfl)
    (rS:((backTo aY (starEach (e::es) X.env)).all (fun x=>!x.1)&&(backToKw aY (keywordEach [] X.env)).all (fun x=>x.1.isSome)
      && decide ((e::es).length+([]:List Keyword).length+(if ([]:List Keyword).isEmpty then 0 else 1)<30))=true:=by rfl)
    (iI:(apos.endLine == aY.line)=true:=by rfl) (hs:starEach (e::es) X.env=(false,eval e X.env)::starEach es X.env:=by rfl) (kG:(backTo aY (starEach es X.env)).any (·.1)=false:=by rfl) :
    PE X (.Call (.Attribute o name apos) (e::es) [] aY) (FJ K T r to t):=h▸MP pa slot oZ hm ho ha iH rS iI hs kG
end
section
variable {X:Cx}{tg:Expr}(K:PySem.W.Frag) (h:X.K=K)
include h
theorem lR {l:Expr}{tl:TE}(hl:PE X l tl):PI X tg l (zA K tl):=h▸LK hl
theorem NJ {l:Expr}{tl:TE}(hl:PE X l tl):PI X tg l (vS K tl):=h▸LL hl
theorem sL {es:List Expr}{k:Nat}{t:qe}{n:Nat}{pos:Pos}(hc:X.calm=true) (h':vO X es t)
    (hn:(assignEach es X.env).length=n:=by rfl) (i8:(assignEach es X.env).findIdx? (·.1)=none:=by rfl):PG X (.Tuple es k pos) (oK K n t):=h▸LG hc h' hn i8
end
theorem jX {A:Around}{k:Nat}(hr:aX k A):A.units+9<cLine:=Nat.lt_of_le_of_lt (Nat.add_le_add_left (by decide:9<=64) _) hr.units
theorem Cw {A:Around}{k:Nat}(hr:aX k A):A.units+10<cLine:=Nat.lt_of_le_of_lt (Nat.add_le_add_left (by decide:10<=64) _) hr.units
theorem sM {c:TT}{t u:TS}{D:Ends}{σ:St}{H:Hp}(b:Bool) (ht:∀Q':Bool->Hp->Prop,(∀H',aa H H'->Q' b H')->c σ H Q') (hs:∀H',aa H H'->if b=true then t D σ H' else u D σ H'):rD c t u D σ H:=ht _ hs
theorem Ae {c:TT}{t u:TS}{D:Ends}{σ:St}{H:Hp}(b:Bool) (ht:∀Q':Bool->Hp->Prop,Q' b H->c σ H Q') (hs:if b=true then t D σ H else u D σ H):rD c t u D σ H:=ht _ hs
theorem b8.sN {K:PySem.W.Frag}{H:Hp}{n:Nat}{a b:Addr}{xs:List V}(hx:ak K H a xs) (hy:ak K H b []):b8 K H (n+1) (.ref a) (.ref b) (decide (xs = [])):=by
  by_cases h:xs = []
  · subst h;exact b8.lst (fun _=>true) hx hy rfl fun i x y e _=>by simp at e
  · rw[decide_eq_false h];exact b8.pB hx hy fun z=>h (List.length_eq_zero_iff.mp z)
theorem gI {α:Type}{x:α}{xs:List α}:fG (x::xs) 0=some x:=by
  have:=lA (xs:=x::xs) (j:=0) (v:=x) rfl;exact this
theorem qm {x:V}{xs:List V}:bN (x::xs) (some 1) none=xs:=by
  unfold bN HT.bA;simp
theorem cU {n:Nat}(h:n<=1000):n<=sizeLine:=Nat.le_of_lt (pe h)
open Builtin Builtin.Str
theorem Gn:∀(ys:List Str) (k:Nat),Vals (ys.map V.str) (strsFrom k ys)
  | [],_=>.nil
  | y::ys,k=>.cons ⟨k,rfl⟩ (Gn ys (k+1))
section
variable {X:Cx}
theorem Gp {pins:List (Addr×Obj)}{σ:St}{H:Hp}{s:Shared}{Q:VK}{ys:List Str}{us:List Value}{k n:Nat}(I:Inv X pins σ H s) (r:Vals (ys.map V.str) us) (hz:ys.length<=sizeLine) (q:∀p,H p=none->Q (.ref p) (upd H p (.lst (ys.map V.str)))) :
    EP X pins σ Q (.ref s.heap.objs.size) { s with heap:=s.heap.push { cls:=.type "list",data:=.seq us.toArray n },toks:=k }:=
  ⟨.ref s.heap.objs.size,_,I.laid (t':=k) (o:=.lst (ys.map V.str)) (fun b u e=>Heap.get?_push_of_some _ e) (Nat.le_refl _) ⟨by rw[List.length_map];exact hz,us,n,r,Heap.get?_push_size _ rfl⟩,rfl,q _ (I.aF.fresh (Nat.le_refl _))⟩
theorem Cy:oV X "str.split" (fun x xs H Q=>∃a b,x=V.str a/\xs = [V.str b]/\(b.length == 0)=false/\a.length<=sizeLine/\(Txt.split a b).length<=sizeLine/\∀p,H p=none->Q (.ref p) (upd H p (.lst ((Txt.split a b).map V.str)))):=by
  intro pins s σ H x xs v us Q I rx rs h;obtain⟨a,b,rfl,rfl,hb,ha,hn,q⟩:=h;obtain⟨t,rfl⟩:=rx;obtain⟨u,rfl,t',rfl⟩:=jH rs;have one:Txt.split a b = [a]->EP X pins σ Q (.ref s.heap.objs.size) { s with heap:=s.heap.push { cls:=.type "list",data:=.seq [Value.str a t].toArray 0 },toks:=s.toks }:=fun e=>by
    rw[e] at q;exact Gp I (ys:=[a]) (.cons ⟨t,rfl⟩ .nil) (by show 1<=sizeLine;decide) q
  cases h1:(decide (a.length<b.length)||decide (strKind a<strKind b))
  · cases hf:(occurrences a b 0 a.length (a.length+1)).isEmpty
    · have e:Txt.split a b=partsBetween a (occurrences a b 0 a.length (a.length+1)) b.length:=by
        unfold Txt.split;rw[h1,hf];rfl
      rw[e] at hn q;refine call_meets F.slot_str_split (typeIs_str _ _ _) F.entry_str_split (F.args_str_split_2 _ _) (meets_str_split_sep a b t t' h1 hb hf ha hn) ?_;exact Gp I (Gn _ _) hn q
    · exact call_meets F.slot_str_split (typeIs_str _ _ _) F.entry_str_split (F.args_str_split_2 _ _) (meets_str_split_not_found a b t t' h1 hb hf) (one (by unfold Txt.split;rw[h1,hf];rfl))
  · exact call_meets F.slot_str_split (typeIs_str _ _ _) F.entry_str_split (F.args_str_split_2 _ _) (meets_str_split_cannot_occur a b t t' h1) (one (by unfold Txt.split;rw[h1];rfl))
end
section
variable {X:Cx}{pins:List (Addr×Obj)}{σ:St}{H:Hp}{s:Shared}{h':Heap}
theorem Inv.gk {t':Nat}{ch:List Addr}(I:Inv X pins σ H s) (k:∀b o,b ∉ ch->s.heap.get? b=some o->h'.get? b=some o) (hf:∀b∈ch,cg X pins H b):Inv X pins σ H { s with heap:=h',toks:=t' }:=by
  have pY:∀b u,H b=some u->b ∉ ch:=fun b u e z=>by rw[(hf b z).1] at e;cases e
  refine I.step (g':=s.gens) (d':=s.drawn) (ch:=ch) (fun b hb=>⟨(hf b hb).2.2.2.1,(hf b hb).2.1,(hf b hb).2.2.2.2.1,(hf b hb).2.2.2.2.2⟩) (fun b o _ _ hc e _=>k b o hc e) (fun b o _ _ hc e _=>⟨o.slots,k b o hc e⟩) (fun _ _ _ _ n=>n)
    (fun b o hc e=>⟨o,k b o hc e⟩) (fun _ _ e=>e) (fun _ _ _ e=>e) (fun b ps e=>⟨#[],by rw[e];simp⟩) (fun m hm=>?_) (fun b u e=>?_) I.bare
  · obtain⟨o,es,ep,ho,r⟩:=hm;exact⟨o,es,ep,k _ o (fun z=>(hf _ z).2.1 rfl) ho,r⟩
  · refine (I.aF b u e).bH (fun c v hc q=>k c v ?_ q) (fun _ q=>q) fun _ _ q=>q
    rcases hc with z | z
    · rw[z];exact pY b u e
    · exact pY c _ z
theorem Inv.ji {t':Nat}{ch:List Addr}{T:Addr}{o:HO}(I:Inv X pins σ H s) (k:∀b u,b ∉ ch->s.heap.get? b=some u->h'.get? b=some u) (hf:∀b∈ch,cg X pins H b) (hT:s.heap.objs.size<=T)
    (new:aH X.prog X.w (upd H T o) h' T o):Inv X pins σ (upd H T o) { s with heap:=h',toks:=t' }:=by
  have hn:H T=none:=I.aF.fresh hT;have pY:∀b u,H b=some u->b ∉ ch:=fun b u e z=>by rw[(hf b z).1] at e;cases e
  have neT:∀b u,s.heap.get? b=some u->b≠T:=fun b u e=>Nat.ne_of_lt (Nat.lt_of_lt_of_le (Heap.lt_size e) hT)
  refine I.step (g':=s.gens) (d':=s.drawn) (ch:=ch) (fun b hb=>⟨(hf b hb).2.2.2.1,(hf b hb).2.1,(hf b hb).2.2.2.2.1,(hf b hb).2.2.2.2.2⟩) (fun b u _ _ hc e _=>k b u hc e) (fun b u _ _ hc e _=>⟨u.slots,k b u hc e⟩) (fun b u _ e n=>by rw[aJ (neT b u e)];exact n)
    (fun b u hc e=>⟨u,k b u hc e⟩) (fun b xs e=>by rw[aJ (cI e hn)];exact e) (fun b u v e=>by rw[aJ (cI e hn)];exact e) (fun b ps e=>⟨#[],by rw[aJ (cI e hn),e];simp⟩) (fun m hm=>?_) (fun b u e=>?_) I.bare
  · obtain⟨u,es,ep,ho,r⟩:=hm;exact⟨u,es,ep,k _ u (fun z=>(hf _ z).2.1 rfl) ho,r⟩
  · by_cases hb:b=T
    · subst hb;rw[zd] at e;cases e;exact new
    · rw[aJ hb] at e;refine (I.aF b u e).bH (fun c v hc q=>k c v ?_ q) (fun c q=>by rw[aJ (cI q hn)];exact q) fun c xs q=>by rw[aJ (cI q hn)];exact q
      rcases hc with z | z
      · rw[z];exact pY b u e
      · exact pY c _ z
end
theorem NK {prog:Program}{w:World}{A:Around}{it:Addr}{fp:List Addr}{n:Nat}{P:Nat->Value->Prop}{St:Nat->Heap->Prop}(D:Draws prog w A it fp n P St) (a:Nat) :
    Draws prog w A it fp (n+a) (fun i v=>P (i-a) v) (fun i h=>a<=i/\St (i-a) h) where
  live:=fun i h st=>D.live _ h st.2
  frame:=fun i h h' st k=>⟨st.1,D.frame _ h h' st.2 k⟩
  item:=fun i s Q E hi st hQ=>D.item (i-a) s Q E (by have:=st.1;omega) st.2 fun x h1 tk p q r=>hQ x h1 tk p ⟨by have:=st.1;omega,by
    have:i+1-a=i-a+1:=by have:=st.1;omega
    rw[this];exact q⟩ r
  done:=fun s Q E st hE=>D.done s Q E (by have:=st.2;rwa [Nat.add_sub_cancel] at this) hE
theorem NL {prog:Program}{w:World}{A:Around}{E:Value->Shared->Prop}{s:Shared}{e it l:Addr}{i:Nat}{j:Int}{items:Array Value}{old:Value}{Q:Option Value->Shared->Prop}(hd:A.handled=none)
    (he:IsEnum s.heap e it j old) (hi:s.heap.IsListIter it l i) (hl:s.heap.IsList l items) (hx:items[i]? = none) (hQ:∀h1,Heap.ExtBut it s.heap h1->Q none { s with heap:=h1 }):wpAny (model prog w) A (pyNext (.ref e)) Q E s:=by
  have D:Draws prog w A.in1 it [it,l] i (fun _ _=>False) (fun k h=>(k<i->False)/\h.IsListIter it l i/\h.IsList l items):=
    ⟨fun _ _ q=>let ⟨o,ho,_⟩:=q.2.1;⟨o,ho⟩,fun _ _ _ q k=>⟨q.1,q.2.1.at fun o x=>k it (by simp) o x,q.2.2.at fun o x=>k l (by simp) o x⟩,fun k _ _ _ hk q _=>(q.1 hk).elim,fun s1 _ _ q hE=>wpAny_nextOf_list_end (A:=A.in1) hd q.2.1 q.2.2 hx hE⟩
  exact wpAny_pyNext_enum_endD D he ⟨fun z=>Nat.lt_irrefl _ z,hi,hl⟩ hQ
def u7 (K:PySem.W.Frag) (a:Addr) (st:Nat):It:=
  ⟨fun i H=>∃xs x,ak K H a xs/\xs[i]? = some x,fun i H v H'=>∃T x,H T=none/\v = .ref T/\H'=upd H T (.tup [.int ((st+i:Nat):Int),x])/\∀xs,ak K H a xs->xs[i]? = some x,fun i H=>∃xs,ak K H a xs/\xs.length<=i⟩
theorem NN {P:Program}{w:World}{K:PySem.W.Frag}{elts:List Expr}{ct:Nat}{pos:Pos}(a e it:Addr) (st:Nat) (iL:e≠it) :
    Turn P w K (.Tuple elts ct pos) (u7 K a st) [e,it] e (fun i h=>(∃old,IsEnum h e it ((st+i:Nat):Int) old)/\h.IsListIter it a i) where
  mem:=by simp
  obj:=fun i h q b hb=>by
    obtain⟨⟨old,he⟩,o,ho,c,d⟩:=q;rcases List.mem_cons.mp hb with hb | hb
    · subst hb;exact⟨_,he,fun v z=>by cases z⟩
    · rw[List.mem_singleton] at hb;subst hb;exact⟨o,ho,fun v z=>by rw[d] at z;cases z⟩
  keep:=fun i h h' q k=>⟨let ⟨old,he⟩:=q.1;⟨old,k e (by simp) _ he⟩,q.2.at fun o x=>k it (by simp) o x⟩
  item:=by
    intro X hP hw hK hc i pins s σ H E I hf q hg;subst hP hw hK;obtain⟨xs,x,hq,hx⟩:=hg;obtain⟨⟨old,he⟩,hit⟩:=q;obtain⟨its,rv,p,hz⟩:=I.list hq;obtain⟨u,hu,ru⟩:=rv.get hx;have hl:=p.isList;have li:a≠it:=by
      rintro rfl;obtain⟨o,ho,c,d⟩:=hit;obtain⟨o2,kg,c2,_⟩:=hl;rw[ho] at kg;cases kg;rw[c] at c2;injection c2 with c2
      exact absurd c2 (by decide)
    have le:e≠a:=by
      rintro rfl;obtain⟨o2,kg,c2,_⟩:=hl;rw[he] at kg;cases kg;injection c2 with c2
      exact absurd c2 (by decide)
    have hi:i<its.toArray.size:=by
      have:=(List.getElem?_eq_some_iff.mp hu).1;simpa using this
    have NO:e<s.heap.objs.size:=Heap.lt_size he;have NP:it<s.heap.objs.size:=by obtain⟨o,ho,_⟩:=hit;exact Heap.lt_size ho
    refine wpAny_pyNext_enum_itemD (NK (Draws.list (A:=X.A.in1) (I.ok.hd hc) it a li its.toArray) st) he ⟨by omega,by rw[Nat.add_sub_cancel_left];exact⟨hit,hl⟩⟩ (by omega) iL (by simp[iL,le]) fun y h1 tk py eo sy ht hsz kk=>?_
    have ey:y=u:=by
      have py:its.toArray[st+i-st]? = some y:=py;rw[Nat.add_sub_cancel_left] at py;have NQ:its.toArray[i]? = some u:=by simpa using hu
      rw[NQ] at py;exact (Option.some.inj py).symm
    subst ey;refine⟨_,rfl,?_⟩;have I1:Inv X pins σ (upd H s.heap.objs.size (.tup [.int ((st+i:Nat):Int),x])) { s with heap:=h1,toks:=tk+1 }:=
      I.ji (ch:=[e,it]) (o:=.tup [.int ((st+i:Nat):Int),x]) (fun b o hb q=>kk b o (fun z=>hb (by simp[z])) (fun z=>hb (by simp[z])) q) hf (Nat.le_refl _) ⟨(by show 2<=sizeLine;decide),[_,y],.cons ⟨_,rfl⟩ (.cons ru .nil),_,ht,rfl,_,rfl⟩
    refine wpAny_letOwnedTupleGo_enum eo fun h2 Af jI=>?_
    have fn:∀b∈[e,it],upd H s.heap.objs.size (.tup [.int ((st+i:Nat):Int),x]) b=none:=fun b hb=>by
      have xw:b≠s.heap.objs.size:=by
        rcases List.mem_cons.mp hb with z | z
        · subst z;exact Nat.ne_of_lt NO
        · rw[List.mem_singleton] at z;subst z;exact Nat.ne_of_lt NP
      rw[aJ xw];exact (hf b hb).1
    have I2:=I1.gk (t':=tk+1) (h':=h2) (ch:=[e]) (fun b o hb q=>(jI.2 b (fun z=>hb (by simp[z]))).trans q) (fun b hb=>by
      rw[List.mem_singleton] at hb;subst hb;exact⟨fn _ (by simp),(hf _ (by simp)).2⟩)
    have sy:=sy.2;rw[show st+i+1-st=i+1 by omega] at sy;refine⟨.ref s.heap.objs.size,_,I2,rfl,⟨_,x,I.aF.fresh (Nat.le_refl _),rfl,rfl,fun ys hy=>by rw[I.dB hy hq];exact hx⟩,⟨⟨y,?_⟩,sy.1.at fun o q=>(jI.2 it iL.symm).trans q⟩,fn⟩;have:((st+(i+1):Nat):Int)=((st+i:Nat):Int)+1:=by omega
    rw[this];exact Af
  done:=by
    intro X hP hw hK hc i pins s σ H E I hf q hg;subst hP hw hK;obtain⟨xs,hq,hx⟩:=hg;obtain⟨⟨old,he⟩,hit⟩:=q;obtain⟨its,rv,p,hz⟩:=I.list hq;have hl:=rv.length;have qo:=p.isList;have li:a≠it:=by
      rintro rfl;obtain⟨o,ho,c,d⟩:=hit;obtain⟨o2,kg,c2,_⟩:=qo;rw[ho] at kg;cases kg;rw[c] at c2;injection c2 with c2
      exact absurd c2 (by decide)
    exact NL (I.ok.hd hc) he hit qo (by simp;omega) fun h1 eb=>⟨rfl,I.gk (t':=s.toks) (ch:=[it]) (fun b o hb q=>eb b o (fun z=>hb (by simp[z])) q) (fun b hb=>hf b (by rw[List.mem_singleton] at hb;simp[hb]))⟩
  self:=fun _ _ _ _ _ q h=>let ⟨_,he⟩:=q.1;wpAny_pyIter_enum he h
def gB (b:Bool) (h:Heap) (it a:Addr) (i:Nat):Prop:=if b=true then h.IsTupleIter it a i else h.IsListIter it a i
def gJ (b:Bool) (h:Heap) (a:Addr) (items:Array Value):Prop:=if b=true then h.IsTuple a items else h.IsList a items
theorem gB.at {b:Bool}{h h':Heap}{it a:Addr}{i:Nat}(q:gB b h it a i) (k:∀o,h.get? it=some o->h'.get? it=some o):gB b h' it a i:=by
  cases b with
  | true=>exact Heap.IsTupleIter.at (show h.IsTupleIter it a i from q) k
  | false=>exact Heap.IsListIter.at (show h.IsListIter it a i from q) k
theorem gJ.at {b:Bool}{h h':Heap}{a:Addr}{items:Array Value}(q:gJ b h a items) (k:∀o,h.get? a=some o->h'.get? a=some o):gJ b h' a items:=by
  cases b with
  | true=>
    obtain⟨o,ho,r⟩:=show h.IsTuple a items from q;exact⟨o,k o ho,r⟩
  | false=>exact Heap.IsList.at (show h.IsList a items from q) k
def Ag (b:Bool):String:=if b=true then "tuple_iterator" else "list_iterator"
theorem gB.obj {b:Bool}{h:Heap}{it a:Addr}{i:Nat}(q:gB b h it a i):∃o,h.get? it=some o/\o.cls = .type (Ag b)/\o.data = .fields #[.ref a,.int i 0]:=by
  cases b with
  | true=>
    obtain⟨o,ho,c,d⟩:=show h.IsTupleIter it a i from q;exact⟨o,ho,c,d⟩
  | false=>
    obtain⟨o,ho,c,d⟩:=show h.IsListIter it a i from q;exact⟨o,ho,c,d⟩
section
variable {prog:Program}{w:World}{A:Around}{E:Value->Shared->Prop}{s:Shared}
theorem Cz {b:Bool}{it a:Addr}{i:Nat}{items:Array Value}{x:Value}{Q:Value->Shared->Prop}(hi:gB b s.heap it a i) (ha:gJ b s.heap a items) (hx:items[i]? = some x)
    (hQ:∀h1,gB b h1 it a (i+1)->Heap.SameBut it s.heap h1->Q x { s with heap:=h1 }):wpAny (model prog w) A (Builtin.SmallTypes.nextOf (.ref it)) Q E s:=by
  cases b with
  | false=>exact wpAny_nextOf_list_item (show s.heap.IsListIter it a i from hi) (show s.heap.IsList a items from ha) hx hQ
  | true=>
    have hi:s.heap.IsTupleIter it a i:=hi;obtain⟨o,ho,hc,hd⟩:=id hi;obtain⟨oa,CA,_,n,CB⟩:=show s.heap.IsTuple a items from ha;unfold Builtin.SmallTypes.nextOf;refine wpAny_bind (wpAny_callSpecial?_slot (name:=Str.ofString "__next__") hi.typeIs F.slot_tuple_iterator_next (wpAny_call_entry F.slot_tuple_iterator_next hi.typeIs F.entry_tuple_iterator_next ?_ (F.args_tuple_iterator_next_1 _)));show wpAny (model prog w) A.in1 (field (.ref it) 0 >>= _) _ _ s;refine wpAny_bind (wpAny_field ho hd (x:=.ref a) rfl ?_);show wpAny (model prog w) A.in1 (if (Value.ref a == Value.none)=true then _ else _) _ _ s;rw[if_neg (show ¬((Value.ref a == Value.none)=true) from Bool.false_ne_true)];show wpAny (model prog w) A.in1 (field (.ref it) 1 >>= _) _ _ s;refine wpAny_bind (wpAny_field ho hd (x:=.int i 0) rfl ?_);show wpAny (model prog w) A.in1 (seqItems? (.ref a) >>= _) _ _ s;refine wpAny_bind (wpAny_seqItems CA CB ?_);simp only [Int.toNat_natCast,hx];refine wpAny_bind (wpAny_setField ho hd (by simp) (wpAny_pure ⟨x,rfl,wpAny_pure (hQ _ ?_ (Heap.SameBut.update ..))⟩));exact⟨_,Heap.get?_update_self _ ho (Obj.isFreed_of_fields (Obj.data_mapFields hd _)),(Obj.cls_mapFields ..).trans hc,by rw[Obj.data_mapFields hd];simp[rawInt]⟩
theorem Gq {b:Bool}{it a:Addr}{i:Nat}{items:Array Value}{Q:Value->Shared->Prop}(hd:A.handled=none) (hi:gB b s.heap it a i) (ha:gJ b s.heap a items) (hx:items[i]? = none)
    (hE:∀h1 e,Heap.ExtBut it s.heap h1->(∃o,h1.get? e=some o/\o.cls = .type "StopIteration")->E (.ref e) { s with heap:=h1 }):wpAny (model prog w) A (Builtin.SmallTypes.nextOf (.ref it)) Q E s:=by
  cases b with
  | false=>exact wpAny_nextOf_list_end hd (show s.heap.IsListIter it a i from hi) (show s.heap.IsList a items from ha) hx hE
  | true=>
    have hi:s.heap.IsTupleIter it a i:=hi;obtain⟨o,ho,hc,k8⟩:=id hi;obtain⟨oa,CA,_,n,CB⟩:=show s.heap.IsTuple a items from ha;unfold Builtin.SmallTypes.nextOf;refine wpAny_bind (wpAny_callSpecial?_slot (name:=Str.ofString "__next__") hi.typeIs F.slot_tuple_iterator_next (wpAny_call_entry F.slot_tuple_iterator_next hi.typeIs F.entry_tuple_iterator_next ?_ (F.args_tuple_iterator_next_1 _)));show wpAny (model prog w) A.in1 (field (.ref it) 0 >>= _) _ _ s;refine wpAny_bind (wpAny_field ho k8 (x:=.ref a) rfl ?_);show wpAny (model prog w) A.in1 (if (Value.ref a == Value.none)=true then _ else _) _ _ s;rw[if_neg (show ¬((Value.ref a == Value.none)=true) from Bool.false_ne_true)];show wpAny (model prog w) A.in1 (field (.ref it) 1 >>= _) _ _ s;refine wpAny_bind (wpAny_field ho k8 (x:=.int i 0) rfl ?_);show wpAny (model prog w) A.in1 (seqItems? (.ref a) >>= _) _ _ s;refine wpAny_bind (wpAny_seqItems CA CB ?_);simp only [Int.toNat_natCast,hx];refine wpAny_bind (wpAny_rule (wpAny_bind (wpAny_setField ho k8 (by simp) ?_)));show wpAny (model prog w) A.in1 (newExc (.type "StopIteration") [] >>= _) _ _ _;refine wpAny_bind ?_;simp only [newExc,newTuple];refine wpAny_bind (wpAny_newObj_type (wpAny_bind (m:=firstArgMember _ _) (wpAny_of_eq (a:=Value.none) (by first | rfl | (simp only [firstArgMember];rfl)) (wpAny_newObj_type ?_ (by size_fits)))) (by size_fits));simp only [raiseNew];refine wpAny_bind (wpAny_handled ?_);rw[show A.in1.handled=none from hd];exact wpAny_bind (wpAny_pure (wpAny_throw (hE _ _ (((Heap.SameBut.update ..).extBut.push _).push _) ⟨_,Heap.get?_push_size _ rfl,rfl⟩)))
end
structure vc (z TI TO i1 i2:Addr):Prop where
  a1:TI≠z
  a2:TO≠z
  a3:i1≠z
  a4:i2≠z
  a5:TI≠TO
  a6:TI≠i1
  a7:TI≠i2
  a8:TO≠i1
  a9:TO≠i2
  b1:i1≠i2
structure ig (l z TO i1 i2:Addr):Prop where
  c1:l≠z
  c2:l≠TO
  c3:l≠i1
  c4:l≠i2
section
variable {prog:Program}{w:World}{A:Around}{E:Value->Shared->Prop}{s:Shared}{z TI TO i1 i2 l1 l2:Addr}{k1 k2:Nat}{xs ys:Array Value}{x y a b:Value}{t1 t2:Bool}
theorem NR {Q:Value->Shared->Prop}(D:vc z TI TO i1 i2) (O1:ig l1 z TO i1 i2) (O2:ig l2 z TO i1 i2)
    (hz:IsZip s.heap z TI TO .none) (hI:IsPair s.heap TI (.ref i1) (.ref i2)) (hO:IsPair s.heap TO a b) (h1:gB t1 s.heap i1 l1 k1) (h2:gB t2 s.heap i2 l2 k2) (q1:gJ t1 s.heap l1 xs) (q2:gJ t2 s.heap l2 ys) (hx:xs[k1]? = some x) (hy:ys[k2]? = some y)
    (hQ:∀g,IsZip g z TI TO (rawInt s.heap.objs.size)->IsPair g TO x y->gB t1 g i1 l1 (k1+1)->gB t2 g i2 l2 (k2+1)->IsPair g s.heap.objs.size x y->
      (∀c o,c≠z->c≠TO->c≠i1->c≠i2->s.heap.get? c=some o->g.get? c=some o)->Q (.ref s.heap.objs.size) { s with heap:=g }) :
    wpAny (model prog w) A (Builtin.«zip.__next__» ⟨[.ref z],[]⟩) (fun fin s'=>∃v,fin = .done (.ret v)/\Q v s') E s:=by
  show wpAny (model prog w) A (field (.ref z) 2 >>= _) _ _ _;refine wpAny_bind (wpAny_field hz rfl (x:=.bool false) rfl ?_);show wpAny (model prog w) A (field (.ref z) 3 >>= _) _ _ _;refine wpAny_bind (wpAny_field hz rfl (x:=.ref TI) rfl (wpAny_bind (wpAny_seqItems hI rfl ?_)));show wpAny (model prog w) A (Builtin.SmallTypes.ownedTupleIsFree (.ref z) >>= _) _ _ _;unfold Builtin.SmallTypes.ownedTupleIsFree;refine wpAny_bind (wpAny_bind (wpAny_field hz rfl (x:=.none) rfl (wpAny_pure ?_)));simp only [if_true];refine wpAny_bind (wpAny_rule (wpAny_bind (wpAny_field hz rfl (x:=.ref TO) rfl (wpAny_bind (wpAny_setField_rec hz (by simp) fun g1 z1 e1=>?_)))));have z1:IsZip g1 z TI TO .ellipsis:=z1;have e1:Heap.SameBut z s.heap g1:=e1;refine wpAny_bind ?_;simp only [List.zipIdx_cons,List.zipIdx_nil,List.forIn_cons,List.forIn_nil];refine wpAny_bind (wpAny_bind (wpAny_onRaise ?_));show wpAny (model prog w) A (Builtin.SmallTypes.nextOf (.ref i1) >>= _) _ _ _;refine wpAny_bind (Cz (h1.at fun o q=>(e1.2 _ D.a3).trans q) (q1.at fun o q=>(e1.2 _ O1.c1).trans q) hx fun g2 j1 e2=>wpAny_pure ?_);have e2:Heap.SameBut i1 g1 g2:=e2;have xx:IsPair g2 TO a b:=(e2.2 _ D.a8).trans ((e1.2 _ D.a2).trans hO);refine wpAny_bind (wpAny_seqItems xx rfl (wpAny_bind (wpAny_updateSeq_pair xx fun g3 O3 e3=>wpAny_bind (wpAny_letGo (wpAny_pure ?_)))));have O3:IsPair g3 TO x b:=O3;have e3:Heap.SameBut TO g2 g3:=e3;refine wpAny_bind (wpAny_bind (wpAny_onRaise ?_));show wpAny (model prog w) A (Builtin.SmallTypes.nextOf (.ref i2) >>= _) _ _ _;refine wpAny_bind (Cz (h2.at fun o q=>(e3.2 _ D.a9.symm).trans ((e2.2 _ D.b1.symm).trans ((e1.2 _ D.a4).trans q))) (q2.at fun o q=>(e3.2 _ O2.c2).trans ((e2.2 _ O2.c3).trans ((e1.2 _ O2.c1).trans q))) hy fun g4 j2 e4=>wpAny_pure ?_);have e4:Heap.SameBut i2 g3 g4:=e4;have O4:IsPair g4 TO x b:=(e4.2 _ D.a9).trans O3;refine wpAny_bind (wpAny_seqItems O4 rfl (wpAny_bind (wpAny_updateSeq_pair O4 fun g5 O5 e5=>wpAny_bind (wpAny_letGo (wpAny_pure (wpAny_pure ?_))))));have O5:IsPair g5 TO x y:=O5;have e5:Heap.SameBut TO g4 g5:=e5;refine wpAny_bind (wpAny_seqItems O5 rfl (wpAny_bind (wpAny_newTuple ?_)));have sz:g5.objs.size=s.heap.objs.size:=by rw[e5.1,e4.1,e3.1,e2.1,e1.1]
  have z5:IsZip g5 z TI TO .ellipsis:=(e5.2 _ D.a2.symm).trans ((e4.2 _ D.a4.symm).trans ((e3.2 _ D.a2.symm).trans ((e2.2 _ D.a3.symm).trans z1)));have k5:∀c o,c≠z->c≠TO->c≠i1->c≠i2->s.heap.get? c=some o->g5.get? c=some o:=fun c o c1 c2 c3 c4 q=>(e5.2 _ c2).trans ((e4.2 _ c4).trans ((e3.2 _ c2).trans ((e2.2 _ c3).trans ((e1.2 _ c1).trans q))))
  have NS:gB t1 g5 i1 l1 (k1+1):=j1.at fun o q=>(e5.2 _ D.a8.symm).trans ((e4.2 _ D.b1).trans ((e3.2 _ D.a8.symm).trans q))
  have NT:gB t2 g5 i2 l2 (k2+1):=j2.at fun o q=>(e5.2 _ D.a9.symm).trans q
  have zl:z<g5.objs.size:=Heap.lt_size z5;show wpAny (model prog w) A (Builtin.SmallTypes.ownedTupleHandOut (.ref z) (.ref g5.objs.size) >>= _) _ _ _;unfold Builtin.SmallTypes.ownedTupleHandOut;have z6:IsZip (g5.push { cls:=.type "tuple",data:=.seq #[x,y] }) z TI TO .ellipsis:=Heap.get?_push_of_some _ z5;refine wpAny_bind (wpAny_bind (wpAny_setField_rec z6 (by simp) fun g7 z7 e7=>?_));have z7:IsZip g7 z TI TO (rawInt g5.objs.size):=z7;refine wpAny_setField_rec z7 (by simp) fun g8 z8 e8=>?_
  have z8:IsZip g8 z TI TO (rawInt g5.objs.size):=z8;have up:∀c o,c≠z->g5.get? c=some o->g8.get? c=some o:=fun c o c1 q=>(e8.2 c c1).trans ((e7.2 c c1).trans (Heap.get?_push_of_some _ q))
  have T8:IsPair g8 g5.objs.size x y:=(e8.2 _ (Nat.ne_of_gt zl)).trans ((e7.2 _ (Nat.ne_of_gt zl)).trans (Heap.get?_push_size _ rfl));rw[sz] at z8 T8;refine wpAny_pure ⟨_,rfl,?_⟩;show Q (.ref g5.objs.size) _;rw[sz];exact hQ g8 z8 (up _ _ D.a2 O5) (NS.at fun o q=>up _ o D.a3 q) (NT.at fun o q=>up _ o D.a4 q) T8 fun c o c1 c2 c3 c4 q=>up c o c1 (k5 c o c1 c2 c3 c4 q)
theorem NU {Q:Fin->Shared->Prop}(hd:A.handled=none) (D:vc z TI TO i1 i2) (O1:ig l1 z TO i1 i2) (O2:ig l2 z TO i1 i2)
    (hz:IsZip s.heap z TI TO .none) (hI:IsPair s.heap TI (.ref i1) (.ref i2)) (hO:IsPair s.heap TO a b) (h1:gB t1 s.heap i1 l1 k1) (h2:gB t2 s.heap i2 l2 k2) (q1:gJ t1 s.heap l1 xs) (q2:gJ t2 s.heap l2 ys) (nv:xs[k1]? = none\/ys[k2]? = none)
    (hE:∀g e,(∀c o,c≠z->c≠TO->c≠i1->c≠i2->s.heap.get? c=some o->g.get? c=some o)->(∃o,g.get? e=some o/\o.cls = .type "StopIteration")->E (.ref e) { s with heap:=g }) :
    wpAny (model prog w) A (Builtin.«zip.__next__» ⟨[.ref z],[]⟩) Q E s:=by
  show wpAny (model prog w) A (field (.ref z) 2 >>= _) _ _ _;refine wpAny_bind (wpAny_field hz rfl (x:=.bool false) rfl ?_);show wpAny (model prog w) A (field (.ref z) 3 >>= _) _ _ _;refine wpAny_bind (wpAny_field hz rfl (x:=.ref TI) rfl (wpAny_bind (wpAny_seqItems hI rfl ?_)));show wpAny (model prog w) A (Builtin.SmallTypes.ownedTupleIsFree (.ref z) >>= _) _ _ _;unfold Builtin.SmallTypes.ownedTupleIsFree;refine wpAny_bind (wpAny_bind (wpAny_field hz rfl (x:=.none) rfl (wpAny_pure ?_)));simp only [if_true];refine wpAny_bind (wpAny_rule (wpAny_bind (wpAny_field hz rfl (x:=.ref TO) rfl (wpAny_bind (wpAny_setField_rec hz (by simp) fun g1 z1 e1=>?_)))));have z1:IsZip g1 z TI TO .ellipsis:=z1;have e1:Heap.SameBut z s.heap g1:=e1;refine wpAny_bind ?_;simp only [List.zipIdx_cons,List.zipIdx_nil,List.forIn_cons,List.forIn_nil];refine wpAny_bind (wpAny_bind (wpAny_onRaise ?_));show wpAny (model prog w) A (Builtin.SmallTypes.nextOf (.ref i1) >>= _) _ _ _;cases hx:xs[k1]? with
  | none=>
    refine wpAny_bind (Gq hd (h1.at fun o q=>(e1.2 _ D.a3).trans q) (q1.at fun o q=>(e1.2 _ O1.c1).trans q) hx fun g2 e e2 he=>?_);obtain⟨oe,sO,ce⟩:=he;have z2:IsZip g2 z TI TO .ellipsis:=e2 _ _ D.a3.symm z1;have nz:e≠z:=by
      rintro rfl;rw[z2] at sO;cases sO;injection ce with ce
      exact absurd ce (by decide)
    exact wpAny_setField_rec z2 (by simp) fun g3 _ e3=>hE g3 e (fun c o c1 _ c3 _ q=>(e3.2 c c1).trans (e2 c o c3 ((e1.2 c c1).trans q))) ⟨oe,(e3.2 e nz).trans sO,ce⟩
  | some x=>
    have hy:ys[k2]? = none:=by
      rcases nv with h | h
      · rw[hx] at h;cases h
      · exact h
    refine wpAny_bind (Cz (h1.at fun o q=>(e1.2 _ D.a3).trans q) (q1.at fun o q=>(e1.2 _ O1.c1).trans q) hx fun g2 j1 e2=>wpAny_pure ?_);have e2:Heap.SameBut i1 g1 g2:=e2;have xx:IsPair g2 TO a b:=(e2.2 _ D.a8).trans ((e1.2 _ D.a2).trans hO);refine wpAny_bind (wpAny_seqItems xx rfl (wpAny_bind (wpAny_updateSeq_pair xx fun g3 O3 e3=>wpAny_bind (wpAny_letGo (wpAny_pure ?_)))));have e3:Heap.SameBut TO g2 g3:=e3;refine wpAny_bind (wpAny_bind (wpAny_onRaise ?_));show wpAny (model prog w) A (Builtin.SmallTypes.nextOf (.ref i2) >>= _) _ _ _;refine wpAny_bind (Gq hd (h2.at fun o q=>(e3.2 _ D.a9.symm).trans ((e2.2 _ D.b1.symm).trans ((e1.2 _ D.a4).trans q))) (q2.at fun o q=>(e3.2 _ O2.c2).trans ((e2.2 _ O2.c3).trans ((e1.2 _ O2.c1).trans q))) hy fun g4 e e4 he=>?_);obtain⟨oe,sO,ce⟩:=he;have z4:IsZip g4 z TI TO .ellipsis:=e4 _ _ D.a4.symm ((e3.2 _ D.a2.symm).trans ((e2.2 _ D.a3.symm).trans z1));have nz:e≠z:=by
      rintro rfl;rw[z4] at sO;cases sO;injection ce with ce
      exact absurd ce (by decide)
    exact wpAny_setField_rec z4 (by simp) fun g5 _ e5=>hE g5 e (fun c o c1 c2 c3 c4 q=>(e5.2 c c1).trans (e4 c o c4 ((e3.2 c c2).trans ((e2.2 c c3).trans ((e1.2 c c1).trans q))))) ⟨oe,(e5.2 e nz).trans sO,ce⟩
end
section
variable {prog:Program}{w:World}{A:Around}{E:Value->Shared->Prop}{s:Shared}{z TI TO i1 i2 l1 l2:Addr}{k1 k2:Nat}{xs ys:Array Value}{x y a b:Value}{t1 t2:Bool}
theorem NV {Q:Option Value->Shared->Prop}(D:vc z TI TO i1 i2) (O1:ig l1 z TO i1 i2) (O2:ig l2 z TO i1 i2)
    (hz:IsZip s.heap z TI TO .none) (hI:IsPair s.heap TI (.ref i1) (.ref i2)) (hO:IsPair s.heap TO a b) (h1:gB t1 s.heap i1 l1 k1) (h2:gB t2 s.heap i2 l2 k2) (q1:gJ t1 s.heap l1 xs) (q2:gJ t2 s.heap l2 ys) (hx:xs[k1]? = some x) (hy:ys[k2]? = some y)
    (hQ:∀g,IsZip g z TI TO (rawInt s.heap.objs.size)->IsPair g TO x y->gB t1 g i1 l1 (k1+1)->gB t2 g i2 l2 (k2+1)->IsPair g s.heap.objs.size x y->
      (∀c o,c≠z->c≠TO->c≠i1->c≠i2->s.heap.get? c=some o->g.get? c=some o)->Q (some (.ref s.heap.objs.size)) { s with heap:=g }):wpAny (model prog w) A (pyNext (.ref z)) Q E s:=by
  have T:s.TypeIs (.ref z) "zip":=⟨_,hz,rfl⟩;unfold pyNext;exact wpAny_bind (wpAny_attempt (wpAny_callSpecial?_slot (name:=Str.ofString "__next__") T F.slot_zip_next (wpAny_call_entry F.slot_zip_next T F.entry_zip_next (NR D O1 O2 hz hI hO h1 h2 q1 q2 hx hy fun g r1 r2 r3 r4 r5 r6=>wpAny_pure (hQ g r1 r2 r3 r4 r5 r6)) (F.args_zip_next_1 _))))
theorem NW {Q:Option Value->Shared->Prop}(hd:A.handled=none) (D:vc z TI TO i1 i2) (O1:ig l1 z TO i1 i2) (O2:ig l2 z TO i1 i2)
    (hz:IsZip s.heap z TI TO .none) (hI:IsPair s.heap TI (.ref i1) (.ref i2)) (hO:IsPair s.heap TO a b) (h1:gB t1 s.heap i1 l1 k1) (h2:gB t2 s.heap i2 l2 k2) (q1:gJ t1 s.heap l1 xs) (q2:gJ t2 s.heap l2 ys) (nv:xs[k1]? = none\/ys[k2]? = none)
    (hQ:∀g,(∀c o,c≠z->c≠TO->c≠i1->c≠i2->s.heap.get? c=some o->g.get? c=some o)->Q none { s with heap:=g }):wpAny (model prog w) A (pyNext (.ref z)) Q E s:=by
  have T:s.TypeIs (.ref z) "zip":=⟨_,hz,rfl⟩;unfold pyNext;refine wpAny_bind (wpAny_attempt (wpAny_callSpecial?_slot (name:=Str.ofString "__next__") T F.slot_zip_next (wpAny_call_entry F.slot_zip_next T F.entry_zip_next (NU hd D O1 O2 hz hI hO h1 h2 q1 q2 nv fun g e hk he=>?_) (F.args_zip_next_1 _))));obtain⟨o,ho,c⟩:=he;exact wpAny_bind (wpAny_isInstance (T:="StopIteration") (b:=true) ⟨o,ho,c⟩ isSubtype_stop (wpAny_pure (hQ _ hk)))
theorem xy {b:Bool}{l:Addr}{items:Array Value}{Q:Value->Shared->Prop}(h:gJ b s.heap l items) (q:Q (.ref s.heap.objs.size) { s with heap:=s.heap.push { cls:=.type (Ag b),data:=.fields #[.ref l,.int 0 0] } }):wpAny (model prog w) A (pyIter (.ref l)) Q E s:=by
  cases b with
  | true=>exact wpAny_pyIter_tuple (show s.heap.IsTuple l items from h) q
  | false=>exact wpAny_pyIter_list (show s.heap.IsList l items from h) q
end
def ko (K:PySem.W.Frag) (b:Bool) (H:Hp) (a:Addr) (xs:List V):Prop:=if b=true then aD K H a xs else ak K H a xs
section
variable {X:Cx}{pins:List (Addr×Obj)}{σ:St}{H:Hp}{s:Shared}{a:Addr}{xs ys:List V}
theorem Inv.sq {b:Bool}(I:Inv X pins σ H s) (h:ko X.K b H a xs):∃its:List Value,Vals xs its/\gJ b s.heap a its.toArray:=by
  cases b with
  | true=>
    obtain⟨its,r,p,_⟩:=I.tuple (show aD X.K H a xs from h);exact⟨its,r,p⟩
  | false=>
    obtain⟨its,r,p,_⟩:=I.list (show ak X.K H a xs from h);exact⟨its,r,p.isList⟩
theorem Inv.ny {b:Bool}(I:Inv X pins σ H s) (h:ko X.K b H a xs) (h':ko X.K b H a ys):xs=ys:=by
  cases b with
  | true=>exact I.gF (show aD X.K H a xs from h) h'
  | false=>exact I.dB (show ak X.K H a xs from h) h'
theorem Inv.off {b:Bool}{c:Addr}(I:Inv X pins σ H s) (h:ko X.K b H a xs) (f:cg X pins H c):a≠c:=by
  have rd:∀u,Rd H a u->a≠c:=fun u q=>by
    rcases q with q | ⟨o,q⟩
    · exact cI q f.1
    · exact cI q f.1
  have kk:∀o,X.K.lookup a=some o->a≠c:=fun o q=>by
    have e:=I.ok.mod.uG a o q;rintro rfl;rcases f.2.2.2.1 with z | z
    · exact I.ok.jN a o e z
    · exact absurd (Nat.lt_of_lt_of_le (Nat.lt_of_lt_of_le (Heap.lt_size e) I.ok.mj) z) (Nat.lt_irrefl _)
  cases b with
  | true=>
    rcases show aD X.K H a xs from h with q | ⟨o,_,_,q,_⟩
    · exact rd _ q
    · exact kk o q
  | false=>
    rcases show ak X.K H a xs from h with q | ⟨o,_,_,q,_⟩
    · exact rd _ q
    · exact kk o q
end
def Ah (K:PySem.W.Frag) (b1 b2:Bool) (l1 l2:Addr):It:=
  ⟨fun i H=>∃xs ys x y,ko K b1 H l1 xs/\ko K b2 H l2 ys/\xs[i]? = some x/\ys[i]? = some y,
   fun i H v H'=>∃T x y,H T=none/\v = .ref T/\H'=upd H T (.tup [x,y])/\∀xs ys,ko K b1 H l1 xs->ko K b2 H l2 ys->xs[i]? = some x/\ys[i]? = some y,
   fun i H=>∃xs ys,ko K b1 H l1 xs/\ko K b2 H l2 ys/\(xs.length<=i\/ys.length<=i)⟩
theorem NX {P:Program}{w:World}{K:PySem.W.Frag}{elts:List Expr}{ct:Nat}{pos:Pos}{b1 b2:Bool}{l1 l2 z TI TO i1 i2:Addr}(D:vc z TI TO i1 i2) :
    Turn P w K (.Tuple elts ct pos) (Ah K b1 b2 l1 l2) [z,TI,TO,i1,i2] z (fun i h=>IsZip h z TI TO .none/\IsPair h TI (.ref i1) (.ref i2)/\(∃a b,IsPair h TO a b)/\gB b1 h i1 l1 i/\gB b2 h i2 l2 i) where
  mem:=by simp
  obj:=fun i h q b hb=>by
    obtain⟨hz,hI,⟨a,c,hO⟩,h1,h2⟩:=q;obtain⟨o1,g1,_,d1⟩:=h1.obj;obtain⟨o2,g2,_,d2⟩:=h2.obj;simp only [List.mem_cons,List.not_mem_nil,or_false] at hb;rcases hb with rfl | rfl | rfl | rfl | rfl
    · exact⟨_,hz,fun v z=>by cases z⟩
    · exact⟨_,hI,fun v z=>by cases z⟩
    · exact⟨_,hO,fun v z=>by cases z⟩
    · exact⟨_,g1,fun v z=>by rw[d1] at z;cases z⟩
    · exact⟨_,g2,fun v z=>by rw[d2] at z;cases z⟩
  keep:=fun i h h' q k=>by
    obtain⟨hz,hI,⟨a,c,hO⟩,h1,h2⟩:=q;exact⟨k z (by simp) _ hz,k TI (by simp) _ hI,⟨a,c,k TO (by simp) _ hO⟩,h1.at fun o x=>k i1 (by simp) o x,h2.at fun o x=>k i2 (by simp) o x⟩
  item:=by
    intro X hP hw hK hc i pins s σ H E I hf q hg;subst hP hw hK;obtain⟨xs,ys,x,y,s1,s2,hx,hy⟩:=hg;obtain⟨hz,hI,⟨a,c,hO⟩,h1,h2⟩:=q;obtain⟨Gr,r1,g1⟩:=I.sq s1;obtain⟨Gs,r2,g2⟩:=I.sq s2;obtain⟨u,hu,ru⟩:=r1.get hx;obtain⟨v,hv,rv⟩:=r2.get hy;have sP:ig l1 z TO i1 i2:=⟨I.off s1 (hf z (by simp)),I.off s1 (hf TO (by simp)),I.off s1 (hf i1 (by simp)),I.off s1 (hf i2 (by simp))⟩;have sQ:ig l2 z TO i1 i2:=⟨I.off s2 (hf z (by simp)),I.off s2 (hf TO (by simp)),I.off s2 (hf i1 (by simp)),I.off s2 (hf i2 (by simp))⟩;have lt:∀b o,s.heap.get? b=some o->b≠s.heap.objs.size:=fun b o e=>Nat.ne_of_lt (Heap.lt_size e)
    refine NV D sP sQ hz hI hO h1 h2 g1 g2 (x:=u) (y:=v) (by simpa using hu) (by simpa using hv) fun g z' O' j1 j2 T' kk=>⟨_,rfl,?_⟩
    have fn:∀b∈[z,TI,TO,i1,i2],upd H s.heap.objs.size (.tup [x,y]) b=none:=fun b hb=>by
      have xw:b≠s.heap.objs.size:=by
        obtain⟨o1,e1,_⟩:=h1.obj;obtain⟨o2,e2,_⟩:=h2.obj;simp only [List.mem_cons,List.not_mem_nil,or_false] at hb;rcases hb with rfl | rfl | rfl | rfl | rfl
        · exact lt _ _ hz
        · exact lt _ _ hI
        · exact lt _ _ hO
        · exact lt _ _ e1
        · exact lt _ _ e2
      rw[aJ xw];exact (hf b hb).1
    have I1:Inv X pins σ (upd H s.heap.objs.size (.tup [x,y])) { s with heap:=g,toks:=s.toks }:=
      I.ji (ch:=[z,TO,i1,i2]) (o:=.tup [x,y]) (fun b o hb q=>kk b o (fun e=>hb (by simp[e])) (fun e=>hb (by simp[e])) (fun e=>hb (by simp[e])) (fun e=>hb (by simp[e])) q)
        (fun b hb=>hf b (by simp only [List.mem_cons,List.not_mem_nil,or_false] at hb ⊢;rcases hb with h | h | h | h<;>simp[h])) (Nat.le_refl _) ⟨(by show 2<=sizeLine;decide),[u,v],.cons ru (.cons rv .nil),_,T',rfl,_,rfl⟩
    refine wpAny_letOwnedTupleGo_zip z' fun g2 z2 e2=>?_
    have I2:=I1.gk (t':=s.toks) (h':=g2) (ch:=[z]) (fun b o hb q=>(e2.2 b (fun e=>hb (by simp[e]))).trans q) (fun b hb=>by
      rw[List.mem_singleton] at hb;subst hb;exact⟨fn _ (by simp),(hf _ (by simp)).2⟩)
    have NY:IsPair g TI (.ref i1) (.ref i2):=kk TI _ D.a1 D.a5 D.a6 D.a7 hI;exact⟨.ref s.heap.objs.size,_,I2,rfl,⟨_,x,y,I.aF.fresh (Nat.le_refl _),rfl,rfl,fun NZ ql p1 p2=>⟨by rw[I.ny p1 s1];exact hx,by rw[I.ny p2 s2];exact hy⟩⟩,
      ⟨z2,(e2.2 _ D.a1).trans NY,⟨_,_,(e2.2 _ D.a2).trans O'⟩,j1.at fun o q=>(e2.2 _ D.a3).trans q,j2.at fun o q=>(e2.2 _ D.a4).trans q⟩,fn⟩
  done:=by
    intro X hP hw hK hc i pins s σ H E I hf q hg;subst hP hw hK;obtain⟨xs,ys,s1,s2,nv⟩:=hg;obtain⟨hz,hI,⟨a,c,hO⟩,h1,h2⟩:=q;obtain⟨Gr,r1,g1⟩:=I.sq s1;obtain⟨Gs,r2,g2⟩:=I.sq s2;have Yz:=r1.length;have YA:=r2.length;have sP:ig l1 z TO i1 i2:=⟨I.off s1 (hf z (by simp)),I.off s1 (hf TO (by simp)),I.off s1 (hf i1 (by simp)),I.off s1 (hf i2 (by simp))⟩;have sQ:ig l2 z TO i1 i2:=⟨I.off s2 (hf z (by simp)),I.off s2 (hf TO (by simp)),I.off s2 (hf i1 (by simp)),I.off s2 (hf i2 (by simp))⟩;refine NW (I.ok.hd hc) D sP sQ hz hI hO h1 h2 g1 g2 ?_ fun g kk=>⟨rfl,I.gk (t':=s.toks) (ch:=[z,TO,i1,i2]) (fun b o hb q=>kk b o (fun e=>hb (by simp[e])) (fun e=>hb (by simp[e])) (fun e=>hb (by simp[e])) (fun e=>hb (by simp[e])) q)
        (fun b hb=>hf b (by simp only [List.mem_cons,List.not_mem_nil,or_false] at hb ⊢;rcases hb with h | h | h | h<;>simp[h]))⟩
    rcases nv with h | h
    · exact .inl (by simp;omega)
    · exact .inr (by simp;omega)
  self:=fun _ _ _ _ _ q h=>wpAny_pyIter_zip q.1 h
open Sem (wp)
def kK (b:Bool) (l:Addr):Obj:={ cls:=.type (Ag b),data:=.fields #[.ref l,.int 0 0] }
def vd (h:Heap) (b1:Bool) (l1:Addr):Heap:=h.push (kK b1 l1)
def sR (h:Heap) (b1 b2:Bool) (l1 l2:Addr):Heap:=(vd h b1 l1).push (kK b2 l2)
def sS (h:Heap) (b1 b2:Bool) (l1 l2:Addr):Heap:=(sR h b1 b2 l1 l2).push { cls:=.type "tuple",data:=.seq #[.ref h.objs.size,.ref (vd h b1 l1).objs.size] }
def ve (h:Heap) (b1 b2:Bool) (l1 l2:Addr):Heap:=(sS h b1 b2 l1 l2).push { cls:=.type "tuple",data:=.seq #[.none,.none] }
def nA (h:Heap) (b1 b2:Bool) (l1 l2:Addr):Heap:=(ve h b1 b2 l1 l2).push { cls:=.type "zip",data:=.fields #[.none,.bool false,.bool false,.ref (sR h b1 b2 l1 l2).objs.size,.ref (sS h b1 b2 l1 l2).objs.size] }
theorem gJ.push {b:Bool}{h:Heap}{a:Addr}{items:Array Value}(q:gJ b h a items) (o:Obj):gJ b (h.push o) a items:=q.at fun _ e=>Heap.get?_push_of_some _ e
theorem N1 (b1 b2:Bool) (l1 l2:Addr) (xs ys:Array Value) :
    Meets (Builtin.«zip.__new__» ⟨[.type "zip",.ref l1,.ref l2],[]⟩) (fun _ R s=>gJ b1 s.heap l1 xs/\gJ b2 s.heap l2 ys/\R (.ok (.ret (.ref (ve s.heap b1 b2 l1 l2).objs.size))) { s with heap:=nA s.heap b1 b2 l1 l2 }):=
  .of_wp fun prog w A R s h=>by
    obtain⟨hp,g,d,tk,os⟩:=s;obtain⟨q1,q2,h⟩:=h;have sub:=sub_zip;have a1:gJ b1 (Shared.heap ⟨hp,g,d,tk,os⟩) l1 xs:=q1;have a2:gJ b2 (Shared.heap ⟨hp.push { cls:=.type (Ag b1),data:=.fields #[.ref l1,.int 0 0] },g,d,tk,os⟩) l2 ys:=q2.push _
    wp_walk using xy a1,xy a2
    exact⟨_,rfl,h⟩
section
variable {prog:Program}{w:World}{A:Around}{E:Value->Shared->Prop}{s:Shared}
theorem N4 {b1 b2:Bool}{l1 l2:Addr}{xs ys:Array Value}{Q:Value->Shared->Prop}(q1:gJ b1 s.heap l1 xs) (q2:gJ b2 s.heap l2 ys)
    (h:∀g,IsZip g (s.heap.objs.size+4) (s.heap.objs.size+2) (s.heap.objs.size+3) .none->IsPair g (s.heap.objs.size+2) (.ref s.heap.objs.size) (.ref (s.heap.objs.size+1))->IsPair g (s.heap.objs.size+3) .none .none->
      gB b1 g s.heap.objs.size l1 0->gB b2 g (s.heap.objs.size+1) l2 0->(∀c o,s.heap.get? c=some o->g.get? c=some o)->Q (.ref (s.heap.objs.size+4)) { s with heap:=g }) :
    wpAny (model prog w) A (call (.type "zip") [.ref l1,.ref l2]) Q E s:=by
  refine callType_new F.called_zip (by decide) (F.typeCall_zip_2 _ _) (F.newCall_zip_2 _ _) (fun obj=>F.args_object_init_3 obj _ _) F.entry_zip_new (N1 b1 b2 l1 l2 xs ys) ⟨q1,q2,?_⟩;have n1:(vd s.heap b1 l1).objs.size=s.heap.objs.size+1:=Heap.size_push ..;have n2:(sR s.heap b1 b2 l1 l2).objs.size=s.heap.objs.size+2:=by unfold sR;rw[Heap.size_push,n1]
  have n3:(sS s.heap b1 b2 l1 l2).objs.size=s.heap.objs.size+3:=by unfold sS;rw[Heap.size_push,n2]
  have n4:(ve s.heap b1 b2 l1 l2).objs.size=s.heap.objs.size+4:=by unfold ve;rw[Heap.size_push,n3]
  have Gu:∀c o,(ve s.heap b1 b2 l1 l2).get? c=some o->(nA s.heap b1 b2 l1 l2).get? c=some o:=fun c o e=>Heap.get?_push_of_some _ e
  have Gv:∀c o,(sS s.heap b1 b2 l1 l2).get? c=some o->(nA s.heap b1 b2 l1 l2).get? c=some o:=fun c o e=>Gu c o (Heap.get?_push_of_some _ e)
  have Gw:∀c o,(sR s.heap b1 b2 l1 l2).get? c=some o->(nA s.heap b1 b2 l1 l2).get? c=some o:=fun c o e=>Gv c o (Heap.get?_push_of_some _ e)
  have up1:∀c o,(vd s.heap b1 l1).get? c=some o->(nA s.heap b1 b2 l1 l2).get? c=some o:=fun c o e=>Gw c o (Heap.get?_push_of_some _ e)
  have g5:IsZip (nA s.heap b1 b2 l1 l2) (s.heap.objs.size+4) (s.heap.objs.size+2) (s.heap.objs.size+3) .none:=by
    have:=Heap.get?_push_size (ve s.heap b1 b2 l1 l2) (o:={ cls:=.type "zip",data:=.fields #[.none,.bool false,.bool false,.ref (sR s.heap b1 b2 l1 l2).objs.size,.ref (sS s.heap b1 b2 l1 l2).objs.size] }) rfl;rw[n4,n2,n3] at this;unfold nA;rw[n2,n3];exact this
  have g4:IsPair (nA s.heap b1 b2 l1 l2) (s.heap.objs.size+3) .none .none:=by
    have:=Gu _ _ (Heap.get?_push_size (sS s.heap b1 b2 l1 l2) (o:={ cls:=.type "tuple",data:=.seq #[.none,.none] }) rfl)
    rwa [n3] at this
  have g3:IsPair (nA s.heap b1 b2 l1 l2) (s.heap.objs.size+2) (.ref s.heap.objs.size) (.ref (s.heap.objs.size+1)):=by
    have:=Gv _ _ (Heap.get?_push_size (sR s.heap b1 b2 l1 l2) (o:={ cls:=.type "tuple",data:=.seq #[.ref s.heap.objs.size,.ref (vd s.heap b1 l1).objs.size] }) rfl)
    rwa [n2,n1] at this
  have g2:=Gw _ _ (Heap.get?_push_size (vd s.heap b1 l1) (o:=kK b2 l2) rfl);rw[n1] at g2;have g1:=up1 _ _ (Heap.get?_push_size s.heap (o:=kK b1 l1) rfl);have mk:∀(b:Bool) (l i:Addr),(nA s.heap b1 b2 l1 l2).get? i=some (kK b l)->gB b (nA s.heap b1 b2 l1 l2) i l 0:=fun b l i e=>by
    cases b with
    | true=>exact⟨_,e,rfl,rfl⟩
    | false=>exact⟨_,e,rfl,rfl⟩
  show _/\_;rw[n4];exact⟨⟨_,g5,rfl⟩,h _ g5 g3 g4 (mk _ _ _ g1) (mk _ _ _ g2) fun c o e=>up1 c o (Heap.get?_push_of_some _ e)⟩
end
theorem N5 (n:Nat):vc (n+4) (n+2) (n+3) n (n+1):=
  ⟨fun h=>absurd (show (n+2:Nat)=n+4 from h) (by omega),fun h=>absurd (show (n+3:Nat)=n+4 from h) (by omega),fun h=>absurd (show (n:Nat)=n+4 from h) (by omega),fun h=>absurd (show (n+1:Nat)=n+4 from h) (by omega),fun h=>absurd (show (n+2:Nat)=n+3 from h) (by omega),
   fun h=>absurd (show (n+2:Nat)=n from h) (by omega),fun h=>absurd (show (n+2:Nat)=n+1 from h) (by omega),fun h=>absurd (show (n+3:Nat)=n from h) (by omega),fun h=>absurd (show (n+3:Nat)=n+1 from h) (by omega),fun h=>absurd (show (n:Nat)=n+1 from h) (by omega)⟩
def xA (K:PySem.W.Frag) (b1 b2:Bool) (ta:TA):TI:=fun σ H R=>ta σ H fun vs H1=>∃l1 l2 xs ys,vs = [.ref l1,.ref l2]/\ko K b1 H1 l1 xs/\ko K b2 H1 l2 ys/\R (Ah K b1 b2 l1 l2) H1
section
variable {X:Cx}
theorem N6 {elts:List Expr}{ct:Nat}{jq:Pos}{e1 e2:Expr}{ta:TA}{p pos:Pos}(b1 b2:Bool) (hg:Gl X "zip") (hm:X.mg "zip" = none) (ha:PA X [e1,e2] ta) (hs:starEach [e1,e2] X.env = [(false,eval e1 X.env),(false,eval e2 X.env)]:=by rfl) (jI:starEach [e2] X.env = [(false,eval e2 X.env)]:=by rfl) :
    PI X (.Tuple elts ct jq) (.Call (.Name "zip" p) [e1,e2] [] pos) (xA X.K b1 b2 ta):=by
  intro pins s σ H R I h;refine Call_ (uH I hg hm boot_zip (PyProof.Rows.callWith_type1 (aM (ha pos pins s σ H _ I h) fun us s1 aE=>?_) (by rw[hs,jI]) (by rw[jI];rfl)));obtain⟨vs,H1,I1,r1,q1⟩:=aE;obtain⟨l1,l2,xs,ys,rfl,sU,pC,q⟩:=q1;obtain⟨u1,u2,rfl,N7,N8⟩:=zF r1;cases N7;cases N8;obtain⟨Gr,YB,g1⟩:=I1.sq sU;obtain⟨Gs,YC,g2⟩:=I1.sq pC;refine N4 g1 g2 fun g z I' O' j1 j2 kk=>wpAny_pyIter_zip z ?_
  have f:∀k,cg X pins H1 (s1.heap.objs.size+k):=fun k=>I1.gY (Nat.le_add_right _ _) (I1.aF.fresh (Nat.le_add_right _ _))
  refine⟨s1.heap.objs.size+4,[s1.heap.objs.size+4,s1.heap.objs.size+2,s1.heap.objs.size+3,s1.heap.objs.size,s1.heap.objs.size+1],_,_,H1,rfl,I1.kept (t':=s1.toks) kk,NX (N5 _),⟨z,I',⟨_,_,O'⟩,j1,j2⟩,fun b hb=>?_,q⟩;simp only [List.mem_cons,List.not_mem_nil,or_false] at hb;rcases hb with rfl | rfl | rfl | rfl | rfl
  · exact f 4
  · exact f 2
  · exact f 3
  · exact f 0
  · exact f 1
end
def sV (it:Addr) (n:Int):Obj:={ cls:=.type "enumerate",data:=.fields #[.none,.bool false,.ref it,rawInt n,.none,.none] }
theorem N9 (a b:Value):checkTypeCall "enumerate" ⟨[a],[("start",b)]⟩=pure ():=by kernel_rfl
theorem Oa (a b:Value):checkBuiltinCall "enumerate.__new__" ⟨[.type "enumerate",a],[("start",b)]⟩=pure ():=by kernel_rfl
theorem Ob (b:Bool) (l:Addr) (xs:Array Value) (n:Int) (t:Tok) (hn:Builtin.SmallTypes.fitsIndex n=true) :
    Meets (Builtin.«enumerate.__new__» ⟨[.type "enumerate",.ref l],[("start",.int n t)]⟩) (fun _ R s=>gJ b s.heap l xs/\R (.ok (.ret (.ref (s.heap.push (kK b l)).objs.size))) { s with heap:=(s.heap.push (kK b l)).push (sV s.heap.objs.size n) }):=
  .of_wp fun prog w A R s h=>by
    obtain⟨hp,g,d,tk,os⟩:=s;obtain⟨q1,h⟩:=h;have sub:=sub_enumerate;have a1:gJ b (Shared.heap ⟨hp,g,d,tk,os⟩) l xs:=q1
    wp_walk using xy a1
    refine wpAny_stack_any (fun ri=>wpAny_pure ?_);split
    · rename_i c _ _ _ _ _;generalize (c == Value.type "enumerate")=short;cases short
      all_goals
        wp_walk using xy a1
        exact⟨_,rfl,h⟩
    · wp_walk using xy a1
      exact⟨_,rfl,h⟩
theorem Oc (a b c:Value):argsOk "object.__init__" ⟨[a,b],[("start",c)]⟩:=by
  unfold argsOk;rw[signature?_of (id:="object.__init__") (n:="__tini__".toList) (o:="tcejbo".toList) (by kernel_rfl) F.owner_object]
  kernel_rfl
theorem Od {self a b:Value}{k:Str}:Meets (Builtin.«object.__init__» ⟨[self,a],[(k,b)]⟩) (fun _ R s=>s.TypeIs self "enumerate"/\R (.ok (.ret .none)) s):=by
  refine Meets.of_wp fun prog w A R s hs=>?_
  obtain⟨hT,hq⟩:=hs;have hl:typeLookup (.type "enumerate") "__init__" = pure (some (.builtin "object.__init__")):=F.called_enumerate.init.lookup;have hm:=F.called_enumerate.made;have iL:(some "enumerate.__new__" != some "object.__new__")=true:=by decide
  repeat (any_goals first | wp_step | assumption)
  exact⟨_,rfl,hq⟩
section
variable {prog:Program}{w:World}{A:Around}{E:Value->Shared->Prop}{s:Shared}
theorem Oe {b:Bool}{l:Addr}{xs:Array Value}{n:Int}{t:Tok}{Q:Value->Shared->Prop}(hn:Builtin.SmallTypes.fitsIndex n=true) (q1:gJ b s.heap l xs)
    (h:∀g,IsEnum g (s.heap.objs.size+1) s.heap.objs.size n .none->gB b g s.heap.objs.size l 0->(∀c o,s.heap.get? c=some o->g.get? c=some o)->Q (.ref (s.heap.objs.size+1)) { s with heap:=g }) :
    wpAny (model prog w) A (call (.type "enumerate") [.ref l] [("start",.int n t)]) Q E s:=by
  have ft:=F.called_enumerate;obtain⟨c,tl,Of⟩:=ft.mro;have Gx:=ft.made;have Og:=ft.sub;have YD:=N9 (.ref l) (.int n t);refine wpAny_call (codeAny_of_tree ?_);show wpAny (model prog w) _ (callAny (.type "enumerate") _) _ _ _;refine wpAny_pure ⟨Code.quiet_builtin _ (by decide +kernel),codeAny_builtin F.entry_type_call ?_⟩;rw[Around.under_plain (weight_type_call_type "enumerate" [.ref l] [("start",.int n t)]) (units_type_call_type "enumerate" [.ref l] [("start",.int n t)])];have h1:=ft.notType;have h2:=ft.canCreate
  repeat (any_goals first | wp_step | assumption)
  have sz:(s.heap.push (kK b l)).objs.size=s.heap.objs.size+1:=Heap.size_push ..;have en:IsEnum ((s.heap.push (kK b l)).push (sV s.heap.objs.size n)) (s.heap.objs.size+1) s.heap.objs.size n .none:=by
    have:=Heap.get?_push_size (s.heap.push (kK b l)) (o:=sV s.heap.objs.size n) rfl
    rwa [sz] at this
  have Gy:((s.heap.push (kK b l)).push (sV s.heap.objs.size n)).get? s.heap.objs.size=some (kK b l):=Heap.get?_push_of_some _ (Heap.get?_push_size _ rfl);refine codeAny_mono (codeAny_call_builtin ft.plain F.entry_enumerate_new (wpAny_of_eq (Oa _ _) (Ob b l xs n t hn prog w A.in1
    (wants (fun obj s1=>obj = .ref (s.heap.objs.size+1)/\s1 = { s with heap:=(s.heap.push (kK b l)).push (sV s.heap.objs.size n) }) E) s ⟨q1,by rw[sz];exact⟨rfl,rfl⟩⟩))) fun r s1 hr=>?_
  cases r with
  | error e=>exact hr
  | ok fl=>
    cases fl with
    | ret obj=>
      obtain⟨rfl,rfl⟩:=hr;have hT:({ s with heap:=(s.heap.push (kK b l)).push (sV s.heap.objs.size n) }:Shared).TypeIs (.ref (s.heap.objs.size+1)) "enumerate":=⟨_,en,rfl⟩;have YE:=ft.init.lookup;have YF:=ft.init.bind (.ref (s.heap.objs.size+1))
      repeat (any_goals first | wp_step | assumption)
      refine codeAny_mono (codeAny_call_builtin ft.init.plain F.entry_object_init (ft.init.check _ _ _ _ _ _ _ _ hT (Oc _ _ _) (Od prog w A.in1 (wants (fun r s2=>r = .none/\s2 = { s with heap:=(s.heap.push (kK b l)).push (sV s.heap.objs.size n) }) E) _ ⟨hT,rfl,rfl⟩))) fun r2 s2 sW=>?_
      cases r2 with
      | error e=>exact sW
      | ok CC=>
        cases CC with
        | ret r=>
          obtain⟨rfl,rfl⟩:=sW
          repeat (any_goals first | wp_step | assumption)
          refine h _ en ?_ fun c o e=>Heap.get?_push_of_some _ (Heap.get?_push_of_some _ e)
          cases b with
          | true=>exact⟨_,Gy,rfl,rfl⟩
          | false=>exact⟨_,Gy,rfl,rfl⟩
        | _=>exact sW.elim
    | _=>exact hr.elim
end
def Gz (K:PySem.W.Frag) (n:Nat) (te:TE):TI:=fun σ H R=>te σ H fun x H1=>∃l xs,x = .ref l/\ak K H1 l xs/\R (u7 K l n) H1
section
variable {X:Cx}
theorem Oh {elts:List Expr}{ct:Nat}{jq:Pos}{e:Expr}{te:TE}{p pos kpos aY:Pos}{j:Nat}(n:Nat) (hn:Builtin.SmallTypes.fitsIndex (n:Int)=true) (hg:Gl X "enumerate") (hm:X.mg "enumerate" = none) (he:PE X e te)
    (hs:starEach [e] X.env = [(false,eval e X.env)]:=by rfl) :
    PI X (.Tuple elts ct jq) (.Call (.Name "enumerate" p) [e] [⟨some "start",.Constant (.int (n:Int)) j aY,kpos⟩] pos) (Gz X.K n te):=by
  intro pins s σ H R I h;refine wpAny_Call_Name_kw (uH I hg hm boot_enumerate ?_);refine PySem.W.callWith_of (P:=fun _=>True) (first:=[]) (by rw[hs];rfl) (fun h _=>⟨.machine,.inr (.inl rfl),fun _ _ _ _ _ q=>wpAny_pure q⟩) (PyProof.Rows.evalArgs_kw2 rfl ?_ hs);refine aM (za he zh hs pos pins s σ H (fun vs H1=>match vs with | [x]=>∃l xs,x = .ref l/\ak X.K H1 l xs/\R (u7 X.K l n) H1 | _=>False) I h) fun us s1 aE=>?_
  obtain⟨vs,H1,I1,r,q⟩:=aE
  match vs,q with
  | [x],q=>
    obtain⟨l,xs,rfl,hl,q⟩:=q;obtain⟨u,rfl,ru⟩:=jH r;cases ru;refine aM (Mu (nm:=some "start") (kpos:=kpos) (zr (i:=(n:Int)) (j:=j) (pos:=aY)) Mt pos pins s1 σ H1 (fun zs H2=>zs = [.int (n:Int)]/\H2=H1) I1 ⟨rfl,rfl⟩) fun ws s2 ⟨zs,H2,I2,rz,q2⟩=>⟨trivial,?_⟩
    obtain⟨rfl,rfl⟩:=q2;obtain⟨v,rfl,t,rfl⟩:=jH rz;obtain⟨its,r',g1⟩:=I2.sq (b:=false) hl;refine Oe hn g1 fun g en it kk=>wpAny_pyIter_enum en ?_
    have f:∀k,cg X pins H2 (s2.heap.objs.size+k):=fun k=>I2.gY (Nat.le_add_right _ _) (I2.aF.fresh (Nat.le_add_right _ _))
    refine⟨s2.heap.objs.size+1,[s2.heap.objs.size+1,s2.heap.objs.size],_,_,H2,rfl,I2.kept (t':=s2.toks) kk,NN l _ _ n (Nat.succ_ne_self _),⟨⟨_,en⟩,it⟩,fun b hb=>?_,q⟩;simp only [List.mem_cons,List.not_mem_nil,or_false] at hb;rcases hb with rfl | rfl
    · exact f 1
    · exact f 0
end
open Sem (wp)
def jd (h:Heap) (d:Addr) (es:Array DictEntry) (ep:Nat):Prop:=∃o,h.get? d=some o/\o.ExactDict/\o.data = .dict es ep
theorem jd.at {h h':Heap}{d:Addr}{es:Array DictEntry}{ep:Nat}(q:jd h d es ep) (k:∀o,h.get? d=some o->h'.get? d=some o):jd h' d es ep:=let ⟨o,ho,r⟩:=q;⟨o,k o ho,r⟩
theorem jd.typeIs {s:Shared}{d:Addr}{es:Array DictEntry}{ep:Nat}(q:jd s.heap d es ep):s.TypeIs (.ref d) "dict":=let ⟨o,ho,c,_⟩:=q;⟨o,ho,c.1⟩
section
variable {prog:Program}{w:World}{A:Around}{E:Value->Shared->Prop}{s:Shared}
theorem Oi {d:Addr}{es:Array DictEntry}{ep:Nat}{Q:Value->Shared->Prop}(hd:(d == sysModules)=false) (hm:jd s.heap d es ep)
    (hQ:Q (.ref s.heap.objs.size) { s with heap:=s.heap.push { cls:=.type "dict_keyiterator",data:=.fields #[.ref d,.int 0 0,.int es.size 0,.int ep 0] } }):wpAny (model prog w) A (pyIter (.ref d)) Q E s:=by
  obtain⟨o,ho,hc,xB⟩:=id hm;have T:s.TypeIs (.ref d) "dict":=hm.typeIs;refine wpAny_pyIter_slot T F.slot_dict_iter (wpAny_call_entry F.slot_dict_iter T F.entry_dict_iter ?_ (F.args_dict_iter_1 _));unfold Builtin.«dict.__iter__»;refine wpAny_bind ?_;unfold Builtin.Dict.dictSlotNone;refine wpAny_bind (wpAny_notOrdered_dict T ?_);show wpAny (model prog w) _ (pure (Value.ref d)) _ _ s;refine wpAny_pure ?_;show wpAny (model prog w) _ (Builtin.Dict.showsAll d >>= _) _ _ s;unfold Builtin.Dict.showsAll;rw[if_neg (by rw[hd];exact Bool.false_ne_true)];refine wpAny_bind (wpAny_pure (wpAny_bind (wpAny_dictEntries ho xB (wpAny_bind (wpAny_dictEpoch ho xB ?_)))));exact wpAny_bind (wpAny_newObj_type (wpAny_pure ⟨_,rfl,"dict_keyiterator",_,⟨_,Heap.get?_push_size _ rfl,rfl⟩,F.slot_dict_keyiterator_next.lookup,hQ⟩))
theorem Oj {it d:Addr}{i ep:Nat}{es:Array DictEntry}{e:DictEntry}{Q:Option Value->Shared->Prop}(hit:s.heap.IsKeyIter it d i es.size ep) (hm:jd s.heap d es ep) (hx:es[i]? = some e)
    (hQ:∀h1,h1.IsKeyIter it d (i+1) es.size ep->Heap.SameBut it s.heap h1->Q (some e.key) { s with heap:=h1 }):wpAny (model prog w) A (pyNext (.ref it)) Q E s:=by
  obtain⟨o,ho,hc,hd⟩:=id hit;obtain⟨od,xC,jo,xD⟩:=id hm;obtain⟨fz,he⟩:=Array.getElem?_eq_some_iff.mp hx;subst he;unfold pyNext;refine wpAny_bind (wpAny_attempt (wpAny_callSpecial?_slot (name:=Str.ofString "__next__") hit.typeIs F.slot_dict_keyiterator_next (wpAny_call_entry F.slot_dict_keyiterator_next hit.typeIs F.entry_dict_keyiterator_next ?_ (F.args_dict_keyiterator_next_1 _))));refine wpAny_bind (wpAny_pure (wpAny_bind (wpAny_bind ?_)));refine wpAny_bind (wpAny_typeNameOfWhole_keyiter hit.typeIs (wpAny_pure (wpAny_bind (wpAny_fieldsOf ho hd ?_))));have own:Builtin.Dict_items.ownsTuple "dict_keyiterator" = false:=by decide
  simp only [own,Bool.false_eq_true,if_false];show wpAny (model prog w) _ (if (Value.ref d == Value.none)=true then _ else _) _ _ s;rw[if_neg (show ¬((Value.ref d == Value.none)=true) from Bool.false_ne_true)];refine wpAny_bind (wpAny_pure (wpAny_bind (wpAny_dictEntries xC xD ?_)));rw[if_neg (by simp)];refine wpAny_bind (wpAny_pure (wpAny_bind (wpAny_dictEpoch xC xD ?_)));rw[if_neg (by simp)];refine wpAny_pure ?_;simp only [show ¬((i:Int)<0) from by omega,if_false,Int.toNat_natCast,Array.getElem?_eq_getElem fz];refine wpAny_bind (wpAny_bind (wpAny_typeNameOfWhole_keyiter hit.typeIs (wpAny_pure (wpAny_bind (wpAny_isOneOf_keyiter hit.typeIs ?_)))));show wpAny (model prog w) _ (setField (.ref it) 1 (rawInt ((i:Int)+1)) >>= _) _ _ s;refine wpAny_bind (wpAny_setField ho hd (by simp) ?_);have nx:(s.heap.update it (Obj.mapFields (·.setIfInBounds 1 (rawInt ((i:Int)+1))))).IsKeyIter it d (i+1) es.size ep:=
    ⟨_,Heap.get?_update_self _ ho (Obj.isFreed_of_fields (Obj.data_mapFields hd _)),(Obj.cls_mapFields ..).trans hc,by rw[Obj.data_mapFields hd];simp[rawInt]⟩
  refine wpAny_bind (wpAny_holding (wpAny_bind (wpAny_isOneOf_keyiter (s:={ s with heap:=s.heap.update it (Obj.mapFields (·.setIfInBounds 1 (rawInt ((i:Int)+1)))) }) nx.typeIs ?_)));show wpAny (model prog w) _ (pure es[i].key) _ _ _;exact wpAny_pure (wpAny_pure ⟨_,rfl,wpAny_pure (hQ _ nx (Heap.SameBut.update ..))⟩)
theorem Ol {it d:Addr}{i ep:Nat}{es:Array DictEntry}{Q:Option Value->Shared->Prop}(hh:A.handled=none) (hit:s.heap.IsKeyIter it d i es.size ep) (hm:jd s.heap d es ep) (hx:es.size<=i)
    (hQ:∀h1,Heap.ExtBut it s.heap h1->Q none { s with heap:=h1 }):wpAny (model prog w) A (pyNext (.ref it)) Q E s:=by
  obtain⟨o,ho,hc,hd⟩:=id hit;obtain⟨od,xC,jo,xD⟩:=id hm;unfold pyNext;refine wpAny_bind (wpAny_attempt (wpAny_callSpecial?_slot (name:=Str.ofString "__next__") hit.typeIs F.slot_dict_keyiterator_next (wpAny_call_entry F.slot_dict_keyiterator_next hit.typeIs F.entry_dict_keyiterator_next ?_ (F.args_dict_keyiterator_next_1 _))));refine wpAny_bind (wpAny_pure (wpAny_bind (wpAny_bind ?_)));refine wpAny_bind (wpAny_typeNameOfWhole_keyiter hit.typeIs (wpAny_pure (wpAny_bind (wpAny_fieldsOf ho hd ?_))));have own:Builtin.Dict_items.ownsTuple "dict_keyiterator" = false:=by decide
  simp only [own,Bool.false_eq_true,if_false];show wpAny (model prog w) _ (if (Value.ref d == Value.none)=true then _ else _) _ _ s;rw[if_neg (show ¬((Value.ref d == Value.none)=true) from Bool.false_ne_true)];refine wpAny_bind (wpAny_pure (wpAny_bind (wpAny_dictEntries xC xD ?_)));rw[if_neg (by simp)];refine wpAny_bind (wpAny_pure (wpAny_bind (wpAny_dictEpoch xC xD ?_)));rw[if_neg (by simp)];refine wpAny_pure ?_;simp only [show ¬((i:Int)<0) from by omega,if_false,Int.toNat_natCast,Array.getElem?_eq_none hx];refine wpAny_bind (wpAny_bind (wpAny_typeNameOfWhole_keyiter hit.typeIs (wpAny_pure ?_)));show wpAny (model prog w) _ (setField (.ref it) 0 .none >>= _) _ _ s;refine wpAny_bind (wpAny_setField ho hd (by simp) ?_);show wpAny (model prog w) _ (newExc (.type "StopIteration") [] >>= _) _ _ _;refine wpAny_bind ?_;simp only [newExc,newTuple];refine wpAny_bind (wpAny_newObj_type (wpAny_bind (m:=firstArgMember _ _) (wpAny_of_eq (a:=Value.none) (by first | rfl | (simp only [firstArgMember];rfl)) (wpAny_newObj_type ?_ (by size_fits)))) (by size_fits));simp only [raiseNew];refine wpAny_bind (wpAny_handled ?_);rw[show A.in1.handled=none from hh];refine wpAny_bind (wpAny_pure (wpAny_throw ?_));exact wpAny_bind (wpAny_isInstance (T:="StopIteration") (b:=true) ⟨_,Heap.get?_push_size _ rfl,rfl⟩ isSubtype_stop (wpAny_pure (hQ _ (((Heap.SameBut.update ..).extBut.push _).push _))))
theorem Om (hh:A.handled=none) (I d:Addr) (iL:d≠I) (es:Array DictEntry) (ep:Nat) :
    Walks prog w A I [I,d] [I] es.size (fun i v=>∃e,es[i]? = some e/\v=e.key) (fun i h=>h.IsKeyIter I d i es.size ep/\jd h d es ep) where
  sub:=fun b hb=>by simp at hb;simp[hb]
  frame:=fun _ _ _ st hk=>⟨st.1.at fun o e=>hk I (by simp) o e,st.2.at fun o e=>hk d (by simp) o e⟩
  item:=fun i s Q E hi st hQ=>by
    have hx:es[i]? = some es[i]:=Array.getElem?_eq_getElem hi;exact Oj st.1 st.2 hx fun h1 Oo hs=>hQ _ h1 s.toks ⟨_,hx,rfl⟩ ⟨Oo,st.2.at fun o e=>(hs.2 d iL).trans e⟩ fun b o hb e=>(hs.2 b (fun h=>hb (by simp[h]))).trans e
  done:=fun s Q E st hQ=>Ol hh st.1 st.2 (Nat.le_refl _) fun h1 he=>hQ h1 s.toks fun b o hb e=>he b o (fun h=>hb (by simp[h])) e
  self:=fun _ _ _ _ st hQ=>wpAny_pyIter_keyiter st.1 hQ
theorem Oq {d:Addr}{Q:Bool->Shared->Prop}(T:s.TypeIs (.ref d) "dict") (hq:Q false s):wpAny (model prog w) A (Builtin.List.listLengthHint (.ref d)) Q E s:=by
  unfold Builtin.List.listLengthHint;refine wpAny_bind (wpAny_specialOf T F.slot_dict_len.lookup ?_);have e:splitId "dict.__len__" = some ("dict","__len__"):=by kernel_rfl
  simp only [e];have sub:isSubtype (.type "dict") (.type "dict")=pure true:=by rw[isSubtype_type];kernel_rfl
  exact wpAny_bind (wpAny_isInstance (T:="dict") (b:=true) T sub (wpAny_bind (wpAny_typeOf T (wpAny_pure hq))))
theorem Ot {d:Addr}{Q:Bool->Shared->Prop}(T:s.TypeIs (.ref d) "dict_values") (hq:Q false s):wpAny (model prog w) A (Builtin.List.listLengthHint (.ref d)) Q E s:=by
  unfold Builtin.List.listLengthHint;refine wpAny_bind (wpAny_specialOf T F.slot_dict_values_len.lookup ?_);have e:splitId "dict_values.__len__" = some ("dict_values","__len__"):=by kernel_rfl
  simp only [e];have sub:isSubtype (.type "dict_values") (.type "dict_values")=pure true:=by rw[isSubtype_type];kernel_rfl
  exact wpAny_bind (wpAny_isInstance (T:="dict_values") (b:=true) T sub (wpAny_bind (wpAny_typeOf T (wpAny_pure hq))))
end
section
variable {prog:Program}{w:World}{A:Around}{s:Shared}{R:Result->Shared->Prop}{I:Addr}{fp wr:List Addr}{n:Nat}{P:Nat->Value->Prop}{St:Nat->Heap->Prop}
theorem GA (W:Walks prog w A.in1 I fp wr n P St) (hn:n<=sizeLine) (S:Addr) (c:Nat) (i8:St 0 s.heap) (hS:S ∉ fp) (hl:s.heap.get? S=some { cls:=.type "list",data:=.seq #[] c })
    (hR:∀s1 acc c1,Moved (S::wr) (fun a b=>b=a) s s1->s1.heap.get? S=some { cls:=.type "list",dict:=none,data:=.seq acc c1,slots:=#[] }->ItemsOf P acc n->R (.ok (.ret .none)) s1) :
    wpAny (model prog w) A.in1 (rule "list.extend.makes-room" >>= fun _=>Builtin.List.listTouch (.ref S) >>= fun _=>again (.builtin "list.extend.loop" ⟨[.ref S,.ref I,.none],[]⟩))
      (fun fin s1=>match fin with | .done f=>R (.ok f) s1 | .again c1=>c1.quiet=true/\codeAny (model prog w) A c1 R s1) (fun e s1=>R (.error e) s1) s:=by
  refine wpAny_bind (wpAny_rule (wpAny_bind ?_));show wpAny (model prog w) A.in1 (updateSeq S (·.push .none) >>= fun _=>updateSeq S (·.pop)) _ _ _;refine wpAny_bind (wpAny_updateSeq hl rfl ?_);have l2:=Heap.get?_update_self (Obj.mapSeq (·.push Value.none)) hl rfl;refine wpAny_updateSeq (hz:=by seq_fits) l2 rfl ?_;have l3:=Heap.get?_update_self (Obj.mapSeq (·.pop)) l2 rfl;have fS:∀b o,b≠S->s.heap.get? b=some o->((s.heap.update S (Obj.mapSeq (·.push Value.none))).update S (Obj.mapSeq (·.pop))).get? b=some o:=fun b o hb e=>(Heap.get?_update_other _ _ (Ne.symm hb)).trans ((Heap.get?_update_other _ _ (Ne.symm hb)).trans e)
  refine wpAny_pure ⟨plainId_quiet F.plain_extend_loop _,codeAny_extend_loopS W.toS hn _ hS _ n 0 _ _ _ rfl (Nat.zero_le _) (W.toS.frame 0 s _ s.toks i8 (Nat.le_refl _) fun b hb o e=>fS b o (fun h=>hS (h▸hb)) e) l3 (ItemsOf.nil P) fun s1 acc c1 hm h1 h2=>?_⟩;have m0:Moved (S::wr) (fun (a b:Array GenState)=>b=a) s { s with heap:=(s.heap.update S (Obj.mapSeq (·.push Value.none))).update S (Obj.mapSeq (·.pop)) }:=⟨fun b o hb e=>fS b o (fun h=>hb (by simp[h])) e,rfl,rfl,rfl,Nat.le_refl _⟩;exact hR s1 acc c1 (Moved.trans (fun _ _ _ h1 h2=>h2.trans h1) m0 hm) h1 h2
end
section
variable {prog:Program}{w:World}{A:Around}{s:Shared}{R:Result->Shared->Prop}
theorem GB {S:Addr}{x:Value}(hl:s.heap.get? S=some { cls:=.type "list",data:=.seq #[] })
    (h:wpAny (model prog w) A.in1 (Builtin.List.listExtendWith (.ref S) x .none) (fun fin s1=>match fin with | .done f=>R (.ok f) s1 | .again c1=>c1.quiet=true/\codeAny (model prog w) A c1 R s1) (fun e s1=>R (.error e) s1)
      { s with heap:=s.heap.update S (Obj.mapSeq (fun _=>(#[]:Array Value))) }) :
    wpAny (model prog w) A.in1 (Builtin.«list.__init__» ⟨[.ref S,x],[]⟩) (fun fin s1=>match fin with | .done f=>R (.ok f) s1 | .again c1=>c1.quiet=true/\codeAny (model prog w) A c1 R s1) (fun e s1=>R (.error e) s1) s:=by
  show wpAny (model prog w) A.in1 (do let Ou ←Builtin.List.listItems (.ref S);Builtin.List.listUpdate (.ref S) (fun _=>#[]);letGo Ou.toList.reverse;Builtin.List.listExtendWith (.ref S) x .none) _ _ s;refine wpAny_bind ?_;unfold Builtin.List.listItems;refine wpAny_bind (wpAny_seqItems hl rfl (wpAny_pure ?_));show wpAny (model prog w) A.in1 (updateSeq S (fun _=>#[]) >>= fun _=>letGo (#[]:Array Value).toList.reverse >>= fun _=>Builtin.List.listExtendWith (.ref S) x .none) _ _ s;exact wpAny_bind (wpAny_updateSeq hl rfl (wpAny_bind (wpAny_letGo h)))
end
section
variable {prog:Program}{w:World}{A:Around}{E:Value->Shared->Prop}{s:Shared}
theorem GC {d:Addr}{es:Array DictEntry}{ep:Nat}{Q:Value->Shared->Prop}(hh:A.handled=none) (hd:(d == sysModules)=false) (hm:jd s.heap d es ep) (hn:es.size<=sizeLine)
    (hQ:∀h1 acc c tk,(∀b o,s.heap.get? b=some o->h1.get? b=some o)->h1.get? s.heap.objs.size=some { cls:=.type "list",dict:=none,data:=.seq acc c,slots:=#[] }->ItemsOf (fun i v=>∃e,es[i]? = some e/\v=e.key) acc es.size->
      Q (.ref s.heap.objs.size) { s with heap:=h1,toks:=tk }):wpAny (model prog w) A (call (.type "list") [.ref d]) Q E s:=by
  have dl:d<s.heap.objs.size:=by obtain⟨o,ho,_⟩:=hm;exact Heap.lt_size ho
  refine callType_codes (Q₁:=fun obj s1=>obj = .ref s.heap.objs.size/\s1 = { s with heap:=s.heap.push { cls:=.type "list",data:=.seq #[] } }) F.called_list (F.typeCall_list_1 _) F.entry_list_init (code_list_new _ ⟨rfl,rfl⟩) fun obj s1 h1=>?_
  obtain⟨rfl,rfl⟩:=h1;have hS:(s.heap.push { cls:=.type "list",data:=.seq #[] }).get? s.heap.objs.size=some { cls:=.type "list",data:=.seq #[] }:=Heap.get?_push_size _ rfl;refine⟨⟨_,hS,rfl⟩,F.args_list_init_2 _ _,GB hS ?_⟩;have l2:=Heap.get?_update_self (Obj.mapSeq (fun _=>(#[]:Array Value))) hS rfl;have old:∀b o,s.heap.get? b=some o->((s.heap.push { cls:=.type "list",data:=.seq #[] }).update s.heap.objs.size (Obj.mapSeq (fun _=>(#[]:Array Value)))).get? b=some o:=fun b o e=>
    (Heap.get?_update_other _ _ (fun z=>Nat.lt_irrefl _ (z▸Heap.lt_size e))).trans (Heap.get?_push_of_some _ e)
  have qp:=hm.at (h':=(s.heap.push { cls:=.type "list",data:=.seq #[] }).update s.heap.objs.size (Obj.mapSeq (fun _=>(#[]:Array Value)))) fun o e=>old d o e
  have zu:((s.heap.push { cls:=.type "list",data:=.seq #[] }).update s.heap.objs.size (Obj.mapSeq (fun _=>(#[]:Array Value)))).objs.size=s.heap.objs.size+1:=by rw[Heap.size_update,Heap.size_push]
  generalize (s.heap.push { cls:=.type "list",data:=.seq #[] }).update s.heap.objs.size (Obj.mapSeq (fun _=>(#[]:Array Value)))=g at l2 old qp zu;have T:({ s with heap:=g }:Shared).TypeIs (.ref d) "dict":=qp.typeIs;unfold Builtin.List.listExtendWith;refine wpAny_bind (wpAny_typeOf T ?_);have sr:Builtin.List.listSameRef (.ref s.heap.objs.size) (.ref d)=false:=by
    have:s.heap.objs.size≠d:=Ne.symm (Nat.ne_of_lt dl);simp[Builtin.List.listSameRef,this]
  have t1:(Value.type "dict" == Value.type "list")=false:=by decide
  have t2:(Value.type "dict" == Value.type "tuple")=false:=by decide
  simp only [sr,t1,t2,Bool.or_false,Bool.false_eq_true,if_false];refine wpAny_bind (Oi (s:={ s with heap:=g }) hd qp ?_);have Ai:=qp.at (h':=g.push { cls:=.type "dict_keyiterator",data:=.fields #[.ref d,.int 0 0,.int es.size 0,.int ep 0] }) fun o e=>Heap.get?_push_of_some _ e
  refine wpAny_bind (wpAny_holding (Oq (s:={ s with heap:=g.push { cls:=.type "dict_keyiterator",data:=.fields #[.ref d,.int 0 0,.int es.size 0,.int ep 0] } }) Ai.typeIs ?_));have dI:d≠g.objs.size:=by rw[zu];exact Nat.ne_of_lt (Nat.lt_succ_of_lt dl)
  have SI:s.heap.objs.size ∉ [g.objs.size,d]:=by
    rw[zu];intro z;simp only [List.mem_cons,List.not_mem_nil,or_false] at z;rcases z with z | z
    · exact absurd z (Nat.ne_of_lt (Nat.lt_succ_self _))
    · exact absurd z (Ne.symm (Nat.ne_of_lt dl))
  refine GA (A:=A.in1) (s:={ s with heap:=g.push { cls:=.type "dict_keyiterator",data:=.fields #[.ref d,.int 0 0,.int es.size 0,.int ep 0] } }) (Om (A:=A.in1.in1) hh g.objs.size d dI es ep) hn _ _ ⟨⟨_,Heap.get?_push_size _ rfl,rfl,rfl⟩,Ai⟩ SI (Heap.get?_push_of_some _ l2) fun s2 acc c CD h2 h3=>?_
  obtain⟨hp,ge,dr,tk,os⟩:=s2;obtain⟨m1,m2,m3,m4,m5⟩:=CD;obtain rfl:ge=s.gens:=m2;obtain rfl:dr=s.drawn:=m3;obtain rfl:os=s.os:=m4;refine⟨rfl,hQ hp acc c tk (fun b o e=>m1 b o ?_ (Heap.get?_push_of_some _ (old b o e))) h2 h3⟩;intro z;have bl:=Heap.lt_size e;simp only [List.mem_cons,List.not_mem_nil,or_false] at z;rcases z with z | z
  · exact absurd bl (by rw[z];exact Nat.lt_irrefl _)
  · have z:b=g.objs.size:=z;rw[z,zu] at bl;exact absurd bl (Nat.not_lt_of_le (Nat.le_succ _))
theorem Ov {κ:Type} [DecidableEq κ] {knd:KeyKind prog w κ}{d v:Addr}{aq:List (κ×Value)}{Q:Value->Shared->Prop}(hh:A.handled=none) (hv:s.heap.IsValuesView v d) (hm:s.heap.DictOf knd d aq) (hn:aq.length<=sizeLine)
    (hQ:∀h1 acc c tk,(∀b o,s.heap.get? b=some o->h1.get? b=some o)->h1.get? s.heap.objs.size=some { cls:=.type "list",dict:=none,data:=.seq acc c,slots:=#[] }->ItemsOf (fun i v=>∃k,aq[i]? = some (k,v)) acc aq.length->
      Q (.ref s.heap.objs.size) { s with heap:=h1,toks:=tk }):wpAny (model prog w) A (call (.type "list") [.ref v]) Q E s:=by
  obtain⟨ep,hm⟩:=hm.dictAt;have dl:d<s.heap.objs.size:=hm.lt_size;have vl:v<s.heap.objs.size:=by obtain⟨o,ho,_⟩:=hv;exact Heap.lt_size ho
  refine callType_codes (Q₁:=fun obj s1=>obj = .ref s.heap.objs.size/\s1 = { s with heap:=s.heap.push { cls:=.type "list",data:=.seq #[] } }) F.called_list (F.typeCall_list_1 _) F.entry_list_init (code_list_new _ ⟨rfl,rfl⟩) fun obj s1 h1=>?_
  obtain⟨rfl,rfl⟩:=h1;have hS:(s.heap.push { cls:=.type "list",data:=.seq #[] }).get? s.heap.objs.size=some { cls:=.type "list",data:=.seq #[] }:=Heap.get?_push_size _ rfl;refine⟨⟨_,hS,rfl⟩,F.args_list_init_2 _ _,GB hS ?_⟩;have l2:=Heap.get?_update_self (Obj.mapSeq (fun _=>(#[]:Array Value))) hS rfl;have old:∀b o,s.heap.get? b=some o->((s.heap.push { cls:=.type "list",data:=.seq #[] }).update s.heap.objs.size (Obj.mapSeq (fun _=>(#[]:Array Value)))).get? b=some o:=fun b o e=>
    (Heap.get?_update_other _ _ (fun z=>Nat.lt_irrefl _ (z▸Heap.lt_size e))).trans (Heap.get?_push_of_some _ e)
  have qp:=hm.keep old;have Aj:((s.heap.push { cls:=.type "list",data:=.seq #[] }).update s.heap.objs.size (Obj.mapSeq (fun _=>(#[]:Array Value)))).IsValuesView v d:=let ⟨o,ho,r⟩:=hv;⟨o,old v o ho,r⟩
  have zu:((s.heap.push { cls:=.type "list",data:=.seq #[] }).update s.heap.objs.size (Obj.mapSeq (fun _=>(#[]:Array Value)))).objs.size=s.heap.objs.size+1:=by rw[Heap.size_update,Heap.size_push]
  generalize (s.heap.push { cls:=.type "list",data:=.seq #[] }).update s.heap.objs.size (Obj.mapSeq (fun _=>(#[]:Array Value)))=g at l2 old qp Aj zu;have T:({ s with heap:=g }:Shared).TypeIs (.ref v) "dict_values":=Aj.typeIs;unfold Builtin.List.listExtendWith;refine wpAny_bind (wpAny_typeOf T ?_);have sr:Builtin.List.listSameRef (.ref s.heap.objs.size) (.ref v)=false:=by
    have:s.heap.objs.size≠v:=Ne.symm (Nat.ne_of_lt vl);simp[Builtin.List.listSameRef,this]
  have t1:(Value.type "dict_values" == Value.type "list")=false:=by decide
  have t2:(Value.type "dict_values" == Value.type "tuple")=false:=by decide
  simp only [sr,t1,t2,Bool.or_false,Bool.false_eq_true,if_false];refine wpAny_bind (wpAny_pyIter_values (s:={ s with heap:=g }) Aj qp ?_);have Ai:=qp.push { cls:=.type "dict_valueiterator",data:=.fields #[.ref d,.int 0 0,.int aq.length 0,.int ep 0] };have Ow:(g.push { cls:=.type "dict_valueiterator",data:=.fields #[.ref d,.int 0 0,.int aq.length 0,.int ep 0] }).IsValuesView v d:=let ⟨o,ho,r⟩:=Aj;⟨o,Heap.get?_push_of_some _ ho,r⟩
  refine wpAny_bind (wpAny_holding (Ot (s:={ s with heap:=g.push { cls:=.type "dict_valueiterator",data:=.fields #[.ref d,.int 0 0,.int aq.length 0,.int ep 0] } }) Ow.typeIs ?_));have dI:d≠g.objs.size:=by rw[zu];exact Nat.ne_of_lt (Nat.lt_succ_of_lt dl)
  have SI:s.heap.objs.size ∉ [g.objs.size,d]:=by
    rw[zu];intro z;simp only [List.mem_cons,List.not_mem_nil,or_false] at z;rcases z with z | z
    · exact absurd z (Nat.ne_of_lt (Nat.lt_succ_self _))
    · exact absurd z (Ne.symm (Nat.ne_of_lt dl))
  refine GA (A:=A.in1) (s:={ s with heap:=g.push { cls:=.type "dict_valueiterator",data:=.fields #[.ref d,.int 0 0,.int aq.length 0,.int ep 0] } }) (Walks.dictValues (A:=A.in1.in1) hh g.objs.size d dI aq ep) hn _ _ ⟨⟨_,Heap.get?_push_size _ rfl,rfl,rfl⟩,Ai⟩ SI (Heap.get?_push_of_some _ l2) fun s2 acc c CD h2 h3=>?_
  obtain⟨hp,ge,dr,tk,os⟩:=s2;obtain⟨m1,m2,m3,m4,m5⟩:=CD;obtain rfl:ge=s.gens:=m2;obtain rfl:dr=s.drawn:=m3;obtain rfl:os=s.os:=m4;refine⟨rfl,hQ hp acc c tk (fun b o e=>m1 b o ?_ (Heap.get?_push_of_some _ (old b o e))) h2 h3⟩;intro z;have bl:=Heap.lt_size e;simp only [List.mem_cons,List.not_mem_nil,or_false] at z;rcases z with z | z
  · exact absurd bl (by rw[z];exact Nat.lt_irrefl _)
  · have z:b=g.objs.size:=z;rw[z,zu] at bl;exact absurd bl (Nat.not_lt_of_le (Nat.le_succ _))
end
theorem Vals.of_get:∀{xs:List V}{us:List Value},xs.length=us.length->(∀(i:Nat) x u,xs[i]? = some x->us[i]? = some u->RelV x u)->Vals xs us
  | [],[],_,_=>.nil
  | x::xs,u::us,hl,h=>.cons (h 0 x u rfl rfl) (Vals.of_get (by simpa using hl) fun i y v e1 e2=>h (i+1) y v (by simpa using e1) (by simpa using e2))
  | [],_::_,hl,_=>by simp at hl
  | _::_,[],hl,_=>by simp at hl
theorem Ox {k:Key}{v:Value}(h:qV k v=true):RelV (kV k) v:=by
  rcases nR h with ⟨i,t,rfl,rfl⟩ | ⟨x,t,rfl,rfl⟩
  · exact⟨t,rfl⟩
  · exact⟨t,rfl⟩
theorem Paired.get' {α β:Type}{F:α->β->Prop}:∀{mQ:List α}{mR:List β}{i:Nat}{a:α},Paired F mQ mR->mQ[i]? = some a->∃b,mR[i]? = some b/\F a b
  | _,_,_,_,.nil,e=>by simp at e
  | _,_,0,_,.cons r _,e=>by simp at e;subst e;exact⟨_,rfl,r⟩
  | _,_,i+1,a,.cons _ t,e=>by
    obtain⟨u,h1,h2⟩:=Paired.get' (i:=i) (a:=a) t (by simpa using e);exact⟨u,by simpa using h1,h2⟩
section
variable {X:Cx}
theorem CF {pins:List (Addr×Obj)}{σ:St}{H:Hp}{s:Shared}{Q:VK}{ys:List V}{h1:Heap}{acc:Array Value}{c tk:Nat}(I:Inv X pins σ H s) (kp:∀b o,s.heap.get? b=some o->h1.get? b=some o)
    (e:h1.get? s.heap.objs.size=some { cls:=.type "list",dict:=none,data:=.seq acc c,slots:=#[] }) (r:Vals ys acc.toList) (hz:ys.length<=sizeLine) (q:∀l,H l=none->Q (.ref l) (upd H l (.lst ys))):EP X pins σ Q (.ref s.heap.objs.size) { s with heap:=h1,toks:=tk }:=
  ⟨.ref s.heap.objs.size,_,I.laid (t':=tk) (o:=.lst ys) kp (Nat.le_refl _) ⟨hz,acc.toList,c,r,by simpa using e⟩,rfl,q _ (I.aF.fresh (Nat.le_refl _))⟩
theorem Oz (hc:X.calm=true):i9 X (.type "list") (fun xs H Q=>∃p aq,xs = [V.ref p]/\H p=some (.dK aq)/\∀l,H l=none->Q (.ref l) (upd H l (.lst (aq.map fun kv=>kV kv.1)))):=by
  intro pins s σ H xs us Q I r h;obtain⟨p,aq,rfl,hp,q⟩:=h;obtain⟨u,rfl,ru⟩:=jH r;cases ru;obtain⟨z,hd,vs,rel,o,es,ep,e,ex,dt,kk,pr,nd⟩:=I.aF p _ hp;have l1:aq.length=vs.length:=Paired.length rel;have l2:es.size=vs.length:=by rw[←pr.length];simp
  refine GC (I.ok.hd hc) hd ⟨o,e,ex,dt⟩ (by omega) fun h1 acc c tk kp el it=>CF I kp el (Vals.of_get ?_ fun i x v ex ev=>?_) (by rw[List.length_map];exact z) q
  · have:=it.1;simp only [List.length_map,Array.length_toList];omega
  · rw[List.getElem?_map] at ex;cases ek:aq[i]? with
    | none=>rw[ek] at ex;cases ex
    | some kv=>
      rw[ek] at ex;cases ex;obtain⟨en,sX,rfl⟩:=it.2 i v (by simpa using ev);obtain⟨w',hw,lQ⟩:=Paired.get' rel ek;have:=(pr.get? (e:=en) (k:=w'.1) (v:=w'.2) (by simpa using sX) (by rw[hw])).1;have e1:kv.1=w'.1:=lQ.1;show RelV (kV kv.1) en.key;rw[e1];exact Ox this
abbrev Ak (H:Hp):List Addr->List (List Key×V)->Prop:=Paired fun a kv=>H a=some (.tup (kv.1.map kV))
theorem GD {H:Hp}:∀{aq:List (List Key×V)}{ys:List (List Key×Addr×Value)},Paired (fun (p:List Key×V) (q:List Key×Addr×Value)=>p.1=q.1/\H q.2.1=some (.tup (p.1.map kV))/\RelV p.2 q.2.2) aq ys->Ak H (ys.map fun y=>y.2.1) aq
  | _,_,.nil=>.nil
  | _,_,.cons r t=>.cons r.2.1 (GD t)
theorem OA (hc:X.calm=true):i9 X (.type "list") (fun xs H Q=>∃p aq,xs = [V.ref p]/\H p=some (.dT aq)/\∀l as,Ak H as aq->H l=none->Q (.ref l) (upd H l (.lst (as.map V.ref)))):=by
  intro pins s σ H xs us Q I r h;obtain⟨p,aq,rfl,hp,q⟩:=h;obtain⟨u,rfl,ru⟩:=jH r;cases ru;obtain⟨z,hd,ys,rel,o,es,ep,e,ex,dt,he,nd⟩:=I.aF p _ hp;have l1:aq.length=ys.length:=Paired.length rel;have l2:es.size=ys.length:=by
    have:=congrArg List.length he;simpa using this
  have kt:Ak H (ys.map fun y=>y.2.1) aq:=GD rel;refine GC (I.ok.hd hc) hd ⟨o,e,ex,dt⟩ (by omega) fun h1 acc c tk kp el it=>CF (ys:=(ys.map fun y=>y.2.1).map V.ref) I kp el (Vals.of_get ?_ fun i x v ex ev=>?_) (by simp only [List.length_map];omega) fun l hl=>q l _ kt hl
  · have:=it.1;simp only [List.length_map,Array.length_toList];omega
  · obtain⟨en,sX,rfl⟩:=it.2 i v (by simpa using ev);have sX:es.toList[i]? = some en:=by simpa using sX
    rw[he,List.getElem?_map] at sX;rw[List.map_map,List.getElem?_map] at ex;cases ek:ys[i]? with
    | none=>rw[ek] at ex;cases ex
    | some y=>
      rw[ek] at ex sX;cases ex;cases sX;exact rfl
def Al (p d:Addr):HO:=.ext fun h=>h.IsValuesView p d
theorem OB:oV X "dict.values" (fun x xs H Q=>∃d aq,x=V.ref d/\xs = []/\H d=some (.dK aq)/\∀p,H p=none->Q (.ref p) (upd H p (Al p d))):=by
  intro pins s σ H x xs v us Q I rx rs h;obtain⟨d,aq,rfl,rfl,hd,q⟩:=h;cases rx;cases rs;obtain⟨z,hs,vs,rel,dd⟩:=I.aF d _ hd;refine call_meetsIn PySem.F.slot_dict_values dd.typeIs PySem.F.entry_dict_values (PySem.F.args_dict_values_1 _) (meets_dict_values (jF X.prog X.w) d hs) ⟨⟨vs,dd⟩,?_⟩;refine⟨.ref s.heap.objs.size,_,I.laid (t':=s.toks) (a:=s.heap.objs.size) (o:=Al s.heap.objs.size d) (fun b u e=>Heap.get?_push_of_some _ e) (Nat.le_refl _) ⟨⟨_,Heap.get?_push_size _ rfl,rfl,rfl⟩,⟨_,Heap.get?_push_size _ rfl⟩,fun h1 h2 ⟨o,ho,r⟩ k=>⟨o,k o ho,r⟩⟩,rfl,q _ (I.aF.fresh (Nat.le_refl _))⟩
theorem OC (hc:X.calm=true):i9 X (.type "list") (fun xs H Q=>∃p d aq,xs = [V.ref p]/\H p=some (Al p d)/\H d=some (.dK aq)/\∀l,H l=none->Q (.ref l) (upd H l (.lst (aq.map (·.2))))):=by
  intro pins s σ H xs us Q I r h;obtain⟨p,d,aq,rfl,hp,hd,q⟩:=h;obtain⟨u,rfl,ru⟩:=jH r;cases ru;obtain⟨z,hs,vs,rel,dd⟩:=I.aF d _ hd;obtain⟨hv,_,_⟩:=I.aF p _ hp;have l1:aq.length=vs.length:=Paired.length rel;refine Ov (I.ok.hd hc) hv dd (by omega) fun h1 acc c tk kp el it=>CF I kp el (Vals.of_get ?_ fun i x v ex ev=>?_) (by rw[List.length_map];exact z) q
  · have:=it.1;simp only [List.length_map,Array.length_toList];omega
  · rw[List.getElem?_map] at ex;cases ek:aq[i]? with
    | none=>rw[ek] at ex;cases ex
    | some kv=>
      rw[ek] at ex;cases ex;obtain⟨k,hk⟩:=it.2 i v (by simpa using ev);obtain⟨w',hw,lQ⟩:=Paired.get' rel ek;rw[hk] at hw;cases hw;exact lQ.2
end
def nB (K:PySem.W.Frag) (ad:Addr) (ws:List V):Prop:=∃(o:Obj) (its:Array Value) (n:Nat),K.lookup ad=some o/\o.cls = .type "tuple"/\o.data = .seq its n/\its.size<=sizeLine/\Vals ws its.toList
theorem nB.sq {K:PySem.W.Frag}{ad:Addr}{ws:List V}(h:nB K ad ws) (H:Hp):aD K H ad ws:=.inr h
inductive gS (w:World) (K:PySem.W.Frag):List DictEntry->List (Str×List V)->Prop where
  | nil:gS w K [] []
  | cons {k:Str}{t:Tok}{ad:Addr}{ws:List V}{es:List DictEntry}{l:List (Str×List V)}{od:Option Addr}{its:Array Value}{n:Nat}{sl:Array (Option Value)}(hl:K.lookup ad=some ⟨.type "tuple",od,.seq its n,sl⟩)
      (hz:its.size<=sizeLine) (hv:Vals ws its.toList) (r:gS w K es l):gS w K (⟨PyData.keyHash w.params k,.str k t,.ref ad⟩::es) ((k,ws)::l)
structure vf (w:World) (K:PySem.W.Frag) (a:Addr) (l:List (Str×List V)):Prop where
  ob:∃es ep,K.lookup a=some { cls:=.type "dict",data:=.dict es ep }/\gS w K es.toList l
  nm:(a == sysModules)=false
  nd:(l.map (·.1)).Nodup
theorem gS.pairs {P:Program}{w:World}{K:PySem.W.Frag}:∀{es:List DictEntry}{l:List (Str×List V)},gS w K es l->∃vs:List (Key×Value),Pairs (jF P w) es vs/\vs.map (·.1)=l.map (fun x=>(Sum.inr x.1:Key))/\
    (∀e∈es,∃k,(jF P w).is k e.key=true/\e.hash=(jF P w).hash k)/\∀x ws,(x,ws)∈l->∃ad,((Sum.inr x:Key),Value.ref ad)∈vs/\nB K ad ws
  | _,_,.nil=>⟨[],.nil,rfl,(fun e h=>nomatch h),(fun x ws h=>nomatch h)⟩
  | _,_,.cons (k:=k) (t:=t) (ad:=ad) hl hz hv r=>by
    obtain⟨vs,p,e1,e2,e3⟩:=gS.pairs (P:=P) r;refine⟨((Sum.inr k:Key),Value.ref ad)::vs,.cons (A7 P w k t) rfl p,by rw[List.map_cons,List.map_cons,e1],fun e h=>?_,fun x ws h=>?_⟩
    · rcases List.mem_cons.mp h with rfl | h
      · exact⟨Sum.inr k,A7 P w k t,rfl⟩
      · exact e2 e h
    · rcases List.mem_cons.mp h with h | h
      · cases h;exact⟨ad,List.mem_cons_self ..,_,_,_,hl,rfl,rfl,hz,hv⟩
      · obtain⟨OD,h1,h2⟩:=e3 x ws h;exact⟨OD,List.mem_cons_of_mem _ h1,h2⟩
theorem GF {κ:Type} [DecidableEq κ]:∀{vs:List (κ×Value)}{k:κ}{v:Value},(vs.map (·.1)).Nodup->(k,v)∈vs->valueAt vs k=some v
  | (k',v')::vs,k,v,nd,h=>by
    unfold valueAt;rw[List.map_cons,List.nodup_cons] at nd;rcases List.mem_cons.mp h with h | h
    · cases h;simp
    · have ne:k'≠k:=fun e=>nd.1 (List.mem_map.mpr ⟨_,h,e.symm⟩)
      rw[List.find?_cons_of_neg (by simpa using ne)];exact GF nd.2 h
theorem OE {κ:Type} [DecidableEq κ] {vs:List (κ×Value)}{k:κ}(h:k ∉ vs.map (·.1)):valueAt vs k=none:=by
  unfold valueAt;rw[Option.map_eq_none_iff,List.find?_eq_none];intro x hx e;exact h (List.mem_map.mpr ⟨x,hx,by simpa using e⟩)
section
variable {X:Cx}{pins:List (Addr×Obj)}{σ:St}{H:Hp}{s:Shared}
theorem vf.at {a:Addr}{l:List (Str×List V)}(D:vf X.w X.K a l) (I:Inv X pins σ H s):∃vs:List (Key×Value),s.heap.DictOf (jF X.prog X.w) a vs/\vs.map (·.1)=l.map (fun x=>(Sum.inr x.1:Key))/\∀x ws,(x,ws)∈l->∃ad,valueAt vs (Sum.inr x)=some (.ref ad)/\nB X.K ad ws:=by
  obtain⟨es,ep,hl,he⟩:=D.ob;obtain⟨vs,p,e1,e2,e3⟩:=he.pairs (P:=X.prog);have nd:(vs.map (·.1)).Nodup:=by
    rw[e1];have:=D.nd;unfold List.Nodup at this ⊢;rw[List.pairwise_map] at this ⊢;exact this.imp fun h z=>h (Sum.inr.inj z)
  refine⟨vs,⟨_,es,ep,I.cS a _ hl,⟨rfl,rfl,rfl⟩,rfl,fun e h=>e2 e (by simpa using h),p,nd⟩,e1,fun x ws h=>?_⟩;obtain⟨ad,h1,h2⟩:=e3 x ws h;exact⟨ad,GF nd h1,h2⟩
end
def CG (l:List (Str×List V)) (neg:Bool) (ty:TE):TE:=fun σ H Q=>ty σ H fun y H1=>∃x,y = .str x/\Q (.bl (if neg then !decide (x∈l.map (·.1)) else decide (x∈l.map (·.1)))) H1
def OF (K:PySem.W.Frag) (l:List (Str×List V)) (ty:TE):TE:=fun σ H Q=>ty σ H fun y H1=>∃x ws,y = .str x/\(x,ws)∈l/\∀ad,nB K ad ws->Q (.ref ad) H1
section
variable {X:Cx}{a:Addr}{l:List (Str×List V)}{g:Str}{e:Expr}{ty:TE}{p pos:Pos}
theorem OG {vs:List (Key×Value)}(e1:vs.map (·.1)=l.map (fun x=>(Sum.inr x.1:Key))) (x:Str):(valueAt vs (Sum.inr x:Key)).isSome=decide (x∈l.map (·.1)):=by
  have m:(Sum.inr x:Key)∈vs.map (·.1)↔x∈l.map (·.1):=by
    rw[e1];constructor
    · intro h;obtain⟨y,hy,e⟩:=List.mem_map.mp h;exact List.mem_map.mpr ⟨y,hy,Sum.inr.inj e⟩
    · intro h;obtain⟨y,hy,e⟩:=List.mem_map.mp h;exact List.mem_map.mpr ⟨y,hy,congrArg Sum.inr e⟩
  by_cases h:x∈l.map (·.1)
  · rw[decide_eq_true h];obtain⟨y,hy,e⟩:=List.mem_map.mp (m.mpr h);unfold valueAt;rw[Option.isSome_map,List.find?_isSome];exact⟨y,hy,by simpa using e⟩
  · rw[decide_eq_false h,OE (fun z=>h (m.mp z))];rfl
theorem GG (D:vf X.w X.K a l) (hg:Gl X g) (hm:X.mg g=some (.ref a)) (he:PE X e ty) (fF:(g == ("__debug__" : Str))=false:=by decide):PC X .NotIn e (.Name g p) (CG l true ty):=by
  intro pins s σ H Q I h;refine aM (he pins s σ H _ I h) fun iv s1 aE=>?_
  obtain⟨y,H1,I1,ry,q1⟩:=aE;obtain⟨x,rfl,q⟩:=q1;obtain⟨vs,dd,e1,_⟩:=D.at I1;refine nU I1 hg hm ?_ fF;refine wpAny_notIn_of (uS (k:=Sum.inr x) ry) D.nm dd.mapOf ?_;rw[OG e1];exact⟨.bl _,H1,I1.tok _,rfl,q⟩
theorem GH (D:vf X.w X.K a l) (hg:Gl X g) (hm:X.mg g=some (.ref a)) (he:PE X e ty) (hs:wB e) (fF:(g == ("__debug__" : Str))=false:=by decide):PE X (.Subscript (.Name g p) e pos) (OF X.K l ty):=by
  intro pins s σ H Q I h;refine MY PySem.F.slot_dict_getitem.lookup hs (nU I hg hm ?_ fF);refine aM (he pins s σ H _ I h) fun iv s1 aE=>?_
  obtain⟨y,H1,I1,ry,q1⟩:=aE;obtain⟨x,ws,rfl,hx,q⟩:=q1;obtain⟨vs,dd,e1,e2⟩:=D.at I1;obtain⟨ad,hv,kt⟩:=e2 x ws hx;exact⟨dd.typeIs,wpAny_getItem_of (uS (k:=Sum.inr x) ry) dd.mapOf hv ⟨.ref ad,H1,I1.tok _,rfl,q ad kt⟩⟩
end
def iM (K:PySem.W.Frag) (C:Addr) (qual m:Str) (st:Stmt) (ps:List Str):Prop:=
  ∃(f:Addr) (fd:FuncData),wG K m qual st f fd/\Meth K C m f/\∀us:List Value,us.length=ps.length->bindArgs fd ⟨us,[]⟩=pure (ps.zip us)
theorem bU {K:PySem.W.Frag}{C:Addr}{qual m:Str}{st:Stmt}{ps:List Str}{f:Addr}{oc kV dc pm cd ct:Value}{od an:Option Addr}{sl:Array (Option Value)}
    (hb:∀(kV doc pm:Value) (an:Option Addr) (ay ct:Value) (us:List Value),us.length=ps.length->bindArgs (PySem.W.fnOf m qual (rY st) (zj st) (zm st) .none kV doc pm an ay ct) ⟨us,[]⟩=pure (ps.zip us))
    (a:PySem.W.findIn K (.ref C) m=some (some (.ref f))) (l:K.lookup f=some ⟨oc,od,.func (PySem.W.fnOf m qual (rY st) (zj st) (zm st) .none kV dc pm an cd ct),sl⟩) (c:PySem.W.codeIn K cd qual=true) (k:PySem.W.keepIn K (.ref f)=true)
    (i:PySem.W.isFn K (.ref f)=true):iM K C qual m st ps:=⟨f,_,F0 l c k,⟨a,i,k⟩,fun us hl=>hb kV dc pm an cd ct us hl⟩
def cP (P:Program) (w:World) (K:PySem.W.Frag) (mg:Str->Option Value) (base:Heap) (C:Addr) (m:Str) (ps:List Str) (k:Nat) (sp:Sp):Prop:=
  ∃(f:Addr) (fd:FuncData),Meth K C m f/\(∀us:List Value,us.length=ps.length->bindArgs fd ⟨us,[]⟩=pure (ps.zip us))/\eg P w K mg base bJ k f fd ps sp
section
variable {P:Program}{w:World}{K:PySem.W.Frag}{mg:Str->Option Value}{base:Heap}
theorem iM.has {C:Addr}{qual m:Str}{st:Stmt}{N ps:List Str}{k:Nat}{sp:Sp}(D:iM K C qual m st ps) (S:aj N ps (zm st)) (len:∀vs H Q E,sp vs H Q E->vs.length=ps.length)
    (gg:∀(f:Addr) (ay:Value) (A:Around) (outer:List Env) (s:Shared) (H:Hp) (vs:List V) (Q:VK) (E:XK),aX k (A.deeper (envOfC qual (zm st) s.heap.objs.size f ay))->sp vs H Q E->
      ∃t,jm (aA bJ P w K mg base N qual (zm st) f ay A outer s H E).bX (zj st) t/\t { nx:=fun _ H'=>Q .aL H',rt:=Q } (start N vs) H):cP P w K mg base C m ps (k+1) sp:=by
  obtain⟨f,fd,F,a,b⟩:=D;obtain⟨oc,od,kV,doc,pm,an,ay,ct,fZ,e,lk,jo⟩:=id F.ex;exact⟨f,fd,a,b,F.ok S len (gg f)⟩
end
section
variable {X:Cx}{k:Nat}{ps:List Str}{sp:Sp}{C:Addr}{m x:Str}{p pos apos:Pos}{o e:Expr}{es:List Expr}{t:TA}{ta:TE}
theorem qt {pl:Sem Bool}(F:cP X.prog X.w X.K X.mg X.base C m ps k sp) (c:kD X.K C) (hr:aX k X.A) (he:PE X o ta) (ha:PA X (e::es) t)
    (i8:starEach (e::es) X.env=(false,eval e X.env)::starEach es X.env:=by rfl) (bY:(backTo pos (starEach es X.env)).any (·.1)=false:=by rfl)
    (ht:eval (.Call (.Attribute o m apos) (e::es) [] pos) X.env=(do
      let ov ←eval o X.env
      standAt apos.atName
      let (f,first) ←holding [ov] (getMethod ov m pl)
      callWith pos f first (backTo pos (starEach (e::es) X.env)) (backToKw pos (keywordEach [] X.env))):=by rfl) :
    PE X (.Call (.Attribute o m apos) (e::es) [] pos) (vZ C m sp [] E0 ta t):=by
  obtain⟨f,fd,a,b,G⟩:=F;exact Fl he c a G hr (.all b) .nil zX ha i8 bY ht
theorem GI {pl:Sem Bool}(F:cP X.prog X.w X.K X.mg X.base C m ps k sp) (c:kD X.K C) (hr:aX k X.A) (he:PE X o ta)
    (ht:eval (.Call (.Attribute o m apos) [] [] pos) X.env=(do
      let ov ←eval o X.env
      standAt apos.atName
      let (f,first) ←holding [ov] (getMethod ov m pl)
      callWith pos f first (backTo pos (starEach [] X.env)) (backToKw pos (keywordEach [] X.env))):=by rfl) :
    PE X (.Call (.Attribute o m apos) [] [] pos) (vZ C m sp [] E0 ta gZ):=by
  obtain⟨f,fd,a,b,G⟩:=F;exact Mq he c a G hr (.all b) .nil zX ht
theorem GJ (F:cP X.prog X.w X.K X.mg X.base C "__init__" ps k sp) (Am:PySem.W.makesIn X.K C=true) (hk:PySem.W.keepIn X.K (.ref C)=true) (hr:aX (k+1) X.A) (hg:Gl X x) (hm:X.mg x=some (.ref C)) (fF:(x == ("__debug__" : Str))=false:=by decide) :
    PE X (.Call (.Name x p) [] [] pos) (Fj C sp [] E0 gZ):=by
  obtain⟨f,fd,a,b,G⟩:=F;exact Ms ⟨Am,a.at_,a.fn,hk⟩ G hr hg hm (.all b) .nil zX fF
end
theorem GK {K:PySem.W.Frag}{b1 b2:Bool}{l1 l2:Addr}{xs ys:List V}{own:List Str}{ix:List Nat}{te:TE}{σ:St}{H1:Hp}{D:Addr}{Q:VK}(f:V->V->V) (hD:H1 D=none)
    (h1:∀H',aa H1 H'->ko K b1 H' l1 xs) (h2:∀H',aa H1 H'->ko K b2 H' l2 ys) (hl:xs.length=ys.length) (hz:xs.length<=sizeLine)
    (he:∀(i:Nat) x y,xs[i]? = some x->ys[i]? = some y->∀H' (Q':VK),aa H1 H'->(∀lD,aa H' lD->Q' (f x y) lD)->te (((ju own ix σ).set 0 (some x)).set 1 (some y)) H' Q')
    (hQ:∀H',aa H1 H'->H' D=some (.lst (List.zipWith f xs ys))->Q (.ref D) H'):qk own ix (Ah K b1 b2 l1 l2) (oK K 2 (vP (bM 0) (vP (bM 1) rE))) kJ te σ H1 D Q:=by
  refine⟨fun i m au zs H'=>m=xs.length-i/\i<=xs.length/\(∀z z',(au.set 0 z).set 1 z'=((ju own ix σ).set 0 z).set 1 z')/\zs=List.zipWith f (xs.take i) (ys.take i)/\aa H1 H'/\H' D=some (.lst zs),
    ⟨xs.length,by simp,Nat.zero_le _,fun _ _=>rfl,by simp,aa.new hD,zd⟩,?_⟩
  rintro i m au zs H' ⟨rfl,hi,wR,rfl,hs,sY⟩;refine⟨sY,?_⟩
  by_cases fz:i<xs.length
  · have sZ:i<ys.length:=by omega
    have ex:xs[i]? = some xs[i]:=List.getElem?_eq_getElem fz;have ey:ys[i]? = some ys[i]:=List.getElem?_eq_getElem sZ;refine .inr ⟨⟨xs,ys,xs[i],ys[i],h1 _ hs,h2 _ hs,ex,ey⟩,?_,fun v H2 y=>?_⟩
    · rw[List.length_zipWith,List.length_take,List.length_take];omega
    · obtain⟨T,x,y,hT,rfl,rfl,CH⟩:=y;obtain⟨e1,e2⟩:=CH xs ys (h1 _ hs) (h2 _ hs);have sT:=aa.new (o:=.tup [x,y]) hT;have sA:=hs.trans sT;refine⟨T,[x,y],rfl,aD.of zd,rfl,x,_,rfl,y,_,rfl,rfl,?_⟩;unfold kJ;dsimp only;rw[if_pos rfl,wR];refine he i x y e1 e2 _ _ sA fun lD nh=>⟨nh D _ (sT D _ sY),xs.length-(i+1),by omega,rfl,fz,fun z z'=>?_,?_,(sA.trans nh).upd hD,zd⟩
      · have:∀(l:St) (a b c d:Option V),((((l.set 0 a).set 1 b).set 0 c).set 1 d)=(l.set 0 c).set 1 d:=fun l a b c d=>by
          cases l with
          | nil=>rfl
          | cons p l=>
            cases l with
            | nil=>rfl
            | cons q l=>rfl
        exact this ..
      · rw[List.take_add_one,List.take_add_one,e1,e2,List.zipWith_append (by simp;omega)];rfl
  · have e:i=xs.length:=by omega
    subst e;refine .inl ⟨⟨xs,ys,h1 _ hs,h2 _ hs,.inl (Nat.le_refl _)⟩,hQ _ hs ?_⟩;rw[List.take_length,hl,List.take_length] at sY;exact sY
theorem tu {K:PySem.W.Frag}{h:Heap}{mg:Str->Option Value}{w:World}(X:K.In h) (G:h.Ns mainGlobals mg) {x:Str}{a:Addr}{es:Array DictEntry}{ep:Nat}{l:List (Str×List V)}(e:PySem.W.nsIn K mainGlobals x=some (some (.ref a)))
    (lk:K.lookup a=some { cls:=.type "dict",data:=.dict es ep }) (ke:gS w K es.toList l) (nm:(a == sysModules)=false) (nd:(l.map (·.1)).Nodup):∃a,mg x=some (.ref a)/\vf w K a l:=
  ⟨a,PySem.W.mg_of X G e,⟨es,ep,lk,ke⟩,nm,nd⟩
section
variable {X:Cx}(K:PySem.W.Frag) (h:X.K=K)
include h
theorem GL {elts:List Expr}{ct:Nat}{jq:Pos}{e:Expr}{te:TE}{p pos kpos aY:Pos}{j:Nat}(n:Nat) (hn:Builtin.SmallTypes.fitsIndex (n:Int)=true) (hg:Gl X "enumerate") (hm:X.mg "enumerate" = none) (he:PE X e te)
    (hs:starEach [e] X.env = [(false,eval e X.env)]:=by rfl) :
    PI X (.Tuple elts ct jq) (.Call (.Name "enumerate" p) [e] [⟨some "start",.Constant (.int (n:Int)) j aY,kpos⟩] pos) (Gz K n te):=h▸Oh n hn hg hm he hs
theorem GN {elts:List Expr}{ct:Nat}{jq:Pos}{e1 e2:Expr}{ta:TA}{p pos:Pos}(b1 b2:Bool) (hg:Gl X "zip") (hm:X.mg "zip" = none) (ha:PA X [e1,e2] ta) (hs:starEach [e1,e2] X.env = [(false,eval e1 X.env),(false,eval e2 X.env)]:=by rfl) (jI:starEach [e2] X.env = [(false,eval e2 X.env)]:=by rfl) :
    PI X (.Tuple elts ct jq) (.Call (.Name "zip" p) [e1,e2] [] pos) (xA K b1 b2 ta):=h▸N6 b1 b2 hg hm ha hs jI
end
theorem GO {K:PySem.W.Frag}{a:Addr}{n:Nat}{xs:List V}{g:TG}{tb:TS}{D:Ends}{σ:St}{H:Hp}(Pv:Nat->St->Hp->Prop) (h0:Pv 0 σ H) (hl:∀i σ H,i<=xs.length->Pv i σ H->ak K H a xs)
    (hs:∀i x σ H T,xs[i]? = some x->Pv i σ H->H T=none->g (.ref T) σ (upd H T (.tup [.int ((n+i:Nat):Int),x])) fun jR H2=>tb { D with nx:=Pv (i+1),ct:=Pv (i+1),bk:=D.nx } jR H2) (hd:∀σ H,Pv xs.length σ H->D.nx σ H) :
    ∃W:Nat->Nat->St->Hp->Prop,(∃m,W 0 m σ H)/\∀i m σ H,W i m σ H->
      ((u7 K a n).stop i H/\D.nx σ H)\/((u7 K a n).go i H/\∃N:St->Hp->Prop,(∀au H',N au H'->∃m',m'<m/\W (i+1) m' au H')/\∀x H',(u7 K a n).mV i H x H'->g x σ H' fun jR H2=>tb { D with nx:=N,ct:=N,bk:=D.nx } jR H2):=by
  refine⟨fun i m σ H=>m=xs.length-i/\i<=xs.length/\Pv i σ H,⟨xs.length,by simp,Nat.zero_le _,h0⟩,?_⟩;rintro i m σ H ⟨rfl,hi,p⟩;have q:=hl i σ H hi p
  by_cases fz:i<xs.length
  · refine .inr ⟨⟨xs,xs[i],q,by simp[fz]⟩,Pv (i+1),fun au H' p'=>⟨xs.length-(i+1),by omega,rfl,fz,p'⟩,fun x H' y=>?_⟩;obtain⟨T,z,hT,rfl,rfl,y⟩:=y;exact hs i z σ H T (y xs q) p hT
  · have e:i=xs.length:=by omega
    subst e;exact .inl ⟨⟨xs,q,Nat.le_refl _⟩,hd σ H p⟩
section
variable {X:Cx}
theorem GP (c:Nat):∀(n:Nat) (a:Array Nat),List.foldl (fun x y=>x++y) a (List.replicate n #[c])=a++(List.replicate n c).toArray
  | 0,a=>by simp
  | n+1,a=>by
    rw[List.replicate_succ,List.foldl_cons,GP c n,List.replicate_succ];apply Array.ext';simp
end
def CI (n i:Nat) (p:Prop):Prop:=∃m',m'<n-i/\m'=n-(i+1)/\i+1<=n/\p
theorem pD {n i:Nat}{p:Prop}(h:i<n) (q:p):CI n i p:=⟨n-(i+1),by omega,rfl,h,q⟩
theorem xE {α:Type}{xs:List α}{i:Nat}{x:α}(h:xs[i]? = some x):i<xs.length:=(List.getElem?_eq_some_iff.mp h).1
theorem xF {J:It}{xs:List V}{P:Hp->Prop}{own:List Str}{ix:List Nat}{g:TG}{tc:TT}{te:TE}{σ:St}{H1:Hp}{D:Addr}{Q:VK}(F:Fix J xs P)
    (R:Nat->St->List V->Hp->Prop) (h0:R 0 (ju own ix σ) [] (upd H1 D (.lst [])))
    (hP:∀i au ys H',R i au ys H'->P H'/\H' D=some (.lst ys)/\ys.length<=i) (hz:xs.length<=sizeLine)
    (hs:∀i x au ys H',xs[i]? = some x->R i au ys H'->g x au H' fun kB H3=>tc kB H3 fun b H4=>
      if b=true then te kB H4 fun y H5=>H5 D=some (.lst ys)/\CI xs.length i (R (i+1) kB (ys++[y]) (upd H5 D (.lst (ys++[y])))) else H4 D=some (.lst ys)/\CI xs.length i (R (i+1) kB ys H4))
    (hQ:∀au ys H',R xs.length au ys H'->Q (.ref D) H'):qk own ix J g tc te σ H1 D Q:=by
  refine⟨fun i m au ys H'=>m=xs.length-i/\i<=xs.length/\R i au ys H',⟨xs.length,by simp,Nat.zero_le _,h0⟩,?_⟩;rintro i m au ys H' ⟨rfl,hi,r⟩;obtain⟨p1,p2,p3⟩:=hP i au ys H' r;refine⟨p2,?_⟩
  by_cases fz:i<xs.length
  · refine .inr ⟨F.go i _ p1 fz,by omega,fun x H2 y=>?_⟩;obtain⟨e,y'⟩:=F.mV i _ x H2 p1 y;subst e;exact hs i x au ys _ (y' fz) r
  · have e:i=xs.length:=by omega
    subst e;exact .inl ⟨F.stop _ _ p1 (Nat.le_refl _),hQ au ys H' r⟩
end L2
namespace Dm
open PySem PySem.NumText
abbrev co (x:Str):List Nat:=x.cps.toList
theorem fT (x:Str):(co x).length=x.length:=by simp[Str.length]
theorem gC {x y:Str}(h:co x=co y):x=y:=by
  cases x with
  | mk a=>cases y with
    | mk b=>
      have:a=b:=by
        have h:a.toList=b.toList:=h;exact Array.toList_inj.mp h
      rw[this]
theorem GQ (l:List Nat):co ⟨l.toArray⟩=l:=by simp[co]
theorem OH (x:Str) (c:Nat):(0+1<=x.length&&Builtin.Str.subAt x ⟨#[c]⟩ 0)=decide ((co x).head? = some c):=by
  obtain⟨a⟩:=x;obtain⟨l⟩:=a;cases l with
  | nil=>simp[co,Str.length]
  | cons d r=>
    show (decide (0+1<=((d::r).toArray).size)&&(((d::r).toArray.extract 0 (0+1)) == #[c]))=decide ((d::r).head? = some c);have e1:decide (0+1<=((d::r).toArray).size)=true:=decide_eq_true (by simp);rw[e1,Bool.true_and];have e2:((d::r).toArray.extract 0 (0+1)) = #[d]:=by simp
    rw[e2]
    by_cases h:d=c
    · subst h;simp
    · have:¬(d::r).head? = some c:=by simp[h]
      rw[decide_eq_false this];simp[h]
theorem CJ (x:Str) (c:Nat):Txt.startswith x ⟨#[c]⟩=decide ((co x).head? = some c):=OH x c
def cV (n d:Nat):Option Int->Nat
  | none=>d
  | some i=>if i<0 then (max (i+(n:Int)) 0).toNat else min i.toNat n
theorem OI (l:List Nat) (i k:Nat):((List.range k).map fun m=>i+m).filterMap (fun j=>l[j]?)=(l.drop i).take k:=by
  induction k generalizing i with
  | zero=>simp
  | succ k ih=>
    rw[List.range_succ_eq_map,List.map_cons,List.map_map];have e:((List.range k).map ((fun m=>i+m) ∘ Nat.succ))=(List.range k).map fun m=>(i+1)+m:=by
      apply List.map_congr_left;intro a _;simp only [Function.comp,Nat.succ_eq_add_one];omega
    rw[e,List.filterMap_cons];simp only [Nat.add_zero];rw[ih (i+1)];cases h:l[i]? with
    | none=>
      have hl:l.length<=i:=List.getElem?_eq_none_iff.mp h;rw[List.drop_eq_nil_of_le hl,List.drop_eq_nil_of_le (by omega)];simp
    | some v=>
      obtain⟨hi,e⟩:=List.getElem?_eq_some_iff.mp h;rw[List.drop_eq_getElem_cons hi,List.take_succ_cons,e]
def An (n:Nat) (d:Int):Option Int->Int
  | none=>d
  | some i=>max 0 (min (if i<0 then i+(n:Int) else i) n)
theorem GR (n d:Nat) (hd:d<=n) (o:Option Int):An n d o=((cV n d o:Nat):Int):=by
  cases o with
  | none=>rfl
  | some i=>simp only [cV,An];split<;>omega
theorem OJ (n d:Nat) (hd:d<=n) (o:Option Int):cV n d o<=n:=by
  cases o with
  | none=>exact hd
  | some i=>simp only [cV];split<;>omega
theorem GS (lo hi:Option Int) (n:Nat):Builtin.Str.strSliceIndices lo hi 1 n=(List.range (cV n n hi-cV n 0 lo)).map fun m=>cV n 0 lo+m:=by
  have:Builtin.Str.strSliceIndices lo hi 1 n=sliceRange (An n 0 lo) (An n n hi) 1:=by
    cases lo<;>cases hi<;>rfl
  rw[this,show (0:Int)=((0:Nat):Int) from rfl,GR n 0 (Nat.zero_le _),GR n n (Nat.le_refl _)];unfold sliceRange;simp only [show (1:Int) > 0 by decide,if_true,Int.one_mul,Int.ediv_one];have ec:(if ((cV n 0 lo:Nat):Int)<((cV n n hi:Nat):Int) then ((cV n n hi:Nat):Int)-((cV n 0 lo:Nat):Int)+1-1 else 0).toNat=cV n n hi-cV n 0 lo:=by
    split<;>omega
  rw[ec];apply List.map_congr_left;intro a _;omega
theorem GU (x:Str) (lo hi:Option Int):co (Txt.slice x lo hi)=((co x).drop (cV x.length 0 lo)).take (cV x.length x.length hi-cV x.length 0 lo):=by
  have key:(Builtin.Str.strSliceIndices lo hi 1 x.length).filterMap (x.cps[·]?)=((co x).drop (cV x.length 0 lo)).take (cV x.length x.length hi-cV x.length 0 lo):=by
    rw[GS,←OI (co x)]
    congr 1
    funext j;simp[co]
  unfold Txt.slice;split
  · rename_i h;have hl:(Builtin.Str.strSliceIndices lo hi 1 x.length).length=x.length:=by
      simpa using h
    rw[GS,List.length_map,List.length_range] at hl;have h1:=OJ x.length x.length (Nat.le_refl _) hi;have h2:cV x.length 0 lo=0\/x.length=0:=by omega
    have h3:=fT x;rcases h2 with h2 | h2
    · rw[hl,h2,List.drop_zero,List.take_of_length_le (by omega)]
    · have:co x = []:=List.length_eq_zero_iff.mp (by omega);rw[this];simp
  · rw[GQ];exact key
theorem OL (x:Str):co (Txt.slice x (some 1) none)=(co x).drop 1:=by
  rw[GU];have h:=fT x;simp only [cV];rw[if_neg (by decide)];cases e:co x with
  | nil=>simp
  | cons c r=>
    rw[e,List.length_cons] at h;have e1:min (1:Int).toNat x.length=1:=by
      show min 1 x.length=1;omega
    rw[e1,List.take_of_length_le (by simp;omega)]
def bK:Str:="abcdefghijklmnopqrstuvwxyz0123456789-"
def jw:Str:="0123456789"
def pG (l:List Nat) (sg:Str):Bool:=l.all fun c=>decide (c∈co sg)
def bq (x:Str):Bool:=decide (1<=x.length)&&decide (x.length<=12)&&pG (co x) bK
def ck:List Nat->List Nat
  | []=>[]
  | c::r=>if c=45 then r else c::r
theorem xG (r:List Nat):ck (45::r)=r:=by unfold ck;exact if_pos rfl
theorem xH {c:Nat}(r:List Nat) (h:c≠45):ck (c::r)=c::r:=by unfold ck;exact if_neg h
def pH:Str:="0"
def gT (x:Str):Bool:=decide (1<=(ck (co x)).length)&&decide ((ck (co x)).length<=60)&&pG (ck (co x)) jw && !(decide ((ck (co x)).head? = some 48) && !decide (x=pH))
def gp (x:Str):Int:=if (co x).head? = some 45 then 0-((digitsVal (ck (co x)):Nat):Int) else ((digitsVal (ck (co x)):Nat):Int)
theorem GV (c:Nat):c∈co jw↔48<=c/\c<=57:=by
  have e:co jw=List.range' 48 10:=by decide +kernel
  rw[e,List.mem_range'_1];exact⟨fun h=>⟨h.1,Nat.le_of_lt_succ h.2⟩,fun h=>⟨h.1,Nat.lt_succ_of_le h.2⟩⟩
theorem OM {l:List Nat}(h:pG l jw=true):AllDigits l:=fun c hc=>by
  have:=List.all_eq_true.mp h c hc;exact (GV c).mp (of_decide_eq_true this)
theorem GW {l:List Nat}(h:AllDigits l):pG l jw=true:=List.all_eq_true.mpr fun c hc=>decide_eq_true ((GV c).mpr (h c hc))
theorem ON {x:Str}(h:gT x=true):intText? x=some (gp x)/\x.length<=61:=by
  unfold gT at h;simp only [Bool.and_eq_true,decide_eq_true_eq] at h;obtain⟨⟨⟨h1,h2⟩,h3⟩,_⟩:=h;have hd:=OM h3;have hl:=fT x;unfold gp;cases e:co x with
  | nil=>rw[e] at h1;simp[ck] at h1
  | cons c r=>
    rw[e] at h1 h2 hd hl;rw[List.length_cons] at hl
    by_cases hc:c=45
    · subst hc;rw[xG] at h1 h2 hd;rw[xG,if_pos (by rfl),Int.zero_sub];exact⟨intText_neg e hd (by intro z;rw[z] at h1;simp at h1) (by omega),by omega⟩
    · rw[xH r hc] at h1 h2 hd;rw[xH r hc,if_neg (by simp[hc])];rw[List.length_cons] at h2;have iL:x.cps.toList≠[]:=by
        show co x≠[];rw[e];simp
      have k8:AllDigits x.cps.toList:=by
        show AllDigits (co x);rw[e];exact hd
      have q:=intText_digits k8 iL (by omega);have q':intText? x=some ((digitsVal (co x):Nat):Int):=q;rw[e] at q';exact⟨q',by omega⟩
def dg (m:Nat):List Nat:=(Nat.toDigits 10 m).map Char.toNat
theorem GX (t:String):co (Str.ofString t)=t.toList.map Char.toNat:=by rw[Str.ofString_eq_toList]
theorem CK (m:Nat):co (Str.ofString (toString ((m:Nat):Int)))=dg m:=by
  rw[GX];show (Nat.repr m).toList.map Char.toNat=_;rw[Nat.toList_repr];rfl
theorem GY (m:Nat):co (Str.ofString (toString (Int.negSucc m)))=45::dg (m+1):=by
  rw[GX];show ("-" ++ Nat.repr (m+1)).toList.map Char.toNat=_;rw[String.toList_append,List.map_append,Nat.toList_repr]
  try rfl
theorem GZ:∀d:Nat,d<10->(Nat.digitChar d).toNat=d+48:=by decide
theorem CL {m:Nat}(h:m<10):dg m = [m+48]:=by
  unfold dg;rw[Nat.toDigits_of_lt_base h,List.map_cons,List.map_nil,GZ m h]
theorem CM {m:Nat}(h:10<=m):dg m=dg (m / 10)++[m%10+48]:=by
  have hm:m%10<10:=Nat.mod_lt m (by decide);unfold dg;rw[Nat.toDigits_of_base_le (by decide) h,List.map_append,List.map_cons,List.map_nil,GZ _ hm]
theorem G9 (m:Nat):digitsVal (dg m)=m:=by
  induction m using Nat.strongRecOn with
  | _ m ih=>
    by_cases h:m<10
    · rw[CL h];show 0 * 10+(m+48-48)=m;omega
    · rw[CM (by omega)];have:=ih (m / 10) (by omega);unfold digitsVal at this ⊢;rw[List.foldl_append,this];show m / 10 * 10+(m%10+48-48)=m;omega
theorem CN (m:Nat):AllDigits (dg m):=by
  induction m using Nat.strongRecOn with
  | _ m ih=>
    by_cases h:m<10
    · rw[CL h];intro c hc;rw[List.mem_singleton] at hc;omega
    · rw[CM (by omega)];intro c hc;rcases List.mem_append.mp hc with hc | hc
      · exact ih (m / 10) (by omega) c hc
      · rw[List.mem_singleton] at hc;omega
theorem CO {m k:Nat}(hk:1<=k) (h:m<10 ^ k):(dg m).length<=k:=by
  unfold dg;rw[List.length_map];exact (Nat.length_toDigits_le_iff (by decide) hk).mpr h
theorem CP (m:Nat):1<=(dg m).length:=by
  unfold dg;rw[List.length_map];exact Nat.length_toDigits_pos
theorem Hf (m:Nat) (h:0<m):∃c r,dg m=c::r/\49<=c/\c<=57:=by
  induction m using Nat.strongRecOn with
  | _ m ih=>
    by_cases h1:m<10
    · exact⟨m+48,[],CL h1,by omega,by omega⟩
    · obtain⟨c,r,e,h2,h3⟩:=ih (m / 10) (by omega) (by omega);exact⟨c,r++[m%10+48],by rw[CM (by omega),e];rfl,h2,h3⟩
theorem tw (n:Int) (h1:n.natAbs<10 ^ 60):gT (Str.ofString (toString n))=true/\gp (Str.ofString (toString n))=n/\(Str.ofString (toString n)).length<=61:=by
  have hl:=fT (Str.ofString (toString n));unfold gT gp;cases n with
  | ofNat m=>
    have e:co (Str.ofString (toString (Int.ofNat m)))=dg m:=CK m;have h1:m<10 ^ 60:=h1;have p:=CO (by decide) h1;have p1:=CP m;rw[e] at hl
    by_cases hm:m=0
    · subst hm;have z:Str.ofString (toString (Int.ofNat 0))=pH:=by decide +kernel
      rw[z];refine⟨by decide +kernel,by decide +kernel,by decide +kernel⟩
    · obtain⟨c,r,ed,h2,h3⟩:=Hf m (by omega);have hc:c≠45:=by omega
      have ef:ck (dg m)=dg m:=by rw[ed,xH r hc]
      rw[e,ef];refine⟨?_,?_,by omega⟩
      · rw[decide_eq_true p1,decide_eq_true p,GW (CN m),ed];have:¬(c::r).head? = some 48:=by
          intro z;have:c=48:=Option.some.inj z;omega
        rw[decide_eq_false this];rfl
      · rw[G9,if_neg]
        · rfl
        · rw[ed];intro z;have:c=45:=Option.some.inj z;omega
  | negSucc m=>
    have e:co (Str.ofString (toString (Int.negSucc m)))=45::dg (m+1):=GY m;have h1:m+1<10 ^ 60:=h1;have p:=CO (by decide) h1;have p1:=CP (m+1);rw[e,List.length_cons] at hl;rw[e,xG];obtain⟨c,r,ed,h2,h3⟩:=Hf (m+1) (by omega);refine⟨?_,?_,by omega⟩
    · rw[decide_eq_true p1,decide_eq_true p,GW (CN (m+1)),ed];have:¬(c::r).head? = some 48:=by
        intro z;have:c=48:=Option.some.inj z;omega
      rw[decide_eq_false this];rfl
    · rw[G9,if_pos (by rfl)];omega
def nD (ns:List Int) (i:Int):Int:=ns.getD i.toNat 0
def pt (c k m:Int):Int:=(c%99991+17) * (48271+7919 * k)%65537 * (k+3)%8191%m
theorem kL (c k m:Int) (h:0<m):0<=pt c k m/\pt c k m<m:=⟨Int.emod_nonneg _ (by omega),Int.emod_lt_of_pos _ h⟩
def nE (one at':Int) (k j:Nat):Int:=if (j:Int)=at' then pt one ((j:Int)+2) 37+k else pt one ((j:Int)+2) 37
def kr (one at':Int) (k j:Nat):Nat:=(co bK).getD (nE one at' k j%37).toNat 0
def lE (one at':Int) (k size:Nat):List Nat:=(List.range size).map (kr one at' k)
theorem OO:(co bK).length=37:=by decide +kernel
theorem OP:(co bK).Nodup:=by decide +kernel
theorem lS (z:Int):0<=z%37/\(z%37).toNat<(co bK).length:=by
  have h1:=Int.emod_nonneg z (show (37:Int)≠0 by decide);have h2:=Int.emod_lt_of_pos z (show (0:Int)<37 by decide);rw[OO];omega
theorem OQ (one at':Int) (k j:Nat):kr one at' k j∈co bK:=by
  unfold kr;have h:=(lS (nE one at' k j)).2;rw[List.getD_eq_getElem?_getD,List.getElem?_eq_getElem h];exact List.getElem_mem h
theorem OR {i j:Nat}(hi:i<(co bK).length) (hj:j<(co bK).length) (h:(co bK).getD i 0=(co bK).getD j 0):i=j:=by
  rw[List.getD_eq_getElem?_getD,List.getD_eq_getElem?_getD,List.getElem?_eq_getElem hi,List.getElem?_eq_getElem hj] at h;have h:(co bK)[i]=(co bK)[j]:=h;exact (List.getElem_inj OP).mp h
theorem tD (one at':Int) (k size:Nat):(lE one at' k size).length=size:=by unfold lE;simp
theorem Hg {one at':Int}{k size j:Nat}(h:j<size):(lE one at' k size)[j]? = some (kr one at' k j):=by
  unfold lE;rw[List.getElem?_map,List.getElem?_range h];rfl
theorem OS {one at':Int}{k k' size:Nat}(h0:0<=at') (h1:at'<size) (hk:k<9) (Hh:k'<9) (h:lE one at' k size=lE one at' k' size):k=k':=by
  have hj:at'.toNat<size:=by omega
  have e1:=Hg (one:=one) (at':=at') (k:=k) hj;have e2:=Hg (one:=one) (at':=at') (k:=k') hj;rw[h,e2] at e1;have e:kr one at' k' at'.toNat=kr one at' k at'.toNat:=Option.some.inj e1;unfold kr at e;have q:=OR (lS _).2 (lS _).2 e;have a1:=(lS (nE one at' k' at'.toNat)).1;have a2:=(lS (nE one at' k at'.toNat)).1;have q2:nE one at' k' at'.toNat%37=nE one at' k at'.toNat%37:=by omega
  unfold nE at q2;rw[if_pos (Int.toNat_of_nonneg h0),if_pos (Int.toNat_of_nonneg h0)] at q2;omega
def eT (l:List Nat):Str:=⟨l.toArray⟩
theorem di (l:List Nat):co (eT l)=l:=GQ l
theorem Hi {l m:List Nat}(h:eT l=eT m):l=m:=by
  have:=congrArg co h
  rwa [di,di] at this
theorem Hj {x:Str}(h1:1<=(co x).length) (h2:(co x).length<=12) (h3:∀c∈co x,c∈co bK):bq x=true:=by
  rw[fT] at h1 h2;unfold bq;rw[decide_eq_true h1,decide_eq_true h2];show pG (co x) bK=true;exact List.all_eq_true.mpr fun c hc=>decide_eq_true (h3 c hc)
theorem Hl {one at':Int}{k size c:Nat}(h:c∈lE one at' k size):c∈co bK:=by
  obtain⟨j,_,rfl⟩:=List.mem_map.mp h;exact OQ ..
def Ao (one at':Int) (size:Nat):List Str:=(List.range 9).map fun k=>eT (lE one at' k size)
def xJ (one at':Int) (size:Nat):List Str:=(List.range 9).map fun k=>eT ((lE one at' 0 size).take (size-k))
theorem Ho {f:Nat->Str}{n:Nat}(h:∀i j,i<n->j<n->f i=f j->i=j):((List.range n).map f).Nodup:=by
  unfold List.Nodup;rw[List.pairwise_map];refine List.Pairwise.imp_of_mem (R:=(·≠·)) (fun {a b} ha hb n8 e=>?_) List.nodup_range;exact n8 (h a b (List.mem_range.mp ha) (List.mem_range.mp hb) e)
theorem OT {one at':Int}{size:Nat}(h0:0<=at') (h1:at'<size) (h2:1<=size) (h3:size<=12):(Ao one at' size).Nodup/\(∀x∈Ao one at' size,bq x=true)/\(Ao one at' size).length=9:=by
  refine⟨Ho fun i j hi hj e=>OS h0 h1 hi hj (Hi e),fun x hx=>?_,by unfold Ao;simp⟩;obtain⟨k,_,rfl⟩:=List.mem_map.mp hx;exact Hj (by rw[di,tD];exact h2) (by rw[di,tD];exact h3) fun c hc=>by rw[di] at hc;exact Hl hc
theorem OU {one at':Int}{size:Nat}(h2:9<=size) (h3:size<=12):(xJ one at' size).Nodup/\(∀x∈xJ one at' size,bq x=true)/\(xJ one at' size).length=9:=by
  refine⟨Ho fun i j hi hj e=>?_,fun x hx=>?_,by unfold xJ;simp⟩
  · have e:=congrArg List.length (Hi e);rw[List.length_take,List.length_take,tD] at e;omega
  · obtain⟨k,hk,rfl⟩:=List.mem_map.mp hx;have hk:=List.mem_range.mp hk;refine Hj ?_ ?_ fun c hc=>?_
    · rw[di,List.length_take,tD];omega
    · rw[di,List.length_take,tD];omega
    · rw[di] at hc;exact Hl (List.mem_of_mem_take hc)
theorem OV:(Str.ofString "" : Str)=eT []:=by decide +kernel
theorem Hq (l m:List Nat):eT l++eT m=eT (l++m):=by
  apply gC;show (l.toArray++m.toArray).toList=(l++m).toArray.toList;simp
theorem vg (l:List Nat):(eT l).length=l.length:=by show l.toArray.size=_;simp
theorem OW (l:List Nat) (z:Int) (h0:0<=z) (h1:z<=l.length):Txt.slice (eT l) none (some z)=eT (l.take z.toNat):=by
  apply gC;rw[GU,di,di,vg];simp only [cV];rw[if_neg (by omega),List.drop_zero,Nat.sub_zero]
  congr 1
  omega
end Dm
namespace Dm
open PySem PySem.NumText L2
def lT:List Str:=["over","cuts","fills","same"]
def dG (z:Int):Prop:=z.natAbs<10 ^ 60
inductive bS (us:List Str):List V->Prop where
  | plain {kd x y:Str}(hk:kd∈lT) (hx:x∈us) (hy:y∈us):bS us [.str kd,.str x,.str y]
  | after {x y:Str}{n:Int}(hx:x∈us) (hy:y∈us) (h0:0<=n) (h1:dG n):bS us [.str "after",.str x,.str y,.int n]
inductive jx (us:List Str) (fs:List (List V)):List V->Prop where
  | mk {nm x:Str}{lo hi:Int}(hn:bq nm=true) (hx:x∈us) (hl:lo<=hi) (h1:dG lo) (h2:dG hi) (hf:∀f∈fs,f.head?≠some (.str nm)):jx us fs [.str nm,.str x,.int lo,.int hi]
inductive Told:List Str->List (List V)->List (List V)->List (List V)->Prop where
  | nil:Told [] [] [] []
  | unit {us:List Str}{ts fs rs:List (List V)}{x:Str}(t:Told us ts fs rs) (hn:bq x=true) (hx:x ∉ us):Told (us++[x]) ts fs (rs++[[.str "unit",.str x]])
  | je {us:List Str}{ts fs rs:List (List V)}{ws:List V}(t:Told us ts fs rs) (h:bS us ws) (hn:ws ∉ ts):Told us (ts++[ws]) fs (rs++[ws])
  | find {us:List Str}{ts fs rs:List (List V)}{ws:List V}(t:Told us ts fs rs) (h:jx us fs ws):Told us ts (fs++[ws]) (rs++[.str "find" :: ws])
theorem bS.mono {us tE:List Str}{ws:List V}(h:bS us ws) (s:∀x∈us,x∈tE):bS tE ws:=by
  cases h with
  | plain hk hx hy=>exact .plain hk (s _ hx) (s _ hy)
  | after hx hy h0 h1=>exact .after (s _ hx) (s _ hy) h0 h1
theorem mE {x:Str}(h:bq x=true):x.length<=12:=by
  unfold bq at h;simp only [Bool.and_eq_true,decide_eq_true_eq] at h;exact h.1.2
theorem Told.names {us:List Str}{ts fs rs:List (List V)}(t:Told us ts fs rs):us.Nodup/\∀x∈us,bq x=true:=by
  induction t with
  | nil=>exact⟨List.nodup_nil,fun x h=>nomatch h⟩
  | unit t hn hx ih=>
    refine⟨List.nodup_append.mpr ⟨ih.1,by simp,fun a ha b hb=>?_⟩,fun x h=>?_⟩
    · rw[List.mem_singleton] at hb;subst hb;exact fun z=>hx (z▸ha)
    · rcases List.mem_append.mp h with h | h
      · exact ih.2 x h
      · rw[List.mem_singleton] at h;subst h;exact hn
  | je t h hn ih=>exact ih
  | find t h ih=>exact ih
theorem Told.fj {us:List Str}{ts fs rs:List (List V)}(t:Told us ts fs rs):∀ws∈ts,bS us ws:=by
  induction t with
  | nil=>exact fun _ h=>nomatch h
  | unit t hn hx ih=>exact fun ws h=>(ih ws h).mono fun x hx=>List.mem_append_left _ hx
  | je t h hn ih=>
    intro ws hw;rcases List.mem_append.mp hw with hw | hw
    · exact ih ws hw
    · rw[List.mem_singleton] at hw;subst hw;exact h
  | find t h ih=>exact ih
def kM (us:List Str) (ws:List V):Prop:=∃nm x lo hi,ws = [.str nm,.str x,.int lo,.int hi]/\bq nm=true/\x∈us/\lo<=hi/\dG lo/\dG hi
theorem Told.jY {us:List Str}{ts fs rs:List (List V)}(t:Told us ts fs rs):∀ws∈fs,kM us ws:=by
  induction t with
  | nil=>exact fun _ h=>nomatch h
  | unit t hn hx ih=>
    intro ws h;obtain⟨nm,x,lo,hi,e,a,b,c⟩:=ih ws h;exact⟨nm,x,lo,hi,e,a,List.mem_append_left _ b,c⟩
  | je t h hn ih=>exact ih
  | find t h ih=>
    intro ws hw;rcases List.mem_append.mp hw with hw | hw
    · exact ih ws hw
    · rw[List.mem_singleton] at hw;subst hw;cases h with
      | mk hn hx hl h1 h2 hf=>exact⟨_,_,_,_,rfl,hn,hx,hl,h1,h2⟩
theorem OX:∀k∈lT,k.length<=100:=by decide +kernel
theorem bS.words {us:List Str}{ws:List V}(h:bS us ws) (hu:∀x∈us,bq x=true):(∀v∈ws,Wd v)/\ws.length<=5/\∃x r,ws = .str x::r:=by
  have nm:∀x∈us,Wd (.str x):=fun x hx=>.inl ⟨x,rfl,Nat.le_trans (mE (hu x hx)) (by decide)⟩
  cases h with
  | plain hk hx hy=>
    refine⟨fun v hv=>?_,by simp,_,_,rfl⟩;simp only [List.mem_cons,List.not_mem_nil,or_false] at hv;rcases hv with rfl | rfl | rfl
    · exact .inl ⟨_,rfl,OX _ hk⟩
    · exact nm _ hx
    · exact nm _ hy
  | after hx hy h0 h1=>
    refine⟨fun v hv=>?_,by simp,_,_,rfl⟩;simp only [List.mem_cons,List.not_mem_nil,or_false] at hv;rcases hv with rfl | rfl | rfl | rfl
    · exact .inl ⟨_,rfl,by decide +kernel⟩
    · exact nm _ hx
    · exact nm _ hy
    · exact .inr ⟨_,rfl,h1⟩
theorem kM.words {us:List Str}{ws:List V}(h:kM us ws) (hu:∀x∈us,bq x=true):(∀v∈ws,Wd v)/\ws.length=4:=by
  obtain⟨nm,x,lo,hi,rfl,hn,hx,hl,h1,h2⟩:=h;refine⟨fun v hv=>?_,rfl⟩;simp only [List.mem_cons,List.not_mem_nil,or_false] at hv;rcases hv with rfl | rfl | rfl | rfl
  · exact .inl ⟨_,rfl,Nat.le_trans (mE hn) (by decide)⟩
  · exact .inl ⟨_,rfl,Nat.le_trans (mE (hu x hx)) (by decide)⟩
  · exact .inr ⟨_,rfl,h1⟩
  · exact .inr ⟨_,rfl,h2⟩
abbrev aP (H:Hp):List Addr->List (List V)->Prop:=Paired fun a ws=>H a=some (.tup ws)
theorem aP.same {H H':Hp}(s:aa H H'):∀{as:List Addr}{dY:List (List V)},aP H as dY->aP H' as dY
  | _,_,.nil=>.nil
  | _,_,.cons h t=>.cons (s _ _ h) (aP.same s t)
theorem aP.get {H:Hp}:∀{as:List Addr}{dY:List (List V)}{a:Addr},aP H as dY->a∈as->∃ws∈dY,H a=some (.tup ws)
  | _,_,_,.cons h t,ha=>by
    rcases List.mem_cons.mp ha with ha | ha
    · subst ha;exact⟨_,List.mem_cons_self ..,h⟩
    · obtain⟨ws,hw,e⟩:=aP.get t ha;exact⟨ws,List.mem_cons_of_mem _ hw,e⟩
theorem aP.snoc {H:Hp}{a:Addr}{ws:List V}{as:List Addr}{dY:List (List V)}(t:aP H as dY) (h:H a=some (.tup ws)):aP H (as++[a]) (dY++[ws]):=Paired.snoc t h
theorem aP.bH {H H':Hp}(s:∀b xs,H b=some (.tup xs)->H' b=some (.tup xs)):∀{as:List Addr}{dY:List (List V)},aP H as dY->aP H' as dY
  | _,_,.nil=>.nil
  | _,_,.cons h t=>.cons (s _ _ h) (aP.bH s t)
theorem vh {H:Hp}{p:Addr}{xs ys:List V}(h:H p=some (.lst xs)):∀b zs,H b=some (.tup zs)->upd H p (.lst ys) b=some (.tup zs):=fun b zs e=>by
  rw[aJ (j8 e h (by intro z;cases z))];exact e
structure bD (H:Hp) (pu pt pf pr:Addr) (us:List Str) (ts fs rs:List (List V)) (at' af ar:List Addr):Prop where
  u:H pu=some (.lst (us.map V.str))
  t:H pt=some (.lst (at'.map V.ref))
  tt:aP H at' ts
  f:H pf=some (.lst (af.map V.ref))
  ft:aP H af fs
  r:H pr=some (.lst (ar.map V.ref))
  rt:aP H ar rs
section
variable {H H':Hp}{pu pt pf pr p:Addr}{us:List Str}{ts fs rs:List (List V)}{at' af ar:List Addr}{ws:List V}
theorem bD.same (t:bD H pu pt pf pr us ts fs rs at' af ar) (s:aa H H'):bD H' pu pt pf pr us ts fs rs at' af ar:=
  ⟨s _ _ t.u,s _ _ t.t,t.tt.same s,s _ _ t.f,t.ft.same s,s _ _ t.r,t.rt.same s⟩
theorem bD.CQ (t:bD H pu pt pf pr us ts fs rs at' af ar) (h1:pt≠pu) (h2:pf≠pu) (h3:pr≠pu) (x:Str):bD (upd H pu (.lst (us.map V.str++[.str x]))) pu pt pf pr (us++[x]) ts fs rs at' af ar:=by
  have st:=vh (ys:=us.map V.str++[.str x]) t.u;exact⟨by rw[zd,List.map_append];rfl,by rw[aJ h1];exact t.t,t.tt.bH st,by rw[aJ h2];exact t.f,t.ft.bH st,by rw[aJ h3];exact t.r,t.rt.bH st⟩
theorem bD.CS (t:bD H pu pt pf pr us ts fs rs at' af ar) (h1:pu≠pt) (h2:pf≠pt) (h3:pr≠pt) (hp:H p=some (.tup ws)):bD (upd H pt (.lst (at'.map V.ref++[.ref p]))) pu pt pf pr us (ts++[ws]) fs rs (at'++[p]) af ar:=by
  have st:=vh (ys:=at'.map V.ref++[.ref p]) t.t;exact⟨by rw[aJ h1];exact t.u,by rw[zd,List.map_append];rfl,(t.tt.bH st).snoc (st _ _ hp),by rw[aJ h2];exact t.f,t.ft.bH st,by rw[aJ h3];exact t.r,t.rt.bH st⟩
theorem bD.CT (t:bD H pu pt pf pr us ts fs rs at' af ar) (h1:pu≠pf) (h2:pt≠pf) (h3:pr≠pf) (hp:H p=some (.tup ws)):bD (upd H pf (.lst (af.map V.ref++[.ref p]))) pu pt pf pr us ts (fs++[ws]) rs at' (af++[p]) ar:=by
  have st:=vh (ys:=af.map V.ref++[.ref p]) t.f;exact⟨by rw[aJ h1];exact t.u,by rw[aJ h2];exact t.t,t.tt.bH st,by rw[zd,List.map_append];rfl,(t.ft.bH st).snoc (st _ _ hp),by rw[aJ h3];exact t.r,t.rt.bH st⟩
theorem bD.tF (t:bD H pu pt pf pr us ts fs rs at' af ar) (h1:pu≠pr) (h2:pt≠pr) (h3:pf≠pr) (hp:H p=some (.tup ws)):bD (upd H pr (.lst (ar.map V.ref++[.ref p]))) pu pt pf pr us ts fs (rs++[ws]) at' af (ar++[p]):=by
  have st:=vh (ys:=ar.map V.ref++[.ref p]) t.r;exact⟨by rw[aJ h1];exact t.u,by rw[aJ h2];exact t.t,t.tt.bH st,by rw[aJ h3];exact t.f,t.ft.bH st,by rw[zd,List.map_append];rfl,(t.rt.bH st).snoc (st _ _ hp)⟩
end
theorem OY {xs:List Str}(nd:xs.Nodup) (k:Nat) (h:k<xs.length):xs[k] ∉ xs.take k:=by
  intro z;obtain⟨j,hj,e⟩:=List.mem_iff_getElem.mp z;rw[List.getElem_take] at e;rw[List.length_take] at hj;have:=(List.getElem_inj nd).mp e;omega
theorem OZ {x y:V}(hx:Wd x) (hy:Wd y):lB x y=decide (x=y):=by
  rcases hx with ⟨a,rfl,_⟩ | ⟨a,rfl,_⟩<;>rcases hy with ⟨b,rfl,_⟩ | ⟨b,rfl,_⟩
  · show (a == b)=_
    by_cases h:a=b
    · subst h;simp
    · rw[decide_eq_false (fun z=>h (V.str.inj z))];exact beq_eq_false_iff_ne.mpr h
  · exact (decide_eq_false (fun z=>nomatch z)).symm
  · exact (decide_eq_false (fun z=>nomatch z)).symm
  · show (a == b)=_
    by_cases h:a=b
    · subst h;simp
    · rw[decide_eq_false (fun z=>h (V.int.inj z))];exact beq_eq_false_iff_ne.mpr h
theorem Hr {xs ys:List V}(hx:∀v∈xs,Wd v) (hy:∀v∈ys,Wd v):u5 xs ys=decide (xs=ys):=by
  by_cases h:xs=ys
  · subst h;rw[xq fun x q=>(hx x q).flat,decide_eq_true rfl]
  · rw[decide_eq_false h];rw[←Bool.not_eq_true];intro q;unfold u5 at q;rw[Bool.and_eq_true] at q;obtain⟨q1,q2⟩:=q;have q2:xs.length=ys.length:=by simpa using q2
    apply h;apply List.ext_getElem q2;intro i h1 h2;have:=List.all_eq_true.mp q1 i (List.mem_range.mpr (by omega));rw[List.getElem?_eq_getElem h1,List.getElem?_eq_getElem h2] at this;have e:lB xs[i] ys[i]=true:=this;rw[OZ (hx _ (List.getElem_mem h1)) (hy _ (List.getElem_mem h2))] at e;exact of_decide_eq_true e
theorem aP.at {H:Hp}:∀{as:List Addr}{dY:List (List V)}{i:Nat}{a:Addr},aP H as dY->as[i]? = some a->∃ws,dY[i]? = some ws/\H a=some (.tup ws)
  | _,_,_,_,.nil,e=>by simp at e
  | _,_,0,_,.cons h _,e=>by simp at e;subst e;exact⟨_,rfl,h⟩
  | _,_,i+1,_,.cons _ t,e=>by
    obtain⟨ws,q,r⟩:=aP.at (i:=i) t (by simpa using e);exact⟨ws,by simpa using q,r⟩
theorem aP.len {H:Hp}{as:List Addr}{dY:List (List V)}(t:aP H as dY):as.length=dY.length:=Paired.length t
theorem aP.any {H:Hp}{as:List Addr}{dY:List (List V)}{ws:List V}(t:aP H as dY):∀(e:V->Bool),(∀a vs,vs∈dY->H a=some (.tup vs)->e (.ref a)=decide (vs=ws))->(as.map V.ref).any e=decide (ws∈dY):=by
  intro e he
  induction t with
  | nil=>simp
  | @cons a vs as dY h t ih=>
    rw[List.map_cons,List.any_cons,he a vs (List.mem_cons_self ..) h,ih fun b us q r=>he b us (List.mem_cons_of_mem _ q) r]
    by_cases q:vs=ws
    · subst q;simp
    · rw[decide_eq_false q,Bool.false_or];have:ws∈vs::dY↔ws∈dY:=by
        rw[List.mem_cons];constructor
        · rintro (z | z)
          · exact absurd z.symm q
          · exact z
        · exact .inr
      exact decide_eq_decide.mpr this.symm
def tG (H:Hp) (ws:List V):V->Bool
  | .ref a=>match H a with
    | some (.tup vs)=>decide (vs=ws)
    | _=>false
  | _=>false
theorem Hs {H:Hp}{ws vs:List V}{a:Addr}(h:H a=some (.tup vs)):tG H ws (.ref a)=decide (vs=ws):=by
  show (match H a with | some (.tup vs)=>decide (vs=ws) | _=>false)=_;rw[h]
theorem aP.CU {H:Hp}{as:List Addr}{dY:List (List V)}{ws:List V}(t:aP H as dY):(as.map V.ref).any (tG H ws)=decide (ws∈dY):=t.any _ fun _ _ _ h=>Hs h
theorem aP.O0 {K:PySem.W.Frag}{H:Hp}{n:Nat}{as:List Addr}{dY:List (List V)}{ws:List V}{p:Addr}(t:aP H as dY) (hw:∀vs∈dY,∀v∈vs,Wd v) (hp:H p=some (.tup ws)) (hv:∀v∈ws,Wd v) :
    ∀z∈as.map V.ref,b8 K H (n+1) z (.ref p) (tG H ws z):=by
  intro z hz;obtain⟨a,ha,rfl⟩:=List.mem_map.mp hz;obtain⟨vs,Ht,e⟩:=t.get ha;rw[Hs e,←Hr (hw vs Ht) hv];exact b8.iK (aD.of e) (aD.of hp) (fun x q=>(hw vs Ht x q).flat) fun x q=>(hv x q).flat
def jc (s:List Nat):List (List Nat)->List Nat
  | []=>[]
  | [x]=>x
  | x::y::r=>x++s++jc s (y::r)
theorem Hu (s y:List Nat):∀(x:List Nat) (r:List (List Nat)),jc s (x::r++[y])=jc s (x::r)++s++y
  | x,[]=>rfl
  | x,z::r=>by
    show x++s++jc s (z::r++[y])=(x++s++jc s (z::r))++s++y;rw[Hu s y z r];simp only [List.append_assoc]
theorem CV (s:List Nat):∀l:List (List Nat),(jc s l).length<=(l.map List.length).sum+l.length * s.length
  | []=>Nat.zero_le _
  | [x]=>by simp[jc]
  | x::y::r=>by
    have:=CV s (y::r);show (x++s++jc s (y::r)).length<=_;rw[List.length_append,List.length_append,List.map_cons,List.sum_cons,List.length_cons,Nat.succ_mul];omega
theorem fU (x y:Str):co (x++y)=co x++co y:=by
  show (x.cps++y.cps).toList=_;simp
theorem Hv (sep:Str):∀l:List Str,co (Txt.join sep l)=jc (co sep) (l.map co):=by
  have go:∀l:List Str,co (Str.join sep l)=jc (co sep) (l.map co):=by
    intro l
    induction l with
    | nil=>rfl
    | cons x r ih=>
      cases r with
      | nil=>rfl
      | cons y r=>
        show co (x++sep++Str.join sep (y::r))=co x++co sep++jc (co sep) ((y::r).map co);rw[fU,fU,ih]
  intro l;cases l with
  | nil=>rfl
  | cons x r=>
    show co (Builtin.Str.glued sep (x::r))=_;rw[StrLaws.glued_eq_join];exact go _
theorem Hw (sep:Str) (l:List Str):Txt.join sep l=eT (jc (co sep) (l.map co)):=gC (by rw[Hv,di])
theorem O6:(Str.ofString " " : Str)=eT [32]:=by decide +kernel
theorem Hx:(Str.ofString "\n" : Str)=eT [10]:=by decide +kernel
def gD (ws:List V):List Nat:=jc [32] (ws.map fun v=>co (aR v))
def aW (ws:List V):Str:=eT (gD ws)
theorem Hy {v:V}(h:Wd v):(co (aR v)).length<=100:=by
  rw[fT];rcases h with ⟨x,rfl,hx⟩ | ⟨i,rfl,hi⟩
  · exact hx
  · exact Nat.le_trans (tw i hi).2.2 (by decide)
theorem Hz {l:List (List Nat)}{k:Nat}(h:∀x∈l,x.length<=k):(l.map List.length).sum<=l.length * k:=by
  induction l with
  | nil=>simp
  | cons x r ih=>
    rw[List.map_cons,List.sum_cons,List.length_cons,Nat.succ_mul];have:=h x (List.mem_cons_self ..);have:=ih fun y hy=>h y (List.mem_cons_of_mem _ hy)
    omega
theorem Aq {ws:List V}(h:∀v∈ws,Wd v) (hl:ws.length<=6):(gD ws).length<=606:=by
  have h1:=CV [32] (ws.map fun v=>co (aR v));have h2:=Hz (l:=ws.map fun v=>co (aR v)) (k:=100) fun x hx=>by
    obtain⟨v,hv,rfl⟩:=List.mem_map.mp hx;exact Hy (h v hv)
  rw[List.length_map] at h1 h2;show (jc [32] _).length<=606;have : [32].length=1:=rfl;rw[this] at h1;omega
theorem O7 {v:V}{r:List V}{w:V}:aW (v::r++[w])=aW (v::r)++eT [32]++aR w:=by
  apply gC;rw[fU,fU,di];unfold aW gD;rw[di,di,List.map_append,List.map_cons,List.map_cons,List.map_nil];exact Hu _ _ _ _
theorem O8 {x:Str}:aW [.str x]=x:=gC (by unfold aW gD;rw[di];rfl)
theorem Ar (ws:List V):(aW ws).length=(gD ws).length:=vg _
structure tH (lo hi:Int) (us:List Str) (ts fs:List (List V)):Prop where
  lo:dG lo
  hi:dG hi
  u:us.length<=100/\∀x∈us,x.length<=100
  t:ts.length<=100/\∀ws∈ts,(∀v∈ws,Wd v)/\ws.length<=5/\∃x r,ws = .str x::r
  f:fs.length<=100/\∀ws∈fs,(∀v∈ws,Wd v)/\ws.length=4
theorem Told.tK {us:List Str}{ts fs rs:List (List V)}(t:Told us ts fs rs):rs.length=us.length+ts.length+fs.length:=by
  induction t with
  | nil=>rfl
  | unit t _ _ ih=>simp only [List.length_append,List.length_cons,List.length_nil];omega
  | je t _ _ ih=>simp only [List.length_append,List.length_cons,List.length_nil];omega
  | find t _ ih=>simp only [List.length_append,List.length_cons,List.length_nil];omega
theorem Told.tL {us:List Str}{ts fs rs:List (List V)}{lo hi:Int}(t:Told us ts fs rs) (hl:rs.length<=63) (h1:dG lo) (h2:dG hi):tH lo hi us ts fs:=by
  have l:=t.tK;have n:=t.names;exact⟨h1,h2,⟨by omega,fun x hx=>Nat.le_trans (mE (n.2 x hx)) (by decide)⟩,⟨by omega,fun ws hw=>(t.fj ws hw).words n.2⟩,⟨by omega,fun ws hw=>(t.jY ws hw).words n.2⟩⟩
theorem O9 (ns:List Int) (lo hi:Option Int):∃cs:List Int,bN (ns.map V.int) lo hi=cs.map V.int/\cs.length<=ns.length:=by
  refine⟨(ns.drop (HT.bA (ns.map V.int).length 0 lo)).take (HT.bA (ns.map V.int).length (ns.map V.int).length hi-HT.bA (ns.map V.int).length 0 lo),?_,?_⟩
  · unfold bN;rw[List.map_take,List.map_drop]
  · rw[List.length_take,List.length_drop];omega
structure As where
  k:Str
  a:Str
  b:Str
  g:Option Int
def CW:Str:="same"
def CY (x y:Str):Str:=if co y<co x then y else x
def jn (oh:Str->Str) (f s:Str):Str->Str:=fun x=>if oh x=f\/oh x=s then CY f s else oh x
def pI (oh:Str->Str) (t:As):Str->Str:=if t.k=CW then jn oh (oh t.a) (oh t.b) else oh
def xK (ts:List As):Str->Str:=ts.foldl pI id
def dN (us:List Str) (oh:Str->Str):List (Key×V):=us.map fun x=>(Sum.inr x,V.str (oh x))
def dV (ks:List Str) (f:Str->V):List (Key×V):=ks.map fun x=>(Sum.inr x,f x)
structure HE where
  n:Str
  u:Str
  lo:Int
  hi:Int
theorem HF {c:Nat}:∀{a b p q:List Nat},c ∉ a->c ∉ b->a++c::p=b++c::q->a=b/\p=q
  | [],[],_,_,_,_,e=>⟨rfl,by simpa using e⟩
  | [],y::b,_,_,_,hb,e=>by
    have e1:c=y:=(List.cons.inj e).1;exact absurd (by rw[e1];exact List.mem_cons_self ..) hb
  | x::a,[],_,_,ha,_,e=>by
    have e1:x=c:=(List.cons.inj e).1;exact absurd (by rw[←e1];exact List.mem_cons_self ..) ha
  | x::a,y::b,p,q,ha,hb,e=>by
    obtain⟨e1,e2⟩:=List.cons.inj e;obtain⟨r1,r2⟩:=HF (fun z=>ha (List.mem_cons_of_mem _ z)) (fun z=>hb (List.mem_cons_of_mem _ z)) e2;exact⟨by rw[e1,r1],r2⟩
theorem HH {c:Nat}:∀{l m:List (List Nat)},l≠[]->m≠[]->(∀x∈l,c ∉ x)->(∀x∈m,c ∉ x)->jc [c] l=jc [c] m->l=m
  | [],_,h,_,_,_,_=>absurd rfl h
  | _,[],_,h,_,_,_=>absurd rfl h
  | [x],[y],_,_,_,_,e=>by rw[show x=y from e]
  | [x],y::z::m,_,_,hl,_,e=>by
    have e:x=y++[c]++jc [c] (z::m):=e;exact absurd (by rw[e];simp) (hl x (List.mem_cons_self ..))
  | x::w::l,[y],_,_,_,hm,e=>by
    have e:x++[c]++jc [c] (w::l)=y:=e;exact absurd (by rw[←e];simp) (hm y (List.mem_cons_self ..))
  | x::w::l,y::z::m,_,_,hl,hm,e=>by
    have e:x++[c]++jc [c] (w::l)=y++[c]++jc [c] (z::m):=e;rw[List.append_assoc,List.append_assoc] at e;obtain⟨e1,e2⟩:=HF (hl x (List.mem_cons_self ..)) (hm y (List.mem_cons_self ..)) e;rw[e1,HH (List.cons_ne_nil _ _) (List.cons_ne_nil _ _) (fun u hu=>hl u (List.mem_cons_of_mem _ hu)) (fun u hu=>hm u (List.mem_cons_of_mem _ hu)) e2]
theorem HJ {c:Nat}{ls:List (List Nat)}(h0:ls≠[]) (hf:∀x∈ls,c ∉ x):Txt.split (eT (jc [c] ls)) ⟨#[c]⟩=ls.map eT:=by
  have j:=StrLaws.join_split (eT (jc [c] ls)) ⟨#[c]⟩;have f:=StrLaws.split_free (eT (jc [c] ls)) c;have p:=PyProof.Rows.split_pos (eT (jc [c] ls)) ⟨#[c]⟩;generalize Txt.split (eT (jc [c] ls)) ⟨#[c]⟩=ps at j f p;have iL:ps≠[]:=by
    rintro rfl;simp at p
  have e:jc [c] (ps.map co)=jc [c] ls:=by
    have:=congrArg co j;rw[di] at this;rw[←this];cases ps with
    | nil=>exact absurd rfl iL
    | cons a r=>
      have:=Hv ⟨#[c]⟩ (a::r);rw[show Txt.join ⟨#[c]⟩ (a::r)=Str.join ⟨#[c]⟩ (a::r) from StrLaws.glued_eq_join _ _] at this;exact this.symm
  have e2:=HH (by simpa using iL) h0 (fun x hx=>by
    obtain⟨q,hq,rfl⟩:=List.mem_map.mp hx;exact f q hq) hf e
  rw[←e2,List.map_map];refine (List.map_id' ps).symm.trans (List.map_congr_left fun x _=>?_);exact gC (by rw[Function.comp,di])
theorem Pa:(Str.ofString " " : Str)=⟨#[32]⟩:=by decide +kernel
theorem Pb:(Str.ofString "\n" : Str)=⟨#[10]⟩:=by decide +kernel
def wordsOf (x:Str):List Str:=(Txt.split x " ").filter fun y=>!decide (y = "")
def lF:List Str->Bool
  | []=>true
  | y::_=>Txt.startswith y ";"
theorem HK {ws:List V}(h0:ws≠[]) (hb:∀v∈ws,32 ∉ co (aR v)) (hn:∀v∈ws,co (aR v)≠[]):wordsOf (aW ws)=ws.map aR:=by
  unfold wordsOf;have e:Txt.split (aW ws) " " = ws.map aR:=by
    show Txt.split (aW ws) (Str.ofString " ")=_;rw[Pa];unfold aW gD;rw[HJ (by simpa using h0) (fun x hx=>by
      obtain⟨v,hv,rfl⟩:=List.mem_map.mp hx;exact hb v hv),List.map_map]
    exact List.map_congr_left fun x _=>gC (by rw[Function.comp,di])
  rw[e,List.filter_eq_self];intro y hy;obtain⟨v,hv,rfl⟩:=List.mem_map.mp hy;have:aR v≠(Str.ofString "" : Str):=fun z=>hn v hv (by rw[z];decide +kernel)
  simpa using this
theorem Pc:∀c∈co bK,c≠32/\c≠10/\c≠59:=by decide +kernel
theorem mF {x:Str}(h:bq x=true):(∀c∈co x,c≠32/\c≠10/\c≠59)/\co x≠[]:=by
  unfold bq at h;simp only [Bool.and_eq_true,decide_eq_true_eq] at h;obtain⟨⟨h1,h2⟩,h3⟩:=h;refine⟨fun c hc=>Pc c (of_decide_eq_true (List.all_eq_true.mp h3 c hc)),fun z=>?_⟩;rw[←fT,z] at h1;exact absurd h1 (by decide)
theorem vj (n:Int):(∀c∈co (Str.ofString (toString n)),c≠32/\c≠10/\c≠59)/\co (Str.ofString (toString n))≠[]:=by
  have d:∀m:Nat,∀c∈dg m,c≠32/\c≠10/\c≠59:=fun m c hc=>by
    have:=CN m c hc;omega
  have e:∀m:Nat,dg m≠[]:=fun m z=>by
    have:=CP m;rw[z] at this;exact absurd this (by decide)
  cases n with
  | ofNat m=>
    have q:co (Str.ofString (toString (Int.ofNat m)))=dg m:=CK m;rw[q];exact⟨d m,e m⟩
  | negSucc m=>
    have q:co (Str.ofString (toString (Int.negSucc m)))=45::dg (m+1):=GY m;rw[q];refine⟨fun c hc=>?_,by simp⟩;rcases List.mem_cons.mp hc with rfl | hc
    · decide
    · exact d _ c hc
def vm:List Str:=["dig","unit","over","cuts","fills","after","same","find"]
theorem Pd:∀x∈vm,(∀c∈co x,c≠32/\c≠10/\c≠59)/\co x≠[]:=by decide +kernel
inductive aS:List V->Prop where
  | dig {lo hi:Int}(hl:lo<=hi) (h1:dG lo) (h2:dG hi):aS [.str "dig",.int lo,.int hi]
  | unit {x:Str}(hx:bq x=true):aS [.str "unit",.str x]
  | plain {kd x y:Str}(hk:kd∈lT) (hx:bq x=true) (hy:bq y=true):aS [.str kd,.str x,.str y]
  | after {x y:Str}{n:Int}(hx:bq x=true) (hy:bq y=true) (h0:0<=n) (h1:dG n):aS [.str "after",.str x,.str y,.int n]
  | find {nm x:Str}{lo hi:Int}(hn:bq nm=true) (hx:bq x=true) (hl:lo<=hi) (h1:dG lo) (h2:dG hi):aS [.str "find",.str nm,.str x,.int lo,.int hi]
theorem CZ:∀k∈lT,k∈vm:=by decide +kernel
theorem aS.signs {ws:List V}(h:aS ws):∀v∈ws,(∀c∈co (aR v),c≠32/\c≠10/\c≠59)/\co (aR v)≠[]:=by
  have F:∀x∈vm,(∀c∈co (aR (.str x)),c≠32/\c≠10/\c≠59)/\co (aR (.str x))≠[]:=Pd;cases h with
  | dig hl h1 h2=>
    intro v hv;simp only [List.mem_cons,List.not_mem_nil,or_false] at hv;rcases hv with rfl | rfl | rfl
    · exact F _ (by decide +kernel)
    · exact vj _
    · exact vj _
  | unit hx=>
    intro v hv;simp only [List.mem_cons,List.not_mem_nil,or_false] at hv;rcases hv with rfl | rfl
    · exact F _ (by decide +kernel)
    · exact mF hx
  | plain hk hx hy=>
    intro v hv;simp only [List.mem_cons,List.not_mem_nil,or_false] at hv;rcases hv with rfl | rfl | rfl
    · exact F _ (CZ _ hk)
    · exact mF hx
    · exact mF hy
  | after hx hy h0 h1=>
    intro v hv;simp only [List.mem_cons,List.not_mem_nil,or_false] at hv;rcases hv with rfl | rfl | rfl | rfl
    · exact F _ (by decide +kernel)
    · exact mF hx
    · exact mF hy
    · exact vj _
  | find hn hx hl h1 h2=>
    intro v hv;simp only [List.mem_cons,List.not_mem_nil,or_false] at hv;rcases hv with rfl | rfl | rfl | rfl | rfl
    · exact F _ (by decide +kernel)
    · exact mF hn
    · exact mF hx
    · exact vj _
    · exact vj _
theorem aS.ne {ws:List V}(h:aS ws):ws≠[]:=by cases h<;>simp
theorem aS.words {ws:List V}(h:aS ws):wordsOf (aW ws)=ws.map aR:=HK h.ne (fun v hv z=>((h.signs v hv).1 32 z).1 rfl) fun v hv=>(h.signs v hv).2
theorem C0 {s:List Nat}{c:Nat}:∀{l:List (List Nat)},c∈jc s l->c∈s\/∃x∈l,c∈x
  | [],h=>absurd h (by simp[jc])
  | [x],h=>.inr ⟨x,List.mem_cons_self ..,h⟩
  | x::y::r,h=>by
    have h:c∈x++s++jc s (y::r):=h;rcases List.mem_append.mp h with h | h
    · rcases List.mem_append.mp h with h | h
      · exact .inr ⟨x,List.mem_cons_self ..,h⟩
      · exact .inl h
    · rcases C0 h with h | ⟨z,hz,h⟩
      · exact .inl h
      · exact .inr ⟨z,List.mem_cons_of_mem _ hz,h⟩
theorem aS.tM {ws:List V}(h:aS ws):10 ∉ gD ws:=fun z=>by
  rcases C0 z with z | ⟨x,hx,z⟩
  · exact absurd z (by decide)
  · obtain⟨v,hv,rfl⟩:=List.mem_map.mp hx;exact ((h.signs v hv).1 10 z).2.1 rfl
theorem Pe {y:Str}:Txt.startswith y ";" = decide ((co y).head? = some 59):=by
  show Txt.startswith y (Str.ofString ";")=_;rw[show (Str.ofString ";" : Str)=⟨#[59]⟩ by decide +kernel];exact CJ y 59
theorem aS.gK {ws:List V}(h:aS ws):lF (ws.map aR)=false:=by
  cases ws with
  | nil=>exact absurd rfl h.ne
  | cons v r=>
    show Txt.startswith (aR v) ";" = false;rw[Pe];have s:=h.signs v (List.mem_cons_self ..);cases e:co (aR v) with
    | nil=>exact absurd e s.2
    | cons c l=>
      refine decide_eq_false fun z=>?_
      have z:c=59:=Option.some.inj z;exact (s.1 c (by rw[e];exact List.mem_cons_self ..)).2.2 z
structure RS where
  fr:Option (Int×Int)
  us:List Str
  ts:List (List V)
  fs:List (List V)
inductive bV:RS->List V->RS->Prop where
  | dig {us:List Str}{ts fs:List (List V)}{lo hi:Int}(hl:lo<=hi) (h1:dG lo) (h2:dG hi):bV ⟨none,us,ts,fs⟩ [.str "dig",.int lo,.int hi] ⟨some (lo,hi),us,ts,fs⟩
  | unit {f:Int×Int}{us:List Str}{ts fs:List (List V)}{x:Str}(hx:bq x=true) (hn:x ∉ us):bV ⟨some f,us,ts,fs⟩ [.str "unit",.str x] ⟨some f,us++[x],ts,fs⟩
  | je {f:Int×Int}{us:List Str}{ts fs:List (List V)}{ws:List V}(ht:bS us ws) (hn:ws ∉ ts):bV ⟨some f,us,ts,fs⟩ ws ⟨some f,us,ts++[ws],fs⟩
  | find {f:Int×Int}{us:List Str}{ts fs:List (List V)}{ws:List V}(hf:jx us fs ws):bV ⟨some f,us,ts,fs⟩ (.str "find" :: ws) ⟨some f,us,ts,fs++[ws]⟩
theorem bS.row {us:List Str}{ws:List V}(h:bS us ws) (hu:∀x∈us,bq x=true):aS ws:=by
  cases h with
  | plain hk hx hy=>exact .plain hk (hu _ hx) (hu _ hy)
  | after hx hy h0 h1=>exact .after (hu _ hx) (hu _ hy) h0 h1
theorem bV.row {s s':RS}{ws:List V}(h:bV s ws s') (hu:∀x∈s.us,bq x=true):aS ws/\∀x∈s'.us,bq x=true:=by
  cases h with
  | dig hl h1 h2=>exact⟨.dig hl h1 h2,hu⟩
  | unit hx hn=>
    refine⟨.unit hx,fun y hy=>?_⟩;rcases List.mem_append.mp hy with hy | hy
    · exact hu y hy
    · rw[List.mem_singleton] at hy;subst hy;exact hx
  | je ht hn=>exact⟨ht.row hu,hu⟩
  | find hf=>
    cases hf with
    | mk hn hx hl h1 h2 _=>exact⟨.find hn (hu _ hx) hl h1 h2,hu⟩
inductive Reads:RS->List Str->RS->Prop where
  | nil {s:RS}:Reads s [] s
  | skip {s s':RS}{l:Str}{ls:List Str}(h:lF (wordsOf l)=true) (r:Reads s ls s'):Reads s (l::ls) s'
  | row {s s1 s':RS}{l:Str}{ls:List Str}{ws:List V}(h:wordsOf l=ws.map aR) (st:bV s ws s1) (r:Reads s1 ls s'):Reads s (l::ls) s'
theorem Reads.append {s s1 s2:RS}{ls ms:List Str}(h:Reads s ls s1) (h2:Reads s1 ms s2):Reads s (ls++ms) s2:=by
  induction h with
  | nil=>exact h2
  | skip h _ ih=>exact .skip h (ih h2)
  | row h st _ ih=>exact .row h st (ih h2)
theorem Told.reads {us:List Str}{ts fs rs:List (List V)}{f:Int×Int}(t:Told us ts fs rs):Reads ⟨some f,[],[],[]⟩ (rs.map aW) ⟨some f,us,ts,fs⟩:=by
  induction t with
  | nil=>exact .nil
  | unit t hn hx ih=>
    rw[List.map_append];exact ih.append (.row (aS.unit hn).words (.unit hn hx) .nil)
  | je t h hn ih=>
    rw[List.map_append];exact ih.append (.row (h.row t.names.2).words (.je h hn) .nil)
  | find t h ih=>
    rw[List.map_append];have r:aS _:=(bV.find (f:=f) (ts:=[]) h).row t.names.2 |>.1
    exact ih.append (.row r.words (.find h) .nil)
theorem HL {α:Type}(xs:List α) (u v:α):fG (xs++[u,v]) (-2)=some u:=by
  have hl:(xs++[u,v]).length=xs.length+2:=by simp
  have e:nY (xs++[u,v]).length (-2)=some xs.length:=by
    unfold nY;rw[hl,if_neg (by decide),if_pos (by omega)]
    congr 1
    omega
  unfold fG;rw[e];simp
theorem HM {α:Type}(xs:List α) (u v:α):fG (xs++[u,v]) (-1)=some v:=by
  have:=BL (xs++[u]) v
  rwa [List.append_assoc] at this
def pJ:V->V->V
  | .str kd,.str y=>if kd=(Str.ofString "name" : Str) then .str y else .int (gp y)
  | _,_=>.aL
theorem HP (x:Str) (ks:List Str):wu (.str x) (ks.map V.str)=decide (x∈ks):=by
  unfold wu
  induction ks with
  | nil=>rfl
  | cons k r ih=>
    rw[List.map_cons,List.any_cons,ih];show ((k == x)||decide (x∈r))=_
    by_cases h:k=x
    · subst h;simp
    · rw[beq_eq_false_iff_ne.mpr h,Bool.false_or];exact decide_eq_decide.mpr ⟨fun z=>List.mem_cons_of_mem _ z,fun z=>(List.mem_cons.mp z).resolve_left fun e=>h e.symm⟩
def kW:V->Key
  | .str x=>.inr x
  | .int i=>.inl i
  | _=>.inl 0
theorem Pf {v:V}(h:Wd v):kV (kW v)=v:=by
  rcases h with ⟨x,rfl,_⟩ | ⟨i,rfl,_⟩<;>rfl
theorem xM {ws:List V}(h:∀v∈ws,Wd v):(ws.map kW).map kV=ws:=by
  rw[List.map_map];refine (List.map_congr_left fun v hv=>?_).trans (List.map_id' ws);exact Pf (h v hv)
theorem Pg {ws vs:List V}(h1:∀v∈ws,Wd v) (h2:∀v∈vs,Wd v) (e:ws.map kW=vs.map kW):ws=vs:=by
  rw[←xM h1,←xM h2,e]
theorem tN {κ:Type} [DecidableEq κ] {aq:List (κ×V)}{k:κ}(h:k ∉ aq.map (·.1)):dM aq k=none:=by
  unfold dM;rw[Option.map_eq_none_iff,List.find?_eq_none];intro x hx e;exact h (List.mem_map.mpr ⟨x,hx,by simpa using e⟩)
theorem Au {κ:Type} [DecidableEq κ] {aq:List (κ×V)}{k:κ}(h:k∈aq.map (·.1)):(dM aq k).isSome=true:=by
  rw[←zR,List.any_eq_true];obtain⟨x,hx,e⟩:=List.mem_map.mp h;exact⟨x,hx,decide_eq_true e⟩
theorem xN:¬(("frame" : Str) = "units"):=by decide +kernel
theorem xO:¬(("frame" : Str) = "ties"):=by decide +kernel
theorem xP:¬(("frame" : Str) = "finds"):=by decide +kernel
theorem xQ:¬(("units" : Str) = "ties"):=by decide +kernel
theorem xR:¬(("units" : Str) = "finds"):=by decide +kernel
theorem xS:¬(("ties" : Str) = "finds"):=by decide +kernel
def gM (fv:V) (du dt df:Addr):List (Str×V):=[("frame",fv),("units",.ref du),("ties",.ref dt),("finds",.ref df)]
theorem Ph (fv:V) (du dt df:Addr):bz "finds" (.ref df) (bz "ties" (.ref dt) (bz "units" (.ref du) (bz "frame" fv [])))=gM fv du dt df:=by
  show bz "finds" (.ref df) (bz "ties" (.ref dt) (if ("frame" : Str) = "units" then _ else _))=_;rw[if_neg xN];show bz "finds" (.ref df) (if ("frame" : Str) = "ties" then _ else (("frame" : Str),fv)::(if ("units" : Str) = "ties" then _ else _))=_;rw[if_neg xO,if_neg xQ];show (if ("frame" : Str) = "finds" then _ else (("frame" : Str),fv)::(if ("units" : Str) = "finds" then _ else (("units" : Str),V.ref du)::(if ("ties" : Str) = "finds" then _ else _)))=_;rw[if_neg xP,if_neg xR,if_neg xS];rfl
theorem Pj (fv qu:V) (du dt df:Addr):bz "frame" qu (gM fv du dt df)=gM qu du dt df:=by
  show (if ("frame" : Str) = "frame" then _ else _)=_;rw[if_pos rfl];rfl
theorem Av {k x:Str}{v:V}{r:List (Str×V)}(h:k=x):List.lookup k ((x,v)::r)=some v:=by subst h;simp
theorem oi {k x:Str}{v:V}{r:List (Str×V)}(h:¬k=x):List.lookup k ((x,v)::r)=List.lookup k r:=by
  rw[List.lookup_cons,beq_eq_false_iff_ne.mpr h]
theorem xT (fv:V) (du dt df:Addr):(gM fv du dt df).lookup ("frame" : Str)=some fv:=Av rfl
theorem vn (fv:V) (du dt df:Addr):(gM fv du dt df).lookup ("units" : Str)=some (.ref du):=by
  unfold gM;rw[oi (fun z=>xN z.symm),Av rfl]
theorem Aw (fv:V) (du dt df:Addr):(gM fv du dt df).lookup ("ties" : Str)=some (.ref dt):=by
  unfold gM;rw[oi (fun z=>xO z.symm),oi (fun z=>xQ z.symm),Av rfl]
theorem Ax (fv:V) (du dt df:Addr):(gM fv du dt df).lookup ("finds" : Str)=some (.ref df):=by
  unfold gM;rw[oi (fun z=>xP z.symm),oi (fun z=>xR z.symm),oi (fun z=>xS z.symm),Av rfl]
theorem jL (fv:V) (du dt df:Addr) {m:Str}(h:m ∉ (["frame","units","ties","finds"]:List Str)):(gM fv du dt df).lookup m=none:=by
  simp only [List.mem_cons,List.not_mem_nil,or_false,not_or] at h;unfold gM;rw[oi h.1,oi h.2.1,oi h.2.2.1,oi h.2.2.2];rfl
def dU (us:List Str):List (Key×V):=us.map fun x=>(Sum.inr x,V.bl true)
def oj (ts:List (List V)):List (List Key×V):=ts.map fun ws=>(ws.map kW,V.bl true)
def Pk:List V->Key
  | v::_=>kW v
  | []=>.inl 0
def dF (fs:List (List V)) (af:List Addr):List (Key×V):=(fs.map Pk).zip (af.map V.ref)
def Ay (H:Hp):Option (Int×Int)->V->Prop
  | none,v=>v = .aL
  | some (lo,hi),v=>∃p,v = .ref p/\H p=some (.tup [.int lo,.int hi])
structure aK (C:Addr) (H:Hp) (r du dt df:Addr) (s:RS):Prop where
  ob:∃dx fv,H r=some (.ins C dx (gM fv du dt df))/\Ay H s.fr fv
  u:H du=some (.dK (dU s.us))
  t:H dt=some (.dT (oj s.ts))
  f:∃af,aP H af s.fs/\H df=some (.dK (dF s.fs af))
  nu:du≠df
  names:∀x∈s.us,bq x=true
  fj:∀ws∈s.ts,∀v∈ws,Wd v
def cX (H H':Hp) (r du dt df:Addr):Prop:=∀b o,H b=some o->b≠r->b≠du->b≠dt->b≠df->H' b=some o
theorem cX.trans {H H1 H2:Hp}{r du dt df:Addr}(a:cX H H1 r du dt df) (b:cX H1 H2 r du dt df):cX H H2 r du dt df:=fun c o h h1 h2 h3 h4=>b c o (a c o h h1 h2 h3 h4) h1 h2 h3 h4
theorem aa.qv {H H':Hp}{r du dt df:Addr}(s:aa H H'):cX H H' r du dt df:=fun b o h _ _ _ _=>s b o h
theorem cX.same {H0 H H':Hp}{r du dt df:Addr}(s:aa H0 H) (k:cX H H' r du dt df) (h1:H0 r=none) (h2:H0 du=none) (h3:H0 dt=none) (h4:H0 df=none):aa H0 H':=fun b o e=>
  k b o (s b o e) (cI e h1) (cI e h2) (cI e h3) (cI e h4)
theorem aK.same {C:Addr}{H H':Hp}{r du dt df:Addr}{s:RS}(R:aK C H r du dt df s) (e:aa H H'):aK C H' r du dt df s:=by
  obtain⟨dx,fv,h,hv⟩:=R.ob;obtain⟨af,ht,hf⟩:=R.f;refine⟨⟨dx,fv,e _ _ h,?_⟩,e _ _ R.u,e _ _ R.t,⟨af,ht.same e,e _ _ hf⟩,R.nu,R.names,R.fj⟩;cases q:s.fr with
  | none=>rw[q] at hv;exact hv
  | some f=>
    rw[q] at hv;obtain⟨p,e1,e2⟩:=hv;exact⟨p,e1,e _ _ e2⟩
theorem Ay.bH {H H':Hp}{o:Option (Int×Int)}{v:V}(h:Ay H o v) (st:∀b xs,H b=some (.tup xs)->H' b=some (.tup xs)):Ay H' o v:=by
  cases o with
  | none=>exact h
  | some f=>
    obtain⟨p,e1,e2⟩:=h;exact⟨p,e1,st _ _ e2⟩
theorem iN {us:List Str}{x:Str}:(Sum.inr x:Key)∈(dU us).map (·.1)↔x∈us:=by
  unfold dU;rw[List.map_map];constructor
  · intro h;obtain⟨y,hy,e⟩:=List.mem_map.mp h;cases e;exact hy
  · intro h;exact List.mem_map.mpr ⟨x,h,rfl⟩
theorem Pn {us:List Str}{x:Str}(h:x ∉ us):putK (dU us) (Sum.inr x:Key) (.bl true)=dU (us++[x]):=by
  rw[BW _ (tN fun z=>h (iN.mp z))];unfold dU;rw[List.map_append];rfl
theorem Az {ts:List (List V)}{ws:List V}(h1:∀vs∈ts,∀v∈vs,Wd v) (h2:∀v∈ws,Wd v):ws.map kW∈(oj ts).map (·.1)↔ws∈ts:=by
  unfold oj;rw[List.map_map];constructor
  · intro h;obtain⟨y,hy,e⟩:=List.mem_map.mp h;rw[←Pg (h1 y hy) h2 e];exact hy
  · intro h;exact List.mem_map.mpr ⟨ws,h,rfl⟩
theorem Po {ts:List (List V)}{ws:List V}(h1:∀vs∈ts,∀v∈vs,Wd v) (h2:∀v∈ws,Wd v) (h:ws ∉ ts):putK (oj ts) (ws.map kW) (.bl true)=oj (ts++[ws]):=by
  rw[BW _ (tN fun z=>h ((Az h1 h2).mp z))];unfold oj;rw[List.map_append];rfl
theorem HQ {fs:List (List V)}{af:List Addr}{ws:List V}{p:Addr}{nm:Str}(hl:af.length=fs.length) (hn:∀f∈fs,f.head?≠some (.str nm)) (hw:∃r,ws = .str nm::r) (jy:∀f∈fs,∃x r,f=V.str x::r) :
    dM (dF fs af) (Sum.inr nm:Key)=none/\putK (dF fs af) (Sum.inr nm:Key) (.ref p)=dF (fs++[ws]) (af++[p]):=by
  have e:dM (dF fs af) (Sum.inr nm:Key)=none:=tN fun z=>by
    unfold dF at z;rw[List.map_fst_zip (by simp;omega)] at z;obtain⟨f,hf,ef⟩:=List.mem_map.mp z;obtain⟨x,r,rfl⟩:=jy f hf;have ef:(Sum.inr x:Key)=Sum.inr nm:=ef;cases ef;exact hn _ hf rfl
  refine⟨e,?_⟩;rw[BW _ e];obtain⟨r,rfl⟩:=hw;unfold dF;rw[List.map_append,List.map_append,List.zip_append (by simp;omega)];rfl
end Dm
namespace L2
open PySem PySem.Spec PyProof.Rows
structure cu (bm:List Value):Prop where
  v:bm.contains (.type "ValueError")=true
  b:bm.contains (.type "BaseException")=true
  a:bm.contains (.type "AttributeError")=false
  n:bm.contains (.type "NameError")=false
def iO (h:Heap) (C:Addr) (bm:List Value):Prop:=∃nm q N bs tO sn sub ab col dd k0 k1 k2 k3 k5,h.get? C=some (excClassObj nm q C N bs bm tO sn sub ab col dd k0 k1 k2 k3 k5 "ValueError.__new__")
theorem xU {C:Addr}{bm:List Value}{T:String}{b:Bool}(h:bm.contains (.type T)=b):(Value.ref C::bm).contains (.type T)=b:=by
  rw[List.contains_cons,h];rfl
section
variable {prog:Program}{w:World}{A:Around}{h:Heap}{g:Array GenState}{d:Drawn}{t:Nat}{os:OsState}{C:Addr}{bm:List Value}
theorem Pp {R:Result->Shared->Prop}(U:cu bm) (x:iO h C bm) {us:List Value}(hz:us.length<=sizeLine)
    (k:R (.ok (.ret (.ref (h.objs.size+1)))) { heap:=(h.push { cls:=.type "tuple",data:=.seq us.toArray }).push { cls:=.ref C,data:=.fields #[.ref h.objs.size,.none,.none,.none,.bool false,.none] },gens:=g,drawn:=d,toks:=t,os:=os }) :
    codeAny (model prog w) A (.builtin "ValueError.__new__" ⟨.ref C::us,[]⟩) R { heap:=h,gens:=g,drawn:=d,toks:=t,os:=os }:=by
  obtain⟨a1,a2,a3,a4,a5,a6,a7,a8,a9,b1,b2,b3,b4,b5,b6,e⟩:=x;have F:=PySem.F.excBase_ValueError;have f1:=F.ends;have c1:=xU (C:=C) U.v;have c2:=xU (C:=C) U.a;have c3:=xU (C:=C) U.n;refine codeAny_builtinAt F.entry ?_;unfold Builtin.«BaseException.__new__»;refine PySem.wpAt_bind (show PySem.wpAt (model prog w) _ _ (stack >>= _) _ _ _ from PySem.wpAt_bind (PySem.wpAt_stack fun p below=>PySem.wpAt_of_wpAny ?_))
  wp_walk
  refine PySem.wpAt_of_wpAny ?_;rw[F.owner]
  repeat (first
    | with_reducible refine wpAny_madeHere_exc F.canon e ?_
    | with_reducible refine wpAny_loadPart_at e ?_
    | (with_reducible refine wpAny_isSubtype_exc e ?_
       first | rw[c1] | rw[c2] | rw[c3])
    | wp_step)
  show R _ _;rw[Heap.size_push];exact k
theorem Pq {M:Model}{E:Value->Shared->Prop}(U:cu bm) (x:iO h C bm) {us:List Value}{Q:Unit->Shared->Prop}(k:Q () { heap:=h,gens:=g,drawn:=d,toks:=t,os:=os }) :
    wpAny M A (checkBuiltinCall "ValueError.__new__" ⟨.ref C::us,[]⟩) Q E { heap:=h,gens:=g,drawn:=d,toks:=t,os:=os }:=by
  obtain⟨a1,a2,a3,a4,a5,a6,a7,a8,a9,b1,b2,b3,b4,b5,b6,e⟩:=x;exact wpAny_check_new_subU PySem.F.excBase_ValueError U.v .base e k
theorem Pr {E:Value->Shared->Prop}{vI:Value}{us:List Value}{Q:Fin->Shared->Prop}(U:cu bm) (x:iO h C bm) (hz:us.length<=sizeLine)
    (lk:PySem.W.Looks (model prog w) h (typeLookup (.ref C) "__init__") (some (vI))) (bd:∀self,PySem.W.Looks (model prog w) h (bindSpecial (vI) self) (vI,[self]))
    (k:∀h' e,h.objs.size<=e->Heap.MadeExcOf h h' e (.ref C) us->wpAny (model prog w) A (call (vI) (.ref e::us)) (fun r s'=>r = .none/\Q (.done (.ret (.ref e))) s') E { heap:=h',gens:=g,drawn:=d,toks:=t,os:=os }) :
    wpAny (model prog w) A (Builtin.«type.__call__» ⟨.ref C::us,[]⟩) Q E { heap:=h,gens:=g,drawn:=d,toks:=t,os:=os }:=by
  have x':=x;obtain⟨a1,a2,a3,a4,a5,a6,a7,a8,a9,b1,b2,b3,b4,b5,b6,e⟩:=x';have F:=PySem.F.excBase_ValueError
  repeat (first | with_reducible refine wpAny_loadPart_at e ?_ | with_reducible refine wpAny_madeBy_exc e ?_ | wp_step)
  refine codeAny_call_builtin_code (Code.quiet_builtin _ F.quiet) (Pq U x ?_);refine Pp U x hz ?_;show wpAny (model prog w) _ _ _ _ _;have kp:∀b o,h.get? b=some o->((h.push { cls:=.type "tuple",data:=.seq us.toArray }).push { cls:=.ref C,data:=.fields #[.ref h.objs.size,.none,.none,.none,.bool false,.none] }).get? b=some o:=
    fun b o q=>Heap.get?_push_of_some _ (Heap.get?_push_of_some _ q)
  have tP:((h.push { cls:=.type "tuple",data:=.seq us.toArray }).push { cls:=.ref C,data:=.fields #[.ref h.objs.size,.none,.none,.none,.bool false,.none] }).get? (h.objs.size+1) =
      some { cls:=.ref C,data:=.fields #[.ref h.objs.size,.none,.none,.none,.bool false,.none] }:=by heap_get
  have ht:((h.push { cls:=.type "tuple",data:=.seq us.toArray }).push { cls:=.ref C,data:=.fields #[.ref h.objs.size,.none,.none,.none,.bool false,.none] }).get? h.objs.size =
      some { cls:=.type "tuple",data:=.seq us.toArray }:=Heap.get?_push_of_some _ (Heap.get?_push_at rfl rfl)
  have made:Heap.MadeExcOf h ((h.push { cls:=.type "tuple",data:=.seq us.toArray }).push { cls:=.ref C,data:=.fields #[.ref h.objs.size,.none,.none,.none,.bool false,.none] }) (h.objs.size+1) (.ref C) us:=
    ⟨kp,Heap.get?_none_of_le (Nat.le_succ _),h.objs.size,tP,Heap.get?_none_of_le (Nat.le_refl _),ht⟩
  have go:=k _ _ (Nat.le_succ _) made;have e1:=kp _ _ e;have HR:=lk.keeps kp;have HS:=fun self=>(bd self).keeps kp
  generalize (h.push { cls:=.type "tuple",data:=.seq us.toArray }).push { cls:=.ref C,data:=.fields #[.ref h.objs.size,.none,.none,.none,.bool false,.none] } = h1 at tP go e1 HR HS;have cC:(Value.ref C::bm).contains (.ref C)=true:=by simp
  unfold isInstance
  repeat (first | with_reducible refine wpAny_loadPart_at tP ?_ | (with_reducible refine wpAny_isSubtype_exc e1 ?_;rw[cC]) | wp_step)
  show wpAny (model prog w) _ (typeLookup (.ref C) _) _ _ _;refine HR.at (wpAny_holding (wpAny_bind ((HS _).at ?_)));refine wpAny_bind (wpAny_mono go (fun r s' hr=>?_) fun _ _ z=>z);obtain⟨rfl,q⟩:=hr
  wp_walk
  exact q
theorem HU {E:Value->Shared->Prop}{vI:Value}{us:List Value}{Q:Value->Shared->Prop}(U:cu bm) (x:iO h C bm) (hz:us.length<=sizeLine)
    (lk:PySem.W.Looks (model prog w) h (typeLookup (.ref C) "__init__") (some (vI))) (bd:∀self,PySem.W.Looks (model prog w) h (bindSpecial (vI) self) (vI,[self]))
    (k:∀h' e,h.objs.size<=e->Heap.MadeExcOf h h' e (.ref C) us->wpAny (model prog w) (A.under (.builtin "type.__call__" ⟨.ref C::us,[]⟩)) (call (vI) (.ref e::us)) (fun r s'=>r = .none/\Q (.ref e) s') E { heap:=h',gens:=g,drawn:=d,toks:=t,os:=os }) :
    wpAny (model prog w) A (call (.ref C) us) Q E { heap:=h,gens:=g,drawn:=d,toks:=t,os:=os }:=by
  have x':=x;obtain⟨a1,a2,a3,a4,a5,a6,a7,a8,a9,b1,b2,b3,b4,b5,b6,e⟩:=x';have f1:=tc_lookup;have f2:=tc_bind (.ref C);have hT:({ heap:=h,gens:=g,drawn:=d,toks:=t,os:=os }:Shared).TypeIs (.ref C) "type":=⟨_,e,rfl⟩;refine wpAny_call (codeAny_of_tree (show wpAny (model prog w) _ (callAny (.ref C) _) _ _ _ from ?_))
  repeat (any_goals (first | assumption | with_reducible refine wpAny_loadPart_at e ?_ | wp_step))
  refine⟨rfl,codeAny_call_builtin_at (Code.quiet_builtin _ (by decide +kernel)) entry_typeCall (wpAny_check_type_call_sub e (Pr U x hz lk bd fun h' e' hs hm=>?_))⟩;exact k h' e' hs hm
end
section
variable {prog:Program}{w:World}{A:Around}{E:Value->Shared->Prop}{s:Shared}{env:Env}{bm:List Value}
theorem Pu {y:Sem Value}{Q:Flow->Shared->Prop}(U:cu bm) (hh:A.handled=none)
    (k:wpAny (model prog w) A y (fun v s1=>∃e C oe vs,v = .ref e/\iO s1.heap C bm/\s1.heap.get? e=some oe/\oe.cls = .ref C/\oe.data = .fields vs/\vs[1]? = some .none/\E (.ref e) s1) E s) :
    wpAny (model prog w) A (raiseStmt env (some y) none) Q E s:=by
  unfold raiseStmt;refine wpAny_bind (wpAny_mono k (fun v s1 k1=>?_) fun _ _ z=>z);obtain⟨e,C,oe,vs,rfl,⟨a1,a2,a3,a4,a5,a6,a7,a8,a9,b1,b2,b3,b4,b5,b6,o⟩,he,hc,hd,h1,hE⟩:=k1;have cB:=xU (C:=C) U.b;obtain⟨hp,g,d,tk,os⟩:=s1
  repeat (first
    | (with_reducible refine wpAny_loadPart_at he ?_;rw[hc])
    | with_reducible refine wpAny_loadPart_at o ?_
    | (with_reducible refine wpAny_isSubtype_exc o ?_;rw[cB])
    | wp_step)
  rw[hd];refine wpAny_pure ?_;rw[h1];refine wpAny_pure ?_;rw[if_neg (by decide)];exact wpAny_pure (wpAny_raiseNew_none hh hE)
theorem Pw {x:Str}{C:Addr}{vI:Value}{np aY pos:Pos}{a:PySem.Expr}{as:List PySem.Expr}{Q:Flow->Shared->Prop}(U:cu bm) (hh:A.handled=none)
    (i8:starEach (a::as) env=(false,eval a env)::starEach as env) (bY:(backTo aY (starEach as env)).any (·.1)=false)
    (k:wpAny (model prog w) A (eval (.Name x np) env) (fun f s1=>f = .ref C/\wpAny (model prog w) A (spliced (backTo aY (starEach (a::as) env)))
      (fun us s2=>us.length<=sizeLine/\iO s2.heap C bm/\PySem.W.Looks (model prog w) s2.heap (typeLookup (.ref C) "__init__") (some (vI))/\(∀self,PySem.W.Looks (model prog w) s2.heap (bindSpecial (vI) self) (vI,[self]))/\
        ∀h' e,s2.heap.objs.size<=e->Heap.MadeExcOf s2.heap h' e (.ref C) us->wpAny (model prog w) (A.under (.builtin "type.__call__" ⟨.ref C::us,[]⟩)) (call (vI) (.ref e::us))
          (fun r s3=>r = .none/\∃oe vs,iO s3.heap C bm/\s3.heap.get? e=some oe/\oe.cls = .ref C/\oe.data = .fields vs/\vs[1]? = some .none/\E (.ref e) s3) E { s2 with heap:=h' }) E s1) E s) :
    wpAny (model prog w) A (exec (.Raise (some (.Call (.Name x np) (a::as) [] aY)) none pos) env) Q E s:=by
  rw[arm_exec_Raise];simp only [evalOpt,Option.map];refine wpAny_bind (wpAny_standAt (Pu U hh (wpAny_bind (wpAny_mono (wpAny_Call_ofName (wpAny_mono k (fun f s1 k1=>?_) fun _ _ z=>z)) (fun v s3 k3=>wpAny_bind (wpAny_standAt (wpAny_pure k3))) fun _ _ z=>z))));obtain⟨rfl,k1⟩:=k1;unfold callWith;have any:(backTo aY (starEach (a::as) env)).any (·.1)=false:=by
    rw[i8];show (false||(backTo aY (starEach as env)).any (·.1))=false;rw[bY];rfl
  rw[i8] at k1 ⊢;refine wpAny_bind (wpAny_holding (Calls.evalArgs_plain (wpAny_mono k1 (fun us s2 k2=>wpAny_bind (wpAny_standAt ?_)) fun _ _ z=>z)));obtain⟨hz,xo,lk,bd,go⟩:=k2;obtain⟨hp,g,d,tk,os⟩:=s2;rw[i8] at any;simp only [any];have C1:=xo;obtain⟨a1,a2,a3,a4,a5,a6,a7,a8,a9,b1,b2,b3,b4,b5,b6,o⟩:=C1;refine wpAny_bind (wpAny_keeperOf_exc o ?_);refine wpAny_bind (HU U xo hz lk bd fun h' e hs hm=>wpAny_mono (go h' e hs hm) (fun r s3 q=>?_) fun _ _ z=>z);obtain⟨r0,oe,vs,q⟩:=q;exact⟨r0,wpAny_bind (wpAny_holding (wpAny_point (wpAny_pure ⟨e,C,oe,vs,rfl,q⟩)))⟩
end
theorem C2 {o:Obj}{vs:Array Value}(h:o.data = .fields vs) (f:Array Value->Array Value):Obj.mapFields f o = { o with data:=.fields (f vs) }:=by
  obtain⟨c,d,dt,sl⟩:=o;cases h;rfl
structure lU (fs:List Addr) (e T:Addr) (xs:List Addr) (oe:Obj) (vs:Array Value) (h h':Heap):Prop where
  keep:∀b o,b≠e->b ∉ fs->b ∉ xs->h.get? b=some o->h'.get? b=some o
  slot:∀b o,b∈fs->h.get? b=some o->∃sl,h'.get? b=some { o with slots:=sl }
  new:h.get? T=none
  exc:h'.get? e=some { oe with data:=.fields (vs.setIfInBounds 1 (.ref T)) }
  ent:∃oT ts,h'.get? T=some oT/\oT.data = .fields ts/\ts[3]? = some .none
section
variable {M:Model}{A:Around}{E:Value->Shared->Prop}{s:Shared}
theorem C3 {base:Heap}{env:Env}{outer:List Env}{L e:Addr}{oe:Obj}{vs:Array Value}{head:Value}{nx:Bool}{Q:Unit->Shared->Prop}
    (fR:A.frames=some (env::outer)) (hl:s.heap.FunFrames base (env::outer)) (hf:env.frame=some L) (he:s.heap.get? e=some oe) (hd:oe.data = .fields vs) (hz:1<vs.size)
    (k:∀h',lU (cR (env::outer)) e s.heap.objs.size [] oe vs s.heap h'->Q () { s with heap:=h' }) :
    wpAny M A (do let a ←frameOf env;let pl ←entryPlaceOf L nx;let b ←EntryCells.newEntry head a .none (rawInt L) .none pl;setField (.ref e) 1 b) (fun _ s'=>wpAny M A (setFlight (.ref e) none) Q E s') E s:=by
  have nf:∀b∈cR (env::outer),∃o,s.heap.get? b=some o/\∀us,o.data≠.fields us:=fun b hb=>(hl.mem hb).2
  have ne:e ∉ cR (env::outer):=fun hm=>by
    obtain⟨o,ho,hn⟩:=nf e hm;rw[he] at ho;cases ho;exact hn vs hd
  refine wpAny_bind (wpAny_frameOf_fun fR hl hf fun h1 s1=>?_);obtain⟨z1,k1,u1⟩:=s1;refine wpAny_bind (wpAny_entryPlaceOf fun pl bY=>?_);unfold EntryCells.newEntry newFields;refine wpAny_bind (wpAny_newObj_type ?_ (bY.sizeOk5 _ _ _ _ _));have e1:h1.get? e=some oe:=(k1 e ne).trans he;generalize hN:({ cls:=.type "traceback",dict:=none,data:=.fields ([head,.ref L,.none,rawInt L,.none]++(if pl.isEmpty then List.replicate 6 Value.none else pl)).toArray }:Obj)=N;have dN:N.data = .fields ([head,.ref L,.none,rawInt L,.none]++(if pl.isEmpty then List.replicate 6 Value.none else pl)).toArray:=by rw[←hN]
  generalize xV:([head,.ref L,.none,rawInt L,.none]++(if pl.isEmpty then List.replicate 6 Value.none else pl)).toArray=ts at dN;have zt:3<ts.size:=by rw[←xV];simp
  have fN:N.isFreed=false:=Obj.isFreed_of_fields dN;have e2:=Heap.get?_push_of_some (h:=h1) N e1;refine wpAny_setField e2 hd hz ?_;have Te:h1.objs.size≠e:=Nat.ne_of_gt (Heap.lt_size e1);have e3:=Heap.get?_update_self (Obj.mapFields (·.setIfInBounds 1 (Value.ref h1.objs.size))) e2 (Obj.isFreed_of_fields (Obj.data_mapFields hd _));rw[C2 hd] at e3;have t3:=(Heap.get?_update_other (h1.push N) (Obj.mapFields (·.setIfInBounds 1 (Value.ref h1.objs.size))) (Ne.symm Te)).trans (Heap.get?_push_size h1 fN);unfold setFlight;refine wpAny_bind (wpAny_field e3 rfl (x:=.ref h1.objs.size) (by simp[hz]) ?_);rw[if_pos (show (Value.ref h1.objs.size != Value.none)=true from by simp)];refine wpAny_setField t3 dN zt (k _ ?_);have t4:=Heap.get?_update_self (Obj.mapFields (·.setIfInBounds 3 ((none:Option Addr).elim Value.none fun f=>rawInt f))) t3 (Obj.isFreed_of_fields (Obj.data_mapFields dN _));have fS:∀b o,b≠e->h1.get? b=some o->(((h1.push N).update e (Obj.mapFields (·.setIfInBounds 1 (Value.ref h1.objs.size)))).update h1.objs.size (Obj.mapFields (·.setIfInBounds 3 ((none:Option Addr).elim Value.none fun f=>rawInt f)))).get? b=some o:=fun b o hb q=>by
    rw[Heap.get?_update_other _ _ (Nat.ne_of_gt (Heap.lt_size q)),Heap.get?_update_other _ _ (Ne.symm hb)];exact Heap.get?_push_of_some _ q
  refine⟨fun b o hb hn _ q=>fS b o hb ((k1 b hn).trans q),fun b o hb q=>?_,Heap.get?_none_of_le (Nat.le_refl _),?_,?_⟩
  · obtain⟨sl,q1⟩:=u1 b o q;exact⟨sl,fS b _ (fun z=>ne (z▸hb)) q1⟩
  · rw[Heap.get?_update_other _ _ Te,e3,z1]
  · rw[←z1];exact⟨_,_,t4,Obj.data_mapFields dN _,by simp[zt]⟩
theorem Px {base:Heap}{env:Env}{outer:List Env}{L e:Addr}{oe:Obj}{vs:Array Value}{Q:Unit->Shared->Prop}
    (fR:A.frames=some (env::outer)) (hl:s.heap.FunFrames base (env::outer)) (hf:env.frame=some L) (he:s.heap.get? e=some oe) (hd:oe.data = .fields vs) (h1:vs[1]? = some .none)
    (k:∀h',lU (cR (env::outer)) e s.heap.objs.size [] oe vs s.heap h'->Q () { s with heap:=h' }):wpAny M A (leaving env (.ref e)) Q E s:=by
  unfold leaving noteFrame;simp only [hf];refine wpAny_bind (wpAny_bind (wpAny_field he hd h1 ?_));rw[if_neg (by decide)];exact C3 fR hl hf he hd (Array.getElem?_eq_some_iff.mp h1).1 k
theorem Py {base:Heap}{env:Env}{outer:List Env}{L e T:Addr}{oe oT:Obj}{vs ts:Array Value}{Q:Unit->Shared->Prop}
    (fR:A.frames=some (env::outer)) (hl:s.heap.FunFrames base (env::outer)) (hf:env.frame=some L) (he:s.heap.get? e=some oe) (hd:oe.data = .fields vs) (h1:vs[1]? = some (.ref T))
    (hT:s.heap.get? T=some oT) (dT:oT.data = .fields ts) (h3:ts[3]? = some .none) (ne:T≠e)
    (k:∀h',lU (cR (env::outer)) e s.heap.objs.size [T] oe vs s.heap h'->Q () { s with heap:=h' }):wpAny M A (leaving env (.ref e)) Q E s:=by
  unfold leaving noteFrame;simp only [hf];refine wpAny_bind (wpAny_bind (wpAny_field he hd h1 ?_));rw[if_pos (show (Value.ref T != Value.none)=true from by simp)];refine wpAny_bind (wpAny_field hT dT h3 ?_);rw[if_neg (show ¬((Value.none == rawInt L)=true) from by simp[rawInt])];have z3:=(Array.getElem?_eq_some_iff.mp h3).1;refine wpAny_bind (wpAny_setField hT dT z3 ?_);have fS:∀b,b≠T->(s.heap.update T (Obj.mapFields (·.setIfInBounds 3 Value.none))).get? b=s.heap.get? b:=fun b hb=>Heap.get?_update_other _ _ (Ne.symm hb)
  have self:=Heap.get?_update_self (Obj.mapFields (·.setIfInBounds 3 Value.none)) hT (Obj.isFreed_of_fields (Obj.data_mapFields dT _));have nf:T ∉ cR (env::outer):=fun hm=>by
    obtain⟨_,o,ho,hn⟩:=hl.mem hm;rw[hT] at ho;cases ho;exact hn ts dT
  have sz:(s.heap.update T (Obj.mapFields (·.setIfInBounds 3 Value.none))).objs.size=s.heap.objs.size:=Heap.size_after_update ..;refine C3 (s:={ s with heap:=s.heap.update T (Obj.mapFields (·.setIfInBounds 3 Value.none)) }) fR (hl.of_keeps fun b o hb hn=>⟨o,(fS b fun z=>?_).trans hb,rfl⟩) hf ((fS e ne.symm).trans he) hd (Array.getElem?_eq_some_iff.mp h1).1 fun h' G=>?_
  · subst z;rw[hT] at hb;cases hb;exact hn ts dT
  · have e1:(s.heap.update T (Obj.mapFields (·.setIfInBounds 3 Value.none))).objs.size=s.heap.objs.size:=sz;have G:=G;dsimp only at G;rw[e1] at G;refine k h' ⟨fun b o hb hn hx q=>G.keep b o hb hn (by simp) ((fS b fun z=>hx (by simp[z])).trans q),fun b o hb q=>G.slot b o hb ((fS b fun z=>nf (z▸hb)).trans q),Heap.get?_none_of_le (Nat.le_refl _),G.exc,G.ent⟩
end
def qw (H:Hp) (h0 h:Heap) (e:Addr) (cls:Value) (dc:Option Addr):Prop:=
  ∃(oe:Obj) (vs:Array Value) (T:Addr) (oT:Obj) (ts:Array Value),h.get? e=some oe/\oe.cls=cls/\oe.dict=dc/\oe.data = .fields vs/\vs[1]? = some (.ref T)/\T≠e/\h.get? T=some oT/\oT.data = .fields ts/\ts[3]? = some .none/\
    H e=none/\H T=none/\h0.objs.size<=e/\h0.objs.size<=T
def Pz (H:Hp) (h0 h:Heap) (e:Addr) (cls:Value) (dc:Option Addr):Prop:=
  ∃(oe:Obj) (vs:Array Value),h.get? e=some oe/\oe.cls=cls/\oe.dict=dc/\oe.data = .fields vs/\vs[1]? = some .none/\H e=none/\h0.objs.size<=e
def i6 (P:Program) (w:World):jJ:=fun outer H s E u s'=>∃(e:Addr) (cls:Value) (dc:Option Addr) (H':Hp),u = .ref e/\s'.os=s.os/\AllBare s'.gens/\Un (cR outer) [] H H' s.heap s'.heap/\fq P w H' s'.heap/\
  qw H' s.heap s'.heap e cls dc/\E cls dc H'
def gO (X:Cx) (E:XK):Prop:=X.xe=(fun u s'=>wpAny (model X.prog X.w) X.A (leaving X.env u) (fun _ kc=>i6 X.prog X.w X.outer X.jM X.bw E u kc) (fun u' kc=>i6 X.prog X.w X.outer X.jM X.bw E u' kc) s')/\
  X.stack=X.env::X.outer/\X.env.frame=some X.env.locals/\X.ex = []
theorem aG {P:Program}{w:World}{K:PySem.W.Frag}{mg:Str->Option Value}{base:Heap}{N:List Str}{qual:Str}{scope:Scope}{f:Addr}{cd:Value}{A:Around}{outer:List Env}{s:Shared}{H:Hp}{E:XK} :
    gO (aA (i6 P w) P w K mg base N qual scope f cd A outer s H E) E:=⟨rfl,rfl,rfl,rfl⟩
section
variable {X:Cx}{pins:List (Addr×Obj)}{σ:St}{H:Hp}{s:Shared}{E:XK}{e:Addr}{cls:Value}{dc:Option Addr}
theorem AA {h':Heap}{T:Addr}{xs:List Addr}{oe:Obj}{vs:Array Value}(I:Inv X pins σ H s) (x:gO X E) (G:lU (cR (X.env::X.outer)) e T xs oe vs s.heap h') (hc:oe.cls=cls) (jZ:oe.dict=dc) (hz:1<vs.size)
    (He:H e=none) (nz:X.bw.heap.objs.size<=e) (HV:∀b∈xs,H b=none/\X.bw.heap.objs.size<=b) (lG:T≠e) (hsz:s.heap.objs.size<=T) (hE:E cls dc H) :
    i6 X.prog X.w X.outer X.jM X.bw E (.ref e) { s with heap:=h' }:=by
  obtain⟨x1,x2,x3,x4⟩:=x;have ne:X.bw.heap.get? e=none:=Heap.get?_none_of_le nz;have hx:∀b∈xs,H b=none/\X.bw.heap.get? b=none:=fun b hb=>⟨(HV b hb).1,Heap.get?_none_of_le (HV b hb).2⟩
  have nL:∀b o,X.bw.heap.get? b=some o->b≠X.env.locals:=fun b o q z=>absurd (Heap.lt_size q) (Nat.not_lt.mpr (z▸I.ok.above))
  have fr:∀b,b∈cR (X.env::X.outer)->b=X.env.locals\/b∈cR X.outer:=fun b hb=>by
    unfold cR at hb;rw[List.filterMap_cons,x3] at hb;exact List.mem_cons.mp hb
  have PB:∀b,b∈cR X.outer->b∈cR (X.env::X.outer):=fun b hb=>by
    unfold cR;rw[List.filterMap_cons,x3];exact List.mem_cons_of_mem _ hb
  have pK:∀b o,X.bw.heap.get? b=some o->b≠e/\b ∉ xs:=fun b o q=>⟨fun z=>(by rw[z,ne] at q;cases q),fun z=>(by rw[(hx b z).2] at q;cases q)⟩
  have HT:H T=none:=I.aF.fresh hsz;have sf:∀b∈cR (X.env::X.outer),H b=none:=by
    have:=I.iz;rw[x2] at this;exact this
  refine⟨e,cls,dc,H,rfl,I.os,I.bare,?_,?_,?_,hE⟩
  · refine⟨fun b o q n nf _=>?_,fun b o q n nf _=>?_,fun b o q n _=>I.base.free b o q n (by rw[x4];simp),fun b o q _=>?_,I.base.eW,I.base.gE,I.base.gW⟩
    · exact G.keep b o (pK b o q).1 (fun z=>(fr b z).elim (nL b o q) nf) (pK b o q).2 (I.base.keep b o q n nf (by rw[x4];simp))
    · obtain⟨sl,z⟩:=I.base.slot b o q n nf (by rw[x4];simp);obtain⟨rj,z'⟩:=G.slot b _ (PB b nf) z;exact⟨rj,z'⟩
    · obtain⟨o',z⟩:=I.base.there b o q (by rw[x4];simp)
      by_cases hb:b∈cR (X.env::X.outer)
      · obtain⟨sl,z'⟩:=G.slot b _ hb z;exact⟨_,z'⟩
      · exact⟨_,G.keep b _ (pK b o q).1 hb (pK b o q).2 z⟩
  · intro a o q;refine (I.aF a o q).bH (fun b u hb z=>?_) (fun _ z=>z) fun _ _ z=>z
    have Hb:H b≠none:=by
      rcases hb with z | z
      · rw[z,q];simp
      · rw[z];simp
    exact G.keep b u (fun z=>Hb (z▸He)) (fun z=>Hb (sf b z)) (fun z=>Hb (hx b z).1) z
  · obtain⟨oT,ts,t1,t2,t3⟩:=G.ent;refine⟨_,_,T,oT,ts,G.exc,hc,jZ,rfl,by simp[hz],lG,t1,t2,t3,He,HT,nz,Nat.le_trans I.sz hsz⟩
theorem PD (I:Inv X pins σ H s) (x:gO X E) (r:Pz H X.bw.heap s.heap e cls dc) (hE:E cls dc H):X.xe (.ref e) s:=by
  obtain⟨oe,vs,he,hc,jZ,hd,h1,He,ne⟩:=r;have x':=x;obtain⟨x1,x2,x3,x4⟩:=x';rw[x1];have fr:=I.ok.frames;have st:=I.stack;rw[x2] at fr st;exact Px fr st x3 he hd h1 fun h' G=>AA I x G hc jZ (Array.getElem?_eq_some_iff.mp h1).1 He ne (fun b hb=>absurd hb (by simp)) (Nat.ne_of_gt (Heap.lt_size he)) (Nat.le_refl _) hE
theorem PF (I:Inv X pins σ H s) (x:gO X E) (r:qw H X.bw.heap s.heap e cls dc) (hE:E cls dc H):X.xe (.ref e) s:=by
  obtain⟨oe,vs,T,oT,ts,he,hc,jZ,hd,h1,lG,hT,dT,h3,He,HT,ne,nT⟩:=r;have x':=x;obtain⟨x1,x2,x3,x4⟩:=x';rw[x1];have fr:=I.ok.frames;have st:=I.stack;rw[x2] at fr st;refine Py fr st x3 he hd h1 hT dT h3 lG fun h' G=>AA I x G hc jZ (Array.getElem?_eq_some_iff.mp h1).1 He ne (fun b hb=>?_) (Nat.ne_of_gt (Heap.lt_size he)) (Nat.le_refl _) hE
  rw[List.mem_singleton] at hb;subst hb;exact⟨HT,nT⟩
theorem HW (x:gO X E):lP (i6 X.prog X.w) X E:=by
  intro pins σ H s u s' I h;obtain⟨e,cls,dc,H',rfl,os,bare,un,aF,fl,hE⟩:=h;have I':=I.jP os un aF bare (ch:=[]) (fun b z=>absurd z (by simp));obtain⟨oe,vs,T,oT,ts,he,hc,jZ,hd,h1,lG,hT,dT,h3,He,HT,ne,nT⟩:=fl;exact PF I' x ⟨oe,vs,T,oT,ts,he,hc,jZ,hd,h1,lG,hT,dT,h3,He,HT,Nat.le_trans I.sz ne,Nat.le_trans I.sz nT⟩ hE
theorem gO.own (x:gO X E):PassesOwn (model X.prog X.w) X.A X.env X.xe:=by
  rw[x.1];exact PassesOwn.leaving
end
def eE (P:Program) (w:World) (K:PySem.W.Frag) (mg:Str->Option Value) (base:Heap) (x:Str) (ps:List Str) (k:Nat) (sp:Sp):Prop:=
  ∃(f:Addr) (fd:FuncData),mg x=some (.ref f)/\PySem.W.keepIn K (.ref f)=true/\(∃oc od fZ,K.lookup f=some ⟨oc,od,.func fd,fZ⟩)/\(∀us:List Value,us.length=ps.length->bindArgs fd ⟨us,[]⟩=pure (ps.zip us))/\eg P w K mg base (i6 P w) k f fd ps sp
def qx (P:Program) (w:World) (K:PySem.W.Frag) (mg:Str->Option Value) (base:Heap) (C:Addr) (m:Str) (ps:List Str) (k:Nat) (sp:Sp):Prop:=
  ∃(f:Addr) (fd:FuncData),Meth K C m f/\(∀us:List Value,us.length=ps.length->bindArgs fd ⟨us,[]⟩=pure (ps.zip us))/\eg P w K mg base (i6 P w) k f fd ps sp
section
variable {P:Program}{w:World}{K:PySem.W.Frag}{mg:Str->Option Value}{base:Heap}
theorem Df.pL {x:Str}{st:Stmt}{N ps:List Str}{k:Nat}{sp:Sp}(D:Df K mg x st ps) (S:aj N ps (zm st)) (len:∀vs H Q E,sp vs H Q E->vs.length=ps.length)
    (body:∀(f:Addr) (ay:Value) (A:Around) (outer:List Env) (s:Shared) (H:Hp) (vs:List V) (Q:VK) (E:XK),aX k (A.deeper (envOfC x (zm st) s.heap.objs.size f ay))->sp vs H Q E->
      ∃t,jm (aA (i6 P w) P w K mg base N x (zm st) f ay A outer s H E) (zj st) t/\t { nx:=fun _ H'=>Q .aL H',rt:=Q } (start N vs) H):eE P w K mg base x ps (k+1) sp:=by
  obtain⟨f,fd,F,a,b⟩:=D;obtain⟨oc,od,kV,doc,pm,an,ay,ct,fZ,e,lk,jo⟩:=id F.ex;subst e;exact⟨f,_,a,F.kp,⟨oc,od,fZ,lk⟩,b,BG lk jo S len (body f ay)⟩
end
section
variable {X:Cx}{k:Nat}{ps:List Str}{sp:Sp}{E:XK}{C:Addr}{m x:Str}{p pos apos:Pos}{o e:Expr}{es:List Expr}{t:TA}{ta:TE}
theorem HX (F:eE X.prog X.w X.K X.mg X.base x ps k sp) (xe:gO X E) (hr:aX k X.A) (hg:Gl X x) (ha:PA X (e::es) t) (fF:(x == ("__debug__" : Str))=false:=by decide)
    (he:starEach (e::es) X.env=(false,eval e X.env)::starEach es X.env:=by rfl) (bY:(backTo pos (starEach es X.env)).any (·.1)=false:=by rfl):PE X (.Call (.Name x p) (e::es) [] pos) (zJ sp [] E t):=by
  obtain⟨f,fd,a,kp,_,b,G⟩:=F;exact BF G hr hg a kp (.all b) .nil (HW xe) ha fF he bY
theorem qy {pl:Sem Bool}(F:qx X.prog X.w X.K X.mg X.base C m ps k sp) (xe:gO X E) (c:kD X.K C) (hr:aX k X.A) (he:PE X o ta) (ha:PA X (e::es) t)
    (i8:starEach (e::es) X.env=(false,eval e X.env)::starEach es X.env:=by rfl) (bY:(backTo pos (starEach es X.env)).any (·.1)=false:=by rfl)
    (ht:eval (.Call (.Attribute o m apos) (e::es) [] pos) X.env=(do
      let ov ←eval o X.env
      standAt apos.atName
      let (f,first) ←holding [ov] (getMethod ov m pl)
      callWith pos f first (backTo pos (starEach (e::es) X.env)) (backToKw pos (keywordEach [] X.env))):=by rfl) :
    PE X (.Call (.Attribute o m apos) (e::es) [] pos) (vZ C m sp [] E ta t):=by
  obtain⟨f,fd,a,b,G⟩:=F;exact Fl he c a G hr (.all b) .nil (HW xe) ha i8 bY ht
end
section
variable {prog:Program}{w:World}{A:Around}{E:Value->Shared->Prop}{h:Heap}{g:Array GenState}{d:Drawn}{t:Nat}{os:OsState}{C:Addr}{bm:List Value}
theorem PL {M:Model}{Q:Unit->Shared->Prop}{e:Addr}{oe:Obj}{us:List Value}(U:cu bm) (x:iO h C bm) (he:h.get? e=some oe) (hc:oe.cls = .ref C) (k:Q () { heap:=h,gens:=g,drawn:=d,toks:=t,os:=os }) :
    wpAny M A (checkBuiltinCall "ValueError.__init__" ⟨.ref e::us,[]⟩) Q E { heap:=h,gens:=g,drawn:=d,toks:=t,os:=os }:=by
  obtain⟨a1,a2,a3,a4,a5,a6,a7,a8,a9,b1,b2,b3,b4,b5,b6,o⟩:=x;have F:=PySem.F.excBase_ValueError;have c1:=xU (C:=C) U.v;have hs:=F.noStar;simp only [checkBuiltinCall,F.initKind,F.initSplit,F.initRow]
  repeat (first
    | (with_reducible refine wpAny_loadPart_at he ?_;rw[hc])
    | with_reducible refine wpAny_loadPart_at o ?_
    | (with_reducible refine wpAny_isSubtype_exc o ?_;rw[c1])
    | wp_step)
  refine wpAny_onRaise ?_;have st:∀(a b:String) (n:Nat),Bind.check ⟨.positional,"*","ValueError",.self,[⟨"args",.varPos,false⟩]⟩ a b n (List.map (fun x=>x.fst) ({ pos:=Value.ref e::us }:Args).kw)=pure ():=fun a b n=>check_star_args _ _ _ _ _ _
  rw[st];exact wpAny_pure k
theorem PM {Q:Value->Shared->Prop}{e t0:Addr}{oe:Obj}{vs:Array Value}{us:List Value}(U:cu bm) (x:iO h C bm) (hz:us.length<=sizeLine) (he:h.get? e=some oe) (hc:oe.cls = .ref C) (hd:oe.data = .fields vs) (h0:vs[0]? = some (.ref t0))
    (k:∀h',(∀b o,b≠e->h.get? b=some o->h'.get? b=some o)->h'.get? e=some { oe with data:=.fields (vs.setIfInBounds 0 (.ref h.objs.size)) }->Q .none { heap:=h',gens:=g,drawn:=d,toks:=t,os:=os }) :
    wpAny (model prog w) A (call (.builtin "ValueError.__init__") (.ref e::us)) Q E { heap:=h,gens:=g,drawn:=d,toks:=t,os:=os }:=by
  have F:=PySem.F.excBase_ValueError;refine wpAny_call (codeAny_call_builtin F.init.plain F.initEntry (PL U x he hc ?_));unfold Builtin.«BaseException.__init__»
  wp_walk
  rw[hd];refine wpAny_pure ?_;rw[h0];refine wpAny_pure (wpAny_bind ?_);have Af:=Heap.get?_push_of_some (h:=h) { cls:=.type "tuple",data:=.seq us.toArray } he;have z0:=(Array.getElem?_eq_some_iff.mp h0).1;refine wpAny_setField Af hd z0 ?_;have e3:=Heap.get?_update_self (Obj.mapFields (·.setIfInBounds 0 (Value.ref h.objs.size))) Af (Obj.isFreed_of_fields (Obj.data_mapFields hd _));rw[C2 hd] at e3;have go:=k _ (fun b o hb q=>(Heap.get?_update_other _ _ (Ne.symm hb)).trans (Heap.get?_push_of_some _ q)) e3
  wp_walk
  exact go
end
def om:List Value->Bool
  | [.type a,.type b,.type c,.type d]=>a == "ValueError" && (b == "Exception" && (c == "BaseException" && d == "object"))
  | .ref _::r=>om r
  | _=>false
theorem HY:∀{l:List Value},om l=true->l = [.type "ValueError",.type "Exception",.type "BaseException",.type "object"]\/∃c r,l = .ref c::r/\om r=true
  | [.type a,.type b,.type c,.type d],e=>by
    simp only [om,Bool.and_eq_true,beq_iff_eq] at e;obtain⟨rfl,rfl,rfl,rfl⟩:=e;exact .inl rfl
  | .ref c::r,e=>.inr ⟨c,r,rfl,by unfold om at e;exact e⟩
theorem HZ (self:Value):∀{l:List Value},om l=true->refuseLoop self "__setattr__" l=pure ()
  | [],e=>by cases e
  | v::r,e=>by
    rcases HY e with h | ⟨c,r',h,e'⟩
    · rw[h];exact PySem.F.store_ValueError.passes self
    · cases h;rw[refuseLoop_ref];exact HZ self e'
theorem Ia:∀{l:List Value},om l=true->l.contains (.type "object")=true
  | [],e=>by cases e
  | v::r,e=>by
    rcases HY e with h | ⟨c,r',h,e'⟩
    · rw[h];decide +kernel
    · cases h;rw[List.contains_cons,Ia e',Bool.or_true]
def C4 (K:PySem.W.Frag) (C:Addr):Bool:=(PySem.W.clsIn K C).any fun cd=>om cd.mro
structure ir (K:PySem.W.Frag) (C:Addr):Prop where
  hd:PySem.W.hasDictIn K C=true
  po:C4 K C=true
  sa:PySem.W.findIn K (.ref C) "__setattr__" = some (some (.builtin "object.__setattr__"))
section
variable {prog:Program}{w:World}{A:Around}{E:Value->Shared->Prop}{R:Result->Shared->Prop}{s:Shared}{K:PySem.W.Frag}{x C:Addr}{name:Str}{v:Value}
theorem PN {ox:Obj}{od:Option Obj}{tk:Tok}{r:Option Value}(X:K.In s.heap) (I:PySem.W.InstAt s.heap x ox C od) (hp:(PySem.W.clsIn K C).any (fun cd=>om cd.mro)=true) (ht:PySem.W.takerIn K C name=some r)
    (h:∀b,wpAny (model prog w) A.in1 (match r with | some a=>Builtin.ObjectAttr.setByDescriptor a (.ref x) v | none=>Builtin.ObjectAttr.storeInOwnDict (.ref x) (.ref C) (.str name tk) name v b)
      (fun fin s'=>match fin with | .done f=>R (.ok f) s' | .again c'=>c'.quiet=true/\codeAny (model prog w) A c' R s') (fun e s'=>R (.error e) s') s) :
    codeAny (model prog w) A (.call (.builtin "object.__setattr__") ⟨[.ref x,.str name tk,v],[]⟩) R s:=by
  have SF:=PySem.F.store_object;obtain⟨cd,hc,ho⟩:=PySem.W.any_some hp;have ne:cd.mro.isEmpty=false:=by cases q:cd.mro with | nil=>rw[q] at ho;cases ho | cons _ _=>rfl
  have sub:PySem.W.Looks (model prog w) s.heap (isInstance (.ref x) (.type "object")) true:=I.type.andThen (PySem.W.looks_mroIn X (by unfold PySem.W.mroIn;rw[hc,Option.bind_some,if_neg (by rw[ne];decide),Ia ho]));refine codeAny_call_builtin SF.slot.plain SF.entry (@PySem.W.check_slot (model prog w) _ _ s "object.__setattr__" "object" "__setattr__" (.ref x) [.str name tk,v] [] _ SF.kind SF.split sub (SF.args (.ref x) (.str name tk) v) ?_);obtain⟨attr,ha,hr⟩:=Option.bind_eq_some_iff.mp ht;have hm:PySem.W.Looks (model prog w) s.heap (mroOf (.ref C)) cd.mro:=(PySem.W.looks_clsIn X hc).andThen .now;have L3:PySem.W.Looks (model prog w) s.heap (Builtin.ObjectAttr.storeTaker? attr) r:=by
    cases attr with
    | none=>cases hr;exact .now
    | some a=>
      obtain⟨b,hb,rfl⟩:=Option.map_eq_some_iff.mp hr;refine (PySem.W.looks_takesIn X hb).andThen ?_;cases b<;>exact .now
  rw[PySem.W.osa_eq,refuse_eq];refine wpAny_bind (wpAny_bind (I.type.here (wpAny_bind (hm.here ?_))));rw[HZ _ ho];refine wpAny_pure (wpAny_bind (I.type.here (wpAny_bind ((PySem.W.looks_findIn X ha).here (wpAny_bind (L3.here ?_))))));exact h _
theorem C5 {oe:Obj}{vs:Array Value}{Q:Unit->Shared->Prop}(X:K.In s.heap) (he:s.heap.get? x=some oe) (nk:oe.cls = .ref C) (C6:oe.dict=none) (tQ:oe.data = .fields vs) (c:ir K C) (ht:PySem.W.takerIn K C name=some none)
    (h:∀h' tk,(∀b o,b≠x->s.heap.get? b=some o->h'.get? b=some o)->h'.get? x=some { oe with dict:=some s.heap.objs.size }->h'.Ns1 s.heap.objs.size (fun y=>if y=name then some v else none)->Q () { s with heap:=h',toks:=tk }) :
    wpAny (model prog w) A (setAttr (.ref x) name v) Q E s:=by
  have J:PySem.W.InstAt s.heap x oe C none:=⟨he,nk,by unfold PySem.W.notCls;rw[tQ],by rw[C6];trivial⟩;refine PySem.W.set_plain X J c.sa (PN (s:={ s with toks:=s.toks+1 }) (r:=none) X J c.po ht fun b=>?_);obtain⟨cd,hc,k8⟩:=PySem.W.any_some c.hd;obtain⟨oc,od,YG,fZ⟩:=oe;dsimp only at nk C6 tQ;subst nk C6 tQ;refine wpAny_bind (wpAny_pure (wpAny_bind (wpAny_bind (wpAny_loadPart he (wpAny_bind (PySem.W.Looks.here (s:={ s with toks:=s.toks+1 }) (PySem.W.looks_clsIn X hc) ?_))))));rw[k8];have qC:(s.heap.push { cls:=.type "dict",data:=.dict #[] }).get? x=some { cls:=Value.ref C,data:=Data.fields vs,slots:=fZ }:=Heap.get?_push_of_some _ he;have Ib:x≠s.heap.objs.size:=Nat.ne_of_lt (Heap.lt_size he);rw[if_neg (by decide)];show wpAny (model prog w) _ (if (!true || !typeHasDict (Value.ref C))=true then pure none else _) _ _ _;rw[if_neg (by simp[typeHasDict])];refine wpAny_bind (wpAny_alloc' ?_);refine wpAny_bind (wpAny_update' qC ?_);refine wpAny_pure ?_;have PR:((s.heap.push { cls:=.type "dict",data:=.dict #[] }).update x fun o=>{ cls:=o.cls,dict:=some s.heap.objs.size,data:=o.data,slots:=o.slots }).get? s.heap.objs.size
      = some { cls:=.type "dict",data:=.dict #[] }:=
    (Heap.get?_update_ne _ _ _ _ Ib.symm).trans (Heap.get?_push_at rfl rfl)
  have PU:((s.heap.push { cls:=.type "dict",data:=.dict #[] }).update x fun o=>{ cls:=o.cls,dict:=some s.heap.objs.size,data:=o.data,slots:=o.slots }).Ns s.heap.objs.size (fun _=>none):=
    ⟨_,#[],_,PR,rfl,fun e he=>absurd he (by simp),fun _=>rfl⟩
  show wpAny _ _ (Builtin.ObjectAttr.storeInDict s.heap.objs.size (.str name s.toks) name v) _ _ _;unfold Builtin.ObjectAttr.storeInDict Builtin.ObjectAttr.newKeyGuard;refine wpAny_bind (wpAny_pure (wpAny_bind (wpAny_nsSet1 (Heap.Ns1.of_empty PU) fun h' qa hs=>?_)));obtain⟨oD,Mf,Mg,Bv,Bw,mY⟩:=qa.count (Within.cons name v Within.nil);refine wpAny_bind (wpAny_lookBehind Bv (by rw[Bw];exact pastItsLine_dict (Nat.le_trans mY (by rw[List.length_cons,List.length_nil,sizeLine_eq];omega))) ?_);refine wpAny_pure (h h' _ (fun b o hb q=>?_) ?_ qa)
  · exact (hs.2 b (Nat.ne_of_lt (Heap.lt_size q))).trans ((Heap.get?_update_ne _ _ _ _ hb).trans (Heap.get?_push_of_some _ q))
  · exact (hs.2 x Ib).trans (Heap.get?_update_self _ qC rfl)
end
def cG (e C:Addr) (dc:Option Addr):HO:=.ext fun h=>∃oe vs t0,h.get? e=some oe/\oe.cls = .ref C/\oe.dict=dc/\oe.data = .fields vs/\vs[0]? = some (.ref t0)/\vs[1]? = some .none
section
variable {X:Cx}{pins:List (Addr×Obj)}{σ:St}{H:Hp}{s:Shared}{a C:Addr}{dc:Option Addr}{f:Str}{A:Around}{E:Value->Shared->Prop}
theorem AB {P:Program}{w:World}{h:Heap}{oe:Obj}{vs:Array Value}{t0:Addr}(h1:h.get? a=some oe) (h2:oe.cls = .ref C) (h3:oe.dict=dc) (h4:oe.data = .fields vs) (h5:vs[0]? = some (.ref t0)) (h6:vs[1]? = some .none):aH P w H h a (cG a C dc):=
  ⟨⟨oe,vs,t0,h1,h2,h3,h4,h5,h6⟩,⟨oe,h1⟩,fun g1 g2 ⟨C7,C8,PV,q1,q2⟩ k=>⟨C7,C8,PV,k _ q1,q2⟩⟩
theorem PX {y:V}{u:Value}{Q:Unit->Shared->Prop}(I:Inv X pins σ H s) (e:H a=some (cG a C none)) (c:ir X.K C) (n:av X.K C f) (ry:RelV y u)
    (h:∀d s',H d=none->Inv X pins σ (upd (upd H d (.xd [(f,y)])) a (cG a C (some d))) s'->Q () s'):wpAny (model X.prog X.w) A (setAttr (.ref a) f u) Q E s:=by
  obtain⟨⟨oe,vs,t0,h1,h2,h3,h4,h5,h6⟩,_,_⟩:=(show aH X.prog X.w H s.heap a (cG a C none) from I.aF a _ e);refine C5 I.cS h1 h2 h3 h4 c n.qh fun h' tk k hx zV=>?_
  have hd:=I.aF.fresh (Nat.le_refl s.heap.objs.size);have iL:s.heap.objs.size≠a:=Nat.ne_of_gt (Heap.lt_size h1);have fr:oe.isFreed=false:=Obj.isFreed_of_fields h4;have u1:(h'.update a fun _=>oe).get? a=some oe:=Heap.get?_update_self _ hx fr;have u2:∀b,b≠a->(h'.update a fun _=>oe).get? b=h'.get? b:=fun b hb=>Heap.get?_update_other _ _ (Ne.symm hb)
  have I1:=I.laid (a:=s.heap.objs.size) (o:=.xd [(f,y)]) (h':=h'.update a fun _=>oe) (t':=tk) (fun b o q=>by
    by_cases hb:b=a
    · subst hb;rw[h1] at q;cases q;exact u1
    · rw[u2 b hb];exact k b o hb q) (Nat.le_refl _) ⟨_,zV.at fun o q=>by rw[u2 _ iL];exact q,fun g=>by
        by_cases hg:g=f
        · rw[if_pos hg];subst hg;rw[List.lookup_cons,beq_self_eq_true];exact ry
        · rw[if_neg hg,List.lookup_cons,beq_eq_false_iff_ne.mpr hg];exact True.intro⟩
  have I2:=I1.write (x:=a) (e:=a) (o:=cG a C (some s.heap.objs.size)) (h':=h') (t':=tk) (by rw[aJ iL.symm,e];exact True.intro) (.inl rfl) (fun b o hb q=>by rw[u2 b hb] at q;exact q) ⟨_,hx⟩ (AB hx h2 rfl h4 h5 h6);exact h _ _ hd I2
end
structure qD (K:PySem.W.Frag) (D:Addr):Prop where
  rd:PySem.W.readsIn K D (.type "type")=true
  ga:PySem.W.specialIn K (.ref D) "__getattribute__" = some (some (.builtin "type.__getattribute__"))
  fc:PySem.W.findCls K (.ref D) (.type "type") "__init__" = some (.val (.builtin "ValueError.__init__"))
def jj (K:PySem.W.Frag) (C:Addr) (bm:List Value):Prop:=∃nm q N bs tO sn sub ab col dd k0 k1 k2 k3 k5,K.lookup C=some (excClassObj nm q C N bs bm tO sn sub ab col dd k0 k1 k2 k3 k5 "ValueError.__new__")
theorem jj.in {K:PySem.W.Frag}{C:Addr}{bm:List Value}{h:Heap}(x:jj K C bm) (X:K.In h):iO h C bm:=by
  obtain⟨a1,a2,a3,a4,a5,a6,a7,a8,a9,b1,b2,b3,b4,b5,b6,e⟩:=x;exact⟨a1,a2,a3,a4,a5,a6,a7,a8,a9,b1,b2,b3,b4,b5,b6,X _ _ e⟩
def PY (K:PySem.W.Frag) (t:TA):TE:=fun σ H Q=>t σ H fun xs H1=>∃a C dc bm rest,xs = .ref a::rest/\H1 a=some (cG a C dc)/\jj K C bm/\cu bm/\rest.length<=sizeLine/\Q .aL H1
def PZ (K:PySem.W.Frag) (ta tv:TE) (f:Str):TS:=fun D σ H=>tv σ H fun y H1=>ta σ H1 fun x H2=>∃a C,x = .ref a/\H2 a=some (cG a C none)/\ir K C/\av K C f/\
  ∀d,H2 d=none->D.nx σ (upd (upd H2 d (.xd [(f,y)])) a (cG a C (some d)))
theorem P0 {H:Hp}{a:Addr}{o:HO}(h:H a=some o):upd H a o=H:=by
  funext b;unfold upd
  by_cases e:b=a
  · rw[if_pos e,e,h]
  · rw[if_neg e]
section
variable {X:Cx}{o e value:Expr}{es:List Expr}{x f:Str}{p pos pos' apos:Pos}{ta tv:TE}{t:TA}{D:Addr}
theorem P4 (ha:PE X o ta) (hv:PE X value tv) (hs:swapsWith value (some (.Attribute o f pos')) pos.line X.env=pure false):PS X (.Assign [.Attribute o f pos'] value pos) (PZ X.K ta tv f):=by
  intro pins s σ H D I h;refine plainObj_wpAny_Assign_Attribute (aM (hv pins s σ H _ I h) fun u s1 ⟨y,H1,I1,ry,q⟩=>aM (ha pins s1 σ H1 _ I1 q) fun ov s2 aE=>?_) hs;obtain⟨x,H2,I2,rx,a,C,ex,ea,c,n,q2⟩:=aE;subst ex;obtain rfl:ov=Value.ref a:=rx;exact PX I2 ea c n ry fun d s3 hd I3=>⟨σ,_,I3,q2 d hd⟩
theorem P7 {pins:List (Addr×Obj)}{s:Shared}{σ:St}{H:Hp}{a C:Addr}{dc:Option Addr}{bm:List Value}{us:List Value}{Q:VK}(I:Inv X pins σ H s) (e:H a=some (cG a C dc)) (xo:jj X.K C bm) (U:cu bm) (hz:us.length<=sizeLine) (q:Q .aL H) :
    wpAny (model X.prog X.w) X.A (call (.builtin "ValueError.__init__") (.ref a::us)) (EP X pins σ Q) X.xe s:=by
  obtain⟨⟨oe,vs,t0,h1,h2,h3,h4,h5,h6⟩,_,_⟩:=(show aH X.prog X.w H s.heap a (cG a C dc) from I.aF a _ e);obtain⟨hp,g,d,tk,os⟩:=s;refine PM U (xo.in I.cS) hz h1 h2 h4 h5 fun h' k hx=>?_
  have z0:=(Array.getElem?_eq_some_iff.mp h5).1;have I2:=I.write (x:=a) (e:=a) (o:=cG a C dc) (h':=h') (t':=tk) (by rw[e];exact True.intro) (.inl rfl) (fun b o hb z=>k b o hb z) ⟨_,hx⟩ (AB (t0:=hp.objs.size) hx h2 h3 rfl (by simp[z0]) (by rw[Array.getElem?_setIfInBounds_ne (by decide)];exact h6));rw[P0 e] at I2;exact⟨.aL,H,I2,rfl,q⟩
theorem P8 {pl:Sem Bool}(hg:Gl X x) (hm:X.mg x=some (.ref D)) (b:qD X.K D) (ha:PA X (e::es) t) (fF:(x == ("__debug__" : Str))=false:=by decide)
    (i8:starEach (e::es) X.env=(false,eval e X.env)::starEach es X.env:=by rfl) (bY:(backTo pos (starEach es X.env)).any (·.1)=false:=by rfl)
    (ht:eval (.Call (.Attribute (.Name x p) "__init__" apos) (e::es) [] pos) X.env=(do
      let ov ←eval (.Name x p) X.env
      standAt apos.atName
      let (f,first) ←holding [ov] (getMethod ov "__init__" pl)
      callWith pos f first (backTo pos (starEach (e::es) X.env)) (backToKw pos (keywordEach [] X.env))):=by rfl) :
    PE X (.Call (.Attribute (.Name x p) "__init__" apos) (e::es) [] pos) (PY X.K t):=by
  intro pins s σ H Q I h;refine PySem.W.methodCall_KW (pl:=pl) (nU I hg hm ?_ fF) ht;refine PySem.W.method_cls I.cS b.ga (PySem.W.cls_value I.cS b.rd b.fc (by decide +kernel) ?_);have hA:=ha pos pins _ σ H _ (I.tok (s.toks+1)) h;rw[i8] at hA ⊢;refine Calls.callWith_builtin (by show (false||(backTo pos (starEach es X.env)).any (·.1))=false;rw[bY]<;>rfl) (Calls.evalArgs_plain ?_);refine aM hA fun us s2 aE=>?_
  obtain⟨vs,H2,I2,r2,a,C,dc,bm,rest,ev,ea,xo,U,hz,q⟩:=aE;subst ev;cases r2 with
  | cons r1 r2=>
    cases r1;exact P7 I2 ea xo U (by rw[←r2.length];exact hz) q
end
def del (H:Hp) (e:Addr):Hp:=fun b=>if b=e then none else H b
theorem C9 {H:Hp}{e:Addr}:del H e e=none:=by unfold del;rw[if_pos rfl]
theorem tR {H:Hp}{e b:Addr}(h:b≠e):del H e b=H b:=by unfold del;rw[if_neg h]
structure P9 (K:PySem.W.Frag) (C f:Addr) (bm:List Value):Prop where
  obj:jj K C bm
  un:cu bm
  init:PySem.W.findIn K (.ref C) "__init__" = some (some (.ref f))
  fn:PySem.W.isFn K (.ref f)=true
section
variable {X:Cx}{pins:List (Addr×Obj)}{σ:St}{H:Hp}{s:Shared}
theorem Inv.drop {e:Addr}{φ:Heap->Prop}(I:Inv X pins σ H s) (he:H e=some (.ext φ)):Inv X pins σ (del H e) s:=by
  refine I.un (h':=s.heap) (t':=s.toks) ⟨fun _ _ q _ _ _=>q,fun b o q _ _ _=>⟨o.slots,q⟩,fun b o _ n _=>?_,fun b o q _=>⟨o,q⟩,fun b xs q=>?_,fun b o u q=>?_,fun b ps q=>⟨#[],?_⟩⟩ fun a o q=>?_
  · by_cases z:b=e
    · rw[z];exact C9
    · rw[tR z];exact n
  · rw[tR (fun z=>by rw[z,he] at q;cases q)];exact q
  · rw[tR (fun z=>by rw[z,he] at q;cases q)];exact q
  · rw[tR (fun z=>by rw[z,he] at q;cases q),Array.append_empty];exact q
  · have na:a≠e:=fun z=>by rw[z,C9] at q;cases q
    rw[tR na] at q;refine (I.aF a o q).bH (fun _ _ _ z=>z) (fun b z=>?_) fun b xs z=>?_
    · rw[tR (fun w=>by rw[w,he] at z;cases z)];exact z
    · rw[tR (fun w=>by rw[w,he] at z;cases z)];exact z
end
def Ic (C:Addr) (sp:Sp) (fY:List V) (E E1:XK) (t:TA):TS:=fun _ σ H=>t σ H fun vs H1=>∀e,H1 e=none->sp (.ref e::(vs++fY)) (upd H1 e (cG e C none)) (fun v H2=>v = .aL/\∃dc,H2 e=some (cG e C dc)/\E (.ref C) dc (del H2 e)) E1
section
variable {X:Cx}{CX:jJ}{k:Nat}{f C:Addr}{fd:FuncData}{ps:List Str}{sp:Sp}{fY:List V}{ds:List Value}{E E1:XK}{x:Str}{p pos aY:Pos}{e:Expr}{es:List Expr}{t:TA}{bm:List Value}
theorem Qa (M:P9 X.K C f bm) (F:eg X.prog X.w X.K X.mg X.base CX k f fd ps sp) (hr:aX (k+1) X.A) (xe:gO X E) (hx:lP CX X E1) (hg:Gl X x) (hm:X.mg x=some (.ref C)) (hb:Binds X.K fd ps ds) (hd:Vals fY ds) (Dd:ps.length<=1000) (ha:PA X (e::es) t)
    (fF:(x == ("__debug__" : Str))=false:=by decide) (he:starEach (e::es) X.env=(false,eval e X.env)::starEach es X.env:=by rfl) (bY:(backTo aY (starEach es X.env)).any (·.1)=false:=by rfl) :
    PS X (.Raise (some (.Call (.Name x p) (e::es) [] aY)) none pos) (Ic C sp fY E E1 t):=by
  intro pins s σ H D I h;refine Pw (vI:=.ref f) M.un hr.hd he bY (nU I hg hm ⟨rfl,aM (ha aY pins s σ H _ I h) fun us s2 aE=>?_⟩ fF);obtain⟨vs,H1,I1,r,q⟩:=aE;have fr:∀a,s2.heap.objs.size<=a->H1 a=none:=fun a h=>I1.aF.fresh h
  have q0:=q _ (fr _ (Nat.le_refl _));have l0:=F.len _ _ _ _ q0;rw[List.length_cons,List.length_append] at l0;have rl:=r.length;refine⟨by rw[sizeLine_eq];omega,M.obj.in I1.cS,PySem.W.looks_findIn I1.cS M.init,fun self=>PySem.W.bind_fn I1.cS self (beq_iff_eq.mp M.fn),fun h' ex hs xW=>?_⟩;have hq:=q ex (fr ex hs);obtain⟨t0,h1,_,_⟩:=xW.there;have I2:=I1.laid (a:=ex) (o:=cG ex C none) (h':=h') (t':=s2.toks) xW.keeps hs (AB h1 rfl rfl rfl rfl rfl);have r2:Vals (V.ref ex::(vs++fY)) (Value.ref ex::(us++ds)):=.cons rfl (r.append hd);have hl:(Value.ref ex::us++ds).length=ps.length:=by
    have e:=r2.length;rw[F.len _ _ _ _ hq] at e;exact e.symm
  refine wpAny_call (codeAny_mono (F.run _ X.stack _ _ ⟨Value.ref ex::us,[]⟩ (Value.ref ex::(us++ds)) _ _ E1 (hr.make C us []) (I2.mZ.make C us []) (hb _ (Value.ref ex::us) I2.cS hl) r2 hq) fun r s' jS=>?_);cases r with
  | error e=>exact hx pins σ _ _ e s' I2 jS
  | ok fl=>
    cases fl with
    | ret u=>
      obtain⟨v,H',I3,rv,ev,dc,De,hE⟩:=I2.after jS;subst ev;obtain⟨⟨oe,ws,t1,g1,g2,g3,g4,g5,g6⟩,_,_⟩:=(show aH X.prog X.w H' s'.heap ex (cG ex C dc) from I3.aF ex _ De);have I4:=I3.drop De;exact⟨rv,oe,ws,M.obj.in I3.cS,g1,g2,g4,g6,PD I4 xe ⟨oe,ws,g1,g2,g3,g4,g6,C9,Nat.le_trans I1.sz hs⟩ hE⟩
    | next=>exact False.elim jS
    | brk=>exact False.elim jS
    | cont=>exact False.elim jS
end
section
variable {M:Model}{A:Around}{E:Value->Shared->Prop}{s:Shared}
theorem Qc {base:Heap}{env:Env}{outer:List Env}{L e T:Addr}{oe oT:Obj}{vs ts:Array Value}{Q:Unit->Shared->Prop}
    (fR:A.frames=some (env::outer)) (hl:s.heap.FunFrames base (env::outer)) (hf:env.frame=some L) (he:s.heap.get? e=some oe) (hd:oe.data = .fields vs) (h1:vs[1]? = some (.ref T))
    (hT:s.heap.get? T=some oT) (dT:oT.data = .fields ts) (h3:ts[3]? = some .none) (ne:T≠e)
    (k:∀h',lU (cR (env::outer)) e s.heap.objs.size [T] oe vs s.heap h'->Q () { s with heap:=h' }) :
    wpAny M A (noteFrame (.ref e) env) (fun _ s'=>wpAny M A (setFlight (.ref e) none) Q E s') E s:=by
  unfold noteFrame;simp only [hf];refine wpAny_bind (wpAny_field he hd h1 ?_);rw[if_pos (show (Value.ref T != Value.none)=true from by simp)];refine wpAny_bind (wpAny_field hT dT h3 ?_);rw[if_neg (show ¬((Value.none == rawInt L)=true) from by simp[rawInt])];have z3:=(Array.getElem?_eq_some_iff.mp h3).1;refine wpAny_bind (wpAny_setField hT dT z3 ?_);have fS:∀b,b≠T->(s.heap.update T (Obj.mapFields (·.setIfInBounds 3 Value.none))).get? b=s.heap.get? b:=fun b hb=>Heap.get?_update_other _ _ (Ne.symm hb)
  have self:=Heap.get?_update_self (Obj.mapFields (·.setIfInBounds 3 Value.none)) hT (Obj.isFreed_of_fields (Obj.data_mapFields dT _));have nf:T ∉ cR (env::outer):=fun hm=>by
    obtain⟨_,o,ho,hn⟩:=hl.mem hm;rw[hT] at ho;cases ho;exact hn ts dT
  have sz:(s.heap.update T (Obj.mapFields (·.setIfInBounds 3 Value.none))).objs.size=s.heap.objs.size:=Heap.size_after_update ..;refine C3 (s:={ s with heap:=s.heap.update T (Obj.mapFields (·.setIfInBounds 3 Value.none)) }) fR (hl.of_keeps fun b o hb hn=>⟨o,(fS b fun z=>?_).trans hb,rfl⟩) hf ((fS e ne.symm).trans he) hd (Array.getElem?_eq_some_iff.mp h1).1 fun h' G=>?_
  · subst z;rw[hT] at hb;cases hb;exact hn ts dT
  · have e1:(s.heap.update T (Obj.mapFields (·.setIfInBounds 3 Value.none))).objs.size=s.heap.objs.size:=sz;have G:=G;dsimp only at G;rw[e1] at G;refine k h' ⟨fun b o hb hn hx q=>G.keep b o hb hn (by simp) ((fS b fun z=>hx (by simp[z])).trans q),fun b o hb q=>G.slot b o hb ((fS b fun z=>nf (z▸hb)).trans q),Heap.get?_none_of_le (Nat.le_refl _),G.exc,G.ent⟩
end
def Met (X:Cx) (pins:List (Addr×Obj)) (H:Hp) (h:Heap) (e:Addr) (cls:Value) (dc:Option Addr):Prop:=
  ∃(oe:Obj) (vs:Array Value) (T:Addr) (oT:Obj) (ts:Array Value),h.get? e=some oe/\oe.cls=cls/\oe.dict=dc/\oe.data = .fields vs/\vs[1]? = some (.ref T)/\T≠e/\h.get? T=some oT/\oT.data = .fields ts/\ts[3]? = some .none/\cg X pins H e/\cg X pins H T
section
variable {X:Cx}{pins:List (Addr×Obj)}{σ:St}{H:Hp}{s:Shared}{E:XK}
theorem Qd {Q:Unit->Shared->Prop}{E':Value->Shared->Prop}{u:Value}{s':Shared}(I:Inv X pins σ H s) (x2:X.stack=X.env::X.outer) (x3:X.env.frame=some X.env.locals) (h:i6 X.prog X.w X.stack H s E u s')
    (k:∀e cls dc H' h',u = .ref e->Inv X pins σ H' { s' with heap:=h' }->Met X pins H' h' e cls dc->E cls dc H'->Q () { s' with heap:=h' }) :
    wpAny (model X.prog X.w) X.A (noteFrame u X.env) (fun _ s1=>wpAny (model X.prog X.w) X.A (setFlight u none) Q E' s1) E' s':=by
  obtain⟨e,cls,dc,H',rfl,os,bare,un,aF,fl,hE⟩:=h;have I':=I.jP os un aF bare (ch:=[]) (fun b z=>absurd z (by simp));obtain⟨oe,vs,T,oT,ts,he,hc,jZ,hd,h1,lG,hT,dT,h3,He,HT,ne,nT⟩:=fl;have fr:=I'.ok.frames;have st:=I'.stack;rw[x2] at fr st;refine Qc fr st x3 he hd h1 hT dT h3 lG fun h' G=>?_
  have F1:cg X pins H' e:=I.gY ne He;have F2:cg X pins H' T:=I.gY nT HT;have sf:∀b∈cR (X.env::X.outer),H' b=none:=by
    have:=I'.iz;rw[x2] at this;exact this
  have U:Un (cR X.stack) [e,T] H' H' s'.heap h':=by
    rw[x2];refine⟨fun b o q n nf nx=>G.keep b o (fun z=>nx (by simp[z])) nf (fun z=>nx (by rw[List.mem_singleton.mp z];simp)) q,fun b o q n hb nx=>G.slot b o hb q,fun b o q n _=>n,fun b o q nx=>?_,fun _ _ z=>z,fun _ _ _ z=>z,fun _ ps z=>⟨#[],by rw[Array.append_empty];exact z⟩⟩
    by_cases hb:b∈cR (X.env::X.outer)
    · obtain⟨sl,z⟩:=G.slot b o hb q;exact⟨_,z⟩
    · exact⟨o,G.keep b o (fun z=>nx (by simp[z])) hb (fun z=>nx (by rw[List.mem_singleton.mp z];simp)) q⟩
  have rX:fq X.prog X.w H' h':=fun a o q=>by
    refine (aF a o q).bH (fun b u hb z=>?_) (fun _ z=>z) fun _ _ z=>z
    have Hb:H' b≠none:=by
      rcases hb with z | z
      · rw[z,q];simp
      · rw[z];simp
    exact G.keep b u (fun z=>Hb (z▸He)) (fun z=>Hb (sf b z)) (fun z=>Hb (by rw[List.mem_singleton.mp z];exact HT)) z
  have I2:Inv X pins σ H' { s' with heap:=h' }:=I'.jP (s':={ s' with heap:=h' }) (ch:=[e,T]) rfl U rX I'.bare fun b hb=>by
    have F:cg X pins H' b:=by
      rcases List.mem_cons.mp hb with z | z
      · rw[z];exact F1
      · rw[List.mem_singleton.mp z];exact F2
    exact⟨F.2.2.2.1,F.2.1,F.2.2.2.2.1,F.2.2.2.2.2⟩
  obtain⟨Qe,xX,t1,t2,t3⟩:=G.ent;have Qg:s'.heap.objs.size≠e:=Nat.ne_of_gt (Heap.lt_size he);exact k e cls dc H' h' rfl I2 ⟨_,_,s'.heap.objs.size,Qe,xX,G.exc,hc,jZ,rfl,by simp[(Array.getElem?_eq_some_iff.mp h1).1],Qg,t1,t2,t3,F1,I'.gY (Nat.le_refl _) (aF.fresh (Nat.le_refl _))⟩ hE
end
structure kN (K:PySem.W.Frag) (D:Addr):Prop where
  nt:PySem.W.instIn K (.ref D) (.type "tuple")=some false
  ty:PySem.W.isClsIn K D=true
  ex:PySem.W.mroIn K D (.type "BaseException")=some true
section
variable {M:Model}{A:Around}{E:Value->Shared->Prop}{s:Shared}{K:PySem.W.Frag}{e C D:Addr}{oe:Obj}{b:Bool}
theorem Qh {Q:Bool->Shared->Prop}(X:K.In s.heap) (he:s.heap.get? e=some oe) (hc:oe.cls = .ref C) (cd:kN K D) (hs:PySem.W.mroIn K C (.ref D)=some b) (h:Q b s):wpAny M A (excMatches (.ref e) (.ref D)) Q E s:=by
  have L1:=PySem.W.looks_instIn (M:=M) X cd.nt;have L3:=PySem.W.looks_mroIn (M:=M) X cd.ex;have L4:=PySem.W.looks_mroIn (M:=M) X hs;have L5:PySem.W.Looks M s.heap (typeOf (.ref e)) (.ref C):=hc▸(PySem.W.Looks.ld he).andThen .now;unfold excMatches;refine wpAny_bind (L1.here ?_);dsimp only;rw[if_neg (by decide)];refine wpAny_bind (wpAny_pure ?_);simp only [List.forIn_cons,List.forIn_nil];have L6:PySem.W.Looks M s.heap (isExcClass (.ref D)) true:=by
    unfold isExcClass;refine PySem.W.Looks.andThen (a:=true) ?_ ?_
    · obtain⟨c,hc⟩:=Option.isSome_iff_exists.mp cd.ty;unfold PySem.W.clsIn at hc;split at hc
      · rename_i hk;exact (PySem.W.Looks.ld (part:=_) (X _ _ hk)).andThen .now
      · cases hc
    · exact L3
  refine wpAny_bind (wpAny_bind (wpAny_bind (L6.here ?_)));rw[if_neg (by decide)];refine wpAny_pure (wpAny_pure (wpAny_bind (L5.here (wpAny_bind (wpAny_bind (wpAny_bind (L4.here ?_)))))));cases b with
  | true=>rw[if_pos rfl];exact wpAny_pure (wpAny_pure (wpAny_pure h))
  | false=>rw[if_neg (by decide)];exact wpAny_pure (wpAny_pure (wpAny_pure h))
end
section
variable {X:Cx}{pins:List (Addr×Obj)}{σ:St}{H:Hp}{s:Shared}
theorem Inv.xY {a:Addr}{o:HO}(I:Inv X pins σ H s) (f:cg X pins H a) (xe:X.ex = []) (ok:aH X.prog X.w (upd H a o) s.heap a o):Inv X pins σ (upd H a o) s:=by
  obtain⟨f1,f2,f3,f4,f5,f6⟩:=f;have f4:X.bw.heap.objs.size<=a:=f4.resolve_left (by rw[xe];simp);refine⟨I.ok,I.os,I.bare,⟨I.base.keep,I.base.slot,fun b ob q n hx=>?_,I.base.there,fun b xs q=>?_,fun b ob u q=>?_,fun b ps q=>?_⟩,I.loc,I.cell,?_,fun x c z=>?_,fun p hp=>?_,fun b ob q=>?_,I.len⟩
  · rw[aJ (fun z=>absurd (Heap.lt_size q) (Nat.not_lt.mpr (by rw[z];exact f4)))];exact I.base.free b ob q n hx
  · have:=I.base.eW b xs q;rw[aJ (fun z=>by rw[z,f1] at this;cases this)];exact this
  · have:=I.base.gE b ob u q;rw[aJ (fun z=>by rw[z,f1] at this;cases this)];exact this
  · obtain⟨m,this⟩:=I.base.gW b ps q;refine⟨m,?_⟩;rw[aJ (fun z=>by rw[z,f1] at this;cases this)];exact this
  · rw[aJ f2.symm];exact I.free
  · rw[aJ (f5 x c z)];exact I.cF x c z
  · obtain⟨q1,q2,q3,q4,q5⟩:=I.pin p hp;exact⟨q1,by rw[aJ (f6 p hp)];exact q2,q3,q4,q5⟩
  · by_cases z:b=a
    · subst z;rw[zd] at q;cases q;exact ok
    · rw[aJ z] at q;refine (I.aF b ob q).bH (fun _ _ _ z=>z) (fun c w=>?_) fun c xs w=>?_
      · rw[aJ (fun z=>by rw[z,f1] at w;cases w)];exact w
      · rw[aJ (fun z=>by rw[z,f1] at w;cases w)];exact w
theorem AD {M:Model}{A:Around}{E:Value->Shared->Prop}{i:Nat}{n:Str}{pos:Pos}{Q:Unit->Shared->Prop}(I:Inv X pins σ H s) (hN:X.N.Nodup) (hi:X.N[i]? = some n) (hl:X.env.scope.names.lookup n=some .local)
    (h:∀s',Inv X pins (σ.set i none) H s'->Q () s'):wpAny M A (do bindName X.env n .none;unbindBehindTheSuite X.env n pos) Q E s:=by
  have rm:(X.env.scope.kind == .class||(X.env.scope.kind == .module&&X.env.locals != X.env.globals))=false:=by rw[I.ok.kind];rfl
  refine wpAny_bind (wpAny_bindName (yY I hN hi (.inl hl) (v:=.aL) rfl (fun s1 I1=>?_) (.inr hl)));unfold unbindBehindTheSuite;refine wpAny_onRaise ?_;unfold unbindName;refine wpAny_bind (wpAny_point (wpAny_bind ?_));unfold deleteName;obtain⟨m,hn,nZ⟩:=id I1.loc;have Ie:X.env.kindOf n=some .local:=hl;simp only [Ie,rm];rw[if_neg (by decide)];have Ig:i<(σ.set i (some V.aL)).length:=by rw[I1.len];exact (List.getElem?_eq_some_iff.mp hi).1
  obtain⟨u,ru,lu⟩:=nZ i n .aL hi (by rw[List.getElem?_set_self (by simpa using Ig)]) (.inl hl);have mn:(m n).isSome=true:=by
    rcases lu with ⟨_,z⟩ | ⟨z,_⟩
    · rw[z];rfl
    · rw[Ie] at z;rcases z with z | z<;>cases z
  refine wpAny_bind (wpAny_nsDel_keeps hn fun h2 v qg jI=>?_);rw[mn];simp only [if_true,Bool.not_true,Bool.false_eq_true,if_false];refine wpAny_pure (wpAny_point (h _ ?_));have mS:=I1.mS;obtain⟨oL,_,_,EY,_⟩:=id hn;refine⟨I1.ok,I1.os,I1.bare,⟨fun b o e n hb hx=>?_,fun b o e n hb hx=>?_,I1.base.free,fun b o e hx=>?_,I1.base.eW,I1.base.gE,I1.base.gW⟩,⟨_,qg,fun j y v' e1 e2 e3=>?_⟩,fun y c e=>?_,I1.free,I1.cF,fun p hp=>?_,fun b ob e=>?_,by simpa using I.len⟩
  · exact (jI.2 b (Nat.ne_of_lt (Nat.lt_of_lt_of_le (Heap.lt_size e) I1.ok.above))).trans (I1.base.keep b o e n hb hx)
  · obtain⟨sl,e1⟩:=I1.base.slot b o e n hb hx;exact⟨sl,(jI.2 b (Nat.ne_of_lt (Nat.lt_of_lt_of_le (Heap.lt_size e) I1.ok.above))).trans e1⟩
  · obtain⟨o',e1⟩:=I1.base.there b o e hx;exact⟨o',(jI.2 b (Nat.ne_of_lt (Nat.lt_of_lt_of_le (Heap.lt_size e) I1.ok.above))).trans e1⟩
  · have hj:j≠i:=fun z=>by
      subst z;rw[List.getElem?_set_self (by simpa using Ig)] at e2;cases e2
    rw[List.getElem?_set_ne (Ne.symm hj)] at e2;obtain⟨u',r',q⟩:=nZ j y v' e1 (by rw[List.getElem?_set_ne (Ne.symm hj)];exact e2) e3;refine⟨u',r',?_⟩;rcases q with ⟨k,z⟩ | ⟨k,c,z1,z2⟩
    · refine .inl ⟨k,?_⟩;have:y≠n:=fun z=>hj (Bf hN e1 (z▸hi))
      simp[this,z]
    · exact .inr ⟨k,c,z1,z2.sameBut jI (mS y c z1)⟩
  · obtain⟨w',z⟩:=I1.cell y c e;exact⟨w',z.sameBut jI (mS y c e)⟩
  · obtain⟨e,n,ne,nf,d⟩:=I1.pin p hp;exact⟨(jI.2 p.1 ne).trans e,n,ne,nf,d⟩
  · refine (I1.aF b ob e).bH (fun c w' hc q=>(jI.2 c ?_).trans q) (fun _ q=>q) fun _ _ q=>q
    rintro rfl;rcases hc with rfl | hc
    · rw[I1.free] at e;cases e
    · rw[I1.free] at hc;cases hc
end
def Cx.lH (X:Cx) (pn:List (Addr×Obj)) (xe:Value->Shared->Prop):Cx:={ X with pn:=pn,xe:=xe }
def Cx.iB (X:Cx) (v:Value) (xe:Value->Shared->Prop):Cx:={ X with A:=X.A.mark (some v),calm:=false,xe:=xe }
structure Ih (X:Cx):Prop where
  st:X.stack=X.env::X.outer
  fr:X.env.frame=some X.env.locals
  ex:X.ex = []
def Ii (X:Cx) (Es:St->XK):Prop:=∀(pins:List (Addr×Obj)) (σ:St) (H:Hp) (s:Shared) (u:Value) (s':Shared),Inv X pins σ H s->i6 X.prog X.w X.stack H s (Es σ) u s'->X.xe u s'
def gP (e C:Addr) (dc:Option Addr):HO:=.ext fun h=>∃oe vs,h.get? e=some oe/\oe.cls = .ref C/\oe.dict=dc/\oe.data = .fields vs
abbrev TH:=Ends->St->Addr->Option Addr->Hp->Prop
def PH (X:Cx) (hs:List ExceptHandler) (th:TH):Prop:=
  ∀(pins:List (Addr×Obj)) (s:Shared) (σ:St) (H:Hp) (D:Ends) (e C:Addr) (dc:Option Addr),Inv X pins σ H s->Met X pins H s.heap e (.ref C) dc->th D σ C dc H->wpAny (model X.prog X.w) X.A (handleBy (.ref e) X.env hs) (SP X pins D) X.xe s
def Qi:TH:=fun _ _ _ _ _=>False
def Ij (i:Nat) (D:Ends):Ends:={ nx:=fun σ H=>D.nx (σ.set i none) H,rt:=D.rt,bk:=fun σ H=>D.bk (σ.set i none) H,ct:=fun σ H=>D.ct (σ.set i none) H }
def Dg (K:PySem.W.Frag) (i:Nat) (Dc:Addr) (ts:TS) (AE:TH):TH:=fun D σ C dc H=>∃b,PySem.W.mroIn K C (.ref Dc)=some b/\
  if b=true then ∀e,H e=none->ts (Ij i D) (σ.set i (some (.ref e))) (upd H e (gP e C dc)) else AE D σ C dc H
def Dh (tb:(St->XK)->TS) (th:TH):TS:=fun D σ H=>tb (fun au cls dc H'=>∃C,cls = .ref C/\th D au C dc H') D σ H
def Qj (sp:Sp) (fY:List V) (Es:St->XK) (t:TA):TE:=fun σ H Q=>t σ H fun vs H1=>sp (vs++fY) H1 Q (Es σ)
section
variable {X:Cx}{pins:List (Addr×Obj)}{σ:St}{H:Hp}{s:Shared}
theorem Ik {v:Value}{xe:Value->Shared->Prop}(I:Inv X pins σ H s):Inv (X.iB v xe) pins σ H s:=
  ⟨⟨I.ok.mod,I.ok.kind,I.ok.glob,I.ok.blt,I.ok.above,I.ok.inj,I.ok.has,I.ok.qZ,(fun z=>absurd z Bool.false_ne_true),I.ok.frames,I.ok.ri,I.ok.yV,I.ok.bs,I.ok.mj,I.ok.jN,I.ok.lO,I.ok.fW,I.ok.oJ⟩,
    I.os,I.bare,I.base,I.loc,I.cell,I.free,I.cF,I.pin,I.aF,I.len⟩
theorem AF {v:Value}{xe:Value->Shared->Prop}(ok:X.Ok) (I:Inv (X.iB v xe) pins σ H s):Inv X pins σ H s:=⟨ok,I.os,I.bare,I.base,I.loc,I.cell,I.free,I.cF,I.pin,I.aF,I.len⟩
theorem Qk {xe:Value->Shared->Prop}(I:Inv X pins σ H s):Inv (X.lH (X.pn++pins) xe) [] σ H s:=
  ⟨⟨I.ok.mod,I.ok.kind,I.ok.glob,I.ok.blt,I.ok.above,I.ok.inj,I.ok.has,I.ok.qZ,I.ok.hd,I.ok.frames,I.ok.ri,I.ok.yV,I.ok.bs,I.ok.mj,I.ok.jN,I.ok.lO,I.ok.fW,I.ok.oJ⟩,
    I.os,I.bare,I.base,I.loc,I.cell,I.free,I.cF,fun p hp=>I.pin p ((List.mem_append.mp hp).elim id fun z=>absurd z (by simp)),I.aF,I.len⟩
theorem xZ {jO:List (Addr×Obj)}{xe:Value->Shared->Prop}(ok:X.Ok) (I:Inv (X.lH (X.pn++pins) xe) jO σ H s):Inv X pins σ H s:=
  ⟨ok,I.os,I.bare,I.base,I.loc,I.cell,I.free,I.cF,fun p hp=>I.pin p (List.mem_append_left _ hp),I.aF,I.len⟩
end
section
variable {X:Cx}{CX:jJ}{k i:Nat}{f Dc:Addr}{ps:List Str}{sp:Sp}{x n:Str}{p pos Di:Pos}{e:Expr}{es:List Expr}{t:TA}{Es:St->XK}{ya:Stmt}{qE body:List Stmt}{h₀:ExceptHandler}{rest hs:List ExceptHandler}{ts:TS}{AE th:TH}{tb:(St->XK)->TS}
theorem Ql (F:eE X.prog X.w X.K X.mg X.base x ps k sp) (xe:Ii X Es) (hr:aX k X.A) (hg:Gl X x) (ha:PA X (e::es) t) (fF:(x == ("__debug__" : Str))=false:=by decide)
    (he:starEach (e::es) X.env=(false,eval e X.env)::starEach es X.env:=by rfl) (bY:(backTo pos (starEach es X.env)).any (·.1)=false:=by rfl):PE X (.Call (.Name x p) (e::es) [] pos) (Qj sp [] Es t):=by
  obtain⟨f,fd,a,kp,_,b,G⟩:=F;intro pins s σ H Q I h;refine wpAny_Call_Name_kw (nU I hg a ?_ fF);refine PySem.W.callWith_K (h₀:=X.base) I.ok.mod.uG kp (aM (ha pos pins s σ H _ I h) fun us s1 ⟨vs,H1,I1,r,q⟩=>⟨I1.cS,?_⟩) he bY;have r2:Vals (vs++[]) (us++[]):=r.append .nil;have hl:(us++[]).length=ps.length:=by rw[←r2.length];exact G.len _ _ _ _ q
  refine wpAny_call (codeAny_mono (G.run X.A X.stack s1 H1 ⟨us,[]⟩ (us++[]) (vs++[]) Q (Es σ) hr I1.mZ ((Binds.all b) s1 us I1.cS hl) r2 q) fun r s' hq=>?_);cases r with
  | error e=>exact xe pins σ H1 s1 e s' I1 hq
  | ok fl=>
    cases fl with
    | ret u=>exact I1.after hq
    | next=>exact False.elim hq
    | brk=>exact False.elim hq
    | cont=>exact False.elim hq
theorem Qm (x:Ih X) (hb:∀pn xe (Es:St->XK),Ii (X.lH pn xe) Es->jm (X.lH pn xe) body (tb Es)) (hh:PH X (h₀::hs) th):PS X (.Try body (h₀::hs) [] [] pos) (Dh tb th):=by
  intro pins s σ H D I h;refine wpAny_Try_except ?_;refine wpAny_mono (hb (X.pn++pins) (fun e aI=>wpAny (model X.prog X.w) X.A (noteFrame e X.env) (fun _ dW=>wpAny (model X.prog X.w) X.A (setFlight e none) (fun _ ia=>wpAny (model X.prog X.w) X.A (handleBy e X.env (h₀::hs)) (SP X pins D) X.xe ia) X.xe dW) X.xe aI)
    (fun au cls dc H'=>∃C,cls = .ref C/\th D au C dc H') (fun jO au H' s' u kc I' Qn=>?_) [] s σ H D (Qk I) h) (fun fl s1 q=>?_) fun _ _ z=>z
  · refine Qd (xZ I.ok I') x.st x.fr Qn fun e cls dc H2 h' hu I2 met hE=>?_
    subst hu;obtain⟨C,rfl,Qo⟩:=hE;exact hh pins _ au H2 D e C dc I2 met Qo
  · cases fl with
    | next=>
      obtain⟨au,H',J,q⟩:=q;exact wpAny_execs_nil ⟨au,H',xZ I.ok J,q⟩
    | brk=>
      obtain⟨au,H',J,q⟩:=q;exact⟨au,H',xZ I.ok J,q⟩
    | cont=>
      obtain⟨au,H',J,q⟩:=q;exact⟨au,H',xZ I.ok J,q⟩
    | ret u=>
      obtain⟨v,au,H',J,r,q⟩:=q;exact⟨v,au,H',xZ I.ok J,r,q⟩
theorem Qp:PH X [] Qi:=fun _ _ _ _ _ _ _ _ _ _ h=>h.elim
theorem Qq (xf:Ih X) (hg:Gl X x) (hm:X.mg x=some (.ref Dc)) (cd:kN X.K Dc) (hN:X.N.Nodup) (hi:X.N[i]? = some n) (hl:X.env.scope.names.lookup n=some .local)
    (Qs:∀v xe,jm (X.iB v xe) (ya::qE) ts) (hr:PH X rest AE) (fF:(x == ("__debug__" : Str))=false:=by decide) :
    PH X (.ExceptHandler (some (.Name x p)) (some n) (ya::qE) Di::rest) (Dg X.K i Dc ts AE):=by
  intro pins s σ H D e C dc I met h;obtain⟨oe,vs,T,oT,Qt,he,hc,jZ,hd,h1,lG,hT,dT,h3,F1,F2⟩:=met;obtain⟨b,hb,h⟩:=h;refine wpAny_handleBy_cons (codeAny_handlers_test (nU (X:=X.iB (.ref e) X.xe) (Ik I) hg hm ?_ fF)) (by intro q;cases q);refine Qh (K:=X.K) I.cS he hc cd hb ?_;cases b with
  | false=>
    rw[if_neg (by decide)] at h;exact hr pins s σ H D e C dc I ⟨oe,vs,T,oT,Qt,he,hc,jZ,hd,h1,lG,hT,dT,h3,F1,F2⟩ h
  | true=>
    rw[if_pos rfl] at h;refine codeAny_handlers_suite_as ?_;refine wpAny_setFlight_none he hd h1 hT dT (Array.getElem?_eq_some_iff.mp h3).1 ?_;have fS:∀b,b≠T->(s.heap.update T (Obj.mapFields (·.setIfInBounds 3 .none))).get? b=s.heap.get? b:=fun b hb=>Heap.get?_update_other _ _ (Ne.symm hb)
    have I1:Inv X pins σ H { s with heap:=s.heap.update T (Obj.mapFields (·.setIfInBounds 3 .none)) }:=I.gk (t':=s.toks) (ch:=[T]) (fun b o hb q=>by rw[fS b (fun z=>hb (by simp[z]))];exact q) fun b hb=>by rw[List.mem_singleton.mp hb];exact F2
    have Il:=(fS e lG.symm).trans he;have I2:=I1.xY (a:=e) (o:=gP e C dc) F1 xf.ex ⟨⟨oe,vs,Il,hc,jZ,hd⟩,⟨oe,Il⟩,fun g1 g2 ⟨C7,C8,q1,q2⟩ kk=>⟨C7,C8,kk _ q1,q2⟩⟩;refine yY I2 hN hi (.inl hl) (v:=.ref e) rfl (fun s2 I3=>?_) (.inr hl);refine aM (Qs (.ref e) _ pins s2 _ _ (Ij i D) (Ik I3) (h e F1.1)) fun fl s3 q=>?_
    cases fl with
    | next=>
      obtain⟨au,H',J,q⟩:=q;exact AD (AF I.ok J) hN hi hl fun s5 J5=>⟨_,H',J5,q⟩
    | brk=>
      obtain⟨au,H',J,q⟩:=q;exact AD (AF I.ok J) hN hi hl fun s5 J5=>⟨_,H',J5,q⟩
    | cont=>
      obtain⟨au,H',J,q⟩:=q;exact AD (AF I.ok J) hN hi hl fun s5 J5=>⟨_,H',J5,q⟩
    | ret u=>
      obtain⟨v,au,H',J,r,q⟩:=q;exact AD (AF I.ok J) hN hi hl fun s5 J5=>⟨v,_,H',J5,r,q⟩
end
end L2
namespace L2
def mG (K:PySem.W.Frag) (C:PySem.Addr):Prop:=∃bm,jj K C bm/\cu bm
end L2
namespace L2
open PySem
def AG (K:PySem.W.Frag) (C:Addr):Bool:=match K.lookup C with
  | some ⟨.type t,_,.cls cd,sl⟩=>t == "type" && ((match cd.mro with | .ref c::bm=>c == C&&(bm.contains (.type "ValueError")&&(bm.contains (.type "BaseException")&&(!bm.contains (.type "AttributeError") && !bm.contains (.type "NameError")))) | _=>false)&&(!cd.hasDel &&
      (match sl.toList with | [_,_,_,_,some (.builtin i),_]=>i == "ValueError.__new__" | _=>false)))
  | _=>false
theorem Qu {K:PySem.W.Frag}{C:Addr}(h:AG K C=true):mG K C:=by
  unfold AG at h;split at h
  · rename_i t dd cd sl hk;rw[Bool.and_eq_true,Bool.and_eq_true,Bool.and_eq_true] at h;obtain⟨h1,h2,h3,h4⟩:=h;split at h2
    · rename_i c bm hm;split at h4
      · rename_i k0 k1 k2 k3 i k5 hs;simp only [Bool.and_eq_true,beq_iff_eq,Bool.not_eq_true'] at h1 h2 h3 h4;obtain⟨rfl,a1,a2,a3,a4⟩:=h2;subst h1 h4;refine⟨bm,⟨cd.name,cd.qualname,cd.ns,cd.bases,cd.hasDict,cd.slotNames,cd.subclasses,cd.abstract,cd.collection,dd,k0,k1,k2,k3,k5,?_⟩,⟨a1,a2,a3,a4⟩⟩;rw[hk];obtain⟨x1,x2,x3,x4,x5,x6,x7,x8,x9,y1,y2⟩:=cd;dsimp only at hm h3;subst hm h3;obtain⟨l⟩:=sl;dsimp only at hs;subst hs;rfl
      · cases h4
    · cases h2
  · cases h
end L2
namespace L2
open PySem PySem.Spec PyProof.Rows
structure dj (K:PySem.W.Frag) (C:Addr):Prop where
  ga:PySem.W.findIn K (.ref C) "__getattribute__" = some (some (.builtin "BaseException.__getattribute__"))
  gn:PySem.W.findIn K (.ref C) "__getattr__" = some none
  bx:PySem.W.mroIn K C (.type "BaseException")=some true
  hd:PySem.W.hasDictIn K C=true
section
variable {prog:Program}{w:World}{A:Around}{E:Value->Shared->Prop}{s:Shared}{K:PySem.W.Frag}{x C:Addr}{ox:Obj}{od:Option Obj}{name:Str}{v:Value}{expr:Bool}{Q:Value->Shared->Prop}
theorem Qv {Qf:Prop}(X:K.In s.heap) (I:PySem.W.InstAt s.heap x ox C od) (g:dj K C)
    (h:wpAny (model prog w) A.in1 (Builtin.«object.__getattribute__» ⟨[.ref x,.str name s.toks],[]⟩)
      (fun fin s'=>match fin with | .done (.ret v)=>wpAny (model prog w) A (handedOut v) Q E s' | _=>False) (fun _ _=>False) { s with toks:=s.toks+1 }) :
    wpAny (model prog w) A (getAttr (.ref x) name expr) Q E s:=by
  have FB:=PySem.F.attrBase_ValueError;refine wpAny_bind (wpAny_mkText (wpAny_holding (wpAny_bind (I.type _ _ _ _ (fun _ _ e=>e) (wpAny_bind (PySem.W.looks_findIn X g.ga _ _ _ _ (fun _ _ e=>e) ?_))))));dsimp only;rw[show (onTheHeap (Value.ref C)&&Value.builtin "BaseException.__getattribute__" == Value.builtin "object.__getattribute__")=false from by rw[show (Value.builtin "BaseException.__getattribute__" == Value.builtin "object.__getattribute__")=false from by decide +kernel,Bool.and_false],if_neg (by decide)];refine wpAny_bind (PySem.W.looks_hook (mc:=.ref C) X (r:=none) (by rw[if_pos (show onTheHeap (Value.ref C)=true from rfl)];exact g.gn) _ _ _ _ (fun _ _ e=>e) (wpAny_bind (wpAny_attempt (wpAny_holding ?_))));unfold callGetattribute;rw[show (expr&&onTheHeap (Value.builtin "BaseException.__getattribute__"))=false from by cases expr<;>rfl,if_neg (by decide)];unfold boundAndCalled;rw[FB.ga.bind];refine wpAny_bind (wpAny_pure ?_);show wpAny _ _ (call (.builtin "BaseException.__getattribute__") [.ref x,.str name s.toks]) _ _ _;refine wpAny_call ?_;refine codeAny_call_builtin FB.ga.plain PySem.F.entry_bexc_ga ?_;refine @PySem.W.check_slot (model prog w) _ _ { s with toks:=s.toks+1 } "BaseException.__getattribute__" "BaseException" "__getattribute__" (.ref x) [.str name s.toks] [] _ (by decide +kernel) (by decide +kernel) (I.type.andThen (PySem.W.looks_mroIn X g.bx)) (PySem.F.args_bexc_ga (.ref x) (.str name s.toks)) ?_;refine wpAny_mono h (fun fin s' z=>?_) fun _ _ z=>z.elim
  rcases fin with (_ | _ | _ | _) | _<;>first | exact z | exact z.elim
theorem Im (X:K.In s.heap) (I:PySem.W.InstAt s.heap x ox C od) (g:dj K C)
    (hf:PySem.W.findObj K C od name=some (.value v)) (hh:PySem.W.handedIn v=true) (h:Q v { s with toks:=s.toks+1 }):wpAny (model prog w) A (getAttr (.ref x) name expr) Q E s:=by
  refine Qv (Qf:=True) X I g ?_;obtain⟨YH,g,d,t,os⟩:=s;have L0:=I.type (M:=model prog w);have L1:=PySem.W.looks_find (M:=model prog w) X I hf;unfold Builtin.«object.__getattribute__»;refine wpAny_bind (wpAny_pure (wpAny_bind (wpAny_pure (wpAny_bind (L0.at (wpAny_bind (L1.at ?_)))))));refine wpAny_pure ?_;show wpAny _ _ (handedOut v) _ _ _;rw[PySem.W.handedOut_of hh];exact wpAny_pure h
end
def Io (K:PySem.W.Frag) (ta:TE) (f:Str):TE:=fun σ H Q=>ta σ H fun x H1=>∃a C d fs v,x = .ref a/\H1 a=some (gP a C (some d))/\H1 d=some (.xd fs)/\dj K C/\av K C f/\fs.lookup f=some v/\Q v H1
section
variable {X:Cx}{pins:List (Addr×Obj)}{σ:St}{H:Hp}{s:Shared}{a C d:Addr}{fs:List (Str×V)}{f:Str}{v:V}{A:Around}{E:Value->Shared->Prop}
theorem Qw {b:Bool}{Q:Value->Shared->Prop}(I:Inv X pins σ H s) (e:H a=some (gP a C (some d))) (ed:H d=some (.xd fs)) (c:dj X.K C) (n:av X.K C f) (l:fs.lookup f=some v)
    (h:∀u s',Inv X pins σ H s'->RelV v u->Q u s'):wpAny (model X.prog X.w) A (getAttr (.ref a) f b) Q E s:=by
  obtain⟨⟨oe,vs,h1,h2,h3,h4⟩,_,_⟩:=(show aH X.prog X.w H s.heap a (gP a C (some d)) from I.aF a _ e);obtain⟨mA,ns,r⟩:=(show aH X.prog X.w H s.heap d (.xd fs) from I.aF d _ ed);obtain⟨u,hu,ru⟩:=eV.some_of (v:=v) (o:=mA f) (by rw[←l];exact r f);obtain⟨od,ho,hl⟩:=zG ns;have J:PySem.W.InstAt s.heap a oe C (some od):=⟨h1,h2,by unfold PySem.W.notCls;rw[h4],by rw[h3];exact ho⟩;exact Im I.cS J c (PySem.W.findObj_own c.hd n rfl (by rw[hl,hu])) (By ru) (h u _ (I.tok _) ru)
end
section
variable {X:Cx}{e:Expr}{f:Str}{pos:Pos}{ta:TE}
theorem Qx (he:PE X e ta) (hb:attributeBase e f X.env (eval e X.env)=eval e X.env):PE X (.Attribute e f pos) (Io X.K ta f):=by
  intro pins s σ H Q I h;refine BB hb (aM (he pins s σ H _ I h) fun u s1 aE=>?_);obtain⟨x,H1,I1,rx,a,C,d,fs,v,ex,ea,ed,c,n,l,q⟩:=aE;subst ex;obtain rfl:u=Value.ref a:=rx;exact Qw I1 ea ed c n l fun u' s2 I2 ru=>⟨v,H1,I2,ru,q⟩
end
structure iu (K:PySem.W.Frag) (C:Addr):Prop where
  ha:PySem.W.findIn K (.ref C) "__class__" = some (some (.builtin "object.__class__"))
  hn:PySem.W.specialIn K (.builtin "object.__class__") "__get__" = some (some (.builtin "getset_descriptor.__get__"))
  zI:PySem.W.takesIn K (.builtin "object.__class__")=some true
  hm:PySem.W.mroIn K C (.type "object")=some true
end L2
namespace L2
open PySem
def pM (C:Addr) (o:Obj):Bool:=(match o with
  | ⟨.type t,_,.cls cd,sl⟩=>t == "type" && ((match cd.mro with | .ref c::bm=>c == C&&(bm.contains (.type "ValueError")&&(bm.contains (.type "BaseException")&&(!bm.contains (.type "AttributeError") && !bm.contains (.type "NameError")))) | _=>false)&&(!cd.hasDel &&
      (match sl.toList with | [_,_,_,_,some (.builtin i),_]=>i == "ValueError.__new__" | _=>false)))
  | _=>false)&&(match o.data with | .cls cd=>om cd.mro | _=>false)
theorem Ip {K:PySem.W.Frag}{C:Addr}{c0:Value}{dd:Option Addr}{cd:ClassData}{sl:Array (Option Value)}(l:K.lookup C=some ⟨c0,dd,.cls cd,sl⟩) (h:pM C ⟨c0,dd,.cls cd,sl⟩=true):AG K C=true/\C4 K C=true:=by
  unfold pM at h;rw[Bool.and_eq_true] at h;refine⟨?_,?_⟩
  · unfold AG;rw[l];cases c0<;>first | exact h.1 | (have:=h.1;cases this)
  · unfold C4 PySem.W.clsIn;rw[l];exact h.2
theorem dP {K:PySem.W.Frag}{C:Addr}{c0:Value}{dd:Option Addr}{cd:ClassData}{sl:Array (Option Value)}(l:K.lookup C=some ⟨c0,dd,.cls cd,sl⟩) (h:pM C ⟨c0,dd,.cls cd,sl⟩=true) (h1:PySem.W.hasDictIn K C=true)
    (h2:PySem.W.findIn K (.ref C) "__setattr__" = some (some (.builtin "object.__setattr__"))):ir K C:=⟨h1,(Ip l h).2,h2⟩
theorem fL {K:PySem.W.Frag}{C:Addr}{c0:Value}{dd:Option Addr}{cd:ClassData}{sl:Array (Option Value)}(l:K.lookup C=some ⟨c0,dd,.cls cd,sl⟩) (h:pM C ⟨c0,dd,.cls cd,sl⟩=true):mG K C:=Qu (Ip l h).1
end L2
namespace L2
open PySem PySem.Spec PyProof.Rows
section
variable {X:Cx}{k:Nat}{C:Addr}{ps:List Str}{sp:Sp}{E:XK}{x:Str}{p pos aY:Pos}{e:Expr}{es:List Expr}{t:TA}
theorem mH (M:cP X.prog X.w X.K X.mg X.base C "__init__" ps k sp) (xo:mG X.K C) (hr:aX (k+1) X.A) (xe:gO X E) (hg:Gl X x) (hm:X.mg x=some (.ref C)) (Dd:ps.length<=1000) (ha:PA X (e::es) t)
    (fF:(x == ("__debug__" : Str))=false:=by decide) (he:starEach (e::es) X.env=(false,eval e X.env)::starEach es X.env:=by rfl) (bY:(backTo aY (starEach es X.env)).any (·.1)=false:=by rfl) :
    PS X (.Raise (some (.Call (.Name x p) (e::es) [] aY)) none pos) (Ic C sp [] E (fun _ _ _=>False) t):=by
  obtain⟨f,fd,m,b,F⟩:=M;obtain⟨bm,xo,U⟩:=xo;exact Qa ⟨xo,U,m.at_,m.fn⟩ F hr xe (fun _ _ _ _ _ _ _ z=>z.elim) hg hm (.all b) .nil Dd ha fF he bY
end
theorem Qy {X:Cx}{e:Expr}{f:Str}{pos:Pos}{ta:TE}(K:PySem.W.Frag) (h:X.K=K) (he:PE X e ta) (hb:attributeBase e f X.env (eval e X.env)=eval e X.env):PE X (.Attribute e f pos) (Io K ta f):=h▸Qx he hb
section
variable {prog:Program}{w:World}{A:Around}{E:Value->Shared->Prop}{s:Shared}{K:PySem.W.Frag}{x C:Addr}{ox:Obj}{od:Option Obj}{name:Str}{v:Value}{fill expr:Bool}{tk:Tok}
theorem Qz {Q:Value->Shared->Prop}(X:K.In s.heap) (I:PySem.W.InstAt s.heap x ox C od) (g:dj K C)
    (h:wpAny (model prog w) A.in1 (Builtin.«object.__getattribute__» ⟨[.ref x,.str name tk],[]⟩)
      (fun fin s'=>match fin with | .done (.ret v)=>wpAny (model prog w) A (handedOut v) Q E s' | _=>False) (fun _ _=>False) s) :
    wpAny (model prog w) A (getAttrBy (.ref x) (.str name tk) fill expr) Q E s:=by
  have FB:=PySem.F.attrBase_ValueError;unfold getAttrBy;refine wpAny_holding (wpAny_bind (I.type _ _ _ _ (fun _ _ e=>e) (wpAny_bind (PySem.W.looks_findIn X g.ga _ _ _ _ (fun _ _ e=>e) ?_))));dsimp only;rw[show (onTheHeap (Value.ref C)&&Value.builtin "BaseException.__getattribute__" == Value.builtin "object.__getattribute__")=false from by rw[show (Value.builtin "BaseException.__getattribute__" == Value.builtin "object.__getattribute__")=false from by decide +kernel,Bool.and_false],if_neg (by decide)];refine wpAny_bind (PySem.W.looks_hook (mc:=.ref C) X (r:=none) (by rw[if_pos (show onTheHeap (Value.ref C)=true from rfl)];exact g.gn) _ _ _ _ (fun _ _ e=>e) (wpAny_bind (wpAny_attempt (wpAny_holding ?_))));unfold callGetattribute;rw[show (expr&&onTheHeap (Value.builtin "BaseException.__getattribute__"))=false from by cases expr<;>rfl,if_neg (by decide)];unfold boundAndCalled;rw[FB.ga.bind];refine wpAny_bind (wpAny_pure ?_);show wpAny _ _ (call (.builtin "BaseException.__getattribute__") [.ref x,.str name tk]) _ _ _;refine wpAny_call ?_;refine codeAny_call_builtin FB.ga.plain PySem.F.entry_bexc_ga ?_;refine @PySem.W.check_slot (model prog w) _ _ s "BaseException.__getattribute__" "BaseException" "__getattribute__" (.ref x) [.str name tk] [] _ (by decide +kernel) (by decide +kernel) (I.type.andThen (PySem.W.looks_mroIn X g.bx)) (PySem.F.args_bexc_ga (.ref x) (.str name tk)) ?_;refine wpAny_mono h (fun fin s' z=>?_) fun _ _ z=>z.elim
  rcases fin with (_ | _ | _ | _) | _<;>first | exact z | exact z.elim
theorem QA {Q:Option Value->Shared->Prop}(X:K.In s.heap) {od:Obj}(I:PySem.W.InstAt s.heap x ox C (some od)) (g:dj K C) (i:iu K C) (h:Q (some (.ref C)) { s with toks:=s.toks+1 }):wpAny (model prog w) A (getAttr? (.ref x) "__class__") Q E s:=by
  have hf:PySem.W.findObj K C (some od) "__class__" = some (.bind (.builtin "getset_descriptor.__get__") (.builtin "object.__class__")):=PySem.W.findObj_data (by obtain⟨cd,hc,_⟩:=PySem.W.any_some g.hd;rw[hc];rfl) i.ha i.hn i.zI;refine wpAny_bind (wpAny_mkText (wpAny_bind (wpAny_attempt (Qz (s:={ s with toks:=s.toks+1 }) X I g ?_))));have L0:=I.type (M:=model prog w);have L1:=PySem.W.looks_find (M:=model prog w) X I hf;unfold Builtin.«object.__getattribute__»;refine wpAny_bind (wpAny_pure (wpAny_bind (wpAny_pure (wpAny_bind (L0 _ _ _ _ (fun _ _ e=>e) (wpAny_bind (L1 _ _ _ _ (fun _ _ e=>e) ?_)))))));show wpAny (model prog w) A.in1 (holding [.builtin "object.__class__"] (call (.builtin "getset_descriptor.__get__") [.builtin "object.__class__",.ref x,.ref C]) >>= ret) _ _ _;refine wpAny_bind (wpAny_holding (wpAny_call (PySem.W.class_get (s:={ s with toks:=s.toks+1 }) X I i.hm ?_)));exact wpAny_pure (PySem.W.handed_on rfl (wpAny_pure h))
theorem QB {od:Obj}(g:dj K C) (i:iu K C):PySem.W.KitX K (.ref x) (.ref C) (fun h=>PySem.W.InstAt h x ox C (some od)) where
  ty:=fun _ _ _ I=>I.type
  it:=fun _ _ X _=>by
    obtain⟨QC,mY,_⟩:=PySem.W.any_some g.hd;unfold PySem.W.clsIn at mY;split at mY
    · rename_i c' d' QD rj ho;intro A' Q' E' s' k q;unfold isType loadHead;exact wpAny_bind (wpAny_loadPart (k _ _ (X _ _ ho)) (wpAny_pure q))
    · cases mY
  ne:=fun h tp dd its n sl X QE=>by
    obtain⟨QC,mY,_⟩:=PySem.W.any_some g.hd;refine Bool.eq_false_iff.mpr fun q=>?_
    have e:C=tp:=Value.ref.inj (beq_iff_eq.mp q);subst e;unfold PySem.W.clsIn at mY;split at mY
    · rename_i c' d' QD rj ho;have z:=(X _ _ ho).symm.trans QE;cases z
    · cases mY
  ca:=fun X I k=>QA X I g i k
end
section
variable {X:Cx}
theorem Iq {pins:List (Addr×Obj)}{σ:St}{H:Hp}{s:Shared}{a C d:Addr}{fs:List (Str×V)}{c:Value}{b:Bool}{Q:VK}(I:Inv X pins σ H s) (ea:H a=some (gP a C (some d))) (ed:H d=some (.xd fs)) (g:dj X.K C) (i:iu X.K C) (e:PySem.W.kitOne X.K (.ref C) c=some b) (q:Q (.bl b) H) :
    wpAny (model X.prog X.w) X.A (call (.builtin "isinstance") [.ref a,c]) (EP X pins σ Q) X.xe s:=by
  obtain⟨⟨oe,vs,h1,h2,h3,h4⟩,_,_⟩:=(show aH X.prog X.w H s.heap a (gP a C (some d)) from I.aF a _ ea);obtain⟨mA,ns,r⟩:=(show aH X.prog X.w H s.heap d (.xd fs) from I.aF d _ ed);obtain⟨od,ho,hl⟩:=zG ns;have J:PySem.W.InstAt s.heap a oe C (some od):=⟨h1,h2,by unfold PySem.W.notCls;rw[h4],by rw[h3];exact ho⟩;exact PySem.W.kia_one (QB g i) I.cS J e (fun z=>nomatch z) fun tk=>⟨.bl b,H,I.tok tk,rfl,q⟩
theorem QF (K:PySem.W.Frag) (h:X.K=K):i9 X (.builtin "isinstance") (fun xs H Q=>∃a C d fs n b,xs = [.ref a,V.ty n]/\H a=some (gP a C (some d))/\H d=some (.xd fs)/\dj K C/\iu K C/\PySem.W.kitOne K (.ref C) (.type n)=some b/\Q (.bl b) H):=by
  subst h;intro pins s σ H xs us Q I r h;obtain⟨a,C,d,fs,n,b,rfl,ea,ed,g,i,e,q⟩:=h;obtain⟨u,w',rfl,ru,lQ⟩:=zF r;cases ru;cases lQ;exact Iq I ea ed g i e q
theorem lV (K:PySem.W.Frag) (h:X.K=K):i9 X (.builtin "isinstance") (fun xs H Q=>∃a C d fs D b,xs = [.ref a,.ref D]/\H a=some (gP a C (some d))/\H d=some (.xd fs)/\dj K C/\iu K C/\PySem.W.kitOne K (.ref C) (.ref D)=some b/\Q (.bl b) H):=by
  subst h;intro pins s σ H xs us Q I r h;obtain⟨a,C,d,fs,D,b,rfl,ea,ed,g,i,e,q⟩:=h;obtain⟨u,w',rfl,ru,lQ⟩:=zF r;cases ru;cases lQ;exact Iq I ea ed g i e q
end
end L2
namespace HT
open PySem PySem.Spec PyProof.Rows PySem.Calls
section
variable {prog:Program}{w:World}{A:Around}{E:Value->Shared->Prop}{s:Shared}
theorem gq {t sl:Addr}{items:Array Value}{vl vu:Value}{lo hi:Option Int}{Q:Value->Shared->Prop}(ht:IsTup s.heap t items) (hs:s.heap.IsSliceOf sl vl vu .none) (pl:IsPart vl lo) (pu:IsPart vu hi)
    (hw:bA items.size 0 lo=0/\bA items.size items.size hi=items.size) (h:Q (.ref t) s):wpAny (model prog w) A (getItem (.ref t) (.ref sl)) Q E s:=by
  obtain⟨os,rQ,zM,wk⟩:=id hs;have BJ:s.TypeIs (.ref sl) "slice":=⟨os,rQ,zM⟩;unfold getItem
  try with_reducible refine wpAny_holding ?_
  first | refine wpAny_bind (wpAny_pure ?_) | skip
  refine wpAny_bind (wpAny_sequenceKey ht.typeIs (by decide) ?_);refine wpAny_bind (wpAny_callSpecial?_slot (name:=Str.ofString "__getitem__") ht.typeIs PyProof.Rows.slot_tuple_getitem
    (wpAny_call_entry PyProof.Rows.slot_tuple_getitem ht.typeIs entry_tuple_getitem ?_ (args_tuple_getitem _ _)))
  show wpAny _ _ (Builtin.Tuple.tupleItemsOf (.ref t) >>= _) _ _ s;refine wpAny_bind (tupleItemsOf_ ht ?_);refine wpAny_bind (wpAny_typeOf BJ ?_);rw[if_pos (by decide)];refine wpAny_bind (Fz hs pl pu ?_);have Dj:(((bA items.size 0 lo:Nat):Int) == 0&&(1:Int) == 1&&(bA items.size items.size hi-bA items.size 0 lo) == items.size)=true:=by
    rw[hw.1,hw.2];simp
  show wpAny _ _ (if (((bA items.size 0 lo:Nat):Int) == 0&&(1:Int) == 1&&(bA items.size items.size hi-bA items.size 0 lo) == items.size)=true then _ else _) _ _ s;rw[if_pos Dj];refine wpAny_bind (m:=Builtin.Tuple.tupleIsExact (.ref t)) (wpAny_bind (wpAny_typeOf ht.typeIs (wpAny_pure ?_)));rw[if_pos (by decide)];refine wpAny_bind (wpAny_rule ?_)
  first
    | exact wpAny_pure ⟨_,rfl,wpAny_pure h⟩
    | exact wpAny_bind (wpAny_pure (wpAny_pure ⟨_,rfl,wpAny_pure h⟩))
end
end HT
namespace L2
open PySem PySem.Spec PyProof.Rows
section
variable {X:Cx}
def Dk (K:PySem.W.Frag):V->Option Int->Option Int->Hp->VK->Prop:=fun x lo hi H Q=>∃a xs,x = .ref a/\aD K H a xs/\
  ((HT.bA xs.length 0 lo=0/\HT.bA xs.length xs.length hi=xs.length)->Q (.ref a) H)/\
  (¬(HT.bA xs.length 0 lo=0/\HT.bA xs.length xs.length hi=xs.length)->∀p,H p=none->Q (.ref p) (upd H p (.tup (bN xs lo hi))))
theorem Ir {K:PySem.W.Frag}(hK:X.K=K):rR X (Dk K):=by
  subst hK;intro pins s σ H x v vl vu lo hi sl Q I rx hs pl pu h;obtain⟨a,xs,rfl,hx,q1,q2⟩:=h
  by_cases hw:HT.bA xs.length 0 lo=0/\HT.bA xs.length xs.length hi=xs.length
  · cases rx;obtain⟨its,r,ht,hz⟩:=I.tuple hx;have hlen:its.toArray.size=xs.length:=by rw[List.size_toArray];exact r.length.symm
    refine⟨"tuple",_,PyProof.Rows.slot_tuple_getitem.lookup,ht.typeIs,?_⟩;exact HT.gq ht hs pl pu (by rw[hlen];exact hw) ⟨.ref a,H,I,rfl,q1 hw⟩
  · exact FD pins s σ H _ v vl vu lo hi sl Q I rx hs pl pu ⟨a,xs,rfl,hx,hw,q2 hw⟩
end
def dd (val:Nat->Str):Nat->List Str
  | 0=>[]
  | i+1=>if val i∈dd val i then dd val i else dd val i++[val i]
section
variable {prog:Program}{w:World}{A:Around}{R:Result->Shared->Prop}
end
end L2
namespace L2
open PySem PySem.W PyProof.Rows
end L2
namespace L2
open PySem PySem.Spec PyProof.Rows
open Sem (wp)
namespace Rv
end Rv
theorem iw:bootBuiltins "ValueError" = some (.type "ValueError"):=by decide +kernel
theorem ah {K:PySem.W.Frag}{C D:Addr}{b:Bool}{cd:ClassData}(h1:PySem.W.clsIn K D=some cd) (h2:PySem.W.typeIn K (.ref D)=some (.type "type")) (h3:PySem.W.subIn K (.ref C) (.ref D)=some b) (h4:(Value.ref C == Value.ref D)=true->b=true):PySem.W.kitOne K (.ref C) (.ref D)=some b:=by
  unfold PySem.W.kitOne;split
  · rename_i h;rw[h4 h]
  · unfold PySem.W.kitCls;dsimp only;rw[h1,h2,h3];rfl
theorem eU {K:PySem.W.Frag}{C:Addr}{T:String}{b:Bool}(h1:PySem.W.kitMeta T=true) (h3:PySem.W.subIn K (.ref C) (.type T)=some b):PySem.W.kitOne K (.ref C) (.type T)=some b:=by
  unfold PySem.W.kitOne;rw[if_neg (show ¬((Value.ref C == Value.type T)=true) from Bool.false_ne_true)];unfold PySem.W.kitCls;dsimp only;rw[if_pos h1,h3]
theorem aZ:PySem.W.kitMeta "ValueError" = true:=by decide +kernel
section
variable {X:Cx}
theorem jz (K:PySem.W.Frag) (hK:X.K=K):dR X (binaryOp .Add) (fun x y H Q=>∃l b xs zs,x = .ref l/\y = .ref b/\ak K H l xs/\ak K H b zs/\xs.length+zs.length<=sizeLine/\∀p,H p=none->Q (.ref p) (upd H p (.lst (xs++zs)))):=by
  subst hK;intro pins s σ H x y v u Q I rx ry h;obtain⟨l,b,xs,zs,rfl,rfl,hH,hB,hz,q⟩:=h;cases rx;cases ry;obtain⟨its,r,hl,z⟩:=I.list hH;obtain⟨b7,r2,FL,z2⟩:=I.list hB;have e1:=r.length;have e2:=r2.length;obtain⟨⟨cls,dd,data,sl⟩,ho,hc,n,hd⟩:=hl.isList;obtain⟨⟨BI,zK,data2,zL⟩,kg,wj,n2,hd2⟩:=FL.isList;simp only at hc hd wj hd2;subst hc hd wj hd2;have e:its.toArray++b7.toArray=(its++b7).toArray:=by simp
  refine concat_meets ⟨_,ho,rfl⟩ ⟨_,kg,rfl⟩ noFill_list_add seq_list_add PySem.F.slot_list_add PySem.F.entry_list_add (PySem.F.args_list_add_2 _ _) (list_addW l b its.toArray b7.toArray n n2 dd zK sl zL (by rw[List.size_toArray,List.size_toArray];omega)) ⟨ho,kg,?_⟩;rw[e];exact⟨.ref _,_,I.o4 (t':=s.toks) (r.append r2) (by rw[List.length_append];omega),rfl,q _ I.fresh⟩
end
section
variable {P:Program}{w:World}{K:PySem.W.Frag}{mg:Str->Option Value}{base:Heap}
theorem fh.x {x:Str}{ps:List Str}{k:Nat}{sp:Sp}(F:fh P w K mg base x ps k sp):eE P w K mg base x ps k sp:=by
  obtain⟨f,fd,a,kp,lk,b,F⟩:=F;refine⟨f,fd,a,kp,lk,b,F.len,fun A outer s H args us vs Q E hr he hb hv hs=>?_⟩;refine codeAny_mono (F.run A outer s H args us vs Q E hr he hb hv hs) fun r s' hq=>?_
  cases r with
  | ok fl=>
    cases fl with
    | ret u=>exact hq
    | next=>exact False.elim hq
    | brk=>exact False.elim hq
    | cont=>exact False.elim hq
  | error e=>exact False.elim hq
theorem eE.or {x:Str}{ps:List Str}{k:Nat}{yb yc:Sp}(F:eE P w K mg base x ps k yb) (G:eE P w K mg base x ps k yc):eE P w K mg base x ps k (fun vs H Q E=>yb vs H Q E\/yc vs H Q E):=by
  obtain⟨f,fd,a,kp,⟨oc,od,fZ,lk⟩,b,F⟩:=F;obtain⟨f',Ge,a',Nt,⟨Gf,Gg,wY,uY⟩,b',G⟩:=G;have e:f=f':=Value.ref.inj (Option.some.inj (a.symm.trans a'));subst e;have e2:=Option.some.inj (lk.symm.trans uY);injection e2 with _ _ h _
  injection h with h
  subst h;refine⟨f,fd,a,kp,⟨oc,od,fZ,lk⟩,b,fun vs H Q E h=>h.elim (F.len vs H Q E) (G.len vs H Q E),fun A outer s H args us vs Q E hr he hb hv hs=>?_⟩;rcases hs with hs | hs
  · exact F.run A outer s H args us vs Q E hr he hb hv hs
  · exact G.run A outer s H args us vs Q E hr he hb hv hs
end
section
variable {X:Cx}{tg:Expr}
abbrev TJ:=Str->St->Hp->VK->Prop
def PJ (X:Cx) (ms:List (Sem Value)) (t:TJ):Prop:=
  ∀(pins:List (Addr×Obj)) (s:Shared) (σ:St) (H:Hp) (out:Str) (Q:VK),Inv X pins σ H s->t out σ H Q->wpAny (model X.prog X.w) X.A (joinParts out ms) (EP X pins σ Q) X.xe s
def Dl:TJ:=fun out _ H Q=>out.length<=sizeLine/\Q (.str out) H
theorem QG:PJ X [] Dl:=fun _ _ _ H _ _ I h=>joinParts_nil ⟨.str _,H,I.tok _,⟨_,rfl⟩,h.2⟩ h.1
def Dn (te:TE) (tj:TJ):TJ:=fun out σ H Q=>te σ H fun x H1=>∃y,x = .str y/\(out++y).length<=sizeLine/\tj (out++y) σ H1 Q
theorem QH {e:Expr}{te:TE}{tj:TJ}{ms:List (Sem Value)}(he:PE X e te) (hj:PJ X ms tj):PJ X (eval e X.env::ms) (Dn te tj):=by
  intro pins s σ H out Q I h;refine joinParts_cons (aM (he pins s σ H _ I h) fun v s1 aE=>?_);obtain⟨x,H1,I1,r1,q1⟩:=aE;obtain⟨y,rfl,hl,q⟩:=q1;obtain⟨t,rfl⟩:=r1;exact⟨hl,hj pins s1 σ H1 _ Q I1 q⟩
def Dp (te:TE) (tj:TJ):TJ:=fun out σ H Q=>te σ H fun x H1=>∃y,(x = .str y\/∃i:Int,x = .int i/\i.natAbs.log2<1920/\y=toString i)/\y.length<=sizeLine/\(out++y).length<=sizeLine/\tj (out++y) σ H1 Q
theorem QI {e:Expr}{pos:Pos}{te:TE}{tj:TJ}{ms:List (Sem Value)}(he:PE X e te) (hj:PJ X ms tj):PJ X (eval (.FormattedValue e (-1) none pos) X.env::ms) (Dp te tj):=by
  intro pins s σ H out Q I h;refine joinParts_cons (FormattedValue_plain (aM (he pins s σ H _ I h) fun v s1 aE=>?_));obtain⟨x,H1,I1,r1,q1⟩:=aE;obtain⟨y,hx,hy,hl,q⟩:=q1;rcases hx with rfl | ⟨i,rfl,hi,rfl⟩
  · obtain⟨t,rfl⟩:=r1;exact PyProof.Rows.formatField_str (fun t' tk=>⟨hl,hj pins _ σ H1 _ Q (I1.tok _) q⟩) hy
  · obtain⟨t,rfl⟩:=r1;exact PyProof.Rows.formatField_int_small hi ⟨hl,hj pins _ σ H1 _ Q (I1.tok _) q⟩
theorem QJ {e1 e2:Expr}{es:List Expr}{pos:Pos}{tj:TJ}(h:PJ X (eval e1 X.env::eval e2 X.env::evalEach es X.env) tj):PE X (.JoinedStr (e1::e2::es) pos) (tj Str.empty):=
  fun pins s σ H Q I q=>JoinedStr_many (h pins s σ H _ Q I q)
end
end L2
namespace PySem
open Sem (wp)
end PySem
namespace L2
open PySem PySem.Spec PyProof.Rows
end L2
namespace Dm
open PySem PySem.NumText L2
structure SD where
  us:List Str
  ts:List As
  fs:List HE
abbrev Ln:=Str->List (Str×Addr)
abbrev Dq:=Str×Str×Int×Addr
theorem QK {xs:List Str}:(xs.map V.str).all iZ=true:=by rw[List.all_map];exact List.all_eq_true.mpr fun _ _=>rfl
def nF (lv:Str->Nat) (j:Nat) (x:Str):Bool:=decide (lv x=j)
end Dm
namespace L2
open PySem PySem.Spec PyProof.Rows
end L2
namespace Dm
open PySem PySem.NumText L2
def Iu (ts:List As) (yr:Str->Int) (f:HE):Bool:=decide (f.lo<=yr (xK ts f.u))&&decide (yr (xK ts f.u)<=f.hi)
def AH (yr:Str->Int) (q:Dq):Bool:=decide (yr q.2.1+q.2.2.1<=yr q.1)
end Dm
namespace L2
open PySem
end L2
namespace L2
open PySem PySem.Spec PyProof.Rows
section
variable {P:Program}{w:World}{K:PySem.W.Frag}{mg:Str->Option Value}{base:Heap}
def bB (P:Program) (w:World) (K:PySem.W.Frag) (mg:Str->Option Value) (base:Heap) (CX:jJ) (C:Addr) (m:Str) (ps:List Str) (k:Nat) (sp:Sp):Prop:=
  ∃(f:Addr) (fd:FuncData),Meth K C m f/\(∃oc od fZ,K.lookup f=some ⟨oc,od,.func fd,fZ⟩)/\(∀us:List Value,us.length=ps.length->bindArgs fd ⟨us,[]⟩=pure (ps.zip us))/\eg P w K mg base CX k f fd ps sp
theorem iM.lW {CX:jJ}{C:Addr}{qual m:Str}{st:Stmt}{N ps:List Str}{k:Nat}{sp:Sp}(D:iM K C qual m st ps) (S:aj N ps (zm st)) (len:∀vs H Q E,sp vs H Q E->vs.length=ps.length)
    (body:∀(f:Addr) (ay:Value) (A:Around) (outer:List Env) (s:Shared) (H:Hp) (vs:List V) (Q:VK) (E:XK),aX k (A.deeper (envOfC qual (zm st) s.heap.objs.size f ay))->sp vs H Q E->
      ∃t,jm (aA CX P w K mg base N qual (zm st) f ay A outer s H E) (zj st) t/\t { nx:=fun _ H'=>Q .aL H',rt:=Q } (start N vs) H):bB P w K mg base CX C m ps (k+1) sp:=by
  obtain⟨f,fd,F,a,b⟩:=D;obtain⟨oc,od,kV,doc,pm,an,ay,ct,fZ,e,lk,jo⟩:=id F.ex;subst e;exact⟨f,_,a,⟨oc,od,fZ,lk⟩,b,BG lk jo S len (body f ay)⟩
theorem iM.jk {C:Addr}{qual m:Str}{st:Stmt}{N ps:List Str}{k:Nat}{sp:Sp}(D:iM K C qual m st ps) (S:aj N ps (zm st)) (len:∀vs H Q E,sp vs H Q E->vs.length=ps.length)
    (gg:∀(f:Addr) (ay:Value) (A:Around) (outer:List Env) (s:Shared) (H:Hp) (vs:List V) (Q:VK) (E:XK),aX k (A.deeper (envOfC qual (zm st) s.heap.objs.size f ay))->sp vs H Q E->
      ∃t,jm (aA bJ P w K mg base N qual (zm st) f ay A outer s H E).bX (zj st) t/\t { nx:=fun _ H'=>Q .aL H',rt:=Q } (start N vs) H):bB P w K mg base bJ C m ps (k+1) sp:=by
  obtain⟨f,fd,F,a,b⟩:=D;obtain⟨oc,od,kV,doc,pm,an,ay,ct,fZ,e,lk,jo⟩:=id F.ex;exact⟨f,fd,a,⟨oc,od,fZ,e▸lk⟩,b,F.ok S len (gg f)⟩
theorem bB.m {C:Addr}{m:Str}{ps:List Str}{k:Nat}{sp:Sp}(F:bB P w K mg base bJ C m ps k sp):cP P w K mg base C m ps k sp:=by
  obtain⟨f,fd,a,_,b,F⟩:=F;exact⟨f,fd,a,b,F⟩
theorem bB.mx {C:Addr}{m:Str}{ps:List Str}{k:Nat}{sp:Sp}(F:bB P w K mg base (i6 P w) C m ps k sp):qx P w K mg base C m ps k sp:=by
  obtain⟨f,fd,a,_,b,F⟩:=F;exact⟨f,fd,a,b,F⟩
theorem bB.x {C:Addr}{m:Str}{ps:List Str}{k:Nat}{sp:Sp}(F:bB P w K mg base bJ C m ps k sp):bB P w K mg base (i6 P w) C m ps k sp:=by
  obtain⟨f,fd,a,lk,b,F⟩:=F;refine⟨f,fd,a,lk,b,F.len,fun A outer s H args us vs Q E hr he hb hv hs=>?_⟩;refine codeAny_mono (F.run A outer s H args us vs Q E hr he hb hv hs) fun r s' hq=>?_
  cases r with
  | ok fl=>
    cases fl with
    | ret u=>exact hq
    | next=>exact False.elim hq
    | brk=>exact False.elim hq
    | cont=>exact False.elim hq
  | error e=>exact False.elim hq
theorem bB.or {CX:jJ}{C:Addr}{m:Str}{ps:List Str}{k:Nat}{yb yc:Sp}(F:bB P w K mg base CX C m ps k yb) (G:bB P w K mg base CX C m ps k yc):bB P w K mg base CX C m ps k (fun vs H Q E=>yb vs H Q E\/yc vs H Q E):=by
  obtain⟨f,fd,a,⟨oc,od,fZ,lk⟩,b,F⟩:=F;obtain⟨f',Ge,a',⟨Gf,Gg,wY,uY⟩,b',G⟩:=G;have e:f=f':=Value.ref.inj (Option.some.inj (Option.some.inj (a.at_.symm.trans a'.at_)));subst e;have e2:=Option.some.inj (lk.symm.trans uY);injection e2 with _ _ h _
  injection h with h
  subst h;refine⟨f,fd,a,⟨oc,od,fZ,lk⟩,b,fun vs H Q E h=>h.elim (F.len vs H Q E) (G.len vs H Q E),fun A outer s H args us vs Q E hr he hb hv hs=>?_⟩;rcases hs with hs | hs
  · exact F.run A outer s H args us vs Q E hr he hb hv hs
  · exact G.run A outer s H args us vs Q E hr he hb hv hs
end
section
open SeqAt
end
end L2
namespace Dm
open PySem PySem.NumText L2
theorem QL (x:Str):eT (co x)=x:=gC (by rw[di])
structure tS (y:Str):Prop where
  pass:lF (wordsOf y)=true
  feed:10 ∉ co y
  len:y.length<=900
instance (y:Str):Decidable (tS y):=decidable_of_iff (lF (wordsOf y)=true/\10 ∉ co y/\y.length<=900) ⟨fun h=>⟨h.1,h.2.1,h.2.2⟩,fun h=>⟨h.pass,h.feed,h.len⟩⟩
inductive gU:RS->List (List V)->RS->Prop where
  | nil {s:RS}:gU s [] s
  | row {s s1 s':RS}{ws:List V}{rs:List (List V)}(st:bV s ws s1) (r:gU s1 rs s'):gU s (ws::rs) s'
theorem gU.snoc {s s1 s2:RS}{ws:List V}{rs:List (List V)}(h:gU s rs s1) (st:bV s1 ws s2):gU s (rs++[ws]) s2:=by
  induction h with
  | nil=>exact .row st .nil
  | row iX _ ih=>exact .row iX (ih st)
theorem Told.steps {us:List Str}{ts fs rs:List (List V)}{f:Int×Int}(t:Told us ts fs rs):gU ⟨some f,[],[],[]⟩ rs ⟨some f,us,ts,fs⟩:=by
  induction t with
  | nil=>exact .nil
  | unit t hn hx ih=>exact ih.snoc (.unit hn hx)
  | je t h hn ih=>exact ih.snoc (.je h hn)
  | find t h ih=>exact ih.snoc (.find h)
theorem QM {ls:List Str}(h0:ls≠[]) (hf:∀l∈ls,10 ∉ co l):Txt.split (Txt.join "\n" ls) "\n" = ls:=by
  have:=HJ (c:=10) (ls:=ls.map co) (by simpa using h0) (fun x hx=>by
    obtain⟨v,hv,rfl⟩:=List.mem_map.mp hx;exact hf v hv)
  rw[←Pb,List.map_map] at this;have e:Txt.join "\n" ls=eT (jc [10] (ls.map co)):=by
    show Txt.join (Str.ofString "\n") ls=_;rw[Hw,Hx,di]
  rw[e];exact this.trans ((List.map_congr_left fun v _=>QL _).trans (List.map_id ls))
theorem QN {ls:List Str}(hl:ls.length<=400) (h:∀l∈ls,l.length<=900):(Txt.join "\n" ls).length<=1000000/\(ls.map (·.length)).sum+ls.length * (Str.ofString "\n" : Str).length<=16777216:=by
  have e:Txt.join "\n" ls=eT (jc [10] (ls.map co)):=by
    show Txt.join (Str.ofString "\n") ls=_;rw[Hw,Hx,di]
  have h1:=CV [10] (ls.map co);have h2:=Hz (l:=ls.map co) (k:=900) fun x hx=>by
    obtain⟨v,hv,rfl⟩:=List.mem_map.mp hx;rw[fT];exact h v hv
  have h3:(ls.map co).map List.length=ls.map (·.length):=by
    rw[List.map_map];exact List.map_congr_left fun v _=>fT v
  have e1:(Str.ofString "\n" : Str).length=1:=by decide +kernel
  rw[h3] at h1 h2;rw[List.length_map] at h1 h2;have : [10].length=1:=rfl;rw[this] at h1;rw[e,vg,e1];omega
def QO (v:V):Prop:=32 ∉ co (aR v)/\10 ∉ co (aR v)/\Wd v
theorem QS {x:Str}(h:bq x=true):QO (.str x):=⟨fun z=>((mF h).1 32 z).1 rfl,fun z=>((mF h).1 10 z).2.1 rfl,.inl ⟨x,rfl,by
  unfold bq at h;simp only [Bool.and_eq_true,decide_eq_true_eq] at h;omega⟩⟩
theorem aS.wd {ws:List V}(h:aS ws):∀v∈ws,Wd v:=by
  have F:∀x∈vm,x.length<=100:=by decide +kernel
  have nm:∀{x:Str},bq x=true->Wd (.str x):=fun h=>(QS h).2.2
  cases h with
  | dig hl h1 h2=>
    intro v hv;simp only [List.mem_cons,List.not_mem_nil,or_false] at hv;rcases hv with rfl | rfl | rfl
    · exact .inl ⟨_,rfl,by decide +kernel⟩
    · exact .inr ⟨_,rfl,h1⟩
    · exact .inr ⟨_,rfl,h2⟩
  | unit hx=>
    intro v hv;simp only [List.mem_cons,List.not_mem_nil,or_false] at hv;rcases hv with rfl | rfl
    · exact .inl ⟨_,rfl,by decide +kernel⟩
    · exact nm hx
  | plain hk hx hy=>
    intro v hv;simp only [List.mem_cons,List.not_mem_nil,or_false] at hv;rcases hv with rfl | rfl | rfl
    · exact .inl ⟨_,rfl,F _ (CZ _ hk)⟩
    · exact nm hx
    · exact nm hy
  | after hx hy h0 h1=>
    intro v hv;simp only [List.mem_cons,List.not_mem_nil,or_false] at hv;rcases hv with rfl | rfl | rfl | rfl
    · exact .inl ⟨_,rfl,by decide +kernel⟩
    · exact nm hx
    · exact nm hy
    · exact .inr ⟨_,rfl,h1⟩
  | find hn hx hl h1 h2=>
    intro v hv;simp only [List.mem_cons,List.not_mem_nil,or_false] at hv;rcases hv with rfl | rfl | rfl | rfl | rfl
    · exact .inl ⟨_,rfl,by decide +kernel⟩
    · exact nm hn
    · exact nm hx
    · exact .inr ⟨_,rfl,h1⟩
    · exact .inr ⟨_,rfl,h2⟩
inductive bO where
  | row | name | number | span | twice | unit
def jf (a b c d e f:Addr):bO->Addr
  | .row=>a
  | .name=>b
  | .number=>c
  | .span=>d
  | .twice=>e
  | .unit=>f
inductive kO:Str->Str->bO->Prop where
  | name {x:Str}(h:bq x=false):kO "name" x .name
  | year {x:Str}(h:gT x=false):kO "year" x .number
  | gap {x:Str}(h:gT x=false):kO "gap" x .number
  | neg {x:Str}(h:gT x=true) (n:gp x<0):kO "gap" x .number
inductive j0:RS->List V->bO->Prop where
  | unit {s:RS}{x:Str}(hx:x∈s.us):j0 s [.str "unit",.str x] .twice
  | find {s:RS}{nm x:Str}{lo hi:Int}(h:∃f∈s.fs,f.head? = some (.str nm)):j0 s [.str "find",.str nm,.str x,.int lo,.int hi] .twice
  | qF {s:RS}{nm x:Str}{lo hi:Int}(hn:bq nm=true) (h:∀f∈s.fs,f.head?≠some (.str nm)) (hx:x ∉ s.us):j0 s [.str "find",.str nm,.str x,.int lo,.int hi] .unit
  | je {s:RS}{ws:List V}{kd x y:Str}{r:List V}(e:ws = .str kd :: .str x :: .str y::r) (hk:kd ∉ ([Str.ofString "dig",Str.ofString "unit",Str.ofString "find"]:List Str)) (h:ws∈s.ts):j0 s ws .twice
  | tT {s:RS}{ws:List V}{kd x y:Str}{r:List V}(e:ws = .str kd :: .str x :: .str y::r) (hk:kd ∉ ([Str.ofString "dig",Str.ofString "unit",Str.ofString "find"]:List Str)) (h:ws ∉ s.ts) (hu:x ∉ s.us\/y ∉ s.us):j0 s ws .unit
end Dm
namespace L2
open PySem PySem.Spec PyProof.Rows
structure cY (fs:List Addr) (e T:Addr) (xs:List Addr) (oe:Obj) (vs:Array Value) (v:Value) (h h':Heap):Prop where
  keep:∀b o,b≠e->b ∉ fs->b ∉ xs->h.get? b=some o->h'.get? b=some o
  slot:∀b o,b∈fs->h.get? b=some o->∃sl,h'.get? b=some { o with slots:=sl }
  sz:h.objs.size<=T
  exc:h'.get? e=some { oe with data:=.fields (vs.setIfInBounds 1 (.ref T)) }
  ent:∃oT ts,h'.get? T=some oT/\oT.data = .fields ts/\ts[3]? = some v
section
variable {fs xs:List Addr}{e T C:Addr}{oe:Obj}{vs:Array Value}{v u:Value}{h h1 h2:Heap}
theorem cY.put (N:cY fs e T xs oe vs v h h1) (he:h.get? e=some oe) (u:Value):cY fs e T xs oe vs u h (h1.update T (Obj.mapFields (·.setIfInBounds 3 u))):=by
  obtain⟨oT,ts,g1,g2,g3⟩:=N.ent;have fS:∀b,b≠T->(h1.update T (Obj.mapFields (·.setIfInBounds 3 u))).get? b=h1.get? b:=fun b hb=>Heap.get?_update_other _ _ (Ne.symm hb)
  have old:∀b o,h.get? b=some o->b≠T:=fun b o q z=>absurd (Heap.lt_size q) (Nat.not_lt.mpr (z▸N.sz))
  have z3:=(Array.getElem?_eq_some_iff.mp g3).1;refine⟨fun b o hb hf hx q=>(fS b (old b o q)).trans (N.keep b o hb hf hx q),fun b o hb q=>?_,N.sz,(fS e (old e _ he)).trans N.exc,_,_,Heap.get?_update_self _ g1 (Obj.isFreed_of_fields (Obj.data_mapFields g2 _)),Obj.data_mapFields g2 _,by simp[z3]⟩;obtain⟨sl,q1⟩:=N.slot b o hb q;exact⟨sl,(fS b (old b o q)).trans q1⟩
theorem cY.but (N:cY fs e T xs oe vs v h h1) (nC:C≠e) (nT:C≠T) (nf:C ∉ fs) (hs:Heap.SameBut C h1 h2):cY fs e T (C::xs) oe vs v h h2:=by
  obtain⟨oT,ts,g1,g2,g3⟩:=N.ent;refine⟨fun b o hb hf hx q=>(hs.2 b fun z=>hx (by simp[z])).trans (N.keep b o hb hf (fun z=>hx (List.mem_cons_of_mem _ z)) q),fun b o hb q=>?_,N.sz,(hs.2 e (Ne.symm nC)).trans N.exc,oT,ts,(hs.2 T (Ne.symm nT)).trans g1,g2,g3⟩;obtain⟨sl,q1⟩:=N.slot b o hb q;exact⟨sl,(hs.2 b fun z=>nf (z▸hb)).trans q1⟩
theorem cY.gone (N:cY fs e T xs oe vs .none h h1):lU fs e T xs oe vs h h1:=⟨N.keep,N.slot,Heap.get?_none_of_le N.sz,N.exc,N.ent⟩
theorem cY.next {T':Addr}(N:cY fs e T xs oe vs v h h1) (N':cY fs e T' [T] { oe with data:=.fields (vs.setIfInBounds 1 (.ref T)) } (vs.setIfInBounds 1 (.ref T)) u h1 h2):cY fs e T' (T::xs) oe vs u h h2:=by
  obtain⟨oT,ts,g1,_,_⟩:=N.ent;have lt:=Heap.lt_size g1;refine⟨fun b o hb hf hx q=>N'.keep b o hb hf (fun z=>hx (by simp[List.mem_singleton.mp z])) (N.keep b o hb hf (fun z=>hx (List.mem_cons_of_mem _ z)) q),fun b o hb q=>?_,Nat.le_trans N.sz (Nat.le_trans (Nat.le_of_lt lt) N'.sz),?_,N'.ent⟩
  · obtain⟨sl,q1⟩:=N.slot b o hb q;obtain⟨rj,q2⟩:=N'.slot b _ hb q1;exact⟨rj,q2⟩
  · have:=N'.exc;rw[Array.setIfInBounds_setIfInBounds] at this;exact this
end
theorem Dr {h h' base:Heap}:∀{l:List Env},(∀b∈cR l,∀o,h.get? b=some o->∃sl,h'.get? b=some { o with slots:=sl })->h.FunFrames base l->h'.FunFrames base l
  | [],_,_=>trivial
  | env::rest,k,⟨hk,⟨L,o,hf,hn,ho,hd⟩,hr⟩=>by
    have hm:∀b,b=L\/b∈cR rest->b∈cR (env::rest):=fun b hb=>by
      unfold cR;rw[List.filterMap_cons,hf];exact List.mem_cons.mpr hb
    obtain⟨sl,q⟩:=k L (hm _ (.inl rfl)) o ho;exact⟨hk,⟨L,_,hf,hn,q,hd⟩,Dr (fun b hb=>k b (hm _ (.inr hb))) hr⟩
theorem QT {e:Value}{a b:Env}(h:a.frame=b.frame):noteFrame e a=noteFrame e b:=by
  unfold noteFrame PySem.frameOf;rw[h]
section
variable {M:Model}{A:Around}{E:Value->Shared->Prop}{s:Shared}
theorem QU {base:Heap}{env:Env}{outer:List Env}{L e:Addr}{oe:Obj}{vs:Array Value}{head:Value}{nx:Bool}{Q:Unit->Shared->Prop}
    (fR:A.frames=some (env::outer)) (hl:s.heap.FunFrames base (env::outer)) (hf:env.frame=some L) (he:s.heap.get? e=some oe) (hd:oe.data = .fields vs) (hz:1<vs.size)
    (k:∀h',cY (cR (env::outer)) e s.heap.objs.size [] oe vs (rawInt L) s.heap h'->Q () { s with heap:=h' }) :
    wpAny M A (do let a ←frameOf env;let pl ←entryPlaceOf L nx;let b ←EntryCells.newEntry head a .none (rawInt L) .none pl;setField (.ref e) 1 b) Q E s:=by
  have nf:∀b∈cR (env::outer),∃o,s.heap.get? b=some o/\∀us,o.data≠.fields us:=fun b hb=>(hl.mem hb).2
  have ne:e ∉ cR (env::outer):=fun hm=>by
    obtain⟨o,ho,hn⟩:=nf e hm;rw[he] at ho;cases ho;exact hn vs hd
  refine wpAny_bind (wpAny_frameOf_fun fR hl hf fun h1 s1=>?_);obtain⟨z1,k1,u1⟩:=s1;refine wpAny_bind (wpAny_entryPlaceOf fun pl bY=>?_);unfold EntryCells.newEntry newFields;refine wpAny_bind (wpAny_newObj_type ?_ (bY.sizeOk5 _ _ _ _ _));have e1:h1.get? e=some oe:=(k1 e ne).trans he;generalize hN:({ cls:=.type "traceback",dict:=none,data:=.fields ([head,.ref L,.none,rawInt L,.none]++(if pl.isEmpty then List.replicate 6 Value.none else pl)).toArray }:Obj)=N;have dN:N.data = .fields ([head,.ref L,.none,rawInt L,.none]++(if pl.isEmpty then List.replicate 6 Value.none else pl)).toArray:=by rw[←hN]
  generalize xV:([head,.ref L,.none,rawInt L,.none]++(if pl.isEmpty then List.replicate 6 Value.none else pl)).toArray=ts at dN;have zt:ts[3]? = some (rawInt L):=by rw[←xV];simp
  have fN:N.isFreed=false:=Obj.isFreed_of_fields dN;have e2:=Heap.get?_push_of_some (h:=h1) N e1;refine wpAny_setField e2 hd hz (k _ ?_);have Te:h1.objs.size≠e:=Nat.ne_of_gt (Heap.lt_size e1);have e3:=Heap.get?_update_self (Obj.mapFields (·.setIfInBounds 1 (Value.ref h1.objs.size))) e2 (Obj.isFreed_of_fields (Obj.data_mapFields hd _));rw[C2 hd] at e3;have t3:=(Heap.get?_update_other (h1.push N) (Obj.mapFields (·.setIfInBounds 1 (Value.ref h1.objs.size))) (Ne.symm Te)).trans (Heap.get?_push_size h1 fN);have fS:∀b o,b≠e->h1.get? b=some o->((h1.push N).update e (Obj.mapFields (·.setIfInBounds 1 (Value.ref h1.objs.size)))).get? b=some o:=fun b o hb q=>by
    rw[Heap.get?_update_other _ _ (Ne.symm hb)];exact Heap.get?_push_of_some _ q
  refine⟨fun b o hb hn _ q=>fS b o hb ((k1 b hn).trans q),fun b o hb q=>?_,Nat.le_refl _,?_,?_⟩
  · obtain⟨sl,q1⟩:=u1 b o q;exact⟨sl,fS b _ (fun z=>ne (z▸hb)) q1⟩
  · rw[←z1];exact e3
  · rw[←z1];exact⟨_,_,t3,dN,zt⟩
theorem Iv {base:Heap}{env:Env}{outer:List Env}{L e T:Addr}{oe oT:Obj}{vs ts:Array Value}{v0:Value}{Q:Unit->Shared->Prop}
    (fR:A.frames=some (env::outer)) (hl:s.heap.FunFrames base (env::outer)) (hf:env.frame=some L) (he:s.heap.get? e=some oe) (hd:oe.data = .fields vs) (h1:vs[1]? = some (.ref T))
    (hT:s.heap.get? T=some oT) (dT:oT.data = .fields ts) (h3:ts[3]? = some v0) (hv:(v0 == rawInt L)=false) (ne:T≠e)
    (k:∀h',cY (cR (env::outer)) e s.heap.objs.size [T] oe vs (rawInt L) s.heap h'->Q () { s with heap:=h' }):wpAny M A (noteFrame (.ref e) env) Q E s:=by
  unfold noteFrame;simp only [hf];refine wpAny_bind (wpAny_field he hd h1 ?_);rw[if_pos (show (Value.ref T != Value.none)=true from by simp)];refine wpAny_bind (wpAny_field hT dT h3 ?_);rw[if_neg (show ¬((v0 == rawInt L)=true) from by rw[hv];exact Bool.false_ne_true)];have z3:=(Array.getElem?_eq_some_iff.mp h3).1;refine wpAny_bind (wpAny_setField hT dT z3 ?_);have fS:∀b,b≠T->(s.heap.update T (Obj.mapFields (·.setIfInBounds 3 Value.none))).get? b=s.heap.get? b:=fun b hb=>Heap.get?_update_other _ _ (Ne.symm hb)
  have nf:T ∉ cR (env::outer):=fun hm=>by
    obtain⟨_,o,ho,hn⟩:=hl.mem hm;rw[hT] at ho;cases ho;exact hn ts dT
  have sz:(s.heap.update T (Obj.mapFields (·.setIfInBounds 3 Value.none))).objs.size=s.heap.objs.size:=Heap.size_after_update ..;refine QU (s:={ s with heap:=s.heap.update T (Obj.mapFields (·.setIfInBounds 3 Value.none)) }) fR (Dr (fun b hb o q=>⟨o.slots,(fS b fun z=>nf (z▸hb)).trans q⟩) hl) hf ((fS e ne.symm).trans he) hd (Array.getElem?_eq_some_iff.mp h1).1 fun h' G=>?_
  have G:=G;dsimp only at G;rw[sz] at G;exact k h' ⟨fun b o hb hn hx q=>G.keep b o hb hn (by simp) ((fS b fun z=>hx (by simp[z])).trans q),fun b o hb q=>G.slot b o hb ((fS b fun z=>nf (z▸hb)).trans q),Nat.le_refl _,G.exc,G.ent⟩
end
section
variable {X:Cx}{pins:List (Addr×Obj)}{σ:St}{H:Hp}{s:Shared}{E:XK}{e C:Addr}{cls:Value}{dc:Option Addr}
theorem QV {m:Str->Option Value}(I:Inv X pins σ H s) (x:gO X E) (hC:cg X pins H C) (hn:s.heap.Ns C m) (r:qw H X.bw.heap s.heap e cls dc) (hE:E cls dc H) {gG:Env}(hf:gG.frame=X.env.frame)
    {use:Option (Value->Sem Unit)}{Q:Value->Shared->Prop}{acc:Value} :
    notedBy (model X.prog X.w) X.A gG (fun u s'=>compPost (model X.prog X.w) X.A X.xe use Q acc C (.error u) s') (.ref e) s:=by
  obtain⟨oe,vs,T,oT,ts,he,hc,jZ,hd,h1,lG,hT,dT,h3,He,HT,ne,nT⟩:=r;have x':=x;obtain⟨x1,x2,x3,x4⟩:=x';have fr:=I.ok.frames;have st:=I.stack;rw[x2] at fr st;obtain⟨f0,f1,f2,f3,f4,f5⟩:=hC;have hz:=(Array.getElem?_eq_some_iff.mp h1).1;have cf:C ∉ cR (X.env::X.outer):=fun hb=>by
    unfold cR at hb;rw[List.filterMap_cons,x3] at hb;exact (List.mem_cons.mp hb).elim f1 f2
  obtain⟨oC,es,ep,vo,dC,rC⟩:=hn;have Iw:C≠e:=fun z=>by
    rw[z,he] at vo;cases vo;rw[hd] at dC;cases dC
  have QW:C≠T:=fun z=>by
    rw[z,hT] at vo;cases vo;rw[dT] at dC;cases dC
  have sC:X.bw.heap.objs.size<=C:=f3.elim (fun z=>by rw[x4] at z;cases z) id;show wpAny _ X.A (noteFrame (.ref e) gG) _ _ s;rw[QT hf];refine Iv fr st x3 he hd h1 hT dT h3 (by simp[rawInt]) lG fun hA N=>?_
  have goal:∃m,hA.Ns C m/\∀h',Heap.SameBut C hA h'->∀iP:Env,iP.locals=C->wpAny (model X.prog X.w) X.A (PySem.passOn "comprehension.variables-let-go" (.ref e) iP:Sem Value) (fun _ _=>False) X.xe { s with heap:=h' }:=by
    refine⟨m,⟨oC,es,ep,N.keep C oC Iw cf (fun z=>QW (List.mem_singleton.mp z)) vo,dC,rC⟩,fun h2 hs iP _=>?_⟩;have QX:C≠s.heap.objs.size:=Nat.ne_of_lt (Heap.lt_size vo);have N2:=N.but Iw QX cf hs;have Iz:s.heap.objs.size≠e:=Nat.ne_of_gt (Heap.lt_size he);have hx:∀b∈[C,T],H b=none/\X.bw.heap.objs.size<=b:=fun b hb=>by
      rcases List.mem_cons.mp hb with rfl | hb
      · exact⟨f0,sC⟩
      · rw[List.mem_singleton.mp hb];exact⟨HT,nT⟩
    have i1:(vs.setIfInBounds 1 (.ref s.heap.objs.size))[1]? = some (Value.ref s.heap.objs.size):=by simp[hz]
    obtain⟨YI,YJ,g1,g2,g3⟩:=N2.ent;have z3:=(Array.getElem?_eq_some_iff.mp g3).1;have step:wpAny (model X.prog X.w) X.A (do setFlight (.ref e) iP.frame;throw (.ref e):Sem Value) (fun _ _=>False) X.xe { s with heap:=h2 }:=by
      unfold setFlight;refine wpAny_bind (wpAny_bind (wpAny_field N2.exc rfl i1 ?_));rw[if_pos (show (Value.ref s.heap.objs.size != Value.none)=true from by simp)];refine wpAny_setField g1 g2 z3 (wpAny_throw ?_);have N3:=N2.put he (iP.frame.elim .none fun f=>rawInt f);generalize h2.update s.heap.objs.size (Obj.mapFields (·.setIfInBounds 3 (iP.frame.elim .none fun f=>rawInt f)))=hB at N3;generalize (iP.frame.elim Value.none fun f=>rawInt f)=v' at N3;obtain⟨YK,YL,k1,k2,k3⟩:=N3.ent;rw[x1]
      by_cases hv:(v' == rawInt X.env.locals)=true
      · have ev:v'=rawInt X.env.locals:=by simpa using hv
        unfold leaving;refine wpAny_bind (wpAny_noteFrame_inFlight x3 N3.exc rfl i1 k1 k2 (ev▸k3) ?_);unfold setFlight;refine wpAny_bind (wpAny_field N3.exc rfl i1 ?_);rw[if_pos (show (Value.ref s.heap.objs.size != Value.none)=true from by simp)];refine wpAny_setField k1 k2 (Array.getElem?_eq_some_iff.mp k3).1 ?_;exact AA (s:=s) I x (N3.put he .none).gone hc jZ hz He ne hx Iz (Nat.le_refl _) hE
      · have ev:(v' == rawInt X.env.locals)=false:=by simpa using hv
        unfold leaving;refine wpAny_bind (Iv (s:={ s with heap:=hB }) fr (Dr (fun b hb o q=>N3.slot b o hb q) st) x3 N3.exc rfl i1 k1 k2 k3 ev Iz fun hD ND=>?_);have NE:=N3.next ND;have QY:hB.objs.size≠e:=Nat.ne_of_gt (Heap.lt_size N3.exc);obtain⟨YM,YN,l1,l2,l3⟩:=NE.ent;unfold setFlight;refine wpAny_bind (wpAny_field NE.exc rfl (x:=.ref hB.objs.size) (by simp[hz]) ?_);rw[if_pos (show (Value.ref hB.objs.size != Value.none)=true from by simp)];refine wpAny_setField l1 l2 (Array.getElem?_eq_some_iff.mp l3).1 ?_;refine AA (s:=s) I x (NE.put he .none).gone hc jZ hz He ne (fun b hb=>?_) QY NE.sz hE;rcases List.mem_cons.mp hb with rfl | hb
        · exact⟨I.aF.fresh (Nat.le_refl _),I.sz⟩
        · exact hx b hb
    unfold PySem.passOn;refine wpAny_bind (wpAny_field N2.exc rfl i1 ?_);rw[if_neg (show ¬((Value.ref s.heap.objs.size == Value.none)=true) from by simp)]
    first
      | exact wpAny_bind (wpAny_pure step)
      | exact step
  cases use<;>exact goal
end
theorem qw.le {H:Hp}{h0 h1 h:Heap}{e:Addr}{cls:Value}{dc:Option Addr}(f:qw H h1 h e cls dc) (z:h0.objs.size<=h1.objs.size):qw H h0 h e cls dc:=by
  obtain⟨oe,vs,T,oT,ts,he,hc,jZ,hd,h1,lG,hT,dT,h3,He,HT,ne,nT⟩:=f;exact⟨oe,vs,T,oT,ts,he,hc,jZ,hd,h1,lG,hT,dT,h3,He,HT,Nat.le_trans z ne,Nat.le_trans z nT⟩
theorem Inv.yd {X:Cx}{pins:List (Addr×Obj)}{σ:St}{H:Hp}{s:Shared}(I:Inv X pins σ H s):Inv X [] σ H s:=
  ⟨I.ok,I.os,I.bare,I.base,I.loc,I.cell,I.free,I.cF,fun p hp=>I.pin p (List.mem_append_left _ (by simpa using hp)),I.aF,I.len⟩
section
variable {X:Cx}{k:Nat}{ps:List Str}{sp:Sp}{E:XK}{x:Str}{p pos:Pos}{e:Expr}{es:List Expr}{t:TA}
theorem QZ (F:eE X.prog X.w X.K X.mg X.base x ps k sp) (xe:lP (i6 X.prog X.w) X E) (hr:aX k X.A) (hg:Gl X x) (ha:PA X (e::es) t) (fF:(x == ("__debug__" : Str))=false:=by decide)
    (he:starEach (e::es) X.env=(false,eval e X.env)::starEach es X.env:=by rfl) (bY:(backTo pos (starEach es X.env)).any (·.1)=false:=by rfl):PE X (.Call (.Name x p) (e::es) [] pos) (zJ sp [] E t):=by
  obtain⟨f,fd,a,kp,_,b,G⟩:=F;exact BF G hr hg a kp (.all b) .nil xe ha fF he bY
end
def Q0 (X Y:Cx) (E:XK):Value->Shared->Prop:=fun u s'=>∃(e:Addr) (cls:Value) (dc:Option Addr) (au:St) (H':Hp) (p':List (Addr×Obj)),u = .ref e/\Inv Y p' au H' s'/\qw H' X.bw.heap s'.heap e cls dc/\E cls dc H'
section
variable {X:Cx}{tg iter elt:Expr}{ifs:List Expr}{scope:Scope}{pos:Pos}{own cap:List Str}{ix:List Nat}{wi:TI}{g:TG}{tc:TT}{te:TE}{E:XK}
theorem Q2 {pins:List (Addr×Obj)}{σ:St}{s:Shared}{E':Value->Shared->Prop}{RR:Value->Addr->Result->Shared->Prop}{Q:VK}
    (hc:X.calm=true) (S:bC scope X.env.scope cap) (dw:ix.map (fun i=>X.N[i]?)=cap.map some)
    (hg:∀C s H ex,PG (ez X (own++cap) scope C s H ex) tg g) (ht:∀C s H ex,rZ (ez X (own++cap) scope C s H ex) ifs tc)
    (he:∀C s H ex xe,lP (i6 X.prog X.w) ((ez X (own++cap) scope C s H ex).eX xe) E->PE ((ez X (own++cap) scope C s H ex).eX xe) elt te)
    {mW:Value}(h:vQ X pins σ tg (fun J H1=>∀D,H1 D=none->qk own ix J g tc te σ H1 D Q) mW s)
    (hR:∀(D C:Addr) (s':Shared) (H':Hp) (m:Str->Option Value),s'.heap.Ns C m->cg X pins H' C->(∀h',Heap.SameBut C s'.heap h'->Inv X pins σ H' { s' with heap:=h' })->Q (.ref D) H'->RR (.ref D) C (.ok .next) s')
    (hX:∀(D C:Addr) (s':Shared) (H':Hp) (m:Str->Option Value) (e:Addr) (cls:Value) (dc:Option Addr) (gG:Env),gG.frame=X.env.frame->s'.heap.Ns C m->cg X pins H' C->Inv X pins σ H' s'->qw H' X.bw.heap s'.heap e cls dc->E cls dc H'->
      notedBy (model X.prog X.w) X.A gG (fun u kc=>RR (.ref D) C (.error u) kc) (.ref e) s') :
    wpAny (model X.prog X.w) X.A (newList []) (fun acc ia=>wpAny (model X.prog X.w) X.A (newFunctionEnv scope X.env.globals (kH X.env.cells scope.names []) [] X.env.qual none .none (some X.env)) (fun gG gi=>
      codeAny (model X.prog X.w) X.A (.compStart (.ListComp elt [⟨tg,iter,ifs,0⟩] scope pos) 0 mW acc { gG with scope:=relabel scope X.env }) (RR acc gG.locals) gi) E' ia) E' s:=by
  obtain⟨it,fp,tn,J,H2,rfl,I2,T,rH,f2,q2⟩:=h;refine wpAny_newObj_type (wpAny_newFunctionEnv S.kI (by intro y hy;simp at hy) (fun cL fH fJ=>?_) S.kind);dsimp only at fH fJ ⊢;have hD:H2 s.heap.objs.size=none:=I2.aF.fresh (Nat.le_refl _);obtain⟨W,⟨m0,w0⟩,turn⟩:=q2 s.heap.objs.size hD;have I3:Inv X pins σ (upd H2 s.heap.objs.size (.lst [])) { s with heap:=s.heap.push { cls:=.type "list",data:=.seq ([]:List Value).toArray } }:=I2.o4 (t':=s.toks) (its:=[]) .nil (Nat.zero_le _);have wN:∀b∈fp,b<s.heap.objs.size:=fun b hb=>by
    obtain⟨o,e,_⟩:=T.obj 0 _ rH b hb;exact Heap.lt_size e
  have f3:∀b∈fp,cg X pins (upd H2 s.heap.objs.size (.lst [])) b:=fun b hb=>⟨by rw[aJ (Nat.ne_of_lt (wN b hb))];exact (f2 b hb).1,(f2 b hb).2⟩
  generalize hH:s.heap.push { cls:=.type "list",data:=.seq ([]:List Value).toArray } = H3 at I3 fH fJ ⊢;have sz:H3.objs.size=s.heap.objs.size+1:=by rw[←hH,Heap.size_push]
  have up:∀b o,H3.get? b=some o->cL.get? b=some o:=fun b o e=>fJ.extBut b o (Nat.ne_of_lt (Heap.lt_size e)) (Heap.get?_push_of_some _ e)
  have old:∀b o,s.heap.get? b=some o->cL.get? b=some o:=fun b o e=>up b o (by rw[←hH];exact Heap.get?_push_of_some _ e)
  have sd:∀b∈fp,b<({ s with heap:=H3 }:Shared).heap.objs.size:=fun b hb=>by show b<H3.objs.size;rw[sz];exact Nat.lt_succ_of_lt (wN b hb)
  have wO:tn 0 cL:=T.keep _ _ _ rH fun b _ o e=>old b o e
  have iE:∀{H':Hp},(∀b∈fp,H' b=none)->∀b∈fp,cg (ez X (own++cap) scope H3.objs.size { s with heap:=H3 } (upd H2 s.heap.objs.size (.lst [])) fp) [] H' b:=fun hn b hb=>
    ⟨hn b hb,Nat.ne_of_lt (sd b hb),fun z=>(List.mem_cons.mp (I3.iD b z)).elim (f2 b hb).2.1 (f2 b hb).2.2.1,.inl hb,fun x c e=>(f2 b hb).2.2.2.2.1 x c (zY _ _ _ (fun y d h=>by cases h) _ _ e),fun p hp=>absurd (show p∈([]:List (Addr×Obj)) from hp) (by simp)⟩
  have Q3:lP (i6 X.prog X.w) ((ez X (own++cap) scope H3.objs.size { s with heap:=H3 } (upd H2 s.heap.objs.size (.lst [])) fp).eX (Q0 X (ez X (own++cap) scope H3.objs.size { s with heap:=H3 } (upd H2 s.heap.objs.size (.lst [])) fp) E)) E:=fun p' au H' s5 u s' I h=>by
    obtain⟨e,cls,dc,lD,rfl,os,bare,un,aF,fl,hE⟩:=h;have I':=I.jP os un aF bare (ch:=[]) (fun b z=>absurd z (by simp));exact⟨e,cls,dc,au,lD,p',rfl,I'.dh,fl.le (Nat.le_trans I3.sz I.sz),hE⟩
  have loop:∀gi:Shared,gi = { s with heap:=cL,toks:=s.toks+([]:List (Str×Value)).length }->
      codeAny (model X.prog X.w) X.A (.compLoop (.ListComp elt [⟨tg,iter,ifs,0⟩] scope pos) 0 (.ref it) (.ref s.heap.objs.size) (compEnvC scope (kH X.env.cells scope.names []) H3.objs.size X.env))
        (RR (.ref s.heap.objs.size) H3.objs.size) gi:=by
    rintro gi rfl;have I4:=F5 (own:=own) (fp:=fp) (tk:=s.toks+([]:List (Str×Value)).length) I3 S dw f3 sd fH up;refine F6 (fun n s'=>∃i au ys H',Inv (ez X (own++cap) scope H3.objs.size { s with heap:=H3 } (upd H2 s.heap.objs.size (.lst [])) fp) [] au H' s'/\tn i s'.heap/\(∀b∈fp,H' b=none)/\W i n au ys H') ?_ m0
      ⟨0,_,[],_,I4,wO,fun b hb=>(f3 b hb).1,w0⟩
    rintro n s5 ⟨i,pq,ys,H5,I5,oM,rJ,w5⟩;obtain⟨Cd,ng⟩:=turn i n pq ys H5 w5;rcases ng with ⟨stop,q⟩ | ⟨go,hz,step⟩
    · refine aM (T.done (ez X (own++cap) scope H3.objs.size { s with heap:=H3 } (upd H2 s.heap.objs.size (.lst [])) fp) rfl rfl rfl hc i [] s5 pq H5 _ I5 (iE rJ) oM stop) fun r s6 aE=>?_
      obtain⟨hr,I6⟩:=aE;subst hr;obtain⟨m6,Ce,_⟩:=I6.loc;exact hR _ _ s6 H5 m6 Ce (I3.gY (Nat.le_refl _) I6.free) (fun h' hs=>Ca I3 f3 I6 hs) q
    · refine aM (T.item (ez X (own++cap) scope H3.objs.size { s with heap:=H3 } (upd H2 s.heap.objs.size (.lst [])) fp) rfl rfl rfl hc i [] s5 pq H5 _ I5 (iE rJ) oM go) fun r s6 aE=>?_
      obtain⟨u,hr,h6⟩:=aE;subst hr;refine aM h6 fun _ s7 aE=>?_
      obtain⟨x,H7,I7,r7,y7,se,Cf⟩:=aE;have Cg:=I7.pinned (iE Cf) (T.obj _ _ se);refine wpAny_mono (hg _ _ _ _ _ s7 pq H7 x u _ Cg r7 (step x H7 y7)) (fun _ s8 aE=>?_) fun _ _ z=>False.elim z
      obtain⟨sj,H8,I8,q8⟩:=aE;refine wpAny_mono (ht _ _ _ _ _ s8 sj H8 _ I8 q8) (fun ok s9 aE=>?_) fun _ _ z=>False.elim z
      obtain⟨H9,I9,q9⟩:=aE;have again:∀{s':Shared}{au:St}{H':Hp}{ql:List V}{m':Nat},Inv (ez X (own++cap) scope H3.objs.size { s with heap:=H3 } (upd H2 s.heap.objs.size (.lst [])) fp) ([]++uK fp s7.heap) au H' s'->m'<n->W (i+1) m' au ql H'->
          ∃m,m<n/\∃i au ys H',Inv (ez X (own++cap) scope H3.objs.size { s with heap:=H3 } (upd H2 s.heap.objs.size (.lst [])) fp) [] au H' s'/\tn i s'.heap/\(∀b∈fp,H' b=none)/\W i m au ys H':=fun {s' au H' ql m'} I' hm w'=>by
        refine⟨m',hm,i+1,au,ql,H',I'.ee,T.keep _ _ _ se fun b hb o e=>(I'.pin (b,o) (List.mem_append_right _ (List.mem_append_right _ (uL hb e)))).1,fun b hb=>?_,w'⟩;obtain⟨o,e,d⟩:=T.obj _ _ se b hb;exact (I'.pin (b,o) (List.mem_append_right _ (List.mem_append_right _ (uL hb e)))).2.1
      cases ok with
      | false=>
        rw[if_neg Bool.false_ne_true] at q9 ⊢;obtain⟨_,m',hm,w'⟩:=q9;exact again I9 hm w'
      | true=>
        rw[if_pos rfl] at q9 ⊢;refine wpAny_mono (he _ _ _ _ _ Q3 _ s9 sj H9 _ (I9.eX _) q9) (fun v s10 ⟨y,wQ,Ci,r10,su,m',hm,w'⟩=>?_) (fun u s10 z=>?_)
        · refine wpAny_mono (o5 (X:=ez X (own++cap) scope H3.objs.size { s with heap:=H3 } (upd H2 s.heap.objs.size (.lst [])) fp) _ s10 sj wQ (.ref s.heap.objs.size) [y] (.ref s.heap.objs.size) [v] (fun _ H'=>H'=upd wQ s.heap.objs.size (.lst (ys++[y]))) Ci.dh rfl (.cons r10 .nil) ⟨_,ys,y,rfl,rfl,su,hz,rfl⟩)
            (fun _ s11 ⟨_,Nj,Cj,_,Ck⟩=>?_) fun _ _ z=>False.elim z
          subst Ck;exact again Cj hm w'
        · obtain⟨e,cls,dc,au,H',p',rfl,I',fl,hE⟩:=z;obtain⟨m',qa,_⟩:=I'.loc;exact hX _ _ s10 H' m' e cls dc _ rfl qa (I3.gY (Nat.le_refl _) I'.free) (Ca I3 f3 I'.yd (Heap.SameBut.refl ..)) fl hE
  exact codeAny_compStart_list (loop _ rfl) (T.self _ 0 _ _ _ wO (loop _ rfl))
theorem Q4 {jV:Scope}{i:Nat}{y:Str}{py ni:Pos}(x:gO X E) (hc:X.calm=true) (hN:X.N.Nodup) (n5:X.N[i]? = some y) (hy:X.env.scope.names.lookup y=some .local)
    (Cm:swapsWith (.ListComp elt [⟨tg,iter,ifs,0⟩] scope pos) (some (.Name y py)) ni.line X.env=pure true) (S':bC scope jV cap) (dw:ix.map (fun i=>X.N[i]?)=cap.map some) (hi:PI X tg iter wi)
    (hg:∀C s H ex,PG (ez X (own++cap) scope C s H ex) tg g) (ht:∀C s H ex,rZ (ez X (own++cap) scope C s H ex) ifs tc)
    (he:∀C s H ex xe,lP (i6 X.prog X.w) ((ez X (own++cap) scope C s H ex).eX xe) E->PE ((ez X (own++cap) scope C s H ex).eX xe) elt te)
    (hs:∀x,foldedSetIterable iter X.env x=pure x:=by intro _;rfl) (ho:X.env.scope=jV:=by rfl):PS X (.Assign [.Name y py] (.ListComp elt [⟨tg,iter,ifs,0⟩] scope pos) ni) (dX (wM own ix wi g tc te) (bM i)):=by
  have S:bC scope X.env.scope cap:=ho▸S';intro pins s σ H D I h;rw[exec_Assign_Name_used _ _ _ _ Cm];refine wpAny_bind (wpAny_standAt (wpAny_bind ?_));show wpAny _ X.A (do let _ ←comprehension (.ListComp elt [⟨tg,iter,ifs,0⟩] scope pos) scope X.env _ (newList []) false (eval iter X.env) (some (assign (.Name y py) X.env))) _ _ s;refine wpAny_bind (wpAny_mono (wpAny_comprehension_free (use:=some (assign (.Name y py) X.env)) (Q:=fun _ s'=>SP X pins D .next s') rfl hs (B9 I S) S.kind S.loc
    (aM (hi pins s σ H _ I h) fun xv aI cL=>aM cL fun mW dW iJ=>?_)) (fun _ s' hq=>wpAny_pure (wpAny_pure hq)) fun _ _ e=>e)
  refine Q2 (RR:=fun acc C=>compPost (model X.prog X.w) X.A X.xe (some (assign (.Name y py) X.env)) (fun _ s'=>SP X pins D .next s') acc C) hc S dw hg ht he iJ (fun D' C s' H' m hn hF hI q=>?_)
    (fun D' C s' H' m e cls dc gG hf hn hF hI fl hE=>QV hI x hF hn fl hE hf)
  show wpAny _ X.A (assign (.Name y py) X.env (.ref D')) _ _ _;have I':Inv X pins σ H' s':=hI s'.heap (Heap.SameBut.refl ..);refine wpAny_assign_Name (Bg I' hN n5 (.inl hy) (v:=.ref D') rfl (fun kc Cn aE=>?_) (.inr hy));obtain⟨a,sH,ha⟩:=aE;obtain⟨f0,f1,f2,f3,f4,f5⟩:=hF;have Co:C≠a:=by
    rcases ha with ha | ha
    · rw[ha];exact f1
    · exact fun z=>f4 _ _ ha z.symm
  exact⟨m,hn.sameBut sH Co,fun h' nh=>⟨_,H',Cn.turned (t':=kc.toks) (fun b o hb e=>(nh.2 b hb).trans e) f0 f1 f3 f4 f5,q⟩⟩
end
theorem Q5 {K:PySem.W.Frag}{b1 b2:Bool}{l1 l2:Addr}{xs ys:List V}{own:List Str}{ix:List Nat}{te:TE}{σ:St}{H1:Hp}{D:Addr}{Q:VK}(hD:H1 D=none)
    (h1:∀H',aa H1 H'->ko K b1 H' l1 xs) (h2:∀H',aa H1 H'->ko K b2 H' l2 ys) (hl:xs.length=ys.length) (hz:xs.length<=sizeLine) (j:Nat) (hj:j<xs.length)
    (he:∀(i:Nat) x y,i<j->xs[i]? = some x->ys[i]? = some y->∀H' (Q':VK),aa H1 H'->(∀v lD,aa H' lD->Q' v lD)->te (((ju own ix σ).set 0 (some x)).set 1 (some y)) H' Q')
    (hb:∀x y,xs[j]? = some x->ys[j]? = some y->∀H' (Q':VK),aa H1 H'->te (((ju own ix σ).set 0 (some x)).set 1 (some y)) H' Q'):qk own ix (Ah K b1 b2 l1 l2) (oK K 2 (vP (bM 0) (vP (bM 1) rE))) kJ te σ H1 D Q:=by
  refine⟨fun i m au zs H'=>m=xs.length-i/\i<=j/\(∀z z',(au.set 0 z).set 1 z'=((ju own ix σ).set 0 z).set 1 z')/\zs.length=i/\aa H1 H'/\H' D=some (.lst zs),
    ⟨xs.length,by simp,Nat.zero_le _,fun _ _=>rfl,rfl,aa.new hD,zd⟩,?_⟩
  rintro i m au zs H' ⟨rfl,hi,wR,Q6,hs,sY⟩;have fz:i<xs.length:=by omega
  have sZ:i<ys.length:=by omega
  have ex:xs[i]? = some xs[i]:=List.getElem?_eq_getElem fz;have ey:ys[i]? = some ys[i]:=List.getElem?_eq_getElem sZ;refine⟨sY,.inr ⟨⟨xs,ys,xs[i],ys[i],h1 _ hs,h2 _ hs,ex,ey⟩,by omega,fun v H2 y=>?_⟩⟩;obtain⟨T,x,y,hT,rfl,rfl,CH⟩:=y;obtain⟨e1,e2⟩:=CH xs ys (h1 _ hs) (h2 _ hs);have sT:=aa.new (o:=.tup [x,y]) hT;have sA:=hs.trans sT;refine⟨T,[x,y],rfl,aD.of zd,rfl,x,_,rfl,y,_,rfl,rfl,?_⟩;unfold kJ;dsimp only;rw[if_pos rfl,wR]
  by_cases c:i=j
  · subst c;exact hb x y e1 e2 _ _ sA
  · refine he i x y (by omega) e1 e2 _ _ sA fun v lD nh=>⟨nh D _ (sT D _ sY),xs.length-(i+1),by omega,rfl,by omega,fun z z'=>?_,by rw[List.length_append,Q6];rfl,(sA.trans nh).upd hD,zd⟩
    have:∀(l:St) (a b c d:Option V),((((l.set 0 a).set 1 b).set 0 c).set 1 d)=(l.set 0 c).set 1 d:=fun l a b c d=>by
      cases l with
      | nil=>rfl
      | cons p l=>
        cases l with
        | nil=>rfl
        | cons q l=>rfl
    exact this ..
section
variable {prog:Program}{w:World}{A:Around}{E:Value->Shared->Prop}{s:Shared}{env:Env}{bm:List Value}
theorem Q7 {x:Str}{C:Addr}{vI:Value}{np aY:Pos}{a:PySem.Expr}{as:List PySem.Expr}{Q:Value->Shared->Prop}(U:cu bm)
    (i8:starEach (a::as) env=(false,eval a env)::starEach as env) (bY:(backTo aY (starEach as env)).any (·.1)=false)
    (k:wpAny (model prog w) A (eval (.Name x np) env) (fun f s1=>f = .ref C/\wpAny (model prog w) A (spliced (backTo aY (starEach (a::as) env)))
      (fun us s2=>us.length<=sizeLine/\iO s2.heap C bm/\PySem.W.Looks (model prog w) s2.heap (typeLookup (.ref C) "__init__") (some (vI))/\(∀self,PySem.W.Looks (model prog w) s2.heap (bindSpecial (vI) self) (vI,[self]))/\
        ∀h' e,s2.heap.objs.size<=e->Heap.MadeExcOf s2.heap h' e (.ref C) us->wpAny (model prog w) (A.under (.builtin "type.__call__" ⟨.ref C::us,[]⟩)) (call (vI) (.ref e::us))
          (fun r s3=>r = .none/\Q (.ref e) s3) E { s2 with heap:=h' }) E s1) E s) :
    wpAny (model prog w) A (eval (.Call (.Name x np) (a::as) [] aY) env) Q E s:=by
  refine wpAny_Call_ofName (wpAny_mono k (fun f s1 k1=>?_) fun _ _ z=>z);obtain⟨rfl,k1⟩:=k1;unfold callWith;have any:(backTo aY (starEach (a::as) env)).any (·.1)=false:=by
    rw[i8];show (false||(backTo aY (starEach as env)).any (·.1))=false;rw[bY];rfl
  rw[i8] at k1 ⊢;refine wpAny_bind (wpAny_holding (Calls.evalArgs_plain (wpAny_mono k1 (fun us s2 k2=>wpAny_bind (wpAny_standAt ?_)) fun _ _ z=>z)));obtain⟨hz,xo,lk,bd,go⟩:=k2;obtain⟨hp,g,d,tk,os⟩:=s2;rw[i8] at any;simp only [any];have C1:=xo;obtain⟨a1,a2,a3,a4,a5,a6,a7,a8,a9,b1,b2,b3,b4,b5,b6,o⟩:=C1;refine wpAny_bind (wpAny_keeperOf_exc o ?_);refine wpAny_bind (HU U xo hz lk bd fun h' e hs hm=>wpAny_mono (go h' e hs hm) (fun r s3 q=>?_) fun _ _ z=>z);exact⟨q.1,wpAny_bind (wpAny_holding (wpAny_point (wpAny_pure q.2)))⟩
end
def IA (C:Addr) (sp:Sp) (t:TA):TE:=fun σ H Q=>t σ H fun vs H1=>∀e,H1 e=none->sp (.ref e::vs) (upd H1 e (cG e C none)) (fun v H2=>v = .aL/\∃dc,H2 e=some (cG e C dc)/\Q (.ref e) H2) (fun _ _ _=>False)
section
variable {X:Cx}{k:Nat}{C:Addr}{ps:List Str}{sp:Sp}{x:Str}{p pos aY:Pos}{e:Expr}{es:List Expr}{t:TA}
theorem IB (M:cP X.prog X.w X.K X.mg X.base C "__init__" ps k sp) (xo:mG X.K C) (hr:aX (k+1) X.A) (hg:Gl X x) (hm:X.mg x=some (.ref C)) (Dd:ps.length<=1000) (ha:PA X (e::es) t)
    (fF:(x == ("__debug__" : Str))=false:=by decide) (he:starEach (e::es) X.env=(false,eval e X.env)::starEach es X.env:=by rfl) (bY:(backTo aY (starEach es X.env)).any (·.1)=false:=by rfl) :
    PE X (.Call (.Name x p) (e::es) [] aY) (IA C sp t):=by
  obtain⟨f,fd,m,b,F⟩:=M;obtain⟨bm,xo,U⟩:=xo;intro pins s σ H Q I h;refine Q7 (vI:=.ref f) U he bY (nU I hg hm ⟨rfl,aM (ha aY pins s σ H _ I h) fun us s2 aE=>?_⟩ fF);obtain⟨vs,H1,I1,r,q⟩:=aE;have fr:∀a,s2.heap.objs.size<=a->H1 a=none:=fun a h=>I1.aF.fresh h
  have q0:=q _ (fr _ (Nat.le_refl _));have l0:=F.len _ _ _ _ q0;rw[List.length_cons] at l0;have rl:=r.length;refine⟨by rw[sizeLine_eq];omega,xo.in I1.cS,PySem.W.looks_findIn I1.cS m.at_,fun self=>PySem.W.bind_fn I1.cS self (beq_iff_eq.mp m.fn),fun h' ex hs xW=>?_⟩;have hq:=q ex (fr ex hs);obtain⟨t0,h1,_,_⟩:=xW.there;have I2:=I1.laid (a:=ex) (o:=cG ex C none) (h':=h') (t':=s2.toks) xW.keeps hs (AB h1 rfl rfl rfl rfl rfl);have r2:Vals (V.ref ex::vs) (Value.ref ex::us):=.cons rfl r;have hl:(Value.ref ex::us++[]).length=ps.length:=by
    have e:=r2.length;rw[F.len _ _ _ _ hq] at e;rw[List.append_nil];exact e.symm
  have bb:=(Binds.all b:Binds X.K fd ps []) _ (Value.ref ex::us) I2.cS hl;rw[List.append_nil] at bb;refine wpAny_call (codeAny_mono (F.run _ X.stack _ _ ⟨Value.ref ex::us,[]⟩ (Value.ref ex::us) _ _ (fun _ _ _=>False) (hr.make C us []) (I2.mZ.make C us []) bb r2 hq) fun r s' jS=>?_);cases r with
  | error e=>exact False.elim jS
  | ok fl=>
    cases fl with
    | ret u=>
      obtain⟨v,H',I3,rv,ev,dc,De,hE⟩:=I2.after jS;subst ev;exact⟨rv,.ref ex,H',I3,rfl,hE⟩
    | next=>exact False.elim jS
    | brk=>exact False.elim jS
    | cont=>exact False.elim jS
end
def IC (K:PySem.W.Frag) (ta:TE) (f:Str):TE:=fun σ H Q=>ta σ H fun x H1=>∃a C d fs v,x = .ref a/\H1 a=some (cG a C (some d))/\H1 d=some (.xd fs)/\dj K C/\av K C f/\fs.lookup f=some v/\Q v H1
section
variable {X:Cx}{pins:List (Addr×Obj)}{σ:St}{H:Hp}{s:Shared}{a C d:Addr}{fs:List (Str×V)}{f:Str}{v:V}{A:Around}{E:Value->Shared->Prop}
theorem Q8 {b:Bool}{Q:Value->Shared->Prop}(I:Inv X pins σ H s) (e:H a=some (cG a C (some d))) (ed:H d=some (.xd fs)) (c:dj X.K C) (n:av X.K C f) (l:fs.lookup f=some v)
    (h:∀u s',Inv X pins σ H s'->RelV v u->Q u s'):wpAny (model X.prog X.w) A (getAttr (.ref a) f b) Q E s:=by
  obtain⟨⟨oe,vs,t0,h1,h2,h3,h4,_,_⟩,_,_⟩:=(show aH X.prog X.w H s.heap a (cG a C (some d)) from I.aF a _ e);obtain⟨mA,ns,r⟩:=(show aH X.prog X.w H s.heap d (.xd fs) from I.aF d _ ed);obtain⟨u,hu,ru⟩:=eV.some_of (v:=v) (o:=mA f) (by rw[←l];exact r f);obtain⟨od,ho,hl⟩:=zG ns;have J:PySem.W.InstAt s.heap a oe C (some od):=⟨h1,h2,by unfold PySem.W.notCls;rw[h4],by rw[h3];exact ho⟩;exact Im I.cS J c (PySem.W.findObj_own c.hd n rfl (by rw[hl,hu])) (By ru) (h u _ (I.tok _) ru)
end
theorem ID {X:Cx}{e:Expr}{f:Str}{pos:Pos}{ta:TE}(K:PySem.W.Frag) (hK:X.K=K) (he:PE X e ta) (hb:attributeBase e f X.env (eval e X.env)=eval e X.env):PE X (.Attribute e f pos) (IC K ta f):=by
  subst hK;intro pins s σ H Q I h;refine BB hb (aM (he pins s σ H _ I h) fun u s1 aE=>?_);obtain⟨x,H1,I1,rx,a,C,d,fs,v,ex,ea,ed,c,n,l,q⟩:=aE;subst ex;obtain rfl:u=Value.ref a:=rx;exact Q8 I1 ea ed c n l fun u' s2 I2 ru=>⟨v,H1,I2,ru,q⟩
section
variable {X:Cx}
theorem Ds (c:Nat):dR X (binaryOp .Mult) (fun x y H Q=>∃k:Int,x = .str ⟨#[c]⟩/\y = .int k/\0<=k/\k<=1000/\Q (.str ⟨(List.replicate k.toNat c).toArray⟩) H):=by
  intro pins s σ H x y v u Q I rx ry h;obtain⟨k,rfl,rfl,h0,h1,q⟩:=h;obtain⟨t,rfl⟩:=rx;obtain⟨t',rfl⟩:=ry;have el:(⟨#[c]⟩:Str).length=1:=rfl;have hs:(1000:Nat)<=sizeLine:=by decide
  refine PySem.P.mul_str ?_ (fun _ _=>?_) (fun _ _=>?_) ?_
  · rw[decide_eq_false (by omega),decide_eq_false (by omega)];rfl
  · rw[el];have:(1:Int)<=(2 ^ 63-1) / k\/k<1:=by
      by_cases c:k<1
      · exact .inr c
      · exact .inl (by rw[Int.le_ediv_iff_mul_le (by omega)];omega)
    omega
  · rw[el];exact decide_eq_false (by omega)
  · by_cases c0:k<1
    · rw[if_pos c0];have:k.toNat=0:=by omega
      rw[this] at q;exact⟨by show 0<=sizeLine;exact Nat.zero_le _,⟨.str Str.empty,H,I.tok _,⟨_,rfl⟩,q⟩⟩
    · rw[if_neg c0]
      by_cases c1:(k == 1||(⟨#[c]⟩:Str).length == 0)=true
      · rw[if_pos c1];have:k.toNat=1:=by
          rw[el] at c1;simp at c1;omega
        rw[this] at q;exact⟨.str ⟨#[c]⟩,H,I,⟨_,rfl⟩,q⟩
      · rw[if_neg c1];have e2:(⟨List.foldl (fun x y=>x++y) #[] (List.replicate k.toNat (⟨#[c]⟩:Str).cps)⟩:Str)=⟨(List.replicate k.toNat c).toArray⟩:=by
          show (⟨List.foldl (fun x y=>x++y) #[] (List.replicate k.toNat #[c])⟩:Str)=_;rw[GP];simp
        rw[e2];refine⟨?_,⟨.str _,H,I.tok _,⟨_,rfl⟩,q⟩⟩;show (List.replicate k.toNat c).toArray.size<=sizeLine;rw[List.size_toArray,List.length_replicate];omega
end
end L2
namespace L2
open PySem PySem.Spec PyProof.Rows Builtin
theorem Q9:fillsNumberSlot (.type "tuple") "mul" = pure false:=
  PySem.fillsNumberSlot_seq (id:="tuple.__mul__") (r:=some (.builtin "tuple.__rmul__")) F.slot_tuple_mul.lookup (by decide +kernel) F.slot_tuple_rmul.lookup (by decide +kernel)
theorem Ra:seqRepeat? (.type "tuple")=pure (some (.builtin "tuple.__mul__")):=by
  unfold seqRepeat?;rw[PySem.seqSlot_of (T:="tuple") (name:="__mul__") (id:="tuple.__mul__") F.slot_tuple_mul.lookup (by decide +kernel),PySem.seqSlot_of (T:="tuple") (name:="__rmul__") (id:="tuple.__rmul__") F.slot_tuple_rmul.lookup (by decide +kernel)];rfl
theorem Rb (a:Int) (t:Tok) (l:Addr) (items:Array Value) (n:Nat) (d:Option Addr) (sl:Array (Option Value)) :
    Meets (Builtin.«int.__rmul__» ⟨[.int a t,.ref l],[]⟩) (fun _ R s=>s.heap.get? l=some { cls:=.type "tuple",dict:=d,data:=.seq items n,slots:=sl }/\R (.ok (.ret Value.notImplemented)) s):=
  .of_wp fun prog w A R s h=>by obtain⟨hp,g,d,tk,os⟩:=s;obtain⟨hl,h⟩:=h;wp_walk;exact⟨_,rfl,h⟩
set_option maxHeartbeats 2000000 in
theorem Rc (l:Addr) (items:Array Value) (n:Nat) (d:Option Addr) (sl:Array (Option Value)) (x:Int) (u:Tok) (h0:¬(decide (x < -2 ^ 63)||decide (x≥2 ^ 63))=true) (h1:¬(items.isEmpty||x == 1)=true) (h2:¬(decide (x<=0)||items.isEmpty)=true)
    (h3:¬(items.size:Int) * x > (2 ^ 63-1) / 8) (h4:¬Builtin.Tuple.tupleTooMany ((items.size:Int) * x)=true) (h5:(List.foldl (fun x1 x2=>x1++x2) #[] (List.replicate x.toNat items)).size<=sizeLine) :
    Meets (Builtin.«tuple.__mul__» ⟨[.ref l,.int x u],[]⟩) (fun _ R s=>s.heap.get? l=some { cls:=.type "tuple",dict:=d,data:=.seq items n,slots:=sl }/\R (.ok (.ret (Value.ref s.heap.objs.size))) { s with heap:=s.heap.push { cls:=Value.type "tuple",data:=Data.seq (List.foldl (fun x1 x2=>x1++x2) #[] (List.replicate x.toNat items)) },toks:=s.toks }):=
  .of_wp fun prog w A R s h=>by
    obtain⟨hp,g,d,tk,os⟩:=s;obtain⟨hl,h⟩:=h
    wp_walk
    rw[if_neg h0]
    wp_walk
    rw[if_neg h3]
    wp_walk
    exact⟨_,rfl,h⟩
section
variable {X:Cx}
theorem Rh (K:PySem.W.Frag) (hK:X.K=K):dR X (binaryOp .Mult) (fun x y H Q=>∃(l:Addr) (v:V),x = .ref l/\y = .int 6/\aD K H l [v]/\∀p,H p=none->Q (.ref p) (upd H p (.tup (List.replicate 6 v)))):=by
  subst hK;intro pins s σ H x y v u Q I rx ry h;obtain⟨l,z,rfl,rfl,hH,q⟩:=h;cases rx;obtain⟨t',rfl⟩:=ry;obtain⟨its,rv,pl,_⟩:=I.tuple hH;obtain⟨z',rfl,rz⟩:=jH rv;obtain⟨⟨cls,d,data,sl⟩,ho,nk,k,hd⟩:=pl;simp only at nk hd;subst nk hd;refine wpAny_binaryOp_repeat_ref (T:="tuple") (U:="int") (by decide) ⟨_,ho,rfl⟩ (fun s'=>typeIs_int s' 6 t') Q9 PySem.F.fills_int_mul PySem.F.slot_int_rmul Ra PySem.F.slot_int_index.lookup
    (PySem.call_meets PySem.F.slot_int_rmul (typeIs_int s 6 t') PySem.F.entry_int_rmul (PySem.F.args_int_rmul_2 _ _) (Rb 6 t' l #[z'] k d sl)
      ⟨ho,rfl,⟨_,ho,rfl⟩,PySem.call_meets PySem.F.slot_tuple_mul ⟨_,ho,rfl⟩ PySem.F.entry_tuple_mul (PySem.F.args_tuple_mul_2 _ _)
        (Rc l #[z'] k d sl 6 t' (by decide) (show ¬(false||(6:Int) == 1)=true by decide) (show ¬(decide ((6:Int)<=0)||false)=true by decide) (show ¬(((1:Nat):Int)) * 6 > (2 ^ 63-1) / 8 by decide) (show ¬Builtin.Tuple.tupleTooMany (((1:Nat):Int) * 6)=true by decide) (by show 6<=sizeLine;decide)) ⟨ho,?_⟩⟩)
  refine⟨.ref s.heap.objs.size,_,I.laid (t':=s.toks) (o:=.tup (List.replicate 6 z)) (fun b ob q=>Heap.get?_push_of_some _ q) (Nat.le_refl _) ?_,rfl,q _ (I.aF.fresh (Nat.le_refl _))⟩;exact⟨by show 6<=sizeLine;decide,_,.cons rz (.cons rz (.cons rz (.cons rz (.cons rz (.cons rz .nil))))),IsTup.new _ _⟩
end
end L2
namespace L2
open PySem PySem.Spec PyProof.Rows
def AI (xs:List Str):TA:=fun _ H Q=>Q (xs.map V.str) H
inductive lI:List Expr->List Str->Prop where
  | nil:lI [] []
  | cons {x:Str}{j:_}{p:Pos}{es:List Expr}{xs:List Str}(h:lI es xs):lI (.Constant (.str x) j p::es) (x::xs)
theorem IE {X:Cx}{es:List Expr}{xs:List Str}(h:lI es xs):PA X es (AI xs):=by
  induction h with
  | nil=>exact zh
  | cons h ih=>exact za (t:=AI _) zp ih
end L2
namespace LK05
open PySem L2 Dm PySem.NumText
def top (i:Nat):Stmt:=PySem.Challenge.pw_digmatrix_k05_a_wrong_line.main.body.getD i (.Pass ⟨0,0,0,0⟩)
def ai:List (Str×List V):=[("dig",[V.str "year",V.str "year"]),("unit",[V.str "name"]),("over",[V.str "name",V.str "name"]),("cuts",[V.str "name",V.str "name"]),("fills",[V.str "name",V.str "name"]),("after",[V.str "name",V.str "name",V.str "gap"]),("same",[V.str "name",V.str "name"]),("find",[V.str "name",V.str "name",V.str "year",V.str "year"])]
structure Tx (K:PySem.W.Frag) (mg:Str->Option Value) (w:World) (C_Reading:Addr) (zo:Addr) (zi:Addr) (zn:Addr) (ze:Addr) (zb:Addr) (zf:Addr) (zc:Addr) (zg:Addr) (zad:Addr) (zw:Addr) (zae:Addr) (zx:Addr) (zaf:Addr) (zy:Addr):Prop where
 IF:mg "Reading" = some (.ref C_Reading)
 dz:kD K C_Reading
 IG:PySem.W.makesIn K C_Reading=true
 II:PySem.W.keepIn K (.ref C_Reading)=true
 tU:av K C_Reading "frame"
 tV:av K C_Reading "units"
 ye:av K C_Reading "ties"
 yf:av K C_Reading "finds"
 Ri:iM K C_Reading "Reading.__init__" "__init__" (ic (top 30) 0) ["self"]
 IJ:iM K C_Reading "Reading.take_words" "take_words" (ic (top 30) 1) ["self","words","row"]
 IK:iM K C_Reading "Reading.take_entry" "take_entry" (ic (top 30) 2) ["self","entry","row"]
 IL:iM K C_Reading "Reading.take_unit" "take_unit" (ic (top 30) 3) ["self","name","row"]
 IM:iM K C_Reading "Reading.take_tie" "take_tie" (ic (top 30) 4) ["self","tie","row"]
 IP:iM K C_Reading "Reading.take_find" "take_find" (ic (top 30) 5) ["self","find","row"]
 IQ:iM K C_Reading "Reading.need_unit" "need_unit" (ic (top 30) 6) ["self","name","row"]
 Rj:iM K C_Reading "Reading.telling" "telling" (ic (top 30) 7) ["self"]
 IS:mg "DigError" = some (.ref zo)
 Rk:qD K zo
 IT:mg "TextError" = some (.ref zi)
 Rl:kN K zi
 Rm:ir K zi
 IU:mG K zi
 Rn:dj K zi
 Ro:iM K zi "TextError.__init__" "__init__" (ic (top 2) 0) ["self","row"]
 IV:av K zi "row"
 vp:mg "BadRow" = some (.ref zn)
 Rp:ir K zn
 vq:mG K zn
 Rq:dj K zn
 Rr:iu K zn
 Rt:iM K zn "TextError.__init__" "__init__" (ic (top 2) 0) ["self","row"]
 IW:av K zn "row"
 IX:mg "BadName" = some (.ref ze)
 Ru:ir K ze
 IY:mG K ze
 Rw:dj K ze
 Rx:iu K ze
 Ry:iM K ze "TextError.__init__" "__init__" (ic (top 2) 0) ["self","row"]
 IZ:av K ze "row"
 I0:mg "BadNumber" = some (.ref zb)
 Rz:ir K zb
 Ja:mG K zb
 RA:dj K zb
 RB:iu K zb
 RC:iM K zb "TextError.__init__" "__init__" (ic (top 2) 0) ["self","row"]
 Jb:av K zb "row"
 Jc:mg "BadSpan" = some (.ref zf)
 RD:ir K zf
 Jd:mG K zf
 RE:dj K zf
 RG:iu K zf
 RH:iM K zf "TextError.__init__" "__init__" (ic (top 2) 0) ["self","row"]
 Je:av K zf "row"
 AJ:mg "BadTwice" = some (.ref zc)
 RI:ir K zc
 AK:mG K zc
 RJ:dj K zc
 RK:iu K zc
 RL:iM K zc "TextError.__init__" "__init__" (ic (top 2) 0) ["self","row"]
 Jf:av K zc "row"
 Dt:mg "BadUnit" = some (.ref zg)
 RM:ir K zg
 Du:mG K zg
 Jg:dj K zg
 RN:iu K zg
 RO:iM K zg "TextError.__init__" "__init__" (ic (top 2) 0) ["self","row"]
 Dv:av K zg "row"
 RP:mg "Twice" = some (.ref zad)
 RQ:mg "NoUnit" = some (.ref zw)
 RT:mg "NoTie" = some (.ref zae)
 RU:mg "NoFind" = some (.ref zx)
 RV:mg "InUse" = some (.ref zaf)
 RW:mg "NoDeed" = some (.ref zy)
 RX:PySem.W.mroIn K zn (.ref zi)=some true
 RY:PySem.W.mroIn K zf (.ref zi)=some true
 RZ:PySem.W.mroIn K zb (.ref zi)=some true
 R0:PySem.W.mroIn K ze (.ref zi)=some true
 R3:PySem.W.mroIn K zc (.ref zi)=some true
 R5:PySem.W.mroIn K zg (.ref zi)=some true
 R6:PySem.W.kitOne K (.ref zn) (.ref zn)=some true
 R7:PySem.W.kitOne K (.ref zn) (.ref ze)=some false
 R8:PySem.W.kitOne K (.ref zn) (.ref zb)=some false
 R9:PySem.W.kitOne K (.ref zn) (.ref zf)=some false
 Sa:PySem.W.kitOne K (.ref zn) (.ref zc)=some false
 Sb:PySem.W.kitOne K (.ref zn) (.ref zg)=some false
 Sd:PySem.W.kitOne K (.ref zn) (.ref zo)=some true
 Se:PySem.W.kitOne K (.ref zn) (.type "ValueError")=some true
 Sf:PySem.W.kitOne K (.ref zn) (.ref zad)=some false
 Sg:PySem.W.kitOne K (.ref zn) (.ref zw)=some false
 Sh:PySem.W.kitOne K (.ref zn) (.ref zae)=some false
 Si:PySem.W.kitOne K (.ref zn) (.ref zx)=some false
 Sj:PySem.W.kitOne K (.ref zn) (.ref zaf)=some false
 Sk:PySem.W.kitOne K (.ref zn) (.ref zy)=some false
 Sl:PySem.W.kitOne K (.ref zf) (.ref zn)=some false
 Sm:PySem.W.kitOne K (.ref zf) (.ref ze)=some false
 Sn:PySem.W.kitOne K (.ref zf) (.ref zb)=some false
 So:PySem.W.kitOne K (.ref zf) (.ref zf)=some true
 Sq:PySem.W.kitOne K (.ref zf) (.ref zc)=some false
 Ss:PySem.W.kitOne K (.ref zf) (.ref zg)=some false
 Su:PySem.W.kitOne K (.ref zf) (.ref zo)=some true
 Sv:PySem.W.kitOne K (.ref zf) (.type "ValueError")=some true
 Sw:PySem.W.kitOne K (.ref zf) (.ref zad)=some false
 Sx:PySem.W.kitOne K (.ref zf) (.ref zw)=some false
 Sy:PySem.W.kitOne K (.ref zf) (.ref zae)=some false
 Sz:PySem.W.kitOne K (.ref zf) (.ref zx)=some false
 SA:PySem.W.kitOne K (.ref zf) (.ref zaf)=some false
 SE:PySem.W.kitOne K (.ref zf) (.ref zy)=some false
 SG:PySem.W.kitOne K (.ref zb) (.ref zn)=some false
 SH:PySem.W.kitOne K (.ref zb) (.ref ze)=some false
 SJ:PySem.W.kitOne K (.ref zb) (.ref zb)=some true
 SK:PySem.W.kitOne K (.ref zb) (.ref zf)=some false
 SM:PySem.W.kitOne K (.ref zb) (.ref zc)=some false
 SN:PySem.W.kitOne K (.ref zb) (.ref zg)=some false
 SO:PySem.W.kitOne K (.ref zb) (.ref zo)=some true
 SQ:PySem.W.kitOne K (.ref zb) (.type "ValueError")=some true
 SR:PySem.W.kitOne K (.ref zb) (.ref zad)=some false
 SS:PySem.W.kitOne K (.ref zb) (.ref zw)=some false
 SV:PySem.W.kitOne K (.ref zb) (.ref zae)=some false
 SW:PySem.W.kitOne K (.ref zb) (.ref zx)=some false
 SX:PySem.W.kitOne K (.ref zb) (.ref zaf)=some false
 SY:PySem.W.kitOne K (.ref zb) (.ref zy)=some false
 S0:PySem.W.kitOne K (.ref ze) (.ref zn)=some false
 S1:PySem.W.kitOne K (.ref ze) (.ref ze)=some true
 S2:PySem.W.kitOne K (.ref ze) (.ref zb)=some false
 S3:PySem.W.kitOne K (.ref ze) (.ref zf)=some false
 S4:PySem.W.kitOne K (.ref ze) (.ref zc)=some false
 S5:PySem.W.kitOne K (.ref ze) (.ref zg)=some false
 S6:PySem.W.kitOne K (.ref ze) (.ref zo)=some true
 S7:PySem.W.kitOne K (.ref ze) (.type "ValueError")=some true
 S8:PySem.W.kitOne K (.ref ze) (.ref zad)=some false
 S9:PySem.W.kitOne K (.ref ze) (.ref zw)=some false
 Tc:PySem.W.kitOne K (.ref ze) (.ref zae)=some false
 Td:PySem.W.kitOne K (.ref ze) (.ref zx)=some false
 Tf:PySem.W.kitOne K (.ref ze) (.ref zaf)=some false
 Tg:PySem.W.kitOne K (.ref ze) (.ref zy)=some false
 Th:PySem.W.kitOne K (.ref zc) (.ref zn)=some false
 Ti:PySem.W.kitOne K (.ref zc) (.ref ze)=some false
 Tj:PySem.W.kitOne K (.ref zc) (.ref zb)=some false
 Tn:PySem.W.kitOne K (.ref zc) (.ref zf)=some false
 To:PySem.W.kitOne K (.ref zc) (.ref zc)=some true
 Tq:PySem.W.kitOne K (.ref zc) (.ref zg)=some false
 Tr:PySem.W.kitOne K (.ref zc) (.ref zo)=some true
 Tt:PySem.W.kitOne K (.ref zc) (.type "ValueError")=some true
 Tu:PySem.W.kitOne K (.ref zc) (.ref zad)=some false
 Tv:PySem.W.kitOne K (.ref zc) (.ref zw)=some false
 Tw:PySem.W.kitOne K (.ref zc) (.ref zae)=some false
 Tz:PySem.W.kitOne K (.ref zc) (.ref zx)=some false
 TF:PySem.W.kitOne K (.ref zc) (.ref zaf)=some false
 TL:PySem.W.kitOne K (.ref zc) (.ref zy)=some false
 TM:PySem.W.kitOne K (.ref zg) (.ref zn)=some false
 TN:PySem.W.kitOne K (.ref zg) (.ref ze)=some false
 TQ:PySem.W.kitOne K (.ref zg) (.ref zb)=some false
 TR:PySem.W.kitOne K (.ref zg) (.ref zf)=some false
 TU:PySem.W.kitOne K (.ref zg) (.ref zc)=some false
 TV:PySem.W.kitOne K (.ref zg) (.ref zg)=some true
 TX:PySem.W.kitOne K (.ref zg) (.ref zo)=some true
 TY:PySem.W.kitOne K (.ref zg) (.type "ValueError")=some true
 TZ:PySem.W.kitOne K (.ref zg) (.ref zad)=some false
 T3:PySem.W.kitOne K (.ref zg) (.ref zw)=some false
 T4:PySem.W.kitOne K (.ref zg) (.ref zae)=some false
 T5:PySem.W.kitOne K (.ref zg) (.ref zx)=some false
 T6:PySem.W.kitOne K (.ref zg) (.ref zaf)=some false
 T7:PySem.W.kitOne K (.ref zg) (.ref zy)=some false
 T9:Df K mg "is_name" (top 20) ["text"]
 Ua:Df K mg "read_number" (top 21) ["text"]
 Ub:Df K mg "is_made_of" (top 22) ["text","signs"]
 Uc:Df K mg "split_words" (top 25) ["line"]
 Ud:Df K mg "is_passed_over" (top 26) ["words"]
 Jh:Df K mg "read_entry" (top 27) ["words","row"]
 Ji:Df K mg "read_form" (top 28) ["form","words","row"]
 Jj:Df K mg "read_value" (top 29) ["kind","word","row"]
 Jk:Df K mg "read_telling" (top 31) ["text"]
 Ue:Df K mg "_law_cell_at" (top 33) ["_law_script","_law_k"]
 Ug:Df K mg "_law_part" (top 34) ["_law_cell","_law_k","_law_many"]
 Uh:Df K mg "_law_names" (top 35) ["_law_one","_law_other","_law_many"]
 Ui:Df K mg "_law_year" (top 36) ["_law_cell","_law_k"]
 Uj:Df K mg "_law_tie" (top 37) ["_law_units","_law_cell"]
 Uk:Df K mg "_law_find" (top 38) ["_law_marks","_law_units","_law_finds","_law_cell"]
 Ul:Df K mg "_law_told" (top 39) ["_law_names_here","_law_marks","_law_cells"]
 Um:Df K mg "_law_frame" (top 40) ["_law_cell"]
 Uo:Df K mg "_law_line" (top 41) ["_law_row"]
 Up:Df K mg "_law_refused" (top 42) ["_law_text"]
 Uq:Df K mg "_law_is_refused" (top 43) ["_law_text","_law_row","_law_way"]
 Ur:Df K mg "_law_bad_rows" (top 44) ["_law_name","_law_cell"]
 Us:Df K mg "_law_bad_names" (top 45) ["_law_name","_law_cell"]
 Ut:Df K mg "_law_bad_numbers" (top 46) ["_law_name","_law_cell"]
 Uu:Df K mg "_law_bad_twice" (top 47) ["_law_units","_law_ties","_law_finds","_law_cell"]
 Uv:Df K mg "_law_bad_units" (top 48) ["_law_units","_law_finds","_law_cell"]
 Uw:Df K mg "_law_wrong" (top 49) ["_law_names_here","_law_above","_law_cell"]
 Ux:Df K mg "_law_wrong_first" (top 50) ["_law_cell"]
 Uy:Df K mg "law" (top 51) ["_law_script"]
 Uz:∃u,mg "FIGURES" = some u/\RelV (.str "0123456789") u
 UA:∃u,mg "NAME_SIGNS" = some u/\RelV (.str "abcdefghijklmnopqrstuvwxyz0123456789-") u
 UB:∃u,mg "LONGEST_NAME" = some u/\RelV (.int 12) u
 UC:∃u,mg "MOST_FIGURES" = some u/\RelV (.int 60) u
 Jl:∃a,mg "FORMS" = some (.ref a)/\vf w K a ai
 int:mg "int" = none
 all:mg "all" = none
 enumerate:mg "enumerate" = none
 range:mg "range" = none
 sorted:mg "sorted" = none
 len:mg "len" = none
 tuple:mg "tuple" = none
 isinstance:mg "isinstance" = none
 str:mg "str" = none
 bool:mg "bool" = none
 zip:mg "zip" = none
 list:mg "list" = none
 ValueError:mg "ValueError" = none
theorem Tx.ex {K:PySem.W.Frag}{mg:Str->Option Value}{w:World}{C_Reading:Addr}{zo:Addr}{zi:Addr}{zn:Addr}{ze:Addr}{zb:Addr}{zf:Addr}{zc:Addr}{zg:Addr}{zad:Addr}{zw:Addr}{zae:Addr}{zx:Addr}{zaf:Addr}{zy:Addr}(T:Tx K mg w C_Reading zo zi zn ze zb zf zc zg zad zw zae zx zaf zy):∃C_Reading,∃zo,∃zi,∃zn,∃ze,∃zb,∃zf,∃zc,∃zg,∃zad,∃zw,∃zae,∃zx,∃zaf,∃zy,Tx K mg w C_Reading zo zi zn ze zb zf zc zg zad zw zae zx zaf zy:=⟨_,_,_,_,_,_,_,_,_,_,_,_,_,_,_,T⟩
theorem UD:aj ["text"] ["text"] (zm (top 20)):=⟨rfl,rfl,rfl,by decide +kernel,rfl,by decide +kernel,by decide +kernel⟩
theorem eK:aj ["text","figures"] ["text"] (zm (top 21)):=⟨rfl,rfl,rfl,by decide +kernel,rfl,by decide +kernel,by decide +kernel⟩
theorem UE:aj ["text","signs"] ["text","signs"] (zm (top 22)):=⟨rfl,rfl,rfl,by decide +kernel,rfl,by decide +kernel,by decide +kernel⟩
theorem UG:aj ["line"] ["line"] (zm (top 25)):=⟨rfl,rfl,rfl,by decide +kernel,rfl,by decide +kernel,by decide +kernel⟩
theorem UH:aj ["words"] ["words"] (zm (top 26)):=⟨rfl,rfl,rfl,by decide +kernel,rfl,by decide +kernel,by decide +kernel⟩
theorem Jm:aj ["words","row"] ["words","row"] (zm (top 27)):=⟨rfl,rfl,rfl,by decide +kernel,rfl,by decide +kernel,by decide +kernel⟩
theorem cM:aj ["form","words","row","values"] ["form","words","row"] (zm (top 28)):=⟨rfl,rfl,rfl,by decide +kernel,rfl,by decide +kernel,by decide +kernel⟩
theorem cD:aj ["kind","word","row","number"] ["kind","word","row"] (zm (top 29)):=⟨rfl,rfl,rfl,by decide +kernel,rfl,by decide +kernel,by decide +kernel⟩
theorem az:aj ["text","reading","row","line","words"] ["text"] (zm (top 31)):=⟨rfl,rfl,rfl,by decide +kernel,rfl,by decide +kernel,by decide +kernel⟩
theorem UI:aj ["_law_script","_law_k"] ["_law_script","_law_k"] (zm (top 33)):=⟨rfl,rfl,rfl,by decide +kernel,rfl,by decide +kernel,by decide +kernel⟩
theorem UJ:aj ["_law_cell","_law_k","_law_many"] ["_law_cell","_law_k","_law_many"] (zm (top 34)):=⟨rfl,rfl,rfl,by decide +kernel,rfl,by decide +kernel,by decide +kernel⟩
theorem aC:aj ["_law_one","_law_other","_law_many","_law_signs","_law_size","_law_at","_law_names_here","_law_k","_law_name","_law_j","_law_number"] ["_law_one","_law_other","_law_many"] (zm (top 35)):=⟨rfl,rfl,rfl,by decide +kernel,rfl,by decide +kernel,by decide +kernel⟩
theorem dQ:aj ["_law_cell","_law_k","_law_some"] ["_law_cell","_law_k"] (zm (top 36)):=⟨rfl,rfl,rfl,by decide +kernel,rfl,by decide +kernel,by decide +kernel⟩
theorem cZ:aj ["_law_units","_law_cell","_law_one","_law_other","_law_kind"] ["_law_units","_law_cell"] (zm (top 37)):=⟨rfl,rfl,rfl,by decide +kernel,rfl,by decide +kernel,by decide +kernel⟩
theorem gv:aj ["_law_marks","_law_units","_law_finds","_law_cell","_law_years"] ["_law_marks","_law_units","_law_finds","_law_cell"] (zm (top 38)):=⟨rfl,rfl,rfl,by decide +kernel,rfl,by decide +kernel,by decide +kernel⟩
theorem bg:aj ["_law_names_here","_law_marks","_law_cells","_law_units","_law_ties","_law_finds","_law_rows","_law_cell","_law_way","_law_tie_here"] ["_law_names_here","_law_marks","_law_cells"] (zm (top 39)):=⟨rfl,rfl,rfl,by decide +kernel,rfl,by decide +kernel,by decide +kernel⟩
theorem fB:aj ["_law_cell","_law_years"] ["_law_cell"] (zm (top 40)):=⟨rfl,rfl,rfl,by decide +kernel,rfl,by decide +kernel,by decide +kernel⟩
theorem cN:aj ["_law_row","_law_line_here","_law_part_here"] ["_law_row"] (zm (top 41)):=⟨rfl,rfl,rfl,by decide +kernel,rfl,by decide +kernel,by decide +kernel⟩
theorem aO:aj ["_law_text","_law_told_here","e"] ["_law_text"] (zm (top 42)):=⟨rfl,rfl,rfl,by decide +kernel,rfl,by decide +kernel,by decide +kernel⟩
theorem bW:aj ["_law_text","_law_row","_law_way","_law_told_here","_law_some"] ["_law_text","_law_row","_law_way"] (zm (top 43)):=⟨rfl,rfl,rfl,by decide +kernel,rfl,by decide +kernel,by decide +kernel⟩
theorem bP:aj ["_law_name","_law_cell","_law_some"] ["_law_name","_law_cell"] (zm (top 44)):=⟨rfl,rfl,rfl,by decide +kernel,rfl,by decide +kernel,by decide +kernel⟩
theorem bh:aj ["_law_name","_law_cell","_law_bad","_law_some"] ["_law_name","_law_cell"] (zm (top 45)):=⟨rfl,rfl,rfl,by decide +kernel,rfl,by decide +kernel,by decide +kernel⟩
theorem aQ:aj ["_law_name","_law_cell","_law_bad","_law_some"] ["_law_name","_law_cell"] (zm (top 46)):=⟨rfl,rfl,rfl,by decide +kernel,rfl,by decide +kernel,by decide +kernel⟩
theorem bF:aj ["_law_units","_law_ties","_law_finds","_law_cell","_law_some"] ["_law_units","_law_ties","_law_finds","_law_cell"] (zm (top 47)):=⟨rfl,rfl,rfl,by decide +kernel,rfl,by decide +kernel,by decide +kernel⟩
theorem aN:aj ["_law_units","_law_finds","_law_cell","_law_fresh","_law_mark","_law_one","_law_some"] ["_law_units","_law_finds","_law_cell"] (zm (top 48)):=⟨rfl,rfl,rfl,by decide +kernel,rfl,by decide +kernel,by decide +kernel⟩
theorem aT:aj ["_law_names_here","_law_above","_law_cell","_law_units","_law_finds","_law_ties","_law_way","_law_rest","_law_name","_law_high"] ["_law_names_here","_law_above","_law_cell"] (zm (top 49)):=⟨rfl,rfl,rfl,by decide +kernel,rfl,by decide +kernel,by decide +kernel⟩
theorem bR:aj ["_law_cell","_law_some"] ["_law_cell"] (zm (top 50)):=⟨rfl,rfl,rfl,by decide +kernel,rfl,by decide +kernel,by decide +kernel⟩
theorem bE:aj ["_law_script","_law_names_here","_law_marks","_law_frame_here","_law_units","_law_ties","_law_finds","_law_rows","_law_cell","_law_lead","_law_good","_law_at","_law_line_here","_law_way","_law_wrong_here","_law_none"] ["_law_script"] (zm (top 51)):=⟨rfl,rfl,rfl,by decide +kernel,rfl,by decide +kernel,by decide +kernel⟩
theorem UK:aj ["self","row"] ["self","row"] (zm (ic (top 2) 0)):=⟨rfl,rfl,rfl,by decide +kernel,rfl,by decide +kernel,by decide +kernel⟩
theorem UL:aj ["self"] ["self"] (zm (ic (top 30) 0)):=⟨rfl,rfl,rfl,by decide +kernel,rfl,by decide +kernel,by decide +kernel⟩
theorem Jo:aj ["self","words","row"] ["self","words","row"] (zm (ic (top 30) 1)):=⟨rfl,rfl,rfl,by decide +kernel,rfl,by decide +kernel,by decide +kernel⟩
theorem Jp:aj ["self","entry","row"] ["self","entry","row"] (zm (ic (top 30) 2)):=⟨rfl,rfl,rfl,by decide +kernel,rfl,by decide +kernel,by decide +kernel⟩
theorem Jq:aj ["self","name","row"] ["self","name","row"] (zm (ic (top 30) 3)):=⟨rfl,rfl,rfl,by decide +kernel,rfl,by decide +kernel,by decide +kernel⟩
theorem Jr:aj ["self","tie","row"] ["self","tie","row"] (zm (ic (top 30) 4)):=⟨rfl,rfl,rfl,by decide +kernel,rfl,by decide +kernel,by decide +kernel⟩
theorem Js:aj ["self","find","row"] ["self","find","row"] (zm (ic (top 30) 5)):=⟨rfl,rfl,rfl,by decide +kernel,rfl,by decide +kernel,by decide +kernel⟩
theorem Jt:aj ["self","name","row"] ["self","name","row"] (zm (ic (top 30) 6)):=⟨rfl,rfl,rfl,by decide +kernel,rfl,by decide +kernel,by decide +kernel⟩
theorem UM:aj ["self"] ["self"] (zm (ic (top 30) 7)):=⟨rfl,rfl,rfl,by decide +kernel,rfl,by decide +kernel,by decide +kernel⟩
section
variable {P:Program}{w:World}{K:PySem.W.Frag}{mg:Str->Option Value}{base:Heap}{C_Reading:Addr}{zo:Addr}{zi:Addr}{zn:Addr}{ze:Addr}{zb:Addr}{zf:Addr}{zc:Addr}{zg:Addr}{zad:Addr}{zw:Addr}{zae:Addr}{zx:Addr}{zaf:Addr}{zy:Addr}
local macro_rules | `(tactic| walk_at "rd")=>`(tactic| repeat (first | refine⟨_,rfl,?_⟩ | refine⟨_,_,rfl,rfl,?_⟩ | refine⟨_,_,_,rfl,?_⟩))
local macro_rules | `(tactic| walk_at "rd")=>`(tactic| repeat (first | refine⟨_,rfl,?_⟩ | refine⟨_,_,rfl,rfl,?_⟩ | refine⟨_,_,_,rfl,?_⟩))
def UN:Sp:=fun vs H Q _=>∃(a:Addr) (ns:List Int) (i:Int),vs = [.ref a,.int i]/\ak K H a (ns.map V.int)/\0<=i/\Q (.int (nD ns i)) H
theorem qG (T:Tx K mg w C_Reading zo zi zn ze zb zf zc zg zad zw zae zx zaf zy):fh P w K mg base "_law_cell_at" ["_law_script","_law_k"] 1 (UN (K:=K)):=by
 refine T.Ue.has UI (fun vs H Q E h=>?_) (fun f ay A outer s H vs Q E hr h=>?_)
 ·obtain⟨a,ns,i,rfl,_⟩:=h;rfl
 ·obtain⟨a,ns,i,rfl,ha,h0,k⟩:=h;refine⟨_,(zk (cy (cO rM (pv 1) (cW (jb K rfl) (by rfl) T.len boot_len (za (pv 0) zh)) (cK _)) (zv (cH (bI (cT K rfl) (pv 0) (pv 1) (fun _ _=>rfl)))) cQ)
   (zv (cH zr))),?_⟩
  refine⟨_,rfl,_,rfl,a,_,rfl,.inl ha,_,_,rfl,rfl,_,rfl,?_⟩;refine dO (fun c=>?_) (fun c=>?_)
  ·have c:=of_decide_eq_true c;rw[List.length_map] at c;have hi:i.toNat<ns.length:=by omega
   refine⟨_,rfl,_,rfl,a,_,i,.int (nD ns i),rfl,rfl,ha,?_,k⟩;have e:nD ns i=ns[i.toNat]:=by unfold nD;rw[List.getD_eq_getElem?_getD,List.getElem?_eq_getElem hi];rfl
   have:=lA (xs:=ns.map V.int) (j:=i.toNat) (v:=.int (nD ns i)) (by rw[e];simp[hi]);rw[Int.toNat_of_nonneg h0] at this;exact this
  ·have c:¬i<((ns.map V.int).length:Int):=fun z=>c (decide_eq_true z)
   rw[List.length_map] at c;have e:nD ns i=0:=by unfold nD;rw[List.getD_eq_getElem?_getD,List.getElem?_eq_none (by omega)];rfl
   rw[e] at k;exact k
def UO:Sp:=fun vs H Q _=>∃c k m:Int,vs = [.int c,.int k,.int m]/\0<m/\Q (.int (pt c k m)) H
theorem lX (T:Tx K mg w C_Reading zo zi zn ze zb zf zc zg zad zw zae zx zaf zy):fh P w K mg base "_law_part" ["_law_cell","_law_k","_law_many"] 1 UO:=by
 refine T.Ug.has UJ (fun vs H Q E h=>?_) (fun f ay A outer s H vs Q E hr h=>?_)
 ·obtain⟨c,i,m,rfl,_⟩:=h;rfl
 ·obtain⟨c,i,m,rfl,hm,k⟩:=h;refine⟨_,(zv (cH (ao gz (ao gz (ao uN (ao gz (ao uN (ao jG (ao gz (pv 0) zr) zr) (ao jG zr (ao uN zr (pv 1)))) zr) (ao jG (pv 1) zr)) zr) (pv 2)))),?_⟩;have b1:=Int.emod_nonneg c (show (99991:Int)≠0 by decide);have b2:=Int.emod_lt_of_pos c (show (0:Int)<99991 by decide);have b3:=Int.emod_nonneg ((c%99991+17) * (48271+7919 * i)) (show (65537:Int)≠0 by decide);have b4:=Int.emod_lt_of_pos ((c%99991+17) * (48271+7919 * i)) (show (0:Int)<65537 by decide)
  walk_at "rd"
  refine⟨(by decide:(0:Int)<99991),?_⟩
  walk_at "rd"
  refine⟨.inl ⟨by decide,by decide⟩,?_⟩
  walk_at "rd"
  refine⟨.inl ⟨by omega,by omega⟩,?_⟩
  walk_at "rd"
  refine⟨(by decide:(0:Int)<65537),?_⟩
  walk_at "rd"
  refine⟨.inl ⟨by omega,by omega⟩,?_⟩
  walk_at "rd"
  refine⟨(by decide:(0:Int)<8191),?_⟩
  walk_at "rd"
  exact⟨hm,k⟩
theorem yg (z:Int) (one at':Int) (k j:Nat) (h:z=nE one at' k j):fG bK.cps.toList (z%37)=some (kr one at' k j):=by
 obtain⟨h0,h1⟩:=lS z;subst h;have:=lA (xs:=co bK) (j:=(nE one at' k j%37).toNat) (v:=kr one at' k j) (by unfold kr;rw[List.getD_eq_getElem?_getD,List.getElem?_eq_getElem h1];rfl);rw[Int.toNat_of_nonneg h0] at this;exact this
def Dw (l:List Nat) (size:Int):V->V
 | .int z=>.str (Txt.slice (eT l) none (some (size-z)))
 | _=>.aL
def UP:Sp:=fun vs H Q _=>∃one other:Int,vs = [.int one,.int other,.int 9]/\∀(p:Addr) (xs:List Str) (H':Hp),xs.length=9->xs.Nodup->(∀x∈xs,bq x=true)->H p=none->H' p=some (.lst (xs.map V.str))->aa H H'->Q (.ref p) H'
set_option maxHeartbeats 4000000 in
theorem Ju (T:Tx K mg w C_Reading zo zi zn ze zb zf zc zg zad zw zae zx zaf zy):fh P w K mg base "_law_names" ["_law_one","_law_other","_law_many"] 2 UP:=by
 refine T.Uh.has aC (fun vs H Q E h=>?_) (fun f ay A outer s H vs Q E hr h=>?_)
 ·obtain⟨one,other,rfl,_⟩:=h;rfl
 ·obtain⟨one,other,rfl,k⟩:=h;refine⟨_,(zk (bQ (i:=3) aC.nd rfl (Or.inl rfl) zp)
   (zk (bQ (i:=4) aC.nd rfl (Or.inr rfl) (ao jG zr (b9 (lX T) (hr.mono (by decide)) (by rfl) (za (pv 0) (za zr (za zr zh))))))
   (zk (bQ (i:=5) aC.nd rfl (Or.inl rfl) (b9 (lX T) (hr.mono (by decide)) (by rfl) (za (pv 1) (za zr (za (pv 4) zh)))))
   (zk (bQ (i:=6) aC.nd rfl (Or.inr rfl) (dm zh))
   (zk (uM PassesOwn.never rfl (zB (by rfl) T.range (za (pv 2) zh)) (d9 (i:=7) aC.nd rfl (Or.inl rfl)) (zk (bQ (i:=8) aC.nd rfl (Or.inl rfl) zp)
    (zk (uM PassesOwn.never rfl (zB (by rfl) T.range (za (pv 4) zh)) (d9 (i:=9) aC.nd rfl (Or.inl rfl)) (zk (bQ (i:=10) aC.nd rfl (Or.inl rfl) (b9 (lX T) (hr.mono (by decide)) (by rfl) (za (pv 0) (za (ao jG (pv 9) zr) (za zr zh)))))
     (zk (cy (cO iG (pv 9) (pv 5) (cK _)) (zv (bQ (i:=10) aC.nd rfl (Or.inl rfl) (ao jG (pv 10) (pv 7)))) cQ)
     (zv (bQ (i:=8) aC.nd rfl (Or.inl rfl) (ao zq (pv 8) (bI MH (pv 3) (ao gz (pv 10) zr) (fun _ _=>rfl))))))))
    (zv (gX (jW K rfl PySem.F.plainAttrs_list PySem.F.slot_list_append PySem.F.type_list_append o5 (pv 6) (za (pv 8) zh)))))))
   (zk (cy (PW.pt (qd (cO LY (pv 4) (pv 2) (cK _)) (qc (cO iG (ao gz (pv 1) zr) zr (cK _))))) (zv (cH (pA (own:=["_law_k"]) (cap:=["_law_names_here","_law_size"]) (ix:=[6,4]) (jV:=zm (top 35)) rfl ⟨rfl,by decide +kernel,by decide +kernel,by decide +kernel,by decide +kernel⟩ rfl (zB (by rfl) T.range (za (pv 2) zh)) (fun _ _ _ _=>d9 (i:=0) (show List.Nodup (["_law_k","_law_names_here","_law_size"]:List Str) by decide +kernel) rfl (Or.inl rfl)) (fun _ _ _ _=>m8) (fun _ _ _ _=>(jT Gd (bI (cT K rfl) (pv 1) zr (fun _ _=>rfl)) kh (jK (ao Bt (pv 2) (pv 0)))))))) cQ)
   (zv (cH (pv 6))))))))),?_⟩
  walk_at "rd"
  refine⟨by decide,?_⟩
  walk_at "rd"
  obtain⟨s1,s2⟩:=kL one 0 12 (by decide);have hs:∃size:Nat,1+pt one 0 12=(size:Int)/\1<=size/\size<=12:=⟨(1+pt one 0 12).toNat,by omega,by omega,by omega⟩;obtain⟨size,es,z1,z2⟩:=hs;rw[es];refine⟨by omega,?_⟩;obtain⟨a1,a2⟩:=kL other 1 (size:Int) (by omega);generalize pt other 1 (size:Int)=at' at a1 a2;refine⟨by decide,fun p hp=>?_⟩;refine⟨_,rfl,9,rfl,by decide,by decide,E8 (lo:=0) (n:=9) (fun i σ H'=>∃v7 v8 v9 v10,σ = [some (.int one),some (.int other),some (.int 9),some (.str bK),some (.int size),some (.int at'),some (.ref p),v7,v8,v9,v10]/\aa H H'/\
   H' p=some (.lst (((List.range i).map fun k=>eT (lE one at' k size)).map V.str))) ⟨none,none,none,none,(by rw[←es];rfl),aa.new hp,zd⟩ ?_ ?_⟩
  ·rintro i σ H1 hi ⟨v7,v8,v9,v10,rfl,q1,q2⟩;simp only [Int.zero_add];refine⟨_,rfl,(size:Int),rfl,by omega,by omega,E8 (lo:=0) (n:=size) (fun j σ H2=>∃v9 v10,σ = [some (.int one),some (.int other),some (.int 9),some (.str bK),some (.int size),some (.int at'),some (.ref p),some (.int i),some (.str (eT ((List.range j).map (kr one at' i)))),v9,v10]/\H2=H1)
    ⟨v9,v10,by rw[OV];rfl,rfl⟩ ?_ ?_⟩
   ·rintro j σ H2 hj ⟨v9,v10,rfl,rfl⟩;simp only [Int.zero_add]
    walk_at "rd"
    refine⟨by decide,?_⟩;refine⟨_,rfl,_,rfl,rfl,_,rfl,?_⟩;refine dO (fun c=>?_) (fun c=>?_)
    all_goals
     walk_at "rd"
     refine⟨(by decide:(0:Int)<37),bK,_,kr one at' i j,rfl,rfl,by decide,?_,?_⟩
    ·refine yg _ one at' i j ?_;have c:=of_decide_eq_true c;have c:(j:Int)=at':=V.int.inj c;unfold nE;rw[if_pos c]
    ·refine⟨_,_,rfl,rfl,?_,some (.int j),some (.int (pt one ((j:Int)+2) 37+i)),?_,rfl⟩
     ·rw[vg,List.length_map,List.length_range];exact Nat.le_trans (show j+1<=100 by omega) (by decide)
     ·rw[show (⟨#[kr one at' i j]⟩:Str)=eT [kr one at' i j] from rfl,Hq,List.range_succ,List.map_append];rfl
    ·refine yg _ one at' i j ?_;have c:¬(j:Int)=at':=fun z=>c (decide_eq_true (congrArg V.int z))
     unfold nE;rw[if_neg c]
    ·refine⟨_,_,rfl,rfl,?_,some (.int j),some (.int (pt one ((j:Int)+2) 37)),?_,rfl⟩
     ·rw[vg,List.length_map,List.length_range];exact Nat.le_trans (show j+1<=100 by omega) (by decide)
     ·rw[show (⟨#[kr one at' i j]⟩:Str)=eT [kr one at' i j] from rfl,Hq,List.range_succ,List.map_append];rfl
   ·rintro σ H2 ⟨v9,v10,rfl,rfl⟩;refine⟨_,rfl,.inl ⟨rfl,_,ak.of q2⟩,_,rfl,p,_,_,rfl,rfl,q2,?_,?_⟩
    ·rw[List.length_map,List.length_map,List.length_range];exact pe (by omega)
    ·refine⟨_,_,_,_,rfl,q1.upd hp,?_⟩;rw[zd,List.range_succ,List.map_append,List.map_append];rfl
  ·rintro σ H1 ⟨v7,v8,v9,v10,rfl,q1,q2⟩;obtain⟨n1,n2,n3⟩:=OT (one:=one) a1 a2 z1 z2;have fin:Q (.ref p) H1:=k p _ H1 n3 n1 n2 hp q2 q1;refine⟨_,rfl,_,rfl,_,_,rfl,rfl,_,rfl,?_⟩;refine dO (fun c=>?_) (fun c=>?_)
   ·have c:=of_decide_eq_true c
    walk_at "rd"
    refine⟨(by decide:(0:Int)<2),?_⟩;refine⟨rfl,_,rfl,?_⟩;refine dO (fun c2=>?_) (fun c2=>?_)
    ·obtain⟨m1,m2,m3⟩:=OU (one:=one) (at':=at') (size:=size) (by omega) z2;refine⟨_,rfl,9,rfl,by decide,by decide,fun D hD=>?_⟩;have Dy:p≠D:=cI q2 hD;refine zZ (F8 (lo:=0) (n:=9)) (fun _=>true) (Dw (lE one at' 0 size) size) (fun _=>trivial) (by decide) (fun v hv ys Q' q=>q) (fun v hv _ ys Q' q=>?_) ?_
     ·obtain⟨z,hz,rfl⟩:=List.mem_map.mp hv;refine⟨_,rfl,p,_,0,.str (eT (lE one at' 0 size)),rfl,rfl,ak.of (by rw[aJ Dy];exact q2),rfl,?_⟩;refine⟨_,rfl,_,rfl,_,_,rfl,rfl,_,rfl,_,rfl,?_,q⟩;rw[vg,tD];exact Nat.le_trans z2 (by decide)
     ·refine k D _ _ m3 m1 m2 (q1.free hD) ?_ (q1.trans (aa.new hD));rw[zd]
      congr 2
      unfold xJ;rw[List.filter_eq_self.mpr (fun _ _=>rfl),List.map_map,List.map_map];apply List.map_congr_left;intro i hi;have hi:=List.mem_range.mp hi;show V.str (Txt.slice (eT (lE one at' 0 size)) none (some ((size:Int)-(0+(i:Int)))))=V.str (eT ((lE one at' 0 size).take (size-i)));rw[OW _ _ (by omega) (by rw[tD];omega)]
      congr 3
      omega
    ·exact⟨_,rfl,fin⟩
   ·exact aB ⟨_,rfl,fin⟩
theorem Jv:oQ 10 60:=⟨by decide,by decide,by decide⟩
theorem UQ:oQ 10 59:=⟨by decide,by decide,by decide⟩
theorem AL:(0:Int)<10 ^ (60:Int).toNat:=by decide
theorem Jw:(0:Int)<10 ^ (59:Int).toNat:=by decide
def UR:Sp:=fun vs H Q _=>∃c k:Int,vs = [.int c,.int k]/\∀(z:Int) (H':Hp),dG z->aa H H'->Q (.int z) H'
set_option maxHeartbeats 4000000 in
theorem AM (T:Tx K mg w C_Reading zo zi zn ze zb zf zc zg zad zw zae zx zaf zy):fh P w K mg base "_law_year" ["_law_cell","_law_k"] 2 UR:=by
 refine T.Ui.has dQ (fun vs H Q E h=>?_) (fun f ay A outer s H vs Q E hr h=>?_)
 ·obtain⟨c,i,rfl,_⟩:=h;rfl
 ·obtain⟨c,i,rfl,k⟩:=h;refine⟨_,(zk (bQ (i:=2) dQ.nd rfl (Or.inl rfl) (dm (za (ao Bt (b9 (lX T) (hr.mono (by decide)) (by rfl) (za (pv 0) (za (pv 1) (za zr zh)))) zr) (za (b9 (lX T) (hr.mono (by decide)) (by rfl) (za (pv 0) (za (pv 1) (za zr zh)))) (za (ao gz (ao uN (pv 0) zr) (ao uP zr zr)) zh)))))
   (zk (bQ (i:=2) dQ.nd rfl (Or.inl rfl) (ao MS (pv 2) (dm (za (ao Bt (oN oR zr) (ao gz (ao uN (pv 0) zr) (ao uP zr zr))) zh))))
   (zv (cH (bI (cT K rfl) (pv 2) (b9 (lX T) (hr.mono (by decide)) (by rfl) (za (pv 0) (za (ao jG (pv 1) zr) (za zr zh)))) (fun _ _=>rfl)))))),?_⟩
  walk_at "rd"
  refine⟨by decide,?_⟩
  walk_at "rd"
  refine⟨by decide,?_⟩
  walk_at "rd"
  refine⟨.inr ⟨by decide,by decide⟩,?_⟩
  walk_at "rd"
  refine⟨Jv,?_⟩
  walk_at "rd"
  refine⟨AL,(by show 3<=sizeLine;decide),fun p1 j6=>?_⟩
  walk_at "rd"
  refine⟨.inr ⟨by decide,by decide⟩,?_⟩
  walk_at "rd"
  refine⟨UQ,?_⟩
  walk_at "rd"
  refine⟨Jw,?_⟩
  walk_at "rd"
  refine⟨(by show 1<=sizeLine;decide),fun p2 gQ=>?_⟩;have US:p1≠p2:=cI zd gQ;refine⟨p1,p2,_,_,rfl,rfl,by rw[aJ US,zd],zd,(by show 4<=sizeLine;decide),fun p3 jA=>?_⟩
  walk_at "rd"
  refine⟨by decide,?_⟩;obtain⟨b1,b2⟩:=kL c (i+1) 4 (by decide);obtain⟨d1,d2⟩:=kL c i 60 (by decide);obtain⟨d3,d4⟩:=kL c i 12 (by decide);have d5:=Int.emod_nonneg (c * 48271) (show (10 ^ (60:Int).toNat:Int)≠0 by decide);have d6:=Int.emod_lt_of_pos (c * 48271) AL;have d7:=Int.emod_nonneg (c * 40692) (show (10 ^ (59:Int).toNat:Int)≠0 by decide);have d8:=Int.emod_lt_of_pos (c * 40692) Jw;have Dz:(10:Int) ^ (60:Int).toNat=10 ^ 60:=rfl;have UT:(10:Int) ^ (59:Int).toNat=10 ^ 59:=rfl;rw[Dz] at d5 d6;rw[UT] at d7 d8;have h4:pt c (i+1) 4=0\/pt c (i+1) 4=1\/pt c (i+1) 4=2\/pt c (i+1) 4=3:=by omega
  rcases h4 with h4 | h4 | h4 | h4
  all_goals
   rw[h4];refine⟨p3,_,_,_,rfl,rfl,ak.of zd,rfl,k _ _ ?_ ((aa.new j6).trans ((aa.new gQ).trans (aa.new jA)))⟩
  ·show (pt c i 60-20).natAbs<10 ^ 60;omega
  ·show (pt c i 12).natAbs<10 ^ 60;omega
  ·show (c * 48271%10 ^ 60).natAbs<10 ^ 60;omega
  ·show (-1-c * 40692%10 ^ 59).natAbs<10 ^ 60;omega
def UU:Sp:=fun vs H Q _=>∃(a:Addr) (us:List Str) (c:Int),vs = [.ref a,.int c]/\ak K H a (us.map V.str)/\1<=us.length/\∀(p:Addr) (ws:List V) (H':Hp),bS us ws->H p=none->H' p=some (.tup ws)->aa H H'->Q (.ref p) H'
theorem DA {us:List Str}{i:Int}(h0:0<=i) (h1:i<(us.length:Int)):∃x∈us,fG (us.map V.str) i=some (.str x):=by
 have hi:i.toNat<us.length:=by omega
 refine⟨us[i.toNat],List.getElem_mem hi,?_⟩;have:=lA (xs:=us.map V.str) (j:=i.toNat) (v:=.str us[i.toNat]) (by simp[hi]);rw[Int.toNat_of_nonneg h0] at this;exact this
def yh:List V:=[.str "over",.str "cuts",.str "fills",.str "after",.str "same"]
theorem UW {i:Int}(h0:0<=i) (h1:i<5):∃kd:Str,fG yh i=some (.str kd)/\(kd = "after"\/kd∈lT):=by
 have h:i=0\/i=1\/i=2\/i=3\/i=4:=by omega
 rcases h with rfl | rfl | rfl | rfl | rfl
 ·exact⟨_,rfl,.inr (by decide +kernel)⟩
 ·exact⟨_,rfl,.inr (by decide +kernel)⟩
 ·exact⟨_,rfl,.inr (by decide +kernel)⟩
 ·exact⟨_,rfl,.inl rfl⟩
 ·exact⟨_,rfl,.inr (by decide +kernel)⟩
set_option maxHeartbeats 4000000 in
theorem UX (T:Tx K mg w C_Reading zo zi zn ze zb zf zc zg zad zw zae zx zaf zy):fh P w K mg base "_law_tie" ["_law_units","_law_cell"] 2 (UU (K:=K)):=by
 refine T.Uj.has cZ (fun vs H Q E h=>?_) (fun f ay A outer s H vs Q E hr h=>?_)
 ·obtain⟨a,us,c,rfl,_⟩:=h;rfl
 ·obtain⟨a,us,c,rfl,ha,hl,k⟩:=h;refine⟨_,(zk (bQ (i:=2) cZ.nd rfl (Or.inl rfl) (bI (cT K rfl) (pv 0) (b9 (lX T) (hr.mono (by decide)) (by rfl) (za (pv 1) (za zr (za (cW (jb K rfl) (by rfl) T.len boot_len (za (pv 0) zh)) zh)))) (fun _ _=>rfl)))
   (zk (bQ (i:=3) cZ.nd rfl (Or.inl rfl) (bI (cT K rfl) (pv 0) (b9 (lX T) (hr.mono (by decide)) (by rfl) (za (pv 1) (za zr (za (cW (jb K rfl) (by rfl) T.len boot_len (za (pv 0) zh)) zh)))) (fun _ _=>rfl)))
   (zk (bQ (i:=4) cZ.nd rfl (Or.inl rfl) (bI (cT K rfl) (dm (za zp (za zp (za zp (za zp (za zp zh)))))) (b9 (lX T) (hr.mono (by decide)) (by rfl) (za (pv 1) (za zr (za zr zh)))) (fun _ _=>rfl)))
   (zk (cy (cO iG (pv 4) zp (cK _)) (zv (cH (dJ (za (pv 4) (za (pv 2) (za (pv 3) (za (bI (cT K rfl) (dm (za (b9 (lX T) (hr.mono (by decide)) (by rfl) (za (pv 1) (za zr (za zr zh)))) (za (ao gz (ao uN (pv 1) zr) (ao uP zr zr)) zh))) (b9 (lX T) (hr.mono (by decide)) (by rfl) (za (pv 1) (za zr (za zr zh)))) (fun _ _=>rfl)) zh))))))) cQ)
   (zv (cH (dJ (za (pv 4) (za (pv 2) (za (pv 3) zh)))))))))),?_⟩
  have hn:(0:Int)<(us.length:Int):=by omega
  refine⟨_,rfl,_,rfl,_,rfl,a,_,rfl,.inl ha,?_⟩;rw[List.length_map];refine⟨_,_,_,rfl,hn,?_⟩;obtain⟨x,hx,ex⟩:=DA (kL c 2 _ hn).1 (kL c 2 _ hn).2;refine⟨a,_,_,_,rfl,rfl,ha,ex,?_⟩;refine⟨_,rfl,_,rfl,_,rfl,a,_,rfl,.inl ha,?_⟩;rw[List.length_map];refine⟨_,_,_,rfl,hn,?_⟩;obtain⟨y,hy,ey⟩:=DA (kL c 3 _ hn).1 (kL c 3 _ hn).2;refine⟨a,_,_,_,rfl,rfl,ha,ey,?_⟩;refine⟨(by show 5<=sizeLine;decide),fun p1 j6=>?_⟩;refine⟨_,rfl,_,_,_,rfl,by decide,?_⟩;obtain⟨kd,ek,hk⟩:=UW (kL c 4 5 (by decide)).1 (kL c 4 5 (by decide)).2;have s1:aa H (upd H p1 (.lst yh)):=aa.new j6;refine⟨p1,yh,_,_,rfl,rfl,ak.of zd,ek,?_⟩;show eY _ _ _ _ (upd H p1 (.lst yh));generalize upd H p1 (.lst yh)=H1 at s1;refine⟨_,rfl,rfl,_,rfl,?_⟩;refine dO (fun c1=>?_) (fun c1=>?_)
  ·have c1:=V.str.inj (of_decide_eq_true c1);subst c1;refine⟨_,rfl,_,rfl,_,rfl,_,rfl,_,_,_,rfl,by decide,?_⟩
   walk_at "rd"
   refine⟨.inr ⟨by decide,by decide⟩,?_⟩
   walk_at "rd"
   refine⟨Jv,?_⟩
   walk_at "rd"
   refine⟨AL,(by show 2<=sizeLine;decide),fun p2 gQ=>?_⟩
   walk_at "rd"
   refine⟨by decide,?_⟩;obtain⟨b1,b2⟩:=kL c 6 2 (by decide);obtain⟨d1,d2⟩:=kL c 5 9 (by decide);have d5:=Int.emod_nonneg (c * 48271) (show (10 ^ (60:Int).toNat:Int)≠0 by decide);have d6:=Int.emod_lt_of_pos (c * 48271) AL;have Dz:(10:Int) ^ (60:Int).toNat=10 ^ 60:=rfl;rw[Dz] at d5 d6;have h2:pt c 6 2=0\/pt c 6 2=1:=by omega
   rcases h2 with h2 | h2
   all_goals
    rw[h2];refine⟨p2,_,_,_,rfl,rfl,ak.of zd,rfl,(by show 4<=sizeLine;decide),fun p3 jA=>k p3 _ _ (.after hx hy ?_ ?_) (s1.free ((aa.new gQ).free jA)) zd (s1.trans ((aa.new gQ).trans (aa.new jA)))⟩
   ·exact d1
   ·show (pt c 5 9).natAbs<10 ^ 60;omega
   ·exact d5
   ·show (c * 48271%10 ^ 60).natAbs<10 ^ 60;omega
  ·refine⟨_,rfl,_,rfl,_,rfl,(by show 3<=sizeLine;decide),fun p2 gQ=>?_⟩;have Hh:kd∈lT:=by
    rcases hk with hk | hk
    ·exact absurd (decide_eq_true (congrArg V.str hk)) c1
    ·exact hk
   exact k p2 _ _ (.plain Hh hx hy) (s1.free gQ) zd (s1.trans (aa.new gQ))
theorem Jx {a b:Int}{ms:List Int}(h:ms.Perm [a,b]) (hs:ms.Pairwise (·<=·)):∃lo hi,ms = [lo,hi]/\lo<=hi/\(lo=a\/lo=b)/\(hi=a\/hi=b):=by
 have hl:=h.length_eq
 match ms,hl with
 | [lo,hi],_=>
  have m1:=h.mem_iff (a:=lo);have m2:=h.mem_iff (a:=hi);have e1:=m1.mp (by simp);have e2:=m2.mp (by simp);simp at e1 e2;refine⟨lo,hi,rfl,?_,e1,e2⟩;have:=List.rel_of_pairwise_cons hs (a':=hi) (by simp);exact this
def UY:Sp:=fun vs H Q _=>∃(m a f:Addr) (ms us:List Str) (fs:List V) (c:Int),vs = [.ref m,.ref a,.ref f,.int c]/\ak K H m (ms.map V.str)/\ak K H a (us.map V.str)/\ak K H f fs/\1<=us.length/\fs.length<ms.length/\
 ∀(p:Addr) (x nm:Str) (lo hi:Int) (H':Hp),x∈us->ms[fs.length]? = some nm->lo<=hi->dG lo->dG hi->H p=none->H' p=some (.tup [.str nm,.str x,.int lo,.int hi])->aa H H'->Q (.ref p) H'
set_option maxHeartbeats 4000000 in
theorem UZ (T:Tx K mg w C_Reading zo zi zn ze zb zf zc zg zad zw zae zx zaf zy):fh P w K mg base "_law_find" ["_law_marks","_law_units","_law_finds","_law_cell"] 3 (UY (K:=K)):=by
 refine T.Uk.has gv (fun vs H Q E h=>?_) (fun f ay A outer s H vs Q E hr h=>?_)
 ·obtain⟨m,a,f',ms,us,fs,c,rfl,_⟩:=h;rfl
 ·obtain⟨m,a,f',ms,us,fs,c,rfl,hm,ha,hf,hl,hz,k⟩:=h;refine⟨_,(zk (bQ (i:=4) gv.nd rfl (Or.inl rfl) (cW (Gm K rfl) (by rfl) T.sorted PyProof.Rows.boot_sorted (za (dm (za (b9 (AM T) (hr.mono (by decide)) (by rfl) (za (pv 3) (za zr zh))) (za (b9 (AM T) (hr.mono (by decide)) (by rfl) (za (pv 3) (za zr zh))) zh))) zh)))
   (zv (cH (dJ (za (bI (cT K rfl) (pv 0) (cW (jb K rfl) (by rfl) T.len boot_len (za (pv 2) zh)) (fun _ _=>rfl)) (za (bI (cT K rfl) (pv 1) (b9 (lX T) (hr.mono (by decide)) (by rfl) (za (pv 3) (za zr (za (cW (jb K rfl) (by rfl) T.len boot_len (za (pv 1) zh)) zh)))) (fun _ _=>rfl)) (za (bI (cT K rfl) (pv 4) zr (fun _ _=>rfl)) (za (bI (cT K rfl) (pv 4) zr (fun _ _=>rfl)) zh)))))))),?_⟩
  have hn:(0:Int)<(us.length:Int):=by omega
  refine⟨_,rfl,_,_,rfl,fun z1 H1 y1 s1=>?_⟩;refine⟨_,rfl,_,_,rfl,fun z2 H2 y2 s2=>?_⟩;refine⟨(by show 2<=sizeLine;decide),fun p1 j6=>?_⟩;have s3:aa H (upd H2 p1 (.lst [.int z1,.int z2])):=s1.trans (s2.trans (aa.new j6));refine⟨p1,[z1,z2],rfl,ak.of zd,(by show 2<64;decide),fun p2 zs gQ pm ps=>?_⟩;obtain⟨lo,hi,rfl,o1,o2,o3⟩:=Jx pm ps;have s4:aa H (upd (upd H2 p1 (.lst [.int z1,.int z2])) p2 (.lst ([lo,hi].map V.int))):=s3.trans (aa.new gQ);have e4:upd (upd H2 p1 (.lst [.int z1,.int z2])) p2 (.lst ([lo,hi].map V.int)) p2=some (.lst [.int lo,.int hi]):=zd;generalize upd (upd H2 p1 (.lst [.int z1,.int z2])) p2 (.lst ([lo,hi].map V.int))=H4 at s4 e4;have n5:fs.length<(ms.map V.str).length:=by rw[List.length_map];exact hz
  refine⟨_,rfl,_,rfl,f',fs,rfl,.inl (s4.seq hf),m,_,_,.str ms[fs.length],rfl,rfl,s4.seq hm,lA (by simp[hz]),?_⟩;refine⟨_,rfl,_,rfl,_,rfl,a,_,rfl,.inl (s4.seq ha),?_⟩;rw[List.length_map];refine⟨_,_,_,rfl,hn,?_⟩;obtain⟨x,hx,ex⟩:=DA (kL c 2 _ hn).1 (kL c 2 _ hn).2;refine⟨a,_,_,_,rfl,rfl,s4.seq ha,ex,?_⟩;refine⟨_,rfl,p2,_,_,_,rfl,rfl,ak.of e4,rfl,?_⟩;refine⟨_,rfl,p2,_,_,_,rfl,rfl,ak.of e4,rfl,?_⟩;refine⟨(by show 4<=sizeLine;decide),fun p3 jA=>k p3 x _ lo hi _ hx (List.getElem?_eq_getElem hz) o1 ?_ ?_ (s4.free jA) zd (s4.trans (aa.new jA))⟩
  ·rcases o2 with rfl | rfl
   ·exact y1
   ·exact y2
  ·rcases o3 with rfl | rfl
   ·exact y1
   ·exact y2
def U0:Sp:=fun vs H Q _=>∃c:Int,vs = [.int c]/\∀(p:Addr) (lo hi:Int) (H':Hp),lo<=hi->dG lo->dG hi->H p=none->H' p=some (.tup [.int lo,.int hi])->aa H H'->Q (.ref p) H'
set_option maxHeartbeats 4000000 in
theorem U1 (T:Tx K mg w C_Reading zo zi zn ze zb zf zc zg zad zw zae zx zaf zy):fh P w K mg base "_law_frame" ["_law_cell"] 3 U0:=by
 refine T.Um.has fB (fun vs H Q E h=>?_) (fun f ay A outer s H vs Q E hr h=>?_)
 ·obtain⟨c,rfl,_⟩:=h;rfl
 ·obtain⟨c,rfl,k⟩:=h;refine⟨_,(zk (bQ (i:=1) fB.nd rfl (Or.inl rfl) (cW (Gm K rfl) (by rfl) T.sorted PyProof.Rows.boot_sorted (za (dm (za (b9 (AM T) (hr.mono (by decide)) (by rfl) (za (pv 0) (za zr zh))) (za (b9 (AM T) (hr.mono (by decide)) (by rfl) (za (pv 0) (za zr zh))) zh))) zh)))
   (zv (cH (dJ (za (bI (cT K rfl) (pv 1) zr (fun _ _=>rfl)) (za (bI (cT K rfl) (pv 1) zr (fun _ _=>rfl)) zh)))))),?_⟩
  refine⟨_,rfl,_,_,rfl,fun z1 H1 y1 s1=>?_⟩;refine⟨_,rfl,_,_,rfl,fun z2 H2 y2 s2=>?_⟩;refine⟨(by show 2<=sizeLine;decide),fun p1 j6=>?_⟩;have s3:aa H (upd H2 p1 (.lst [.int z1,.int z2])):=s1.trans (s2.trans (aa.new j6));refine⟨p1,[z1,z2],rfl,ak.of zd,(by show 2<64;decide),fun p2 zs gQ pm ps=>?_⟩;obtain⟨lo,hi,rfl,o1,o2,o3⟩:=Jx pm ps;have s4:aa H (upd (upd H2 p1 (.lst [.int z1,.int z2])) p2 (.lst ([lo,hi].map V.int))):=s3.trans (aa.new gQ);have e4:upd (upd H2 p1 (.lst [.int z1,.int z2])) p2 (.lst ([lo,hi].map V.int)) p2=some (.lst [.int lo,.int hi]):=zd;generalize upd (upd H2 p1 (.lst [.int z1,.int z2])) p2 (.lst ([lo,hi].map V.int))=H4 at s4 e4;refine⟨_,rfl,p2,_,_,_,rfl,rfl,ak.of e4,rfl,?_⟩;refine⟨_,rfl,p2,_,_,_,rfl,rfl,ak.of e4,rfl,?_⟩;refine⟨(by show 2<=sizeLine;decide),fun p3 jA=>k p3 lo hi _ o1 ?_ ?_ (s4.free jA) zd (s4.trans (aa.new jA))⟩
  ·rcases o2 with rfl | rfl
   ·exact y1
   ·exact y2
  ·rcases o3 with rfl | rfl
   ·exact y1
   ·exact y2
def U3:Sp:=fun vs H Q _=>∃(n m c:Addr) (xs ms:List Str) (cs:List Int),vs = [.ref n,.ref m,.ref c]/\ak K H n (xs.map V.str)/\ak K H m (ms.map V.str)/\ak K H c (cs.map V.int)/\
 xs.length=9/\xs.Nodup/\(∀x∈xs,bq x=true)/\ms.length=9/\ms.Nodup/\(∀x∈ms,bq x=true)/\cs.length<=63/\
 ∀(p pu pt pf pr:Addr) (us:List Str) (ts fs rs:List (List V)) (at' af ar:List Addr) (H':Hp),Told us ts fs rs->us=xs.take us.length->fs.length<=9->rs.length<=cs.length->bD H' pu pt pf pr us ts fs rs at' af ar->H' p=some (.tup [.ref pu,.ref pt,.ref pf,.ref pr])->
  H pu=none->H pt=none->H pf=none->H pr=none->pu≠pt->pu≠pf->pt≠pf->aa H H'->Q (.ref p) H'
set_option maxHeartbeats 4000000 in
theorem U4 (T:Tx K mg w C_Reading zo zi zn ze zb zf zc zg zad zw zae zx zaf zy):fh P w K mg base "_law_told" ["_law_names_here","_law_marks","_law_cells"] 4 (U3 (K:=K)):=by
 refine T.Ul.has bg (fun vs H Q E h=>?_) (fun f ay A outer s H vs Q E hr h=>?_)
 ·obtain⟨n,m,c,xs,ms,cs,rfl,_⟩:=h;rfl
 ·obtain⟨n,m,c,xs,ms,cs,rfl,hn,hm,hc,x1,x2,x3,m1,m2,m3,hl,k⟩:=h;refine⟨_,(zk (bQ (i:=3) bg.nd rfl (Or.inl rfl) (dm zh))
   (zk (bQ (i:=4) bg.nd rfl (Or.inl rfl) (dm zh))
   (zk (bQ (i:=5) bg.nd rfl (Or.inl rfl) (dm zh))
   (zk (bQ (i:=6) bg.nd rfl (Or.inl rfl) (dm zh))
   (zk (uM PassesOwn.never rfl (lR K rfl (pv 2)) (d9 (i:=7) bg.nd rfl (Or.inl rfl)) (zk (bQ (i:=8) bg.nd rfl (Or.inl rfl) (b9 (lX T) (hr.mono (by decide)) (by rfl) (za (pv 7) (za zr (za zr zh)))))
    (zv (cy (PW.pt (rA (cO (sJ K rfl (jX hr)) (pv 3) (dm zh) (cK _)) (vM (PW.pt (qd (cO rM (pv 8) zr (cK _)) (qc (cO rM (cW (jb K rfl) (by rfl) T.len boot_len (za (pv 3) zh)) (cW (jb K rfl) (by rfl) T.len boot_len (za (pv 0) zh)) (cK _)))))))) (zk (gX (jW K rfl PySem.F.plainAttrs_list PySem.F.slot_list_append PySem.F.type_list_append o5 (pv 3) (za (bI (cT K rfl) (pv 0) (cW (jb K rfl) (by rfl) T.len boot_len (za (pv 3) zh)) (fun _ _=>rfl)) zh)))
     (zv (gX (jW K rfl PySem.F.plainAttrs_list PySem.F.slot_list_append PySem.F.type_list_append o5 (pv 6) (za (dJ (za zp (za (bI (cT K rfl) (pv 3) (oN oR zr) (fun _ _=>rfl)) zh))) zh))))) (zv (cy (cO rM (pv 8) zr (cK _)) (zk (bQ (i:=9) bg.nd rfl (Or.inl rfl) (b9 (UX T) (hr.mono (by decide)) (by rfl) (za (pv 3) (za (pv 7) zh))))
      (zv (cy (cO (NG K rfl (Cw hr)) (pv 9) (pv 4) (by with_unfolding_all rfl)) (zk (gX (jW K rfl PySem.F.plainAttrs_list PySem.F.slot_list_append PySem.F.type_list_append o5 (pv 4) (za (pv 9) zh)))
       (zv (gX (jW K rfl PySem.F.plainAttrs_list PySem.F.slot_list_append PySem.F.type_list_append o5 (pv 6) (za (pv 9) zh))))) cQ))) (zv (cy (cO rM (cW (jb K rfl) (by rfl) T.len boot_len (za (pv 5) zh)) (cW (jb K rfl) (by rfl) T.len boot_len (za (pv 1) zh)) (cK _)) (zk (gX (jW K rfl PySem.F.plainAttrs_list PySem.F.slot_list_append PySem.F.type_list_append o5 (pv 5) (za (b9 (UZ T) (hr.mono (by decide)) (by rfl) (za (pv 1) (za (pv 3) (za (pv 5) (za (pv 7) zh))))) zh)))
       (zv (gX (jW K rfl PySem.F.plainAttrs_list PySem.F.slot_list_append PySem.F.type_list_append o5 (pv 6) (za (ao (n9 K rfl) (dJ (za zp zh)) (bI (cT K rfl) (pv 5) (oN oR zr) (fun _ _=>rfl))) zh))))) cQ))))))))
   (zv (cH (dJ (za (pv 3) (za (pv 4) (za (pv 5) (za (pv 6) zh)))))))))))),?_⟩
  refine⟨by decide,fun pu yi=>?_⟩;refine⟨by decide,fun gw qH=>?_⟩;refine⟨by decide,fun pf nG=>?_⟩;refine⟨by decide,fun pr qI=>?_⟩;have qJ:pu≠gw:=cI zd qH;have s1:aa H (upd H pu (.lst [])):=aa.new yi;have s2:=s1.trans (aa.new (o:=.lst []) qH);have s3:=s2.trans (aa.new (o:=.lst []) nG);have s4:=s3.trans (aa.new (o:=.lst []) qI);have Jy:upd (upd H pu (.lst [])) gw (.lst []) pu=some (.lst []):=aa.new qH _ _ zd;have AN:=aa.new (o:=.lst []) nG _ _ Jy;have Jz:=aa.new (o:=.lst []) nG _ _ (zd (H:=upd H pu (.lst [])) (a:=gw) (o:=.lst []));have AO:pu≠pf:=cI Jy nG;have AQ:gw≠pf:=cI zd nG;have AR:pu≠pr:=cI AN qI;have AS:gw≠pr:=cI Jz qI;have AU:pf≠pr:=cI zd qI;have T0:bD (upd (upd (upd (upd H pu (.lst [])) gw (.lst [])) pf (.lst [])) pr (.lst [])) pu gw pf pr [] [] [] [] [] [] []:=
   ⟨aa.new qI _ _ AN,aa.new qI _ _ Jz,.nil,aa.new qI _ _ zd,.nil,zd,.nil⟩
  have fu:=yi;have ft:=s1.free qH;have ff:=s2.free nG;have fr:=s3.free qI;refine⟨_,rfl,c,rfl,⟨_,s4.seq hc⟩,LR (xs:=cs.map V.int) (fun i σ H'=>∃v7 v8 v9 us ts fs rs at' af ar,σ = [some (.ref n),some (.ref m),some (.ref c),some (.ref pu),some (.ref gw),some (.ref pf),some (.ref pr),v7,v8,v9]/\aa H H'/\
   Told us ts fs rs/\bD H' pu gw pf pr us ts fs rs at' af ar/\us=xs.take us.length/\fs.map List.head? = (ms.take fs.length).map (fun x=>some (V.str x))/\rs.length<=i/\ts.length<=i/\fs.length<=9)
   ⟨none,none,none,[],[],[],[],[],[],[],rfl,s4,.nil,T0,rfl,rfl,Nat.le_refl _,Nat.le_refl _,by decide⟩ (fun i σ H' _ h=>by obtain⟨_,_,_,_,_,_,_,_,_,_,_,q,_⟩:=h;exact q.seq hc) ?_ ?_⟩
  ·rintro i x σ H1 hx ⟨v7,v8,v9,us,ts,fs,rs,at',af,ar,rfl,q,td,ta,ex,ef,lr,lt,lf⟩;have hi:i<cs.length:=by
    have:=(List.getElem?_eq_some_iff.mp hx).1;simpa using this
   obtain⟨cl,rfl⟩:∃z,x=V.int z:=by
    rw[List.getElem?_map] at hx;cases e:cs[i]? with
    | none=>rw[e] at hx;cases hx
    | some z=>rw[e] at hx;exact⟨z,(Option.some.inj hx).symm⟩
   have nm:=td.names;have YO:us.length<=9:=by rw[ex,List.length_take];omega
   have JA:=ta.tt.len;have DB:=ta.ft.len;have DC:=ta.rt.len;refine⟨_,rfl,cl,0,8,rfl,by decide,?_⟩;generalize pt cl 0 8=way;have lx:(xs.map V.str).length=xs.length:=List.length_map _;have lu:(us.map V.str).length=us.length:=List.length_map _;dsimp only [bM];refine sM (decide (us = []\/(way<2/\us.length<9))) (fun Q' hQ=>?_) (fun H2 s2=>?_)
   ·refine⟨_,rfl,by decide,fun e he=>?_⟩;refine⟨pu,e,_,rfl,rfl,b8.sN (ak.of (aa.new he _ _ ta.u)) (ak.of zd),_,rfl,?_⟩;refine dO (fun c=>?_) (fun c=>?_)
    ·have c:=of_decide_eq_true c;rw[List.map_eq_nil_iff] at c;rw[decide_eq_true (Or.inl c)] at hQ;exact hQ _ (aa.new he)
    ·have c:¬us = []:=fun z=>c (decide_eq_true (by rw[z];rfl))
     refine⟨_,rfl,_,_,rfl,rfl,_,rfl,?_⟩;refine dO (fun c2=>?_) (fun c2=>?_)
     ·have c2:=of_decide_eq_true c2;refine⟨_,rfl,pu,_,rfl,.inl (ak.of (aa.new he _ _ ta.u)),_,rfl,n,_,rfl,.inl ((q.trans (aa.new he)).seq hn),_,_,rfl,rfl,_,rfl,?_⟩;rw[lu,lx,x1];have e2:decide (((us.length:Nat):Int)<((9:Nat):Int))=decide (us = []\/(way<2/\us.length<9)):=by
       apply decide_eq_decide.mpr;constructor
       ·intro z;exact .inr ⟨c2,by omega⟩
       ·rintro (z | z)
        ·exact absurd z c
        ·omega
      rw[e2];exact hQ _ (aa.new he)
     ·have c2:¬way<2:=fun z=>c2 (decide_eq_true z)
      rw[decide_eq_false (fun z=>z.elim c fun z=>c2 z.1)] at hQ;exact hQ _ (aa.new he)
   have mJ:=ta.same s2;have q2:=q.trans s2;refine dO (fun c=>?_) (fun c=>?_)
   ·have c:=of_decide_eq_true c;have fz:us.length<9:=by
     rcases c with c | c
     ·rw[c];decide
     ·exact c.2
    have dw:us.length<xs.length:=by omega
    have hg:(xs.map V.str)[us.length]? = some (V.str xs[us.length]):=by simp[dw]
    refine⟨_,rfl,.inl ⟨rfl,_,ak.of mJ.u⟩,_,rfl,_,rfl,pu,_,rfl,.inl (ak.of mJ.u),n,_,_,_,rfl,rfl,q2.seq hn,by rw[lu];exact lA hg,?_⟩;refine⟨pu,_,_,rfl,rfl,mJ.u,by rw[lu];exact pe (by omega),?_⟩;have kP:=mJ.CQ qJ.symm AO.symm AR.symm xs[us.length];have q3:aa H _:=q2.upd (o:=.lst (us.map V.str++[.str xs[us.length]])) fu;refine⟨_,rfl,.inl ⟨rfl,_,ak.of kP.r⟩,_,rfl,_,rfl,pu,_,_,_,rfl,rfl,ak.of zd,BL _ _,(by show 2<=sizeLine;decide),fun p hp=>?_⟩;have pN:=kP.same (aa.new (o:=.tup [.str "unit",.str xs[us.length]]) hp);refine⟨pr,_,_,rfl,rfl,pN.r,by rw[List.length_map];exact pe (by omega),?_⟩;have uZ:xs[us.length] ∉ us:=fun z=>OY x2 us.length dw (by
     have all:∀y,y∈us->y∈xs.take us.length:=fun y hy=>by rw[←ex];exact hy
     exact all _ z)
    refine⟨some (.int cl),some (.int way),v9,_,_,_,_,_,_,_,rfl,(q3.trans (aa.new hp)).upd fr,td.unit (x3 _ (List.getElem_mem dw)) uZ,pN.tF AR AS AU zd,?_,ef,?_,?_,lf⟩
    ·rw[List.length_append];show us++[xs[us.length]]=xs.take (us.length+1);rw[List.take_add_one,List.getElem?_eq_getElem dw,←ex];rfl
    ·rw[List.length_append];exact Nat.succ_le_succ lr
    ·omega
   ·have c:¬(us = []\/(way<2/\us.length<9)):=fun z=>c (decide_eq_true z)
    have iL:1<=us.length:=by
     cases us with
     | nil=>exact absurd (.inl rfl) c
     | cons a b=>simp
    refine⟨_,rfl,_,_,rfl,rfl,_,rfl,?_⟩;refine dO (fun c2=>?_) (fun c2=>?_)
    ·refine⟨_,rfl,_,rfl,pu,us,cl,rfl,ak.of mJ.u,iL,fun p ws H3 tok j6 hp s3=>?_⟩;have kP:=mJ.same s3;have q3:=q2.trans s3;have hw:=tok.words nm.2;have xV:∀vs∈ts,∀v∈vs,Wd v:=fun vs hv=>((td.fj vs hv).words nm.2).1
     refine⟨_,rfl,_,rfl,gw,_,_,rfl,.inl (ak.of kP.t),kP.tt.O0 (n:=7) xV hp hw.1,_,rfl,?_⟩;rw[if_pos rfl,kP.tt.CU];refine dO (fun c3=>?_) (fun c3=>?_)
     ·have c3:ws ∉ ts:=by simpa using c3
      refine⟨_,rfl,.inl ⟨rfl,_,ak.of kP.t⟩,_,rfl,gw,_,_,rfl,rfl,kP.t,by rw[List.length_map];exact pe (by omega),?_⟩;have pN:=kP.CS qJ AQ.symm AS.symm hp;have tW:=vh (ys:=at'.map V.ref++[.ref p]) kP.t _ _ hp;refine⟨_,rfl,.inl ⟨rfl,_,ak.of pN.r⟩,_,rfl,pr,_,_,rfl,rfl,pN.r,by rw[List.length_map];exact pe (by omega),?_⟩;refine⟨some (.int cl),some (.int way),some (.ref p),_,_,_,_,_,_,_,rfl,(q3.upd ft).upd fr,td.je tok c3,pN.tF AR AS AU tW,ex,ef,?_,?_,lf⟩
      ·rw[List.length_append];exact Nat.succ_le_succ lr
      ·rw[List.length_append];exact Nat.succ_le_succ lt
     ·exact⟨some (.int cl),some (.int way),some (.ref p),us,ts,fs,rs,at',af,ar,rfl,q3,td,kP,ex,ef,by omega,by omega,lf⟩
    ·refine⟨_,rfl,pf,_,rfl,.inl (ak.of mJ.f),_,rfl,m,_,rfl,.inl (q2.seq hm),_,_,rfl,rfl,_,rfl,?_⟩;rw[List.length_map,List.length_map,m1];refine dO (fun c3=>?_) (fun c3=>?_)
     ·have c3:=of_decide_eq_true c3;have YQ:fs.length<9:=by omega
      refine⟨_,rfl,.inl ⟨rfl,_,ak.of mJ.f⟩,_,rfl,_,rfl,_,rfl,_,rfl,m,pu,pf,ms,us,af.map V.ref,cl,rfl,q2.seq hm,ak.of mJ.u,ak.of mJ.f,iL,by rw[List.length_map];omega,fun p x JB lo hi H3 hx oq o8 y1 y2 j6 hp s3=>?_⟩;rw[List.length_map,DB] at oq;have kP:=mJ.same s3;have q3:=q2.trans s3;refine⟨pf,_,_,rfl,rfl,kP.f,by rw[List.length_map];exact pe (by omega),?_⟩;have pN:=kP.CT AO AQ AU.symm hp;have tW:=vh (ys:=af.map V.ref++[.ref p]) kP.f _ _ hp;refine⟨_,rfl,.inl ⟨rfl,_,ak.of pN.r⟩,by decide,fun p5 yj=>?_⟩;have s5:=aa.new (o:=.tup [.str "find"]) yj;have U5:=pN.same s5;refine⟨_,rfl,_,rfl,pf,_,_,_,rfl,rfl,ak.of (s5 _ _ zd),BL _ _,?_⟩;refine⟨p5,p,_,_,rfl,rfl,aD.of zd,aD.of (s5 _ _ tW),by simp,(by show 1+4<=sizeLine;decide),fun z=>by simp at z,fun _ p6 qK=>?_⟩;have JC:=U5.same (aa.new (o:=.tup ([.str "find"]++[.str JB,.str x,.int lo,.int hi])) qK);refine⟨pr,_,_,rfl,rfl,JC.r,by rw[List.length_map];exact pe (by omega),?_⟩;have U6:=List.getElem?_eq_some_iff.mp oq;refine⟨some (.int cl),some (.int way),v9,_,_,_,_,_,_,_,rfl,(((q3.upd ff).trans s5).trans (aa.new qK)).upd fr,td.find (.mk (m3 _ (List.mem_of_getElem? oq)) hx o8 y1 y2 ?_),JC.tF AR AS AU zd,ex,?_,?_,by omega,?_⟩
      ·intro f' DE z;have:List.head? f'∈fs.map List.head?:=List.mem_map.mpr ⟨f',DE,rfl⟩;rw[ef,z] at this;obtain⟨y,hy,e⟩:=List.mem_map.mp this;have e:y=JB:=V.str.inj (Option.some.inj e);subst e;obtain⟨j,hj,e⟩:=List.mem_iff_getElem.mp hy;rw[List.getElem_take] at e;rw[List.length_take] at hj;obtain⟨hk,e'⟩:=U6;have:=(List.getElem_inj m2).mp (e.trans e'.symm);omega
      ·rw[List.map_append,List.length_append,ef];show _=(ms.take (fs.length+1)).map _;rw[List.take_add_one,oq,List.map_append];rfl
      ·rw[List.length_append];exact Nat.succ_le_succ lr
      ·rw[List.length_append];show fs.length+1<=9;omega
     ·exact⟨some (.int cl),some (.int way),v9,us,ts,fs,rs,at',af,ar,rfl,q2,td,mJ,ex,ef,by omega,by omega,lf⟩
  ·rintro σ H1 ⟨v7,v8,v9,us,ts,fs,rs,at',af,ar,rfl,q,td,ta,ex,ef,lr,lt,lf⟩;rw[List.length_map] at lr;refine⟨_,rfl,_,rfl,_,rfl,_,rfl,(by show 4<=sizeLine;decide),fun p hp=>?_⟩;exact k p pu gw pf pr us ts fs rs at' af ar _ td ex lf lr (ta.same (aa.new hp)) zd fu ft ff fr qJ AO AQ (q.trans (aa.new hp))
def U7:Sp:=fun vs H Q _=>∃(a:Addr) (x:Str) (r:List V),vs = [.ref a]/\aD K H a (.str x::r)/\x.length<=100/\(∀v∈r,Wd v)/\r.length<=5/\∀H',aa H H'->Q (.str (aW (.str x::r))) H'
set_option maxHeartbeats 4000000 in
theorem JD (T:Tx K mg w C_Reading zo zi zn ze zb zf zc zg zad zw zae zx zaf zy):fh P w K mg base "_law_line" ["_law_row"] 1 (U7 (K:=K)):=by
 refine T.Uo.has cN (fun vs H Q E h=>?_) (fun f ay A outer s H vs Q E hr h=>?_)
 ·obtain⟨a,x,r,rfl,_⟩:=h;rfl
 ·obtain⟨a,x,r,rfl,ha,hx,fk,hl,k⟩:=h;refine⟨_,(zk (bQ (i:=1) cN.nd rfl (Or.inl rfl) (bI (gH K rfl) (pv 0) zr (fun _ _=>rfl)))
   (zk (uM PassesOwn.never rfl (NJ K rfl (jT (u6 K rfl) (pv 0) (jK zr) kh)) (d9 (i:=2) cN.nd rfl (Or.inl rfl)) (zv (bQ (i:=1) cN.nd rfl (Or.inl rfl) (ao zq (ao zq (pv 1) zp) (nX NB (by rfl) T.str PyProof.Rows.boot_str (za (pv 2) zh))))))
   (zv (cH (pv 1))))),?_⟩
  refine⟨_,rfl,a,_,_,_,rfl,rfl,ha,gI,?_⟩;refine⟨_,rfl,_,rfl,a,_,rfl,ha,?_,fun p hp=>?_⟩
  ·rintro ⟨z,_⟩;unfold HT.bA at z;simp at z
  rw[qm];refine⟨p,rfl,⟨_,aD.of zd⟩,LS (xs:=r) (fun i σ H'=>∃v2,σ = [some (.ref a),some (.str (aW (.str x::r.take i))),v2]/\H'=upd H p (.tup r))
   ⟨none,by rw[List.take_zero,O8];rfl,rfl⟩ (fun i σ H' _ h=>by obtain⟨_,_,e⟩:=h;rw[e];exact aD.of zd) ?_ ?_⟩
  ·rintro i v σ H' hv ⟨v2,rfl,rfl⟩;have hm:=fk v (List.mem_of_getElem? hv);have hi:=(List.getElem?_eq_some_iff.mp hv).1;have b1:(aW (.str x::r.take i)).length<=606:=by
    rw[Ar];refine Aq (fun z hz=>?_) (by simp;omega);rcases List.mem_cons.mp hz with rfl | hz
    ·exact .inl ⟨_,rfl,hx⟩
    ·exact fk z (List.mem_of_mem_take hz)
   have b2:=Hy hm;rw[fT] at b2;refine⟨_,rfl,_,_,rfl,rfl,?_,_,rfl,v,rfl,hm,_,_,rfl,rfl,?_,some v,?_,rfl⟩
   ·exact cU (by show _+1<=1000;omega)
   ·refine cU ?_;rw[show ((aW (.str x::r.take i))++(Str.ofString " " : Str)).length=(aW (.str x::r.take i)).length+1 by rw[←fT,fU,List.length_append,fT];rfl];omega
   ·rw[List.take_add_one,hv];show _ = [some (V.ref a),some (V.str (aW (V.str x::r.take i++[v]))),some v];rw[O7,←O6];rfl
  ·rintro σ H' ⟨v2,rfl,rfl⟩;rw[List.take_length];exact⟨_,rfl,k _ (aa.new hp)⟩
theorem U8 {l:List Nat}{f:Nat->Bool}:(l.map f).all id=l.all f:=by rw[List.all_map];rfl
def JE (sg:Str):V->V
 | .str z=>.bl (!(Builtin.Str.occurrences sg z 0 sg.length 1).isEmpty)
 | _=>.aL
theorem U9 (l:List V):l.filter (fun _=>true)=l:=List.filter_eq_self.mpr fun _ _=>rfl
theorem Va (x sg:Str):(((co x).map L2.sg).filter fun _=>true).map (JE sg)=((co x).map fun c=>decide (c∈co sg)).map V.bl:=by
 rw[U9,List.map_map,List.map_map];apply List.map_congr_left;intro c _;show V.bl (!(Builtin.Str.occurrences sg ⟨#[c]⟩ 0 sg.length 1).isEmpty)=V.bl (decide (c∈sg.cps.toList));rw[StrLaws.found_one]
def Vb:Sp:=fun vs H Q _=>∃x sg,vs = [.str x,.str sg]/\x.length<=1000/\∀H',aa H H'->Q (.bl (pG (co x) sg)) H'
theorem JF (T:Tx K mg w C_Reading zo zi zn ze zb zf zc zg zad zw zae zx zaf zy):fh P w K mg base "is_made_of" ["text","signs"] 1 Vb:=by
 refine T.Ub.has UE (fun vs H Q E h=>?_) (fun f ay A outer s H vs Q E hr h=>?_)
 ·obtain⟨x,sg,rfl,_⟩:=h;rfl
 ·obtain⟨x,sg,rfl,hl,k⟩:=h;refine⟨_,(zv (cH (cW (NH K rfl rfl) (by rfl) T.all PyProof.Rows.boot_all (za (pA (own:=["sign"]) (cap:=["signs"]) (ix:=[1]) (jV:=zm (top 22)) rfl ⟨rfl,by decide +kernel,by decide +kernel,by decide +kernel,by decide +kernel⟩ rfl (Nl (pv 0)) (fun _ _ _ _=>d9 (i:=0) (show List.Nodup (["sign","signs"]:List Str) by decide +kernel) rfl (Or.inl rfl)) (fun _ _ _ _=>m8) (fun _ _ _ _=>(rN LZ (pv 0) (pv 1) (by with_unfolding_all rfl)))) zh)))),?_⟩;refine⟨_,rfl,x,rfl,fun D hD=>?_⟩;refine zZ (Nk (x:=x)) (fun _=>true) (JE sg) (fun _=>trivial) (by rw[List.length_map,fT];exact cU hl) (fun v hv ys Q' q=>q) (fun v hv _ ys Q' q=>?_) ?_
  ·obtain⟨c,_,rfl⟩:=List.mem_map.mp hv;exact⟨_,rfl,_,rfl,_,_,rfl,rfl,q⟩
  ·refine⟨D,(co x).map fun c=>decide (c∈co sg),rfl,.inl (.inl ?_),?_⟩
   ·rw[zd,Va]
   ·rw[U8];exact k _ (aa.new hD)
def Vc:Sp:=fun vs H Q _=>∃x,vs = [.str x]/\x.length<=1000/\∀H',aa H H'->Q (.bl (bq x)) H'
theorem JG (T:Tx K mg w C_Reading zo zi zn ze zb zf zc zg zad zw zae zx zaf zy):fh P w K mg base "is_name" ["text"] 2 Vc:=by
 refine T.T9.has UD (fun vs H Q E h=>?_) (fun f ay A outer s H vs Q E hr h=>?_)
 ·obtain⟨x,rfl,_⟩:=h;rfl
 ·obtain⟨x,rfl,hl,k⟩:=h;obtain⟨pO,jB,jC⟩:=T.UA;obtain⟨nH,iQ,iR⟩:=T.UB;refine⟨_,(zv (cH (Ly (L7 zD zD zr (cW FH (by rfl) T.len boot_len (za (pv 0) zh)) (jQ (v:=.int 12) (by rfl) iQ iR)) (E5 (b9 (JF T) (hr.mono (by decide)) (by rfl) (za (pv 0) (za (jQ (v:=.str "abcdefghijklmnopqrstuvwxyz0123456789-") (by rfl) jB jC) zh))))))),?_⟩;refine⟨_,rfl,x,rfl,cU hl,_,_,rfl,rfl,_,rfl,?_⟩
  by_cases c1:1<=x.length
  ·rw[decide_eq_true (show (1:Int)<=(x.length:Int) by omega)];refine br ⟨_,_,rfl,rfl,_,rfl,?_⟩
   by_cases c2:x.length<=12
   ·rw[decide_eq_true (show (x.length:Int)<=12 by omega)];refine br ⟨_,rfl,x,bK,rfl,hl,fun H' s'=>?_⟩;have:=k H' s';unfold bq at this;rw[decide_eq_true c1,decide_eq_true c2] at this;exact this
   ·rw[decide_eq_false (show ¬(x.length:Int)<=12 by omega)];refine aB ?_;have:=k H (aa.refl H);unfold bq at this;rw[decide_eq_false c2,Bool.and_false,Bool.false_and] at this;exact this
  ·rw[decide_eq_false (show ¬(1:Int)<=(x.length:Int) by omega)];refine aB ⟨_,rfl,aB ?_⟩;have:=k H (aa.refl H);unfold bq at this;rw[decide_eq_false c1,Bool.false_and,Bool.false_and] at this;exact this
def pP (x:Str):V:=if gT x=true then .int (gp x) else .aL
def Vd:Sp:=fun vs H Q _=>∃x,vs = [.str x]/\x.length<=1000/\∀H',aa H H'->Q (pP x) H'
theorem DF {x:Str}(h:gT x=false):pP x = .aL:=by unfold pP;rw[h];exact if_neg Bool.false_ne_true
theorem AV {x:Str}(h:gT x=true):pP x = .int (gp x):=if_pos h
theorem Ve:(Str.ofString "-" : Str)=⟨#[45]⟩:=by decide +kernel
theorem jD:(Str.ofString "0" : Str)=⟨#[48]⟩:=by decide +kernel
theorem Vf {x:Str}(h:(co x).head? = some 45):ck (co x)=(co x).drop 1:=by
 cases e:co x with
 | nil=>rw[e] at h;cases h
 | cons c r=>
  rw[e] at h;have h:c=45:=Option.some.inj h;subst h;rw[xG];rfl
theorem Vg {x:Str}(h:¬(co x).head? = some 45):ck (co x)=co x:=by
 cases e:co x with
 | nil=>rfl
 | cons c r=>
  rw[e] at h;exact xH r fun z=>h (by rw[z];rfl)
theorem Vh (l:List Nat):(ck l).length<=l.length:=by
 cases l with
 | nil=>exact Nat.le_refl _
 | cons c r=>
  by_cases h:c=45
  ·subst h;rw[xG];exact Nat.le_succ _
  ·rw[xH r h];exact Nat.le_refl _
theorem JH {x:Str}(h:¬(1<=(ck (co x)).length/\(ck (co x)).length<=60)):gT x=false:=by
 unfold gT
 by_cases h1:1<=(ck (co x)).length
 ·rw[decide_eq_false (fun z=>h ⟨h1,z⟩),Bool.and_false,Bool.false_and,Bool.false_and]
 ·rw[decide_eq_false h1,Bool.false_and,Bool.false_and,Bool.false_and]
theorem Vi {x:Str}(h:pG (ck (co x)) jw=false):gT x=false:=by
 unfold gT;rw[h,Bool.and_false,Bool.false_and]
theorem Vj {x:Str}(h1:1<=(ck (co x)).length) (h2:(ck (co x)).length<=60) (h3:pG (ck (co x)) jw=true):gT x = !(decide ((ck (co x)).head? = some 48) && !decide (x=pH)):=by
 unfold gT;rw[decide_eq_true h1,decide_eq_true h2,h3];rfl
theorem JI (T:Tx K mg w C_Reading zo zi zn ze zb zf zc zg zad zw zae zx zaf zy):fh P w K mg base "read_number" ["text"] 2 Vd:=by
 refine T.Ua.has eK (fun vs H Q E h=>?_) (fun f ay A outer s H vs Q E hr h=>?_)
 ·obtain⟨x,rfl,_⟩:=h;rfl
 ·obtain⟨x,rfl,hl,k⟩:=h;obtain⟨vt,lY,lZ⟩:=T.Uz;obtain⟨nI,iS,iT⟩:=T.UC;refine⟨_,(zk (bQ (i:=1) eK.nd rfl (Or.inl rfl) (LB (ly (jW K rfl PySem.F.plainAttrs_str PySem.F.slot_str_startswith PySem.F.type_str_startswith Cq (pv 0) (za zp zh))) (jT Gd (pv 0) (jK zr) kh) (pv 0)))
   (zk (cy (mw (L8 zD zD zr (cW FH (by rfl) T.len boot_len (za (pv 1) zh)) (jQ (v:=.int 60) (by rfl) iS iT))) (zv (cH vK)) cQ)
   (zk (cy (mw (ly (b9 (JF T) (hr.mono (by decide)) (by rfl) (za (pv 1) (za (jQ (v:=.str "0123456789") (by rfl) lY lZ) zh))))) (zv (cH vK)) cQ)
   (zk (cy (PW.pt (qd (ly (jW K rfl PySem.F.plainAttrs_str PySem.F.slot_str_startswith PySem.F.type_str_startswith Cq (pv 1) (za zp zh))) (qc (cO qf (pv 0) zp (cK _))))) (zv (cH vK)) cQ)
   (zv (cH (nX Np (by rfl) T.int PyProof.Rows.boot_int (za (pv 0) zh)))))))),?_⟩
  refine⟨_,rfl,rfl,x,_,rfl,rfl,_,rfl,?_⟩;have key:∀R:V->Hp->Prop,(∀y,co y=ck (co x)->R (.str y) H)->(if Txt.startswith x (Str.ofString "-")=true then zP wW (cJ 0) (zO (tC (.int 1))) zN (start ["text","figures"] [.str x]) H R else cJ 0 (start ["text","figures"] [.str x]) H R):=fun R hR=>by
   rw[Ve,CJ]
   by_cases c:(co x).head? = some 45
   ·rw[decide_eq_true c];exact br ⟨_,rfl,_,rfl,x,rfl,cU hl,hR _ (by rw[OL,Vf c])⟩
   ·rw[decide_eq_false c];exact aB ⟨_,rfl,hR x (Vg c).symm⟩
  refine key _ fun y hy=>?_
  have Vk:y.length=(ck (co x)).length:=by rw[←fT,hy]
  have yk:y.length<=1000:=by rw[Vk];exact Nat.le_trans (Vh _) (by rw[fT];exact hl)
  have no:gT x=false->∀H',aa H H'->Q .aL H':=fun z H' s'=>by
   have:=k H' s';rw[DF z] at this;exact this
  refine⟨_,rfl,y,rfl,cU yk,_,_,rfl,rfl,_,rfl,?_⟩
  by_cases c1:1<=y.length
  ·rw[decide_eq_true (show (1:Int)<=(y.length:Int) by omega)];refine br ⟨_,_,rfl,rfl,_,rfl,?_⟩
   by_cases c2:y.length<=60
   ·rw[decide_eq_true (show (y.length:Int)<=60 by omega)];refine aB ⟨_,rfl,y,jw,rfl,yk,fun H1 s1=>⟨_,rfl,?_⟩⟩;rw[hy];cases c3:pG (ck (co x)) jw with
    | false=>exact br (no (Vi c3) H1 s1)
    | true=>
     refine aB ⟨_,rfl,rfl,y,_,rfl,rfl,_,rfl,?_⟩;have ok:=Vj (by omega) (by omega) c3;rw[jD,CJ,hy];have fin:gT x=true->∀H',aa H H'->rB (BH (fun xs H Q=>∃x n,xs = [V.str x]/\PySem.intText? x=some n/\x.length<=640/\Q (.int n) H) (oS (cJ 0) gZ)) { nx:=fun _ H'=>Q .aL H',rt:=Q } [some (.str x),some (.str y)] H':=fun z H' s'=>by
      obtain⟨e1,e2⟩:=ON z;refine⟨_,rfl,x,gp x,rfl,e1,Nat.le_trans e2 (by decide),?_⟩;have:=k H' s';rw[AV z] at this;exact this
     by_cases c4:(ck (co x)).head? = some 48
     ·rw[decide_eq_true c4] at ok ⊢;refine br ⟨_,rfl,rfl,_,rfl,?_⟩
      by_cases c5:x=pH
      ·rw[decide_eq_true c5] at ok;rw[decide_eq_true (show V.str x=V.str (⟨#[48]⟩:Str) by rw[c5];exact congrArg V.str jD)];exact aB (fin ok H1 s1)
      ·rw[decide_eq_false c5] at ok;rw[decide_eq_false (show ¬V.str x=V.str (⟨#[48]⟩:Str) from fun z=>c5 ((V.str.inj z).trans jD.symm))];exact br (no ok H1 s1)
     ·rw[decide_eq_false c4] at ok ⊢;exact aB (aB (fin ok H1 s1))
   ·rw[decide_eq_false (show ¬(y.length:Int)<=60 by omega)];exact br (no (JH (by omega)) H (aa.refl H))
  ·rw[decide_eq_false (show ¬(1:Int)<=(y.length:Int) by omega)];exact aB ⟨_,rfl,br (no (JH (by omega)) H (aa.refl H))⟩
def yl:V->Bool
 | .str y=>!decide (y=(Str.ofString "" : Str))
 | _=>false
def Vl:Sp:=fun vs H Q _=>∃x,vs = [.str x]/\x.length<=1000000/\∀(D:Addr) (H':Hp),H D=none->H' D=some (.lst ((Dm.wordsOf x).map V.str))->aa H H'->Q (.ref D) H'
theorem AW (x:Str) (h:x.length<=1000000) (y:Str):(Txt.split x y).length<=sizeLine:=by
 have:=(PyProof.Rows.fact_split x y).2;exact Nat.le_trans this (Nat.le_trans (show x.length+2<=1000002 by omega) (by decide))
theorem DG {n:Nat}(h:n<=1000000):n<=sizeLine:=Nat.le_trans h (by decide)
theorem JJ (T:Tx K mg w C_Reading zo zi zn ze zb zf zc zg zad zw zae zx zaf zy):fh P w K mg base "split_words" ["line"] 1 Vl:=by
 refine T.Uc.has UG (fun vs H Q E h=>?_) (fun f ay A outer s H vs Q E hr h=>?_)
 ·obtain⟨x,rfl,_⟩:=h;rfl
 ·obtain⟨x,rfl,hl,k⟩:=h;refine⟨_,(zv (cH (pA (own:=["word"]) (cap:=[]) (ix:=[]) (jV:=zm (top 25)) rfl ⟨rfl,by decide +kernel,by decide +kernel,by decide +kernel,by decide +kernel⟩ rfl (lR K rfl (jW K rfl PySem.F.plainAttrs_str PySem.F.slot_str_split PySem.F.type_str_split Cy (pv 0) (za zp zh))) (fun _ _ _ _=>d9 (i:=0) (show List.Nodup (["word"]:List Str) by decide +kernel) rfl (Or.inl rfl)) (fun _ _ _ _=>uX (cO qf (pv 0) zp (cK _))) (fun _ _ _ _=>(pv 0))))),?_⟩;refine⟨_,rfl,rfl,x,_,rfl,rfl,by decide +kernel,DG hl,AW x hl _,fun p hp=>?_⟩;refine⟨p,rfl,⟨_,ak.of zd⟩,fun D hD=>?_⟩;have Dy:p≠D:=cI zd hD;refine zZ (nj (a:=p) (K:=K) (xs:=(Txt.split x (Str.ofString " ")).map V.str)) yl (fun v=>v) (fun ys=>ak.of (by rw[aJ Dy,zd])) (by rw[List.length_map];exact AW x hl _) (fun v hv ys Q' q=>?_) (fun v hv _ ys Q' q=>?_) ?_
  ·obtain⟨y,_,rfl⟩:=List.mem_map.mp hv;refine⟨_,rfl,rfl,_,rfl,?_⟩;have e:yl (V.str y) = !decide (V.str y=V.str (Str.ofString "")):=by
    show (!decide (y=(Str.ofString "" : Str)))=_
    congr 1
    exact decide_eq_decide.mpr ⟨fun z=>congrArg V.str z,fun z=>V.str.inj z⟩
   rw[e] at q;exact q
  ·exact⟨_,rfl,q⟩
  ·refine k D _ ((aa.new hp).free hD) ?_ ((aa.new hp).trans (aa.new hD));rw[zd,List.map_id',List.filter_map];rfl
def Vm:Sp:=fun vs H Q _=>∃(a:Addr) (wl:List Str),vs = [.ref a]/\ak K H a (wl.map V.str)/\∀H',aa H H'->Q (.bl (lF wl)) H'
theorem JK (T:Tx K mg w C_Reading zo zi zn ze zb zf zc zg zad zw zae zx zaf zy):fh P w K mg base "is_passed_over" ["words"] 1 (Vm (K:=K)):=by
 refine T.Ud.has UH (fun vs H Q E h=>?_) (fun f ay A outer s H vs Q E hr h=>?_)
 ·obtain⟨a,wl,rfl,_⟩:=h;rfl
 ·obtain⟨a,wl,rfl,ha,k⟩:=h;refine⟨_,(zv (cH (Lz (rN (sJ K rfl (jX hr)) (pv 0) (dm zh) (cK _)) (E5 (jW K rfl PySem.F.plainAttrs_str PySem.F.slot_str_startswith PySem.F.type_str_startswith Cq (bI (cT K rfl) (pv 0) zr (fun _ _=>rfl)) (za zp zh)))))),?_⟩;refine⟨_,rfl,by decide,fun e he=>?_⟩;have s1:=aa.new (o:=.lst []) he;refine⟨a,e,_,rfl,rfl,b8.sN (s1.seq ha) (ak.of zd),_,rfl,?_⟩;cases wl with
  | nil=>exact br (k _ s1)
  | cons y r=>
   refine aB ⟨_,rfl,a,_,_,_,rfl,rfl,s1.seq ha,gI,rfl,y,_,rfl,rfl,k _ s1⟩
inductive dH:Str->V->Prop where
 | name {x:Str}(h:bq x=true):dH "name" (.str x)
 | year {n:Int}(h:dG n):dH "year" (.int n)
 | gap {n:Int}(h0:0<=n) (h:dG n):dH "gap" (.int n)
def JL:Sp:=fun vs H Q _=>∃(kd:Str) (v r:V),vs = [.str kd,.str (aR v),r]/\dH kd v/\∀H',aa H H'->Q v H'
theorem mK {a b:String}(h:¬(Str.ofString a:Str)=Str.ofString b):decide (V.str (Str.ofString a)=V.str (Str.ofString b))=false:=decide_eq_false fun z=>h (V.str.inj z)
theorem JM (T:Tx K mg w C_Reading zo zi zn ze zb zf zc zg zad zw zae zx zaf zy):fh P w K mg base "read_value" ["kind","word","row"] 3 JL:=by
 refine T.Jj.has cD (fun vs H Q E h=>?_) (fun f ay A outer s H vs Q E hr h=>?_)
 ·obtain⟨kd,v,r,rfl,_⟩:=h;rfl
 ·obtain⟨kd,v,r,rfl,hv,k⟩:=h;refine⟨_,(zk (cy (cO iG (pv 0) zp (cK _)) (zk (cy (mw (ly (b9 (JG T) (hr.mono (by decide)) (by rfl) (za (pv 1) zh)))) (zv mz) cQ)
    (zv (cH (pv 1)))) cQ)
   (zk (bQ (i:=3) cD.nd rfl (Or.inl rfl) (b9 (JI T) (hr.mono (by decide)) (by rfl) (za (pv 1) zh)))
   (zk (cy (PW.pt (rA (lq (uI (pv 3))) (vM (PW.pt (qd (cO iG (pv 0) zp (cK _)) (qc (cO rM (pv 3) zr (cK _)))))))) (zv mz) cQ)
   (zv (cH (pv 3)))))),?_⟩
  cases hv with
  | name h=>
   rename_i x;have lx:=mE h;refine⟨_,rfl,rfl,_,rfl,?_⟩;rw[decide_eq_true rfl];refine br ⟨_,rfl,x,rfl,by omega,fun H1 s1=>⟨_,rfl,?_⟩⟩;rw[h];exact aB ⟨_,rfl,k _ s1⟩
  | year h=>
   rename_i n;obtain⟨o1,o2,o3⟩:gT (aR (.int n))=true/\gp (aR (.int n))=n/\(aR (.int n)).length<=61:=tw n h;refine⟨_,rfl,rfl,_,rfl,?_⟩;rw[mK (by decide +kernel)];refine aB ⟨_,rfl,_,rfl,by omega,fun H1 s1=>?_⟩;rw[AV o1,o2];refine⟨_,rfl,_,rfl,?_⟩;rw[decide_eq_false (fun z=>nomatch z)];refine aB ⟨_,rfl,rfl,_,rfl,?_⟩;rw[mK (by decide +kernel)];exact aB (aB ⟨_,rfl,k _ s1⟩)
  | gap h0 h=>
   rename_i n;obtain⟨o1,o2,o3⟩:gT (aR (.int n))=true/\gp (aR (.int n))=n/\(aR (.int n)).length<=61:=tw n h;refine⟨_,rfl,rfl,_,rfl,?_⟩;rw[mK (by decide +kernel)];refine aB ⟨_,rfl,_,rfl,by omega,fun H1 s1=>?_⟩;rw[AV o1,o2];refine⟨_,rfl,_,rfl,?_⟩;rw[decide_eq_false (fun z=>nomatch z)];refine aB ⟨_,rfl,rfl,_,rfl,?_⟩;rw[decide_eq_true rfl];refine br ⟨_,rfl,_,_,rfl,rfl,_,rfl,?_⟩;rw[decide_eq_false (by omega)];exact aB ⟨_,rfl,k _ s1⟩
structure qL (ws:List V) (kd:Str) (ks:List Str) (vs:List V):Prop where
 eq:ws = .str kd::vs
 l6:(kd,ks.map V.str)∈ai
 vals:Paired dH ks vs
 JN:(Str.ofString "year" : Str)∈ks->∃pre lo hi,vs=pre++[.int lo,.int hi]/\lo<=hi
theorem Vn {ws:List V}(h:aS ws):∃kd ks vs,qL ws kd ks vs:=by
 cases h with
 | dig hl h1 h2=>exact⟨"dig",["year","year"],_,rfl,by simp[ai],.cons (.year h1) (.cons (.year h2) .nil),fun _=>⟨[],_,_,rfl,hl⟩⟩
 | unit hx=>exact⟨"unit",["name"],_,rfl,by simp[ai],.cons (.name hx) .nil,fun z=>absurd z (by decide +kernel)⟩
 | plain hk hx hy=>
  rename_i kd x y;refine⟨kd,["name","name"],_,rfl,?_,.cons (.name hx) (.cons (.name hy) .nil),fun z=>absurd z (by decide +kernel)⟩;unfold lT at hk;simp only [List.mem_cons,List.not_mem_nil,or_false] at hk;rcases hk with rfl | rfl | rfl | rfl<;>simp[ai]
 | after hx hy h0 h1=>exact⟨"after",["name","name","gap"],_,rfl,by simp[ai],.cons (.name hx) (.cons (.name hy) (.cons (.gap h0 h1) .nil)),fun z=>absurd z (by decide +kernel)⟩
 | find hn hx hl h1 h2=>exact⟨"find",["name","name","year","year"],_,rfl,by simp[ai],.cons (.name hn) (.cons (.name hx) (.cons (.year h1) (.cons (.year h2) .nil))),fun _=>⟨[.str _,.str _],_,_,rfl,hl⟩⟩
theorem DH {kd:Str}{v:V}(h:dH kd v):pJ (.str kd) (.str (aR v))=v:=by
 cases h with
 | name h=>
  rename_i x;show (if (Str.ofString "name" : Str)=Str.ofString "name" then V.str x else V.int (gp x))=V.str x;exact if_pos rfl
 | year h=>
  rename_i n;show (if (Str.ofString "year" : Str)=Str.ofString "name" then V.str (aR (.int n)) else V.int (gp (Str.ofString (toString n))))=V.int n;rw[if_neg (by decide +kernel),(tw _ h).2.1]
 | gap h0 h=>
  rename_i n;show (if (Str.ofString "gap" : Str)=Str.ofString "name" then V.str (aR (.int n)) else V.int (gp (Str.ofString (toString n))))=V.int n;rw[if_neg (by decide +kernel),(tw _ h).2.1]
theorem DI:∀{ks:List Str}{vs:List V},Paired dH ks vs->List.zipWith pJ (ks.map V.str) (vs.map fun v=>V.str (aR v))=vs
 | _,_,.nil=>rfl
 | _,_,.cons h t=>by rw[List.map_cons,List.map_cons,List.zipWith_cons_cons,DH h,DI t]
theorem JO:∀x∈ai,x.2.length<=4:=by decide +kernel
theorem Vo:∀x∈ai,x.2≠[]:=by decide +kernel
theorem JP {kd:Str}{ks:List V}(h:(kd,ks)∈ai):decide (kd∈ai.map (·.1))=true:=decide_eq_true (List.mem_map.mpr ⟨_,h,rfl⟩)
def JQ:Sp:=fun vs H Q _=>∃(a:Addr) (ws:List V) (r:V),vs = [.ref a,r]/\ak K H a (ws.map fun v=>V.str (aR v))/\aS ws/\∀(p:Addr) (H':Hp),H p=none->H' p=some (.tup ws)->aa H H'->Q (.ref p) H'
def JR:Sp:=fun vs H Q _=>∃(ad a:Addr) (kd:Str) (ks:List Str) (us:List V) (r:V),vs = [.ref ad,.ref a,r]/\(∀H',aD K H' ad (ks.map V.str))/\ak K H a ((V.str kd::us).map fun v=>V.str (aR v))/\
 qL (V.str kd::us) kd ks us/\∀(p:Addr) (H':Hp),H p=none->H' p=some (.tup (.str kd::us))->aa H H'->Q (.ref p) H'
theorem Vp {ks:List Str}(h:∀x∈ks,x.length<=100):∀v∈ks.map V.str,Wd v:=by
 intro v hv;obtain⟨x,hx,rfl⟩:=List.mem_map.mp hv;exact .inl ⟨x,rfl,h x hx⟩
theorem JS:∀x∈ai,∀v∈x.2,∀y,v=V.str y->y.length<=100:=by
 intro x hx v hv y e;subst e;simp[ai] at hx;rcases hx with rfl | rfl | rfl | rfl | rfl | rfl | rfl | rfl<;>simp at hv<;>(rcases hv with rfl | rfl)<;>decide +kernel
set_option maxHeartbeats 4000000 in
theorem JT (T:Tx K mg w C_Reading zo zi zn ze zb zf zc zg zad zw zae zx zaf zy):fh P w K mg base "read_form" ["form","words","row"] 4 (JR (K:=K)):=by
 refine T.Ji.has cM (fun vs H Q E h=>?_) (fun f ay A outer s H vs Q E hr h=>?_)
 ·obtain⟨ad,a,kd,ks,us,r,rfl,_⟩:=h;rfl
 ·obtain⟨ad,a,kd,ks,vs,r,rfl,kt,ha,⟨_,hf,hv,hy⟩,k⟩:=h;refine⟨_,(zk (cy (cO qf (cW (jb K rfl) (by rfl) T.len boot_len (za (pv 1) zh)) (ao jG (cW (jb K rfl) (by rfl) T.len boot_len (za (pv 0) zh)) zr) (cK _)) (zv mz) cQ)
   (zk (sE (i:=3) (own:=["kind","word"]) (cap:=["row"]) (ix:=[2]) (jV:=zm (top 28)) rfl cM.nd rfl rfl rfl ⟨rfl,by decide +kernel,by decide +kernel,by decide +kernel,by decide +kernel⟩ rfl (GN K rfl true false (by rfl) T.zip (za (pv 0) (za (jT (sI K rfl) (pv 1) (jK zr) kh) zh))) (fun _ _ _ _=>sL (n:=2) K rfl rfl (j9 (d9 (i:=0) (show List.Nodup (["kind","word","row"]:List Str) by decide +kernel) rfl (Or.inl rfl)) (j9 (d9 (i:=1) (show List.Nodup (["kind","word","row"]:List Str) by decide +kernel) rfl (Or.inl rfl)) rF))) (fun _ _ _ _=>m8) (fun _ _ _ _=>(b9 (JM T) (hr.mono (by decide)) (by rfl) (za (pv 0) (za (pv 1) (za (pv 2) zh))))))
   (zk (cy (PW.pt (qd (cO (sJ K rfl (jX hr)) (jT (Ir (K:=K) rfl) (pv 0) (jK (oN oR zr)) kh) (dJ (za zp (za zp zh))) (cK _)) (qc (cO Fe (bI (cT K rfl) (pv 3) (oN oR zr) (fun _ _=>rfl)) (bI (cT K rfl) (pv 3) (oN oR zr) (fun _ _=>rfl)) (cK _))))) (zv mz) cQ)
   (zv (cH (ao (n9 K rfl) (dJ (za (bI (cT K rfl) (pv 1) zr (fun _ _=>rfl)) zh)) (nX (Cv K rfl) (by rfl) T.tuple PyProof.Rows.boot_tuple (za (pv 3) zh)))))))),?_⟩
  have hl:ks.length=vs.length:=Paired.length hv;have h4:=JO _ hf;have h4:ks.length<=4:=by simpa using h4
  have zU:∀x∈ks,x.length<=100:=fun x hx=>JS _ hf (.str x) (List.mem_map.mpr ⟨x,hx,rfl⟩) x rfl
  refine⟨_,rfl,a,_,rfl,.inl ha,_,rfl,ad,_,rfl,.inr (kt H),_,_,rfl,rfl,rfl,_,rfl,?_⟩;rw[decide_eq_true (by simp only [List.length_map,List.length_cons];congr 1;omega)];refine aB ?_;refine⟨_,rfl,_,rfl,_,rfl,a,_,rfl,ha,fun p hp=>?_⟩;have s1:=aa.new (o:=.lst (bN ((V.str kd::vs).map fun v=>V.str (aR v)) (some 1) none)) hp;have e1:upd H p (.lst (bN ((V.str kd::vs).map fun v=>V.str (aR v)) (some 1) none)) p=some (.lst (vs.map fun v=>V.str (aR v))):=by rw[zd,List.map_cons,qm]
  generalize upd H p (.lst (bN ((V.str kd::vs).map fun v=>V.str (aR v)) (some 1) none))=H1 at s1 e1;refine⟨ad,p,_,_,rfl,kt H1,ak.of e1,fun D hD=>?_⟩;refine GK (xs:=ks.map V.str) (ys:=vs.map fun v=>V.str (aR v)) pJ hD (fun H' s=>kt H') (fun H' s=>s.seq (ak.of e1)) (by simp only [List.length_map];exact hl) (cU (by rw[List.length_map];omega)) (fun i x y ex ey H' Q' s hQ=>?_) (fun H2 s2 l7=>?_)
  ·rw[List.getElem?_map] at ex ey;cases ek:ks[i]? with
   | none=>rw[ek] at ex;cases ex
   | some tX=>
    obtain⟨v,ev,ym⟩:=Paired.get' hv ek;rw[ek] at ex;rw[ev] at ey;cases ex;cases ey;rw[DH ym] at hQ;exact⟨_,rfl,_,rfl,_,rfl,tX,v,r,rfl,ym,hQ⟩
  rw[DI hv] at l7;have q2:=s1.trans s2;dsimp only [bM];refine sM false (fun Q' hQ=>?_) (fun H3 t3=>aB ?_)
  ·have yr:(Str.ofString "year" : Str).length<=100:=by decide +kernel
   have wy:∀v∈[V.str "year",V.str "year"],Wd v:=fun v hv=>by
    simp at hv;subst hv;exact .inl ⟨_,rfl,yr⟩
   have fin:∀(t:Addr) (zs:List V) (H4:Hp),aa H2 H4->aD K H4 t zs->(∀z∈zs,z∈ks.map V.str)->∀p2,H4 p2=none->∃b,b8 K (upd H4 p2 (.tup [.str "year",.str "year"])) 8 (.ref t) (.ref p2) b/\(b=true->(Str.ofString "year" : Str)∈ks):=by
    intro t zs H4 s4 ht hz p2 gQ;have wz:∀v∈zs,Wd v:=fun v hv=>Vp zU v (hz v hv)
    refine⟨_,b8.iK (n:=7) ((aa.new gQ).tup ht) (aD.of zd) (fun x hx=>(wz x hx).flat) (fun x hx=>(wy x hx).flat),fun z=>?_⟩;rw[Hr wz wy] at z;have z:=of_decide_eq_true z;have:=hz (.str "year") (by rw[z];simp);obtain⟨x,hx,e⟩:=List.mem_map.mp this;have e:=V.str.inj e;subst e;exact hx
   refine⟨_,rfl,_,rfl,_,rfl,ad,_,rfl,kt H2,fun hw=>?W,fun hw p9 yo=>?C⟩
   case' W=>
    obtain⟨t,et⟩:∃t,t=ad:=⟨_,rfl⟩;obtain⟨H4,eH⟩:∃H4,H4=H2:=⟨_,rfl⟩;have s4:aa H2 H4:=by rw[eH];exact (aa.refl _)
    have qM:=s4 _ _ l7;have fin:=fin t (ks.map V.str) H4 s4 (by rw[et];exact kt H4) (fun z h=>h);rw[←eH,←et]
   case' C=>
    have s4:aa H2 (upd H2 p9 (.tup (bN (ks.map V.str) (some (-2)) none))):=aa.new yo;have e4:upd H2 p9 (.tup (bN (ks.map V.str) (some (-2)) none)) p9=some (.tup (bN (ks.map V.str) (some (-2)) none)):=zd;obtain⟨t,et⟩:∃t,t=p9:=⟨_,rfl⟩;rw[←et];rw[←et] at e4 s4;generalize upd H2 t (.tup (bN (ks.map V.str) (some (-2)) none))=H4 at s4 e4;have qM:=s4 _ _ l7;have fin:=fin t _ H4 s4 (aD.of e4) (fun z h=>List.mem_of_mem_drop (List.mem_of_mem_take h))
   all_goals
    refine⟨(by show 2<=sizeLine;decide),fun p2 gQ=>?_⟩;obtain⟨b,hb,xw⟩:=fin p2 gQ;have t5:=aa.new (o:=.tup [.str "year",.str "year"]) gQ;refine⟨t,p2,b,rfl,rfl,hb,_,rfl,?_⟩;refine dO (fun c=>?_) (fun c=>hQ _ (s4.trans t5));obtain⟨pre,lo,hi,rfl,o8⟩:=hy (xw c);have mL:=t5 _ _ qM;refine⟨_,rfl,_,rfl,D,_,_,_,rfl,rfl,ak.of mL,HL _ _ _,_,rfl,_,rfl,D,_,_,_,rfl,rfl,ak.of mL,HM _ _ _,_,_,rfl,rfl,_,rfl,?_⟩;rw[decide_eq_false (by omega)];exact hQ _ (s4.trans t5)
  have nJ:=t3 _ _ l7;have q3:=q2.trans t3;refine⟨_,rfl,a,_,_,_,rfl,rfl,q3.seq ha,gI,(by show 1<=sizeLine;decide),fun p1 j6=>?_⟩;have s3:=aa.new (o:=.tup [.str kd]) j6;refine⟨_,rfl,D,_,rfl,.inl ⟨ak.of (s3 _ _ nJ),fun p2 gQ=>?_⟩⟩;have s4:=s3.trans (aa.new (o:=.tup vs) gQ);refine⟨p1,p2,_,_,rfl,rfl,aD.of (aa.new gQ _ _ zd),aD.of zd,by simp,cU (by show 1+vs.length<=1000;omega),fun z=>?_,fun _ p3 jA=>?_⟩
  ·subst z;have:ks = []:=List.length_eq_zero_iff.mp (by simpa using hl);subst this;exact (Vo _ hf rfl).elim
  ·exact k p3 _ ((q3.trans s4).free jA) zd ((q3.trans s4).trans (aa.new jA))
theorem JU (T:Tx K mg w C_Reading zo zi zn ze zb zf zc zg zad zw zae zx zaf zy):fh P w K mg base "read_entry" ["words","row"] 5 (JQ (K:=K)):=by
 refine T.Jh.has Jm (fun vs H Q E h=>?_) (fun f ay A outer s H vs Q E hr h=>?_)
 ·obtain⟨a,ws,r,rfl,_⟩:=h;rfl
 ·obtain⟨a,ws,r,rfl,ha,hw,k⟩:=h;obtain⟨pQ,gx,gy⟩:=T.Jl;refine⟨_,(zk (cy (lq (GG gy (by rfl) gx (bI (cT K rfl) (pv 0) zr (fun _ _=>rfl)))) (zv mz) cQ)
   (zv (cH (b9 (JT T) (hr.mono (by decide)) (by rfl) (za (GH gy (by rfl) gx (bI (cT K rfl) (pv 0) zr (fun _ _=>rfl)) (fun _ _=>rfl)) (za (pv 0) (za (pv 1) zh))))))),?_⟩
  obtain⟨kd,ks,vs,ent⟩:=Vn hw;have hf:=ent.l6;have ew:=ent.eq;subst ew;refine⟨_,rfl,a,_,_,_,rfl,rfl,ha,gI,kd,rfl,_,rfl,?_⟩;rw[JP hf];refine aB ?_;refine⟨_,rfl,a,_,_,_,rfl,rfl,ha,gI,kd,_,rfl,hf,fun ad kt=>?_⟩;exact⟨_,rfl,_,rfl,ad,a,kd,ks,vs,r,rfl,fun H'=>kt.sq H',ha,ent,k⟩
def Vq:Sp:=fun vs H Q _=>∃(p dx:Addr),vs = [.ref p]/\H p=some (.ins C_Reading dx [])/\∀(du dt df:Addr) (H':Hp),H du=none->H dt=none->H df=none->aK C_Reading H' p du dt df ⟨none,[],[],[]⟩->(∀b o,H b=some o->b≠p->H' b=some o)->Q .aL H'
theorem JV (T:Tx K mg w C_Reading zo zi zn ze zb zf zc zg zad zw zae zx zaf zy):cP P w K mg base C_Reading "__init__" ["self"] 1 (Vq (C_Reading:=C_Reading)):=by
 refine T.Ri.has UL (fun vs H Q E h=>?_) (fun f ay A outer s H vs Q E hr h=>?_)
 ·obtain⟨p,dx,rfl,_⟩:=h;rfl
 ·obtain⟨p,dx,rfl,hp,k⟩:=h;refine⟨_,(zk (uQ (pv 0) vK rfl)
   (zk (uQ (pv 0) FU rfl)
   (zk (uQ (pv 0) M6 rfl)
   (zv (uQ (pv 0) FU rfl))))),?_⟩
  refine⟨_,rfl,p,C_Reading,dx,[],rfl,hp,T.dz,T.tU,(by show 0<1000;decide),?_⟩;intro du JW;have n1:p≠du:=cI zd JW;refine⟨_,rfl,p,C_Reading,dx,_,rfl,by rw[aJ n1,zd],T.dz,T.tV,(by show 1<1000;decide),?_⟩;intro dt tQ;have n2:p≠dt:=cI zd tQ;refine⟨_,rfl,p,C_Reading,dx,_,rfl,by rw[aJ n2,zd],T.dz,T.ye,?_,?_⟩
  ·exact Nat.lt_of_le_of_lt (vX _ _ _) (by show 1+1<1000;decide)
  intro df mD;have n3:p≠df:=cI zd mD;refine⟨_,rfl,p,C_Reading,dx,_,rfl,by rw[aJ n3,zd],T.dz,T.yf,?_,?_⟩
  ·exact Nat.lt_of_le_of_lt (vX _ _ _) (Nat.lt_of_le_of_lt (Nat.succ_le_succ (vX _ _ _)) (by show 1+1+1<1000;decide))
  have a0:∀{b:Addr}{o:HO}{G:Hp},upd G p o b=none->b≠p->G b=none:=fun h n=>by rwa [aJ n] at h
  have f1:H du=none:=a0 JW n1.symm;have e1:upd (upd (upd H p (.ins C_Reading dx (bz "frame" .aL []))) du (.dK [])) p (.ins C_Reading dx (bz "units" (.ref du) (bz "frame" .aL []))) du=some (.dK []):=by rw[aJ n1.symm,zd]
  have qJ:du≠dt:=cI e1 tQ;have f2:H dt=none:=by
   have:=a0 tQ n2.symm;rw[aJ qJ.symm] at this;exact a0 this n2.symm
  have e2:=cI (H:=upd (upd (upd (upd (upd H p (.ins C_Reading dx (bz "frame" .aL []))) du (.dK [])) p (.ins C_Reading dx (bz "units" (.ref du) (bz "frame" .aL [])))) dt (.dT [])) p (.ins C_Reading dx (bz "ties" (.ref dt) (bz "units" (.ref du) (bz "frame" .aL []))))) (a:=dt) (b:=df) (o:=.dT []) (by rw[aJ n2.symm,zd]) mD;have e3:=cI (H:=upd (upd (upd (upd (upd H p (.ins C_Reading dx (bz "frame" .aL []))) du (.dK [])) p (.ins C_Reading dx (bz "units" (.ref du) (bz "frame" .aL [])))) dt (.dT [])) p (.ins C_Reading dx (bz "ties" (.ref dt) (bz "units" (.ref du) (bz "frame" .aL []))))) (a:=du) (b:=df) (o:=.dK []) (by rw[aJ n1.symm,aJ qJ,e1]) mD;have f3:H df=none:=by
   have:=a0 mD n3.symm;rw[aJ e2.symm] at this;have:=a0 this n3.symm;rw[aJ e3.symm] at this;exact a0 this n3.symm
  refine k du dt df _ f1 f2 f3 ⟨⟨dx,.aL,?_,rfl⟩,?_,?_,⟨[],.nil,?_⟩,e3,(fun _ h=>nomatch h),(fun _ h=>nomatch h)⟩ fun b o e hb=>?_
  ·rw[zd,Ph]
  ·rw[aJ n1.symm,aJ e3,aJ n1.symm,aJ qJ,e1];rfl
  ·rw[aJ n2.symm,aJ e2,aJ n2.symm,zd];rfl
  ·rw[aJ n3.symm,zd];rfl
  ·rw[aJ hb,aJ (cI e f3),aJ hb,aJ (cI e f2),aJ hb,aJ (cI e f1),aJ hb];exact e
def DJ:Sp:=fun vs H Q _=>∃(p du dt df:Addr) (s:RS) (x:Str) (r:V),vs = [.ref p,.str x,r]/\aK C_Reading H p du dt df s/\x∈s.us/\Q .aL H
theorem JX (T:Tx K mg w C_Reading zo zi zn ze zb zf zc zg zad zw zae zx zaf zy):bB P w K mg base bJ C_Reading "need_unit" ["self","name","row"] 3 (DJ (C_Reading:=C_Reading)):=by
 refine T.IQ.jk Jt (fun vs H Q E h=>?_) (fun f ay A outer s H vs Q E hr h=>?_)
 ·obtain⟨p,du,dt,df,st,x,r,rfl,_⟩:=h;rfl
 ·obtain⟨p,du,dt,df,st,x,r,rfl,R,hx,k⟩:=h;have hu:=qi hr;refine⟨_,(zv (cy (lq (FT hu (pv 1) (iY (pv 0) rfl))) (zv mz) cQ)),?_⟩;obtain⟨dx,fv,h1,_⟩:=R.ob;refine⟨_,rfl,_,rfl,p,C_Reading,dx,_,_,rfl,h1,T.dz,T.tV,vn _ _ _ _,du,_,rfl,eZ.k (k:=Sum.inr x) R.u,_,rfl,?_⟩;rw[Au (iN.mpr hx)];exact aB k
theorem DK (T:Tx K mg w C_Reading zo zi zn ze zb zf zc zg zad zw zae zx zaf zy):cP P w K mg base C_Reading "need_unit" ["self","name","row"] 3 (DJ (C_Reading:=C_Reading)):=(JX T).m
theorem Vr {H:Hp}{p du dt df:Addr}{s:RS}{x:Str}(R:aK C_Reading H p du dt df s) (hx:bq x=true) (hn:x ∉ s.us):aK C_Reading (upd H du (.dK (putK (dU s.us) (Sum.inr x:Key) (.bl true)))) p du dt df ⟨s.fr,s.us++[x],s.ts,s.fs⟩:=by
 obtain⟨dx,fv,h1,h2⟩:=R.ob;obtain⟨af,ht,hf⟩:=R.f;have st:∀b xs,H b=some (.tup xs)->upd H du (.dK (putK (dU s.us) (Sum.inr x:Key) (.bl true))) b=some (.tup xs):=fun b xs e=>by
  rw[aJ (j8 e R.u (by intro z;cases z))];exact e
 rw[Pn hn] at st ⊢;refine⟨⟨dx,fv,?_,h2.bH st⟩,zd,?_,⟨af,ht.bH st,?_⟩,R.nu,fun y hy=>?_,R.fj⟩
 ·rw[aJ (j8 h1 R.u (by intro z;cases z))];exact h1
 ·rw[aJ (j8 R.t R.u (by intro z;cases z))];exact R.t
 ·rw[aJ R.nu.symm];exact hf
 ·rcases List.mem_append.mp hy with hy | hy
  ·exact R.names y hy
  ·rw[List.mem_singleton] at hy;subst hy;exact hx
theorem DL {n:Nat}(h:n<=1000):n<sizeLine:=pe h
def DM:Sp:=fun vs H Q _=>∃(p du dt df:Addr) (s:RS) (x:Str) (r:V),vs = [.ref p,.str x,r]/\aK C_Reading H p du dt df s/\bq x=true/\x ∉ s.us/\s.us.length<=1000/\
 ∀H',aK C_Reading H' p du dt df ⟨s.fr,s.us++[x],s.ts,s.fs⟩->cX H H' p du dt df->Q .aL H'
theorem JY (T:Tx K mg w C_Reading zo zi zn ze zb zf zc zg zad zw zae zx zaf zy):bB P w K mg base bJ C_Reading "take_unit" ["self","name","row"] 3 (DM (C_Reading:=C_Reading)):=by
 refine T.IL.jk Jq (fun vs H Q E h=>?_) (fun f ay A outer s H vs Q E hr h=>?_)
 ·obtain⟨p,du,dt,df,st,x,r,rfl,_⟩:=h;rfl
 ·obtain⟨p,du,dt,df,st,x,r,rfl,R,hx,hn,hl,k⟩:=h;have hu:=qi hr;refine⟨_,(zk (cy (lq (uT hu (pv 1) (iY (pv 0) rfl))) (zv mz) cQ)
   (zv (uU hu (iY (pv 0) rfl) (pv 1) mq rfl))),?_⟩
  obtain⟨dx,fv,h1,_⟩:=R.ob;refine⟨_,rfl,_,rfl,p,C_Reading,dx,_,_,rfl,h1,T.dz,T.tV,vn _ _ _ _,du,_,rfl,eZ.k (k:=Sum.inr x) R.u,_,rfl,?_⟩;rw[tN (fun z=>hn (iN.mp z))];refine aB ⟨_,rfl,p,C_Reading,dx,_,_,rfl,h1,T.dz,T.tV,vn _ _ _ _,_,rfl,du,_,rfl,jt.k (k:=Sum.inr x) R.u ?_,?_⟩
  ·unfold dU;rw[List.length_map];exact DL hl
  ·exact k _ (Vr R hx hn) fun b o e b1 b2 b3 b4=>by rw[aJ b2];exact e
theorem Vs (T:Tx K mg w C_Reading zo zi zn ze zb zf zc zg zad zw zae zx zaf zy):cP P w K mg base C_Reading "take_unit" ["self","name","row"] 3 (DM (C_Reading:=C_Reading)):=(JY T).m
def DN:Sp:=fun vs H Q _=>∃(p du dt df a:Addr) (s:RS) (ws:List V) (r:V),vs = [.ref p,.ref a,r]/\aK C_Reading H p du dt df s/\H a=some (.tup ws)/\bS s.us ws/\ws ∉ s.ts/\s.ts.length<=1000/\
 ∀H',aK C_Reading H' p du dt df ⟨s.fr,s.us,s.ts++[ws],s.fs⟩->cX H H' p du dt df->Q .aL H'
theorem Vt {H:Hp}{p du dt df:Addr}{s:RS}{ws:List V}(R:aK C_Reading H p du dt df s) (hw:∀v∈ws,Wd v) (hn:ws ∉ s.ts):aK C_Reading (upd H dt (.dT (putK (oj s.ts) (ws.map kW) (.bl true)))) p du dt df ⟨s.fr,s.us,s.ts++[ws],s.fs⟩:=by
 obtain⟨dx,fv,h1,h2⟩:=R.ob;obtain⟨af,ht,hf⟩:=R.f;have st:∀b xs,H b=some (.tup xs)->upd H dt (.dT (putK (oj s.ts) (ws.map kW) (.bl true))) b=some (.tup xs):=fun b xs e=>by
  rw[aJ (j8 e R.t (by intro z;cases z))];exact e
 rw[Po R.fj hw hn] at st ⊢;refine⟨⟨dx,fv,?_,h2.bH st⟩,?_,zd,⟨af,ht.bH st,?_⟩,R.nu,R.names,fun y hy=>?_⟩
 ·rw[aJ (j8 h1 R.t (by intro z;cases z))];exact h1
 ·rw[aJ (j8 R.u R.t (by intro z;cases z))];exact R.u
 ·rw[aJ (j8 hf R.t (by intro z;cases z))];exact hf
 ·rcases List.mem_append.mp hy with hy | hy
  ·exact R.fj y hy
  ·rw[List.mem_singleton] at hy;subst hy;exact hw
theorem JZ {us:List Str}{ws:List V}(h:bS us ws):∃kd x y,x∈us/\y∈us/\fG ws 0=some (.str kd)/\fG ws 1=some (.str x)/\fG ws 2=some (.str y)/\kd ∉ ([Str.ofString "dig",Str.ofString "unit",Str.ofString "find"]:List Str):=by
 cases h with
 | plain hk hx hy=>
  refine⟨_,_,_,hx,hy,rfl,rfl,rfl,?_⟩;unfold lT at hk;simp only [List.mem_cons,List.not_mem_nil,or_false] at hk;rcases hk with rfl | rfl | rfl | rfl<;>decide +kernel
 | after hx hy h0 h1=>exact⟨_,_,_,hx,hy,rfl,rfl,rfl,by decide +kernel⟩
theorem J0 (T:Tx K mg w C_Reading zo zi zn ze zb zf zc zg zad zw zae zx zaf zy):bB P w K mg base bJ C_Reading "take_tie" ["self","tie","row"] 4 (DN (C_Reading:=C_Reading)):=by
 refine T.IM.jk Jr (fun vs H Q E h=>?_) (fun f ay A outer s H vs Q E hr h=>?_)
 ·obtain⟨p,du,dt,df,a,st,ws,r,rfl,_⟩:=h;rfl
 ·obtain⟨p,du,dt,df,a,st,ws,r,rfl,R,ha,ht,hn,hl,k⟩:=h;have hu:=qi hr;refine⟨_,(zk (cy (lq (uT hu (pv 1) (iY (pv 0) rfl))) (zv mz) cQ)
   (zk (gX (qt (DK T) T.dz (hr.mono (by decide)) (pv 0) (za (bI (gH K rfl) (pv 1) zr (fun _ _=>rfl)) (za (pv 2) zh))))
   (zk (gX (qt (DK T) T.dz (hr.mono (by decide)) (pv 0) (za (bI (gH K rfl) (pv 1) zr (fun _ _=>rfl)) (za (pv 2) zh))))
   (zv (uU hu (iY (pv 0) rfl) (pv 1) mq rfl))))),?_⟩
  obtain⟨dx,fv,h1,_⟩:=R.ob;have hw:=(ht.words R.names).1;have AX:H a=some (.tup ((ws.map kW).map kV)):=by rw[xM hw];exact ha
  obtain⟨kd,x,y,hx,hy,i0,i1,i2,_⟩:=JZ ht;refine⟨_,rfl,_,rfl,p,C_Reading,dx,_,_,rfl,h1,T.dz,T.ye,Aw _ _ _ _,dt,_,rfl,eZ.t R.t AX,_,rfl,?_⟩;rw[tN (fun z=>hn ((Az R.fj hw).mp z))];refine aB ⟨_,rfl,p,dx,_,rfl,h1,jL _ _ _ _ (by decide +kernel),_,rfl,a,_,_,_,rfl,rfl,aD.of ha,i1,_,rfl,p,du,dt,df,st,x,r,rfl,R,hx,?_⟩;refine⟨_,rfl,p,dx,_,rfl,h1,jL _ _ _ _ (by decide +kernel),_,rfl,a,_,_,_,rfl,rfl,aD.of ha,i2,_,rfl,p,du,dt,df,st,y,r,rfl,R,hy,?_⟩;refine⟨_,rfl,p,C_Reading,dx,_,_,rfl,h1,T.dz,T.ye,Aw _ _ _ _,_,rfl,dt,_,rfl,jt.t R.t AX ?_,?_⟩
  ·unfold oj;rw[List.length_map];exact DL hl
  ·exact k _ (Vt R hw hn) fun b o e b1 b2 b3 b4=>by rw[aJ b3];exact e
theorem Vu (T:Tx K mg w C_Reading zo zi zn ze zb zf zc zg zad zw zae zx zaf zy):cP P w K mg base C_Reading "take_tie" ["self","tie","row"] 4 (DN (C_Reading:=C_Reading)):=(J0 T).m
def DO:Sp:=fun vs H Q _=>∃(p du dt df a:Addr) (s:RS) (ws:List V) (r:V),vs = [.ref p,.ref a,r]/\aK C_Reading H p du dt df s/\H a=some (.tup ws)/\jx s.us s.fs ws/\(∀f∈s.fs,∃x r,f=V.str x::r)/\s.fs.length<=1000/\
 ∀H',aK C_Reading H' p du dt df ⟨s.fr,s.us,s.ts,s.fs++[ws]⟩->cX H H' p du dt df->Q .aL H'
theorem J1 (T:Tx K mg w C_Reading zo zi zn ze zb zf zc zg zad zw zae zx zaf zy):bB P w K mg base bJ C_Reading "take_find" ["self","find","row"] 4 (DO (C_Reading:=C_Reading)):=by
 refine T.IP.jk Js (fun vs H Q E h=>?_) (fun f ay A outer s H vs Q E hr h=>?_)
 ·obtain⟨p,du,dt,df,a,st,ws,r,rfl,_⟩:=h;rfl
 ·obtain⟨p,du,dt,df,a,st,ws,r,rfl,R,ha,ht,jy,hl,k⟩:=h;have hu:=qi hr;refine⟨_,(zk (cy (lq (uT hu (bI (gH K rfl) (pv 1) zr (fun _ _=>rfl)) (iY (pv 0) rfl))) (zv mz) cQ)
   (zk (gX (qt (DK T) T.dz (hr.mono (by decide)) (pv 0) (za (bI (gH K rfl) (pv 1) zr (fun _ _=>rfl)) (za (pv 2) zh))))
   (zv (uU hu (iY (pv 0) rfl) (bI (gH K rfl) (pv 1) zr (fun _ _=>rfl)) (pv 1) rfl)))),?_⟩
  obtain⟨dx,fv,h1,h2⟩:=R.ob;obtain⟨af,ou,hf⟩:=R.f;cases ht with
  | mk hn hx o8 y1 y2 fR=>
   rename_i nm x lo hi;obtain⟨e1,e2⟩:=HQ (p:=a) (ws:=[.str nm,.str x,.int lo,.int hi]) ou.len fR ⟨_,rfl⟩ jy;refine⟨_,rfl,a,_,_,_,rfl,rfl,aD.of ha,rfl,_,rfl,p,C_Reading,dx,_,_,rfl,h1,T.dz,T.yf,Ax _ _ _ _,df,_,rfl,eZ.k (k:=Sum.inr nm) hf,_,rfl,?_⟩;rw[e1];refine aB ⟨_,rfl,p,dx,_,rfl,h1,jL _ _ _ _ (by decide +kernel),_,rfl,a,_,_,_,rfl,rfl,aD.of ha,rfl,_,rfl,p,du,dt,df,st,x,r,rfl,R,hx,?_⟩;refine⟨_,rfl,_,rfl,p,C_Reading,dx,_,_,rfl,h1,T.dz,T.yf,Ax _ _ _ _,_,rfl,a,_,_,_,rfl,rfl,aD.of ha,rfl,df,_,rfl,jt.k (k:=Sum.inr nm) hf ?_,?_⟩
   ·unfold dF;rw[List.length_zip,List.length_map];exact DL (Nat.le_trans (Nat.min_le_left _ _) hl)
   ·have iX:∀b xs,H b=some (.tup xs)->upd H df (.dK (putK (dF st.fs af) (Sum.inr nm:Key) (.ref a))) b=some (.tup xs):=fun b xs e=>by
     rw[aJ (j8 e hf (by intro z;cases z))];exact e
    refine k _ ⟨⟨dx,fv,?_,h2.bH iX⟩,?_,?_,⟨af++[a],(ou.bH iX).snoc (iX _ _ ha),?_⟩,R.nu,R.names,R.fj⟩ fun b o e b1 b2 b3 b4=>by rw[aJ b4];exact e
    ·rw[aJ (j8 h1 hf (by intro z;cases z))];exact h1
    ·rw[aJ R.nu];exact R.u
    ·rw[aJ (j8 R.t hf (by intro z;cases z))];exact R.t
    ·rw[zd,e2]
theorem Vv (T:Tx K mg w C_Reading zo zi zn ze zb zf zc zg zad zw zae zx zaf zy):cP P w K mg base C_Reading "take_find" ["self","find","row"] 4 (DO (C_Reading:=C_Reading)):=(J1 T).m
def yp (s:RS):Prop:=(∀f∈s.fs,∃x r,f=V.str x::r)/\s.us.length<=1000/\s.ts.length<=1000/\s.fs.length<=1000
def DP:Sp:=fun vs H Q _=>∃(p du dt df a:Addr) (s s':RS) (ws:List V) (r:V),vs = [.ref p,.ref a,r]/\aK C_Reading H p du dt df s/\H a=some (.tup ws)/\bV s ws s'/\yp s/\
 ∀H',aK C_Reading H' p du dt df s'->cX H H' p du dt df->Q .aL H'
theorem yq {a b:String}(h:(Str.ofString a:Str)=Str.ofString b):decide (V.str (Str.ofString a)=V.str (Str.ofString b))=true:=decide_eq_true (congrArg V.str h)
theorem pR {x:V}{xs:List V}:¬(HT.bA (x::xs).length 0 (some 1)=0/\HT.bA (x::xs).length (x::xs).length none=(x::xs).length):=by
 rintro ⟨z,_⟩;unfold HT.bA at z;simp at z
set_option maxHeartbeats 1000000 in
theorem J2 (T:Tx K mg w C_Reading zo zi zn ze zb zf zc zg zad zw zae zx zaf zy):bB P w K mg base bJ C_Reading "take_entry" ["self","entry","row"] 5 (DP (C_Reading:=C_Reading)):=by
 refine T.IK.jk Jp (fun vs H Q E h=>?_) (fun f ay A outer s H vs Q E hr h=>?_)
 ·obtain⟨p,du,dt,df,a,st,iX,ws,r,rfl,_⟩:=h;rfl
 ·obtain⟨p,du,dt,df,a,st,iX,ws,r,rfl,R,ha,ht,jy,k⟩:=h;refine⟨_,(zv (cy (cO iG (bI (gH K rfl) (pv 1) zr (fun _ _=>rfl)) zp (cK _)) (zv (uQ (pv 0) (jT (u6 K rfl) (pv 1) (jK zr) kh) rfl)) (zv (cy (cO iG (bI (gH K rfl) (pv 1) zr (fun _ _=>rfl)) zp (cK _)) (zv (gX (qt (Vs T) T.dz (hr.mono (by decide)) (pv 0) (za (bI (gH K rfl) (pv 1) zr (fun _ _=>rfl)) (za (pv 2) zh))))) (zv (cy (cO iG (bI (gH K rfl) (pv 1) zr (fun _ _=>rfl)) zp (cK _)) (zv (gX (qt (Vv T) T.dz (hr.mono (by decide)) (pv 0) (za (jT (u6 K rfl) (pv 1) (jK zr) kh) (za (pv 2) zh))))) (zv (gX (qt (Vu T) T.dz (hr.mono (by decide)) (pv 0) (za (pv 1) (za (pv 2) zh))))))))))),?_⟩;obtain⟨dx,fv,h1,h2⟩:=R.ob;cases ht with
  | dig hl y1 y2=>
   rename_i Vw Vx Vy lo hi;refine⟨_,rfl,a,_,_,_,rfl,rfl,aD.of ha,rfl,rfl,_,rfl,?_⟩;rw[yq rfl];refine br ⟨_,rfl,_,rfl,a,_,rfl,aD.of ha,pR,fun q hq=>?_⟩;rw[qm];have s1:=aa.new (o:=.tup [V.int lo,V.int hi]) hq;refine⟨_,rfl,p,C_Reading,dx,_,rfl,s1 _ _ h1,T.dz,T.tU,(by show 4<1000;decide),?_⟩;have R1:=R.same s1;have yt:∀b xs o,upd H q (.tup [V.int lo,V.int hi]) b=some (.tup xs)->upd (upd H q (.tup [V.int lo,V.int hi])) p (.ins C_Reading dx o) b=some (.tup xs):=fun b xs o e=>by
    rw[aJ (j8 e (s1 _ _ h1) (by intro z;cases z))];exact e
   obtain⟨af,ou,hf⟩:=R1.f;refine k _ ⟨⟨dx,.ref q,?_,q,rfl,yt _ _ _ zd⟩,?_,?_,⟨af,ou.bH fun b xs e=>yt b xs _ e,?_⟩,R.nu,R.names,R.fj⟩ fun b o e b1 b2 b3 b4=>?_
   ·rw[zd,Pj]
   ·rw[aJ (j8 R1.u (s1 _ _ h1) (by intro z;cases z))];exact R1.u
   ·rw[aJ (j8 R1.t (s1 _ _ h1) (by intro z;cases z))];exact R1.t
   ·rw[aJ (j8 hf (s1 _ _ h1) (by intro z;cases z))];exact hf
   ·rw[aJ b1];exact s1 _ _ e
  | unit hx hn=>
   refine⟨_,rfl,a,_,_,_,rfl,rfl,aD.of ha,rfl,rfl,_,rfl,?_⟩;rw[mK (by decide +kernel)];refine aB ⟨_,rfl,a,_,_,_,rfl,rfl,aD.of ha,rfl,rfl,_,rfl,?_⟩;rw[yq rfl];exact br ⟨_,rfl,p,dx,_,rfl,h1,jL _ _ _ _ (by decide +kernel),_,rfl,a,_,_,_,rfl,rfl,aD.of ha,rfl,_,rfl,p,du,dt,df,_,_,r,rfl,R,hx,hn,jy.2.1,k⟩
  | je ht hn=>
   obtain⟨kd,x,y,hx,hy,i0,i1,i2,hk⟩:=JZ ht;simp only [List.mem_cons,List.not_mem_nil,or_false,not_or] at hk;refine⟨_,rfl,a,_,_,_,rfl,rfl,aD.of ha,i0,rfl,_,rfl,?_⟩;rw[decide_eq_false (fun z=>hk.1 (V.str.inj z))];refine aB ⟨_,rfl,a,_,_,_,rfl,rfl,aD.of ha,i0,rfl,_,rfl,?_⟩;rw[decide_eq_false (fun z=>hk.2.1 (V.str.inj z))];refine aB ⟨_,rfl,a,_,_,_,rfl,rfl,aD.of ha,i0,rfl,_,rfl,?_⟩;rw[decide_eq_false (fun z=>hk.2.2 (V.str.inj z))];exact aB ⟨_,rfl,p,dx,_,rfl,h1,jL _ _ _ _ (by decide +kernel),_,rfl,_,rfl,p,du,dt,df,a,_,_,r,rfl,R,ha,ht,hn,jy.2.2.1,k⟩
  | find hf=>
   refine⟨_,rfl,a,_,_,_,rfl,rfl,aD.of ha,gI,rfl,_,rfl,?_⟩;rw[mK (by decide +kernel)];refine aB ⟨_,rfl,a,_,_,_,rfl,rfl,aD.of ha,gI,rfl,_,rfl,?_⟩;rw[mK (by decide +kernel)];refine aB ⟨_,rfl,a,_,_,_,rfl,rfl,aD.of ha,gI,rfl,_,rfl,?_⟩;rw[yq rfl];refine br ⟨_,rfl,p,dx,_,rfl,h1,jL _ _ _ _ (by decide +kernel),_,rfl,_,rfl,a,_,rfl,aD.of ha,pR,fun q hq=>?_⟩;rw[qm];rename_i f0 Vw Vx Vy J3;have s1:=aa.new (o:=.tup J3) hq;exact⟨_,rfl,p,du,dt,df,q,_,J3,r,rfl,R.same s1,zd,hf,jy.1,jy.2.2.2,fun H' R' kp=>k H' R' ((aa.qv s1).trans kp)⟩
theorem Vz (T:Tx K mg w C_Reading zo zi zn ze zb zf zc zg zad zw zae zx zaf zy):cP P w K mg base C_Reading "take_entry" ["self","entry","row"] 5 (DP (C_Reading:=C_Reading)):=(J2 T).m
def DQ:Sp:=fun vs H Q _=>∃(p du dt df a:Addr) (s s':RS) (ws:List V) (r:V),vs = [.ref p,.ref a,r]/\aK C_Reading H p du dt df s/\ak K H a (ws.map fun v=>V.str (aR v))/\bV s ws s'/\yp s/\
 ∀H',aK C_Reading H' p du dt df s'->cX H H' p du dt df->Q .aL H'
theorem VA {s s':RS}{ws:List V}(h:bV s ws s'):∃kd r,ws = .str kd::r/\decide (kd=(Str.ofString "dig" : Str))=s.fr.isNone:=by
 cases h with
 | dig hl y1 y2=>exact⟨_,_,rfl,by show decide _=true;decide +kernel⟩
 | unit hx hn=>exact⟨_,_,rfl,by show decide _=false;decide +kernel⟩
 | je ht hn=>
  cases ht with
  | plain hk hx hy=>
   refine⟨_,_,rfl,?_⟩;unfold lT at hk;simp only [List.mem_cons,List.not_mem_nil,or_false] at hk;rcases hk with rfl | rfl | rfl | rfl<;>(show decide _=false;decide +kernel)
  | after hx hy h0 h1=>exact⟨_,_,rfl,by show decide _=false;decide +kernel⟩
 | find hf=>exact⟨_,_,rfl,by show decide _=false;decide +kernel⟩
theorem J4 (T:Tx K mg w C_Reading zo zi zn ze zb zf zc zg zad zw zae zx zaf zy):bB P w K mg base bJ C_Reading "take_words" ["self","words","row"] 6 (DQ (K:=K) (C_Reading:=C_Reading)):=by
 refine T.IJ.jk Jo (fun vs H Q E h=>?_) (fun f ay A outer s H vs Q E hr h=>?_)
 ·obtain⟨p,du,dt,df,a,st,iX,ws,r,rfl,_⟩:=h;rfl
 ·obtain⟨p,du,dt,df,a,st,iX,ws,r,rfl,R,ha,ht,jy,k⟩:=h;refine⟨_,(zk (cy (cO qf (rN iG (bI (cT K rfl) (pv 1) zr (fun _ _=>rfl)) zp (cK _)) (E4 (uI (iY (pv 0) rfl))) (cK _)) (zv mz) cQ)
   (zv (gX (qt (Vz T) T.dz (hr.mono (by decide)) (pv 0) (za (b9 (JU T) (hr.mono (by decide)) (by rfl) (za (pv 1) (za (pv 2) zh))) (za (pv 2) zh)))))),?_⟩
  obtain⟨dx,fv,h1,h2⟩:=R.ob;obtain⟨kd,rest,rfl,hd⟩:=VA ht;have row:=(ht.row R.names).1;refine⟨_,rfl,a,_,_,_,rfl,rfl,ha,gI,rfl,_,rfl,p,C_Reading,dx,_,_,rfl,h1,T.dz,T.tU,xT _ _ _ _,rfl,_,rfl,?_⟩;have e1:decide (V.str (aR (.str kd))=V.str (Str.ofString "dig"))=decide (kd=(Str.ofString "dig" : Str)):=decide_eq_decide.mpr ⟨fun z=>V.str.inj z,fun z=>congrArg V.str z⟩;have e2:decide (fv = .aL)=st.fr.isNone:=by
   cases q:st.fr with
   | none=>rw[q] at h2;rw[show fv=V.aL from h2];rfl
   | some f=>
    rw[q] at h2;obtain⟨pp,e,_⟩:=h2;rw[e];rfl
  rw[e1,e2,hd,decide_eq_true rfl];refine aB ⟨_,rfl,p,dx,_,rfl,h1,jL _ _ _ _ (by decide +kernel),_,rfl,_,rfl,a,_,r,rfl,ha,row,fun q H1 hq e s1=>?_⟩;exact⟨_,rfl,p,du,dt,df,q,st,iX,_,r,rfl,R.same s1,e,ht,jy,fun H' R' kp=>k H' R' ((aa.qv s1).trans kp)⟩
theorem VB (T:Tx K mg w C_Reading zo zi zn ze zb zf zc zg zad zw zae zx zaf zy):cP P w K mg base C_Reading "take_words" ["self","words","row"] 6 (DQ (K:=K) (C_Reading:=C_Reading)):=(J4 T).m
def VC:Sp:=fun vs H Q _=>∃(p du dt df:Addr) (s:RS) (lo hi:Int),vs = [.ref p]/\aK C_Reading H p du dt df s/\s.fr=some (lo,hi)/\
 ∀(tl pm pu pt pf:Addr) (at' af:List Addr) (H':Hp),H tl=none->H pu=none->H pt=none->H pf=none->H' tl=some (.tup [.ref pm,.ref pu,.ref pt,.ref pf])->H' pm=some (.tup [.int lo,.int hi])->
  H' pu=some (.lst (s.us.map V.str))->H' pt=some (.lst (at'.map V.ref))->aP H' at' s.ts->H' pf=some (.lst (af.map V.ref))->aP H' af s.fs->pu≠pt->pu≠pf->pt≠pf->aa H H'->Q (.ref tl) H'
theorem J6 {H:Hp}:∀{as:List Addr}{ts:List (List V)},(∀ws∈ts,∀v∈ws,Wd v)->Ak H as (oj ts)->aP H as ts
 | [],[],_,_=>.nil
 | a::as,ws::ts,hw,.cons h t=>by
  have h:H a=some (.tup ((ws.map kW).map kV)):=h;rw[xM (hw ws (List.mem_cons_self ..))] at h;exact .cons h (J6 (fun vs hv=>hw vs (List.mem_cons_of_mem _ hv)) t)
theorem VD {fs:List (List V)}{af:List Addr}(h:af.length=fs.length):(dF fs af).map (·.2)=af.map V.ref:=by
 unfold dF;rw[List.map_snd_zip (by simp;omega)]
theorem J7 (T:Tx K mg w C_Reading zo zi zn ze zb zf zc zg zad zw zae zx zaf zy):cP P w K mg base C_Reading "telling" ["self"] 1 (VC (C_Reading:=C_Reading)):=by
 refine T.Rj.has UM (fun vs H Q E h=>?_) (fun f ay A outer s H vs Q E hr h=>?_)
 ·obtain⟨p,du,dt,df,st,lo,hi,rfl,_⟩:=h;rfl
 ·obtain⟨p,du,dt,df,st,lo,hi,rfl,R,fR,k⟩:=h;refine⟨_,(zv (cH (dJ (za (iY (pv 0) rfl) (za (nX (Oz rfl) (by rfl) T.list PyProof.Rows.boot_list (za (iY (pv 0) rfl) zh)) (za (nX (OA rfl) (by rfl) T.list PyProof.Rows.boot_list (za (iY (pv 0) rfl) zh)) (za (nX (OC rfl) (by rfl) T.list PyProof.Rows.boot_list (za (NI K rfl PySem.F.plainAttrs_dict PySem.F.slot_dict_values PySem.F.type_dict_values OB (iY (pv 0) rfl)) zh)) zh))))))),?_⟩;obtain⟨dx,fv,h1,h2⟩:=R.ob;obtain⟨af,ou,hf⟩:=R.f;rw[fR] at h2;obtain⟨pm,rfl,J8⟩:=h2;refine⟨_,rfl,p,C_Reading,dx,_,_,rfl,h1,T.dz,T.tU,xT _ _ _ _,?_⟩;refine⟨_,rfl,p,C_Reading,dx,_,_,rfl,h1,T.dz,T.tV,vn _ _ _ _,du,_,rfl,R.u,fun pu yi=>?_⟩;have s1:=aa.new (o:=.lst ((dU st.us).map fun kv=>kV kv.1)) yi;have e1:upd H pu (.lst ((dU st.us).map fun kv=>kV kv.1)) pu=some (.lst (st.us.map V.str)):=by
   rw[zd];unfold dU;rw[List.map_map];rfl
  generalize upd H pu (.lst ((dU st.us).map fun kv=>kV kv.1))=H1 at s1 e1;refine⟨_,rfl,p,C_Reading,dx,_,_,rfl,s1 _ _ h1,T.dz,T.ye,Aw _ _ _ _,dt,_,rfl,s1 _ _ R.t,fun gw as kt qH=>?_⟩;have tt:=J6 R.fj kt;have s2:=aa.new (o:=.lst (as.map V.ref)) qH;have q2:=s1.trans s2;refine⟨_,rfl,p,C_Reading,dx,_,_,rfl,q2 _ _ h1,T.dz,T.yf,Ax _ _ _ _,.inr (.inr (.inl ⟨rfl,.inl ⟨_,q2 _ _ hf⟩⟩)),df,_,rfl,rfl,q2 _ _ hf,fun pv VE=>?_⟩;have s3:=aa.new (o:=Al pv df) VE;refine⟨pv,df,_,rfl,zd,s3 _ _ (q2 _ _ hf),fun pf nG=>?_⟩;rw[VD ou.len];have s4:=aa.new (o:=.lst (af.map V.ref)) nG;have q4:=q2.trans (s3.trans s4);refine⟨(by show 4<=sizeLine;decide),fun tl J9=>?_⟩;have s5:=aa.new (o:=.tup [.ref pm,.ref pu,.ref gw,.ref pf]) J9;have g1:=s2 _ _ e1;have g2:upd H1 gw (.lst (as.map V.ref)) gw=_:=zd;have n1:pu≠gw:=cI e1 qH;have n2:pu≠pf:=cI (s3 _ _ g1) nG;have n3:gw≠pf:=cI (s3 _ _ g2) nG;exact k tl pm pu gw pf as af _ (q4.free J9) yi (s1.free qH) ((q2.trans s3).free nG) zd (s5 _ _ (q4 _ _ J8)) (s5 _ _ (s4 _ _ (s3 _ _ g1))) (s5 _ _ (s4 _ _ (s3 _ _ g2))) (tt.same (s2.trans (s3.trans (s4.trans s5)))) (s5 _ _ zd) (ou.same (q4.trans s5)) n1 n2 n3 (q4.trans s5)
def ow (C:Addr):Sp:=fun vs H Q _=>∃(e:Addr) (n:Nat),vs = [.ref e,.int n]/\H e=some (cG e C none)/\n<1000/\∀d,d≠e->H d=none->Q .aL (upd (upd H d (.xd [("row",.int n)])) e (cG e C (some d)))
theorem VF:∀i:Nat,i<1000->(Str.ofString (toString (i:Int)):Str).length<=3:=fun i hi=>by
 rw[←fT,CK];exact CO (by decide) (by omega)
set_option maxHeartbeats 8000000 in
theorem tY (T:Tx K mg w C_Reading zo zi zn ze zb zf zc zg zad zw zae zx zaf zy) {C:Addr}(D:iM K C "TextError.__init__" "__init__" (ic (top 2) 0) ["self","row"]) (xo:mG K C) (xc:ir K C) (na:av K C "row"):cP P w K mg base C "__init__" ["self","row"] 1 (ow C):=by
 refine D.has UK (fun vs H Q E h=>?_) (fun f ay A outer s H vs Q E hr h=>?_)
 ·obtain⟨e,n,rfl,_⟩:=h;rfl
 ·obtain⟨e,n,rfl,he,hn,k⟩:=h;refine⟨_,(zk (gX (P8 (by rfl) T.IS T.Rk (za (pv 0) (za (QJ (QH zp (QI (pv 1) QG))) zh))))
   (zv (P4 (pv 0) (pv 1) rfl))),?_⟩
  obtain⟨bm,xo,U⟩:=xo;have hl:=VF n hn;have e1:(Str.empty++Str.ofString "refused at line " : Str).length=16:=by decide +kernel
  refine⟨_,rfl,_,rfl,cU (by rw[e1];decide),_,rfl,_,.inr ⟨_,rfl,Nat.lt_of_le_of_lt (Nat.log2_le_self _) (by omega),rfl⟩,cU (by exact Nat.le_trans hl (by decide)),?_⟩;have e2:(Str.empty++Str.ofString "refused at line " ++ Str.ofString (toString (n:Int)):Str).length<=19:=by
   rw[←fT,fU,List.length_append,fT,fT,e1];omega
  refine⟨cU (by exact Nat.le_trans e2 (by decide)),cU (by exact Nat.le_trans e2 (by decide)),?_⟩;refine⟨e,C,none,bm,_,rfl,he,xo,U,(by show 1<=sizeLine;decide),?_⟩;refine⟨_,rfl,_,rfl,e,C,rfl,he,xc,na,fun d hd=>?_⟩;exact k d (fun z=>by rw[z,he] at hd;cases hd) hd
theorem yu (T:Tx K mg w C_Reading zo zi zn ze zb zf zc zg zad zw zae zx zaf zy):cP P w K mg base zn "__init__" ["self","row"] 1 (ow zn):=tY T T.Rt T.vq T.Rp T.IW
theorem VG (T:Tx K mg w C_Reading zo zi zn ze zb zf zc zg zad zw zae zx zaf zy):cP P w K mg base ze "__init__" ["self","row"] 1 (ow ze):=tY T T.Ry T.IY T.Ru T.IZ
theorem VH (T:Tx K mg w C_Reading zo zi zn ze zb zf zc zg zad zw zae zx zaf zy):cP P w K mg base zb "__init__" ["self","row"] 1 (ow zb):=tY T T.RC T.Ja T.Rz T.Jb
theorem VI (T:Tx K mg w C_Reading zo zi zn ze zb zf zc zg zad zw zae zx zaf zy):cP P w K mg base zf "__init__" ["self","row"] 1 (ow zf):=tY T T.RH T.Jd T.RD T.Je
theorem DR (T:Tx K mg w C_Reading zo zi zn ze zb zf zc zg zad zw zae zx zaf zy):cP P w K mg base zc "__init__" ["self","row"] 1 (ow zc):=tY T T.RL T.AK T.RI T.Jf
theorem Ka (T:Tx K mg w C_Reading zo zi zn ze zb zf zc zg zad zw zae zx zaf zy):cP P w K mg base zg "__init__" ["self","row"] 1 (ow zg):=tY T T.RO T.Du T.RM T.Dv
theorem VJ {H H':Hp}{e:Addr}(he:H e=none) (s:∀b o,b≠e->H b=some o->H' b=some o):aa H (del H' e):=fun b o h=>by
 have n:=cI h he;unfold del;rw[if_neg n];exact s b o n h
def fM (C:Addr) (H:Hp) (E:XK) (r:Nat):Prop:=∀d H',aa H H'->H' d=some (.xd [("row",.int r)])->E (.ref C) (some d) H'
theorem fM.same {C:Addr}{H G:Hp}{E:XK}{r:Nat}(h:fM C H E r) (s:aa H G):fM C G E r:=fun d H' s' e=>h d H' (s.trans s') e
theorem lJ {C:Addr}{G H:Hp}{E E1:XK}(r:Nat) (hr:r<1000) (s:aa H G) (k:fM C H E r):∀e,G e=none->ow C [.ref e,.int r] (upd G e (cG e C none)) (fun v H2=>v = .aL/\∃dc,H2 e=some (cG e C dc)/\E (.ref C) dc (del H2 e)) E1:=fun o ho=>by
 refine⟨o,r,rfl,zd,hr,fun d nd hd=>⟨rfl,some d,zd,k d _ (s.trans (VJ ho fun b o' n h=>?_)) ?_⟩⟩
 ·rw[aJ nd] at hd;rw[aJ n,aJ (cI h hd),aJ n];exact h
 ·unfold del;rw[if_neg nd,aJ nd,zd]
def Kc (C:bO->Addr):Sp:=fun vs H Q E=>∃(kd x:Str) (r:Nat) (k:bO),vs = [.str kd,.str x,.int r]/\x.length<=1000/\r<1000/\kO kd x k/\fM (C k) H E r
theorem VL (T:Tx K mg w C_Reading zo zi zn ze zb zf zc zg zad zw zae zx zaf zy):eE P w K mg base "read_value" ["kind","word","row"] 3 (Kc (jf zn ze zb zf zc zg)):=by
 refine T.Jj.pL cD (fun vs H Q E h=>?_) (fun f ay A outer s H vs Q E hr h=>?_)
 ·obtain⟨kd,x,r,kk,rfl,_⟩:=h;rfl
 ·obtain⟨kd,x,r,kk,rfl,hx,fk,hv,kE⟩:=h;refine⟨_,(zk (cy (cO iG (pv 0) zp (cK _)) (zk (cy (mw (ly (b9 (JG T) (hr.mono (by decide)) (by rfl) (za (pv 1) zh)))) (zv (mH (VG T) T.IY (hr.mono (by decide)) aG (by rfl) T.IX (by decide) (za (pv 2) zh))) cQ)
    (zv (cH (pv 1)))) cQ)
   (zk (bQ (i:=3) cD.nd rfl (Or.inl rfl) (b9 (JI T) (hr.mono (by decide)) (by rfl) (za (pv 1) zh)))
   (zk (cy (PW.pt (rA (lq (uI (pv 3))) (vM (PW.pt (qd (cO iG (pv 0) zp (cK _)) (qc (cO rM (pv 3) zr (cK _)))))))) (zv (mH (VH T) T.Ja (hr.mono (by decide)) aG (by rfl) T.I0 (by decide) (za (pv 2) zh))) cQ)
   (zv (cH (pv 3)))))),?_⟩
  cases hv with
  | name h=>
   refine⟨_,rfl,rfl,_,rfl,?_⟩;rw[decide_eq_true rfl];refine br ⟨_,rfl,x,rfl,hx,fun H1 s1=>⟨_,rfl,?_⟩⟩;rw[h];exact br ⟨_,rfl,lJ r fk s1 kE⟩
  | year h=>
   refine⟨_,rfl,rfl,_,rfl,?_⟩;rw[mK (by decide +kernel)];refine aB ⟨_,rfl,_,rfl,hx,fun H1 s1=>?_⟩;rw[DF h];refine⟨_,rfl,_,rfl,?_⟩;rw[decide_eq_true rfl];exact br (br ⟨_,rfl,lJ r fk s1 kE⟩)
  | gap h=>
   refine⟨_,rfl,rfl,_,rfl,?_⟩;rw[mK (by decide +kernel)];refine aB ⟨_,rfl,_,rfl,hx,fun H1 s1=>?_⟩;rw[DF h];refine⟨_,rfl,_,rfl,?_⟩;rw[decide_eq_true rfl];exact br (br ⟨_,rfl,lJ r fk s1 kE⟩)
  | neg h n=>
   refine⟨_,rfl,rfl,_,rfl,?_⟩;rw[mK (by decide +kernel)];refine aB ⟨_,rfl,_,rfl,hx,fun H1 s1=>?_⟩;rw[AV h];refine⟨_,rfl,_,rfl,?_⟩;rw[decide_eq_false (fun z=>nomatch z)];refine aB ⟨_,rfl,rfl,_,rfl,?_⟩;rw[decide_eq_true rfl];refine br ⟨_,rfl,_,_,rfl,rfl,_,rfl,?_⟩;rw[decide_eq_true n];exact br ⟨_,rfl,lJ r fk s1 kE⟩
theorem VM (T:Tx K mg w C_Reading zo zi zn ze zb zf zc zg zad zw zae zx zaf zy):eE P w K mg base "read_value" ["kind","word","row"] 3 (fun vs H Q E=>JL vs H Q E\/Kc (jf zn ze zb zf zc zg) vs H Q E):=(JM T).x.or (VL T)
inductive iU (ks:List Str):List Str->bO->Prop where
 | len {r:List Str}(h:r.length≠ks.length):iU ks r .row
 | val {j:Nat}{kd x:Str}{k:bO}{r:List Str}(hl:r.length=ks.length) (hg:∀i,i<j->∃kd v,ks[i]? = some kd/\r[i]? = some (aR v)/\dH kd v) (hk:ks[j]? = some kd) (hx:r[j]? = some x) (hb:kO kd x k):iU ks r k
 | span {kp:List Str}{pre:List V}{lo hi:Int}(ek:ks=kp++([Str.ofString "year",Str.ofString "year"]:List Str)) (hv:Paired dH ks (pre++[.int lo,.int hi])) (h:hi<lo):iU ks ((pre++[V.int lo,V.int hi]).map aR) .span
def Kd (C:bO->Addr):Sp:=fun vs H Q E=>∃(ad a:Addr) (kd:Str) (ks rs:List Str) (r:Nat) (k:bO),vs = [.ref ad,.ref a,.int r]/\(∀H',aD K H' ad (ks.map V.str))/\ak K H a ((kd::rs).map V.str)/\(kd,ks.map V.str)∈ai/\rs.length<=900/\(∀x∈rs,x.length<=1000)/\r<1000/\iU ks rs k/\fM (C k) H E r
theorem VN (xs:List V) (u v:V):bN (xs++[u,v]) (some (-2)) none = [u,v]:=by
 unfold bN HT.bA;dsimp only;rw[if_pos (by decide),List.length_append];rw[show ((-2:Int)+((xs.length + [u,v].length:Nat):Int)).toNat=xs.length by simp;omega,List.drop_left];simp
set_option maxHeartbeats 4000000 in
theorem VO (T:Tx K mg w C_Reading zo zi zn ze zb zf zc zg zad zw zae zx zaf zy):eE P w K mg base "read_form" ["form","words","row"] 4 (Kd (K:=K) (jf zn ze zb zf zc zg)):=by
 refine T.Ji.pL cM (fun vs H Q E h=>?_) (fun f ay A outer s H vs Q E hr h=>?_)
 ·obtain⟨ad,a,kd,ks,us,r,k,rfl,_⟩:=h;rfl
 ·obtain⟨ad,a,kd,ks,rs,r,kk,rfl,kt,ha,hf,hn,hx,fk,hb,kE⟩:=h;refine⟨_,(zk (cy (cO qf (cW (jb K rfl) (by rfl) T.len boot_len (za (pv 1) zh)) (ao jG (cW (jb K rfl) (by rfl) T.len boot_len (za (pv 0) zh)) zr) (cK _)) (zv (mH (yu T) T.vq (hr.mono (by decide)) aG (by rfl) T.vp (by decide) (za (pv 2) zh))) cQ)
   (zk (Q4 (i:=3) (own:=["kind","word"]) (cap:=["row"]) (ix:=[2]) (jV:=zm (top 28)) aG rfl cM.nd rfl rfl rfl ⟨rfl,by decide +kernel,by decide +kernel,by decide +kernel,by decide +kernel⟩ rfl (GN K rfl true false (by rfl) T.zip (za (pv 0) (za (jT (sI K rfl) (pv 1) (jK zr) kh) zh))) (fun _ _ _ _=>sL (n:=2) K rfl rfl (j9 (d9 (i:=0) (show List.Nodup (["kind","word","row"]:List Str) by decide +kernel) rfl (Or.inl rfl)) (j9 (d9 (i:=1) (show List.Nodup (["kind","word","row"]:List Str) by decide +kernel) rfl (Or.inl rfl)) rF))) (fun _ _ _ _=>m8) (fun _ _ _ _ _ DS=>(QZ (VM T) DS (hr.mono (by decide)) (by rfl) (za (pv 0) (za (pv 1) (za (pv 2) zh))))))
   (zk (cy (PW.pt (qd (cO (sJ K rfl (jX hr)) (jT (Ir (K:=K) rfl) (pv 0) (jK (oN oR zr)) kh) (dJ (za zp (za zp zh))) (cK _)) (qc (cO Fe (bI (cT K rfl) (pv 3) (oN oR zr) (fun _ _=>rfl)) (bI (cT K rfl) (pv 3) (oN oR zr) (fun _ _=>rfl)) (cK _))))) (zv (mH (VI T) T.Jd (hr.mono (by decide)) aG (by rfl) T.Jc (by decide) (za (pv 2) zh))) cQ)
   (zv (cH (ao (n9 K rfl) (dJ (za (bI (cT K rfl) (pv 1) zr (fun _ _=>rfl)) zh)) (nX (Cv K rfl) (by rfl) T.tuple PyProof.Rows.boot_tuple (za (pv 3) zh)))))))),?_⟩
  have h4:=JO _ hf;have h4:ks.length<=4:=by simpa using h4
  have zU:∀x∈ks,x.length<=100:=fun x hx=>JS _ hf (.str x) (List.mem_map.mpr ⟨x,hx,rfl⟩) x rfl
  refine⟨_,rfl,a,_,rfl,.inl ha,_,rfl,ad,_,rfl,.inr (kt H),_,_,rfl,rfl,rfl,_,rfl,?_⟩
  by_cases hl:rs.length=ks.length
  rotate_left
  ·have ek:kk = .row:=by
    cases hb with
    | len h=>rfl
    | val nZ _ _ _ _=>exact absurd nZ hl
    | span ek hv h=>
     have:=Paired.length hv;rw[List.length_map] at hl;exact absurd this.symm hl
   subst ek;rw[decide_eq_false (fun z=>by
    simp only [List.length_map,List.length_cons] at z;injection z with z
    omega)]
   exact br ⟨_,rfl,lJ r fk (aa.refl _) kE⟩
  rw[decide_eq_true (by simp only [List.length_map,List.length_cons];congr 1;omega)];refine aB ?_;refine⟨_,rfl,_,rfl,_,rfl,a,_,rfl,ha,fun p hp=>?_⟩;have s1:=aa.new (o:=.lst (bN ((kd::rs).map V.str) (some 1) none)) hp;have e1:upd H p (.lst (bN ((kd::rs).map V.str) (some 1) none)) p=some (.lst (rs.map V.str)):=by rw[zd,List.map_cons,qm]
  generalize upd H p (.lst (bN ((kd::rs).map V.str) (some 1) none))=H1 at s1 e1;refine⟨ad,p,_,_,rfl,kt H1,ak.of e1,fun D hD=>?_⟩;cases hb with
  | len h=>exact absurd hl h
  | val nZ hg hk uZ hb=>
   rename_i j kj xj;have hj:j<ks.length:=(List.getElem?_eq_some_iff.mp hk).1;refine Q5 (xs:=ks.map V.str) (ys:=rs.map V.str) hD (fun H' s=>kt H') (fun H' s=>s.seq (ak.of e1)) (by simp only [List.length_map];omega) (cU (by rw[List.length_map];omega)) j (by rw[List.length_map];exact hj) (fun i x y hi ex ey H' Q' s hQ=>?_) (fun x y ex ey H' Q' s=>?_)
   ·obtain⟨ki,v,g1,g2,hv⟩:=hg i hi;rw[List.getElem?_map,g1] at ex;rw[List.getElem?_map,g2] at ey;cases ex;cases ey;exact⟨_,rfl,_,rfl,_,rfl,.inl ⟨ki,v,_,rfl,hv,fun lD kc=>hQ _ _ kc⟩⟩
   ·rw[List.getElem?_map,hk] at ex;rw[List.getElem?_map,uZ] at ey;cases ex;cases ey;exact⟨_,rfl,_,rfl,_,rfl,.inr ⟨kj,xj,r,kk,rfl,hx _ (List.mem_of_getElem? uZ),fk,hb,kE.same (s1.trans s)⟩⟩
  | span ek hv h=>
   rename_i kp pre lo hi;have VP:((pre++[V.int lo,V.int hi]).map aR).map V.str=(pre++[V.int lo,V.int hi]).map fun v=>V.str (aR v):=by rw[List.map_map];rfl
   rw[VP] at e1;refine GK (xs:=ks.map V.str) (ys:=(pre++[V.int lo,V.int hi]).map fun v=>V.str (aR v)) pJ hD (fun H' s=>kt H') (fun H' s=>s.seq (ak.of e1)) (by rw[List.length_map,List.length_map,Paired.length hv]) (cU (by rw[List.length_map];omega)) (fun i x y ex ey H' Q' s hQ=>?_) (fun H2 s2 l7=>?_)
   ·rw[List.getElem?_map] at ex ey;cases DT:ks[i]? with
    | none=>rw[DT] at ex;cases ex
    | some tX=>
     obtain⟨v,ev,ym⟩:=Paired.get' hv DT;rw[DT] at ex;rw[ev] at ey;cases ex;cases ey;rw[DH ym] at hQ;exact⟨_,rfl,_,rfl,_,rfl,.inl ⟨tX,v,_,rfl,ym,hQ⟩⟩
   rw[DI hv] at l7;have q2:=s1.trans s2;dsimp only [bM];have yr:(Str.ofString "year" : Str).length<=100:=by decide +kernel
   have wy:∀v∈[V.str "year",V.str "year"],Wd v:=fun v hv=>by
    simp at hv;subst hv;exact .inl ⟨_,rfl,yr⟩
   have fin:∀(t:Addr) (H4:Hp),aa H2 H4->aD K H4 t [V.str "year",V.str "year"]->∀p2,H4 p2=none->b8 K (upd H4 p2 (.tup [.str "year",.str "year"])) 8 (.ref t) (.ref p2) true:=by
    intro t H4 s4 ht p2 gQ;have:=b8.iK (n:=7) ((aa.new (o:=.tup [.str "year",.str "year"]) gQ).tup ht) (aD.of zd) (fun x hx=>(wy x hx).flat) (fun x hx=>(wy x hx).flat);rw[xq (fun x hx=>(wy x hx).flat)] at this;exact this
   have Ke:ks.map V.str=kp.map V.str++[V.str "year",V.str "year"]:=by rw[ek,List.map_append];rfl
   refine⟨_,rfl,_,rfl,_,rfl,ad,_,rfl,kt H2,fun hw=>?W,fun hw p9 yo=>?C⟩
   case' W=>
    have e0:ks.map V.str = [V.str "year",V.str "year"]:=by
     have h0:=hw.1;rw[Ke] at h0 ⊢;unfold HT.bA at h0;dsimp only at h0;rw[if_pos (by decide),List.length_append] at h0;have:(kp.map V.str).length=0:=by simp only [List.length_cons,List.length_nil] at h0;omega
     rw[List.length_eq_zero_iff.mp this];rfl
    obtain⟨t,et⟩:∃t,t=ad:=⟨_,rfl⟩;obtain⟨H4,eH⟩:∃H4,H4=H2:=⟨_,rfl⟩;have s4:aa H2 H4:=by rw[eH];exact (aa.refl _)
    have qM:=s4 _ _ l7;have fin:=fin t H4 s4 (by rw[et,←e0];exact kt H4);rw[←eH,←et]
   case' C=>
    rw[show bN (ks.map V.str) (some (-2)) none = [V.str "year",V.str "year"] by rw[Ke];exact VN _ _ _] at *;have s4:aa H2 (upd H2 p9 (.tup [V.str "year",V.str "year"])):=aa.new yo;have e4:upd H2 p9 (.tup [V.str "year",V.str "year"]) p9=some (.tup [V.str "year",V.str "year"]):=zd;obtain⟨t,et⟩:∃t,t=p9:=⟨_,rfl⟩;rw[←et];rw[←et] at e4 s4;generalize upd H2 t (.tup [V.str "year",V.str "year"])=H4 at s4 e4;have qM:=s4 _ _ l7;have fin:=fin t H4 s4 (aD.of e4)
   all_goals
    refine⟨(by show 2<=sizeLine;decide),fun p2 gQ=>?_⟩;have hb:=fin p2 gQ;have t5:=aa.new (o:=.tup [.str "year",.str "year"]) gQ;refine⟨t,p2,true,rfl,rfl,hb,_,rfl,br ?_⟩;have mL:=t5 _ _ qM;refine⟨_,rfl,_,rfl,D,_,_,_,rfl,rfl,ak.of mL,HL _ _ _,_,rfl,_,rfl,D,_,_,_,rfl,rfl,ak.of mL,HM _ _ _,_,_,rfl,rfl,_,rfl,?_⟩;rw[decide_eq_true (by omega)];exact br ⟨_,rfl,lJ r fk (q2.trans (s4.trans t5)) kE⟩
theorem VQ (T:Tx K mg w C_Reading zo zi zn ze zb zf zc zg zad zw zae zx zaf zy):eE P w K mg base "read_form" ["form","words","row"] 4 (fun vs H Q E=>JR (K:=K) vs H Q E\/Kd (K:=K) (jf zn ze zb zf zc zg) vs H Q E):=(JT T).x.or (VO T)
inductive pS:List Str->bO->Prop where
 | first {x:Str}{r:List Str}(h:x ∉ ai.map (·.1)):pS (x::r) .row
 | l6 {kd:Str}{ks r:List Str}{k:bO}(hf:(kd,ks.map V.str)∈ai) (h:iU ks r k):pS (kd::r) k
def Kf (C:bO->Addr):Sp:=fun vs H Q E=>∃(a:Addr) (wl:List Str) (r:Nat) (k:bO),vs = [.ref a,.int r]/\ak K H a (wl.map V.str)/\wl.length<=900/\(∀x∈wl,x.length<=1000)/\r<1000/\pS wl k/\fM (C k) H E r
theorem VR (T:Tx K mg w C_Reading zo zi zn ze zb zf zc zg zad zw zae zx zaf zy):eE P w K mg base "read_entry" ["words","row"] 5 (Kf (K:=K) (jf zn ze zb zf zc zg)):=by
 refine T.Jh.pL Jm (fun vs H Q E h=>?_) (fun f ay A outer s H vs Q E hr h=>?_)
 ·obtain⟨a,wl,r,k,rfl,_⟩:=h;rfl
 ·obtain⟨a,wl,r,kk,rfl,ha,hn,hx,fk,hb,kE⟩:=h;obtain⟨pQ,gx,gy⟩:=T.Jl;refine⟨_,(zk (cy (lq (GG gy (by rfl) gx (bI (cT K rfl) (pv 0) zr (fun _ _=>rfl)))) (zv (mH (yu T) T.vq (hr.mono (by decide)) aG (by rfl) T.vp (by decide) (za (pv 1) zh))) cQ)
   (zv (cH (HX (VQ T) aG (hr.mono (by decide)) (by rfl) (za (GH gy (by rfl) gx (bI (cT K rfl) (pv 0) zr (fun _ _=>rfl)) (fun _ _=>rfl)) (za (pv 0) (za (pv 1) zh))))))),?_⟩
  cases hb with
  | first h=>
   refine⟨_,rfl,a,_,_,_,rfl,rfl,ha,gI,_,rfl,_,rfl,?_⟩;rw[decide_eq_false h];exact br ⟨_,rfl,lJ r fk (aa.refl _) kE⟩
  | l6 hf h=>
   rename_i kd ks rs;refine⟨_,rfl,a,_,_,_,rfl,rfl,ha,gI,kd,rfl,_,rfl,?_⟩;rw[JP hf];refine aB ?_;refine⟨_,rfl,a,_,_,_,rfl,rfl,ha,gI,kd,_,rfl,hf,fun ad kt=>?_⟩;exact⟨_,rfl,_,rfl,.inr ⟨ad,a,kd,ks,rs,r,kk,rfl,fun H'=>kt.sq H',ha,hf,by simp at hn;omega,fun x h=>hx x (List.mem_cons_of_mem _ h),fk,h,kE⟩⟩
theorem VS (T:Tx K mg w C_Reading zo zi zn ze zb zf zc zg zad zw zae zx zaf zy):eE P w K mg base "read_entry" ["words","row"] 5 (fun vs H Q E=>JQ (K:=K) vs H Q E\/Kf (K:=K) (jf zn ze zb zf zc zg) vs H Q E):=(JU T).x.or (VR T)
def Kg (C:bO->Addr):Sp:=fun vs H Q E=>∃(p du dt df:Addr) (s:RS) (x:Str) (r:Nat),vs = [.ref p,.str x,.int r]/\aK C_Reading H p du dt df s/\x ∉ s.us/\r<1000/\fM (C .unit) H E r
theorem VT (T:Tx K mg w C_Reading zo zi zn ze zb zf zc zg zad zw zae zx zaf zy):bB P w K mg base (i6 P w) C_Reading "need_unit" ["self","name","row"] 3 (Kg (C_Reading:=C_Reading) (jf zn ze zb zf zc zg)):=by
 refine T.IQ.lW Jt (fun vs H Q E h=>?_) (fun f ay A outer s H vs Q E hr h=>?_)
 ·obtain⟨p,du,dt,df,st,x,r,rfl,_⟩:=h;rfl
 ·obtain⟨p,du,dt,df,st,x,r,rfl,R,hx,fk,kE⟩:=h;have hu:=qi hr;refine⟨_,(zv (cy (lq (FT hu (pv 1) (iY (pv 0) rfl))) (zv (mH (Ka T) T.Du (hr.mono (by decide)) aG (by rfl) T.Dt (by decide) (za (pv 2) zh))) cQ)),?_⟩;obtain⟨dx,fv,h1,_⟩:=R.ob;refine⟨_,rfl,_,rfl,p,C_Reading,dx,_,_,rfl,h1,T.dz,T.tV,vn _ _ _ _,du,_,rfl,eZ.k (k:=Sum.inr x) R.u,_,rfl,?_⟩;rw[tN (fun z=>hx (iN.mp z))];exact br ⟨_,rfl,lJ r fk (aa.refl _) kE⟩
theorem DU (T:Tx K mg w C_Reading zo zi zn ze zb zf zc zg zad zw zae zx zaf zy):qx P w K mg base C_Reading "need_unit" ["self","name","row"] 3 (fun vs H Q E=>DJ (C_Reading:=C_Reading) vs H Q E\/Kg (C_Reading:=C_Reading) (jf zn ze zb zf zc zg) vs H Q E):=((JX T).x.or (VT T)).mx
def Kh (C:bO->Addr):Sp:=fun vs H Q E=>∃(p du dt df:Addr) (s:RS) (x:Str) (r:Nat),vs = [.ref p,.str x,.int r]/\aK C_Reading H p du dt df s/\x∈s.us/\r<1000/\fM (C .twice) H E r
theorem VU (T:Tx K mg w C_Reading zo zi zn ze zb zf zc zg zad zw zae zx zaf zy):bB P w K mg base (i6 P w) C_Reading "take_unit" ["self","name","row"] 3 (Kh (C_Reading:=C_Reading) (jf zn ze zb zf zc zg)):=by
 refine T.IL.lW Jq (fun vs H Q E h=>?_) (fun f ay A outer s H vs Q E hr h=>?_)
 ·obtain⟨p,du,dt,df,st,x,r,rfl,_⟩:=h;rfl
 ·obtain⟨p,du,dt,df,st,x,r,rfl,R,hx,fk,kE⟩:=h;have hu:=qi hr;refine⟨_,(zk (cy (lq (uT hu (pv 1) (iY (pv 0) rfl))) (zv (mH (DR T) T.AK (hr.mono (by decide)) aG (by rfl) T.AJ (by decide) (za (pv 2) zh))) cQ)
   (zv (uU hu (iY (pv 0) rfl) (pv 1) mq rfl))),?_⟩
  obtain⟨dx,fv,h1,_⟩:=R.ob;refine⟨_,rfl,_,rfl,p,C_Reading,dx,_,_,rfl,h1,T.dz,T.tV,vn _ _ _ _,du,_,rfl,eZ.k (k:=Sum.inr x) R.u,_,rfl,?_⟩;rw[Au (iN.mpr hx)];exact br ⟨_,rfl,lJ r fk (aa.refl _) kE⟩
theorem VV (T:Tx K mg w C_Reading zo zi zn ze zb zf zc zg zad zw zae zx zaf zy):qx P w K mg base C_Reading "take_unit" ["self","name","row"] 3 (fun vs H Q E=>DM (C_Reading:=C_Reading) vs H Q E\/Kh (C_Reading:=C_Reading) (jf zn ze zb zf zc zg) vs H Q E):=((JY T).x.or (VU T)).mx
def Kl (C:bO->Addr):Sp:=fun vs H Q E=>∃(p du dt df a:Addr) (s:RS) (ws:List V) (kd x y:Str) (q:List V) (r:Nat) (k:bO),vs = [.ref p,.ref a,.int r]/\aK C_Reading H p du dt df s/\H a=some (.tup ws)/\ws = .str kd :: .str x :: .str y::q/\(∀v∈ws,Wd v)/\((ws∈s.ts/\k = .twice)\/(ws ∉ s.ts/\(x ∉ s.us\/y ∉ s.us)/\k = .unit))/\r<1000/\fM (C k) H E r
theorem VW (T:Tx K mg w C_Reading zo zi zn ze zb zf zc zg zad zw zae zx zaf zy):bB P w K mg base (i6 P w) C_Reading "take_tie" ["self","tie","row"] 4 (Kl (C_Reading:=C_Reading) (jf zn ze zb zf zc zg)):=by
 refine T.IM.lW Jr (fun vs H Q E h=>?_) (fun f ay A outer s H vs Q E hr h=>?_)
 ·obtain⟨p,du,dt,df,a,st,ws,kd,x,y,q,r,k,rfl,_⟩:=h;rfl
 ·obtain⟨p,du,dt,df,a,st,ws,kd,x,y,q,r,kk,rfl,R,ha,ew,hw,hb,fk,kE⟩:=h;have hu:=qi hr;refine⟨_,(zk (cy (lq (uT hu (pv 1) (iY (pv 0) rfl))) (zv (mH (DR T) T.AK (hr.mono (by decide)) aG (by rfl) T.AJ (by decide) (za (pv 2) zh))) cQ)
   (zk (gX (qy (DU T) aG T.dz (hr.mono (by decide)) (pv 0) (za (bI (gH K rfl) (pv 1) zr (fun _ _=>rfl)) (za (pv 2) zh))))
   (zk (gX (qy (DU T) aG T.dz (hr.mono (by decide)) (pv 0) (za (bI (gH K rfl) (pv 1) zr (fun _ _=>rfl)) (za (pv 2) zh))))
   (zv (uU hu (iY (pv 0) rfl) (pv 1) mq rfl))))),?_⟩
  obtain⟨dx,fv,h1,_⟩:=R.ob;have AX:H a=some (.tup ((ws.map kW).map kV)):=by rw[xM hw];exact ha
  have i1:fG ws 1=some (.str x):=by rw[ew];exact lA (j:=1) rfl
  have i2:fG ws 2=some (.str y):=by rw[ew];exact lA (j:=2) rfl
  refine⟨_,rfl,_,rfl,p,C_Reading,dx,_,_,rfl,h1,T.dz,T.ye,Aw _ _ _ _,dt,_,rfl,eZ.t R.t AX,_,rfl,?_⟩;rcases hb with ⟨hm,rfl⟩ | ⟨hm,hu,rfl⟩
  ·rw[Au ((Az R.fj hw).mpr hm)];exact br ⟨_,rfl,lJ r fk (aa.refl _) kE⟩
  ·rw[tN (fun z=>hm ((Az R.fj hw).mp z))];refine aB ⟨_,rfl,p,dx,_,rfl,h1,jL _ _ _ _ (by decide +kernel),_,rfl,a,_,_,_,rfl,rfl,aD.of ha,i1,_,rfl,?_⟩
   by_cases c:x∈st.us
   ·refine .inl ⟨p,du,dt,df,st,x,_,rfl,R,c,?_⟩;refine⟨_,rfl,p,dx,_,rfl,h1,jL _ _ _ _ (by decide +kernel),_,rfl,a,_,_,_,rfl,rfl,aD.of ha,i2,_,rfl,?_⟩;exact .inr ⟨p,du,dt,df,st,y,r,rfl,R,hu.elim (fun z=>absurd c z) id,fk,kE⟩
   ·exact .inr ⟨p,du,dt,df,st,x,r,rfl,R,c,fk,kE⟩
theorem VX (T:Tx K mg w C_Reading zo zi zn ze zb zf zc zg zad zw zae zx zaf zy):qx P w K mg base C_Reading "take_tie" ["self","tie","row"] 4 (fun vs H Q E=>DN (C_Reading:=C_Reading) vs H Q E\/Kl (C_Reading:=C_Reading) (jf zn ze zb zf zc zg) vs H Q E):=((J0 T).x.or (VW T)).mx
def Km (C:bO->Addr):Sp:=fun vs H Q E=>∃(p du dt df a:Addr) (s:RS) (nm x:Str) (lo hi:Int) (r:Nat) (k:bO),vs = [.ref p,.ref a,.int r]/\aK C_Reading H p du dt df s/\H a=some (.tup [.str nm,.str x,.int lo,.int hi])/\(∀f∈s.fs,∃x r,f=V.str x::r)/\(((∃f∈s.fs,f.head? = some (.str nm))/\k = .twice)\/((∀f∈s.fs,f.head?≠some (.str nm))/\x ∉ s.us/\k = .unit))/\r<1000/\fM (C k) H E r
theorem VY {fs:List (List V)}{af:List Addr}{nm:Str}(hl:af.length=fs.length) (jy:∀f∈fs,∃x r,f=V.str x::r) (h:∃f∈fs,f.head? = some (.str nm)):(dM (dF fs af) (Sum.inr nm:Key)).isSome=true:=by
 apply Au;obtain⟨f,hf,e⟩:=h;unfold dF;rw[List.map_fst_zip (by simp;omega)];refine List.mem_map.mpr ⟨f,hf,?_⟩;obtain⟨y,q,rfl⟩:=jy f hf;have e:=V.str.inj (Option.some.inj e);subst e;rfl
theorem VZ (T:Tx K mg w C_Reading zo zi zn ze zb zf zc zg zad zw zae zx zaf zy):bB P w K mg base (i6 P w) C_Reading "take_find" ["self","find","row"] 4 (Km (C_Reading:=C_Reading) (jf zn ze zb zf zc zg)):=by
 refine T.IP.lW Js (fun vs H Q E h=>?_) (fun f ay A outer s H vs Q E hr h=>?_)
 ·obtain⟨p,du,dt,df,a,st,nm,x,lo,hi,r,k,rfl,_⟩:=h;rfl
 ·obtain⟨p,du,dt,df,a,st,nm,x,lo,hi,r,kk,rfl,R,ha,jy,hb,fk,kE⟩:=h;have hu:=qi hr;refine⟨_,(zk (cy (lq (uT hu (bI (gH K rfl) (pv 1) zr (fun _ _=>rfl)) (iY (pv 0) rfl))) (zv (mH (DR T) T.AK (hr.mono (by decide)) aG (by rfl) T.AJ (by decide) (za (pv 2) zh))) cQ)
   (zk (gX (qy (DU T) aG T.dz (hr.mono (by decide)) (pv 0) (za (bI (gH K rfl) (pv 1) zr (fun _ _=>rfl)) (za (pv 2) zh))))
   (zv (uU hu (iY (pv 0) rfl) (bI (gH K rfl) (pv 1) zr (fun _ _=>rfl)) (pv 1) rfl)))),?_⟩
  obtain⟨dx,fv,h1,h2⟩:=R.ob;obtain⟨af,ou,hf⟩:=R.f;refine⟨_,rfl,a,_,_,_,rfl,rfl,aD.of ha,rfl,_,rfl,p,C_Reading,dx,_,_,rfl,h1,T.dz,T.yf,Ax _ _ _ _,df,_,rfl,eZ.k (k:=Sum.inr nm) hf,_,rfl,?_⟩;rcases hb with ⟨hm,rfl⟩ | ⟨hm,hu,rfl⟩
  ·rw[VY ou.len jy hm];exact br ⟨_,rfl,lJ r fk (aa.refl _) kE⟩
  ·obtain⟨e1,_⟩:=HQ (p:=a) (ws:=[.str nm,.str x,.int lo,.int hi]) ou.len hm ⟨_,rfl⟩ jy;rw[e1];refine aB ⟨_,rfl,p,dx,_,rfl,h1,jL _ _ _ _ (by decide +kernel),_,rfl,a,_,_,_,rfl,rfl,aD.of ha,rfl,_,rfl,?_⟩;exact .inr ⟨p,du,dt,df,st,x,r,rfl,R,hu,fk,kE⟩
theorem V0 (T:Tx K mg w C_Reading zo zi zn ze zb zf zc zg zad zw zae zx zaf zy):qx P w K mg base C_Reading "take_find" ["self","find","row"] 4 (fun vs H Q E=>DO (C_Reading:=C_Reading) vs H Q E\/Km (C_Reading:=C_Reading) (jf zn ze zb zf zc zg) vs H Q E):=((J1 T).x.or (VZ T)).mx
def Kn (C:bO->Addr):Sp:=fun vs H Q E=>∃(p du dt df a:Addr) (s:RS) (ws:List V) (r:Nat) (k:bO),vs = [.ref p,.ref a,.int r]/\aK C_Reading H p du dt df s/\H a=some (.tup ws)/\j0 s ws k/\(∀v∈ws,Wd v)/\(∀f∈s.fs,∃x r,f=V.str x::r)/\r<1000/\fM (C k) H E r
set_option maxHeartbeats 1000000 in
theorem V1 (T:Tx K mg w C_Reading zo zi zn ze zb zf zc zg zad zw zae zx zaf zy):bB P w K mg base (i6 P w) C_Reading "take_entry" ["self","entry","row"] 5 (Kn (C_Reading:=C_Reading) (jf zn ze zb zf zc zg)):=by
 refine T.IK.lW Jp (fun vs H Q E h=>?_) (fun f ay A outer s H vs Q E hr h=>?_)
 ·obtain⟨p,du,dt,df,a,st,ws,r,k,rfl,_⟩:=h;rfl
 ·obtain⟨p,du,dt,df,a,st,ws,r,kk,rfl,R,ha,ht,hw,jy,fk,kE⟩:=h;refine⟨_,(zv (cy (cO iG (bI (gH K rfl) (pv 1) zr (fun _ _=>rfl)) zp (cK _)) (zv (uQ (pv 0) (jT (u6 K rfl) (pv 1) (jK zr) kh) rfl)) (zv (cy (cO iG (bI (gH K rfl) (pv 1) zr (fun _ _=>rfl)) zp (cK _)) (zv (gX (qy (VV T) aG T.dz (hr.mono (by decide)) (pv 0) (za (bI (gH K rfl) (pv 1) zr (fun _ _=>rfl)) (za (pv 2) zh))))) (zv (cy (cO iG (bI (gH K rfl) (pv 1) zr (fun _ _=>rfl)) zp (cK _)) (zv (gX (qy (V0 T) aG T.dz (hr.mono (by decide)) (pv 0) (za (jT (u6 K rfl) (pv 1) (jK zr) kh) (za (pv 2) zh))))) (zv (gX (qy (VX T) aG T.dz (hr.mono (by decide)) (pv 0) (za (pv 1) (za (pv 2) zh))))))))))),?_⟩;obtain⟨dx,fv,h1,h2⟩:=R.ob;have hb:(∃x:Str,ws = [.str "unit",.str x]/\x∈st.us/\kk = .twice)\/(∃(kd x y:Str) (q:List V),ws = .str kd :: .str x :: .str y::q/\kd ∉ ([Str.ofString "dig",Str.ofString "unit",Str.ofString "find"]:List Str)/\((ws∈st.ts/\kk = .twice)\/(ws ∉ st.ts/\(x ∉ st.us\/y ∉ st.us)/\kk = .unit)))\/
    (∃(nm x:Str) (lo hi:Int),ws = [.str "find",.str nm,.str x,.int lo,.int hi]/\(((∃f∈st.fs,f.head? = some (.str nm))/\kk = .twice)\/((∀f∈st.fs,f.head?≠some (.str nm))/\x ∉ st.us/\kk = .unit))):=by
   cases ht with
   | unit hx=>exact .inl ⟨_,rfl,hx,rfl⟩
   | find h=>exact .inr (.inr ⟨_,_,_,_,rfl,.inl ⟨h,rfl⟩⟩)
   | qF hn h hx=>exact .inr (.inr ⟨_,_,_,_,rfl,.inr ⟨h,hx,rfl⟩⟩)
   | je e hk h=>exact .inr (.inl ⟨_,_,_,_,e,hk,.inl ⟨h,rfl⟩⟩)
   | tT e hk h hu=>exact .inr (.inl ⟨_,_,_,_,e,hk,.inr ⟨h,hu,rfl⟩⟩)
  rcases hb with ⟨x,ew,hx,ek⟩ | ⟨kd,x,y,q,ew,hk,hb⟩ | ⟨nm,x,lo,hi,ew,hb⟩
  ·subst ew ek;refine⟨_,rfl,a,_,_,_,rfl,rfl,aD.of ha,rfl,rfl,_,rfl,?_⟩;rw[mK (by decide +kernel)];refine aB ⟨_,rfl,a,_,_,_,rfl,rfl,aD.of ha,rfl,rfl,_,rfl,?_⟩;rw[yq rfl];exact br ⟨_,rfl,p,dx,_,rfl,h1,jL _ _ _ _ (by decide +kernel),_,rfl,a,_,_,_,rfl,rfl,aD.of ha,rfl,_,rfl,.inr ⟨p,du,dt,df,_,_,r,rfl,R,hx,fk,kE⟩⟩
  ·have i0:fG ws 0=some (.str kd):=by rw[ew];exact gI
   simp only [List.mem_cons,List.not_mem_nil,or_false,not_or] at hk;refine⟨_,rfl,a,_,_,_,rfl,rfl,aD.of ha,i0,rfl,_,rfl,?_⟩;rw[decide_eq_false (fun z=>hk.1 (V.str.inj z))];refine aB ⟨_,rfl,a,_,_,_,rfl,rfl,aD.of ha,i0,rfl,_,rfl,?_⟩;rw[decide_eq_false (fun z=>hk.2.1 (V.str.inj z))];refine aB ⟨_,rfl,a,_,_,_,rfl,rfl,aD.of ha,i0,rfl,_,rfl,?_⟩;rw[decide_eq_false (fun z=>hk.2.2 (V.str.inj z))];exact aB ⟨_,rfl,p,dx,_,rfl,h1,jL _ _ _ _ (by decide +kernel),_,rfl,_,rfl,.inr ⟨p,du,dt,df,a,st,ws,kd,x,y,q,r,kk,rfl,R,ha,ew,hw,hb,fk,kE⟩⟩
  ·subst ew;refine⟨_,rfl,a,_,_,_,rfl,rfl,aD.of ha,gI,rfl,_,rfl,?_⟩;rw[mK (by decide +kernel)];refine aB ⟨_,rfl,a,_,_,_,rfl,rfl,aD.of ha,gI,rfl,_,rfl,?_⟩;rw[mK (by decide +kernel)];refine aB ⟨_,rfl,a,_,_,_,rfl,rfl,aD.of ha,gI,rfl,_,rfl,?_⟩;rw[yq rfl];refine br ⟨_,rfl,p,dx,_,rfl,h1,jL _ _ _ _ (by decide +kernel),_,rfl,_,rfl,a,_,rfl,aD.of ha,pR,fun q hq=>?_⟩;rw[qm];have s1:=aa.new (o:=.tup [V.str nm,V.str x,V.int lo,V.int hi]) hq;exact⟨_,rfl,.inr ⟨p,du,dt,df,q,st,nm,x,lo,hi,r,kk,rfl,R.same s1,zd,jy,hb,fk,kE.same s1⟩⟩
theorem zev (T:Tx K mg w C_Reading zo zi zn ze zb zf zc zg zad zw zae zx zaf zy):qx P w K mg base C_Reading "take_entry" ["self","entry","row"] 5 (fun vs H Q E=>DP (C_Reading:=C_Reading) vs H Q E\/Kn (C_Reading:=C_Reading) (jf zn ze zb zf zc zg) vs H Q E):=((J2 T).x.or (V1 T)).mx
inductive iV:RS->List Str->bO->Prop where
 | dig {s:RS}{x:Str}{r:List Str}(h:decide (x=(Str.ofString "dig" : Str))≠s.fr.isNone):iV s (x::r) .row
 | ent {s:RS}{x:Str}{r:List Str}{k:bO}(h:decide (x=(Str.ofString "dig" : Str))=s.fr.isNone) (b:pS (x::r) k):iV s (x::r) k
 | take {s:RS}{kd:Str}{q:List V}{k:bO}(h:decide (kd=(Str.ofString "dig" : Str))=s.fr.isNone) (row:aS (.str kd::q)) (b:j0 s (.str kd::q) k):iV s ((V.str kd::q).map aR) k
def Ko (C:bO->Addr):Sp:=fun vs H Q E=>∃(p du dt df a:Addr) (s:RS) (wl:List Str) (r:Nat) (k:bO),vs = [.ref p,.ref a,.int r]/\aK C_Reading H p du dt df s/\ak K H a (wl.map V.str)/\wl.length<=900/\(∀x∈wl,x.length<=1000)/\iV s wl k/\(∀f∈s.fs,∃x r,f=V.str x::r)/\r<1000/\fM (C k) H E r
theorem V2 (T:Tx K mg w C_Reading zo zi zn ze zb zf zc zg zad zw zae zx zaf zy):bB P w K mg base (i6 P w) C_Reading "take_words" ["self","words","row"] 6 (Ko (K:=K) (C_Reading:=C_Reading) (jf zn ze zb zf zc zg)):=by
 refine T.IJ.lW Jo (fun vs H Q E h=>?_) (fun f ay A outer s H vs Q E hr h=>?_)
 ·obtain⟨p,du,dt,df,a,st,wl,r,k,rfl,_⟩:=h;rfl
 ·obtain⟨p,du,dt,df,a,st,wl,r,kk,rfl,R,ha,hn,hx,hb,jy,fk,kE⟩:=h;refine⟨_,(zk (cy (cO qf (rN iG (bI (cT K rfl) (pv 1) zr (fun _ _=>rfl)) zp (cK _)) (E4 (uI (iY (pv 0) rfl))) (cK _)) (zv (mH (yu T) T.vq (hr.mono (by decide)) aG (by rfl) T.vp (by decide) (za (pv 2) zh))) cQ)
   (zv (gX (qy (zev T) aG T.dz (hr.mono (by decide)) (pv 0) (za (HX (VS T) aG (hr.mono (by decide)) (by rfl) (za (pv 1) (za (pv 2) zh))) (za (pv 2) zh)))))),?_⟩
  obtain⟨dx,fv,h1,h2⟩:=R.ob;obtain⟨kd,rest,rfl⟩:∃kd rest,wl=kd::rest:=by
   cases hb with
   | dig h=>exact⟨_,_,rfl⟩
   | ent h b=>exact⟨_,_,rfl⟩
   | take h row b=>exact⟨_,_,rfl⟩
  refine⟨_,rfl,a,_,_,_,rfl,rfl,ha,gI,rfl,_,rfl,p,C_Reading,dx,_,_,rfl,h1,T.dz,T.tU,xT _ _ _ _,rfl,_,rfl,?_⟩;have e1:decide (V.str kd=V.str (Str.ofString "dig"))=decide (kd=(Str.ofString "dig" : Str)):=decide_eq_decide.mpr ⟨fun z=>V.str.inj z,fun z=>congrArg V.str z⟩;have e2:decide (fv = .aL)=st.fr.isNone:=by
   cases q:st.fr with
   | none=>rw[q] at h2;rw[show fv=V.aL from h2];rfl
   | some f=>
    rw[q] at h2;obtain⟨pp,e,_⟩:=h2;rw[e];rfl
  rw[e1,e2]
  by_cases hd:decide (kd=(Str.ofString "dig" : Str))=st.fr.isNone
  rotate_left
  ·have ek:kk = .row:=by
    generalize hw:kd::rest=wl at hb;cases hb with
    | dig h=>rfl
    | ent h b=>cases hw;exact absurd h hd
    | take h row b=>cases hw;exact absurd h hd
   subst ek;rw[decide_eq_false (fun z=>hd (V.bl.inj z))];exact br ⟨_,rfl,lJ r fk (aa.refl _) kE⟩
  rw[hd,decide_eq_true rfl];refine aB ⟨_,rfl,p,dx,_,rfl,h1,jL _ _ _ _ (by decide +kernel),_,rfl,_,rfl,?_⟩;generalize hw:kd::rest=wl at hb ha hn hx;cases hb with
  | dig h=>cases hw;exact absurd hd h
  | ent h b=>exact .inr ⟨a,_,r,kk,rfl,ha,hn,hx,fk,b,kE⟩
  | take h row b=>
   rename_i tX q';refine .inl ⟨a,_,_,rfl,by rw[List.map_map] at ha;exact ha,row,fun q H1 hq e s1=>?_⟩;exact⟨_,rfl,.inr ⟨p,du,dt,df,q,st,_,r,kk,rfl,R.same s1,e,b,row.wd,jy,fk,kE.same s1⟩⟩
theorem V3 (T:Tx K mg w C_Reading zo zi zn ze zb zf zc zg zad zw zae zx zaf zy):qx P w K mg base C_Reading "take_words" ["self","words","row"] 6 (fun vs H Q E=>DQ (K:=K) (C_Reading:=C_Reading) vs H Q E\/Ko (K:=K) (C_Reading:=C_Reading) (jf zn ze zb zf zc zg) vs H Q E):=((J4 T).x.or (V2 T)).mx
def yv (s:RS) (i:Nat):Prop:=(∀f∈s.fs,∃x r,f=V.str x::r)/\s.us.length<=i/\s.ts.length<=i/\s.fs.length<=i
theorem yv.step {s s':RS}{ws:List V}{i:Nat}(h:yv s i) (st:bV s ws s'):yv s' (i+1):=by
 obtain⟨a,b,c,d⟩:=h;cases st with
 | dig hl y1 y2=>exact⟨a,Nat.le_succ_of_le b,Nat.le_succ_of_le c,Nat.le_succ_of_le d⟩
 | unit hx hn=>exact⟨a,by simp at b ⊢;omega,by simp at c ⊢;omega,by simp at d ⊢;omega⟩
 | je ht hn=>exact⟨a,by simp at b ⊢;omega,by simp at c ⊢;omega,by simp at d ⊢;omega⟩
 | find hf=>
  refine⟨fun f DE=>?_,by simp at b ⊢;omega,by simp at c ⊢;omega,by simp at d ⊢;omega⟩;rcases List.mem_append.mp DE with z | z
  ·exact a f z
  ·rw[List.mem_singleton] at z;subst z;cases hf with
   | mk hn hx hl h1 h2 _=>exact⟨_,_,rfl⟩
def V4 (H:Hp) (s:RS) (lo hi:Int) (Q:VK):Prop:=∀(tl pm pu pt pf:Addr) (at' af:List Addr) (H':Hp),H tl=none->H pu=none->H pt=none->H pf=none->H' tl=some (.tup [.ref pm,.ref pu,.ref pt,.ref pf])->H' pm=some (.tup [.int lo,.int hi])->
  H' pu=some (.lst (s.us.map V.str))->H' pt=some (.lst (at'.map V.ref))->aP H' at' s.ts->H' pf=some (.lst (af.map V.ref))->aP H' af s.fs->pu≠pt->pu≠pf->pt≠pf->aa H H'->Q (.ref tl) H'
def V5:Sp:=fun vs H Q _=>∃(x:Str) (s:RS) (lo hi:Int),vs = [.str x]/\x.length<=1000000/\(∀l∈Txt.split x "\n",l.length<=1000000)/\(Txt.split x "\n").length<=900/\Reads ⟨none,[],[],[]⟩ (Txt.split x "\n") s/\s.fr=some (lo,hi)/\V4 H s lo hi Q
set_option maxHeartbeats 1000000 in
theorem V6 (T:Tx K mg w C_Reading zo zi zn ze zb zf zc zg zad zw zae zx zaf zy):fh P w K mg base "read_telling" ["text"] 7 V5:=by
 refine T.Jk.has az (fun vs H Q E h=>?_) (fun f ay A outer s H vs Q E hr h=>?_)
 ·obtain⟨x,st,lo,hi,rfl,_⟩:=h;rfl
 ·obtain⟨x,st,lo,hi,rfl,hl,lK,hn,rd,fR,k⟩:=h;refine⟨_,(zk (cy (mw (ly (cW (Ac K rfl) (by rfl) T.isinstance PyProof.Rows.boot_isinstance (za (pv 0) (za (vL (v:=.ty "str") (by rfl) T.str PyProof.Rows.boot_str rfl) zh))))) (zv mz) cQ)
   (zk (bQ (i:=1) az.nd rfl (Or.inl rfl) (GJ (JV T) T.IG T.II (hr.mono (by decide)) (by rfl) T.IF))
   (zk (uM PassesOwn.never rfl (GL K rfl 1 (by decide) (by rfl) T.enumerate (jW K rfl PySem.F.plainAttrs_str PySem.F.slot_str_split PySem.F.type_str_split Cy (pv 0) (za zp zh))) (sL K rfl rfl (j9 (d9 (i:=2) az.nd rfl (Or.inl rfl)) (j9 (d9 (i:=3) az.nd rfl (Or.inl rfl)) rF))) (zk (bQ (i:=4) az.nd rfl (Or.inl rfl) (b9 (JJ T) (hr.mono (by decide)) (by rfl) (za (pv 3) zh)))
    (zv (cy (mw (ly (b9 (JK T) (hr.mono (by decide)) (by rfl) (za (pv 4) zh)))) (zv (gX (qt (VB T) T.dz (hr.mono (by decide)) (pv 1) (za (pv 4) (za (pv 2) zh))))) cQ))))
   (zk (cy (lq (uI (iY (pv 1) rfl))) (zv mz) cQ)
   (zv (cH (GI (J7 T) T.dz (hr.mono (by decide)) (pv 1)))))))),?_⟩
  refine⟨_,rfl,_,_,_,true,rfl,.str _,rfl,_,rfl,aB ?_⟩;intro r dx tZ DV V7;have s0:aa H (upd (upd H dx (.own r)) r (.ins C_Reading dx [])):=fun b o e=>by
   rw[aJ (cI e tZ),aJ (cI e DV)];exact e
  refine⟨r,dx,rfl,zd,fun du dt df H1 f1 f2 f3 R1 kp=>⟨rfl,?_⟩⟩;have s1:aa H H1:=fun b o e=>kp b o (s0 b o e) (cI e tZ)
  have fu:=s0.free f1;have ft:=s0.free f2;have ff:=s0.free f3;refine⟨_,rfl,rfl,x,_,rfl,rfl,by decide +kernel,DG hl,AW x hl _,fun l bY=>?_⟩;generalize ua:Txt.split x (Str.ofString "\n")=lines at bY;have eL:Txt.split x "\n" = lines:=ua;rw[eL] at lK hn rd;have s2:=aa.new (o:=.lst (lines.map V.str)) bY;have fl:=s1.free bY;have DW:l≠r:=by
   rintro rfl;obtain⟨_,_,e,_⟩:=R1.ob;rw[e] at bY;cases bY
  have DX:l≠du:=fun e=>by subst e;rw[R1.u] at bY;cases bY
  have DY:l≠dt:=fun e=>by subst e;rw[R1.t] at bY;cases bY
  have DZ:l≠df:=fun e=>by
   subst e;obtain⟨_,_,e⟩:=R1.f;rw[e] at bY;cases bY
  refine⟨l,_,rfl,ak.of zd,GO (xs:=lines.map V.str) (fun i σ H'=>∃(si:RS) (v2 v3 v4:Option V),σ = [some (.str x),some (.ref r),v2,v3,v4]/\aK C_Reading H' r du dt df si/\Reads si (lines.drop i) st/\yv si i/\aa H H'/\H' l=some (.lst (lines.map V.str)))
   ⟨_,none,none,none,rfl,R1.same s2,by rw[List.drop_zero];exact rd,⟨(fun _ h=>nomatch h),Nat.le_refl _,Nat.le_refl _,Nat.le_refl _⟩,s1.trans s2,zd⟩ (fun i σ H' _ h=>by obtain⟨_,_,_,_,_,_,_,_,_,e⟩:=h;exact ak.of e) ?_ ?_⟩
  ·rintro i v σ H' Tp hv ⟨si,v2,v3,v4,rfl,R,kQ,fs,q,el⟩ D0;rw[List.getElem?_map] at hv;cases ey:lines[i]? with
   | none=>rw[ey] at hv;cases hv
   | some y=>
    rw[ey] at hv;cases hv;have hi:=(List.getElem?_eq_some_iff.mp ey).1;have ed:lines.drop i=y::lines.drop (i+1):=by
     rw[List.drop_eq_getElem_cons hi]
     congr 1
     exact (List.getElem?_eq_some_iff.mp ey).2
    rw[ed] at kQ;have sT:=aa.new (o:=.tup [.int ((1+i:Nat):Int),.str y]) D0;refine⟨Tp,_,rfl,aD.of zd,rfl,_,_,rfl,_,_,rfl,rfl,?_⟩;refine⟨_,rfl,y,rfl,lK y (List.mem_of_getElem? ey),fun D H2 fD hD pC=>?_⟩;have sA:=sT.trans pC;refine⟨_,rfl,D,_,rfl,ak.of hD,fun H3 s3=>⟨_,rfl,?_⟩⟩;have sB:=sA.trans s3;cases kQ with
    | skip h rr=>
     rw[h];exact aB ⟨si,_,_,_,rfl,R.same sB,rr,⟨fs.1,by have:=fs.2.1;omega,by have:=fs.2.2.1;omega,by have:=fs.2.2.2;omega⟩,q.trans sB,sB _ _ el⟩
    | row h pI rr=>
     rename_i sU ws;have np:=((pI.row R.names).1).gK;rw[h,np];obtain⟨oz,qu,oA,_⟩:=(R.same sB).ob;have nJ:ak K H3 D (ws.map fun v=>V.str (aR v)):=by
      have:=s3 _ _ hD;rw[h,List.map_map] at this;exact ak.of this
     refine br ⟨_,rfl,r,oz,_,rfl,oA,jL _ _ _ _ (by decide +kernel),_,rfl,_,rfl,r,du,dt,df,D,si,sU,ws,_,rfl,R.same sB,nJ,pI,⟨fs.1,by have:=fs.2.1;omega,by have:=fs.2.2.1;omega,by have:=fs.2.2.2;omega⟩,fun H4 R4 yw=>?_⟩;exact⟨sU,_,_,_,rfl,R4,rr,fs.step pI,cX.same (q.trans sB) yw tZ fu ft ff,yw _ _ (sB _ _ el) DW DX DY DZ⟩
  ·rintro σ H' ⟨si,v2,v3,v4,rfl,R,kQ,fs,q,el⟩;rw[List.length_map,List.drop_length] at kQ;cases kQ;obtain⟨oz,qu,oA,uc⟩:=R.ob;rw[fR] at uc;obtain⟨pm,rfl,J8⟩:=uc;refine⟨_,rfl,r,C_Reading,oz,_,_,rfl,oA,T.dz,T.tU,xT _ _ _ _,_,rfl,?_⟩;rw[decide_eq_false (fun z=>nomatch z)];refine aB ⟨_,rfl,r,oz,_,rfl,oA,jL _ _ _ _ (by decide +kernel),r,du,dt,df,st,lo,hi,rfl,R,fR,fun tl pm pu gw pf at' af H5 g1 g2 g3 g4 g5 g6 g7 g8 g9 ga gb gc gd ge sF=>?_⟩;exact k tl pm pu gw pf at' af H5 (q.free g1) (q.free g2) (q.free g3) (q.free g4) g5 g6 g7 g8 g9 ga gb gc gd ge (q.trans sF)
inductive Refs:RS->List Str->Nat->bO->Prop where
 | here {s:RS}{l:Str}{ls:List Str}{k:bO}(h:lF (Dm.wordsOf l)=false) (b:iV s (Dm.wordsOf l) k) (hw:(Dm.wordsOf l).length<=900/\∀y∈Dm.wordsOf l,y.length<=1000):Refs s (l::ls) 1 k
 | skip {s:RS}{l:Str}{ls:List Str}{n:Nat}{k:bO}(h:lF (Dm.wordsOf l)=true) (r:Refs s ls n k):Refs s (l::ls) (n+1) k
 | row {s s1:RS}{l:Str}{ls:List Str}{ws:List V}{n:Nat}{k:bO}(h:Dm.wordsOf l=ws.map aR) (st:bV s ws s1) (r:Refs s1 ls n k):Refs s (l::ls) (n+1) k
theorem Reads.refs {s s1:RS}{ls ms:List Str}{n:Nat}{k:bO}(h:Reads s ls s1) (h2:Refs s1 ms n k):Refs s (ls++ms) (ls.length+n) k:=by
 induction h with
 | nil=>rw[List.length_nil,Nat.zero_add];exact h2
 | skip h _ ih=>have:=Refs.skip h (ih h2);rw[List.length_cons,show ∀a:Nat,a+1+n=a+n+1 from fun a=>by omega];exact this
 | row h st _ ih=>have:=Refs.row h st (ih h2);rw[List.length_cons,show ∀a:Nat,a+1+n=a+n+1 from fun a=>by omega];exact this
inductive eO (H:Hp):V->Prop where
 | aL:eO H .aL
 | int (i:Int):eO H (.int i)
 | bl (b:Bool):eO H (.bl b)
 | lst {p:Addr}{xs:List V}(h:H p=some (.lst xs)):eO H (.ref p)
 | tup {p:Addr}{xs:List V}(h:H p=some (.tup xs)):eO H (.ref p)
theorem eO.ty {H:Hp}{v:V}(h:eO H v):∃t,fE K H v t/\PySem.W.kitOne K t (.type "str")=some false:=by
 cases h with
 | aL=>exact⟨_,.aL,rfl⟩
 | int i=>exact⟨_,.int i,rfl⟩
 | bl b=>exact⟨_,.bl b,rfl⟩
 | lst h=>exact⟨_,.lst h,rfl⟩
 | tup h=>exact⟨_,.tup h,rfl⟩
theorem eO.same {H H':Hp}{v:V}(h:eO H v) (s:aa H H'):eO H' v:=by
 cases h with
 | aL=>exact .aL
 | int i=>exact .int i
 | bl b=>exact .bl b
 | lst h=>exact .lst (s _ _ h)
 | tup h=>exact .tup (s _ _ h)
def j7 (H:Hp) (v:V) (r:Nat) (k:bO):Prop:=(∃x:Str,v = .str x/\x.length<=1000000/\(∀l∈Txt.split x "\n",l.length<=1000000)/\(Txt.split x "\n").length<=900/\(Refs ⟨none,[],[],[]⟩ (Txt.split x "\n") r k\/((∀l∈Txt.split x "\n",lF (Dm.wordsOf l)=true)/\r=0/\k = .row)))\/(eO H v/\r=0/\k = .row)
theorem j7.same {H H':Hp}{v:V}{r:Nat}{k:bO}(h:j7 H v r k) (s:aa H H'):j7 H' v r k:=h.elim .inl fun z=>.inr ⟨z.1.same s,z.2⟩
def Kp (C:bO->Addr):Sp:=fun vs H Q E=>∃(v:V) (r:Nat) (k:bO),vs = [v]/\j7 H v r k/\fM (C k) H E r
set_option maxHeartbeats 2000000 in
theorem V8 (T:Tx K mg w C_Reading zo zi zn ze zb zf zc zg zad zw zae zx zaf zy):eE P w K mg base "read_telling" ["text"] 7 (Kp (jf zn ze zb zf zc zg)):=by
 refine T.Jk.pL az (fun vs H Q E h=>?_) (fun f ay A outer s H vs Q E hr h=>?_)
 ·obtain⟨v,r0,kk,rfl,_⟩:=h;rfl
 ·obtain⟨v,r0,kk,rfl,hv,kE⟩:=h;refine⟨_,(zk (cy (mw (ly (cW (Ac K rfl) (by rfl) T.isinstance PyProof.Rows.boot_isinstance (za (pv 0) (za (vL (v:=.ty "str") (by rfl) T.str PyProof.Rows.boot_str rfl) zh))))) (zv (mH (yu T) T.vq (hr.mono (by decide)) aG (by rfl) T.vp (by decide) (za zr zh))) cQ)
   (zk (bQ (i:=1) az.nd rfl (Or.inl rfl) (GJ (JV T) T.IG T.II (hr.mono (by decide)) (by rfl) T.IF))
   (zk (uM aG.own rfl (GL K rfl 1 (by decide) (by rfl) T.enumerate (jW K rfl PySem.F.plainAttrs_str PySem.F.slot_str_split PySem.F.type_str_split Cy (pv 0) (za zp zh))) (sL K rfl rfl (j9 (d9 (i:=2) az.nd rfl (Or.inl rfl)) (j9 (d9 (i:=3) az.nd rfl (Or.inl rfl)) rF))) (zk (bQ (i:=4) az.nd rfl (Or.inl rfl) (b9 (JJ T) (hr.mono (by decide)) (by rfl) (za (pv 3) zh)))
    (zv (cy (mw (ly (b9 (JK T) (hr.mono (by decide)) (by rfl) (za (pv 4) zh)))) (zv (gX (qy (V3 T) aG T.dz (hr.mono (by decide)) (pv 1) (za (pv 4) (za (pv 2) zh))))) cQ))))
   (zk (cy (lq (uI (iY (pv 1) rfl))) (zv (mH (yu T) T.vq (hr.mono (by decide)) aG (by rfl) T.vp (by decide) (za zr zh))) cQ)
   (zv (cH (GI (J7 T) T.dz (hr.mono (by decide)) (pv 1)))))))),?_⟩
  rcases hv with ⟨x,rfl,hl,lK,hn,rd⟩ | ⟨hv,rfl,rfl⟩
  rotate_left
  ·obtain⟨t,ty,e⟩:=hv.ty (K:=K);exact⟨_,rfl,_,t,_,false,rfl,ty,e,_,rfl,br (lJ 0 (by decide) (aa.refl _) kE)⟩
  refine⟨_,rfl,_,_,_,true,rfl,.str _,rfl,_,rfl,aB ?_⟩;intro r dx tZ DV V7;have s0:aa H (upd (upd H dx (.own r)) r (.ins C_Reading dx [])):=fun b o e=>by
   rw[aJ (cI e tZ),aJ (cI e DV)];exact e
  refine⟨r,dx,rfl,zd,fun du dt df H1 f1 f2 f3 R1 kp=>⟨rfl,?_⟩⟩;have s1:aa H H1:=fun b o e=>kp b o (s0 b o e) (cI e tZ)
  have fu:=s0.free f1;have ft:=s0.free f2;have ff:=s0.free f3;refine⟨_,rfl,rfl,x,_,rfl,rfl,by decide +kernel,DG hl,AW x hl _,fun l bY=>?_⟩;generalize ua:Txt.split x (Str.ofString "\n")=lines at bY;have eL:Txt.split x "\n" = lines:=ua;rw[eL] at lK hn rd;have s2:=aa.new (o:=.lst (lines.map V.str)) bY;have fl:=s1.free bY;have DW:l≠r:=by
   rintro rfl;obtain⟨_,_,e,_⟩:=R1.ob;rw[e] at bY;cases bY
  have DX:l≠du:=fun e=>by subst e;rw[R1.u] at bY;cases bY
  have DY:l≠dt:=fun e=>by subst e;rw[R1.t] at bY;cases bY
  have DZ:l≠df:=fun e=>by
   subst e;obtain⟨_,_,e⟩:=R1.f;rw[e] at bY;cases bY
  refine⟨l,_,rfl,ak.of zd,GO (xs:=lines.map V.str) (fun i σ H'=>∃(si:RS) (v2 v3 v4:Option V) (n:Nat),σ = [some (.str x),some (.ref r),v2,v3,v4]/\aK C_Reading H' r du dt df si/\((Refs si (lines.drop i) n kk/\i+n=r0)\/((∀l∈lines,lF (Dm.wordsOf l)=true)/\si.fr=none/\r0=0/\kk = .row))/\yv si i/\aa H H'/\H' l=some (.lst (lines.map V.str)))
   ⟨_,none,none,none,r0,rfl,R1.same s2,rd.elim (fun z=>.inl ⟨by rw[List.drop_zero];exact z,Nat.zero_add _⟩) (fun z=>.inr ⟨z.1,rfl,z.2⟩),⟨(fun _ h=>nomatch h),Nat.le_refl _,Nat.le_refl _,Nat.le_refl _⟩,s1.trans s2,zd⟩ (fun i σ H' _ h=>by obtain⟨_,_,_,_,_,_,_,_,_,_,e⟩:=h;exact ak.of e) ?_ ?_⟩
  ·rintro i v σ H' Tp hv ⟨si,v2,v3,v4,n,rfl,R,kQ,fs,q,el⟩ D0;rw[List.getElem?_map] at hv;cases ey:lines[i]? with
   | none=>rw[ey] at hv;cases hv
   | some y=>
    rw[ey] at hv;cases hv;have hi:=(List.getElem?_eq_some_iff.mp ey).1;have ed:lines.drop i=y::lines.drop (i+1):=by
     rw[List.drop_eq_getElem_cons hi]
     congr 1
     exact (List.getElem?_eq_some_iff.mp ey).2
    have sT:=aa.new (o:=.tup [.int ((1+i:Nat):Int),.str y]) D0;refine⟨Tp,_,rfl,aD.of zd,rfl,_,_,rfl,_,_,rfl,rfl,?_⟩;refine⟨_,rfl,y,rfl,lK y (List.mem_of_getElem? ey),fun D H2 fD hD pC=>?_⟩;have sA:=sT.trans pC;refine⟨_,rfl,D,_,rfl,ak.of hD,fun H3 s3=>⟨_,rfl,?_⟩⟩;have sB:=sA.trans s3;rcases kQ with ⟨kQ,er⟩ | ⟨ap,fn,e0,e1⟩
    rotate_left
    ·rw[ap y (List.mem_of_getElem? ey)];exact aB ⟨si,_,_,_,0,rfl,R.same sB,.inr ⟨ap,fn,e0,e1⟩,⟨fs.1,by have:=fs.2.1;omega,by have:=fs.2.2.1;omega,by have:=fs.2.2.2;omega⟩,q.trans sB,sB _ _ el⟩
    rw[ed] at kQ;cases kQ with
    | here h b hw=>
     rw[h];obtain⟨oz,qu,oA,_⟩:=(R.same sB).ob;exact br ⟨_,rfl,r,oz,_,rfl,oA,jL _ _ _ _ (by decide +kernel),_,rfl,_,rfl,.inr ⟨r,du,dt,df,D,si,_,1+i,kk,rfl,R.same sB,ak.of (s3 _ _ hD),hw.1,hw.2,b,fs.1,by omega,(show fM _ H _ (1+i) by rw[show 1+i=r0 by omega];exact kE).same (q.trans sB)⟩⟩
    | skip h rr=>
     rw[h];exact aB ⟨si,_,_,_,_,rfl,R.same sB,.inl ⟨rr,by omega⟩,⟨fs.1,by have:=fs.2.1;omega,by have:=fs.2.2.1;omega,by have:=fs.2.2.2;omega⟩,q.trans sB,sB _ _ el⟩
    | row h pI rr=>
     rename_i sU ws n';have np:=((pI.row R.names).1).gK;rw[h,np];obtain⟨oz,qu,oA,_⟩:=(R.same sB).ob;have nJ:ak K H3 D (ws.map fun v=>V.str (aR v)):=by
      have:=s3 _ _ hD;rw[h,List.map_map] at this;exact ak.of this
     refine br ⟨_,rfl,r,oz,_,rfl,oA,jL _ _ _ _ (by decide +kernel),_,rfl,_,rfl,.inl ⟨r,du,dt,df,D,si,sU,ws,_,rfl,R.same sB,nJ,pI,⟨fs.1,by have:=fs.2.1;omega,by have:=fs.2.2.1;omega,by have:=fs.2.2.2;omega⟩,fun H4 R4 yw=>?_⟩⟩;exact⟨sU,_,_,_,_,rfl,R4,.inl ⟨rr,by omega⟩,fs.step pI,cX.same (q.trans sB) yw tZ fu ft ff,yw _ _ (sB _ _ el) DW DX DY DZ⟩
  ·rintro σ H' ⟨si,v2,v3,v4,n,rfl,R,kQ,fs,q,el⟩;rcases kQ with ⟨kQ,er⟩ | ⟨ap,fn,e0,e1⟩
   ·rw[List.length_map,List.drop_length] at kQ;cases kQ
   ·obtain⟨oz,qu,oA,uc⟩:=R.ob;rw[fn] at uc;have uc:qu = .aL:=uc;subst uc e0 e1;refine⟨_,rfl,r,C_Reading,oz,_,_,rfl,oA,T.dz,T.tU,xT _ _ _ _,_,rfl,?_⟩;rw[decide_eq_true rfl];exact br (lJ 0 (by decide) q kE)
theorem V9 (T:Tx K mg w C_Reading zo zi zn ze zb zf zc zg zad zw zae zx zaf zy):eE P w K mg base "read_telling" ["text"] 7 (Kp (jf zn ze zb zf zc zg)):=V8 T
def iW:bO->List Bool
 | .row=>[true,false,false,false,false,false]
 | .name=>[false,true,false,false,false,false]
 | .number=>[false,false,true,false,false,false]
 | .span=>[false,false,false,true,false,false]
 | .twice=>[false,false,false,false,true,false]
 | .unit=>[false,false,false,false,false,true]
def mO:bO->Str
 | .row=>"row"
 | .name=>"name"
 | .number=>"number"
 | .span=>"span"
 | .twice=>"twice"
 | .unit=>"unit"
def vv (r:Nat) (k:bO):List V:=.int r::((iW k).map V.bl++[.bl true,.bl true]++List.replicate 6 (.bl false))
def Wa:Sp:=fun vs H Q _=>∃(x:V) (r:Nat) (k:bO),vs = [x]/\j7 H x r k/\∀(q:Addr) (H':Hp),aa H H'->H' q=some (.tup (vv r k))->Q (.ref q) H'
set_option maxHeartbeats 8000000 in
theorem Wb (T:Tx K mg w C_Reading zo zi zn ze zb zf zc zg zad zw zae zx zaf zy):fh P w K mg base "_law_refused" ["_law_text"] 8 Wa:=by
 refine T.Up.has aO (fun vs H Q E h=>?_) (fun f ay A outer s H vs Q E hr h=>?_)
 ·obtain⟨x,r,k,rfl,_⟩:=h;rfl
 ·obtain⟨x,r,kk,rfl,rd,k⟩:=h;refine⟨_,(zk (bQ (i:=1) aO.nd rfl (Or.inl rfl) (dJ zh))
   (zk (Qm ⟨rfl,rfl,rfl⟩ (fun pn xe Es pt=>(zv (gX (Ql (V9 T) pt (hr.mono (by decide)) (by rfl) (za (pv 0) zh))))) (Qq (i:=2) ⟨rfl,rfl,rfl⟩ (by rfl) T.IT T.Rl aO.nd rfl rfl (fun _ _=>(zk (bQ (i:=1) aO.nd rfl (Or.inl rfl) (dJ (za (Qy K rfl (pv 2) rfl) (za (cW (lV K rfl) (by rfl) T.isinstance PyProof.Rows.boot_isinstance (za (pv 2) (za (jQ (v:=.ref zn) (by rfl) T.vp rfl) zh))) (za (cW (lV K rfl) (by rfl) T.isinstance PyProof.Rows.boot_isinstance (za (pv 2) (za (jQ (v:=.ref ze) (by rfl) T.IX rfl) zh))) (za (cW (lV K rfl) (by rfl) T.isinstance PyProof.Rows.boot_isinstance (za (pv 2) (za (jQ (v:=.ref zb) (by rfl) T.I0 rfl) zh))) (za (cW (lV K rfl) (by rfl) T.isinstance PyProof.Rows.boot_isinstance (za (pv 2) (za (jQ (v:=.ref zf) (by rfl) T.Jc rfl) zh))) zh)))))))
    (zk (bQ (i:=1) aO.nd rfl (Or.inl rfl) (ao (n9 K rfl) (pv 1) (dJ (za (cW (lV K rfl) (by rfl) T.isinstance PyProof.Rows.boot_isinstance (za (pv 2) (za (jQ (v:=.ref zc) (by rfl) T.AJ rfl) zh))) (za (cW (lV K rfl) (by rfl) T.isinstance PyProof.Rows.boot_isinstance (za (pv 2) (za (jQ (v:=.ref zg) (by rfl) T.Dt rfl) zh))) (za (cW (lV K rfl) (by rfl) T.isinstance PyProof.Rows.boot_isinstance (za (pv 2) (za (jQ (v:=.ref zo) (by rfl) T.IS rfl) zh))) zh))))))
    (zk (bQ (i:=1) aO.nd rfl (Or.inl rfl) (ao (n9 K rfl) (pv 1) (dJ (za (cW (QF K rfl) (by rfl) T.isinstance PyProof.Rows.boot_isinstance (za (pv 2) (za (vL (v:=.ty "ValueError") (by rfl) T.ValueError L2.iw rfl) zh))) (za (cW (lV K rfl) (by rfl) T.isinstance PyProof.Rows.boot_isinstance (za (pv 2) (za (jQ (v:=.ref zad) (by rfl) T.RP rfl) zh))) (za (cW (lV K rfl) (by rfl) T.isinstance PyProof.Rows.boot_isinstance (za (pv 2) (za (jQ (v:=.ref zw) (by rfl) T.RQ rfl) zh))) (za (cW (lV K rfl) (by rfl) T.isinstance PyProof.Rows.boot_isinstance (za (pv 2) (za (jQ (v:=.ref zae) (by rfl) T.RT rfl) zh))) zh)))))))
    (zv (bQ (i:=1) aO.nd rfl (Or.inl rfl) (ao (n9 K rfl) (pv 1) (dJ (za (cW (lV K rfl) (by rfl) T.isinstance PyProof.Rows.boot_isinstance (za (pv 2) (za (jQ (v:=.ref zx) (by rfl) T.RU rfl) zh))) (za (cW (lV K rfl) (by rfl) T.isinstance PyProof.Rows.boot_isinstance (za (pv 2) (za (jQ (v:=.ref zaf) (by rfl) T.RV rfl) zh))) (za (cW (lV K rfl) (by rfl) T.isinstance PyProof.Rows.boot_isinstance (za (pv 2) (za (jQ (v:=.ref zy) (by rfl) T.RW rfl) zh))) zh))))))))))) Qp))
   (zv (cH (pv 1))))),?_⟩
  refine⟨by show 0<=sizeLine;decide,fun b0 Wc=>?_⟩;have t0:=aa.new (o:=.tup []) Wc;have e0:upd H b0 (.tup []) b0=some (.tup []):=zd;generalize upd H b0 (.tup [])=H0 at t0 e0;obtain⟨C,b1,b2,b3,b4,b5,b6,eC,eB,fs,fg,fi,fa,f1,f2,f3,f4,f5,f6,f7,f8,f9,fb,fc,fd,fe,ff⟩:∃(C:Addr) (b1 b2 b3 b4 b5 b6:Bool),jf zn ze zb zf zc zg kk=C/\iW kk = [b1,b2,b3,b4,b5,b6]/\PySem.W.mroIn K C (.ref zi)=some true/\dj K C/\iu K C/\av K C "row"/\PySem.W.kitOne K (.ref C) (.ref zn)=some b1/\PySem.W.kitOne K (.ref C) (.ref ze)=some b2/\PySem.W.kitOne K (.ref C) (.ref zb)=some b3/\PySem.W.kitOne K (.ref C) (.ref zf)=some b4/\PySem.W.kitOne K (.ref C) (.ref zc)=some b5/\PySem.W.kitOne K (.ref C) (.ref zg)=some b6/\PySem.W.kitOne K (.ref C) (.ref zo)=some true/\PySem.W.kitOne K (.ref C) (.type "ValueError")=some true/\PySem.W.kitOne K (.ref C) (.ref zad)=some false/\PySem.W.kitOne K (.ref C) (.ref zw)=some false/\PySem.W.kitOne K (.ref C) (.ref zae)=some false/\PySem.W.kitOne K (.ref C) (.ref zx)=some false/\PySem.W.kitOne K (.ref C) (.ref zaf)=some false/\PySem.W.kitOne K (.ref C) (.ref zy)=some false:=by
   cases kk with
   | row=>exact⟨zn,true,false,false,false,false,false,rfl,rfl,T.RX,T.Rq,T.Rr,T.IW,T.R6,T.R7,T.R8,T.R9,T.Sa,T.Sb,T.Sd,T.Se,T.Sf,T.Sg,T.Sh,T.Si,T.Sj,T.Sk⟩
   | name=>exact⟨ze,false,true,false,false,false,false,rfl,rfl,T.R0,T.Rw,T.Rx,T.IZ,T.S0,T.S1,T.S2,T.S3,T.S4,T.S5,T.S6,T.S7,T.S8,T.S9,T.Tc,T.Td,T.Tf,T.Tg⟩
   | number=>exact⟨zb,false,false,true,false,false,false,rfl,rfl,T.RZ,T.RA,T.RB,T.Jb,T.SG,T.SH,T.SJ,T.SK,T.SM,T.SN,T.SO,T.SQ,T.SR,T.SS,T.SV,T.SW,T.SX,T.SY⟩
   | span=>exact⟨zf,false,false,false,true,false,false,rfl,rfl,T.RY,T.RE,T.RG,T.Je,T.Sl,T.Sm,T.Sn,T.So,T.Sq,T.Ss,T.Su,T.Sv,T.Sw,T.Sx,T.Sy,T.Sz,T.SA,T.SE⟩
   | twice=>exact⟨zc,false,false,false,false,true,false,rfl,rfl,T.R3,T.RJ,T.RK,T.Jf,T.Th,T.Ti,T.Tj,T.Tn,T.To,T.Tq,T.Tr,T.Tt,T.Tu,T.Tv,T.Tw,T.Tz,T.TF,T.TL⟩
   | unit=>exact⟨zg,false,false,false,false,false,true,rfl,rfl,T.R5,T.Jg,T.RN,T.Dv,T.TM,T.TN,T.TQ,T.TR,T.TU,T.TV,T.TX,T.TY,T.TZ,T.T3,T.T4,T.T5,T.T6,T.T7⟩
  refine⟨_,rfl,x,r,kk,rfl,rd.same t0,fun d H1 s1 hd=>?_⟩;rw[eC];refine⟨C,rfl,true,fs,?_⟩;rw[if_pos rfl];intro e he;have t2:=aa.new (o:=gP e C (some d)) he;have he:upd H1 e (gP e C (some d)) e=some (gP e C (some d)):=zd;have hd:=t2 _ _ hd;generalize upd H1 e (gP e C (some d))=H2 at t2 he hd;refine⟨_,rfl,e,C,d,_,_,rfl,he,hd,fg,fa,rfl,?_⟩;refine⟨_,rfl,e,C,d,_,_,_,rfl,he,hd,fg,fi,f1,?_⟩;refine⟨_,rfl,e,C,d,_,_,_,rfl,he,hd,fg,fi,f2,?_⟩;refine⟨_,rfl,e,C,d,_,_,_,rfl,he,hd,fg,fi,f3,?_⟩;refine⟨_,rfl,e,C,d,_,_,_,rfl,he,hd,fg,fi,f4,by show 5<=sizeLine;decide,fun p1 j6=>?_⟩;obtain⟨t3,yx⟩:aa H2 (upd H2 p1 (.tup [.int r,.bl b1,.bl b2,.bl b3,.bl b4]))/\upd H2 p1 (.tup [.int r,.bl b1,.bl b2,.bl b3,.bl b4]) p1=some (.tup [.int r,.bl b1,.bl b2,.bl b3,.bl b4]):=⟨aa.new j6,zd⟩;generalize upd H2 p1 (.tup [.int r,.bl b1,.bl b2,.bl b3,.bl b4])=H3 at t3 yx;have he:=t3 _ _ he;have hd:=t3 _ _ hd
  try dsimp only [bM]
  refine⟨_,rfl,?_⟩;refine⟨_,rfl,e,C,d,_,_,_,rfl,he,hd,fg,fi,f5,?_⟩;refine⟨_,rfl,e,C,d,_,_,_,rfl,he,hd,fg,fi,f6,?_⟩;refine⟨_,rfl,e,C,d,_,_,_,rfl,he,hd,fg,fi,f7,by show 3<=sizeLine;decide,fun p2 gQ=>?_⟩;obtain⟨t4,yy⟩:aa H3 (upd H3 p2 (.tup [.bl b5,.bl b6,.bl true]))/\upd H3 p2 (.tup [.bl b5,.bl b6,.bl true]) p2=some (.tup [.bl b5,.bl b6,.bl true]):=⟨aa.new gQ,zd⟩;generalize upd H3 p2 (.tup [.bl b5,.bl b6,.bl true])=H4 at t4 yy;have he:=t4 _ _ he;have hd:=t4 _ _ hd;refine⟨p1,p2,_,_,rfl,rfl,aD.of (t4 _ _ yx),aD.of yy,(fun z=>nomatch z),(by show 8<=sizeLine;decide),(fun z=>nomatch z),fun _ p3 jA=>?_⟩;obtain⟨t5,yz⟩:aa H4 (upd H4 p3 (.tup ([.int r,.bl b1,.bl b2,.bl b3,.bl b4]++[.bl b5,.bl b6,.bl true])))/\upd H4 p3 (.tup ([.int r,.bl b1,.bl b2,.bl b3,.bl b4]++[.bl b5,.bl b6,.bl true])) p3=some (.tup [.int r,.bl b1,.bl b2,.bl b3,.bl b4,.bl b5,.bl b6,.bl true]):=⟨aa.new jA,zd⟩;generalize upd H4 p3 (.tup ([.int r,.bl b1,.bl b2,.bl b3,.bl b4]++[.bl b5,.bl b6,.bl true]))=H5 at t5 yz;have he:=t5 _ _ he;have hd:=t5 _ _ hd
  try dsimp only [bM]
  refine⟨_,rfl,?_⟩;refine⟨_,rfl,e,C,d,_,_,_,rfl,he,hd,fg,fi,f8,?_⟩;refine⟨_,rfl,e,C,d,_,_,_,rfl,he,hd,fg,fi,f9,?_⟩;refine⟨_,rfl,e,C,d,_,_,_,rfl,he,hd,fg,fi,fb,?_⟩;refine⟨_,rfl,e,C,d,_,_,_,rfl,he,hd,fg,fi,fc,by show 4<=sizeLine;decide,fun p4 tW=>?_⟩;obtain⟨t6,yC⟩:aa H5 (upd H5 p4 (.tup [.bl true,.bl false,.bl false,.bl false]))/\upd H5 p4 (.tup [.bl true,.bl false,.bl false,.bl false]) p4=some (.tup [.bl true,.bl false,.bl false,.bl false]):=⟨aa.new tW,zd⟩;generalize upd H5 p4 (.tup [.bl true,.bl false,.bl false,.bl false])=H6 at t6 yC;have he:=t6 _ _ he;have hd:=t6 _ _ hd;refine⟨p3,p4,_,_,rfl,rfl,aD.of (t6 _ _ yz),aD.of yC,(fun z=>nomatch z),(by show 12<=sizeLine;decide),(fun z=>nomatch z),fun _ p5 yj=>?_⟩;obtain⟨t7,yD⟩:aa H6 (upd H6 p5 (.tup ([.int r,.bl b1,.bl b2,.bl b3,.bl b4,.bl b5,.bl b6,.bl true]++[.bl true,.bl false,.bl false,.bl false])))/\upd H6 p5 (.tup ([.int r,.bl b1,.bl b2,.bl b3,.bl b4,.bl b5,.bl b6,.bl true]++[.bl true,.bl false,.bl false,.bl false])) p5=some (.tup [.int r,.bl b1,.bl b2,.bl b3,.bl b4,.bl b5,.bl b6,.bl true,.bl true,.bl false,.bl false,.bl false]):=⟨aa.new yj,zd⟩;generalize upd H6 p5 (.tup ([.int r,.bl b1,.bl b2,.bl b3,.bl b4,.bl b5,.bl b6,.bl true]++[.bl true,.bl false,.bl false,.bl false]))=H7 at t7 yD;have he:=t7 _ _ he;have hd:=t7 _ _ hd
  try dsimp only [bM]
  refine⟨_,rfl,?_⟩;refine⟨_,rfl,e,C,d,_,_,_,rfl,he,hd,fg,fi,fd,?_⟩;refine⟨_,rfl,e,C,d,_,_,_,rfl,he,hd,fg,fi,fe,?_⟩;refine⟨_,rfl,e,C,d,_,_,_,rfl,he,hd,fg,fi,ff,by show 3<=sizeLine;decide,fun p6 qK=>?_⟩;obtain⟨t8,yE⟩:aa H7 (upd H7 p6 (.tup [.bl false,.bl false,.bl false]))/\upd H7 p6 (.tup [.bl false,.bl false,.bl false]) p6=some (.tup [.bl false,.bl false,.bl false]):=⟨aa.new qK,zd⟩;generalize upd H7 p6 (.tup [.bl false,.bl false,.bl false])=H8 at t8 yE;have he:=t8 _ _ he;have hd:=t8 _ _ hd;refine⟨p5,p6,_,_,rfl,rfl,aD.of (t8 _ _ yD),aD.of yE,(fun z=>nomatch z),(by show 15<=sizeLine;decide),(fun z=>nomatch z),fun _ p7 D6=>?_⟩;obtain⟨t9,yF⟩:aa H8 (upd H8 p7 (.tup ([.int r,.bl b1,.bl b2,.bl b3,.bl b4,.bl b5,.bl b6,.bl true,.bl true,.bl false,.bl false,.bl false]++[.bl false,.bl false,.bl false])))/\upd H8 p7 (.tup ([.int r,.bl b1,.bl b2,.bl b3,.bl b4,.bl b5,.bl b6,.bl true,.bl true,.bl false,.bl false,.bl false]++[.bl false,.bl false,.bl false])) p7=some (.tup [.int r,.bl b1,.bl b2,.bl b3,.bl b4,.bl b5,.bl b6,.bl true,.bl true,.bl false,.bl false,.bl false,.bl false,.bl false,.bl false]):=⟨aa.new D6,zd⟩;generalize upd H8 p7 (.tup ([.int r,.bl b1,.bl b2,.bl b3,.bl b4,.bl b5,.bl b6,.bl true,.bl true,.bl false,.bl false,.bl false]++[.bl false,.bl false,.bl false]))=H9 at t9 yF;have he:=t9 _ _ he;have hd:=t9 _ _ hd;refine⟨_,rfl,k p7 _ (t0.trans (s1.trans (t2.trans (t3.trans (t4.trans (t5.trans (t6.trans (t7.trans (t8.trans t9))))))))) ?_⟩;unfold vv;rw[eB];exact yF
def pT:List Str:=["row","name","number","span","twice","unit"]
theorem We (k:bO):(pT.map fun x=>decide (V.str x=V.str (mO k)))=iW k:=by cases k<;>decide +kernel
theorem AY (r:Nat) (k:bO):∀x∈vv r k,iZ x=true:=by cases k<;>simp[vv,iW,iZ]
def Wf:Sp:=fun vs H Q _=>∃(x:V) (r:Nat) (k:bO),vs = [x,.int r,.str (mO k)]/\j7 H x r k/\∀H',aa H H'->Q (.bl true) H'
set_option maxHeartbeats 8000000 in
theorem D7 (T:Tx K mg w C_Reading zo zi zn ze zb zf zc zg zad zw zae zx zaf zy):fh P w K mg base "_law_is_refused" ["_law_text","_law_row","_law_way"] 9 Wf:=by
 refine T.Uq.has bW (fun vs H Q E h=>?_) (fun f ay A outer s H vs Q E hr h=>?_)
 ·obtain⟨x,r,k,rfl,_⟩:=h;rfl
 ·obtain⟨x,r,kk,rfl,rd,k⟩:=h;refine⟨_,(zk (bQ (i:=3) bW.nd rfl (Or.inl rfl) (b9 (Wb T) (hr.mono (by decide)) (by rfl) (za (pv 0) zh)))
   (zk (cy (PW.pt (rA (cO (sJ K rfl (jX hr)) (pv 3) (dJ zh) (cK _)) (rA (mw (ly (cW (Ac K rfl) (by rfl) T.isinstance PyProof.Rows.boot_isinstance (za (bI (gH K rfl) (pv 3) zr (fun _ _=>rfl)) (za (vL (v:=.ty "int") (by rfl) T.int PyProof.Rows.boot_int rfl) zh))))) (vM (ly (cW (Ac K rfl) (by rfl) T.isinstance PyProof.Rows.boot_isinstance (za (bI (gH K rfl) (pv 3) zr (fun _ _=>rfl)) (za (vL (v:=.ty "bool") (by rfl) T.bool PyProof.Rows.boot_bool rfl) zh)))))))) (zv (cH mq)) cQ)
   (zk (bQ (i:=4) bW.nd rfl (Or.inl rfl) (dm (za zp (za zp (za zp (za zp (za zp (za zp zh))))))))
   (zv (cH (rN (sJ K rfl (jX hr)) (pv 3) (ao (n9 K rfl) (ao (n9 K rfl) (ao (n9 K rfl) (dJ (za (pv 1) zh)) (nX (Cv K rfl) (by rfl) T.tuple PyProof.Rows.boot_tuple (za (pA (own:=["_law_one"]) (cap:=["_law_way"]) (ix:=[2]) (jV:=zm (top 43)) rfl ⟨rfl,by decide +kernel,by decide +kernel,by decide +kernel,by decide +kernel⟩ rfl (lR K rfl (pv 4)) (fun _ _ _ _=>d9 (i:=0) (show List.Nodup (["_law_one","_law_way"]:List Str) by decide +kernel) rfl (Or.inl rfl)) (fun _ _ _ _=>m8) (fun _ _ _ _=>(rN iG (pv 0) (pv 1) (cK _)))) zh))) (dJ (za mq (za mq zh)))) (ao (Rh K rfl) (dJ (za mq zh)) zr)) (cK _))))))),?_⟩
  refine⟨_,rfl,x,r,kk,rfl,rd,fun q H1 s1 hq=>?_⟩
  try dsimp only [bM]
  refine sM false (fun Q' hQ=>?_) (fun H2 s2=>aB ?_)
  ·refine⟨_,rfl,by show 0<=sizeLine;decide,fun b hb=>?_⟩;have t2:=aa.new (o:=.tup []) hb;have e:=b8.iK (n:=7) (K:=K) (aD.of (t2 _ _ hq)) (aD.of (zd (H:=H1) (a:=b) (o:=.tup []))) (AY r kk) (by simp);refine⟨q,b,_,rfl,rfl,e,_,rfl,?_⟩;rw[show u5 (vv r kk) []=false from rfl];refine aB ⟨_,rfl,q,_,_,_,rfl,rfl,aD.of (t2 _ _ hq),gI,_,_,_,true,rfl,.int _,rfl,_,rfl,aB ⟨_,rfl,q,_,_,_,rfl,rfl,aD.of (t2 _ _ hq),gI,_,_,_,false,rfl,.int _,rfl,_,rfl,hQ _ t2⟩⟩
  try unfold nV
  try dsimp only
  have Wg:=s2 _ _ hq;refine⟨by show 6<=sizeLine;decide,fun l nZ=>?_⟩;obtain⟨t3,e3⟩:aa H2 (upd H2 l (.lst [V.str (Str.ofString "row"),V.str (Str.ofString "name"),V.str (Str.ofString "number"),V.str (Str.ofString "span"),V.str (Str.ofString "twice"),V.str (Str.ofString "unit")]))/\upd H2 l (.lst [V.str (Str.ofString "row"),V.str (Str.ofString "name"),V.str (Str.ofString "number"),V.str (Str.ofString "span"),V.str (Str.ofString "twice"),V.str (Str.ofString "unit")]) l=some (.lst (pT.map V.str)):=⟨aa.new nZ,zd⟩;generalize upd H2 l (.lst [V.str (Str.ofString "row"),V.str (Str.ofString "name"),V.str (Str.ofString "number"),V.str (Str.ofString "span"),V.str (Str.ofString "twice"),V.str (Str.ofString "unit")])=H3 at t3 e3
  try dsimp only [bM]
  refine⟨_,rfl,_,rfl,by show 1<=sizeLine;decide,fun p1 h1=>?_⟩;obtain⟨w1,Kq⟩:aa H3 (upd H3 p1 (.tup [.int r]))/\upd H3 p1 (.tup [.int r]) p1=some (.tup [.int r]):=⟨aa.new h1,zd⟩;generalize upd H3 p1 (.tup [.int r])=G1 at w1 Kq;refine⟨_,rfl,l,rfl,⟨_,ak.of (w1 _ _ e3)⟩,fun D hD=>?_⟩;refine zZ (nj (K:=K) (a:=l) (xs:=pT.map V.str)) (fun _=>true) (fun v=>.bl (decide (v = .str (mO kk)))) (fun ys=>(aa.new hD).seq (ak.of (w1 _ _ e3))) (by show 6<=sizeLine;decide) (fun v hv ys Q' q=>q) (fun v hv _ ys Q' q=>?_) ?_
  ·obtain⟨y,_,rfl⟩:=List.mem_map.mp hv;exact⟨_,rfl,_,rfl,rfl,q⟩
  rw[List.filter_eq_self.mpr (fun _ _=>rfl),List.map_map,show (pT.map ((fun v=>V.bl (decide (v=V.str (mO kk)))) ∘ V.str))=(iW kk).map V.bl by rw[←We kk,List.map_map];rfl];obtain⟨w2,Kr⟩:aa G1 (upd G1 D (.lst ((iW kk).map V.bl)))/\upd G1 D (.lst ((iW kk).map V.bl)) D=some (.lst ((iW kk).map V.bl)):=⟨aa.new hD,zd⟩;generalize upd G1 D (.lst ((iW kk).map V.bl))=G2 at w2 Kr;have lb:((iW kk).map V.bl).length=6:=by cases kk<;>rfl
  refine⟨D,_,rfl,.inl ⟨ak.of Kr,fun p2 h2=>?_⟩⟩;obtain⟨w3,Ks⟩:aa G2 (upd G2 p2 (.tup ((iW kk).map V.bl)))/\upd G2 p2 (.tup ((iW kk).map V.bl)) p2=some (.tup ((iW kk).map V.bl)):=⟨aa.new h2,zd⟩;generalize upd G2 p2 (.tup ((iW kk).map V.bl))=G3 at w3 Ks;refine⟨p1,p2,_,_,rfl,rfl,aD.of (w3 _ _ (w2 _ _ Kq)),aD.of Ks,(fun z=>nomatch z),(by rw[lb];show 1+6<=sizeLine;decide),(fun z=>by rw[z] at lb;cases lb),fun _ p3 h3=>?_⟩;obtain⟨w4,Ku⟩:aa G3 (upd G3 p3 (.tup ([.int r]++(iW kk).map V.bl)))/\upd G3 p3 (.tup ([.int r]++(iW kk).map V.bl)) p3=some (.tup ([.int r]++(iW kk).map V.bl)):=⟨aa.new h3,zd⟩;generalize upd G3 p3 (.tup ([.int r]++(iW kk).map V.bl))=G4 at w4 Ku;refine⟨by show 2<=sizeLine;decide,fun p4 h4=>?_⟩;obtain⟨w5,Kv⟩:aa G4 (upd G4 p4 (.tup [.bl true,.bl true]))/\upd G4 p4 (.tup [.bl true,.bl true]) p4=some (.tup [.bl true,.bl true]):=⟨aa.new h4,zd⟩;generalize upd G4 p4 (.tup [.bl true,.bl true])=G5 at w5 Kv;refine⟨p3,p4,_,_,rfl,rfl,aD.of (w5 _ _ Ku),aD.of Kv,(fun z=>nomatch z),(by rw[List.length_append,lb];show 1+6+2<=sizeLine;decide),(fun z=>nomatch z),fun _ p5 h5=>?_⟩;obtain⟨w6,Kw⟩:aa G5 (upd G5 p5 (.tup ([.int r]++(iW kk).map V.bl++[.bl true,.bl true])))/\upd G5 p5 (.tup ([.int r]++(iW kk).map V.bl++[.bl true,.bl true])) p5=some (.tup ([.int r]++(iW kk).map V.bl++[.bl true,.bl true])):=⟨aa.new h5,zd⟩;generalize upd G5 p5 (.tup ([.int r]++(iW kk).map V.bl++[.bl true,.bl true]))=G6 at w6 Kw;refine⟨by show 1<=sizeLine;decide,fun p6 h6=>?_⟩;obtain⟨w7,Ky⟩:aa G6 (upd G6 p6 (.tup [.bl false]))/\upd G6 p6 (.tup [.bl false]) p6=some (.tup [.bl false]):=⟨aa.new h6,zd⟩;generalize upd G6 p6 (.tup [.bl false])=G7 at w7 Ky;refine⟨p6,_,rfl,rfl,aD.of Ky,fun p7 h7=>?_⟩;obtain⟨w8,Kz⟩:aa G7 (upd G7 p7 (.tup (List.replicate 6 (.bl false))))/\upd G7 p7 (.tup (List.replicate 6 (.bl false))) p7=some (.tup (List.replicate 6 (.bl false))):=⟨aa.new h7,zd⟩;generalize upd G7 p7 (.tup (List.replicate 6 (.bl false)))=G8 at w8 Kz;refine⟨p5,p7,_,_,rfl,rfl,aD.of (w8 _ _ (w7 _ _ Kw)),aD.of Kz,(fun z=>nomatch z),(by rw[List.length_append,List.length_append,lb];show 1+6+2+6<=sizeLine;decide),(fun z=>nomatch z),fun _ p8 h8=>?_⟩;have w9:=aa.new (o:=.tup ([.int r]++(iW kk).map V.bl++[.bl true,.bl true]++List.replicate 6 (.bl false))) h8;have qq:=t3.trans (w1.trans (w2.trans (w3.trans (w4.trans (w5.trans (w6.trans (w7.trans (w8.trans w9))))))));have e:=b8.iK (n:=7) (K:=K) (aD.of (qq _ _ Wg)) (aD.of (zd (H:=G8) (a:=p8) (o:=.tup (vv r kk)))) (AY r kk) (AY r kk);rw[xq (AY r kk)] at e;exact⟨q,p8,true,rfl,rfl,e,k _ (s1.trans (s2.trans qq))⟩
def fV (w:Str):Prop:=32 ∉ co w/\10 ∉ co w/\co w≠[]/\w.length<=90
instance (w:Str):Decidable (fV w):=by unfold fV;infer_instance
theorem jg {x:Str}(h:bq x=true):fV x:=⟨fun z=>((mF h).1 32 z).1 rfl,fun z=>((mF h).1 10 z).2.1 rfl,(mF h).2,by have:=mE h;omega⟩
theorem KA {ln:Str}{ws:List Str}(iL:ws≠[]) (e:ln=aW (ws.map V.str)) (hw:∀w∈ws,fV w) (hl:ws.length<=6):Dm.wordsOf ln=ws/\10 ∉ co ln/\ln.length<=700:=by
 have hm:∀v∈ws.map V.str,∃w∈ws,v=V.str w:=fun v hv=>by
  obtain⟨w,h,rfl⟩:=List.mem_map.mp hv;exact⟨w,h,rfl⟩
 refine⟨?_,?_,?_⟩
 ·rw[e,HK (fun z=>iL (List.map_eq_nil_iff.mp z)) (fun v hv=>by obtain⟨w,h,rfl⟩:=hm v hv;exact (hw w h).1) (fun v hv=>by obtain⟨w,h,rfl⟩:=hm v hv;exact (hw w h).2.2.1),List.map_map];exact List.map_id' _
 ·rw[e];unfold aW;rw[di];intro z;rcases C0 z with z | ⟨x,hx,z⟩
  ·exact absurd (List.mem_singleton.mp z) (by decide)
  ·obtain⟨v,hv,rfl⟩:=List.mem_map.mp hx;obtain⟨w,h,rfl⟩:=hm v hv;exact (hw w h).2.1 z
 ·rw[e,Ar];have:=Aq (ws:=ws.map V.str) (fun v hv=>by obtain⟨w,h,rfl⟩:=hm v hv;exact .inl ⟨w,rfl,by have:=(hw w h).2.2.2;omega⟩) (by rw[List.length_map];exact hl);omega
theorem Wh {ks:List Str}{vs:List V}(h:Paired dH ks vs) {i:Nat}(hi:i<ks.length):∃kd v,ks[i]? = some kd/\vs[i]? = some v/\dH kd v:=by
 obtain⟨v,e,hv⟩:=Paired.get' h (List.getElem?_eq_getElem hi);exact⟨_,v,List.getElem?_eq_getElem hi,e,hv⟩
theorem lM {kp kq rq:List Str}{vs:List V}{kd x:Str}{k:bO}(h:Paired dH kp vs) (hb:kO kd x k) (hl:rq.length=kq.length):iU (kp++kd::kq) (vs.map aR++x::rq) k:=by
 have hv:=Paired.length h;refine .val (j:=kp.length) (kd:=kd) (x:=x) (by simp;omega) (fun i hi=>?_) (by simp) (by rw[List.getElem?_append_right (by simp;omega)];simp[hv]) hb;obtain⟨tX,v,e1,e2,h1⟩:=Wh h hi;refine⟨tX,v,by rw[List.getElem?_append_left hi];exact e1,?_,h1⟩;rw[List.getElem?_append_left (by rw[List.length_map];omega),List.getElem?_map,e2];rfl
def bG:List Str:=["q","q-","zz","z0","0","-","a","b","c","d"]
theorem KC:∀b∈bG,bq b=true:=by decide +kernel
theorem D8 {x:Str}{f:Int×Int}(h:x≠Str.ofString "dig"):decide (x=(Str.ofString "dig" : Str))=(some f).isNone:=decide_eq_false h
def iC (w:Str) (ws:List V):Bool:=decide (ws.head? = some (.str w))
def sec (ws:List V):V:=ws.getD 1 .aL
theorem KD {us:List Str}{ws:List V}(h:bS us ws):∃kd x r,ws = .str kd :: .str x::r/\kd≠Str.ofString "unit"/\kd≠Str.ofString "find":=by
 cases h with
 | plain hk hx hy=>
  refine⟨_,_,_,rfl,?_⟩;unfold lT at hk;simp only [List.mem_cons,List.not_mem_nil,or_false] at hk;rcases hk with rfl | rfl | rfl | rfl<;>decide +kernel
 | after hx hy h0 h1=>exact⟨_,_,_,rfl,by decide +kernel⟩
theorem Wi {us:List Str}{ts fs rs:List (List V)}(t:Told us ts fs rs):(rs.filter (iC (Str.ofString "unit"))).map sec=us.map V.str/\(∃Fs:List Str,(rs.filter (iC (Str.ofString "find"))).map sec=Fs.map V.str/\(∀F∈Fs,bq F=true/\∃f∈fs,f.head? = some (.str F)))/\∀ws∈rs,∃kd x r,ws = .str kd :: .str x::r:=by
 induction t with
 | nil=>exact⟨rfl,⟨[],rfl,by simp⟩,by simp⟩
 | unit t hn hx ih=>
  rename_i us ts fs rs x;obtain⟨i1,⟨Fs,i2,i3⟩,i4⟩:=ih;have a1:iC (Str.ofString "unit") [.str "unit",.str x]=true:=decide_eq_true rfl;have a2:iC (Str.ofString "find") [.str "unit",.str x]=false:=decide_eq_false (fun z=>absurd (V.str.inj (Option.some.inj z)) (by decide +kernel));refine⟨?_,⟨Fs,?_,i3⟩,fun ws hw=>?_⟩
  ·rw[List.filter_append,List.map_append,i1,List.map_append,List.filter_cons_of_pos a1];rfl
  ·rw[List.filter_append,List.map_append,i2,List.filter_cons_of_neg (by rw[a2];exact Bool.false_ne_true)];simp
  ·rcases List.mem_append.mp hw with hw | hw
   ·exact i4 ws hw
   ·rw[List.mem_singleton.mp hw];exact⟨_,_,_,rfl⟩
 | je t h hn ih=>
  rename_i us ts fs rs w;obtain⟨i1,⟨Fs,i2,i3⟩,i4⟩:=ih;obtain⟨kd,x,r,ew,k1,k2⟩:=KD h;have a1:iC (Str.ofString "unit") w=false:=by rw[ew];exact decide_eq_false (fun z=>k1 (V.str.inj (Option.some.inj z)))
  have a2:iC (Str.ofString "find") w=false:=by rw[ew];exact decide_eq_false (fun z=>k2 (V.str.inj (Option.some.inj z)))
  refine⟨?_,⟨Fs,?_,i3⟩,fun ws hw=>?_⟩
  ·rw[List.filter_append,List.map_append,i1,List.filter_cons_of_neg (by rw[a1];exact Bool.false_ne_true)];simp
  ·rw[List.filter_append,List.map_append,i2,List.filter_cons_of_neg (by rw[a2];exact Bool.false_ne_true)];simp
  ·rcases List.mem_append.mp hw with hw | hw
   ·exact i4 ws hw
   ·rw[List.mem_singleton.mp hw];exact⟨kd,x,r,ew⟩
 | find t h ih=>
  rename_i us ts fs rs w;obtain⟨i1,⟨Fs,i2,i3⟩,i4⟩:=ih;cases h with
  | mk hn hx hl h1 h2 hf=>
   rename_i nm x lo hi;have a1:iC (Str.ofString "unit") (V.str (Str.ofString "find")::[.str nm,.str x,.int lo,.int hi])=false:=decide_eq_false (fun z=>absurd (V.str.inj (Option.some.inj z)) (by decide +kernel));have a2:iC (Str.ofString "find") (V.str (Str.ofString "find")::[.str nm,.str x,.int lo,.int hi])=true:=decide_eq_true rfl;refine⟨?_,⟨Fs++[nm],?_,fun F hF=>?_⟩,fun ws hw=>?_⟩
   ·rw[List.filter_append,List.map_append,i1,List.filter_cons_of_neg (by rw[a1];exact Bool.false_ne_true)];simp
   ·rw[List.filter_append,List.map_append,i2,List.map_append,List.filter_cons_of_pos a2];rfl
   ·rcases List.mem_append.mp hF with hF | hF
    ·obtain⟨z1,f,z2,z3⟩:=i3 F hF;exact⟨z1,f,List.mem_append_left _ z2,z3⟩
    ·rw[List.mem_singleton.mp hF];exact⟨hn,_,List.mem_append_right _ (List.mem_singleton_self _),rfl⟩
   ·rcases List.mem_append.mp hw with hw | hw
    ·exact i4 ws hw
    ·rw[List.mem_singleton.mp hw];exact⟨_,_,_,rfl⟩
theorem vz {rs:List (List V)}{i:Nat}{ws:List V}(f:List V->Bool) (ex:rs[i]? = some ws):(rs.take (i+1)).filter f=(rs.take i).filter f++(if f ws=true then [ws] else []):=by
 rw[List.take_add_one,ex,List.filter_append];cases hb:f ws<;>simp[hb]
theorem Wj {us:List Str}(h:us.length<=9):∃x r,(bG.filter fun x=>!decide (x∈us))=x::r/\x∈bG/\x ∉ us:=by
 cases e:bG.filter fun x=>!decide (x∈us) with
 | nil=>
  have sub:∀x∈bG,x∈us:=fun x hx=>by
   have:=List.filter_eq_nil_iff.mp e x hx;simpa using this
  have nd:bG.Nodup:=by decide +kernel
  have:=nd.length_le_of_subset sub;have YR:bG.length=10:=rfl;omega
 | cons x r=>
  have hm:x∈bG.filter fun x=>!decide (x∈us):=by rw[e];exact List.mem_cons_self ..
  rw[List.mem_filter] at hm;exact⟨x,r,rfl,hm.1,by simpa using hm.2⟩
def Cs (P:Str->bO->Prop) (H:Hp) (l:List V):Prop:=∀v∈l,∃q ln kk,v = .ref q/\H q=some (.tup [.str ln,.str (mO kk)])/\P ln kk
theorem Cs.same {P:Str->bO->Prop}{H H':Hp}{l:List V}(h:Cs P H l) (s:aa H H'):Cs P H' l:=fun v hv=>by
 obtain⟨q,ln,kk,e,h1,h2⟩:=h v hv;exact⟨q,ln,kk,e,s _ _ h1,h2⟩
theorem Cs.app {P:Str->bO->Prop}{H:Hp}{l m:List V}(h:Cs P H l) (h':Cs P H m):Cs P H (l++m):=fun v hv=>(List.mem_append.mp hv).elim (h v) (h' v)
theorem slot {σ:St}{i:Nat}{v:V}(h:∃w,σ[i]? = some (some w)/\w=v):σ[i]? = some (some v):=by
 obtain⟨w,h,rfl⟩:=h;exact h
def qN (H0:Hp) (σ:St) (te:TE) (x:Str) (n:Nat):Prop:=x.length<=n/\∀H Q,aa H0 H->Q (.str x) H->te σ H Q
theorem aU {H0:Hp}{σ:St}{x:Str}(h:x.length<=20:=by decide +kernel):qN H0 σ (tC (.str x)) x 20:=⟨h,fun _ _ _ q=>q⟩
theorem dZ {H0:Hp}{σ:St}{x:Str}{i:Nat}(h:σ[i]? = some (some (.str x))) (p:fV x):qN H0 σ (cJ i) x 90:=⟨p.2.2.2,fun _ _ _ q=>⟨_,h,q⟩⟩
theorem bZ {H0:Hp}{σ:St}{ta tb:TE}{x y:Str}{n m:Nat}(a:qN H0 σ ta x n) (b:qN H0 σ tb y m) (h:n+m<=1000:=by decide):qN H0 σ (iF (fun x y H Q=>∃i j,x = .str i/\y = .str j/\i.length+j.length<=sizeLine/\Q (.str (i++j)) H) ta tb) (x++y) (n+m):=by
 refine⟨?_,fun H Q s q=>?_⟩
 ·rw[←fT,fU,List.length_append,fT,fT];exact Nat.add_le_add a.1 b.1
 ·refine a.2 H _ s ?_;refine b.2 H _ s ?_;exact⟨x,y,rfl,rfl,cU (Nat.le_trans (Nat.add_le_add a.1 b.1) h),q⟩
def qO (P:Str->bO->Prop) (H0:Hp) (σ:St) (te:TA) (n:Nat):Prop:=∀H Q,aa H0 H->(∀zs H',aa H H'->zs.length=n->Cs P H' zs->Q zs H')->te σ H Q
theorem D9 {P:Str->bO->Prop}{H0:Hp}{σ:St}:qO P H0 σ gZ 0:=fun H Q _ q=>q [] H (aa.refl H) rfl (fun v hv=>nomatch hv)
theorem oB {P:Str->bO->Prop}{H0:Hp}{σ:St}{te:TE}{r:TA}{ln w:Str}{kk:bO}{n m:Nat}(h:qN H0 σ te ln m) (hw:P ln kk) (ew:w=mO kk) (hr:qO P H0 σ r n):qO P H0 σ (oS (vY (oS te (oS (tC (.str w)) gZ))) r) (n+1):=by
 intro H Q s q;refine h.2 H _ s ?_;refine⟨by show 2<=sizeLine;decide,fun p hp=>?_⟩;have t:=aa.new (o:=.tup [.str ln,.str w]) hp;refine hr _ _ (s.trans t) (fun zs H' s' hl cz=>q _ _ (t.trans s') (by rw[List.length_cons,hl]) ?_);intro v hv;rcases List.mem_cons.mp hv with rfl | hv
 ·exact⟨p,ln,kk,rfl,s' _ _ (by rw[zd,ew]),hw⟩
 ·exact cz v hv
theorem Wk {P:Str->bO->Prop}{H0 H:Hp}{σ:St}{te:TA}{n:Nat}{Q:VK}(m:qO P H0 σ te n) (hn:n<=100) (s:aa H0 H) (k:∀p ys H',aa H H'->H' p=some (.lst ys)->ys.length=n->Cs P H' ys->Q (.ref p) H'):fX te σ H Q:=
 m H _ s (fun zs H' s' hl cz=>⟨cU (by omega),fun p hp=>k p zs _ (s'.trans (aa.new hp)) zd hl (cz.same (aa.new hp))⟩)
theorem KG {P:Str->bO->Prop}{H0 H:Hp}{σ:St}{te:TA}{n i:Nat}{l:Addr}{xs:List V}{Q:VK}(hv:σ[i]? = some (some (.ref l))) (s:aa H0 H) (hl:H l=some (.lst xs)) (cx:Cs P H xs) (m:qO P H0 σ te n) (hn:xs.length+n<=100)
  (k:∀p ys H',aa H H'->H' p=some (.lst ys)->ys.length=xs.length+n->Cs P H' ys->Q (.ref p) H') :
  iF (fun x y H Q=>∃l b xs zs,x = .ref l/\y = .ref b/\ak K H l xs/\ak K H b zs/\xs.length+zs.length<=sizeLine/\∀p,H p=none->Q (.ref p) (upd H p (.lst (xs++zs)))) (cJ i) (fX te) σ H Q:=by
 refine⟨_,hv,m H _ s fun zs H' s' el cz=>⟨cU (by omega),fun b hb=>?_⟩⟩;have t:=s'.trans (aa.new (o:=.lst zs) hb);refine⟨l,b,xs,zs,rfl,rfl,ak.of (t _ _ hl),ak.of zd,cU (by omega),fun p hp=>?_⟩;have t2:=aa.new (o:=.lst (xs++zs)) hp;exact k p _ _ (t.trans t2) zd (by rw[List.length_append,el]) (((cx.same s').app cz).same ((aa.new hb).trans t2))
theorem Cs.at {P:Str->bO->Prop}{H:Hp}{l:List V}(h:Cs P H l) {n:Nat}(hn:l.length=n) (h0:0<n) (c:Int):∃(q:Addr) (ln:Str) (kk:bO),fG l (c%(n:Int))=some (.ref q)/\H q=some (.tup [.str ln,.str (mO kk)])/\P ln kk:=by
 have h1:=Int.emod_nonneg c (show (n:Int)≠0 by omega);have h2:=Int.emod_lt_of_pos c (show (0:Int)<n by omega);obtain⟨j,ej⟩:∃j:Nat,c%(n:Int)=(j:Int):=⟨(c%n).toNat,by omega⟩;have hj:j<l.length:=by omega
 obtain⟨q,ln,kk,e,e1,e2⟩:=h l[j] (List.getElem_mem hj);exact⟨q,ln,kk,by rw[ej];exact lA (by rw[List.getElem?_eq_getElem hj,e]),e1,e2⟩
theorem Wl {P:Str->bO->Prop}{H0 H:Hp}{σ:St}{te:TA}{n j:Nat}{u:TS}{E0:Ends}(m:qO P H0 σ te n) (hn:n<=100) (s:aa H0 H) (k:∀p ys H',aa H H'->H' p=some (.lst ys)->ys.length=n->Cs P H' ys->u E0 (σ.set j (some (.ref p))) H'):eY (dX (fX te) (bM j)) u E0 σ H:=by
 unfold eY dX;dsimp only;exact Wk m hn s k
theorem Wm {P:Str->bO->Prop}{H0 H:Hp}{σ:St}{te:TA}{n i j:Nat}{l:Addr}{xs:List V}{u:TS}{E0:Ends}(hv:σ[i]? = some (some (.ref l))) (s:aa H0 H) (hl:H l=some (.lst xs)) (cx:Cs P H xs) (m:qO P H0 σ te n) (hn:xs.length+n<=100)
  (k:∀p ys H',aa H H'->H' p=some (.lst ys)->ys.length=xs.length+n->Cs P H' ys->u E0 (σ.set j (some (.ref p))) H') :
  eY (dX (iF (fun x y H Q=>∃l b xs zs,x = .ref l/\y = .ref b/\ak K H l xs/\ak K H b zs/\xs.length+zs.length<=sizeLine/\∀p,H p=none->Q (.ref p) (upd H p (.lst (xs++zs)))) (cJ i) (fX te)) (bM j)) u E0 σ H:=by
 unfold eY dX;dsimp only;exact KG hv s hl cx m hn k
theorem Wn {us:List Str}{ts fs rs:List (List V)}(t:Told us ts fs rs) (n:Nat):∃tE xX uF,Told tE xX uF (rs.take n)/\tE.length<=us.length:=by
 induction t with
 | nil=>exact⟨[],[],[],by simpa using Told.nil,Nat.le_refl _⟩
 | unit t hn hx ih=>
  rename_i us ts fs rs x
  by_cases c:n<=rs.length
  ·obtain⟨a,b,d,h,l⟩:=ih;rw[List.take_append_of_le_length c];exact⟨a,b,d,h,by rw[List.length_append];exact Nat.le_trans l (Nat.le_add_right _ _)⟩
  ·rw[List.take_of_length_le (by rw[List.length_append];show rs.length+1<=n;omega)];exact⟨_,_,_,.unit t hn hx,Nat.le_refl _⟩
 | je t h hn ih=>
  rename_i us ts fs rs w
  by_cases c:n<=rs.length
  ·obtain⟨a,b,d,h,l⟩:=ih;rw[List.take_append_of_le_length c];exact⟨a,b,d,h,l⟩
  ·rw[List.take_of_length_le (by rw[List.length_append];show rs.length+1<=n;omega)];exact⟨_,_,_,.je t h hn,Nat.le_refl _⟩
 | find t h ih=>
  rename_i us ts fs rs w
  by_cases c:n<=rs.length
  ·obtain⟨a,b,d,h,l⟩:=ih;rw[List.take_append_of_le_length c];exact⟨a,b,d,h,l⟩
  ·rw[List.take_of_length_le (by rw[List.length_append];show rs.length+1<=n;omega)];exact⟨_,_,_,.find t h,Nat.le_refl _⟩
theorem b8.qP {K:PySem.W.Frag}{H:Hp}{n:Nat}{a b:Addr}{xs ys:List V}(hx:ak K H a xs) (hy:ak K H b ys) (hl:xs.length=ys.length) (h:∀(i:Nat) x y,xs[i]? = some x->ys[i]? = some y->b8 K H n x y true):b8 K H (n+1) (.ref a) (.ref b) true:=by
 have:=b8.lst (n:=n) (fun _=>true) hx hy hl h;rw[List.all_eq_true.mpr fun _ _=>rfl] at this;exact this
theorem KH {xs:List V}{z:Nat}(h1:z<=xs.length):bN xs none (some (z:Int))=xs.take z:=by
 unfold bN HT.bA;simp;split
 ·omega
 ·congr 1
  omega
theorem Wo {xs:List V}{z:Nat}(h1:z<=xs.length):bN xs (some (z:Int)) none=xs.drop z:=by
 unfold bN HT.bA;simp;split
 ·omega
 ·rw[Nat.min_eq_left (by omega)];apply List.take_of_length_le;rw[List.length_drop];omega
theorem Ea {ws:List V}(h:aS ws):(∀v∈ws,Wd v)/\ws.length<=6:=by
 have F:∀x∈vm,Wd (.str x):=fun x hx=>.inl ⟨x,rfl,(by decide +kernel:∀x∈vm,x.length<=100) x hx⟩
 have N:∀{x:Str},bq x=true->Wd (.str x):=fun h=>.inl ⟨_,rfl,Nat.le_trans (mE h) (by decide)⟩
 cases h with
 | dig hl h1 h2=>
  refine⟨fun v hv=>?_,by simp⟩;simp only [List.mem_cons,List.not_mem_nil,or_false] at hv;rcases hv with rfl | rfl | rfl
  ·exact F _ (by decide +kernel)
  ·exact .inr ⟨_,rfl,h1⟩
  ·exact .inr ⟨_,rfl,h2⟩
 | unit hx=>
  refine⟨fun v hv=>?_,by simp⟩;simp only [List.mem_cons,List.not_mem_nil,or_false] at hv;rcases hv with rfl | rfl
  ·exact F _ (by decide +kernel)
  ·exact N hx
 | plain hk hx hy=>
  refine⟨fun v hv=>?_,by simp⟩;simp only [List.mem_cons,List.not_mem_nil,or_false] at hv;rcases hv with rfl | rfl | rfl
  ·exact F _ (CZ _ hk)
  ·exact N hx
  ·exact N hy
 | after hx hy h0 h1=>
  refine⟨fun v hv=>?_,by simp⟩;simp only [List.mem_cons,List.not_mem_nil,or_false] at hv;rcases hv with rfl | rfl | rfl | rfl
  ·exact F _ (by decide +kernel)
  ·exact N hx
  ·exact N hy
  ·exact .inr ⟨_,rfl,h1⟩
 | find hn hx hl h1 h2=>
  refine⟨fun v hv=>?_,by simp⟩;simp only [List.mem_cons,List.not_mem_nil,or_false] at hv;rcases hv with rfl | rfl | rfl | rfl | rfl
  ·exact F _ (by decide +kernel)
  ·exact N hn
  ·exact N hx
  ·exact .inr ⟨_,rfl,h1⟩
  ·exact .inr ⟨_,rfl,h2⟩
theorem KI {ws:List V}(h:aS ws):∃x r,ws = .str x::r/\x.length<=100/\(∀v∈r,Wd v)/\r.length<=5:=by
 have w:=Ea h;obtain⟨x,r,rfl⟩:∃x r,ws=V.str x::r:=by cases h<;>exact⟨_,_,rfl⟩
 refine⟨x,r,rfl,?_,fun v hv=>w.1 v (List.mem_cons_of_mem _ hv),by have:=w.2;rw[List.length_cons] at this;omega⟩;rcases w.1 _ (List.mem_cons_self ..) with ⟨y,e,hy⟩ | ⟨y,e,_⟩
 ·cases e;exact hy
 ·cases e
theorem Wq {s s':RS}{rs:List (List V)}(h:gU s rs s') (hu:∀x∈s.us,bq x=true):∀ws∈rs,aS ws:=by
 induction h with
 | nil=>exact fun _ h=>nomatch h
 | row st r ih=>
  intro ws hw;have ro:=st.row hu;rcases List.mem_cons.mp hw with rfl | hw
  ·exact ro.1
  ·exact ih ro.2 ws hw
theorem Wr {us:List Str}{ts fs rs:List (List V)}{lo hi:Int}(t:Told us ts fs rs) (hl:lo<=hi) (h1:dG lo) (h2:dG hi):∀ws∈([.str "dig",.int lo,.int hi]::rs:List (List V)),aS ws:=by
 intro ws hw;rcases List.mem_cons.mp hw with rfl | hw
 ·exact .dig hl h1 h2
 ·exact Wq (Told.steps (f:=(lo,hi)) t) (fun _ h=>nomatch h) ws hw
def cE (ls:List Str):Prop:=ls≠[]/\ls.length<=100/\∀l∈ls,10 ∉ co l/\l.length<=900
theorem KJ {ws:List V}(h:aS ws):10 ∉ co (aW ws)/\(aW ws).length<=900:=by
 have w:=Ea h;refine⟨?_,?_⟩
 ·unfold aW;rw[di];exact h.tM
 ·rw[Ar];have:=Aq w.1 w.2;omega
theorem yG {ls:List Str}(h:cE ls):(Txt.join "\n" ls).length<=1000000/\(∀l∈Txt.split (Txt.join "\n" ls) "\n",l.length<=1000000)/\(Txt.split (Txt.join "\n" ls) "\n").length<=900/\Txt.split (Txt.join "\n" ls) "\n" = ls/\(ls.map (·.length)).sum+ls.length * (Str.ofString "\n" : Str).length<=16777216:=by
 obtain⟨h0,hn,hl⟩:=h;have e:=QM h0 fun l z=>(hl l z).1
 have l2:=QN (ls:=ls) (by omega) fun l z=>(hl l z).2
 rw[e];exact⟨l2.1,fun l z=>by have:=(hl l z).2;omega,by omega,rfl,l2.2⟩
def putL (ls:List Str) (k:Nat) (y:Str):List Str:=ls.take k++[y]++ls.drop k
theorem cE.put {ls:List Str}{k:Nat}{y:Str}(h:∀l∈ls,10 ∉ co l/\l.length<=900) (hn:ls.length<=98) (hy:10 ∉ co y/\y.length<=900):cE (putL ls k y):=by
 refine⟨by unfold putL;simp,?_,fun l hl=>?_⟩
 ·unfold putL;simp only [List.length_append,List.length_take,List.length_drop,List.length_cons,List.length_nil];omega
 ·unfold putL at hl;rcases List.mem_append.mp hl with hl | hl
  ·rcases List.mem_append.mp hl with hl | hl
   ·exact h l (List.mem_of_mem_take hl)
   ·rw[List.mem_singleton.mp hl];exact hy
  ·exact h l (List.mem_of_mem_drop hl)
theorem Ws (ls:List Str) (k:Nat) (y:Str):(putL ls k y).length=ls.length+1:=by
 unfold putL;simp only [List.length_append,List.length_take,List.length_drop,List.length_cons,List.length_nil];omega
theorem KL {H:Hp}:∀{as:List Addr}{dY:List (List V)}(n:Nat),aP H as dY->aP H (as.take n) (dY.take n)
 | _,_,0,_=>.nil
 | _,_,_+1,.nil=>.nil
 | _,_,n+1,.cons h t=>.cons h (KL n t)
theorem KN {H:Hp}{n:Nat}{as bs:List Addr}{dY:List (List V)}(ta:aP H as dY) (tb:aP H bs dY) (hw:∀vs∈dY,∀v∈vs,Wd v):∀(i:Nat) x y,(as.map V.ref)[i]? = some x->(bs.map V.ref)[i]? = some y->b8 K H (n+1) x y true:=by
 intro i x y ex ey;rw[List.getElem?_map] at ex ey;cases ea:as[i]? with
 | none=>rw[ea] at ex;cases ex
 | some a=>
  cases eb:bs[i]? with
  | none=>rw[eb] at ey;cases ey
  | some b=>
   rw[ea] at ex;rw[eb] at ey;cases ex;cases ey;obtain⟨ws,e1,h1⟩:=ta.at ea;obtain⟨YS,e2,h2⟩:=tb.at eb;rw[e1] at e2;cases e2;have fl:∀v∈ws,iZ v=true:=fun v hv=>(hw ws (List.mem_of_getElem? e1) v hv).flat
   have:=b8.iK (n:=n) (aD.of (K:=K) h1) (aD.of h2) fl fl
   rwa [xq fl] at this
theorem Wt {H:Hp}{tl pz gm gu gt gf pm pu pt pf:Addr}{at' af bt bf:List Addr}{lo hi:Int}{us:List Str}{ts fs:List (List V)}(h1:H tl=some (.tup [.ref gm,.ref gu,.ref gt,.ref gf])) (h2:H pz=some (.tup [.ref pm,.ref pu,.ref pt,.ref pf])) (m1:H gm=some (.tup [.int lo,.int hi])) (m2:H pm=some (.tup [.int lo,.int hi]))
  (u1:H gu=some (.lst (us.map V.str))) (u2:H pu=some (.lst (us.map V.str))) (t1:H gt=some (.lst (bt.map V.ref))) (t2:H pt=some (.lst (at'.map V.ref))) (b1:aP H bt ts) (b2:aP H at' ts) (f1:H gf=some (.lst (bf.map V.ref))) (f2:H pf=some (.lst (af.map V.ref))) (c1:aP H bf fs) (c2:aP H af fs) (ht:∀vs∈ts,∀v∈vs,Wd v) (hf:∀vs∈fs,∀v∈vs,Wd v):b8 K H 8 (.ref tl) (.ref pz) true:=by
 refine b8.xu (n:=7) (aD.of h1) (aD.of h2) rfl (fun i x y ex ey=>?_)
 match i,ex,ey with
 | 0,ex,ey=>
  cases ex;cases ey;have fl:∀v∈([V.int lo,V.int hi]:List V),iZ v=true:=by simp[iZ]
  have:=b8.iK (n:=6) (aD.of (K:=K) m1) (aD.of m2) fl fl
  rwa [xq fl] at this
 | 1,ex,ey=>
  cases ex;cases ey;refine b8.xr (n:=6) (ak.of u1) (ak.of u2) fun x hx=>?_
  obtain⟨z,_,rfl⟩:=List.mem_map.mp hx;have:=b8.flat (K:=K) (H:=H) (n:=6) (x:=.str z) (y:=.str z) rfl rfl
  rwa [Cr rfl] at this
 | 2,ex,ey=>
  cases ex;cases ey;exact b8.qP (n:=6) (ak.of t1) (ak.of t2) (by rw[List.length_map,List.length_map,b1.len,b2.len]) (KN b1 b2 ht)
 | 3,ex,ey=>
  cases ex;cases ey;exact b8.qP (n:=6) (ak.of f1) (ak.of f2) (by rw[List.length_map,List.length_map,c1.len,c2.len]) (KN c1 c2 hf)
 | i+4,ex,ey=>cases ex
def dS (us:List Str) (ts fs:List (List V)) (ln:Str) (k:bO):Prop:=lF (Dm.wordsOf ln)=false/\((Dm.wordsOf ln).length<=900/\∀y∈Dm.wordsOf ln,y.length<=1000)/\10 ∉ co ln/\ln.length<=700/\∀f,iV ⟨some f,us,ts,fs⟩ (Dm.wordsOf ln) k
theorem KO {us:List Str}{ts fs:List (List V)}{ln:Str}{k:bO}(ws:List Str) (iL:ws≠[]) (e:ln=aW (ws.map V.str)) (hw:∀w∈ws,fV w) (hp:lF ws=false) (hl:ws.length<=6) (hb:∀f,iV ⟨some f,us,ts,fs⟩ ws k):dS us ts fs ln k:=by
 obtain⟨h1,h2,h3⟩:=KA iL e hw hl;unfold dS;rw[h1];exact⟨hp,⟨by omega,fun y hy=>by have:=(hw y hy).2.2.2;omega⟩,h2,h3,hb⟩
def nF:List Str->Bool
 | []=>false
 | x::r=>(!Txt.startswith x (Str.ofString ";"))&&decide (r.length<=5)&&(decide (x=Str.ofString "dig")||ai.all fun f=>!decide (f.1=x) || !decide (f.2.length=r.length))
theorem Wu:∀f∈ai,∃ks:List Str,f.2=ks.map V.str:=by
 intro f hf;unfold ai at hf;simp only [List.mem_cons,List.not_mem_nil,or_false] at hf;rcases hf with rfl | rfl | rfl | rfl | rfl | rfl | rfl | rfl<;>first | exact⟨[Str.ofString "year",Str.ofString "year"],rfl⟩ | exact⟨[Str.ofString "name"],rfl⟩ | exact⟨[Str.ofString "name",Str.ofString "name"],rfl⟩ | exact⟨[Str.ofString "name",Str.ofString "name",Str.ofString "gap"],rfl⟩ | exact⟨[Str.ofString "name",Str.ofString "name",Str.ofString "year",Str.ofString "year"],rfl⟩
theorem KP {ln:Str}(ws:List Str) (h:nF ws=true) (e:ln=aW (ws.map V.str)) (hw:∀w∈ws,fV w):∀us ts fs,dS us ts fs ln .row:=by
 intro us ts fs;cases ws with
 | nil=>cases h
 | cons x r=>
  simp only [nF,Bool.and_eq_true,Bool.not_eq_true',decide_eq_true_eq] at h;obtain⟨⟨h1,h2⟩,h3⟩:=h;refine KO (x::r) (by simp) e hw h1 (by rw[List.length_cons];omega) fun f=>?_
  by_cases c:x=Str.ofString "dig"
  ·exact .dig (by rw[decide_eq_true c];exact fun z=>nomatch z)
  ·refine .ent (D8 c) ?_;rw[decide_eq_false c,Bool.false_or,List.all_eq_true] at h3
   by_cases m:x∈ai.map (·.1)
   ·obtain⟨g,hg,rfl⟩:=List.mem_map.mp m;obtain⟨ks,ek⟩:=Wu g hg;have hz:=h3 g hg;rw[decide_eq_true rfl] at hz;refine .l6 (ks:=ks) (by rw[←ek];exact hg) (.len fun z=>?_);rw[ek,List.length_map,decide_eq_true z.symm] at hz;cases hz
   ·exact .first m
def yH (ln:Str):Bool:=nF (Dm.wordsOf ln)&&decide (ln=aW ((Dm.wordsOf ln).map V.str))&&decide (∀w∈Dm.wordsOf ln,fV w)
theorem i7 {ln:Str}(h:yH ln=true):∀us ts fs,dS us ts fs ln .row:=by
 simp only [yH,Bool.and_eq_true,decide_eq_true_eq] at h;exact KP _ h.1.1 h.1.2 h.2
theorem l8 {us:List Str}{ts fs:List (List V)}{ln:Str}{k:bO}{kd:Str}{ks:List Str}(ws:List Str) (hf:(kd,ks.map V.str)∈ai) (hd:kd≠Str.ofString "dig") (e:ln=aW ((kd::ws).map V.str)) (hp:∀w∈ws,fV w) (hk:fV kd) (hs:Txt.startswith kd (Str.ofString ";")=false) (hl:ws.length<=5) (hb:iU ks ws k):dS us ts fs ln k:=
 KO (kd::ws) (by simp) e (fun w hw=>by rcases List.mem_cons.mp hw with rfl | hw;exact hk;exact hp w hw) hs (by rw[List.length_cons];omega) fun f=>.ent (D8 hd) (.l6 hf hb)
theorem Wv:co (Str.ofString "Unit ") = [85,110,105,116,32]:=by decide +kernel
theorem Ww:co (Str.ofString "Unit") = [85,110,105,116]:=by decide +kernel
theorem KQ:co (Str.ofString "cuts ") = [99,117,116,115,32]:=by decide +kernel
theorem KR:co (Str.ofString "cuts") = [99,117,116,115]:=by decide +kernel
theorem Wx:co (Str.ofString "unit ") = [117,110,105,116,32]:=by decide +kernel
theorem Wy:co (Str.ofString "unit") = [117,110,105,116]:=by decide +kernel
theorem KS:co (Str.ofString "over ") = [111,118,101,114,32]:=by decide +kernel
theorem kR:co (Str.ofString " ") = [32]:=by decide +kernel
theorem KU:co (Str.ofString "over") = [111,118,101,114]:=by decide +kernel
theorem KW:co (Str.ofString "same ") = [115,97,109,101,32]:=by decide +kernel
theorem yI:co (Str.ofString "same") = [115,97,109,101]:=by decide +kernel
theorem nK:co (Str.ofString "after ") = [97,102,116,101,114,32]:=by decide +kernel
theorem Eb:co (Str.ofString " 1") = [32,49]:=by decide +kernel
theorem nM:co (Str.ofString "after") = [97,102,116,101,114]:=by decide +kernel
theorem nN:co (Str.ofString "1") = [49]:=by decide +kernel
theorem ud:co (Str.ofString "find ") = [102,105,110,100,32]:=by decide +kernel
theorem ue:co (Str.ofString " 1 2") = [32,49,32,50]:=by decide +kernel
theorem kT:co (Str.ofString "find") = [102,105,110,100]:=by decide +kernel
theorem uf:co (Str.ofString "2") = [50]:=by decide +kernel
theorem Ec:co (Str.ofString "find f ") = [102,105,110,100,32,102,32]:=by decide +kernel
theorem Ed:co (Str.ofString "f") = [102]:=by decide +kernel
theorem Ef:co (Str.ofString " -3") = [32,45,51]:=by decide +kernel
theorem Eg:co (Str.ofString "-3") = [45,51]:=by decide +kernel
theorem ug:co (Str.ofString "find f-f ") = [102,105,110,100,32,102,45,102,32]:=by decide +kernel
theorem Eh:co (Str.ofString " 5") = [32,53]:=by decide +kernel
theorem uh:co (Str.ofString "f-f") = [102,45,102]:=by decide +kernel
theorem yJ:co (Str.ofString "5") = [53]:=by decide +kernel
theorem Ei:co (Str.ofString " 1 ") = [32,49,32]:=by decide +kernel
theorem Ej:co (Str.ofString " -") = [32,45]:=by decide +kernel
theorem Ek:co (Str.ofString "-") = [45]:=by decide +kernel
theorem El:co (Str.ofString " 0") = [32,48]:=by decide +kernel
theorem Em:co (Str.ofString "0") = [48]:=by decide +kernel
theorem En:co (Str.ofString " 5 7") = [32,53,32,55]:=by decide +kernel
theorem Eo:co (Str.ofString "7") = [55]:=by decide +kernel
theorem Wz (n:Str):((Str.ofString "Unit ")++n)=aW (([(Str.ofString "Unit"),n]:List Str).map V.str):=by
 apply gC;unfold aW gD;simp only [fU,di,List.map_cons,List.map_nil,jc,aR,List.append_assoc,Wv,Ww,List.cons_append,List.nil_append,List.append_nil]
theorem WA (n:Str):((Str.ofString "cuts ")++n)=aW (([(Str.ofString "cuts"),n]:List Str).map V.str):=by
 apply gC;unfold aW gD;simp only [fU,di,List.map_cons,List.map_nil,jc,aR,List.append_assoc,KQ,KR,List.cons_append,List.nil_append,List.append_nil]
theorem KY (b:Str):((Str.ofString "unit ")++b)=aW (([(Str.ofString "unit"),b]:List Str).map V.str):=by
 apply gC;unfold aW gD;simp only [fU,di,List.map_cons,List.map_nil,jc,aR,List.append_assoc,Wx,Wy,List.cons_append,List.nil_append,List.append_nil]
theorem WB (b n:Str):((((Str.ofString "over ")++b)++(Str.ofString " "))++n)=aW (([(Str.ofString "over"),b,n]:List Str).map V.str):=by
 apply gC;unfold aW gD;simp only [fU,di,List.map_cons,List.map_nil,jc,aR,List.append_assoc,KS,kR,KU,List.cons_append,List.nil_append,List.append_nil]
theorem WC (b n:Str):((((Str.ofString "cuts ")++n)++(Str.ofString " "))++b)=aW (([(Str.ofString "cuts"),n,b]:List Str).map V.str):=by
 apply gC;unfold aW gD;simp only [fU,di,List.map_cons,List.map_nil,jc,aR,List.append_assoc,KQ,KR,kR,List.cons_append,List.nil_append,List.append_nil]
theorem WD (b n:Str):((((Str.ofString "same ")++b)++(Str.ofString " "))++n)=aW (([(Str.ofString "same"),b,n]:List Str).map V.str):=by
 apply gC;unfold aW gD;simp only [fU,di,List.map_cons,List.map_nil,jc,aR,List.append_assoc,yI,kR,KW,List.cons_append,List.nil_append,List.append_nil]
theorem WE (b n:Str):(((((Str.ofString "after ")++n)++(Str.ofString " "))++b)++(Str.ofString " 1"))=aW (([(Str.ofString "after"),n,b,(Str.ofString "1")]:List Str).map V.str):=by
 apply gC;unfold aW gD;simp only [fU,di,List.map_cons,List.map_nil,jc,aR,List.append_assoc,nK,Eb,nM,nN,kR,List.cons_append,List.nil_append,List.append_nil]
theorem WG (b n:Str):(((((Str.ofString "find ")++b)++(Str.ofString " "))++n)++(Str.ofString " 1 2"))=aW (([(Str.ofString "find"),b,n,(Str.ofString "1"),(Str.ofString "2")]:List Str).map V.str):=by
 apply gC;unfold aW gD;simp only [fU,di,List.map_cons,List.map_nil,jc,aR,List.append_assoc,nN,ud,ue,kT,uf,kR,List.cons_append,List.nil_append,List.append_nil]
theorem WH (b:Str):(((Str.ofString "find f ")++b)++(Str.ofString " 1 2"))=aW (([(Str.ofString "find"),(Str.ofString "f"),b,(Str.ofString "1"),(Str.ofString "2")]:List Str).map V.str):=by
 apply gC;unfold aW gD;simp only [fU,di,List.map_cons,List.map_nil,jc,aR,List.append_assoc,nN,ue,kT,uf,Ec,Ed,List.cons_append,List.nil_append,List.append_nil]
theorem lo1 (b n:Str):((((((Str.ofString "after ")++n)++(Str.ofString " "))++n)++(Str.ofString " "))++b)=aW (([(Str.ofString "after"),n,n,b]:List Str).map V.str):=by
 apply gC;unfold aW gD;simp only [fU,di,List.map_cons,List.map_nil,jc,aR,List.append_assoc,nK,nM,kR,List.cons_append,List.nil_append,List.append_nil]
theorem WI (n:Str):(((((Str.ofString "after ")++n)++(Str.ofString " "))++n)++(Str.ofString " -3"))=aW (([(Str.ofString "after"),n,n,(Str.ofString "-3")]:List Str).map V.str):=by
 apply gC;unfold aW gD;simp only [fU,di,List.map_cons,List.map_nil,jc,aR,List.append_assoc,nK,nM,Ef,Eg,kR,List.cons_append,List.nil_append,List.append_nil]
theorem WJ (b n:Str):(((((Str.ofString "find f-f ")++n)++(Str.ofString " "))++b)++(Str.ofString " 5"))=aW (([(Str.ofString "find"),(Str.ofString "f-f"),n,b,(Str.ofString "5")]:List Str).map V.str):=by
 apply gC;unfold aW gD;simp only [fU,di,List.map_cons,List.map_nil,jc,aR,List.append_assoc,kT,ug,Eh,uh,yJ,kR,List.cons_append,List.nil_append,List.append_nil]
theorem WK (b n:Str):((((Str.ofString "find f-f ")++n)++(Str.ofString " 1 "))++b)=aW (([(Str.ofString "find"),(Str.ofString "f-f"),n,(Str.ofString "1"),b]:List Str).map V.str):=by
 apply gC;unfold aW gD;simp only [fU,di,List.map_cons,List.map_nil,jc,aR,List.append_assoc,nN,kT,ug,uh,Ei,List.cons_append,List.nil_append,List.append_nil]
theorem WL (b n:Str):((((((Str.ofString "after ")++n)++(Str.ofString " "))++n)++(Str.ofString " -"))++b)=aW (([(Str.ofString "after"),n,n,(Str.ofString "-")++b]:List Str).map V.str):=by
 apply gC;unfold aW gD;simp only [fU,di,List.map_cons,List.map_nil,jc,aR,List.append_assoc,nK,nM,kR,Ej,Ek,List.cons_append,List.nil_append,List.append_nil]
theorem WM (n x y:Str):((((((Str.ofString "find f-f ")++n)++(Str.ofString " "))++x)++(Str.ofString " "))++y)=aW (([(Str.ofString "find"),(Str.ofString "f-f"),n,x,y]:List Str).map V.str):=by
 apply gC;unfold aW gD;simp only [fU,di,List.map_cons,List.map_nil,jc,aR,List.append_assoc,kT,ug,uh,kR,List.cons_append,List.nil_append,List.append_nil]
theorem Ep (x y:Str):((((Str.ofString "over ")++x)++(Str.ofString " "))++y)=aW (([(Str.ofString "over"),x,y]:List Str).map V.str):=by
 apply gC;unfold aW gD;simp only [fU,di,List.map_cons,List.map_nil,jc,aR,List.append_assoc,KS,kR,KU,List.cons_append,List.nil_append,List.append_nil]
theorem WN (x y:Str):(((((Str.ofString "after ")++x)++(Str.ofString " "))++y)++(Str.ofString " 0"))=aW (([(Str.ofString "after"),x,y,(Str.ofString "0")]:List Str).map V.str):=by
 apply gC;unfold aW gD;simp only [fU,di,List.map_cons,List.map_nil,jc,aR,List.append_assoc,nK,nM,El,Em,kR,List.cons_append,List.nil_append,List.append_nil]
theorem WO (x y:Str):((((Str.ofString "same ")++x)++(Str.ofString " "))++y)=aW (([(Str.ofString "same"),x,y]:List Str).map V.str):=by
 apply gC;unfold aW gD;simp only [fU,di,List.map_cons,List.map_nil,jc,aR,List.append_assoc,yI,kR,KW,List.cons_append,List.nil_append,List.append_nil]
theorem WQ (m x:Str):(((((Str.ofString "find ")++m)++(Str.ofString " "))++x)++(Str.ofString " 1 2"))=aW (([(Str.ofString "find"),m,x,(Str.ofString "1"),(Str.ofString "2")]:List Str).map V.str):=by
 apply gC;unfold aW gD;simp only [fU,di,List.map_cons,List.map_nil,jc,aR,List.append_assoc,nN,ud,ue,kT,uf,kR,List.cons_append,List.nil_append,List.append_nil]
theorem sd (m x:Str):(((((Str.ofString "find ")++m)++(Str.ofString " "))++x)++(Str.ofString " 5 7"))=aW (([(Str.ofString "find"),m,x,(Str.ofString "5"),(Str.ofString "7")]:List Str).map V.str):=by
 apply gC;unfold aW gD;simp only [fU,di,List.map_cons,List.map_nil,jc,aR,List.append_assoc,ud,kT,yJ,En,Eo,kR,List.cons_append,List.nil_append,List.append_nil]
theorem mP (x:Str):aR (.str x)=x:=rfl
theorem KZ:aR (.int 1)=Str.ofString "1":=by decide +kernel
theorem K0:dH (Str.ofString "year") (.int 1):=.year (by unfold dG;decide +kernel)
theorem Er:bq (Str.ofString "f")=true:=by decide +kernel
theorem Et:bq (Str.ofString "f-f")=true:=by decide +kernel
theorem P1:∀x∈([Str.ofString "1",Str.ofString "2",Str.ofString "f",Str.ofString "f-f",Str.ofString "5",Str.ofString "-3",Str.ofString "7",Str.ofString "0"]:List Str),fV x:=by decide +kernel
theorem WR {us:List Str}{ts fs:List (List V)}{b n:Str}(hb:bq b=false/\fV b) (hn:bq n=true):dS us ts fs (((Str.ofString "unit ")++b)) .name:=by
 have pn:=jg hn;refine l8 (kd:=Str.ofString "unit") [b] (show (Str.ofString "unit",([Str.ofString "name"]:List Str).map V.str)∈ai by simp[ai]) (by decide +kernel) (KY b) (by
  intro w hw;simp only [List.mem_cons,List.not_mem_nil,or_false] at hw;rcases hw with rfl<;>first | exact hb.2 | exact pn | exact P1 _ (by decide +kernel)) (by decide +kernel) (by decide +kernel) (by simp) ?_
 have z:=lM (kp:=[]) (kq:=[]) (rq:=[]) .nil (.name hb.1) rfl;simp only [List.map_cons,List.map_nil] at z;exact z
theorem WS {us:List Str}{ts fs:List (List V)}{b n:Str}(hb:bq b=false/\fV b) (hn:bq n=true):dS us ts fs (((((Str.ofString "over ")++b)++(Str.ofString " "))++n)) .name:=by
 have pn:=jg hn;refine l8 (kd:=Str.ofString "over") [b,n] (show (Str.ofString "over",([Str.ofString "name",Str.ofString "name"]:List Str).map V.str)∈ai by simp[ai]) (by decide +kernel) (WB b n) (by
  intro w hw;simp only [List.mem_cons,List.not_mem_nil,or_false] at hw;rcases hw with rfl | rfl<;>first | exact hb.2 | exact pn | exact P1 _ (by decide +kernel)) (by decide +kernel) (by decide +kernel) (by simp) ?_
 have z:=lM (kp:=[]) (kq:=[Str.ofString "name"]) (rq:=[n]) .nil (.name hb.1) rfl;simp only [List.map_cons,List.map_nil] at z;exact z
theorem WT {us:List Str}{ts fs:List (List V)}{b n:Str}(hb:bq b=false/\fV b) (hn:bq n=true):dS us ts fs (((((Str.ofString "cuts ")++n)++(Str.ofString " "))++b)) .name:=by
 have pn:=jg hn;refine l8 (kd:=Str.ofString "cuts") [n,b] (show (Str.ofString "cuts",([Str.ofString "name",Str.ofString "name"]:List Str).map V.str)∈ai by simp[ai]) (by decide +kernel) (WC b n) (by
  intro w hw;simp only [List.mem_cons,List.not_mem_nil,or_false] at hw;rcases hw with rfl | rfl<;>first | exact hb.2 | exact pn | exact P1 _ (by decide +kernel)) (by decide +kernel) (by decide +kernel) (by simp) ?_
 have z:=lM (kp:=[Str.ofString "name"]) (kq:=[]) (rq:=[]) (.cons (.name hn) .nil) (.name hb.1) rfl;simp only [List.map_cons,List.map_nil,mP] at z;exact z
theorem WU {us:List Str}{ts fs:List (List V)}{b n:Str}(hb:bq b=false/\fV b) (hn:bq n=true):dS us ts fs (((((Str.ofString "same ")++b)++(Str.ofString " "))++n)) .name:=by
 have pn:=jg hn;refine l8 (kd:=Str.ofString "same") [b,n] (show (Str.ofString "same",([Str.ofString "name",Str.ofString "name"]:List Str).map V.str)∈ai by simp[ai]) (by decide +kernel) (WD b n) (by
  intro w hw;simp only [List.mem_cons,List.not_mem_nil,or_false] at hw;rcases hw with rfl | rfl<;>first | exact hb.2 | exact pn | exact P1 _ (by decide +kernel)) (by decide +kernel) (by decide +kernel) (by simp) ?_
 have z:=lM (kp:=[]) (kq:=[Str.ofString "name"]) (rq:=[n]) .nil (.name hb.1) rfl;simp only [List.map_cons,List.map_nil] at z;exact z
theorem WV {us:List Str}{ts fs:List (List V)}{b n:Str}(hb:bq b=false/\fV b) (hn:bq n=true):dS us ts fs ((((((Str.ofString "after ")++n)++(Str.ofString " "))++b)++(Str.ofString " 1"))) .name:=by
 have pn:=jg hn;refine l8 (kd:=Str.ofString "after") [n,b,Str.ofString "1"] (show (Str.ofString "after",([Str.ofString "name",Str.ofString "name",Str.ofString "gap"]:List Str).map V.str)∈ai by simp[ai]) (by decide +kernel) (WE b n) (by
  intro w hw;simp only [List.mem_cons,List.not_mem_nil,or_false] at hw;rcases hw with rfl | rfl | rfl<;>first | exact hb.2 | exact pn | exact P1 _ (by decide +kernel)) (by decide +kernel) (by decide +kernel) (by simp) ?_
 have z:=lM (kp:=[Str.ofString "name"]) (kq:=[Str.ofString "gap"]) (rq:=[Str.ofString "1"]) (.cons (.name hn) .nil) (.name hb.1) rfl;simp only [List.map_cons,List.map_nil,mP] at z;exact z
theorem WW {us:List Str}{ts fs:List (List V)}{b n:Str}(hb:bq b=false/\fV b) (hn:bq n=true):dS us ts fs ((((((Str.ofString "find ")++b)++(Str.ofString " "))++n)++(Str.ofString " 1 2"))) .name:=by
 have pn:=jg hn;refine l8 (kd:=Str.ofString "find") [b,n,Str.ofString "1",Str.ofString "2"] (show (Str.ofString "find",([Str.ofString "name",Str.ofString "name",Str.ofString "year",Str.ofString "year"]:List Str).map V.str)∈ai by simp[ai]) (by decide +kernel) (WG b n) (by
  intro w hw;simp only [List.mem_cons,List.not_mem_nil,or_false] at hw;rcases hw with rfl | rfl | rfl | rfl<;>first | exact hb.2 | exact pn | exact P1 _ (by decide +kernel)) (by decide +kernel) (by decide +kernel) (by simp) ?_
 have z:=lM (kp:=[]) (kq:=[Str.ofString "name",Str.ofString "year",Str.ofString "year"]) (rq:=[n,Str.ofString "1",Str.ofString "2"]) .nil (.name hb.1) rfl;simp only [List.map_cons,List.map_nil] at z;exact z
theorem WX {us:List Str}{ts fs:List (List V)}{b n:Str}(hb:bq b=false/\fV b) (hn:bq n=true):dS us ts fs ((((Str.ofString "find f ")++b)++(Str.ofString " 1 2"))) .name:=by
 have pn:=jg hn;refine l8 (kd:=Str.ofString "find") [Str.ofString "f",b,Str.ofString "1",Str.ofString "2"] (show (Str.ofString "find",([Str.ofString "name",Str.ofString "name",Str.ofString "year",Str.ofString "year"]:List Str).map V.str)∈ai by simp[ai]) (by decide +kernel) (WH b) (by
  intro w hw;simp only [List.mem_cons,List.not_mem_nil,or_false] at hw;rcases hw with rfl | rfl | rfl | rfl<;>first | exact hb.2 | exact pn | exact P1 _ (by decide +kernel)) (by decide +kernel) (by decide +kernel) (by simp) ?_
 have z:=lM (kp:=[Str.ofString "name"]) (kq:=[Str.ofString "year",Str.ofString "year"]) (rq:=[Str.ofString "1",Str.ofString "2"]) (.cons (.name Er) .nil) (.name hb.1) rfl;simp only [List.map_cons,List.map_nil,mP] at z;exact z
theorem WY {us:List Str}{ts fs:List (List V)}{b n:Str}(hb:gT b=false/\fV b) (hn:bq n=true):dS us ts fs (((((((Str.ofString "after ")++n)++(Str.ofString " "))++n)++(Str.ofString " "))++b)) .number:=by
 have pn:=jg hn;refine l8 (kd:=Str.ofString "after") [n,n,b] (show (Str.ofString "after",([Str.ofString "name",Str.ofString "name",Str.ofString "gap"]:List Str).map V.str)∈ai by simp[ai]) (by decide +kernel) (lo1 b n) (by
  intro w hw;simp only [List.mem_cons,List.not_mem_nil,or_false] at hw;rcases hw with rfl | rfl | rfl<;>first | exact hb.2 | exact pn | exact P1 _ (by decide +kernel)) (by decide +kernel) (by decide +kernel) (by simp) ?_
 have z:=lM (kp:=[Str.ofString "name",Str.ofString "name"]) (kq:=[]) (rq:=[]) (.cons (.name hn) (.cons (.name hn) .nil)) (.gap hb.1) rfl;simp only [List.map_cons,List.map_nil,mP] at z;exact z
theorem WZ {us:List Str}{ts fs:List (List V)}{b n:Str}(hb:gT b=false/\fV b) (hn:bq n=true):dS us ts fs ((((((Str.ofString "after ")++n)++(Str.ofString " "))++n)++(Str.ofString " -3"))) .number:=by
 have pn:=jg hn;refine l8 (kd:=Str.ofString "after") [n,n,Str.ofString "-3"] (show (Str.ofString "after",([Str.ofString "name",Str.ofString "name",Str.ofString "gap"]:List Str).map V.str)∈ai by simp[ai]) (by decide +kernel) (WI n) (by
  intro w hw;simp only [List.mem_cons,List.not_mem_nil,or_false] at hw;rcases hw with rfl | rfl | rfl<;>first | exact hb.2 | exact pn | exact P1 _ (by decide +kernel)) (by decide +kernel) (by decide +kernel) (by simp) ?_
 have z:=lM (kp:=[Str.ofString "name",Str.ofString "name"]) (kq:=[]) (rq:=[]) (.cons (.name hn) (.cons (.name hn) .nil)) (.neg (x:=Str.ofString "-3") (by decide +kernel) (by decide +kernel)) rfl;simp only [List.map_cons,List.map_nil,mP] at z;exact z
theorem W0 {us:List Str}{ts fs:List (List V)}{b n:Str}(hb:gT b=false/\fV b) (hn:bq n=true):dS us ts fs ((((((Str.ofString "find f-f ")++n)++(Str.ofString " "))++b)++(Str.ofString " 5"))) .number:=by
 have pn:=jg hn;refine l8 (kd:=Str.ofString "find") [Str.ofString "f-f",n,b,Str.ofString "5"] (show (Str.ofString "find",([Str.ofString "name",Str.ofString "name",Str.ofString "year",Str.ofString "year"]:List Str).map V.str)∈ai by simp[ai]) (by decide +kernel) (WJ b n) (by
  intro w hw;simp only [List.mem_cons,List.not_mem_nil,or_false] at hw;rcases hw with rfl | rfl | rfl | rfl<;>first | exact hb.2 | exact pn | exact P1 _ (by decide +kernel)) (by decide +kernel) (by decide +kernel) (by simp) ?_
 have z:=lM (kp:=[Str.ofString "name",Str.ofString "name"]) (kq:=[Str.ofString "year"]) (rq:=[Str.ofString "5"]) (.cons (.name Et) (.cons (.name hn) .nil)) (.year hb.1) rfl;simp only [List.map_cons,List.map_nil,mP] at z;exact z
theorem W4 {us:List Str}{ts fs:List (List V)}{b n:Str}(hb:gT b=false/\fV b) (hn:bq n=true):dS us ts fs (((((Str.ofString "find f-f ")++n)++(Str.ofString " 1 "))++b)) .number:=by
 have pn:=jg hn;refine l8 (kd:=Str.ofString "find") [Str.ofString "f-f",n,Str.ofString "1",b] (show (Str.ofString "find",([Str.ofString "name",Str.ofString "name",Str.ofString "year",Str.ofString "year"]:List Str).map V.str)∈ai by simp[ai]) (by decide +kernel) (WK b n) (by
  intro w hw;simp only [List.mem_cons,List.not_mem_nil,or_false] at hw;rcases hw with rfl | rfl | rfl | rfl<;>first | exact hb.2 | exact pn | exact P1 _ (by decide +kernel)) (by decide +kernel) (by decide +kernel) (by simp) ?_
 have z:=lM (kp:=[Str.ofString "name",Str.ofString "name",Str.ofString "year"]) (kq:=[]) (rq:=[]) (.cons (.name Et) (.cons (.name hn) (.cons K0 .nil))) (.year hb.1) rfl;simp only [List.map_cons,List.map_nil,mP,KZ] at z;exact z
def AZ:Str:=⟨(List.replicate (60:Int).toNat 49).toArray⟩
theorem W5 {us:List Str}{ts fs:List (List V)}{n:Str}(hn:bq n=true):dS us ts fs ((((((Str.ofString "after ")++n)++(Str.ofString " "))++n)++(Str.ofString " -"))++AZ) .number:=by
 have pn:=jg hn;refine l8 (kd:=Str.ofString "after") [n,n,Str.ofString "-" ++ AZ] (show (Str.ofString "after",([Str.ofString "name",Str.ofString "name",Str.ofString "gap"]:List Str).map V.str)∈ai by simp[ai]) (by decide +kernel) (WL AZ n) (by
  intro w hw;simp only [List.mem_cons,List.not_mem_nil,or_false] at hw;rcases hw with rfl | rfl | rfl<;>first | exact pn | decide +kernel) (by decide +kernel) (by decide +kernel) (by simp) ?_
 have z:=lM (kp:=[Str.ofString "name",Str.ofString "name"]) (kq:=[]) (rq:=[]) (.cons (.name hn) (.cons (.name hn) .nil)) (.neg (x:=Str.ofString "-" ++ AZ) (by decide +kernel) (by decide +kernel)) rfl;simp only [List.map_cons,List.map_nil,mP] at z;exact z
theorem W6 {us:List Str}{ts fs:List (List V)}{n:Str}{lo hi:Int}(hn:bq n=true) (h1:dG lo) (h2:dG hi) (hl:hi<lo) (p1:fV (aR (.int lo))) (p2:fV (aR (.int hi))):dS us ts fs (((((Str.ofString "find f-f ")++n)++(Str.ofString " "))++aR (.int lo))++(Str.ofString " ")++aR (.int hi)) .span:=by
 have pn:=jg hn;refine l8 (kd:=Str.ofString "find") [Str.ofString "f-f",n,aR (.int lo),aR (.int hi)] (show (Str.ofString "find",([Str.ofString "name",Str.ofString "name",Str.ofString "year",Str.ofString "year"]:List Str).map V.str)∈ai by simp[ai]) (by decide +kernel) (WM n (aR (.int lo)) (aR (.int hi))) (by
  intro w hw;simp only [List.mem_cons,List.not_mem_nil,or_false] at hw;rcases hw with rfl | rfl | rfl | rfl
  ·decide +kernel
  ·exact pn
  ·exact p1
  ·exact p2) (by decide +kernel) (by decide +kernel) (by simp) ?_
 have z:=iU.span (kp:=[Str.ofString "name",Str.ofString "name"]) (pre:=[.str (Str.ofString "f-f"),.str n]) (lo:=lo) (hi:=hi) rfl (.cons (.name Et) (.cons (.name hn) (.cons (.year h1) (.cons (.year h2) .nil)))) hl;simp only [List.map_cons,List.map_nil,List.cons_append,List.nil_append,mP] at z;exact z
theorem vA {us:List Str}{ts fs:List (List V)}{k:bO}{kd:Str}{q:List V}(hd:kd≠Str.ofString "dig") (row:aS (.str kd::q)) (b:∀f,j0 ⟨some f,us,ts,fs⟩ (.str kd::q) k):dS us ts fs (aW (.str kd::q)) k:=by
 have hw:=row.words;have rl:=KJ row;have wd:=Ea row;unfold dS;rw[hw];refine⟨row.gK,⟨by rw[List.length_map];have:=wd.2;omega,fun y hy=>?_⟩,rl.1,?_,fun f=>.take (D8 hd) row (b f)⟩
 ·obtain⟨v,hv,rfl⟩:=List.mem_map.mp hy;rcases wd.1 v hv with ⟨x,rfl,hx⟩ | ⟨i,rfl,hi⟩
  ·show x.length<=1000;omega
  ·exact Nat.le_trans (tw i hi).2.2 (by decide)
 ·rw[Ar];have:=Aq wd.1 wd.2;omega
def qQ (P:Str->Prop) (H0:Hp) (σ:St) (te:TA) (n:Nat):Prop:=∀H Q,aa H0 H->(∀zs:List Str,zs.length=n->(∀z∈zs,P z)->Q (zs.map V.str) H)->te σ H Q
theorem l9 {P:Str->Prop}{H0:Hp}{σ:St}:qQ P H0 σ gZ 0:=fun H Q _ q=>q [] rfl (fun _ h=>nomatch h)
theorem bT {P:Str->Prop}{H0:Hp}{σ:St}{te:TE}{r:TA}{ln:Str}{n m:Nat}(h:qN H0 σ te ln m) (hw:P ln) (hr:qQ P H0 σ r n):qQ P H0 σ (oS te r) (n+1):=by
 intro H Q s q;refine h.2 H _ s ?_;refine hr H _ s fun zs hl hz=>q (ln::zs) (by rw[List.length_cons,hl]) fun z hm=>?_
 rcases List.mem_cons.mp hm with rfl | hm
 ·exact hw
 ·exact hz z hm
theorem K1 {P:Str->Prop}{H0 H:Hp}{σ:St}{te:TA}{n:Nat}{Q:VK}(m:qQ P H0 σ te n) (hn:n<=100) (s:aa H0 H) (k:∀p (zs:List Str) H',aa H H'->H' p=some (.lst (zs.map V.str))->zs.length=n->(∀z∈zs,P z)->Q (.ref p) H'):fX te σ H Q:=
 m H _ s fun zs hl hz=>⟨cU (by rw[List.length_map];omega),fun p hp=>k p zs _ (aa.new hp) zd hl hz⟩
theorem W7 {P:Str->Prop}{H0 H:Hp}{σ:St}{te:TA}{n i:Nat}{l:Addr}{xs:List Str}{Q:VK}(hv:σ[i]? = some (some (.ref l))) (s:aa H0 H) (hl:H l=some (.lst (xs.map V.str))) (hx:∀z∈xs,P z) (m:qQ P H0 σ te n) (hn:xs.length+n<=100)
  (k:∀p (ys:List Str) H',aa H H'->H' p=some (.lst (ys.map V.str))->ys.length=xs.length+n->(∀z∈ys,P z)->Q (.ref p) H') :
  iF (fun x y H Q=>∃l b xs zs,x = .ref l/\y = .ref b/\ak K H l xs/\ak K H b zs/\xs.length+zs.length<=sizeLine/\∀p,H p=none->Q (.ref p) (upd H p (.lst (xs++zs)))) (cJ i) (fX te) σ H Q:=by
 refine⟨_,hv,m H _ s fun zs el hz=>⟨cU (by rw[List.length_map];omega),fun b hb=>?_⟩⟩;have t:=aa.new (o:=.lst (zs.map V.str)) hb;refine⟨l,b,_,_,rfl,rfl,ak.of (t _ _ hl),ak.of zd,cU (by rw[List.length_map,List.length_map];omega),fun p hp=>?_⟩;refine k p (xs++zs) _ (t.trans (aa.new hp)) (by rw[zd,List.map_append]) (by rw[List.length_append,el]) fun z hm=>?_
 rcases List.mem_append.mp hm with hm | hm
 ·exact hx z hm
 ·exact hz z hm
theorem A0 {P:Str->Prop}{H0 H:Hp}{σ:St}{te:TA}{n j:Nat}{u:TS}{E0:Ends}(m:qQ P H0 σ te n) (hn:n<=100) (s:aa H0 H) (k:∀p (zs:List Str) H',aa H H'->H' p=some (.lst (zs.map V.str))->zs.length=n->(∀z∈zs,P z)->u E0 (σ.set j (some (.ref p))) H'):eY (dX (fX te) (bM j)) u E0 σ H:=by
 unfold eY dX;dsimp only;exact K1 m hn s k
theorem um {P:Str->Prop}{H0 H:Hp}{σ:St}{te:TA}{n i j:Nat}{l:Addr}{xs:List Str}{u:TS}{E0:Ends}(hv:σ[i]? = some (some (.ref l))) (s:aa H0 H) (hl:H l=some (.lst (xs.map V.str))) (hx:∀z∈xs,P z) (m:qQ P H0 σ te n) (hn:xs.length+n<=100)
  (k:∀p (ys:List Str) H',aa H H'->H' p=some (.lst (ys.map V.str))->ys.length=xs.length+n->(∀z∈ys,P z)->u E0 (σ.set j (some (.ref p))) H') :
  eY (dX (iF (fun x y H Q=>∃l b xs zs,x = .ref l/\y = .ref b/\ak K H l xs/\ak K H b zs/\xs.length+zs.length<=sizeLine/\∀p,H p=none->Q (.ref p) (upd H p (.lst (xs++zs)))) (cJ i) (fX te)) (bM j)) u E0 σ H:=by
 unfold eY dX;dsimp only;exact W7 hv s hl hx m hn k
theorem K2 {P:Str->Prop}{H0 H:Hp}{σ:St}{te:TA}{ti:TE}{r:R2}{n j:Nat}{u:TS}{E0:Ends}(m:qQ P H0 σ te n) (hn:n<=100) (s:aa H0 H) (k:∀p (zs:List Str) H',aa H H'->H' p=some (.lst (zs.map V.str))->zs.length=n->(∀z∈zs,P z)->ti σ H' fun y H1=>r (.ref p) y H1 fun v H2=>u E0 (σ.set j (some v)) H2):eY (dX (iF r (fX te) ti) (bM j)) u E0 σ H:=by
 unfold eY dX iF;dsimp only;exact K1 m hn s k
theorem qR {P:Str->Prop}{zs:List Str}(hz:∀z∈zs,P z) {n:Nat}(hn:zs.length=n) (h0:0<n) (c:Int):∃z,fG (zs.map V.str) (c%(n:Int))=some (.str z)/\P z:=by
 have h1:=Int.emod_nonneg c (show (n:Int)≠0 by omega);have h2:=Int.emod_lt_of_pos c (show (0:Int)<n by omega);obtain⟨j,ej⟩:∃j:Nat,c%(n:Int)=(j:Int):=⟨(c%n).toNat,by omega⟩;have hj:j<zs.length:=by omega
 exact⟨zs[j],by rw[ej];exact lA (by rw[List.getElem?_map,List.getElem?_eq_getElem hj];rfl),hz _ (List.getElem_mem hj)⟩
theorem W8:(Str.ofString "1" : Str)=⟨#[49]⟩:=by decide +kernel
theorem Eu {H0:Hp}{σ:St}{k:Int}(h0:0<=k:=by decide) (h1:k<=62:=by decide):qN H0 σ (iF (fun x y H Q=>∃k:Int,x = .str ⟨#[49]⟩/\y = .int k/\0<=k/\k<=1000/\Q (.str ⟨(List.replicate k.toNat 49).toArray⟩) H) (tC (.str (Str.ofString "1"))) (tC (.int k))) ⟨(List.replicate k.toNat 49).toArray⟩ 90:=
 ⟨by show (List.replicate k.toNat 49).toArray.size<=90;simp;omega,fun H Q _ q=>⟨k,by rw[W8],rfl,h0,by omega,q⟩⟩
theorem Ew {n:Str}(h:bq n=true):bq (n++Str.ofString "!")=false/\fV (n++Str.ofString "!"):=by
 have pn:=jg h;have hl:=mE h;have e:co (n++Str.ofString "!")=co n++[33]:=by rw[fU,show co (Str.ofString "!") = [33] by decide +kernel]
 have len:(n++Str.ofString "!").length=n.length+1:=by rw[←fT,e,List.length_append,fT];rfl
 refine⟨?_,?_,?_,?_,by omega⟩
 ·cases hb:bq (n++Str.ofString "!") with
  | false=>rfl
  | true=>
   have:=(by decide +kernel:(33:Nat) ∉ co bK);unfold bq at hb;simp only [Bool.and_eq_true,decide_eq_true_eq] at hb;exact absurd (of_decide_eq_true (List.all_eq_true.mp hb.2 33 (by rw[e];exact List.mem_append_right _ (List.mem_singleton_self _)))) this
 ·rw[e];intro z;rcases List.mem_append.mp z with z | z
  ·exact pn.1 z
  ·exact absurd (List.mem_singleton.mp z) (by decide)
 ·rw[e];intro z;rcases List.mem_append.mp z with z | z
  ·exact pn.2.1 z
  ·exact absurd (List.mem_singleton.mp z) (by decide)
 ·rw[e];intro z;exact absurd z (by simp)
theorem vB {J:It}{xs:List V}{P:Hp->Prop}{own:List Str}{ix:List Nat}{te:TE}{σ:St}{H1:Hp}{D:Addr}{Q:VK}(F:Fix J xs P) (f:V->Str) (hD:H1 D=none) (hP:∀H',aa H1 H'->P H') (hz:xs.length<=1000)
  (he:∀x∈xs,∀H' (Q':VK),aa H1 H'->(∀lD,aa H' lD->Q' (.str (f x)) lD)->te ((ju own ix σ).set 0 (some x)) H' Q')
  (hQ:∀H',aa H1 H'->H' D=some (.lst ((xs.map f).map V.str))->Q (.ref D) H'):qk own ix J (bM 0) kJ te σ H1 D Q:=by
 refine xF F (fun i au ys H'=>(∀z,au.set 0 z=(ju own ix σ).set 0 z)/\ys=((xs.take i).map f).map V.str/\aa H1 H'/\H' D=some (.lst ys)) ⟨fun _=>rfl,rfl,aa.new hD,zd⟩ (fun i au ys H' h=>?_) (cU hz) ?_ ?_
 ·obtain⟨_,rfl,q,hd⟩:=h;exact⟨hP _ q,hd,by simp only [List.length_map,List.length_take];omega⟩
 ·rintro i x au ys H' hx ⟨hs,rfl,q,hd⟩;have dw:=xE hx;unfold bM kJ;dsimp only;rw[hs];refine br (he x (List.mem_of_getElem? hx) H' _ q fun lD s=>⟨s _ _ hd,pD dw ⟨fun z=>List.set_set ..,?_,(q.trans s).upd hD,zd⟩⟩);rw[List.take_add_one,hx,List.map_append,List.map_append];rfl
 ·rintro au ys H' ⟨_,rfl,q,hd⟩;rw[List.take_length] at hd;exact hQ _ q hd
theorem Ex {ws zs:List V}(h:ws.map aR=zs.map aR):aW ws=aW zs:=by
 unfold aW gD;rw[show (ws.map fun v=>co (aR v))=(ws.map aR).map co by rw[List.map_map];rfl,h,List.map_map];rfl
def Ey (k:bO):Sp:=fun vs H Q _=>∃(n:Str) (c:Int),vs = [.str n,.int c]/\bq n=true/\∀(q:Addr) (ln:Str) (H':Hp),aa H H'->H' q=some (.tup [.str ln,.str (mO k)])->(∀us ts fs,dS us ts fs ln k)->Q (.ref q) H'
def jh (k:bO) (ln:Str):Prop:=∀us ts fs,dS us ts fs ln k
theorem yK {x n:Str}(hn:bq n=true) (hx:fV x) (hb:nF [x,Str.ofString "a"]=true) {ln:Str}(e:ln=aW (([x,n]:List Str).map V.str)):jh .row ln:=
 KP [x,n] hb e (fun w hw=>by
  simp only [List.mem_cons,List.not_mem_nil,or_false] at hw;rcases hw with rfl | rfl
  ·exact hx
  ·exact jg hn)
set_option maxHeartbeats 8000000 in
theorem W9 (T:Tx K mg w C_Reading zo zi zn ze zb zf zc zg zad zw zae zx zaf zy):fh P w K mg base "_law_bad_rows" ["_law_name","_law_cell"] 2 (Ey .row):=by
 refine T.Ur.has bP (fun vs H Q E h=>?_) (fun f ay A outer s H vs Q E hr h=>?_)
 ·obtain⟨n,c,rfl,_⟩:=h;rfl
 ·obtain⟨n,c,rfl,hn,k⟩:=h;have bL:zj (top 44) = [((zj (top 44)).getD 0 (.Pass ⟨0,0,0,0⟩)),((zj (top 44)).getD 1 (.Pass ⟨0,0,0,0⟩)),((zj (top 44)).getD 2 (.Pass ⟨0,0,0,0⟩)),((zj (top 44)).getD 3 (.Pass ⟨0,0,0,0⟩))]:=by kernel_rfl
  rw[bL];have fO:PS (aA bJ P w K mg base ["_law_name","_law_cell","_law_some"] "_law_bad_rows" (zm (top 44)) f ay A outer s H E).bX ((zj (top 44)).getD 0 (.Pass ⟨0,0,0,0⟩)) _:=(@bQ _ _ 2 _ _ _ _ bP.nd rfl (Or.inl rfl) (@dm _ _ _ _ (@za _ _ _ _ _ (@zp _ _ _ _) (@za _ _ _ _ _ (@ao _ _ _ _ _ _ _ _ (@zq _) (@zp _ _ _ _) (pv 0)) (@za _ _ _ _ _ (@zp _ _ _ _) (@za _ _ _ _ _ (@zp _ _ _ _) (@za _ _ _ _ _ (@zp _ _ _ _) (@za _ _ _ _ _ (@zp _ _ _ _) (@za _ _ _ _ _ (@zp _ _ _ _) (@za _ _ _ _ _ (@zp _ _ _ _) (@zh _) (by rfl)) (by rfl)) (by rfl)) (by rfl)) (by rfl)) (by rfl)) (by rfl)) (by rfl))) (by rfl) (by first | exact .inl rfl | exact .inr rfl | assumption));have fP:PS (aA bJ P w K mg base ["_law_name","_law_cell","_law_some"] "_law_bad_rows" (zm (top 44)) f ay A outer s H E).bX ((zj (top 44)).getD 1 (.Pass ⟨0,0,0,0⟩)) _:=(@bQ _ _ 2 _ _ _ _ bP.nd rfl (Or.inl rfl) (@ao _ _ _ _ _ _ _ _ (@jz _ K rfl) (pv 2) (@dm _ _ _ _ (@za _ _ _ _ _ (@zp _ _ _ _) (@za _ _ _ _ _ (@zp _ _ _ _) (@za _ _ _ _ _ (@zp _ _ _ _) (@za _ _ _ _ _ (@zp _ _ _ _) (@za _ _ _ _ _ (@zp _ _ _ _) (@za _ _ _ _ _ (@zp _ _ _ _) (@za _ _ _ _ _ (@zp _ _ _ _) (@za _ _ _ _ _ (@zp _ _ _ _) (@za _ _ _ _ _ (@zp _ _ _ _) (@zh _) (by rfl)) (by rfl)) (by rfl)) (by rfl)) (by rfl)) (by rfl)) (by rfl)) (by rfl)) (by rfl)))) (by rfl) (by first | exact .inl rfl | exact .inr rfl | assumption));have fQ:PS (aA bJ P w K mg base ["_law_name","_law_cell","_law_some"] "_law_bad_rows" (zm (top 44)) f ay A outer s H E).bX ((zj (top 44)).getD 2 (.Pass ⟨0,0,0,0⟩)) _:=(@bQ _ _ 2 _ _ _ _ bP.nd rfl (Or.inl rfl) (@ao _ _ _ _ _ _ _ _ (@jz _ K rfl) (pv 2) (@dm _ _ _ _ (@za _ _ _ _ _ (@ao _ _ _ _ _ _ _ _ (@zq _) (@zp _ _ _ _) (pv 0)) (@za _ _ _ _ _ (@zp _ _ _ _) (@za _ _ _ _ _ (@zp _ _ _ _) (@za _ _ _ _ _ (@zp _ _ _ _) (@za _ _ _ _ _ (@zp _ _ _ _) (@za _ _ _ _ _ (@zp _ _ _ _) (@za _ _ _ _ _ (@zp _ _ _ _) (@zh _) (by rfl)) (by rfl)) (by rfl)) (by rfl)) (by rfl)) (by rfl)) (by rfl)))) (by rfl) (by first | exact .inl rfl | exact .inr rfl | assumption));have gR:PS (aA bJ P w K mg base ["_law_name","_law_cell","_law_some"] "_law_bad_rows" (zm (top 44)) f ay A outer s H E).bX ((zj (top 44)).getD 3 (.Pass ⟨0,0,0,0⟩)) _:=(@cH _ _ _ _ (@dJ _ _ _ _ _ (@za _ _ _ _ _ (@bI _ _ _ _ _ _ _ (@cT _ K rfl) (pv 2) (@ao _ _ _ _ _ _ _ _ (@gz _) (pv 1) (@cW _ _ _ _ _ _ _ _ _ (@jb _ K rfl) (by rfl) T.len boot_len (@za _ _ _ _ _ (pv 2) (@zh _) (by rfl)) (by decide) (by decide) (by rfl) (by rfl))) (fun _ _=>rfl)) (@za _ _ _ _ _ (@zp _ _ _ _) (@zh _) (by rfl)) (by rfl))));generalize ((zj (top 44)).getD 0 (.Pass ⟨0,0,0,0⟩))=kU at fO ⊢;generalize ((zj (top 44)).getD 1 (.Pass ⟨0,0,0,0⟩))=kX at fP ⊢;generalize ((zj (top 44)).getD 2 (.Pass ⟨0,0,0,0⟩))=kY at fQ ⊢;generalize ((zj (top 44)).getD 3 (.Pass ⟨0,0,0,0⟩))=mh at gR ⊢;refine⟨_,zk fO (zk fP (zk fQ (zv gR))),?_⟩;clear bL fO fP fQ gR kU kX kY mh;rw[show L2.start (["_law_name","_law_cell","_law_some"]:List Str) [V.str n,V.int c] = [some (V.str n),some (V.int c),none] from rfl];have pn:=jg hn;refine A0 (P:=jh .row) (bT aU (i7 (by decide +kernel)) (bT (bZ aU (dZ (slot ⟨_,rfl,rfl⟩) pn)) (yK hn (by decide +kernel) (by decide +kernel) (Wz n)) (bT aU (i7 (by decide +kernel)) (bT aU (i7 (by decide +kernel)) (bT aU (i7 (by decide +kernel)) (bT aU (i7 (by decide +kernel)) (bT aU (i7 (by decide +kernel)) (bT aU (i7 (by decide +kernel)) l9)))))))) (by decide) (aa.refl _) (fun l0 y0 G0 w0 e0 n0 c0=>?_)
  try dsimp only [bM,List.set]
  refine um (P:=jh .row) (slot ⟨_,rfl,rfl⟩) w0 e0 c0 (bT aU (i7 (by decide +kernel)) (bT aU (i7 (by decide +kernel)) (bT aU (i7 (by decide +kernel)) (bT aU (i7 (by decide +kernel)) (bT aU (i7 (by decide +kernel)) (bT aU (i7 (by decide +kernel)) (bT aU (i7 (by decide +kernel)) (bT aU (i7 (by decide +kernel)) (bT aU (i7 (by decide +kernel)) l9))))))))) (by omega) (fun l1 y1 G1 w1 e1 n1 c1=>?_)
  try dsimp only [bM,List.set]
  have W1:=w0.trans w1;refine um (P:=jh .row) (slot ⟨_,rfl,rfl⟩) W1 e1 c1 (bT (bZ aU (dZ (slot ⟨_,rfl,rfl⟩) pn)) (yK hn (by decide +kernel) (by decide +kernel) (WA n)) (bT aU (i7 (by decide +kernel)) (bT aU (i7 (by decide +kernel)) (bT aU (i7 (by decide +kernel)) (bT aU (i7 (by decide +kernel)) (bT aU (i7 (by decide +kernel)) (bT aU (i7 (by decide +kernel)) l9))))))) (by omega) (fun l2 y2 G2 w2 e2 n2 c2=>?_)
  try dsimp only [bM,List.set]
  have W2:=W1.trans w2;obtain⟨ln,ea,hw⟩:=qR c2 rfl (show 0<y2.length by omega) c;refine⟨_,rfl,_,rfl,_,rfl,l2,_,rfl,.inl (ak.of e2),_,_,rfl,rfl,(show (0:Int)<((y2.map V.str).length:Int) by rw[List.length_map];omega),l2,_,_,_,rfl,rfl,ak.of e2,(show fG (y2.map V.str) (c%((y2.map V.str).length:Int))=_ by rw[List.length_map];exact ea),(by show 2<=sizeLine;decide),fun q hq=>k q ln _ (W2.trans (aa.new hq)) zd hw⟩
set_option maxHeartbeats 8000000 in
theorem Xa (T:Tx K mg w C_Reading zo zi zn ze zb zf zc zg zad zw zae zx zaf zy):fh P w K mg base "_law_bad_names" ["_law_name","_law_cell"] 2 (Ey .name):=by
 refine T.Us.has bh (fun vs H Q E h=>?_) (fun f ay A outer s H vs Q E hr h=>?_)
 ·obtain⟨n,c,rfl,_⟩:=h;rfl
 ·obtain⟨n,c,rfl,hn,k⟩:=h;have bL:zj (top 45) = [((zj (top 45)).getD 0 (.Pass ⟨0,0,0,0⟩)),((zj (top 45)).getD 1 (.Pass ⟨0,0,0,0⟩)),((zj (top 45)).getD 2 (.Pass ⟨0,0,0,0⟩)),((zj (top 45)).getD 3 (.Pass ⟨0,0,0,0⟩)),((zj (top 45)).getD 4 (.Pass ⟨0,0,0,0⟩))]:=by kernel_rfl
  rw[bL];have fO:PS (aA bJ P w K mg base ["_law_name","_law_cell","_law_bad","_law_some"] "_law_bad_names" (zm (top 45)) f ay A outer s H E).bX ((zj (top 45)).getD 0 (.Pass ⟨0,0,0,0⟩)) _:=(@bQ _ _ 2 _ _ _ _ bh.nd rfl (Or.inl rfl) (@bI _ _ _ _ _ _ _ (@cT _ K rfl) (@dm _ _ _ _ (@za _ _ _ _ _ (@zp _ _ _ _) (@za _ _ _ _ _ (@zp _ _ _ _) (@za _ _ _ _ _ (@zp _ _ _ _) (@za _ _ _ _ _ (@zp _ _ _ _) (@za _ _ _ _ _ (@zp _ _ _ _) (@za _ _ _ _ _ (@zp _ _ _ _) (@za _ _ _ _ _ (@zp _ _ _ _) (@za _ _ _ _ _ (@zp _ _ _ _) (@za _ _ _ _ _ (@zp _ _ _ _) (@za _ _ _ _ _ (@ao _ _ _ _ _ _ _ _ (@zq _) (pv 0) (@zp _ _ _ _)) (@zh _) (by rfl)) (by rfl)) (by rfl)) (by rfl)) (by rfl)) (by rfl)) (by rfl)) (by rfl)) (by rfl)) (by rfl))) (@ao _ _ _ _ _ _ _ _ (@gz _) (pv 1) (@zr _ _ _ _)) (fun _ _=>rfl)) (by rfl) (by first | exact .inl rfl | exact .inr rfl | assumption));have fP:PS (aA bJ P w K mg base ["_law_name","_law_cell","_law_bad","_law_some"] "_law_bad_names" (zm (top 45)) f ay A outer s H E).bX ((zj (top 45)).getD 1 (.Pass ⟨0,0,0,0⟩)) _:=(@bQ _ _ 3 _ _ _ _ bh.nd rfl (Or.inl rfl) (@dm _ _ _ _ (@za _ _ _ _ _ (@ao _ _ _ _ _ _ _ _ (@zq _) (@zp _ _ _ _) (pv 2)) (@za _ _ _ _ _ (@ao _ _ _ _ _ _ _ _ (@zq _) (@ao _ _ _ _ _ _ _ _ (@zq _) (@ao _ _ _ _ _ _ _ _ (@zq _) (@zp _ _ _ _) (pv 2)) (@zp _ _ _ _)) (pv 0)) (@za _ _ _ _ _ (@ao _ _ _ _ _ _ _ _ (@zq _) (@ao _ _ _ _ _ _ _ _ (@zq _) (@ao _ _ _ _ _ _ _ _ (@zq _) (@zp _ _ _ _) (pv 0)) (@zp _ _ _ _)) (pv 2)) (@za _ _ _ _ _ (@ao _ _ _ _ _ _ _ _ (@zq _) (@ao _ _ _ _ _ _ _ _ (@zq _) (@ao _ _ _ _ _ _ _ _ (@zq _) (@zp _ _ _ _) (pv 2)) (@zp _ _ _ _)) (pv 0)) (@zh _) (by rfl)) (by rfl)) (by rfl)) (by rfl))) (by rfl) (by first | exact .inl rfl | exact .inr rfl | assumption));have fQ:PS (aA bJ P w K mg base ["_law_name","_law_cell","_law_bad","_law_some"] "_law_bad_names" (zm (top 45)) f ay A outer s H E).bX ((zj (top 45)).getD 2 (.Pass ⟨0,0,0,0⟩)) _:=(@bQ _ _ 3 _ _ _ _ bh.nd rfl (Or.inl rfl) (@ao _ _ _ _ _ _ _ _ (@jz _ K rfl) (pv 3) (@dm _ _ _ _ (@za _ _ _ _ _ (@ao _ _ _ _ _ _ _ _ (@zq _) (@ao _ _ _ _ _ _ _ _ (@zq _) (@ao _ _ _ _ _ _ _ _ (@zq _) (@ao _ _ _ _ _ _ _ _ (@zq _) (@zp _ _ _ _) (pv 0)) (@zp _ _ _ _)) (pv 2)) (@zp _ _ _ _)) (@za _ _ _ _ _ (@ao _ _ _ _ _ _ _ _ (@zq _) (@ao _ _ _ _ _ _ _ _ (@zq _) (@ao _ _ _ _ _ _ _ _ (@zq _) (@ao _ _ _ _ _ _ _ _ (@zq _) (@zp _ _ _ _) (pv 2)) (@zp _ _ _ _)) (pv 0)) (@zp _ _ _ _)) (@zh _) (by rfl)) (by rfl)))) (by rfl) (by first | exact .inl rfl | exact .inr rfl | assumption));have gR:PS (aA bJ P w K mg base ["_law_name","_law_cell","_law_bad","_law_some"] "_law_bad_names" (zm (top 45)) f ay A outer s H E).bX ((zj (top 45)).getD 3 (.Pass ⟨0,0,0,0⟩)) _:=(@bQ _ _ 3 _ _ _ _ bh.nd rfl (Or.inl rfl) (@ao _ _ _ _ _ _ _ _ (@jz _ K rfl) (pv 3) (@dm _ _ _ _ (@za _ _ _ _ _ (@ao _ _ _ _ _ _ _ _ (@zq _) (@ao _ _ _ _ _ _ _ _ (@zq _) (@zp _ _ _ _) (pv 2)) (@zp _ _ _ _)) (@zh _) (by rfl)))) (by rfl) (by first | exact .inl rfl | exact .inr rfl | assumption));have jE:PS (aA bJ P w K mg base ["_law_name","_law_cell","_law_bad","_law_some"] "_law_bad_names" (zm (top 45)) f ay A outer s H E).bX ((zj (top 45)).getD 4 (.Pass ⟨0,0,0,0⟩)) _:=(@cH _ _ _ _ (@dJ _ _ _ _ _ (@za _ _ _ _ _ (@bI _ _ _ _ _ _ _ (@cT _ K rfl) (pv 3) (@ao _ _ _ _ _ _ _ _ (@gz _) (@ao _ _ _ _ _ _ _ _ (@uO _) (pv 1) (@zr _ _ _ _)) (@zr _ _ _ _)) (fun _ _=>rfl)) (@za _ _ _ _ _ (@zp _ _ _ _) (@zh _) (by rfl)) (by rfl))));generalize ((zj (top 45)).getD 0 (.Pass ⟨0,0,0,0⟩))=kU at fO ⊢;generalize ((zj (top 45)).getD 1 (.Pass ⟨0,0,0,0⟩))=kX at fP ⊢;generalize ((zj (top 45)).getD 2 (.Pass ⟨0,0,0,0⟩))=kY at fQ ⊢;generalize ((zj (top 45)).getD 3 (.Pass ⟨0,0,0,0⟩))=mh at gR ⊢;generalize ((zj (top 45)).getD 4 (.Pass ⟨0,0,0,0⟩))=pU at jE ⊢;refine⟨_,zk fO (zk fP (zk fQ (zk gR (zv jE)))),?_⟩;clear bL fO fP fQ gR jE kU kX kY mh pU;rw[show L2.start (["_law_name","_law_cell","_law_bad","_law_some"]:List Str) [V.str n,V.int c] = [some (V.str n),some (V.int c),none,none] from rfl];have pn:=jg hn;refine K2 (P:=fun b=>bq b=false/\fV b) (bT aU (by decide +kernel) (bT aU (by decide +kernel) (bT aU (by decide +kernel) (bT aU (by decide +kernel) (bT aU (by decide +kernel) (bT aU (by decide +kernel) (bT aU (by decide +kernel) (bT aU (by decide +kernel) (bT aU (by decide +kernel) (bT (bZ (dZ (slot ⟨_,rfl,rfl⟩) pn) aU) (Ew hn) l9)))))))))) (by decide) (aa.refl _) (fun l0 y0 G0 w0 e0 n0 c0=>?_);obtain⟨b,ea,hb⟩:=qR c0 n0 (by decide) c;refine⟨_,rfl,_,_,rfl,rfl,(show (0:Int)<10 by decide),l0,_,_,_,rfl,rfl,ak.of e0,ea,?_⟩
  try dsimp only [bM,List.set]
  refine A0 (P:=jh .name) (bT (bZ aU (dZ (slot ⟨_,rfl,rfl⟩) hb.2)) (fun us ts fs=>WR hb hn) (bT (bZ (bZ (bZ aU (dZ (slot ⟨_,rfl,rfl⟩) hb.2)) aU) (dZ (slot ⟨_,rfl,rfl⟩) pn)) (fun us ts fs=>WS hb hn) (bT (bZ (bZ (bZ aU (dZ (slot ⟨_,rfl,rfl⟩) pn)) aU) (dZ (slot ⟨_,rfl,rfl⟩) hb.2)) (fun us ts fs=>WT hb hn) (bT (bZ (bZ (bZ aU (dZ (slot ⟨_,rfl,rfl⟩) hb.2)) aU) (dZ (slot ⟨_,rfl,rfl⟩) pn)) (fun us ts fs=>WU hb hn) l9)))) (by decide) (aa.refl _) (fun l1 y1 G1 w1 e1 n1 c1=>?_)
  try dsimp only [bM,List.set]
  refine um (P:=jh .name) (slot ⟨_,rfl,rfl⟩) w1 e1 c1 (bT (bZ (bZ (bZ (bZ aU (dZ (slot ⟨_,rfl,rfl⟩) pn)) aU) (dZ (slot ⟨_,rfl,rfl⟩) hb.2)) aU) (fun us ts fs=>WV hb hn) (bT (bZ (bZ (bZ (bZ aU (dZ (slot ⟨_,rfl,rfl⟩) hb.2)) aU) (dZ (slot ⟨_,rfl,rfl⟩) pn)) aU) (fun us ts fs=>WW hb hn) l9)) (by omega) (fun l2 y2 G2 w2 e2 n2 c2=>?_)
  try dsimp only [bM,List.set]
  have W2:=w1.trans w2;refine um (P:=jh .name) (slot ⟨_,rfl,rfl⟩) W2 e2 c2 (bT (bZ (bZ aU (dZ (slot ⟨_,rfl,rfl⟩) hb.2)) aU) (fun us ts fs=>WX hb hn) l9) (by omega) (fun l3 y3 G3 w3 e3 n3 c3=>?_)
  try dsimp only [bM,List.set]
  have W3:=W2.trans w3;obtain⟨ln,yL,hw⟩:=qR c3 (n:=7) (by omega) (by decide) (c / 10);refine⟨_,rfl,_,rfl,_,_,rfl,rfl,?_,_,_,rfl,rfl,(show (0:Int)<7 by decide),l3,_,_,_,rfl,rfl,ak.of e3,yL,(by show 2<=sizeLine;decide),fun q hq=>k q ln _ (w0.trans (W3.trans (aa.new hq))) zd hw⟩;exact⟨by decide,by decide⟩
set_option maxHeartbeats 8000000 in
theorem Xb (T:Tx K mg w C_Reading zo zi zn ze zb zf zc zg zad zw zae zx zaf zy):fh P w K mg base "_law_bad_numbers" ["_law_name","_law_cell"] 2 (Ey .number):=by
 refine T.Ut.has aQ (fun vs H Q E h=>?_) (fun f ay A outer s H vs Q E hr h=>?_)
 ·obtain⟨n,c,rfl,_⟩:=h;rfl
 ·obtain⟨n,c,rfl,hn,k⟩:=h;have bL:zj (top 46) = [((zj (top 46)).getD 0 (.Pass ⟨0,0,0,0⟩)),((zj (top 46)).getD 1 (.Pass ⟨0,0,0,0⟩)),((zj (top 46)).getD 2 (.Pass ⟨0,0,0,0⟩)),((zj (top 46)).getD 3 (.Pass ⟨0,0,0,0⟩)),((zj (top 46)).getD 4 (.Pass ⟨0,0,0,0⟩))]:=by kernel_rfl
  rw[bL];have fO:PS (aA bJ P w K mg base ["_law_name","_law_cell","_law_bad","_law_some"] "_law_bad_numbers" (zm (top 46)) f ay A outer s H E).bX ((zj (top 46)).getD 0 (.Pass ⟨0,0,0,0⟩)) _:=(@bQ _ _ 2 _ _ _ _ aQ.nd rfl (Or.inl rfl) (@bI _ _ _ _ _ _ _ (@cT _ K rfl) (@dm _ _ _ _ (@za _ _ _ _ _ (@zp _ _ _ _) (@za _ _ _ _ _ (@zp _ _ _ _) (@za _ _ _ _ _ (@zp _ _ _ _) (@za _ _ _ _ _ (@zp _ _ _ _) (@za _ _ _ _ _ (@ao _ _ _ _ _ _ _ _ (@Ds _ 49) (@zp _ _ _ _) (@zr _ _ _ _)) (@za _ _ _ _ _ (@zp _ _ _ _) (@za _ _ _ _ _ (@zp _ _ _ _) (@za _ _ _ _ _ (@zp _ _ _ _) (@za _ _ _ _ _ (@zp _ _ _ _) (@za _ _ _ _ _ (@zp _ _ _ _) (@za _ _ _ _ _ (@zp _ _ _ _) (@za _ _ _ _ _ (@zp _ _ _ _) (@za _ _ _ _ _ (@ao _ _ _ _ _ _ _ _ (@zq _) (@zp _ _ _ _) (@ao _ _ _ _ _ _ _ _ (@Ds _ 49) (@zp _ _ _ _) (@zr _ _ _ _))) (@zh _) (by rfl)) (by rfl)) (by rfl)) (by rfl)) (by rfl)) (by rfl)) (by rfl)) (by rfl)) (by rfl)) (by rfl)) (by rfl)) (by rfl)) (by rfl))) (@ao _ _ _ _ _ _ _ _ (@gz _) (pv 1) (@zr _ _ _ _)) (fun _ _=>rfl)) (by rfl) (by first | exact .inl rfl | exact .inr rfl | assumption));have fP:PS (aA bJ P w K mg base ["_law_name","_law_cell","_law_bad","_law_some"] "_law_bad_numbers" (zm (top 46)) f ay A outer s H E).bX ((zj (top 46)).getD 1 (.Pass ⟨0,0,0,0⟩)) _:=(@bQ _ _ 3 _ _ _ _ aQ.nd rfl (Or.inl rfl) (@dm _ _ _ _ (@za _ _ _ _ _ (@ao _ _ _ _ _ _ _ _ (@zq _) (@ao _ _ _ _ _ _ _ _ (@zq _) (@ao _ _ _ _ _ _ _ _ (@zq _) (@ao _ _ _ _ _ _ _ _ (@zq _) (@ao _ _ _ _ _ _ _ _ (@zq _) (@zp _ _ _ _) (pv 0)) (@zp _ _ _ _)) (pv 0)) (@zp _ _ _ _)) (pv 2)) (@za _ _ _ _ _ (@ao _ _ _ _ _ _ _ _ (@zq _) (@ao _ _ _ _ _ _ _ _ (@zq _) (@ao _ _ _ _ _ _ _ _ (@zq _) (@ao _ _ _ _ _ _ _ _ (@zq _) (@zp _ _ _ _) (pv 0)) (@zp _ _ _ _)) (pv 0)) (@zp _ _ _ _)) (@zh _) (by rfl)) (by rfl))) (by rfl) (by first | exact .inl rfl | exact .inr rfl | assumption));have fQ:PS (aA bJ P w K mg base ["_law_name","_law_cell","_law_bad","_law_some"] "_law_bad_numbers" (zm (top 46)) f ay A outer s H E).bX ((zj (top 46)).getD 2 (.Pass ⟨0,0,0,0⟩)) _:=(@bQ _ _ 3 _ _ _ _ aQ.nd rfl (Or.inl rfl) (@ao _ _ _ _ _ _ _ _ (@jz _ K rfl) (pv 3) (@dm _ _ _ _ (@za _ _ _ _ _ (@ao _ _ _ _ _ _ _ _ (@zq _) (@ao _ _ _ _ _ _ _ _ (@zq _) (@ao _ _ _ _ _ _ _ _ (@zq _) (@ao _ _ _ _ _ _ _ _ (@zq _) (@zp _ _ _ _) (pv 0)) (@zp _ _ _ _)) (pv 2)) (@zp _ _ _ _)) (@za _ _ _ _ _ (@ao _ _ _ _ _ _ _ _ (@zq _) (@ao _ _ _ _ _ _ _ _ (@zq _) (@ao _ _ _ _ _ _ _ _ (@zq _) (@zp _ _ _ _) (pv 0)) (@zp _ _ _ _)) (pv 2)) (@zh _) (by rfl)) (by rfl)))) (by rfl) (by first | exact .inl rfl | exact .inr rfl | assumption));have gR:PS (aA bJ P w K mg base ["_law_name","_law_cell","_law_bad","_law_some"] "_law_bad_numbers" (zm (top 46)) f ay A outer s H E).bX ((zj (top 46)).getD 3 (.Pass ⟨0,0,0,0⟩)) _:=(@bQ _ _ 3 _ _ _ _ aQ.nd rfl (Or.inl rfl) (@ao _ _ _ _ _ _ _ _ (@jz _ K rfl) (pv 3) (@dm _ _ _ _ (@za _ _ _ _ _ (@ao _ _ _ _ _ _ _ _ (@zq _) (@ao _ _ _ _ _ _ _ _ (@zq _) (@ao _ _ _ _ _ _ _ _ (@zq _) (@ao _ _ _ _ _ _ _ _ (@zq _) (@ao _ _ _ _ _ _ _ _ (@zq _) (@zp _ _ _ _) (pv 0)) (@zp _ _ _ _)) (pv 0)) (@zp _ _ _ _)) (@ao _ _ _ _ _ _ _ _ (@Ds _ 49) (@zp _ _ _ _) (@zr _ _ _ _))) (@zh _) (by rfl)))) (by rfl) (by first | exact .inl rfl | exact .inr rfl | assumption));have jE:PS (aA bJ P w K mg base ["_law_name","_law_cell","_law_bad","_law_some"] "_law_bad_numbers" (zm (top 46)) f ay A outer s H E).bX ((zj (top 46)).getD 4 (.Pass ⟨0,0,0,0⟩)) _:=(@cH _ _ _ _ (@dJ _ _ _ _ _ (@za _ _ _ _ _ (@bI _ _ _ _ _ _ _ (@cT _ K rfl) (pv 3) (@ao _ _ _ _ _ _ _ _ (@gz _) (@ao _ _ _ _ _ _ _ _ (@uO _) (pv 1) (@zr _ _ _ _)) (@zr _ _ _ _)) (fun _ _=>rfl)) (@za _ _ _ _ _ (@zp _ _ _ _) (@zh _) (by rfl)) (by rfl))));generalize ((zj (top 46)).getD 0 (.Pass ⟨0,0,0,0⟩))=kU at fO ⊢;generalize ((zj (top 46)).getD 1 (.Pass ⟨0,0,0,0⟩))=kX at fP ⊢;generalize ((zj (top 46)).getD 2 (.Pass ⟨0,0,0,0⟩))=kY at fQ ⊢;generalize ((zj (top 46)).getD 3 (.Pass ⟨0,0,0,0⟩))=mh at gR ⊢;generalize ((zj (top 46)).getD 4 (.Pass ⟨0,0,0,0⟩))=pU at jE ⊢;refine⟨_,zk fO (zk fP (zk fQ (zk gR (zv jE)))),?_⟩;clear bL fO fP fQ gR jE kU kX kY mh pU;rw[show L2.start (["_law_name","_law_cell","_law_bad","_law_some"]:List Str) [V.str n,V.int c] = [some (V.str n),some (V.int c),none,none] from rfl];have pn:=jg hn;refine K2 (P:=fun b=>gT b=false/\fV b) (bT aU (by decide +kernel) (bT aU (by decide +kernel) (bT aU (by decide +kernel) (bT aU (by decide +kernel) (bT Eu (by decide +kernel) (bT aU (by decide +kernel) (bT aU (by decide +kernel) (bT aU (by decide +kernel) (bT aU (by decide +kernel) (bT aU (by decide +kernel) (bT aU (by decide +kernel) (bT aU (by decide +kernel) (bT (bZ aU Eu) (by decide +kernel) l9))))))))))))) (by decide) (aa.refl _) (fun l0 y0 G0 w0 e0 n0 c0=>?_);obtain⟨b,ea,hb⟩:=qR c0 n0 (by decide) c;refine⟨_,rfl,_,_,rfl,rfl,(show (0:Int)<13 by decide),l0,_,_,_,rfl,rfl,ak.of e0,ea,?_⟩
  try dsimp only [bM,List.set]
  refine A0 (P:=jh .number) (bT (bZ (bZ (bZ (bZ (bZ aU (dZ (slot ⟨_,rfl,rfl⟩) pn)) aU) (dZ (slot ⟨_,rfl,rfl⟩) pn)) aU) (dZ (slot ⟨_,rfl,rfl⟩) hb.2)) (fun us ts fs=>WY hb hn) (bT (bZ (bZ (bZ (bZ aU (dZ (slot ⟨_,rfl,rfl⟩) pn)) aU) (dZ (slot ⟨_,rfl,rfl⟩) pn)) aU) (fun us ts fs=>WZ hb hn) l9)) (by decide) (aa.refl _) (fun l1 y1 G1 w1 e1 n1 c1=>?_)
  try dsimp only [bM,List.set]
  refine um (P:=jh .number) (slot ⟨_,rfl,rfl⟩) w1 e1 c1 (bT (bZ (bZ (bZ (bZ aU (dZ (slot ⟨_,rfl,rfl⟩) pn)) aU) (dZ (slot ⟨_,rfl,rfl⟩) hb.2)) aU) (fun us ts fs=>W0 hb hn) (bT (bZ (bZ (bZ aU (dZ (slot ⟨_,rfl,rfl⟩) pn)) aU) (dZ (slot ⟨_,rfl,rfl⟩) hb.2)) (fun us ts fs=>W4 hb hn) l9)) (by omega) (fun l2 y2 G2 w2 e2 n2 c2=>?_)
  try dsimp only [bM,List.set]
  have W2:=w1.trans w2;refine um (P:=jh .number) (slot ⟨_,rfl,rfl⟩) W2 e2 c2 (bT (bZ (bZ (bZ (bZ (bZ aU (dZ (slot ⟨_,rfl,rfl⟩) pn)) aU) (dZ (slot ⟨_,rfl,rfl⟩) pn)) aU) Eu) (fun us ts fs=>W5 hn) l9) (by omega) (fun l3 y3 G3 w3 e3 n3 c3=>?_)
  try dsimp only [bM,List.set]
  have W3:=W2.trans w3;obtain⟨ln,yL,hw⟩:=qR c3 (n:=5) (by omega) (by decide) (c / 13);refine⟨_,rfl,_,rfl,_,_,rfl,rfl,?_,_,_,rfl,rfl,(show (0:Int)<5 by decide),l3,_,_,_,rfl,rfl,ak.of e3,yL,(by show 2<=sizeLine;decide),fun q hq=>k q ln _ (w0.trans (W3.trans (aa.new hq))) zd hw⟩;exact⟨by decide,by decide⟩
theorem Xc {us:List Str}{ts fs:List (List V)}{u:Str}(hn:bq u=true) (hu:u∈us):dS us ts fs (Str.ofString "unit " ++ u) .twice:=by
 rw[KY u];exact vA (kd:=Str.ofString "unit") (q:=[.str u]) (by decide +kernel) (.unit hn) fun f=>.unit hu
theorem K3 {us:List Str}{ws:List V}(h:bS us ws):∃kd x y r,ws = .str kd :: .str x :: .str y::r/\kd≠Str.ofString "dig"/\kd ∉ ([Str.ofString "dig",Str.ofString "unit",Str.ofString "find"]:List Str)/\x∈us/\y∈us:=by
 cases h with
 | plain hk hx hy=>
  refine⟨_,_,_,_,rfl,?_,?_,hx,hy⟩
  ·rintro rfl;exact absurd hk (by decide +kernel)
  ·exact (by decide +kernel:∀k∈lT,k ∉ ([Str.ofString "dig",Str.ofString "unit",Str.ofString "find"]:List Str)) _ hk
 | after hx hy h0 h1=>exact⟨_,_,_,_,rfl,by decide +kernel,by decide +kernel,hx,hy⟩
theorem Xd {us:List Str}{ts fs:List (List V)}{ws:List V}(hn:∀x∈us,bq x=true) (h:bS us ws) (hm:ws∈ts):dS us ts fs (aW ws) .twice:=by
 have row:=h.row hn;obtain⟨kd,x,y,r,rfl,h1,h2,_⟩:=K3 h;exact vA h1 row fun f=>.je rfl h2 hm
theorem Xe {us:List Str}{ts fs:List (List V)}{F u:Str}(hF:bq F=true) (hu:bq u=true) (h:∃f∈fs,f.head? = some (.str F)):dS us ts fs (((((Str.ofString "find ")++F)++(Str.ofString " "))++u)++(Str.ofString " 5 7")) .twice:=by
 rw[sd F u,Ex (zs:=[.str (Str.ofString "find"),.str F,.str u,.int 5,.int 7]) (by
  simp only [List.map_cons,List.map_nil,mP];rw[show aR (.int 5)=Str.ofString "5" by decide +kernel,show aR (.int 7)=Str.ofString "7" by decide +kernel])]
 exact vA (by decide +kernel) (.find hF hu (by decide:(5:Int)<=7) (by unfold dG;decide +kernel) (by unfold dG;decide +kernel)) fun f=>.find h
def Xf:Sp:=fun vs H Q _=>∃(pu pt pf:Addr) (c:Int) (us:List Str) (ts fs rs:List (List V)) (at' af:List Addr),vs = [.ref pu,.ref pt,.ref pf,.int c]/\Told us ts fs rs/\rs.length<=63/\us≠[]/\ak K H pu (us.map V.str)/\ak K H pt (at'.map V.ref)/\aP H at' ts/\ak K H pf (af.map V.ref)/\aP H af fs/\
 ∀(q:Addr) (ln:Str) (H':Hp),aa H H'->H' q=some (.tup [.str ln,.str (mO .twice)])->dS us ts fs ln .twice->Q (.ref q) H'
def iy:V->Str
 | .str x=>x
 | _=>Str.ofString ""
def eS (H:Hp) (g:List V->Str):V->Str
 | .ref a=>match H a with
  | some (.tup ws)=>g ws
  | _=>Str.ofString ""
 | _=>Str.ofString ""
theorem qS {H:Hp}{g:List V->Str}{a:Addr}{ws:List V}(h:H a=some (.tup ws)):eS H g (.ref a)=g ws:=by
 unfold eS;dsimp only;rw[h]
set_option maxHeartbeats 8000000 in
theorem Xg (T:Tx K mg w C_Reading zo zi zn ze zb zf zc zg zad zw zae zx zaf zy):fh P w K mg base "_law_bad_twice" ["_law_units","_law_ties","_law_finds","_law_cell"] 3 (Xf (K:=K)):=by
 refine T.Uu.has bF (fun vs H Q E h=>?_) (fun f ay A outer s H vs Q E hr h=>?_)
 ·obtain⟨pu,gw,pf,c,us,ts,fs,rs,at',af,rfl,_⟩:=h;rfl
 ·obtain⟨pu,gw,pf,c,us,ts,fs,rs,at',af,rfl,td,Ez,EA,hu,ht,tt,hf,ff,k⟩:=h;have bL:zj (top 47) = [((zj (top 47)).getD 0 (.Pass ⟨0,0,0,0⟩)),((zj (top 47)).getD 1 (.Pass ⟨0,0,0,0⟩)),((zj (top 47)).getD 2 (.Pass ⟨0,0,0,0⟩)),((zj (top 47)).getD 3 (.Pass ⟨0,0,0,0⟩))]:=by kernel_rfl
  rw[bL];have fO:PS (aA bJ P w K mg base ["_law_units","_law_ties","_law_finds","_law_cell","_law_some"] "_law_bad_twice" (zm (top 47)) f ay A outer s H E).bX ((zj (top 47)).getD 0 (.Pass ⟨0,0,0,0⟩)) _:=(@sE _ _ _ _ _ _ _ ["_law_unit"] [] [] _ _ _ _ (zm (top 47)) 4 _ _ _ rfl bF.nd rfl rfl rfl ⟨rfl,by decide +kernel,by decide +kernel,by decide +kernel,by decide +kernel⟩ rfl (@lR _ _ K rfl _ _ (pv 0)) (fun _ _ _ _=>@d9 _ _ 0 _ (show List.Nodup (["_law_unit"]:List Str) by decide +kernel) rfl (Or.inl rfl) (by first | exact .inl rfl | exact .inr rfl | assumption)) (fun _ _ _ _=>@m8 _) (fun _ _ _ _=>(@ao _ _ _ _ _ _ _ _ (@zq _) (@zp _ _ _ _) (pv 0))) (by intro _;rfl) (by rfl));have fP:PS (aA bJ P w K mg base ["_law_units","_law_ties","_law_finds","_law_cell","_law_some"] "_law_bad_twice" (zm (top 47)) f ay A outer s H E).bX ((zj (top 47)).getD 1 (.Pass ⟨0,0,0,0⟩)) _:=(@bQ _ _ 4 _ _ _ _ bF.nd rfl (Or.inl rfl) (@ao _ _ _ _ _ _ _ _ (@jz _ K rfl) (pv 4) (@pA _ _ _ _ _ _ _ ["_law_tie_here"] [] [] _ _ _ _ (zm (top 47)) rfl ⟨rfl,by decide +kernel,by decide +kernel,by decide +kernel,by decide +kernel⟩ rfl (@lR _ _ K rfl _ _ (pv 1)) (fun _ _ _ _=>@d9 _ _ 0 _ (show List.Nodup (["_law_tie_here"]:List Str) by decide +kernel) rfl (Or.inl rfl) (by first | exact .inl rfl | exact .inr rfl | assumption)) (fun _ _ _ _=>@m8 _) (fun _ _ _ _=>(@b9 _ _ _ _ _ _ _ _ _ _ (JD T) (hr.mono (by decide)) (by rfl) (@za _ _ _ _ _ (pv 0) (@zh _) (by rfl)) (by decide) (by rfl) (by rfl))) (by intro _;rfl) (by rfl))) (by rfl) (by first | exact .inl rfl | exact .inr rfl | assumption));have fQ:PS (aA bJ P w K mg base ["_law_units","_law_ties","_law_finds","_law_cell","_law_some"] "_law_bad_twice" (zm (top 47)) f ay A outer s H E).bX ((zj (top 47)).getD 2 (.Pass ⟨0,0,0,0⟩)) _:=(@bQ _ _ 4 _ _ _ _ bF.nd rfl (Or.inl rfl) (@ao _ _ _ _ _ _ _ _ (@jz _ K rfl) (pv 4) (@pA _ _ _ _ _ _ _ ["_law_find_here"] ["_law_units"] [0] _ _ _ _ (zm (top 47)) rfl ⟨rfl,by decide +kernel,by decide +kernel,by decide +kernel,by decide +kernel⟩ rfl (@lR _ _ K rfl _ _ (pv 2)) (fun _ _ _ _=>@d9 _ _ 0 _ (show List.Nodup (["_law_find_here","_law_units"]:List Str) by decide +kernel) rfl (Or.inl rfl) (by first | exact .inl rfl | exact .inr rfl | assumption)) (fun _ _ _ _=>@m8 _) (fun _ _ _ _=>(@ao _ _ _ _ _ _ _ _ (@zq _) (@ao _ _ _ _ _ _ _ _ (@zq _) (@ao _ _ _ _ _ _ _ _ (@zq _) (@ao _ _ _ _ _ _ _ _ (@zq _) (@zp _ _ _ _) (@bI _ _ _ _ _ _ _ (@gH _ K rfl) (pv 0) (@zr _ _ _ _) (fun _ _=>rfl))) (@zp _ _ _ _)) (@bI _ _ _ _ _ _ _ (@cT _ K rfl) (pv 1) (@zr _ _ _ _) (fun _ _=>rfl))) (@zp _ _ _ _))) (by intro _;rfl) (by rfl))) (by rfl) (by first | exact .inl rfl | exact .inr rfl | assumption));have gR:PS (aA bJ P w K mg base ["_law_units","_law_ties","_law_finds","_law_cell","_law_some"] "_law_bad_twice" (zm (top 47)) f ay A outer s H E).bX ((zj (top 47)).getD 3 (.Pass ⟨0,0,0,0⟩)) _:=(@cH _ _ _ _ (@dJ _ _ _ _ _ (@za _ _ _ _ _ (@bI _ _ _ _ _ _ _ (@cT _ K rfl) (pv 4) (@ao _ _ _ _ _ _ _ _ (@gz _) (pv 3) (@cW _ _ _ _ _ _ _ _ _ (@jb _ K rfl) (by rfl) T.len boot_len (@za _ _ _ _ _ (pv 4) (@zh _) (by rfl)) (by decide) (by decide) (by rfl) (by rfl))) (fun _ _=>rfl)) (@za _ _ _ _ _ (@zp _ _ _ _) (@zh _) (by rfl)) (by rfl))));generalize ((zj (top 47)).getD 0 (.Pass ⟨0,0,0,0⟩))=kU at fO ⊢;generalize ((zj (top 47)).getD 1 (.Pass ⟨0,0,0,0⟩))=kX at fP ⊢;generalize ((zj (top 47)).getD 2 (.Pass ⟨0,0,0,0⟩))=kY at fQ ⊢;generalize ((zj (top 47)).getD 3 (.Pass ⟨0,0,0,0⟩))=mh at gR ⊢;refine⟨_,zk fO (zk fP (zk fQ (zv gR))),?_⟩;clear bL fO fP fQ gR kU kX kY mh;rw[show L2.start (["_law_units","_law_ties","_law_finds","_law_cell","_law_some"]:List Str) [V.ref pu,V.ref gw,V.ref pf,V.int c] = [some (V.ref pu),some (V.ref gw),some (V.ref pf),some (V.int c),none] from rfl];have nm:=td.names.2;have tK:=td.tK;have JA:=tt.len;have DB:=ff.len;refine⟨_,rfl,pu,rfl,⟨_,hu⟩,fun D hD=>?_⟩;refine vB (nj (K:=K) (a:=pu) (xs:=us.map V.str)) (fun v=>Str.ofString "unit " ++ iy v) hD (fun H' s=>s.seq hu) (by rw[List.length_map];omega) (fun v hv H' Q' s q=>?_) (fun H1 s1 e1=>?_)
  ·obtain⟨u,hm,rfl⟩:=List.mem_map.mp hv;have a5:(Str.ofString "unit ").length=5:=by decide +kernel
   have a6:=mE (nm u hm);exact⟨_,rfl,_,_,rfl,rfl,cU (by omega),q _ (aa.refl _)⟩
  have P1:∀z∈(us.map V.str).map (fun v=>Str.ofString "unit " ++ iy v),dS us ts fs z .twice:=fun z hz=>by
   obtain⟨v,hv,rfl⟩:=List.mem_map.mp hz;obtain⟨u,hm,rfl⟩:=List.mem_map.mp hv;exact Xc (nm u hm) hm
  have L1:((us.map V.str).map (fun v=>Str.ofString "unit " ++ iy v)).length=us.length:=by rw[List.length_map,List.length_map]
  generalize (us.map V.str).map (fun v=>Str.ofString "unit " ++ iy v)=l1 at e1 P1 L1
  try dsimp only [bM,List.set]
  refine⟨_,rfl,_,rfl,gw,rfl,⟨_,s1.seq ht⟩,fun D2 l7=>?_⟩;refine vB (nj (K:=K) (a:=gw) (xs:=at'.map V.ref)) (eS H aW) l7 (fun H' s=>(s1.trans s).seq ht) (by rw[List.length_map];omega) (fun v hv H' Q' s q=>?_) (fun H2 s2 e2=>?_)
  ·obtain⟨a,hm,rfl⟩:=List.mem_map.mp hv;obtain⟨ws,hw,ea⟩:=tt.get hm;obtain⟨x0,r0,rfl,b1,b2,b3⟩:=KI ((td.fj ws hw).row nm);refine⟨_,rfl,a,x0,r0,rfl,aD.of (s _ _ (s1 _ _ ea)),b1,b2,b3,fun Xh pC=>?_⟩;have:=q _ pC;rw[qS ea] at this;exact this
  have P2:∀z∈(at'.map V.ref).map (eS H aW),dS us ts fs z .twice:=fun z hz=>by
   obtain⟨v,hv,rfl⟩:=List.mem_map.mp hz;obtain⟨a,hm,rfl⟩:=List.mem_map.mp hv;obtain⟨ws,hw,ea⟩:=tt.get hm;rw[qS ea];exact Xd nm (td.fj ws hw) hw
  have L2:((at'.map V.ref).map (eS H aW)).length=ts.length:=by rw[List.length_map,List.length_map,JA]
  generalize (at'.map V.ref).map (eS H aW)=l2 at e2 P2 L2;refine⟨D,D2,_,_,rfl,rfl,ak.of (s2 _ _ e1),ak.of e2,cU (by rw[List.length_map,List.length_map];omega),fun p3 jA=>?_⟩;obtain⟨t3,e3⟩:aa H2 (upd H2 p3 (.lst (l1.map V.str++l2.map V.str)))/\upd H2 p3 (.lst (l1.map V.str++l2.map V.str)) p3=some (.lst ((l1++l2).map V.str)):=⟨aa.new jA,by rw[zd,List.map_append]⟩;generalize upd H2 p3 (.lst (l1.map V.str++l2.map V.str))=H3 at t3 e3;have q3:=s1.trans (s2.trans t3)
  try dsimp only [bM,List.set]
  obtain⟨u0,ur,eu⟩:∃u0 ur,us=u0::ur:=by
   cases us with
   | nil=>exact absurd rfl EA
   | cons x r=>exact⟨x,r,rfl⟩
  have K4:bq u0=true:=nm u0 (by rw[eu];exact List.mem_cons_self ..);refine⟨_,rfl,_,rfl,pf,rfl,⟨_,q3.seq hf⟩,fun D4 Xi=>?_⟩;refine vB (nj (K:=K) (a:=pf) (xs:=af.map V.ref)) (eS H fun ws=>((((Str.ofString "find ")++iy (ws.headD .aL))++(Str.ofString " "))++u0)++(Str.ofString " 5 7")) Xi (fun H' s=>(q3.trans s).seq hf) (by rw[List.length_map];omega) (fun v hv H' Q' s q=>?_) (fun H5 s5 e5=>?_)
  ·obtain⟨a,hm,rfl⟩:=List.mem_map.mp hv;obtain⟨ws,hw,ea⟩:=ff.get hm;obtain⟨F,x,lo,hi,rfl,hF,_⟩:=td.jY ws hw;have q4:=q3.trans s;have:=q _ (aa.refl _);rw[qS ea] at this;have a1:=mE hF;have a2:=mE K4;have a3:(Str.ofString "find ").length=5:=by decide +kernel
   have a4:(Str.ofString " ").length=1:=by decide +kernel
   have a5:(Str.ofString " 5 7").length=4:=by decide +kernel
   have la:∀x y:Str,(x++y).length=x.length+y.length:=fun x y=>by rw[←fT,fU,List.length_append,fT,fT]
   exact⟨_,rfl,a,_,_,_,rfl,rfl,aD.of (q4 _ _ ea),gI,_,_,rfl,rfl,cU (by omega),_,_,rfl,rfl,cU (by rw[la];omega),_,rfl,pu,_,_,_,rfl,rfl,q4.seq hu,(by rw[eu];exact gI),_,_,rfl,rfl,cU (by rw[la,la];omega),_,_,rfl,rfl,cU (by rw[la,la,la];omega),this⟩
  have P5:∀z∈(af.map V.ref).map (eS H fun ws=>((((Str.ofString "find ")++iy (ws.headD .aL))++(Str.ofString " "))++u0)++(Str.ofString " 5 7")),dS us ts fs z .twice:=fun z hz=>by
   obtain⟨v,hv,rfl⟩:=List.mem_map.mp hz;obtain⟨a,hm,rfl⟩:=List.mem_map.mp hv;obtain⟨ws,hw,ea⟩:=ff.get hm;obtain⟨F,x,lo,hi,rfl,hF,_⟩:=td.jY ws hw;rw[qS ea];exact Xe hF K4 ⟨_,hw,rfl⟩
  have L5:((af.map V.ref).map (eS H fun ws=>((((Str.ofString "find ")++iy (ws.headD .aL))++(Str.ofString " "))++u0)++(Str.ofString " 5 7"))).length=fs.length:=by rw[List.length_map,List.length_map,DB]
  generalize (af.map V.ref).map (eS H fun ws=>((((Str.ofString "find ")++iy (ws.headD .aL))++(Str.ofString " "))++u0)++(Str.ofString " 5 7"))=l5 at e5 P5 L5;refine⟨p3,D4,_,_,rfl,rfl,ak.of (s5 _ _ e3),ak.of e5,cU (by rw[List.length_map,List.length_map,List.length_append];omega),fun p6 qK=>?_⟩;obtain⟨t6,e6⟩:aa H5 (upd H5 p6 (.lst ((l1++l2).map V.str++l5.map V.str)))/\upd H5 p6 (.lst ((l1++l2).map V.str++l5.map V.str)) p6=some (.lst ((l1++l2++l5).map V.str)):=⟨aa.new qK,by rw[zd,←List.map_append]⟩;generalize upd H5 p6 (.lst ((l1++l2).map V.str++l5.map V.str))=H6 at t6 e6;have q6:=q3.trans (s5.trans t6)
  try dsimp only [bM,List.set]
  have P6:∀z∈l1++l2++l5,dS us ts fs z .twice:=fun z hz=>by
   rcases List.mem_append.mp hz with hz | hz
   ·rcases List.mem_append.mp hz with hz | hz
    ·exact P1 z hz
    ·exact P2 z hz
   ·exact P5 z hz
  have n6:0<(l1++l2++l5).length:=by
   rw[List.length_append,List.length_append,L1,eu,List.length_cons];omega
  obtain⟨ln,ea,hw⟩:=qR P6 rfl n6 c;exact⟨_,rfl,_,rfl,_,rfl,p6,_,rfl,.inl (ak.of e6),_,_,rfl,rfl,(by rw[List.length_map];omega),p6,_,_,_,rfl,rfl,ak.of e6,(show fG ((l1++l2++l5).map V.str) (c%(((l1++l2++l5).map V.str).length:Int))=_ by rw[List.length_map];exact ea),(by show 2<=sizeLine;decide),fun q hq=>k q ln _ (q6.trans (aa.new hq)) zd hw⟩
theorem Xj {σ:St}{H:Hp}{Q:VK}{i:Nat}{D:Addr}{us:List Str}{own:Str}(hv:σ[i]? = some (some (.ref D))) (hu:ak K H D (us.map V.str)) (h9:us.length<=9) (k:∀x H',aa H H'->x∈bG->x ∉ us->Q (.str x) H') :
  iF (oW K) (wM [own] [i] (zA K (fX (AI bG))) (bM 0) (zE (iF (zQ K true) (cJ 0) (cJ 1))) (cJ 0)) (tC (.int 0)) σ H Q:=by
 obtain⟨fr,cR,Xk,EB,uo⟩:=Wj h9;refine⟨by show 10<=sizeLine;decide,fun pl bY=>?_⟩;have t3:=aa.new (o:=.lst (bG.map V.str)) bY;have e3:upd H pl (.lst (bG.map V.str)) pl=some (.lst (bG.map V.str)):=zd;generalize upd H pl (.lst (bG.map V.str))=H3 at t3 e3;refine⟨pl,rfl,⟨_,ak.of e3⟩,fun D3 nJ=>?_⟩;have AN:=t3.seq hu;have qT:∀{i:Nat}{x:Str}(f:Str->Bool),bG[i]? = some x->(bG.take (i+1)).filter f=(bG.take i).filter f++(if f x=true then [x] else []):=fun {i x} f ex=>by
  rw[List.take_add_one,ex,List.filter_append];cases hb:f x<;>simp[hb]
 refine xF (nj (K:=K) (a:=pl) (xs:=bG.map V.str)) (fun i au ys H'=>∃w0,au = [w0,some (.ref D)]/\ys=((bG.take i).filter fun x=>!decide (x∈us)).map V.str/\aa H3 H'/\H' D3=some (.lst ys))
  ⟨none,by unfold ju;simp[hv],by simp,aa.new nJ,zd⟩ (fun i au ys H' h=>?_) (by show 10<=sizeLine;decide) ?_ ?_
 ·obtain⟨_,_,rfl,q,hd⟩:=h;refine⟨ak.of (q _ _ e3),hd,?_⟩;rw[List.length_map];exact Nat.le_trans (List.length_filter_le _ _) (by rw[List.length_take];omega)
 ·rintro i v au ys H4 hx ⟨w0,rfl,rfl,q',hd⟩;have dw:=xE hx;rw[List.length_map] at dw;have ex:bG[i]? = some bG[i]:=List.getElem?_eq_getElem dw;rw[List.getElem?_map,ex] at hx;cases hx;generalize bG[i]=x at ex
  try dsimp only [bM,List.set]
  refine⟨_,rfl,_,rfl,D,_,rfl,.inl (q'.seq AN),rfl,QK,_,rfl,?_⟩;rw[if_pos rfl,HP];refine dO (fun c=>?_) (fun c=>?_)
  ·refine⟨_,rfl,hd,pD (by rw[List.length_map];exact dw) ⟨_,rfl,?_,q'.upd nJ,zd⟩⟩;rw[qT _ ex,if_pos c,List.map_append];rfl
  ·refine⟨hd,pD (by rw[List.length_map];exact dw) ⟨_,rfl,?_,q',hd⟩⟩;rw[qT _ ex,if_neg c,List.append_nil]
 rintro au ys H4 ⟨w0,rfl,rfl,s4,qM⟩;rw[List.length_map,List.take_length,Xk] at qM;exact⟨D3,_,_,_,rfl,rfl,ak.of qM,gI,k fr _ (t3.trans s4) EB uo⟩
theorem K5 {σ:St}{H:Hp}{i j:Nat}{D:Addr}{us:List Str}{own:Str}{u:TS}{E0:Ends}(hv:σ[i]? = some (some (.ref D))) (hu:ak K H D (us.map V.str)) (h9:us.length<=9) (k:∀x H',aa H H'->x∈bG->x ∉ us->u E0 (σ.set j (some (.str x))) H') :
  eY (dX (iF (oW K) (wM [own] [i] (zA K (fX (AI bG))) (bM 0) (zE (iF (zQ K true) (cJ 0) (cJ 1))) (cJ 0)) (tC (.int 0))) (bM j)) u E0 σ H:=by
 unfold eY dX;dsimp only;exact Xj hv hu h9 k
theorem K6 {us:List Str}{ts:List (List V)}{kd x y:Str}{r:List V}(ht:∀ws∈ts,bS us ws) (h:x ∉ us\/y ∉ us):(V.str kd :: .str x :: .str y::r) ∉ ts:=fun hm=>by
 obtain⟨tX,x',y',r',e,_,_,hx,hy⟩:=K3 (ht _ hm);cases e;exact h.elim (fun z=>z hx) (fun z=>z hy)
theorem EC {us:List Str}{ts fs:List (List V)}{kd x y:Str}(ht:∀ws∈ts,bS us ws) (hk:kd∈lT) (hx:bq x=true) (hy:bq y=true) (h:x ∉ us\/y ∉ us) {ln:Str}(e:ln=aW (([kd,x,y]:List Str).map V.str)):dS us ts fs ln .unit:=by
 rw[e];have k2:=(by decide +kernel:∀k∈lT,k ∉ ([Str.ofString "dig",Str.ofString "unit",Str.ofString "find"]:List Str)) _ hk;exact vA (kd:=kd) (q:=[.str x,.str y]) (fun z=>k2 (by rw[z];exact List.mem_cons_self ..)) (.plain hk hx hy) fun f=>.tT rfl k2 (K6 ht h) h
theorem Xl {us:List Str}{ts fs:List (List V)}{x y:Str}(ht:∀ws∈ts,bS us ws) (hx:bq x=true) (hy:bq y=true) (h:x ∉ us\/y ∉ us):dS us ts fs (((((Str.ofString "after ")++x)++(Str.ofString " "))++y)++(Str.ofString " 0")) .unit:=by
 rw[WN x y,Ex (zs:=[.str (Str.ofString "after"),.str x,.str y,.int 0]) (by
  simp only [List.map_cons,List.map_nil,mP];rw[show aR (.int 0)=Str.ofString "0" by decide +kernel])]
 exact vA (by decide +kernel) (.after hx hy (by decide) (by unfold dG;decide +kernel)) fun f=>.tT rfl (by decide +kernel) (K6 ht h) h
theorem Xm {us:List Str}{ts fs:List (List V)}{m x:Str}(hm:bq m=true) (hx:bq x=true) (hf:∀f∈fs,f.head?≠some (.str m)) (h:x ∉ us):dS us ts fs (((((Str.ofString "find ")++m)++(Str.ofString " "))++x)++(Str.ofString " 1 2")) .unit:=by
 rw[WQ m x,Ex (zs:=[.str (Str.ofString "find"),.str m,.str x,.int 1,.int 2]) (by
  simp only [List.map_cons,List.map_nil,mP];rw[show aR (.int 1)=Str.ofString "1" by decide +kernel,show aR (.int 2)=Str.ofString "2" by decide +kernel])]
 exact vA (by decide +kernel) (.find hm hx (by decide:(1:Int)<=2) (by unfold dG;decide +kernel) (by unfold dG;decide +kernel)) fun f=>.qF hm hf h
def Xn:Sp:=fun vs H Q _=>∃(pu pF:Addr) (c:Int) (us Fs:List Str) (ts fs rs:List (List V)),vs = [.ref pu,.ref pF,.int c]/\Told us ts fs rs/\us.length<=9/\Fs.length<=9/\(∀f∈fs,∃F∈Fs,f.head? = some (.str F))/\ak K H pu (us.map V.str)/\ak K H pF (Fs.map V.str)/\
 ∀(q:Addr) (ln:Str) (H':Hp),aa H H'->H' q=some (.tup [.str ln,.str (mO .unit)])->dS us ts fs ln .unit->Q (.ref q) H'
set_option maxHeartbeats 8000000 in
theorem Xo (T:Tx K mg w C_Reading zo zi zn ze zb zf zc zg zad zw zae zx zaf zy):fh P w K mg base "_law_bad_units" ["_law_units","_law_finds","_law_cell"] 2 (Xn (K:=K)):=by
 refine T.Uv.has aN (fun vs H Q E h=>?_) (fun f ay A outer s H vs Q E hr h=>?_)
 ·obtain⟨pu,pF,c,us,Fs,ts,fs,rs,rfl,_⟩:=h;rfl
 ·obtain⟨pu,pF,c,us,Fs,ts,fs,rs,rfl,td,u9,f9,A1,hu,hF,k⟩:=h;have bL:zj (top 48) = [((zj (top 48)).getD 0 (.Pass ⟨0,0,0,0⟩)),((zj (top 48)).getD 1 (.Pass ⟨0,0,0,0⟩)),((zj (top 48)).getD 2 (.Pass ⟨0,0,0,0⟩)),((zj (top 48)).getD 3 (.Pass ⟨0,0,0,0⟩)),((zj (top 48)).getD 4 (.Pass ⟨0,0,0,0⟩)),((zj (top 48)).getD 5 (.Pass ⟨0,0,0,0⟩))]:=by kernel_rfl
  rw[bL];have fO:PS (aA bJ P w K mg base ["_law_units","_law_finds","_law_cell","_law_fresh","_law_mark","_law_one","_law_some"] "_law_bad_units" (zm (top 48)) f ay A outer s H E).bX ((zj (top 48)).getD 0 (.Pass ⟨0,0,0,0⟩)) _:=(@bQ _ _ 3 _ _ _ _ aN.nd rfl (Or.inl rfl) (@bI _ _ _ _ _ _ _ (@cT _ K rfl) (@pA _ _ _ _ _ _ _ ["_law_name"] ["_law_units"] [0] _ _ _ _ (zm (top 48)) rfl ⟨rfl,by decide +kernel,by decide +kernel,by decide +kernel,by decide +kernel⟩ rfl (@lR _ _ K rfl _ _ (@dm _ _ _ _ (@IE _ _ _ (.cons (.cons (.cons (.cons (.cons (.cons (.cons (.cons (.cons (.cons .nil))))))))))))) (fun _ _ _ _=>@d9 _ _ 0 _ (show List.Nodup (["_law_name","_law_units"]:List Str) by decide +kernel) rfl (Or.inl rfl) (by first | exact .inl rfl | exact .inr rfl | assumption)) (fun _ _ _ _=>@uX _ _ _ (@cO _ _ _ _ _ _ _ _ (@Cu _ K rfl) (pv 0) (pv 1) (by with_unfolding_all rfl))) (fun _ _ _ _=>(pv 0)) (by intro _;rfl) (by rfl)) (@zr _ _ _ _) (fun _ _=>rfl)) (by rfl) (by first | exact .inl rfl | exact .inr rfl | assumption));have fP:PS (aA bJ P w K mg base ["_law_units","_law_finds","_law_cell","_law_fresh","_law_mark","_law_one","_law_some"] "_law_bad_units" (zm (top 48)) f ay A outer s H E).bX ((zj (top 48)).getD 1 (.Pass ⟨0,0,0,0⟩)) _:=(@bQ _ _ 4 _ _ _ _ aN.nd rfl (Or.inl rfl) (@bI _ _ _ _ _ _ _ (@cT _ K rfl) (@pA _ _ _ _ _ _ _ ["_law_name"] ["_law_finds"] [1] _ _ _ _ (zm (top 48)) rfl ⟨rfl,by decide +kernel,by decide +kernel,by decide +kernel,by decide +kernel⟩ rfl (@lR _ _ K rfl _ _ (@dm _ _ _ _ (@IE _ _ _ (.cons (.cons (.cons (.cons (.cons (.cons (.cons (.cons (.cons (.cons .nil))))))))))))) (fun _ _ _ _=>@d9 _ _ 0 _ (show List.Nodup (["_law_name","_law_finds"]:List Str) by decide +kernel) rfl (Or.inl rfl) (by first | exact .inl rfl | exact .inr rfl | assumption)) (fun _ _ _ _=>@uX _ _ _ (@cO _ _ _ _ _ _ _ _ (@Cu _ K rfl) (pv 0) (pv 1) (by with_unfolding_all rfl))) (fun _ _ _ _=>(pv 0)) (by intro _;rfl) (by rfl)) (@zr _ _ _ _) (fun _ _=>rfl)) (by rfl) (by first | exact .inl rfl | exact .inr rfl | assumption));have fQ:PS (aA bJ P w K mg base ["_law_units","_law_finds","_law_cell","_law_fresh","_law_mark","_law_one","_law_some"] "_law_bad_units" (zm (top 48)) f ay A outer s H E).bX ((zj (top 48)).getD 2 (.Pass ⟨0,0,0,0⟩)) _:=(@bQ _ _ 5 _ _ _ _ aN.nd rfl (Or.inl rfl) (@bI _ _ _ _ _ _ _ (@cT _ K rfl) (@ao _ _ _ _ _ _ _ _ (@jz _ K rfl) (pv 0) (@dm _ _ _ _ (@za _ _ _ _ _ (pv 3) (@zh _) (by rfl)))) (@ao _ _ _ _ _ _ _ _ (@gz _) (@ao _ _ _ _ _ _ _ _ (@uO _) (pv 2) (@zr _ _ _ _)) (@ao _ _ _ _ _ _ _ _ (@jG _) (@cW _ _ _ _ _ _ _ _ _ (@jb _ K rfl) (by rfl) T.len boot_len (@za _ _ _ _ _ (pv 0) (@zh _) (by rfl)) (by decide) (by decide) (by rfl) (by rfl)) (@zr _ _ _ _))) (fun _ _=>rfl)) (by rfl) (by first | exact .inl rfl | exact .inr rfl | assumption));have gR:PS (aA bJ P w K mg base ["_law_units","_law_finds","_law_cell","_law_fresh","_law_mark","_law_one","_law_some"] "_law_bad_units" (zm (top 48)) f ay A outer s H E).bX ((zj (top 48)).getD 3 (.Pass ⟨0,0,0,0⟩)) _:=(@bQ _ _ 6 _ _ _ _ aN.nd rfl (Or.inl rfl) (@dm _ _ _ _ (@za _ _ _ _ _ (@ao _ _ _ _ _ _ _ _ (@zq _) (@ao _ _ _ _ _ _ _ _ (@zq _) (@ao _ _ _ _ _ _ _ _ (@zq _) (@zp _ _ _ _) (pv 3)) (@zp _ _ _ _)) (pv 5)) (@za _ _ _ _ _ (@ao _ _ _ _ _ _ _ _ (@zq _) (@ao _ _ _ _ _ _ _ _ (@zq _) (@ao _ _ _ _ _ _ _ _ (@zq _) (@zp _ _ _ _) (pv 5)) (@zp _ _ _ _)) (pv 3)) (@za _ _ _ _ _ (@ao _ _ _ _ _ _ _ _ (@zq _) (@ao _ _ _ _ _ _ _ _ (@zq _) (@ao _ _ _ _ _ _ _ _ (@zq _) (@ao _ _ _ _ _ _ _ _ (@zq _) (@zp _ _ _ _) (pv 5)) (@zp _ _ _ _)) (pv 3)) (@zp _ _ _ _)) (@zh _) (by rfl)) (by rfl)) (by rfl))) (by rfl) (by first | exact .inl rfl | exact .inr rfl | assumption));have jE:PS (aA bJ P w K mg base ["_law_units","_law_finds","_law_cell","_law_fresh","_law_mark","_law_one","_law_some"] "_law_bad_units" (zm (top 48)) f ay A outer s H E).bX ((zj (top 48)).getD 4 (.Pass ⟨0,0,0,0⟩)) _:=(@bQ _ _ 6 _ _ _ _ aN.nd rfl (Or.inl rfl) (@ao _ _ _ _ _ _ _ _ (@jz _ K rfl) (pv 6) (@dm _ _ _ _ (@za _ _ _ _ _ (@ao _ _ _ _ _ _ _ _ (@zq _) (@ao _ _ _ _ _ _ _ _ (@zq _) (@ao _ _ _ _ _ _ _ _ (@zq _) (@zp _ _ _ _) (pv 3)) (@zp _ _ _ _)) (pv 3)) (@za _ _ _ _ _ (@ao _ _ _ _ _ _ _ _ (@zq _) (@ao _ _ _ _ _ _ _ _ (@zq _) (@ao _ _ _ _ _ _ _ _ (@zq _) (@ao _ _ _ _ _ _ _ _ (@zq _) (@zp _ _ _ _) (pv 4)) (@zp _ _ _ _)) (pv 3)) (@zp _ _ _ _)) (@zh _) (by rfl)) (by rfl)))) (by rfl) (by first | exact .inl rfl | exact .inr rfl | assumption));have nO:PS (aA bJ P w K mg base ["_law_units","_law_finds","_law_cell","_law_fresh","_law_mark","_law_one","_law_some"] "_law_bad_units" (zm (top 48)) f ay A outer s H E).bX ((zj (top 48)).getD 5 (.Pass ⟨0,0,0,0⟩)) _:=(@cH _ _ _ _ (@dJ _ _ _ _ _ (@za _ _ _ _ _ (@bI _ _ _ _ _ _ _ (@cT _ K rfl) (pv 6) (@ao _ _ _ _ _ _ _ _ (@gz _) (pv 2) (@zr _ _ _ _)) (fun _ _=>rfl)) (@za _ _ _ _ _ (@zp _ _ _ _) (@zh _) (by rfl)) (by rfl))));generalize ((zj (top 48)).getD 0 (.Pass ⟨0,0,0,0⟩))=kU at fO ⊢;generalize ((zj (top 48)).getD 1 (.Pass ⟨0,0,0,0⟩))=kX at fP ⊢;generalize ((zj (top 48)).getD 2 (.Pass ⟨0,0,0,0⟩))=kY at fQ ⊢;generalize ((zj (top 48)).getD 3 (.Pass ⟨0,0,0,0⟩))=mh at gR ⊢;generalize ((zj (top 48)).getD 4 (.Pass ⟨0,0,0,0⟩))=pU at jE ⊢;generalize ((zj (top 48)).getD 5 (.Pass ⟨0,0,0,0⟩))=yM at nO ⊢;refine⟨_,zk fO (zk fP (zk fQ (zk gR (zk jE (zv nO))))),?_⟩;clear bL fO fP fQ gR jE nO kU kX kY mh pU yM;rw[show L2.start (["_law_units","_law_finds","_law_cell","_law_fresh","_law_mark","_law_one","_law_some"]:List Str) [V.ref pu,V.ref pF,V.int c] = [some (V.ref pu),some (V.ref pF),some (V.int c),none,none,none,none] from rfl];have nm:=td.names.2;have ht:=td.fj;refine K5 (us:=us) rfl hu u9 (fun fr H1 s1 EB uo=>?_)
  try dsimp only [bM,List.set]
  refine K5 (us:=Fs) rfl (s1.seq hF) f9 (fun mk H2 s2 Xp Xq=>?_)
  try dsimp only [bM,List.set]
  have q2:=s1.trans s2;have fR:=KC fr EB;have Am:=KC mk Xp;refine⟨_,rfl,_,rfl,by show 1<=sizeLine;decide,fun p1 h1=>?_⟩;have w1:=aa.new (o:=.lst [.str fr]) h1;refine⟨pu,p1,_,_,rfl,rfl,(q2.trans w1).seq hu,ak.of zd,cU (by rw[List.length_map];show _+1<=_;omega),fun p2 h2=>?_⟩;have w2:=aa.new (o:=.lst (us.map V.str++[.str fr])) h2;obtain⟨one,ea,ED⟩:=qR (P:=fun z=>z∈us++[fr]) (zs:=us++[fr]) (fun _ h=>h) (n:=us.length+1) (by rw[List.length_append];rfl) (by omega) (c / 5);have q3:=q2.trans (w1.trans w2);refine⟨_,rfl,_,_,rfl,rfl,⟨by decide,by decide⟩,_,rfl,pu,_,rfl,.inl (q3.seq hu),_,_,rfl,rfl,_,_,rfl,rfl,(by omega),p2,_,_,_,rfl,rfl,ak.of zd,(show fG (us.map V.str++[V.str fr]) (c / 5%(((us.map V.str).length:Int)+1))=some (.str one) by rw[List.length_map,show us.map V.str++[V.str fr]=(us++[fr]).map V.str by rw[List.map_append];rfl];exact ea),?_⟩
  try dsimp only [bM,List.set]
  have A2:bq one=true:=(List.mem_append.mp ED).elim (nm one) (fun z=>by rw[List.mem_singleton.mp z];exact fR);have pf:=jg fR;have po:=jg A2;have pm:=jg Am;have Xr:∀f∈fs,f.head?≠some (.str mk):=fun f hf z=>by
   obtain⟨F,h1,h2⟩:=A1 f hf;rw[h2] at z;cases z;exact Xq h1
  refine A0 (P:=fun ln=>dS us ts fs ln .unit) (bT (bZ (bZ (bZ aU (dZ (slot ⟨_,rfl,rfl⟩) pf)) aU) (dZ (slot ⟨_,rfl,rfl⟩) po)) (EC ht (kd:=Str.ofString "over") (by decide +kernel) fR A2 (.inl uo) (Ep fr one)) (bT (bZ (bZ (bZ aU (dZ (slot ⟨_,rfl,rfl⟩) po)) aU) (dZ (slot ⟨_,rfl,rfl⟩) pf)) (EC ht (kd:=Str.ofString "over") (by decide +kernel) A2 fR (.inr uo) (Ep one fr)) (bT (bZ (bZ (bZ (bZ aU (dZ (slot ⟨_,rfl,rfl⟩) po)) aU) (dZ (slot ⟨_,rfl,rfl⟩) pf)) aU) (Xl ht A2 fR (.inr uo)) l9))) (by decide) (aa.refl _) (fun l1 y1 G1 g1 e1 n1 c1=>?_)
  try dsimp only [bM,List.set]
  refine um (P:=fun ln=>dS us ts fs ln .unit) (slot ⟨_,rfl,rfl⟩) g1 e1 c1 (bT (bZ (bZ (bZ aU (dZ (slot ⟨_,rfl,rfl⟩) pf)) aU) (dZ (slot ⟨_,rfl,rfl⟩) pf)) (EC ht (kd:=Str.ofString "same") (by decide +kernel) fR fR (.inl uo) (WO fr fr)) (bT (bZ (bZ (bZ (bZ aU (dZ (slot ⟨_,rfl,rfl⟩) pm)) aU) (dZ (slot ⟨_,rfl,rfl⟩) pf)) aU) (Xm Am fR Xr uo) l9)) (by omega) (fun l2 y2 G2 g2 e2 n2 c2=>?_)
  try dsimp only [bM,List.set]
  obtain⟨ln,yL,hw⟩:=qR c2 (n:=5) (by omega) (by decide) c;exact⟨_,rfl,_,rfl,_,_,rfl,rfl,(show (0:Int)<5 by decide),l2,_,_,_,rfl,rfl,ak.of e2,yL,(by show 2<=sizeLine;decide),fun q hq=>k q ln _ (q3.trans (g1.trans (g2.trans (aa.new hq)))) zd hw⟩
def pV (ws:List V):Bool:=!iC (Str.ofString "unit") ws && !iC (Str.ofString "find") ws
theorem EE {us:List Str}{ts fs rs:List (List V)}(t:Told us ts fs rs):(rs.filter (iC (Str.ofString "find"))).map List.tail=fs/\rs.filter pV=ts:=by
 induction t with
 | nil=>exact⟨rfl,rfl⟩
 | unit t hn hx ih=>
  rename_i us ts fs rs x;obtain⟨i1,i2⟩:=ih;have a1:iC (Str.ofString "unit") [.str "unit",.str x]=true:=decide_eq_true rfl;have a2:iC (Str.ofString "find") [.str "unit",.str x]=false:=decide_eq_false (fun z=>absurd (V.str.inj (Option.some.inj z)) (by decide +kernel));have a3:pV [.str "unit",.str x]=false:=by unfold pV;rw[a1];rfl
  refine⟨?_,?_⟩
  ·rw[List.filter_append,List.map_append,i1,List.filter_cons_of_neg (by rw[a2];exact Bool.false_ne_true)];simp
  ·rw[List.filter_append,i2,List.filter_cons_of_neg (by rw[a3];exact Bool.false_ne_true)];simp
 | je t h hn ih=>
  rename_i us ts fs rs w;obtain⟨i1,i2⟩:=ih;obtain⟨kd,x,r,ew,k1,k2⟩:=KD h;have a1:iC (Str.ofString "unit") w=false:=by rw[ew];exact decide_eq_false (fun z=>k1 (V.str.inj (Option.some.inj z)))
  have a2:iC (Str.ofString "find") w=false:=by rw[ew];exact decide_eq_false (fun z=>k2 (V.str.inj (Option.some.inj z)))
  have a3:pV w=true:=by unfold pV;rw[a1,a2];rfl
  refine⟨?_,?_⟩
  ·rw[List.filter_append,List.map_append,i1,List.filter_cons_of_neg (by rw[a2];exact Bool.false_ne_true)];simp
  ·rw[List.filter_append,i2,List.filter_cons_of_pos a3];rfl
 | find t h ih=>
  rename_i us ts fs rs w;obtain⟨i1,i2⟩:=ih;have a1:iC (Str.ofString "unit") (V.str (Str.ofString "find")::w)=false:=decide_eq_false (fun z=>absurd (V.str.inj (Option.some.inj z)) (by decide +kernel));have a2:iC (Str.ofString "find") (V.str (Str.ofString "find")::w)=true:=decide_eq_true rfl;have a3:pV (V.str (Str.ofString "find")::w)=false:=by unfold pV;rw[a1,a2];rfl
  refine⟨?_,?_⟩
  ·rw[List.filter_append,List.map_append,i1,List.filter_cons_of_pos a2];rfl
  ·rw[List.filter_append,i2,List.filter_cons_of_neg (by rw[a3];exact Bool.false_ne_true)];simp
theorem A3 {z:Int}(h:z.natAbs<10 ^ 60):fV (aR (.int z)):=by
 have s:=vj z;exact⟨fun c=>(s.1 32 c).1 rfl,fun c=>(s.1 10 c).2.1 rfl,s.2,Nat.le_trans (tw z h).2.2 (by decide)⟩
def Xs:Sp:=fun vs H Q _=>∃(pn pa:Addr) (xs us:List Str) (ts fs rs:List (List V)) (as:List Addr) (c:Int),vs = [.ref pn,.ref pa,.int c]/\ak K H pn (xs.map V.str)/\ak K H pa (as.map V.ref)/\aP H as rs/\Told us ts fs rs/\xs.length=9/\(∀x∈xs,bq x=true)/\us.length<=9/\fs.length<=9/\rs.length<=63/\
 ∀(q:Addr) (ln:Str) (kk:bO) (H':Hp),aa H H'->H' q=some (.tup [.str ln,.str (mO kk)])->dS us ts fs ln kk->Q (.ref q) H'
theorem c9:oQ 10 9:=⟨by decide,by decide,by decide⟩
theorem m9:(0:Int)<10 ^ (9:Int).toNat:=by decide
theorem K7 {z:Int}(h:z.natAbs<10 ^ 60):z.natAbs.log2<1920:=by
 by_cases z0:z.natAbs=0
 ·rw[z0];decide
 ·rw[Nat.log2_lt z0];exact Nat.lt_trans h (by decide +kernel)
set_option maxHeartbeats 16000000 in
theorem Xu (T:Tx K mg w C_Reading zo zi zn ze zb zf zc zg zad zw zae zx zaf zy):fh P w K mg base "_law_wrong" ["_law_names_here","_law_above","_law_cell"] 4 (Xs (K:=K)):=by
 refine T.Uw.has aT (fun vs H Q E h=>?_) (fun f ay A outer s H vs Q E hr h=>?_)
 ·obtain⟨pn,pa,xs,us,ts,fs,rs,as,c,rfl,_⟩:=h;rfl
 ·obtain⟨pn,pa,xs,us,ts,fs,rs,as,c,rfl,hn,ha,ht,td,x9,Xv,u9,f9,Ez,k⟩:=h;have bL:zj (top 49) = [((zj (top 49)).getD 0 (.Pass ⟨0,0,0,0⟩)),((zj (top 49)).getD 1 (.Pass ⟨0,0,0,0⟩)),((zj (top 49)).getD 2 (.Pass ⟨0,0,0,0⟩)),((zj (top 49)).getD 3 (.Pass ⟨0,0,0,0⟩)),((zj (top 49)).getD 4 (.Pass ⟨0,0,0,0⟩)),((zj (top 49)).getD 5 (.Pass ⟨0,0,0,0⟩)),((zj (top 49)).getD 6 (.Pass ⟨0,0,0,0⟩)),((zj (top 49)).getD 7 (.Pass ⟨0,0,0,0⟩)),((zj (top 49)).getD 8 (.Pass ⟨0,0,0,0⟩)),((zj (top 49)).getD 9 (.Pass ⟨0,0,0,0⟩)),((zj (top 49)).getD 10 (.Pass ⟨0,0,0,0⟩)),((zj (top 49)).getD 11 (.Pass ⟨0,0,0,0⟩))]:=by kernel_rfl
  rw[bL];have fO:PS (aA bJ P w K mg base ["_law_names_here","_law_above","_law_cell","_law_units","_law_finds","_law_ties","_law_way","_law_rest","_law_name","_law_high"] "_law_wrong" (zm (top 49)) f ay A outer s H E).bX ((zj (top 49)).getD 0 (.Pass ⟨0,0,0,0⟩)) _:=(@sE _ _ _ _ _ _ _ ["_law_row"] [] [] _ _ _ _ (zm (top 49)) 3 _ _ _ rfl aT.nd rfl rfl rfl ⟨rfl,by decide +kernel,by decide +kernel,by decide +kernel,by decide +kernel⟩ rfl (@lR _ _ K rfl _ _ (pv 1)) (fun _ _ _ _=>@d9 _ _ 0 _ (show List.Nodup (["_law_row"]:List Str) by decide +kernel) rfl (Or.inl rfl) (by first | exact .inl rfl | exact .inr rfl | assumption)) (fun _ _ _ _=>@uX _ _ _ (@cO _ _ _ _ _ _ _ _ (@iG _) (@bI _ _ _ _ _ _ _ (@gH _ K rfl) (pv 0) (@zr _ _ _ _) (fun _ _=>rfl)) (@zp _ _ _ _) (cK _))) (fun _ _ _ _=>(@bI _ _ _ _ _ _ _ (@gH _ K rfl) (pv 0) (@zr _ _ _ _) (fun _ _=>rfl))) (by intro _;rfl) (by rfl));have fP:PS (aA bJ P w K mg base ["_law_names_here","_law_above","_law_cell","_law_units","_law_finds","_law_ties","_law_way","_law_rest","_law_name","_law_high"] "_law_wrong" (zm (top 49)) f ay A outer s H E).bX ((zj (top 49)).getD 1 (.Pass ⟨0,0,0,0⟩)) _:=(@sE _ _ _ _ _ _ _ ["_law_row"] [] [] _ _ _ _ (zm (top 49)) 4 _ _ _ rfl aT.nd rfl rfl rfl ⟨rfl,by decide +kernel,by decide +kernel,by decide +kernel,by decide +kernel⟩ rfl (@lR _ _ K rfl _ _ (pv 1)) (fun _ _ _ _=>@d9 _ _ 0 _ (show List.Nodup (["_law_row"]:List Str) by decide +kernel) rfl (Or.inl rfl) (by first | exact .inl rfl | exact .inr rfl | assumption)) (fun _ _ _ _=>@uX _ _ _ (@cO _ _ _ _ _ _ _ _ (@iG _) (@bI _ _ _ _ _ _ _ (@gH _ K rfl) (pv 0) (@zr _ _ _ _) (fun _ _=>rfl)) (@zp _ _ _ _) (cK _))) (fun _ _ _ _=>(@jT _ _ _ _ _ _ _ _ _ _ (@u6 _ K rfl) (pv 0) (@jK _ _ _ (@zr _ _ _ _)) (@kh _))) (by intro _;rfl) (by rfl));have fQ:PS (aA bJ P w K mg base ["_law_names_here","_law_above","_law_cell","_law_units","_law_finds","_law_ties","_law_way","_law_rest","_law_name","_law_high"] "_law_wrong" (zm (top 49)) f ay A outer s H E).bX ((zj (top 49)).getD 2 (.Pass ⟨0,0,0,0⟩)) _:=(@sE _ _ _ _ _ _ _ ["_law_row"] [] [] _ _ _ _ (zm (top 49)) 5 _ _ _ rfl aT.nd rfl rfl rfl ⟨rfl,by decide +kernel,by decide +kernel,by decide +kernel,by decide +kernel⟩ rfl (@lR _ _ K rfl _ _ (pv 1)) (fun _ _ _ _=>@d9 _ _ 0 _ (show List.Nodup (["_law_row"]:List Str) by decide +kernel) rfl (Or.inl rfl) (by first | exact .inl rfl | exact .inr rfl | assumption)) (fun _ _ _ _=>@uX _ _ _ (@cO _ _ _ _ _ _ _ _ (@Cu _ K rfl) (@bI _ _ _ _ _ _ _ (@gH _ K rfl) (pv 0) (@zr _ _ _ _) (fun _ _=>rfl)) (@dm _ _ _ _ (@za _ _ _ _ _ (@zp _ _ _ _) (@za _ _ _ _ _ (@zp _ _ _ _) (@zh _) (by rfl)) (by rfl))) (by with_unfolding_all rfl))) (fun _ _ _ _=>(pv 0)) (by intro _;rfl) (by rfl));have gR:PS (aA bJ P w K mg base ["_law_names_here","_law_above","_law_cell","_law_units","_law_finds","_law_ties","_law_way","_law_rest","_law_name","_law_high"] "_law_wrong" (zm (top 49)) f ay A outer s H E).bX ((zj (top 49)).getD 3 (.Pass ⟨0,0,0,0⟩)) _:=(@bQ _ _ 6 _ _ _ _ aT.nd rfl (Or.inl rfl) (@ao _ _ _ _ _ _ _ _ (@gz _) (pv 2) (@zr _ _ _ _)) (by rfl) (by first | exact .inl rfl | exact .inr rfl | assumption));have jE:PS (aA bJ P w K mg base ["_law_names_here","_law_above","_law_cell","_law_units","_law_finds","_law_ties","_law_way","_law_rest","_law_name","_law_high"] "_law_wrong" (zm (top 49)) f ay A outer s H E).bX ((zj (top 49)).getD 4 (.Pass ⟨0,0,0,0⟩)) _:=(@bQ _ _ 7 _ _ _ _ aT.nd rfl (Or.inl rfl) (@ao _ _ _ _ _ _ _ _ (@uO _) (pv 2) (@zr _ _ _ _)) (by rfl) (by first | exact .inl rfl | exact .inr rfl | assumption));have nO:PS (aA bJ P w K mg base ["_law_names_here","_law_above","_law_cell","_law_units","_law_finds","_law_ties","_law_way","_law_rest","_law_name","_law_high"] "_law_wrong" (zm (top 49)) f ay A outer s H E).bX ((zj (top 49)).getD 5 (.Pass ⟨0,0,0,0⟩)) _:=(@bQ _ _ 8 _ _ _ _ aT.nd rfl (Or.inl rfl) (@bI _ _ _ _ _ _ _ (@cT _ K rfl) (pv 0) (@ao _ _ _ _ _ _ _ _ (@gz _) (pv 7) (@cW _ _ _ _ _ _ _ _ _ (@jb _ K rfl) (by rfl) T.len boot_len (@za _ _ _ _ _ (pv 0) (@zh _) (by rfl)) (by decide) (by decide) (by rfl) (by rfl))) (fun _ _=>rfl)) (by rfl) (by first | exact .inl rfl | exact .inr rfl | assumption));have uq:PS (aA bJ P w K mg base ["_law_names_here","_law_above","_law_cell","_law_units","_law_finds","_law_ties","_law_way","_law_rest","_law_name","_law_high"] "_law_wrong" (zm (top 49)) f ay A outer s H E).bX ((zj (top 49)).getD 6 (.Pass ⟨0,0,0,0⟩)) _:=(@cy _ _ _ _ _ _ _ _ (@cO _ _ _ _ _ _ _ _ (@iG _) (pv 6) (@zr _ _ _ _) (cK _)) (@zv _ _ _ (@cH _ _ _ _ (@b9 _ _ _ _ _ _ _ _ _ _ (W9 T) (hr.mono (by decide)) (by rfl) (@za _ _ _ _ _ (pv 8) (@za _ _ _ _ _ (pv 7) (@zh _) (by rfl)) (by rfl)) (by decide) (by rfl) (by rfl)))) (@cQ _));have uu:PS (aA bJ P w K mg base ["_law_names_here","_law_above","_law_cell","_law_units","_law_finds","_law_ties","_law_way","_law_rest","_law_name","_law_high"] "_law_wrong" (zm (top 49)) f ay A outer s H E).bX ((zj (top 49)).getD 7 (.Pass ⟨0,0,0,0⟩)) _:=(@cy _ _ _ _ _ _ _ _ (@cO _ _ _ _ _ _ _ _ (@iG _) (pv 6) (@zr _ _ _ _) (cK _)) (@zv _ _ _ (@cH _ _ _ _ (@b9 _ _ _ _ _ _ _ _ _ _ (Xa T) (hr.mono (by decide)) (by rfl) (@za _ _ _ _ _ (pv 8) (@za _ _ _ _ _ (pv 7) (@zh _) (by rfl)) (by rfl)) (by decide) (by rfl) (by rfl)))) (@cQ _));have uv:PS (aA bJ P w K mg base ["_law_names_here","_law_above","_law_cell","_law_units","_law_finds","_law_ties","_law_way","_law_rest","_law_name","_law_high"] "_law_wrong" (zm (top 49)) f ay A outer s H E).bX ((zj (top 49)).getD 8 (.Pass ⟨0,0,0,0⟩)) _:=(@cy _ _ _ _ _ _ _ _ (@cO _ _ _ _ _ _ _ _ (@iG _) (pv 6) (@zr _ _ _ _) (cK _)) (@zv _ _ _ (@cH _ _ _ _ (@b9 _ _ _ _ _ _ _ _ _ _ (Xb T) (hr.mono (by decide)) (by rfl) (@za _ _ _ _ _ (pv 8) (@za _ _ _ _ _ (pv 7) (@zh _) (by rfl)) (by rfl)) (by decide) (by rfl) (by rfl)))) (@cQ _));have uw:PS (aA bJ P w K mg base ["_law_names_here","_law_above","_law_cell","_law_units","_law_finds","_law_ties","_law_way","_law_rest","_law_name","_law_high"] "_law_wrong" (zm (top 49)) f ay A outer s H E).bX ((zj (top 49)).getD 9 (.Pass ⟨0,0,0,0⟩)) _:=(@cy _ _ _ _ _ _ _ _ (@cO _ _ _ _ _ _ _ _ (@iG _) (pv 6) (@zr _ _ _ _) (cK _)) (@zk _ _ _ _ _ (@bQ _ _ 9 _ _ _ _ aT.nd rfl (Or.inl rfl) (@bI _ _ _ _ _ _ _ (@cT _ K rfl) (@dm _ _ _ _ (@za _ _ _ _ _ (@zp _ _ _ _) (@za _ _ _ _ _ (@zp _ _ _ _) (@za _ _ _ _ _ (@nX _ _ _ _ _ _ _ _ _ (@Fg _) (by rfl) T.str PyProof.Rows.boot_str (@za _ _ _ _ _ (@ao _ _ _ _ _ _ _ _ (@gz _) (pv 7) (@ao _ _ _ _ _ _ _ _ (@uP _) (@zr _ _ _ _) (@zr _ _ _ _))) (@zh _) (by rfl)) (by decide) (by decide) (by rfl) (by rfl)) (@zh _) (by rfl)) (by rfl)) (by rfl))) (@ao _ _ _ _ _ _ _ _ (@gz _) (pv 7) (@zr _ _ _ _)) (fun _ _=>rfl)) (by rfl) (by first | exact .inl rfl | exact .inr rfl | assumption)) (@zv _ _ _ (@cH _ _ _ _ (@dJ _ _ _ _ _ (@za _ _ _ _ _ (@ao _ _ _ _ _ _ _ _ (@zq _) (@ao _ _ _ _ _ _ _ _ (@zq _) (@ao _ _ _ _ _ _ _ _ (@zq _) (@ao _ _ _ _ _ _ _ _ (@zq _) (@ao _ _ _ _ _ _ _ _ (@zq _) (@zp _ _ _ _) (pv 8)) (@zp _ _ _ _)) (@nX _ _ _ _ _ _ _ _ _ (@Fg _) (by rfl) T.str PyProof.Rows.boot_str (@za _ _ _ _ _ (@ao _ _ _ _ _ _ _ _ (@jG _) (@ao _ _ _ _ _ _ _ _ (@gz _) (pv 7) (@ao _ _ _ _ _ _ _ _ (@uP _) (@zr _ _ _ _) (@zr _ _ _ _))) (@zr _ _ _ _)) (@zh _) (by rfl)) (by decide) (by decide) (by rfl) (by rfl))) (@zp _ _ _ _)) (pv 9)) (@za _ _ _ _ _ (@zp _ _ _ _) (@zh _) (by rfl)) (by rfl)))))) (@cQ _));have kZ:PS (aA bJ P w K mg base ["_law_names_here","_law_above","_law_cell","_law_units","_law_finds","_law_ties","_law_way","_law_rest","_law_name","_law_high"] "_law_wrong" (zm (top 49)) f ay A outer s H E).bX ((zj (top 49)).getD 10 (.Pass ⟨0,0,0,0⟩)) _:=(@cy _ _ _ _ _ _ _ _ (@PW.pt _ _ _ (@qd _ _ _ _ _ _ _ (@cO _ _ _ _ _ _ _ _ (@iG _) (pv 6) (@zr _ _ _ _) (cK _)) (@qc _ _ _ _ (@cO _ _ _ _ _ _ _ _ (@NF _ K rfl (jX hr)) (pv 3) (@dm _ _ _ _ (@zh _)) (cK _))))) (@zv _ _ _ (@cH _ _ _ _ (@b9 _ _ _ _ _ _ _ _ _ _ (Xg T) (hr.mono (by decide)) (by rfl) (@za _ _ _ _ _ (pv 3) (@za _ _ _ _ _ (pv 5) (@za _ _ _ _ _ (pv 4) (@za _ _ _ _ _ (pv 7) (@zh _) (by rfl)) (by rfl)) (by rfl)) (by rfl)) (by decide) (by rfl) (by rfl)))) (@cQ _));have k6:PS (aA bJ P w K mg base ["_law_names_here","_law_above","_law_cell","_law_units","_law_finds","_law_ties","_law_way","_law_rest","_law_name","_law_high"] "_law_wrong" (zm (top 49)) f ay A outer s H E).bX ((zj (top 49)).getD 11 (.Pass ⟨0,0,0,0⟩)) _:=(@cH _ _ _ _ (@b9 _ _ _ _ _ _ _ _ _ _ (Xo T) (hr.mono (by decide)) (by rfl) (@za _ _ _ _ _ (pv 3) (@za _ _ _ _ _ (@pA _ _ _ _ _ _ _ ["_law_find_here"] [] [] _ _ _ _ (zm (top 49)) rfl ⟨rfl,by decide +kernel,by decide +kernel,by decide +kernel,by decide +kernel⟩ rfl (@lR _ _ K rfl _ _ (pv 4)) (fun _ _ _ _=>@d9 _ _ 0 _ (show List.Nodup (["_law_find_here"]:List Str) by decide +kernel) rfl (Or.inl rfl) (by first | exact .inl rfl | exact .inr rfl | assumption)) (fun _ _ _ _=>@m8 _) (fun _ _ _ _=>(@bI _ _ _ _ _ _ _ (@gH _ K rfl) (pv 0) (@zr _ _ _ _) (fun _ _=>rfl))) (by intro _;rfl) (by rfl)) (@za _ _ _ _ _ (pv 7) (@zh _) (by rfl)) (by rfl)) (by rfl)) (by decide) (by rfl) (by rfl)));generalize ((zj (top 49)).getD 0 (.Pass ⟨0,0,0,0⟩))=kU at fO ⊢;generalize ((zj (top 49)).getD 1 (.Pass ⟨0,0,0,0⟩))=kX at fP ⊢;generalize ((zj (top 49)).getD 2 (.Pass ⟨0,0,0,0⟩))=kY at fQ ⊢;generalize ((zj (top 49)).getD 3 (.Pass ⟨0,0,0,0⟩))=mh at gR ⊢;generalize ((zj (top 49)).getD 4 (.Pass ⟨0,0,0,0⟩))=pU at jE ⊢;generalize ((zj (top 49)).getD 5 (.Pass ⟨0,0,0,0⟩))=yM at nO ⊢;generalize ((zj (top 49)).getD 6 (.Pass ⟨0,0,0,0⟩))=EF at uq ⊢;generalize ((zj (top 49)).getD 7 (.Pass ⟨0,0,0,0⟩))=EG at uu ⊢;generalize ((zj (top 49)).getD 8 (.Pass ⟨0,0,0,0⟩))=EH at uv ⊢;generalize ((zj (top 49)).getD 9 (.Pass ⟨0,0,0,0⟩))=EI at uw ⊢;generalize ((zj (top 49)).getD 10 (.Pass ⟨0,0,0,0⟩))=ux at kZ ⊢;generalize ((zj (top 49)).getD 11 (.Pass ⟨0,0,0,0⟩))=uy at k6 ⊢;refine⟨_,zk fO (zk fP (zk fQ (zk gR (zk jE (zk nO (zk uq (zk uu (zk uv (zk uw (zk kZ (zv k6))))))))))),?_⟩;clear bL fO fP fQ gR jE nO uq uu uv uw kZ k6 kU kX kY mh pU yM EF EG EH EI ux uy;rw[show L2.start (["_law_names_here","_law_above","_law_cell","_law_units","_law_finds","_law_ties","_law_way","_law_rest","_law_name","_law_high"]:List Str) [V.ref pn,V.ref pa,V.int c] = [some (V.ref pn),some (V.ref pa),some (V.int c),none,none,none,none,none,none,none] from rfl];obtain⟨q1,⟨Fs,q2,q3⟩,q4⟩:=Wi td;obtain⟨q5,q6⟩:=EE td;have la:=ht.len;refine⟨_,rfl,pa,rfl,⟨_,ha⟩,fun D hD=>?_⟩;refine xF (nj (K:=K) (a:=pa) (xs:=as.map V.ref)) (fun i au ys H'=>∃w0,au = [w0]/\ys=((rs.take i).filter (iC (Str.ofString "unit"))).map sec/\aa H H'/\H' D=some (.lst ys))
   ⟨none,rfl,by simp,aa.new hD,zd⟩ (fun i au ys H' h=>?_) (by rw[List.length_map,la];exact cU (by omega)) ?_ ?_
  ·obtain⟨_,_,rfl,q,hd⟩:=h;refine⟨q.seq ha,hd,?_⟩;rw[List.length_map];exact Nat.le_trans (List.length_filter_le _ _) (by rw[List.length_take];omega)
  ·rintro i v au ys H1 hx ⟨w0,rfl,rfl,q',hd⟩;have dw:=xE hx;rw[List.length_map] at dw;obtain⟨ws,ew,hr⟩:=ht.at (List.getElem?_eq_getElem dw);rw[List.getElem?_map,List.getElem?_eq_getElem dw] at hx;cases hx;obtain⟨kd,x,r,rfl⟩:=q4 ws (List.mem_of_getElem? ew);have oE:=q' _ _ hr;generalize as[i]=ad at oE
   try dsimp only [bM,List.set]
   refine⟨_,rfl,ad,_,_,_,rfl,rfl,aD.of oE,gI,rfl,_,rfl,?_⟩
   by_cases c1:kd=Str.ofString "unit"
   ·rw[decide_eq_true (congrArg V.str c1)];refine br ?_;refine⟨_,rfl,ad,_,_,_,rfl,rfl,aD.of oE,lA (j:=1) rfl,hd,pD (by rw[List.length_map];exact dw) ⟨_,rfl,?_,q'.upd hD,zd⟩⟩;rw[vz _ ew,if_pos (show iC _ _=true from decide_eq_true (by rw[c1];rfl)),List.map_append];rfl
   ·rw[decide_eq_false (fun z=>c1 (V.str.inj z))];refine aB ?_;refine⟨hd,pD (by rw[List.length_map];exact dw) ⟨_,rfl,?_,q',hd⟩⟩;rw[vz _ ew,if_neg (show ¬iC (Str.ofString "unit") (V.str kd::V.str x::r)=true from fun z=>c1 (V.str.inj (Option.some.inj (of_decide_eq_true (show decide (some (V.str kd)=some (V.str (Str.ofString "unit")))=true from z))))),List.append_nil]
  rintro au ys H1 ⟨w0,rfl,rfl,s1,oF⟩;rw[List.length_map,la,List.take_length,q1] at oF
  try dsimp only [bM,List.set]
  refine⟨_,rfl,pa,rfl,⟨_,s1.seq ha⟩,fun D2 l7=>?_⟩;refine xF (nj (K:=K) (a:=pa) (xs:=as.map V.ref)) (fun i au ys H'=>∃w0 bs,au = [w0]/\ys=List.map V.ref bs/\aP H' bs (((rs.take i).filter (iC (Str.ofString "find"))).map List.tail)/\aa H1 H'/\H' D2=some (.lst ys))
   ⟨none,[],rfl,rfl,.nil,aa.new l7,zd⟩ (fun i au ys H' h=>?_) (by rw[List.length_map,la];exact cU (by omega)) ?_ ?_
  ·obtain⟨_,bs,_,rfl,tb,q,hd⟩:=h;refine⟨(s1.trans q).seq ha,hd,?_⟩;rw[List.length_map,tb.len,List.length_map];exact Nat.le_trans (List.length_filter_le _ _) (by rw[List.length_take];omega)
  ·rintro i v au ys H2 hx ⟨w0,bs,rfl,rfl,tb,q',hd⟩;have dw:=xE hx;rw[List.length_map] at dw;obtain⟨ws,ew,hr⟩:=ht.at (List.getElem?_eq_getElem dw);rw[List.getElem?_map,List.getElem?_eq_getElem dw] at hx;cases hx;obtain⟨kd,x,r,rfl⟩:=q4 ws (List.mem_of_getElem? ew);have oE:=q' _ _ (s1 _ _ hr);generalize as[i]=ad at oE
   try dsimp only [bM,List.set]
   refine⟨_,rfl,ad,_,_,_,rfl,rfl,aD.of oE,gI,rfl,_,rfl,?_⟩
   by_cases c1:kd=Str.ofString "find"
   ·rw[decide_eq_true (congrArg V.str c1)];refine br ?_;refine⟨_,rfl,_,rfl,ad,_,rfl,aD.of oE,pR,fun p hp=>?_⟩;rw[qm];have sp:=aa.new (o:=.tup (V.str x::r)) hp;have k8:=sp _ _ hd;refine⟨k8,pD (by rw[List.length_map];exact dw) ⟨_,bs++[p],rfl,by rw[List.map_append];rfl,?_,(q'.trans sp).upd l7,zd⟩⟩;rw[vz _ ew,if_pos (show iC _ _=true from decide_eq_true (by rw[c1];rfl)),List.map_append];have Xw:aP (upd H2 p (.tup (V.str x::r))) (bs++[p]) (((rs.take i).filter (iC (Str.ofString "find"))).map List.tail++[V.str x::r]):=(tb.same sp).snoc zd;exact Xw.bH fun b NZ h=>by rw[aJ (fun e=>by subst e;rw[k8] at h;cases h)];exact h
   ·rw[decide_eq_false (fun z=>c1 (V.str.inj z))];refine aB ?_;refine⟨hd,pD (by rw[List.length_map];exact dw) ⟨_,bs,rfl,rfl,?_,q',hd⟩⟩;rw[vz _ ew,if_neg (show ¬iC (Str.ofString "find") (V.str kd::V.str x::r)=true from fun z=>c1 (V.str.inj (Option.some.inj (of_decide_eq_true (show decide (some (V.str kd)=some (V.str (Str.ofString "find")))=true from z))))),List.append_nil];exact tb
  rintro au ys H2 ⟨YT,bf,rfl,rfl,tf,s2,hd2⟩;rw[List.length_map,la,List.take_length,q5] at tf;have A4:=s1.trans s2;have oF:=s2 _ _ oF
  try dsimp only [bM,List.set]
  refine⟨_,rfl,pa,rfl,⟨_,A4.seq ha⟩,fun D3 nJ=>?_⟩;refine xF (nj (K:=K) (a:=pa) (xs:=as.map V.ref)) (fun i au ys H'=>∃w0 bs,au = [w0]/\ys=List.map V.ref bs/\aP H2 bs ((rs.take i).filter pV)/\aa H2 H'/\H' D3=some (.lst ys))
   ⟨none,[],rfl,rfl,.nil,aa.new nJ,zd⟩ (fun i au ys H' h=>?_) (by rw[List.length_map,la];exact cU (by omega)) ?_ ?_
  ·obtain⟨_,bs,_,rfl,tb,q,hd⟩:=h;refine⟨(A4.trans q).seq ha,hd,?_⟩;rw[List.length_map,tb.len];exact Nat.le_trans (List.length_filter_le _ _) (by rw[List.length_take];omega)
  ·rintro i v au ys H3 hx ⟨w0,bs,rfl,rfl,tb,q',hd⟩;have dw:=xE hx;rw[List.length_map] at dw;obtain⟨ws,ew,hr⟩:=ht.at (List.getElem?_eq_getElem dw);rw[List.getElem?_map,List.getElem?_eq_getElem dw] at hx;cases hx;obtain⟨kd,x,r,rfl⟩:=q4 ws (List.mem_of_getElem? ew);have sW:=A4 _ _ hr;have oE:=q' _ _ sW;generalize as[i]=ad at oE sW
   try dsimp only [bM,List.set]
   refine⟨_,rfl,ad,_,_,_,rfl,rfl,aD.of oE,gI,by show 2<=sizeLine;decide,fun e he=>?_⟩;have te:=aa.new (o:=.lst [V.str (Str.ofString "unit"),V.str (Str.ofString "find")]) he;refine⟨e,_,rfl,.inl (ak.of zd),rfl,rfl,_,rfl,?_⟩;rw[if_pos rfl,show wu (V.str kd) [V.str (Str.ofString "unit"),V.str (Str.ofString "find")]=decide (kd∈([Str.ofString "unit",Str.ofString "find"]:List Str)) from HP kd [Str.ofString "unit",Str.ofString "find"]];have en:pV (V.str kd::V.str x::r) = !decide (kd∈([Str.ofString "unit",Str.ofString "find"]:List Str)):=by
    show (!decide (some (V.str kd)=some (V.str (Str.ofString "unit"))) && !decide (some (V.str kd)=some (V.str (Str.ofString "find"))))=_
    by_cases a:kd=Str.ofString "unit"
    ·rw[a];decide +kernel
    ·by_cases b:kd=Str.ofString "find"
     ·rw[b];decide +kernel
     ·rw[decide_eq_false (fun z=>a (V.str.inj (Option.some.inj z))),decide_eq_false (fun z=>b (V.str.inj (Option.some.inj z))),decide_eq_false (fun z=>by rcases List.mem_cons.mp z with z | z;exact a z;exact b (List.mem_singleton.mp z))];rfl
   refine dO (fun cc=>?_) (fun cc=>?_)
   ·refine⟨_,rfl,te _ _ hd,pD (by rw[List.length_map];exact dw) ⟨_,bs++[ad],rfl,by rw[List.map_append];rfl,?_,(q'.trans te).upd nJ,zd⟩⟩;rw[vz _ ew,if_pos (en.trans cc)];exact tb.snoc sW
   ·refine⟨te _ _ hd,pD (by rw[List.length_map];exact dw) ⟨_,bs,rfl,rfl,?_,q'.trans te,te _ _ hd⟩⟩;rw[vz _ ew,if_neg (fun z=>cc (en.symm.trans z)),List.append_nil];exact tb
  rintro au ys H3 ⟨Xx,bt,rfl,rfl,tt,s3,EJ⟩;rw[List.length_map,la,List.take_length,q6] at tt;have qU:=A4.trans s3;have oF:=s3 _ _ oF;have hd2:=s3 _ _ hd2;have tt:=tt.same s3;have tf:=tf.same s3
  try dsimp only [bM,List.set]
  refine⟨_,rfl,_,_,rfl,rfl,(show (0:Int)<6 by decide),?_⟩
  try dsimp only [bM,List.set]
  refine⟨_,rfl,_,_,rfl,rfl,⟨by decide,by decide⟩,?_⟩
  try dsimp only [bM,List.set]
  generalize c%6=way;generalize c / 6=c;obtain⟨nm,jn,Xy,K8⟩:∃(nm:Str) (jn:Nat),c%((xs.map V.str).length:Int)=(jn:Int)/\xs[jn]? = some nm:=by
   rw[List.length_map,x9];have h0:=Int.emod_nonneg c (show (9:Int)≠0 by decide);have h1:=Int.emod_lt_of_pos c (show (0:Int)<9 by decide);exact⟨xs[(c%9).toNat]'(by omega),(c%9).toNat,by show c%9=_;omega,List.getElem?_eq_getElem _⟩
  have oq:=Xv nm (List.mem_of_getElem? K8);refine⟨_,rfl,_,rfl,_,rfl,pn,_,rfl,.inl (qU.seq hn),_,_,rfl,rfl,(show (0:Int)<((xs.map V.str).length:Int) by rw[List.length_map];omega),pn,_,_,_,rfl,rfl,qU.seq hn,(show fG (xs.map V.str) (c%((xs.map V.str).length:Int))=some (.str nm) by rw[Xy];exact lA (by rw[List.getElem?_map,K8];rfl)),?_⟩
  try dsimp only [bM,List.set]
  refine Ae (decide (V.int way=V.int 0)) (fun Q' q=>⟨_,rfl,rfl,_,rfl,q⟩) ?_;refine dO (fun _=>?_) (fun _=>?_)
  ·exact⟨_,rfl,_,rfl,nm,c,rfl,oq,fun q ln H' s hq hw=>k q ln .row H' (qU.trans s) hq (hw us ts fs)⟩
  try unfold nV
  try dsimp only
  refine Ae (decide (V.int way=V.int 1)) (fun Q' q=>⟨_,rfl,rfl,_,rfl,q⟩) ?_;refine dO (fun _=>?_) (fun _=>?_)
  ·exact⟨_,rfl,_,rfl,nm,c,rfl,oq,fun q ln H' s hq hw=>k q ln .name H' (qU.trans s) hq (hw us ts fs)⟩
  try unfold nV
  try dsimp only
  refine Ae (decide (V.int way=V.int 2)) (fun Q' q=>⟨_,rfl,rfl,_,rfl,q⟩) ?_;refine dO (fun _=>?_) (fun _=>?_)
  ·exact⟨_,rfl,_,rfl,nm,c,rfl,oq,fun q ln H' s hq hw=>k q ln .number H' (qU.trans s) hq (hw us ts fs)⟩
  try unfold nV
  try dsimp only
  refine Ae (decide (V.int way=V.int 3)) (fun Q' q=>⟨_,rfl,rfl,_,rfl,q⟩) ?_;refine dO (fun _=>?_) (fun _=>?_)
  ·have z1:=Int.emod_nonneg c (show (10 ^ (9:Int).toNat:Int)≠0 by decide);have z2:=Int.emod_lt_of_pos c m9;have e9:(10:Int) ^ (9:Int).toNat=1000000000:=rfl;rw[e9] at z1 z2;have big:(1000000001:Nat)<10 ^ 60:=by decide
   have y1:(c%1000000000).natAbs<10 ^ 60:=Nat.lt_trans (by omega) big;have y2:(c%1000000000+1).natAbs<10 ^ 60:=Nat.lt_of_le_of_lt (by omega) big;refine⟨_,rfl,_,_,rfl,rfl,c9,_,_,rfl,rfl,m9,_,rfl,K7 y1,by show 3<=sizeLine;decide,fun p1 j6=>?_⟩;have t1:=aa.new (o:=.lst [.str (Str.ofString "0"),.str (Str.ofString "-5"),.str (toString (c%10 ^ (9:Int).toNat))]) j6;obtain⟨hi,eh,h1,h2⟩:∃hi:Int,fG [V.str (Str.ofString "0"),.str (Str.ofString "-5"),.str (toString (c%10 ^ (9:Int).toNat))] (c%3)=some (.str (aR (.int hi)))/\hi<c%1000000000+1/\hi.natAbs<10 ^ 60:=by
    have a1:=Int.emod_nonneg c (show (3:Int)≠0 by decide);have a2:=Int.emod_lt_of_pos c (show (0:Int)<3 by decide);have w0:aR (.int 0)=Str.ofString "0":=by decide +kernel
    have w5:aR (.int (-5))=Str.ofString "-5":=by decide +kernel
    have:c%3=0\/c%3=1\/c%3=2:=by omega
    rcases this with h | h | h
    ·rw[h];exact⟨0,by rw[w0];exact gI,by omega,by decide⟩
    ·rw[h];exact⟨-5,by rw[w5];exact lA (j:=1) rfl,by omega,by decide⟩
    ·rw[h];exact⟨c%1000000000,lA (j:=2) rfl,by omega,y1⟩
   refine⟨_,rfl,_,_,rfl,rfl,(show (0:Int)<3 by decide),p1,_,_,_,rfl,rfl,ak.of zd,eh,?_⟩
   try dsimp only [bM,List.set]
   have w:=W6 (us:=us) (ts:=ts) (fs:=fs) oq y2 h2 h1 (A3 y2) (A3 h2);have b1:=mE oq;have b2:=(A3 y2).2.2.2;have b3:=(A3 h2).2.2.2;have oG:∀x y:Str,(x++y).length=x.length+y.length:=fun x y=>by rw[←fT,fU,List.length_append,fT,fT]
   have a3:(Str.ofString "find f-f ").length=9:=by decide +kernel
   have a4:(Str.ofString " ").length=1:=by decide +kernel
   refine⟨_,rfl,_,_,rfl,rfl,cU (by omega),_,_,rfl,rfl,cU (by rw[oG];omega),_,rfl,_,_,rfl,rfl,c9,_,_,rfl,rfl,m9,_,_,rfl,rfl,_,rfl,K7 y2,_,_,rfl,rfl,cU (by rw[oG,oG];show _+(aR (.int (c%1000000000+1))).length<=_;omega),_,_,rfl,rfl,cU (by rw[oG,oG,oG];show _+_+_+(aR (.int (c%1000000000+1))).length+_<=_;omega),_,rfl,_,_,rfl,rfl,cU (by rw[oG,oG,oG,oG];show _+_+_+(aR (.int (c%1000000000+1))).length+_+_<=_;omega),by show 2<=sizeLine;decide,fun q hq=>k q _ .span _ (qU.trans (t1.trans (aa.new hq))) zd w⟩
  try unfold nV
  try dsimp only
  refine sM (decide (V.int way=V.int 4) && !decide (us.map V.str = [])) (fun Q' hQ=>?_) (fun H4 s4=>?_)
  ·refine⟨_,rfl,rfl,_,rfl,?_⟩;cases h4:decide (V.int way=V.int 4) with
   | false=>exact aB (by rw[h4,Bool.false_and] at hQ;exact hQ _ (aa.refl _))
   | true=>
    rw[h4,Bool.true_and] at hQ;exact br ⟨_,rfl,by decide,fun e he=>⟨D,e,_,rfl,rfl,b8.sN (ak.of (aa.new he _ _ oF)) (ak.of zd),_,rfl,hQ _ (aa.new he)⟩⟩
  refine dO (fun cc=>?_) (fun _=>?_)
  ·have EA:us≠[]:=fun z=>by rw[z,Bool.and_eq_true] at cc;exact absurd cc.2 (by decide)
   exact⟨_,rfl,_,rfl,_,rfl,_,rfl,D,D3,D2,c,us,ts,fs,rs,bt,bf,rfl,td,Ez,EA,ak.of (s4 _ _ oF),ak.of (s4 _ _ EJ),tt.same s4,ak.of (s4 _ _ hd2),tf.same s4,fun q ln H' s hq hw=>k q ln .twice H' (qU.trans (s4.trans s)) hq hw⟩
  try unfold nV
  try dsimp only
  have yN:=s4 _ _ hd2;have yO:=tf.same s4;refine⟨_,rfl,_,rfl,D2,rfl,⟨_,ak.of yN⟩,fun D5 Cd=>?_⟩;refine vB (nj (K:=K) (a:=D2) (xs:=bf.map V.ref)) (eS H4 fun ws=>iy (ws.headD .aL)) Cd (fun H' s=>ak.of (s _ _ yN)) (by rw[List.length_map,yO.len];omega) (fun v hv H' Q' s q=>?_) (fun H5 s5 e5=>?_)
  ·obtain⟨a,hm,rfl⟩:=List.mem_map.mp hv;obtain⟨ws,hw,ea⟩:=yO.get hm;obtain⟨F,x,lo,hi,rfl,hF,_⟩:=td.jY ws hw;have:=q _ (aa.refl _);rw[qS ea] at this;exact⟨_,rfl,a,_,_,_,rfl,rfl,aD.of (s _ _ ea),gI,this⟩
  have A1:∀f∈fs,∃F∈(bf.map V.ref).map (eS H4 fun ws=>iy (ws.headD .aL)),f.head? = some (.str F):=fun f hf=>by
   obtain⟨i,hi,e⟩:=List.getElem_of_mem hf;have K9:i<bf.length:=by rw[yO.len];exact hi
   obtain⟨ws,ew,ea⟩:=yO.at (List.getElem?_eq_getElem K9);rw[List.getElem?_eq_getElem hi,e] at ew;cases ew;obtain⟨F,x,lo,n5,rfl,hF,_⟩:=td.jY _ hf;exact⟨F,List.mem_map.mpr ⟨.ref bf[i],List.mem_map.mpr ⟨bf[i],List.getElem_mem K9,rfl⟩,by rw[qS ea];rfl⟩,rfl⟩
  have L5:((bf.map V.ref).map (eS H4 fun ws=>iy (ws.headD .aL))).length=fs.length:=by rw[List.length_map,List.length_map,yO.len]
  generalize (bf.map V.ref).map (eS H4 fun ws=>iy (ws.headD .aL))=Xz at e5 A1 L5;exact⟨_,rfl,D,D5,c,us,Xz,ts,fs,rs,rfl,td,u9,by omega,A1,ak.of (s5 _ _ (s4 _ _ oF)),ak.of e5,fun q ln H' s hq hw=>k q ln .unit H' (qU.trans (s4.trans (s5.trans s))) hq hw⟩
def ku (ln:Str) (k:bO):Prop:=lF (Dm.wordsOf ln)=false/\((Dm.wordsOf ln).length<=900/\∀y∈Dm.wordsOf ln,y.length<=1000)/\10 ∉ co ln/\ln.length<=700/\iV ⟨none,[],[],[]⟩ (Dm.wordsOf ln) k
theorem oH {ln:Str}{k:bO}(ws:List Str) (iL:ws≠[]) (e:ln=aW (ws.map V.str)) (hw:∀w∈ws,fV w) (hp:lF ws=false) (hl:ws.length<=6) (hb:iV ⟨none,[],[],[]⟩ ws k):ku ln k:=by
 obtain⟨h1,h2,h3⟩:=KA iL e hw hl;unfold ku;rw[h1];exact⟨hp,⟨by omega,fun y hy=>by have:=(hw y hy).2.2.2;omega⟩,h2,h3,hb⟩
theorem XA:(Str.ofString "dig",([Str.ofString "year",Str.ofString "year"]:List Str).map V.str)∈ai:=by simp[ai]
theorem EK {x:Str}{r:List Str}(h:decide (x=(Str.ofString "dig" : Str))=false):iV ⟨none,[],[],[]⟩ (x::r) .row:=.dig (by show decide _≠true;rw[h];exact Bool.false_ne_true)
theorem uz {r:List Str}{k:bO}(b:iU [Str.ofString "year",Str.ofString "year"] r k):iV ⟨none,[],[],[]⟩ (Str.ofString "dig" :: r) k:=.ent (by show decide _=true;decide +kernel) (.l6 XA b)
theorem La {a b:Str}{lo hi:Int}(ea:a=aR (.int lo)) (eb:b=aR (.int hi)) (h1:dG lo) (h2:dG hi) (h:hi<lo):iU [Str.ofString "year",Str.ofString "year"] [a,b] .span:=by
 rw[ea,eb];exact .span (kp:=[]) (pre:=[]) (lo:=lo) (hi:=hi) rfl (.cons (.year h1) (.cons (.year h2) .nil)) h
theorem Lb {a b:Str}(h:gT a=false):iU [Str.ofString "year",Str.ofString "year"] [a,b] .number:=lM (kp:=[]) (kq:=[Str.ofString "year"]) (rq:=[b]) .nil (.year h) rfl
theorem XC:ku (Str.ofString "unit a") .row:=oH [Str.ofString "unit",Str.ofString "a"] (by simp) (by decide +kernel) (by decide +kernel) (by decide +kernel) (by decide) (EK (by decide +kernel))
theorem CC:ku (Str.ofString "dig 1") .row:=oH [Str.ofString "dig",Str.ofString "1"] (by simp) (by decide +kernel) (by decide +kernel) (by decide +kernel) (by decide) (uz (.len (by simp)))
theorem XD:ku (Str.ofString "dig 1 2 3") .row:=oH [Str.ofString "dig",Str.ofString "1",Str.ofString "2",Str.ofString "3"] (by simp) (by decide +kernel) (by decide +kernel) (by decide +kernel) (by decide) (uz (.len (by simp)))
theorem XE:ku (Str.ofString "Dig 1 2") .row:=oH [Str.ofString "Dig",Str.ofString "1",Str.ofString "2"] (by simp) (by decide +kernel) (by decide +kernel) (by decide +kernel) (by decide) (EK (by decide +kernel))
theorem XF:ku (Str.ofString "over a b") .row:=oH [Str.ofString "over",Str.ofString "a",Str.ofString "b"] (by simp) (by decide +kernel) (by decide +kernel) (by decide +kernel) (by decide) (EK (by decide +kernel))
theorem XG:ku (Str.ofString "dig x 1") .number:=oH [Str.ofString "dig",Str.ofString "x",Str.ofString "1"] (by simp) (by decide +kernel) (by decide +kernel) (by decide +kernel) (by decide) (uz (Lb (by decide +kernel)))
theorem XH:ku (Str.ofString "dig 1 01") .number:=oH [Str.ofString "dig",Str.ofString "1",Str.ofString "01"] (by simp) (by decide +kernel) (by decide +kernel) (by decide +kernel) (by decide) (uz (by
 have z:=lM (kq:=[]) (rq:=[]) (.cons K0 .nil) (.year (x:=Str.ofString "01") (by decide +kernel)) rfl;simp only [List.map_cons,List.map_nil,KZ] at z;exact z))
theorem XI:ku (Str.ofString "dig 5 4") .span:=oH [Str.ofString "dig",Str.ofString "5",Str.ofString "4"] (by simp) (by decide +kernel) (by decide +kernel) (by decide +kernel) (by decide) (uz (La (lo:=5) (hi:=4) (by decide +kernel) (by decide +kernel) (by unfold dG;decide +kernel) (by unfold dG;decide +kernel) (by decide)))
theorem XJ:ku (Str.ofString "dig -4 -5") .span:=oH [Str.ofString "dig",Str.ofString "-4",Str.ofString "-5"] (by simp) (by decide +kernel) (by decide +kernel) (by decide +kernel) (by decide) (uz (La (lo:=-4) (hi:=-5) (by decide +kernel) (by decide +kernel) (by unfold dG;decide +kernel) (by unfold dG;decide +kernel) (by decide)))
theorem EL:ku (Str.ofString "dig -0 5") .number:=oH [Str.ofString "dig",Str.ofString "-0",Str.ofString "5"] (by simp) (by decide +kernel) (by decide +kernel) (by decide +kernel) (by decide) (uz (Lb (by decide +kernel)))
theorem XM {P:Str->bO->Prop}{H0 H:Hp}{σ:St}{te:TA}{ti:TE}{r:R2}{n i:Nat}{l:Addr}{xs:List V}{E0:Ends}(hv:σ[i]? = some (some (.ref l))) (s:aa H0 H) (hl:H l=some (.lst xs)) (cx:Cs P H xs) (m:qO P H0 σ te n) (hn:xs.length+n<=100)
  (k:∀p ys H',aa H H'->H' p=some (.lst ys)->ys.length=xs.length+n->Cs P H' ys->ti σ H' fun y H1=>r (.ref p) y H1 E0.rt) :
  rB (iF r (iF (fun x y H Q=>∃l b xs zs,x = .ref l/\y = .ref b/\ak K H l xs/\ak K H b zs/\xs.length+zs.length<=sizeLine/\∀p,H p=none->Q (.ref p) (upd H p (.lst (xs++zs)))) (cJ i) (fX te)) ti) E0 σ H:=
 KG (Q:=fun x H1=>ti σ H1 fun y H2=>r x y H2 E0.rt) hv s hl cx m hn k
def XN:Sp:=fun vs H Q _=>∃(c:Int),vs = [.int c]/\∀(q:Addr) (ln:Str) (kk:bO) (H':Hp),aa H H'->H' q=some (.tup [.str ln,.str (mO kk)])->ku ln kk->Q (.ref q) H'
set_option maxHeartbeats 8000000 in
theorem XO (T:Tx K mg w C_Reading zo zi zn ze zb zf zc zg zad zw zae zx zaf zy):fh P w K mg base "_law_wrong_first" ["_law_cell"] 2 XN:=by
 refine T.Ux.has bR (fun vs H Q E h=>?_) (fun f ay A outer s H vs Q E hr h=>?_)
 ·obtain⟨c,rfl,_⟩:=h;rfl
 ·obtain⟨c,rfl,k⟩:=h;have bL:zj (top 50) = [((zj (top 50)).getD 0 (.Pass ⟨0,0,0,0⟩)),((zj (top 50)).getD 1 (.Pass ⟨0,0,0,0⟩)),((zj (top 50)).getD 2 (.Pass ⟨0,0,0,0⟩))]:=by kernel_rfl
  rw[bL];have fO:PS (aA bJ P w K mg base ["_law_cell","_law_some"] "_law_wrong_first" (zm (top 50)) f ay A outer s H E).bX ((zj (top 50)).getD 0 (.Pass ⟨0,0,0,0⟩)) _:=(@bQ _ _ 1 _ _ _ _ bR.nd rfl (Or.inl rfl) (@dm _ _ _ _ (@za _ _ _ _ _ (@dJ _ _ _ _ _ (@za _ _ _ _ _ (@zp _ _ _ _) (@za _ _ _ _ _ (@zp _ _ _ _) (@zh _) (by rfl)) (by rfl))) (@za _ _ _ _ _ (@dJ _ _ _ _ _ (@za _ _ _ _ _ (@zp _ _ _ _) (@za _ _ _ _ _ (@zp _ _ _ _) (@zh _) (by rfl)) (by rfl))) (@za _ _ _ _ _ (@dJ _ _ _ _ _ (@za _ _ _ _ _ (@zp _ _ _ _) (@za _ _ _ _ _ (@zp _ _ _ _) (@zh _) (by rfl)) (by rfl))) (@za _ _ _ _ _ (@dJ _ _ _ _ _ (@za _ _ _ _ _ (@zp _ _ _ _) (@za _ _ _ _ _ (@zp _ _ _ _) (@zh _) (by rfl)) (by rfl))) (@za _ _ _ _ _ (@dJ _ _ _ _ _ (@za _ _ _ _ _ (@zp _ _ _ _) (@za _ _ _ _ _ (@zp _ _ _ _) (@zh _) (by rfl)) (by rfl))) (@zh _) (by rfl)) (by rfl)) (by rfl)) (by rfl)) (by rfl))) (by rfl) (by first | exact .inl rfl | exact .inr rfl | assumption));have fP:PS (aA bJ P w K mg base ["_law_cell","_law_some"] "_law_wrong_first" (zm (top 50)) f ay A outer s H E).bX ((zj (top 50)).getD 1 (.Pass ⟨0,0,0,0⟩)) _:=(@bQ _ _ 1 _ _ _ _ bR.nd rfl (Or.inl rfl) (@ao _ _ _ _ _ _ _ _ (@jz _ K rfl) (pv 1) (@dm _ _ _ _ (@za _ _ _ _ _ (@dJ _ _ _ _ _ (@za _ _ _ _ _ (@zp _ _ _ _) (@za _ _ _ _ _ (@zp _ _ _ _) (@zh _) (by rfl)) (by rfl))) (@za _ _ _ _ _ (@dJ _ _ _ _ _ (@za _ _ _ _ _ (@zp _ _ _ _) (@za _ _ _ _ _ (@zp _ _ _ _) (@zh _) (by rfl)) (by rfl))) (@za _ _ _ _ _ (@dJ _ _ _ _ _ (@za _ _ _ _ _ (@zp _ _ _ _) (@za _ _ _ _ _ (@zp _ _ _ _) (@zh _) (by rfl)) (by rfl))) (@za _ _ _ _ _ (@dJ _ _ _ _ _ (@za _ _ _ _ _ (@zp _ _ _ _) (@za _ _ _ _ _ (@zp _ _ _ _) (@zh _) (by rfl)) (by rfl))) (@zh _) (by rfl)) (by rfl)) (by rfl)) (by rfl)))) (by rfl) (by first | exact .inl rfl | exact .inr rfl | assumption));have fQ:PS (aA bJ P w K mg base ["_law_cell","_law_some"] "_law_wrong_first" (zm (top 50)) f ay A outer s H E).bX ((zj (top 50)).getD 2 (.Pass ⟨0,0,0,0⟩)) _:=(@cH _ _ _ _ (@bI _ _ _ _ _ _ _ (@cT _ K rfl) (@ao _ _ _ _ _ _ _ _ (@jz _ K rfl) (pv 1) (@dm _ _ _ _ (@za _ _ _ _ _ (@dJ _ _ _ _ _ (@za _ _ _ _ _ (@zp _ _ _ _) (@za _ _ _ _ _ (@zp _ _ _ _) (@zh _) (by rfl)) (by rfl))) (@zh _) (by rfl)))) (@ao _ _ _ _ _ _ _ _ (@gz _) (pv 0) (@zr _ _ _ _)) (fun _ _=>rfl)));generalize ((zj (top 50)).getD 0 (.Pass ⟨0,0,0,0⟩))=kU at fO ⊢;generalize ((zj (top 50)).getD 1 (.Pass ⟨0,0,0,0⟩))=kX at fP ⊢;generalize ((zj (top 50)).getD 2 (.Pass ⟨0,0,0,0⟩))=kY at fQ ⊢;refine⟨_,zk fO (zk fP (zv fQ)),?_⟩;clear bL fO fP fQ kU kX kY;rw[show L2.start (["_law_cell","_law_some"]:List Str) [V.int c] = [some (V.int c),none] from rfl];refine Wl (P:=ku) (oB aU XC rfl (oB aU CC rfl (oB aU XD rfl (oB aU XE rfl (oB aU XF rfl D9))))) (by decide) (aa.refl _) (fun l0 y0 G0 w0 e0 n0 c0=>?_)
  try dsimp only [bM,List.set]
  refine Wm (P:=ku) (slot ⟨_,rfl,rfl⟩) w0 e0 c0 (oB aU XG rfl (oB aU XH rfl (oB aU XI rfl (oB aU XJ rfl D9)))) (by omega) (fun l1 y1 G1 w1 e1 n1 c1=>?_)
  try dsimp only [bM,List.set]
  refine XM (P:=ku) (slot ⟨_,rfl,rfl⟩) (w0.trans w1) e1 c1 (oB aU EL rfl D9) (by omega) (fun l2 y2 G2 w2 e2 n2 c2=>?_);obtain⟨q,ln,kk,ea,eq,hw⟩:=c2.at (n:=10) (by omega) (by decide) c;exact⟨_,rfl,_,_,rfl,rfl,(show (0:Int)<10 by decide),l2,_,_,_,rfl,rfl,ak.of e2,ea,k q ln kk _ (w0.trans (w1.trans w2)) eq hw⟩
theorem XQ (T:Tx K mg w C_Reading zo zi zn ze zb zf zc zg zad zw zae zx zaf zy):cP P w K mg base zi "__init__" ["self","row"] 1 (ow zi):=tY T T.Ro T.IU T.Rm T.IV
def vC:List Str:=[";"," ; unit a","","  "]
theorem yP:∀l∈vC,lF (Dm.wordsOf l)=true/\10 ∉ co l/\l.length<=900:=by decide +kernel
def vD (c:Int) (v:V):Str:=match v with
 | .int k=>if (c+k)%4=0 then ";" else if (c+k)%4=1 then " ; unit a" else if (c+k)%4=2 then "" else "  "
 | _=>""
theorem XR (c:Int) (v:V):vD c v∈vC:=by
 unfold vD;split
 ·split
  ·decide +kernel
  ·split
   ·decide +kernel
   ·split<;>decide +kernel
 ·decide +kernel
theorem XS (c k:Int):fG [V.str (Str.ofString ";"),V.str (Str.ofString " ; unit a"),V.str (Str.ofString ""),V.str (Str.ofString "  ")] ((c+k)%4)=some (.str (vD c (.int k))):=by
 have:(c+k)%4=0\/(c+k)%4=1\/(c+k)%4=2\/(c+k)%4=3:=by omega
 unfold vD;dsimp only;rcases this with h | h | h | h<;>rw[h]<;>rfl
theorem A5 {s:RS}:∀{ls:List Str},(∀l∈ls,l∈vC)->Reads s ls s
 | [],_=>.nil
 | l::r,h=>.skip (yP l (h l (List.mem_cons_self ..))).1 (A5 fun x hx=>h x (List.mem_cons_of_mem _ hx))
theorem cE.lead {ls ms:List Str}(h:cE ms) (hm:ms.length<=90) (hl:∀l∈ls,l∈vC) (l3:ls.length<=3):cE (ls++ms):=
 ⟨fun z=>h.1 (List.append_eq_nil_iff.mp z).2,by rw[List.length_append];omega,fun l hx=>(List.mem_append.mp hx).elim (fun z=>(yP l (hl l z)).2) (h.2.2 l)⟩
theorem XT {us tE:List Str}{ts fs xX uF rs:List (List V)}{n:Nat}(t:Told us ts fs rs) (t':Told tE xX uF (rs.take n)):uF.length<=fs.length:=by
 rw[←(EE t).1,←(EE t').1,List.length_map,List.length_map];exact ((List.take_sublist n rs).filter _).length_le
theorem XU {us:List Str}{ts fs rs:List (List V)}{lo hi:Int}{la:Str}{k:bO}{n:Nat}{gs:List Str}(t:Told us ts fs (rs.take n)) (hn:n<=rs.length) (hl:lo<=hi) (h1:dG lo) (h2:dG hi) (w:dS us ts fs la k) (hg:gs.take (n+1)=aW [.str "dig",.int lo,.int hi]::(rs.take n).map aW):Refs ⟨none,[],[],[]⟩ (putL gs (n+1) la) (n+2) k:=by
 have rd:Reads ⟨none,[],[],[]⟩ (aW [.str "dig",.int lo,.int hi]::(rs.take n).map aW) ⟨some (lo,hi),us,ts,fs⟩:=.row (aS.dig hl h1 h2).words (.dig hl h1 h2) t.reads;have:=Reads.refs rd (.here (ls:=gs.drop (n+1)) w.1 (w.2.2.2.2 (lo,hi)) w.2.1);rw[List.length_cons,List.length_map,List.length_take,Nat.min_eq_left hn] at this;unfold putL;rw[hg,List.append_assoc];exact this
theorem XW {σ:St}{H:Hp}{u:TS}{E0:Ends}{a g i x j:Nat}{L D:Addr}{ms ls:List Str}{n:Nat}{y:Str}(hL:σ[a]? = some (some (.ref L))) (hg:σ[g]? = some (some (.ref D))) (hi:σ[i]? = some (some (.int (n:Int)))) (hx:σ[x]? = some (some (.str y))) (hM:H L=some (.lst (ms.map V.str))) (hD:H D=some (.lst (ls.map V.str))) (hn:n+1<=ls.length) (hl:ls.length<=200) (hm:ms.length<=3)
  (k:∀p H',aa H H'->H' p=some (.lst ((ms++putL ls (n+1) y).map V.str))->u E0 (σ.set j (some (.ref p))) H') :
  eY (dX (iF (fun x y H Q=>∃l b xs zs,x = .ref l/\y = .ref b/\ak K H l xs/\ak K H b zs/\xs.length+zs.length<=sizeLine/\∀p,H p=none->Q (.ref p) (upd H p (.lst (xs++zs))))
   (iF (fun x y H Q=>∃l b xs zs,x = .ref l/\y = .ref b/\ak K H l xs/\ak K H b zs/\xs.length+zs.length<=sizeLine/\∀p,H p=none->Q (.ref p) (upd H p (.lst (xs++zs))))
    (iF (fun x y H Q=>∃l b xs zs,x = .ref l/\y = .ref b/\ak K H l xs/\ak K H b zs/\xs.length+zs.length<=sizeLine/\∀p,H p=none->Q (.ref p) (upd H p (.lst (xs++zs)))) (cJ a) (zP (oX K) (cJ g) zN (zO (iF (nW fun i j=>.int (i+j)) (cJ i) (tC (.int 1)))))) (fX (oS (cJ x) gZ)))
   (zP (oX K) (cJ g) (zO (iF (nW fun i j=>.int (i+j)) (cJ i) (tC (.int 1)))) zN)) (bM j)) u E0 σ H:=by
 have e1:bN (ls.map V.str) none (some ((n:Int)+1))=(ls.take (n+1)).map V.str:=by
  rw[show ((n:Int)+1)=((n+1:Nat):Int) by omega,KH (by rw[List.length_map];exact hn),List.map_take]
 have e2:bN (ls.map V.str) (some ((n:Int)+1)) none=(ls.drop (n+1)).map V.str:=by
  rw[show ((n:Int)+1)=((n+1:Nat):Int) by omega,Wo (by rw[List.length_map];exact hn),List.map_drop]
 have l1:(ls.take (n+1)).length<=200:=by rw[List.length_take];omega
 have l2:(ls.drop (n+1)).length<=200:=by rw[List.length_drop];omega
 unfold eY dX;dsimp only;refine⟨_,hL,_,hg,_,hi,_,_,rfl,rfl,_,rfl,D,_,rfl,ak.of hD,fun p1 h1=>?_⟩;rw[e1];have w1:=aa.new (o:=.lst ((ls.take (n+1)).map V.str)) h1;refine⟨L,p1,_,_,rfl,rfl,ak.of (w1 _ _ hM),ak.of zd,cU (by rw[List.length_map,List.length_map];omega),fun p6 h6=>?_⟩;have w6:=aa.new (o:=.lst (ms.map V.str++(ls.take (n+1)).map V.str)) h6;refine⟨_,hx,by show 1<=sizeLine;decide,fun p2 h2=>?_⟩;have w2:=aa.new (o:=.lst [.str y]) h2;refine⟨p6,p2,_,_,rfl,rfl,ak.of (w2 _ _ zd),ak.of zd,cU (by rw[List.length_append,List.length_map,List.length_map];show _+1<=_;omega),fun p3 h3=>?_⟩;have w3:=aa.new (o:=.lst (ms.map V.str++(ls.take (n+1)).map V.str++[.str y])) h3;have Lc:=w1.trans (w6.trans (w2.trans w3));refine⟨_,hg,_,hi,_,_,rfl,rfl,_,rfl,D,_,rfl,ak.of (Lc _ _ hD),fun p4 h4=>?_⟩;rw[e2];have w4:=aa.new (o:=.lst ((ls.drop (n+1)).map V.str)) h4;refine⟨p3,p4,_,_,rfl,rfl,ak.of (w4 _ _ zd),ak.of zd,cU (by rw[List.length_append,List.length_append,List.length_map,List.length_map,List.length_map];show _+_+1+_<=_;omega),fun p5 h5=>?_⟩;refine k p5 _ (Lc.trans (w4.trans (aa.new h5))) ?_;rw[zd];unfold putL;simp only [List.map_append,List.map_cons,List.map_nil,List.append_assoc]
theorem XX {H:Hp}{ls:List Str}(hl:∀l∈ls,l∈vC) (l3:ls.length<=3):j7 H (.str (Txt.join "\n" ls)) 0 .row:=by
 refine .inl ⟨_,rfl,?_⟩;cases ls with
 | nil=>exact⟨by decide +kernel,by decide +kernel,by decide +kernel,.inr ⟨by decide +kernel,rfl,rfl⟩⟩
 | cons l r=>
  obtain⟨a1,a2,a3,a4,_⟩:=yG (ls:=l::r) ⟨(fun z=>nomatch z),by omega,fun x hx=>(yP x (hl x hx)).2⟩;exact⟨a1,a2,a3,.inr ⟨(by rw[a4];exact fun x hx=>(yP x (hl x hx)).1),rfl,rfl⟩⟩
theorem Ld {C:Addr}{H:Hp}{σ:St}{Q:VK}{i:Nat}{n:Nat}(hv:σ[i]? = some (some (.int (n:Int)))) (hn:n<1000) (xg:dj K C) (na:av K C "row") (k:∀H',aa H H'->Q (.int (n:Int)) H'):IC K (IA C (ow C) (oS (cJ i) gZ)) "row" σ H Q:=by
 refine⟨_,hv,fun e he=>?_⟩;refine⟨e,n,rfl,zd,hn,fun d nd hd=>⟨rfl,some d,zd,?_⟩⟩;refine⟨e,C,d,_,_,rfl,zd,by rw[aJ nd,zd],xg,na,rfl,k _ fun b o hb=>?_⟩;have n1:=cI hb he;rw[aJ nd] at hd;rw[aJ n1,aJ (cI hb hd),aJ n1];exact hb
def yQ:Nat:=12
def nP:Sp:=fun vs H Q _=>∃(a:Addr) (ns:List Int),vs = [.ref a]/\ak K H a (ns.map V.int)/\ns.length<=63/\∀H',Q (.bl true) H'
set_option maxHeartbeats 16000000 in
theorem yR (T:Tx K mg w C_Reading zo zi zn ze zb zf zc zg zad zw zae zx zaf zy):fh P w K mg base "law" ["_law_script"] yQ (nP (K:=K)):=by
 refine T.Uy.has bE (fun vs H Q E h=>?_) (fun f ay A outer s H vs Q E hr h=>?_)
 ·obtain⟨a,ns,rfl,_⟩:=h;rfl
 ·obtain⟨a,ns,rfl,ha,hl,k⟩:=h;have bL:zj (top 51) = [((zj (top 51)).getD 0 (.Pass ⟨0,0,0,0⟩)),((zj (top 51)).getD 1 (.Pass ⟨0,0,0,0⟩)),((zj (top 51)).getD 2 (.Pass ⟨0,0,0,0⟩)),((zj (top 51)).getD 3 (.Pass ⟨0,0,0,0⟩)),((zj (top 51)).getD 4 (.Pass ⟨0,0,0,0⟩)),((zj (top 51)).getD 5 (.Pass ⟨0,0,0,0⟩)),((zj (top 51)).getD 6 (.Pass ⟨0,0,0,0⟩)),((zj (top 51)).getD 7 (.Pass ⟨0,0,0,0⟩)),((zj (top 51)).getD 8 (.Pass ⟨0,0,0,0⟩)),((zj (top 51)).getD 9 (.Pass ⟨0,0,0,0⟩)),((zj (top 51)).getD 10 (.Pass ⟨0,0,0,0⟩)),((zj (top 51)).getD 11 (.Pass ⟨0,0,0,0⟩)),((zj (top 51)).getD 12 (.Pass ⟨0,0,0,0⟩)),((zj (top 51)).getD 13 (.Pass ⟨0,0,0,0⟩)),((zj (top 51)).getD 14 (.Pass ⟨0,0,0,0⟩)),((zj (top 51)).getD 15 (.Pass ⟨0,0,0,0⟩))]:=by kernel_rfl
  rw[bL];have fO:PS (aA bJ P w K mg base ["_law_script","_law_names_here","_law_marks","_law_frame_here","_law_units","_law_ties","_law_finds","_law_rows","_law_cell","_law_lead","_law_good","_law_at","_law_line_here","_law_way","_law_wrong_here","_law_none"] "law" (zm (top 51)) f ay A outer s H E).bX ((zj (top 51)).getD 0 (.Pass ⟨0,0,0,0⟩)) _:=(@bQ _ _ 1 _ _ _ _ bE.nd rfl (Or.inl rfl) (@b9 _ _ _ _ _ _ _ _ _ _ (Ju T) (hr.mono (by decide)) (by rfl) (@za _ _ _ _ _ (@b9 _ _ _ _ _ _ _ _ _ _ (qG T) (hr.mono (by decide)) (by rfl) (@za _ _ _ _ _ (pv 0) (@za _ _ _ _ _ (@zr _ _ _ _) (@zh _) (by rfl)) (by rfl)) (by decide) (by rfl) (by rfl)) (@za _ _ _ _ _ (@b9 _ _ _ _ _ _ _ _ _ _ (qG T) (hr.mono (by decide)) (by rfl) (@za _ _ _ _ _ (pv 0) (@za _ _ _ _ _ (@zr _ _ _ _) (@zh _) (by rfl)) (by rfl)) (by decide) (by rfl) (by rfl)) (@za _ _ _ _ _ (@zr _ _ _ _) (@zh _) (by rfl)) (by rfl)) (by rfl)) (by decide) (by rfl) (by rfl)) (by rfl) (by first | exact .inl rfl | exact .inr rfl | assumption));have fP:PS (aA bJ P w K mg base ["_law_script","_law_names_here","_law_marks","_law_frame_here","_law_units","_law_ties","_law_finds","_law_rows","_law_cell","_law_lead","_law_good","_law_at","_law_line_here","_law_way","_law_wrong_here","_law_none"] "law" (zm (top 51)) f ay A outer s H E).bX ((zj (top 51)).getD 1 (.Pass ⟨0,0,0,0⟩)) _:=(@bQ _ _ 2 _ _ _ _ bE.nd rfl (Or.inl rfl) (@b9 _ _ _ _ _ _ _ _ _ _ (Ju T) (hr.mono (by decide)) (by rfl) (@za _ _ _ _ _ (@b9 _ _ _ _ _ _ _ _ _ _ (qG T) (hr.mono (by decide)) (by rfl) (@za _ _ _ _ _ (pv 0) (@za _ _ _ _ _ (@zr _ _ _ _) (@zh _) (by rfl)) (by rfl)) (by decide) (by rfl) (by rfl)) (@za _ _ _ _ _ (@b9 _ _ _ _ _ _ _ _ _ _ (qG T) (hr.mono (by decide)) (by rfl) (@za _ _ _ _ _ (pv 0) (@za _ _ _ _ _ (@zr _ _ _ _) (@zh _) (by rfl)) (by rfl)) (by decide) (by rfl) (by rfl)) (@za _ _ _ _ _ (@zr _ _ _ _) (@zh _) (by rfl)) (by rfl)) (by rfl)) (by decide) (by rfl) (by rfl)) (by rfl) (by first | exact .inl rfl | exact .inr rfl | assumption));have fQ:PS (aA bJ P w K mg base ["_law_script","_law_names_here","_law_marks","_law_frame_here","_law_units","_law_ties","_law_finds","_law_rows","_law_cell","_law_lead","_law_good","_law_at","_law_line_here","_law_way","_law_wrong_here","_law_none"] "law" (zm (top 51)) f ay A outer s H E).bX ((zj (top 51)).getD 2 (.Pass ⟨0,0,0,0⟩)) _:=(@bQ _ _ 3 _ _ _ _ bE.nd rfl (Or.inl rfl) (@b9 _ _ _ _ _ _ _ _ _ _ (U1 T) (hr.mono (by decide)) (by rfl) (@za _ _ _ _ _ (@b9 _ _ _ _ _ _ _ _ _ _ (qG T) (hr.mono (by decide)) (by rfl) (@za _ _ _ _ _ (pv 0) (@za _ _ _ _ _ (@zr _ _ _ _) (@zh _) (by rfl)) (by rfl)) (by decide) (by rfl) (by rfl)) (@zh _) (by rfl)) (by decide) (by rfl) (by rfl)) (by rfl) (by first | exact .inl rfl | exact .inr rfl | assumption));have gR:PS (aA bJ P w K mg base ["_law_script","_law_names_here","_law_marks","_law_frame_here","_law_units","_law_ties","_law_finds","_law_rows","_law_cell","_law_lead","_law_good","_law_at","_law_line_here","_law_way","_law_wrong_here","_law_none"] "law" (zm (top 51)) f ay A outer s H E).bX ((zj (top 51)).getD 3 (.Pass ⟨0,0,0,0⟩)) _:=(@Bp _ _ _ _ _ _ (@b9 _ _ _ _ _ _ _ _ _ _ (U4 T) (hr.mono (by decide)) (by rfl) (@za _ _ _ _ _ (pv 1) (@za _ _ _ _ _ (pv 2) (@za _ _ _ _ _ (@jT _ _ _ _ _ _ _ _ _ _ (@sI _ K rfl) (pv 0) (@jK _ _ _ (@zr _ _ _ _)) (@jK _ _ _ (@zr _ _ _ _))) (@zh _) (by rfl)) (by rfl)) (by rfl)) (by decide) (by rfl) (by rfl)) (@sL _ K rfl _ _ _ _ _ rfl (@j9 _ _ _ _ _ (@d9 _ _ 4 _ bE.nd rfl (Or.inl rfl) (by first | exact .inl rfl | exact .inr rfl | assumption)) (@j9 _ _ _ _ _ (@d9 _ _ 5 _ bE.nd rfl (Or.inl rfl) (by first | exact .inl rfl | exact .inr rfl | assumption)) (@j9 _ _ _ _ _ (@d9 _ _ 6 _ bE.nd rfl (Or.inl rfl) (by first | exact .inl rfl | exact .inr rfl | assumption)) (@j9 _ _ _ _ _ (@d9 _ _ 7 _ bE.nd rfl (Or.inl rfl) (by first | exact .inl rfl | exact .inr rfl | assumption)) (@rF _) (by rfl)) (by rfl)) (by rfl)) (by rfl)) (by rfl) (by rfl)) (by rfl) (by rfl) (by rfl));have jE:PS (aA bJ P w K mg base ["_law_script","_law_names_here","_law_marks","_law_frame_here","_law_units","_law_ties","_law_finds","_law_rows","_law_cell","_law_lead","_law_good","_law_at","_law_line_here","_law_way","_law_wrong_here","_law_none"] "law" (zm (top 51)) f ay A outer s H E).bX ((zj (top 51)).getD 4 (.Pass ⟨0,0,0,0⟩)) _:=(@bQ _ _ 8 _ _ _ _ bE.nd rfl (Or.inr rfl) (@b9 _ _ _ _ _ _ _ _ _ _ (qG T) (hr.mono (by decide)) (by rfl) (@za _ _ _ _ _ (pv 0) (@za _ _ _ _ _ (@zr _ _ _ _) (@zh _) (by rfl)) (by rfl)) (by decide) (by rfl) (by rfl)) (by rfl) (by first | exact .inl rfl | exact .inr rfl | assumption));have nO:PS (aA bJ P w K mg base ["_law_script","_law_names_here","_law_marks","_law_frame_here","_law_units","_law_ties","_law_finds","_law_rows","_law_cell","_law_lead","_law_good","_law_at","_law_line_here","_law_way","_law_wrong_here","_law_none"] "law" (zm (top 51)) f ay A outer s H E).bX ((zj (top 51)).getD 5 (.Pass ⟨0,0,0,0⟩)) _:=(@sE _ _ _ _ _ _ _ ["_law_k"] ["_law_cell"] [8] _ _ _ _ (zm (top 51)) 9 _ _ _ rfl bE.nd rfl rfl rfl ⟨rfl,by decide +kernel,by decide +kernel,by decide +kernel,by decide +kernel⟩ rfl (@zB _ _ _ _ _ _ (by rfl) T.range (@za _ _ _ _ _ (@ao _ _ _ _ _ _ _ _ (@gz _) (pv 8) (@zr _ _ _ _)) (@zh _) (by rfl)) (by rfl)) (fun _ _ _ _=>@d9 _ _ 0 _ (show List.Nodup (["_law_k","_law_cell"]:List Str) by decide +kernel) rfl (Or.inl rfl) (by first | exact .inl rfl | exact .inr rfl | assumption)) (fun _ _ _ _=>@m8 _) (fun _ _ _ _=>(@bI _ _ _ _ _ _ _ (@cT _ K rfl) (@dm _ _ _ _ (@za _ _ _ _ _ (@zp _ _ _ _) (@za _ _ _ _ _ (@zp _ _ _ _) (@za _ _ _ _ _ (@zp _ _ _ _) (@za _ _ _ _ _ (@zp _ _ _ _) (@zh _) (by rfl)) (by rfl)) (by rfl)) (by rfl))) (@ao _ _ _ _ _ _ _ _ (@gz _) (@ao _ _ _ _ _ _ _ _ (@jG _) (pv 1) (pv 0)) (@zr _ _ _ _)) (fun _ _=>rfl))) (by intro _;rfl) (by rfl));have uq:PS (aA bJ P w K mg base ["_law_script","_law_names_here","_law_marks","_law_frame_here","_law_units","_law_ties","_law_finds","_law_rows","_law_cell","_law_lead","_law_good","_law_at","_law_line_here","_law_way","_law_wrong_here","_law_none"] "law" (zm (top 51)) f ay A outer s H E).bX ((zj (top 51)).getD 6 (.Pass ⟨0,0,0,0⟩)) _:=(@sE _ _ _ _ _ _ _ ["_law_row"] [] [] _ _ _ _ (zm (top 51)) 10 _ _ _ rfl bE.nd rfl rfl rfl ⟨rfl,by decide +kernel,by decide +kernel,by decide +kernel,by decide +kernel⟩ rfl (@lR _ _ K rfl _ _ (@ao _ _ _ _ _ _ _ _ (@jz _ K rfl) (@dm _ _ _ _ (@za _ _ _ _ _ (@ao _ _ _ _ _ _ _ _ (@n9 _ K rfl) (@dJ _ _ _ _ _ (@za _ _ _ _ _ (@zp _ _ _ _) (@zh _) (by rfl))) (pv 3)) (@zh _) (by rfl))) (pv 7))) (fun _ _ _ _=>@d9 _ _ 0 _ (show List.Nodup (["_law_row"]:List Str) by decide +kernel) rfl (Or.inl rfl) (by first | exact .inl rfl | exact .inr rfl | assumption)) (fun _ _ _ _=>@m8 _) (fun _ _ _ _=>(@b9 _ _ _ _ _ _ _ _ _ _ (JD T) (hr.mono (by decide)) (by rfl) (@za _ _ _ _ _ (pv 0) (@zh _) (by rfl)) (by decide) (by rfl) (by rfl))) (by intro _;rfl) (by rfl));have uu:PS (aA bJ P w K mg base ["_law_script","_law_names_here","_law_marks","_law_frame_here","_law_units","_law_ties","_law_finds","_law_rows","_law_cell","_law_lead","_law_good","_law_at","_law_line_here","_law_way","_law_wrong_here","_law_none"] "law" (zm (top 51)) f ay A outer s H E).bX ((zj (top 51)).getD 7 (.Pass ⟨0,0,0,0⟩)) _:=(@bQ _ _ 11 _ _ _ _ bE.nd rfl (Or.inl rfl) (@ao _ _ _ _ _ _ _ _ (@gz _) (@b9 _ _ _ _ _ _ _ _ _ _ (qG T) (hr.mono (by decide)) (by rfl) (@za _ _ _ _ _ (pv 0) (@za _ _ _ _ _ (@zr _ _ _ _) (@zh _) (by rfl)) (by rfl)) (by decide) (by rfl) (by rfl)) (@ao _ _ _ _ _ _ _ _ (@jG _) (@cW _ _ _ _ _ _ _ _ _ (@jb _ K rfl) (by rfl) T.len boot_len (@za _ _ _ _ _ (pv 7) (@zh _) (by rfl)) (by decide) (by decide) (by rfl) (by rfl)) (@zr _ _ _ _))) (by rfl) (by first | exact .inl rfl | exact .inr rfl | assumption));have uv:PS (aA bJ P w K mg base ["_law_script","_law_names_here","_law_marks","_law_frame_here","_law_units","_law_ties","_law_finds","_law_rows","_law_cell","_law_lead","_law_good","_law_at","_law_line_here","_law_way","_law_wrong_here","_law_none"] "law" (zm (top 51)) f ay A outer s H E).bX ((zj (top 51)).getD 8 (.Pass ⟨0,0,0,0⟩)) _:=(@Bp _ _ _ _ _ _ (@b9 _ _ _ _ _ _ _ _ _ _ (Xu T) (hr.mono (by decide)) (by rfl) (@za _ _ _ _ _ (pv 1) (@za _ _ _ _ _ (@jT _ _ _ _ _ _ _ _ _ _ (@sI _ K rfl) (pv 7) (@kh _) (@jK _ _ _ (pv 11))) (@za _ _ _ _ _ (@ao _ _ _ _ _ _ _ _ (@gz _) (@b9 _ _ _ _ _ _ _ _ _ _ (qG T) (hr.mono (by decide)) (by rfl) (@za _ _ _ _ _ (pv 0) (@za _ _ _ _ _ (@zr _ _ _ _) (@zh _) (by rfl)) (by rfl)) (by decide) (by rfl) (by rfl)) (@ao _ _ _ _ _ _ _ _ (@uP _) (@zr _ _ _ _) (@zr _ _ _ _))) (@zh _) (by rfl)) (by rfl)) (by rfl)) (by decide) (by rfl) (by rfl)) (@sL _ K rfl _ _ _ _ _ rfl (@j9 _ _ _ _ _ (@d9 _ _ 12 _ bE.nd rfl (Or.inl rfl) (by first | exact .inl rfl | exact .inr rfl | assumption)) (@j9 _ _ _ _ _ (@d9 _ _ 13 _ bE.nd rfl (Or.inl rfl) (by first | exact .inl rfl | exact .inr rfl | assumption)) (@rF _) (by rfl)) (by rfl)) (by rfl) (by rfl)) (by rfl) (by rfl) (by rfl));have uw:PS (aA bJ P w K mg base ["_law_script","_law_names_here","_law_marks","_law_frame_here","_law_units","_law_ties","_law_finds","_law_rows","_law_cell","_law_lead","_law_good","_law_at","_law_line_here","_law_way","_law_wrong_here","_law_none"] "law" (zm (top 51)) f ay A outer s H E).bX ((zj (top 51)).getD 9 (.Pass ⟨0,0,0,0⟩)) _:=(@bQ _ _ 14 _ _ _ _ bE.nd rfl (Or.inl rfl) (@ao _ _ _ _ _ _ _ _ (@jz _ K rfl) (@ao _ _ _ _ _ _ _ _ (@jz _ K rfl) (@ao _ _ _ _ _ _ _ _ (@jz _ K rfl) (pv 9) (@jT _ _ _ _ _ _ _ _ _ _ (@sI _ K rfl) (pv 10) (@kh _) (@jK _ _ _ (@ao _ _ _ _ _ _ _ _ (@jG _) (pv 11) (@zr _ _ _ _))))) (@dm _ _ _ _ (@za _ _ _ _ _ (pv 12) (@zh _) (by rfl)))) (@jT _ _ _ _ _ _ _ _ _ _ (@sI _ K rfl) (pv 10) (@jK _ _ _ (@ao _ _ _ _ _ _ _ _ (@jG _) (pv 11) (@zr _ _ _ _))) (@kh _))) (by rfl) (by first | exact .inl rfl | exact .inr rfl | assumption));have kZ:PS (aA bJ P w K mg base ["_law_script","_law_names_here","_law_marks","_law_frame_here","_law_units","_law_ties","_law_finds","_law_rows","_law_cell","_law_lead","_law_good","_law_at","_law_line_here","_law_way","_law_wrong_here","_law_none"] "law" (zm (top 51)) f ay A outer s H E).bX ((zj (top 51)).getD 10 (.Pass ⟨0,0,0,0⟩)) _:=(@cy _ _ _ _ _ _ _ _ (@mw _ _ _ _ (@ly _ _ _ (@b9 _ _ _ _ _ _ _ _ _ _ (D7 T) (hr.mono (by decide)) (by rfl) (@za _ _ _ _ _ (@jW _ K rfl _ _ _ _ _ _ _ _ _ _ _ PySem.F.plainAttrs_str PySem.F.slot_str_join PySem.F.type_str_join (@Ad _ K rfl) (@zp _ _ _ _) (@za _ _ _ _ _ (pv 14) (@zh _) (by rfl)) (by rfl) (by rfl) (by rfl) (by rfl) (by rfl)) (@za _ _ _ _ _ (@ao _ _ _ _ _ _ _ _ (@jG _) (@ao _ _ _ _ _ _ _ _ (@jG _) (@cW _ _ _ _ _ _ _ _ _ (@jb _ K rfl) (by rfl) T.len boot_len (@za _ _ _ _ _ (pv 9) (@zh _) (by rfl)) (by decide) (by decide) (by rfl) (by rfl)) (pv 11)) (@zr _ _ _ _)) (@za _ _ _ _ _ (pv 13) (@zh _) (by rfl)) (by rfl)) (by rfl)) (by decide) (by rfl) (by rfl)) (by intro _;rfl))) (@zv _ _ _ (@cH _ _ _ _ (@mq _ _ _ _))) (@cQ _));have k6:PS (aA bJ P w K mg base ["_law_script","_law_names_here","_law_marks","_law_frame_here","_law_units","_law_ties","_law_finds","_law_rows","_law_cell","_law_lead","_law_good","_law_at","_law_line_here","_law_way","_law_wrong_here","_law_none"] "law" (zm (top 51)) f ay A outer s H E).bX ((zj (top 51)).getD 11 (.Pass ⟨0,0,0,0⟩)) _:=(@Bp _ _ _ _ _ _ (@b9 _ _ _ _ _ _ _ _ _ _ (XO T) (hr.mono (by decide)) (by rfl) (@za _ _ _ _ _ (@ao _ _ _ _ _ _ _ _ (@uO _) (pv 8) (@zr _ _ _ _)) (@zh _) (by rfl)) (by decide) (by rfl) (by rfl)) (@sL _ K rfl _ _ _ _ _ rfl (@j9 _ _ _ _ _ (@d9 _ _ 12 _ bE.nd rfl (Or.inl rfl) (by first | exact .inl rfl | exact .inr rfl | assumption)) (@j9 _ _ _ _ _ (@d9 _ _ 13 _ bE.nd rfl (Or.inl rfl) (by first | exact .inl rfl | exact .inr rfl | assumption)) (@rF _) (by rfl)) (by rfl)) (by rfl) (by rfl)) (by rfl) (by rfl) (by rfl));have uA:PS (aA bJ P w K mg base ["_law_script","_law_names_here","_law_marks","_law_frame_here","_law_units","_law_ties","_law_finds","_law_rows","_law_cell","_law_lead","_law_good","_law_at","_law_line_here","_law_way","_law_wrong_here","_law_none"] "law" (zm (top 51)) f ay A outer s H E).bX ((zj (top 51)).getD 12 (.Pass ⟨0,0,0,0⟩)) _:=(@cy _ _ _ _ _ _ _ _ (@mw _ _ _ _ (@ly _ _ _ (@b9 _ _ _ _ _ _ _ _ _ _ (D7 T) (hr.mono (by decide)) (by rfl) (@za _ _ _ _ _ (@jW _ K rfl _ _ _ _ _ _ _ _ _ _ _ PySem.F.plainAttrs_str PySem.F.slot_str_join PySem.F.type_str_join (@Ad _ K rfl) (@zp _ _ _ _) (@za _ _ _ _ _ (@ao _ _ _ _ _ _ _ _ (@jz _ K rfl) (@ao _ _ _ _ _ _ _ _ (@jz _ K rfl) (pv 9) (@dm _ _ _ _ (@za _ _ _ _ _ (pv 12) (@zh _) (by rfl)))) (@jT _ _ _ _ _ _ _ _ _ _ (@sI _ K rfl) (pv 10) (@jK _ _ _ (@zr _ _ _ _)) (@kh _))) (@zh _) (by rfl)) (by rfl) (by rfl) (by rfl) (by rfl) (by rfl)) (@za _ _ _ _ _ (@ao _ _ _ _ _ _ _ _ (@jG _) (@cW _ _ _ _ _ _ _ _ _ (@jb _ K rfl) (by rfl) T.len boot_len (@za _ _ _ _ _ (pv 9) (@zh _) (by rfl)) (by decide) (by decide) (by rfl) (by rfl)) (@zr _ _ _ _)) (@za _ _ _ _ _ (pv 13) (@zh _) (by rfl)) (by rfl)) (by rfl)) (by decide) (by rfl) (by rfl)) (by intro _;rfl))) (@zv _ _ _ (@cH _ _ _ _ (@mq _ _ _ _))) (@cQ _));have uB:PS (aA bJ P w K mg base ["_law_script","_law_names_here","_law_marks","_law_frame_here","_law_units","_law_ties","_law_finds","_law_rows","_law_cell","_law_lead","_law_good","_law_at","_law_line_here","_law_way","_law_wrong_here","_law_none"] "law" (zm (top 51)) f ay A outer s H E).bX ((zj (top 51)).getD 13 (.Pass ⟨0,0,0,0⟩)) _:=(@bQ _ _ 15 _ _ _ _ bE.nd rfl (Or.inl rfl) (@bI _ _ _ _ _ _ _ (@cT _ K rfl) (@dm _ _ _ _ (@za _ _ _ _ _ (@jW _ K rfl _ _ _ _ _ _ _ _ _ _ _ PySem.F.plainAttrs_str PySem.F.slot_str_join PySem.F.type_str_join (@Ad _ K rfl) (@zp _ _ _ _) (@za _ _ _ _ _ (pv 9) (@zh _) (by rfl)) (by rfl) (by rfl) (by rfl) (by rfl) (by rfl)) (@za _ _ _ _ _ (@vK _ _ _) (@za _ _ _ _ _ (@zr _ _ _ _) (@za _ _ _ _ _ (@dm _ _ _ _ (@za _ _ _ _ _ (@zp _ _ _ _) (@zh _) (by rfl))) (@za _ _ _ _ _ (@dJ _ _ _ _ _ (@za _ _ _ _ _ (@zr _ _ _ _) (@za _ _ _ _ _ (@zr _ _ _ _) (@zh _) (by rfl)) (by rfl))) (@za _ _ _ _ _ (@mq _ _ _ _) (@za _ _ _ _ _ (@zp _ _ _ _) (@zh _) (by rfl)) (by rfl)) (by rfl)) (by rfl)) (by rfl)) (by rfl)) (by rfl))) (@ao _ _ _ _ _ _ _ _ (@gz _) (@ao _ _ _ _ _ _ _ _ (@uO _) (pv 8) (@zr _ _ _ _)) (@zr _ _ _ _)) (fun _ _=>rfl)) (by rfl) (by first | exact .inl rfl | exact .inr rfl | assumption));have uC:PS (aA bJ P w K mg base ["_law_script","_law_names_here","_law_marks","_law_frame_here","_law_units","_law_ties","_law_finds","_law_rows","_law_cell","_law_lead","_law_good","_law_at","_law_line_here","_law_way","_law_wrong_here","_law_none"] "law" (zm (top 51)) f ay A outer s H E).bX ((zj (top 51)).getD 14 (.Pass ⟨0,0,0,0⟩)) _:=(@cy _ _ _ _ _ _ _ _ (@PW.pt _ _ _ (@rA _ _ _ _ _ _ _ (@mw _ _ _ _ (@ly _ _ _ (@b9 _ _ _ _ _ _ _ _ _ _ (D7 T) (hr.mono (by decide)) (by rfl) (@za _ _ _ _ _ (pv 15) (@za _ _ _ _ _ (@zr _ _ _ _) (@za _ _ _ _ _ (@zp _ _ _ _) (@zh _) (by rfl)) (by rfl)) (by rfl)) (by decide) (by rfl) (by rfl)) (by intro _;rfl))) (@rA _ _ _ _ _ _ _ (@cO _ _ _ _ _ _ _ _ (@qf _) (@ID _ _ _ _ _ K rfl (@IB _ _ _ _ _ _ _ _ _ _ _ (Ka T) T.Du (hr.mono (by decide)) (by rfl) T.Dt (by decide) (@za _ _ _ _ _ (pv 11) (@zh _) (by rfl)) (by decide) (by rfl) (by rfl)) rfl) (pv 11) (cK _)) (@vM _ _ _ _ (@cO _ _ _ _ _ _ _ _ (@qf _) (@ID _ _ _ _ _ K rfl (@IB _ _ _ _ _ _ _ _ _ _ _ (XQ T) T.IU (hr.mono (by decide)) (by rfl) T.IT (by decide) (@za _ _ _ _ _ (pv 11) (@zh _) (by rfl)) (by decide) (by rfl) (by rfl)) rfl) (pv 11) (cK _)))))) (@zv _ _ _ (@cH _ _ _ _ (@mq _ _ _ _))) (@cQ _));have uD:PS (aA bJ P w K mg base ["_law_script","_law_names_here","_law_marks","_law_frame_here","_law_units","_law_ties","_law_finds","_law_rows","_law_cell","_law_lead","_law_good","_law_at","_law_line_here","_law_way","_law_wrong_here","_law_none"] "law" (zm (top 51)) f ay A outer s H E).bX ((zj (top 51)).getD 15 (.Pass ⟨0,0,0,0⟩)) _:=(@cH _ _ _ _ (@rN _ _ _ _ _ _ _ _ (@sJ _ K rfl (jX hr)) (@b9 _ _ _ _ _ _ _ _ _ _ (V6 T) (hr.mono (by decide)) (by rfl) (@za _ _ _ _ _ (@jW _ K rfl _ _ _ _ _ _ _ _ _ _ _ PySem.F.plainAttrs_str PySem.F.slot_str_join PySem.F.type_str_join (@Ad _ K rfl) (@zp _ _ _ _) (@za _ _ _ _ _ (@ao _ _ _ _ _ _ _ _ (@jz _ K rfl) (pv 9) (pv 10)) (@zh _) (by rfl)) (by rfl) (by rfl) (by rfl) (by rfl) (by rfl)) (@zh _) (by rfl)) (by decide) (by rfl) (by rfl)) (@dJ _ _ _ _ _ (@za _ _ _ _ _ (pv 3) (@za _ _ _ _ _ (pv 4) (@za _ _ _ _ _ (pv 5) (@za _ _ _ _ _ (pv 6) (@zh _) (by rfl)) (by rfl)) (by rfl)) (by rfl))) (cK _)));generalize ((zj (top 51)).getD 0 (.Pass ⟨0,0,0,0⟩))=kU at fO ⊢;generalize ((zj (top 51)).getD 1 (.Pass ⟨0,0,0,0⟩))=kX at fP ⊢;generalize ((zj (top 51)).getD 2 (.Pass ⟨0,0,0,0⟩))=kY at fQ ⊢;generalize ((zj (top 51)).getD 3 (.Pass ⟨0,0,0,0⟩))=mh at gR ⊢;generalize ((zj (top 51)).getD 4 (.Pass ⟨0,0,0,0⟩))=pU at jE ⊢;generalize ((zj (top 51)).getD 5 (.Pass ⟨0,0,0,0⟩))=yM at nO ⊢;generalize ((zj (top 51)).getD 6 (.Pass ⟨0,0,0,0⟩))=EF at uq ⊢;generalize ((zj (top 51)).getD 7 (.Pass ⟨0,0,0,0⟩))=EG at uu ⊢;generalize ((zj (top 51)).getD 8 (.Pass ⟨0,0,0,0⟩))=EH at uv ⊢;generalize ((zj (top 51)).getD 9 (.Pass ⟨0,0,0,0⟩))=EI at uw ⊢;generalize ((zj (top 51)).getD 10 (.Pass ⟨0,0,0,0⟩))=ux at kZ ⊢;generalize ((zj (top 51)).getD 11 (.Pass ⟨0,0,0,0⟩))=uy at k6 ⊢;generalize ((zj (top 51)).getD 12 (.Pass ⟨0,0,0,0⟩))=EM at uA ⊢;generalize ((zj (top 51)).getD 13 (.Pass ⟨0,0,0,0⟩))=EN at uB ⊢;generalize ((zj (top 51)).getD 14 (.Pass ⟨0,0,0,0⟩))=EO at uC ⊢;generalize ((zj (top 51)).getD 15 (.Pass ⟨0,0,0,0⟩))=ER at uD ⊢;refine⟨_,zk fO (zk fP (zk fQ (zk gR (zk jE (zk nO (zk uq (zk uu (zk uv (zk uw (zk kZ (zk k6 (zk uA (zk uB (zk uC (zv uD))))))))))))))),?_⟩;clear bL fO fP fQ gR jE nO uq uu uv uw kZ k6 uA uB uC uD kU kX kY mh pU yM EF EG EH EI ux uy EM EN EO ER;rw[show L2.start (["_law_script","_law_names_here","_law_marks","_law_frame_here","_law_units","_law_ties","_law_finds","_law_rows","_law_cell","_law_lead","_law_good","_law_at","_law_line_here","_law_way","_law_wrong_here","_law_none"]:List Str) [V.ref a] = [some (V.ref a),none,none,none,none,none,none,none,none,none,none,none,none,none,none,none] from rfl];refine⟨_,rfl,a,ns,_,rfl,ha,by decide,_,rfl,a,ns,_,rfl,ha,by decide,_,_,rfl,fun pn xs H1 x1 x2 x3 fn hn s1=>?_⟩;refine⟨_,rfl,a,ns,_,rfl,s1.seq ha,by decide,_,rfl,a,ns,_,rfl,s1.seq ha,by decide,_,_,rfl,fun pm ms H2 m1 m2 m3 fm hm s2=>?_⟩;have q2:=s1.trans s2;refine⟨_,rfl,a,ns,_,rfl,q2.seq ha,by decide,_,rfl,fun pd lo hi H3 o8 y1 y2 fd hd s3=>?_⟩;have q3:=q2.trans s3;refine⟨_,rfl,_,rfl,_,rfl,_,rfl,_,rfl,a,_,rfl,q3.seq ha,fun pc Le=>?_⟩;have s4:=aa.new (o:=.lst (bN (ns.map V.int) (some 5) (some 45))) Le;have q4:=q3.trans s4;obtain⟨cs,ec,lc⟩:=O9 ns (some 5) (some 45);have hc:upd H3 pc (.lst (bN (ns.map V.int) (some 5) (some 45))) pc=some (.lst (cs.map V.int)):=by rw[zd,ec]
  refine⟨pn,pm,pc,xs,ms,cs,rfl,((s2.trans s3).trans s4).seq (ak.of hn),(s3.trans s4).seq (ak.of hm),ak.of hc,x1,x2,x3,m1,m2,m3,by omega,fun p pu gw pf pr us ts fs rs at' af ar H5 td ex f9 lr ta hp fu ft ff fr qJ AO AQ s5=>?_⟩;have ok:=td.tL (lo:=lo) (hi:=hi) (by omega) y1 y2;have q5:=q4.trans s5;have yS:=(((s2.trans s3).trans s4).trans s5) _ _ hn;have mL:=s5 _ _ (s4 _ _ hd);have u9:us.length<=9:=by
   have:=congrArg List.length ex;rw[List.length_take] at this;omega
  have Ez:rs.length<=63:=by omega
  have gr:=Wr td o8 y1 y2;refine⟨p,_,rfl,aD.of hp,rfl,_,_,rfl,_,_,rfl,_,_,rfl,_,_,rfl,rfl,?_⟩
  try dsimp only [bM,List.set]
  have nQ:=q5.seq ha;clear q4 q3 q2 s5 s4 s3 s2 s1 ec hc hp Le hn hm hd;refine⟨_,rfl,a,ns,_,rfl,nQ,by decide,?_⟩
  try dsimp only [bM,List.set]
  generalize nD ns 3=c;refine⟨_,rfl,_,_,rfl,rfl,(show (0:Int)<4 by decide),_,rfl,by omega,by omega,fun L hL=>?_⟩;have c4:(c%4).toNat<=3:=by omega
  refine vB (F8 (lo:=0) (n:=(c%4).toNat)) (vD c) hL (fun _ _=>trivial) (by rw[List.length_map,List.length_range];omega) (fun v hv H' Q' s q=>?_) (fun H6 s6 e6=>?_)
  ·obtain⟨i,hi,rfl⟩:=List.mem_map.mp hv;refine⟨by show 4<=sizeLine;decide,fun p hp=>?_⟩;exact⟨_,rfl,_,rfl,_,_,rfl,rfl,_,_,rfl,rfl,(show (0:Int)<4 by decide),p,_,_,_,rfl,rfl,ak.of zd,XS c _,q _ (aa.new hp)⟩
  obtain⟨ls,Lf,lK,l3⟩:∃ls:List Str,ls=((List.range (c%4).toNat).map fun i=>V.int (0+(i:Nat))).map (vD c)/\(∀l∈ls,l∈vC)/\ls.length<=3:=⟨_,rfl,fun l hl=>by
   obtain⟨v,_,rfl⟩:=List.mem_map.mp hl;exact XR c v,by rw[List.length_map,List.length_map,List.length_range];exact c4⟩
  rw[←Lf] at e6;clear Lf;have ta:=ta.same s6;have yS:=s6 _ _ yS;have mL:=s6 _ _ mL;have nQ:=s6.seq nQ;clear s6 q5 c4 hL
  try dsimp only [bM,List.set]
  refine⟨(by show 1<=sizeLine;decide),fun c5 XY=>?_⟩;have s6:=aa.new (o:=.tup [.str "dig"]) XY;refine⟨_,rfl,c5,pd,_,_,rfl,rfl,aD.of zd,aD.of (s6 _ _ mL),by simp,(by show 1+2<=sizeLine;decide),fun z=>by simp at z,fun _ c6 XZ=>?_⟩;have s7:=aa.new (o:=.tup ([.str "dig"]++[.int lo,.int hi])) XZ;have e7:upd (upd H6 c5 (.tup [.str "dig"])) c6 (.tup ([.str "dig"]++[.int lo,.int hi])) c6=some (.tup [.str "dig",.int lo,.int hi]):=zd;have q7:=s6.trans s7;generalize upd (upd H6 c5 (.tup [.str "dig"])) c6 (.tup ([.str "dig"]++[.int lo,.int hi]))=H7 at s7 e7 q7;refine⟨(by show 1<=sizeLine;decide),fun c7 X0=>?_⟩;have s8:=aa.new (o:=.lst [.ref c6]) X0;have q8:=q7.trans s8;have DC:=ta.rt.len;refine⟨_,rfl,c7,pr,_,_,rfl,rfl,ak.of zd,ak.of (q8 _ _ ta.r),cU (by simp;omega),fun c8 X3=>?_⟩;have sA:=s8.trans (aa.new (o:=.lst ([.ref c6]++ar.map V.ref)) X3);have eA:upd (upd H7 c7 (.lst [.ref c6])) c8 (.lst ([.ref c6]++ar.map V.ref)) c8=some (.lst ((c6::ar).map V.ref)):=zd;have qA:=q7.trans sA;have gA:=sA _ _ e7;generalize upd (upd H7 c7 (.lst [.ref c6])) c8 (.lst ([.ref c6]++ar.map V.ref))=HA at sA eA qA gA;have eW:aP HA (c6::ar) ([.str "dig",.int lo,.int hi]::rs):=.cons gA (ta.rt.same qA);refine⟨c8,rfl,⟨_,ak.of eA⟩,fun D hD=>?_⟩;refine vB (nj (K:=K) (a:=c8) (xs:=(c6::ar).map V.ref)) (eS HA aW) hD (fun H' s=>ak.of (s _ _ eA)) (by rw[List.length_map,List.length_cons,DC];omega) (fun v hv H' Q' s q=>?_) (fun HB sB hG=>?_)
  ·obtain⟨ad,hm,rfl⟩:=List.mem_map.mp hv;obtain⟨ws,hw,ea⟩:=eW.get hm;obtain⟨x0,r0,rfl,b1,b2,b3⟩:=KI (gr ws hw);refine⟨_,rfl,ad,x0,r0,rfl,aD.of (s _ _ ea),b1,b2,b3,fun Xh pC=>?_⟩;have:=q _ pC;rw[qS ea] at this;exact this
  have eG:((c6::ar).map V.ref).map (eS HA aW)=([.str "dig",.int lo,.int hi]::rs:List (List V)).map aW:=by
   have:∀{as:List Addr}{ws:List (List V)},aP HA as ws->(as.map V.ref).map (eS HA aW)=ws.map aW:=fun {as ws} t=>by
    induction t with
    | nil=>rfl
    | cons h _ ih=>rw[List.map_cons,List.map_cons,List.map_cons,qS h,ih]
   exact this eW
  rw[eG] at hG;have qB:=qA.trans sB;obtain⟨gs,vE⟩:∃gs:List Str,gs=([.str "dig",.int lo,.int hi]::rs:List (List V)).map aW:=⟨_,rfl⟩;rw[←vE] at hG;have lg:gs.length=rs.length+1:=by rw[vE,List.length_map,List.length_cons]
  have ES:∀l∈gs,10 ∉ co l/\l.length<=900:=fun l hl=>by
   rw[vE] at hl;obtain⟨ws,hw,rfl⟩:=List.mem_map.mp hl;exact KJ (gr ws hw)
  have tk:∀n,gs.take (n+1)=aW [.str "dig",.int lo,.int hi]::(rs.take n).map aW:=fun n=>by rw[vE,←List.map_take];rfl
  obtain⟨gt,ET⟩:∃gt,gs=aW [.str "dig",.int lo,.int hi]::gt:=⟨_,vE⟩;clear vE eG eW eA gA sA s8 q8 s7 e7 q7 s6;have ta:=ta.same qB;have yS:=qB _ _ yS;have mL:=qB _ _ mL;have Lg:=qB.seq nQ;have e6:=qB _ _ e6;clear qB sB qA nQ hD
  try dsimp only [bM,List.set]
  refine⟨_,rfl,a,ns,_,rfl,Lg,by decide,_,rfl,pr,_,rfl,.inl (ak.of ta.r),_,_,rfl,rfl,_,_,rfl,rfl,(by omega),?_⟩
  try dsimp only [bM,List.set]
  obtain⟨A,X4,hA⟩:∃A:Nat,nD ns 2%(((ar.map V.ref).length:Int)+1)=(A:Int)/\A<=rs.length:=by
   have h0:=Int.emod_nonneg (nD ns 2) (show (((ar.map V.ref).length:Int)+1)≠0 by omega);have h1:=Int.emod_lt_of_pos (nD ns 2) (show (0:Int)<((ar.map V.ref).length:Int)+1 by omega);rw[List.length_map,DC] at h0 h1 ⊢;exact⟨_,(Int.toNat_of_nonneg h0).symm,by omega⟩
  rw[X4];obtain⟨X5,X6,X7,EU,Ep⟩:=Wn td A;have cA:bN (ar.map V.ref) none (some (A:Int))=(ar.take A).map V.ref:=by rw[KH (by rw[List.length_map];omega),List.map_take]
  refine⟨_,rfl,_,rfl,_,rfl,_,rfl,pr,_,rfl,ak.of ta.r,fun p1 j6=>?_⟩;rw[cA];have w1:=aa.new (o:=.lst ((ar.take A).map V.ref)) j6;refine⟨_,rfl,a,ns,_,rfl,w1.seq Lg,by decide,_,_,rfl,rfl,c9,_,_,rfl,rfl,m9,pn,p1,xs,X5,X6,X7,rs.take A,ar.take A,_,rfl,ak.of (w1 _ _ yS),ak.of zd,KL A (ta.rt.same w1),EU,x1,x3,by omega,Nat.le_trans (XT td EU) f9,by rw[List.length_take];omega,fun d1 la k1 HC sC oF EV=>?_⟩;refine⟨d1,_,rfl,aD.of oF,rfl,_,_,rfl,_,_,rfl,rfl,?_⟩
  try dsimp only [bM,List.set]
  have v2:=w1.trans sC;have X8:=v2 _ _ hG;have Yb:=v2 _ _ e6;refine XW (slot ⟨_,rfl,rfl⟩) (slot ⟨_,rfl,rfl⟩) (slot ⟨_,rfl,rfl⟩) (slot ⟨_,rfl,rfl⟩) Yb X8 (by omega) (by omega) l3 (fun pw HD sD hW=>?_)
  try dsimp only [bM,List.set]
  have v3:=v2.trans sD;have R1:=Reads.refs (A5 lK) (XU EU hA o8 y1 y2 EV (tk A));have Yc:cE (putL gs (A+1) la):=cE.put ES (by omega) ⟨EV.2.2.1,by have:=EV.2.2.2.1;omega⟩;have EW:=Yc.lead (by rw[Ws];omega) lK l3;generalize ls++putL gs (A+1) la=wl at hW R1 EW;obtain⟨j1,j2,j3,j4,j5⟩:=yG EW;have Yd:=v3 _ _ e6;have iA:((ls.map V.str).length:Int)+(A:Int)+2=((ls.length+(A+2):Nat):Int):=by rw[List.length_map];omega
  refine sM false (fun Q' hQ=>?_) (fun Ha sa=>aB ?_)
  ·exact⟨rfl,_,rfl,_,pw,wl,rfl,rfl,ak.of hW,j5,_,rfl,L,_,rfl,.inl (ak.of Yd),_,rfl,_,_,rfl,rfl,_,_,rfl,rfl,_,rfl,_,ls.length+(A+2),k1,by show [_,V.int (((ls.map V.str).length:Int)+(A:Int)+2),_]=_;rw[iA],.inl ⟨_,rfl,j1,j2,j3,.inl (by rw[j4];exact R1)⟩,fun H6 s6=>⟨_,rfl,hQ _ s6⟩⟩
  try unfold nV
  try dsimp only
  clear j1 j2 j3 j4 j5 EW R1 hW;have v4:=v3.trans sa;refine⟨_,rfl,_,_,rfl,rfl,⟨by decide,by decide⟩,_,rfl,fun d3 pW k3 HG sG EJ yT=>?_⟩;refine⟨d3,_,rfl,aD.of EJ,rfl,_,_,rfl,_,_,rfl,rfl,?_⟩
  try dsimp only [bM,List.set]
  have v5:=v4.trans sG;refine sM false (fun Q' hQ=>?_) (fun Hb sb=>aB ?_)
  ·refine⟨rfl,_,rfl,_,rfl,by show 1<=sizeLine;decide,fun p3 jA=>?_⟩;have w3:=aa.new (o:=.lst [.str pW]) jA;refine⟨L,p3,_,_,rfl,rfl,ak.of (w3 _ _ (v5 _ _ e6)),ak.of zd,cU (by rw[List.length_map];show _+1<=_;omega),fun p4 tW=>?_⟩;have w4:=aa.new (o:=.lst (ls.map V.str++[.str pW])) tW;have Ye:=w4 _ _ (w3 _ _ (v5 _ _ hG));refine⟨_,rfl,_,rfl,D,_,rfl,ak.of Ye,fun p5 yj=>?_⟩;have ct:bN (gs.map V.str) (some 1) none=gt.map V.str:=by rw[ET];exact qm
   rw[ct];have w5:=aa.new (o:=.lst (gt.map V.str)) yj;have YU:gt.length=rs.length:=by rw[ET,List.length_cons] at lg;omega
   refine⟨p4,p5,_,_,rfl,rfl,ak.of (w5 _ _ zd),ak.of zd,cU (by rw[List.length_append,List.length_map,List.length_map];show _+1+_<=_;omega),fun p6 qK=>?_⟩;have AH:cE (pW::gt):=⟨by simp,by rw[List.length_cons];omega,fun l hl=>by
    rcases List.mem_cons.mp hl with rfl | hl
    ·exact⟨yT.2.2.1,by have:=yT.2.2.2.1;omega⟩
    ·exact ES l (by rw[ET];exact List.mem_cons_of_mem _ hl)⟩
   have AH:=AH.lead (by rw[List.length_cons];omega) lK l3;obtain⟨i1,i2,i3,i4,i5⟩:=yG AH;have R2:=Reads.refs (A5 lK) (Refs.here (ls:=gt) yT.1 yT.2.2.2.2 yT.2.1);have w6:=w3.trans (w4.trans (w5.trans (aa.new (o:=.lst (ls.map V.str++[.str pW]++gt.map V.str)) qK)));have Yg:upd (upd (upd (upd HG p3 (.lst [.str pW])) p4 (.lst (ls.map V.str++[.str pW]))) p5 (.lst (gt.map V.str))) p6 (.lst (ls.map V.str++[.str pW]++gt.map V.str)) p6=some (.lst ((ls++pW::gt).map V.str)):=by rw[zd,List.map_append,List.map_cons,List.append_assoc];rfl
   exact⟨_,p6,ls++pW::gt,rfl,rfl,ak.of Yg,i5,_,rfl,L,_,rfl,.inl (ak.of (w6 _ _ (v5 _ _ e6))),_,_,rfl,rfl,_,rfl,_,ls.length+1,k3,by show [_,V.int (((ls.map V.str).length:Int)+1),_]=_;rw[List.length_map];rfl,.inl ⟨_,rfl,i1,i2,i3,.inl (by rw[i4];exact R2)⟩,fun H6 s6=>⟨_,rfl,hQ _ (w6.trans s6)⟩⟩
  try unfold nV
  try dsimp only
  have v6:=v5.trans sb;have Yh:=v6 _ _ e6;refine⟨rfl,_,rfl,_,L,ls,rfl,rfl,ak.of Yh,?_,by show 1<=sizeLine;decide,fun p7 D6=>?_⟩
  ·cases hz:ls with
   | nil=>decide +kernel
   | cons l r=>
    rw[←hz];exact (yG (ls:=ls) ⟨(by rw[hz];exact fun z=>nomatch z),by omega,fun x hx=>(yP x (lK x hx)).2⟩).2.2.2.2
  have w7:=aa.new (o:=.lst [.str (Str.ofString "dig 1 2")]) D6;refine⟨by show 2<=sizeLine;decide,fun p8 Yi=>?_⟩;have w8:=aa.new (o:=.tup [.int 1,.int 2]) Yi;refine⟨by show 7<=sizeLine;decide,fun p9 yo=>?_⟩;have w9:=aa.new (o:=.lst [.str (Txt.join "\n" ls),.aL,.int 5,.ref p7,.ref p8,.bl true,.str (Str.ofString ";\n\n ;")]) yo;have e9:upd (upd (upd Hb p7 (.lst [.str (Str.ofString "dig 1 2")])) p8 (.tup [.int 1,.int 2])) p9 (.lst [.str (Txt.join "\n" ls),.aL,.int 5,.ref p7,.ref p8,.bl true,.str (Str.ofString ";\n\n ;")]) p9=some (.lst [.str (Txt.join "\n" ls),.aL,.int 5,.ref p7,.ref p8,.bl true,.str (Str.ofString ";\n\n ;")]):=zd;have e7:=w9 _ _ (w8 _ _ (zd (H:=Hb) (a:=p7) (o:=.lst [.str (Str.ofString "dig 1 2")])));have e8:=w9 _ _ (zd (H:=upd Hb p7 (.lst [.str (Str.ofString "dig 1 2")])) (a:=p8) (o:=.tup [.int 1,.int 2]));have v7:=v6.trans (w7.trans (w8.trans w9));generalize upd (upd (upd Hb p7 (.lst [.str (Str.ofString "dig 1 2")])) p8 (.tup [.int 1,.int 2])) p9 (.lst [.str (Txt.join "\n" ls),.aL,.int 5,.ref p7,.ref p8,.bl true,.str (Str.ofString ";\n\n ;")])=HN at e9 e7 e8 v7;obtain⟨v,ev,hv⟩:∃v,fG [.str (Txt.join "\n" ls),V.aL,.int 5,.ref p7,.ref p8,.bl true,.str (Str.ofString ";\n\n ;")] (c / 40%7)=some v/\j7 HN v 0 .row:=by
   have:c / 40%7=0\/c / 40%7=1\/c / 40%7=2\/c / 40%7=3\/c / 40%7=4\/c / 40%7=5\/c / 40%7=6:=by omega
   rcases this with z | z | z | z | z | z | z<;>rw[z]
   ·exact⟨_,rfl,XX lK l3⟩
   ·exact⟨_,rfl,.inr ⟨.aL,rfl,rfl⟩⟩
   ·exact⟨_,rfl,.inr ⟨.int 5,rfl,rfl⟩⟩
   ·exact⟨_,rfl,.inr ⟨.lst e7,rfl,rfl⟩⟩
   ·exact⟨_,rfl,.inr ⟨.tup e8,rfl,rfl⟩⟩
   ·exact⟨_,rfl,.inr ⟨.bl true,rfl,rfl⟩⟩
   ·exact⟨_,rfl,.inl ⟨_,rfl,by decide +kernel,by decide +kernel,by decide +kernel,.inr ⟨by decide +kernel,rfl,rfl⟩⟩⟩
  refine⟨_,rfl,_,_,rfl,rfl,⟨by decide,by decide⟩,_,_,rfl,rfl,(by decide:(0:Int)<7),p9,_,_,v,rfl,rfl,ak.of e9,ev,?_⟩
  try dsimp only [bM,List.set]
  refine sM false (fun Q' hQ=>?_) (fun Hc sc=>aB ?_)
  ·refine⟨_,rfl,v,0,.row,rfl,hv,fun H6 s6=>⟨_,rfl,aB ?_⟩⟩;refine Ld (n:=A) (slot ⟨_,rfl,rfl⟩) (by omega) T.Jg T.Dv (fun H7 s7=>⟨_,rfl,rfl,_,rfl,?_⟩);rw[decide_eq_true rfl];refine aB ?_;refine Ld (n:=A) (slot ⟨_,rfl,rfl⟩) (by omega) T.Rn T.IV (fun H8 s8=>⟨_,rfl,rfl,_,rfl,?_⟩);rw[decide_eq_true rfl];exact hQ _ (s6.trans (s7.trans s8))
  try unfold nV
  try dsimp only
  have v8:=v7.trans sc;have Yj:cE gs:=⟨(fun z=>by rw[z] at lg;simp at lg),(by omega),ES⟩;have Iu:=Yj.lead (by omega) lK l3;have Rg:Reads ⟨none,[],[],[]⟩ gs ⟨some (lo,hi),us,ts,fs⟩:=by
   have:=tk rs.length;rw[List.take_of_length_le (by omega),List.take_length] at this;rw[this];exact .row (aS.dig o8 y1 y2).words (.dig o8 y1 y2) td.reads
  have Rf:=(A5 lK).append Rg;obtain⟨g1,g2,g3,g4,g5⟩:=yG Iu;refine⟨rfl,_,rfl,_,rfl,L,D,_,_,rfl,rfl,ak.of (v8 _ _ e6),ak.of (v8 _ _ hG),cU (by rw[List.length_map,List.length_map];omega),fun pF Yk=>?_⟩;have wF:=aa.new (o:=.lst (ls.map V.str++gs.map V.str)) Yk;have eF:upd Hc pF (.lst (ls.map V.str++gs.map V.str)) pF=some (.lst ((ls++gs).map V.str)):=by rw[zd,List.map_append]
  refine⟨_,pF,ls++gs,rfl,rfl,ak.of eF,g5,_,⟨some (lo,hi),us,ts,fs⟩,lo,hi,rfl,g1,g2,g3,(show Reads _ (Txt.split (Txt.join "\n" (ls++gs)) "\n") _ by rw[g4];exact Rf),rfl,fun tl gm gu gt gf bt bf YV n1 n2 n3 n4 Yl Ym Yn Yo Yp Yq Yr _ _ _ Ys=>?_⟩;refine⟨_,rfl,_,rfl,_,rfl,_,rfl,(by show 4<=sizeLine;decide),fun pz Yt=>?_⟩;have t9:=aa.new (o:=.tup [.ref pd,.ref pu,.ref gw,.ref pf]) Yt;have qz:=v8.trans (wF.trans (Ys.trans t9));exact⟨tl,pz,true,rfl,rfl,Wt (t9 _ _ Yl) zd (t9 _ _ Ym) (qz _ _ mL) (t9 _ _ Yn) (qz _ _ ta.u) (t9 _ _ Yo) (qz _ _ ta.t) (Yp.same t9) (ta.tt.same qz) (t9 _ _ Yq) (qz _ _ ta.f) (Yr.same t9) (ta.ft.same qz) (fun vs h=>(ok.t.2 vs h).1) (fun vs h=>(ok.f.2 vs h).1),k _⟩
end
end LK05
open PySem PySem.W PyProof.Rows
set_option maxRecDepth 100000 in
set_option maxHeartbeats 0 in
theorem PySem.Challenge.cw_digmatrix_k05_a_wrong_line_holds : PySem.Challenge.rw_digmatrix_k05_a_wrong_line.Holds := by
 w_on;o_law;k_head;(case hw=>w_witness2)
 k_fill
 refine L2.nq (l:=PySem.Challenge.rw_digmatrix_k05_a_wrong_line) (k:=LK05.yQ) (x:="_law_script") (sp:=fun K=>LK05.nP (K:=K)) rfl rfl ⟨rfl,by decide,by decide⟩ (fun w h Y=>PySem.W.kIn_of Y) (fun K H a ns hl hS=>⟨a,ns,rfl,hS,hl,fun _=>rfl⟩) ?F
 case F=>
  intro w mg h KX G
  have T:∃C_Reading,∃zo,∃zi,∃zn,∃ze,∃zb,∃zf,∃zc,∃zg,∃zad,∃zw,∃zae,∃zx,∃zaf,∃zy,LK05.Tx (L2.FZ KX) mg w C_Reading zo zi zn ze zb zf zc zg zad zw zae zx zaf zy:=by
   dsimp only [L2.FZ]
   refine' LK05.Tx.ex ⟨?z0,?z1,?z2,?z3,?z4,?z5,?z6,?z7,?z8,?z9,?z10,?z11,?z12,?z13,?z14,?z15,?z16,?z17,?z18,?z19,?z20,?z21,?z22,?z23,?z24,?z25,?z26,?z27,?z28,?z29,?z30,?z31,?z32,?z33,?z34,?z35,?z36,?z37,?z38,?z39,?z40,?z41,?z42,?z43,?z44,?z45,?z46,?z47,?z48,?z49,?z50,?z51,?z52,?z53,?z54,?z55,?z56,?z57,?z58,?z59,?z60,?z61,?z62,?z63,?z64,?z65,?z66,?z67,?z68,?z69,?z70,?z71,?z72,?z73,?z74,?z75,?z76,?z77,?z78,?z79,?z80,?z81,?z82,?z83,?z84,?z85,?z86,?z87,?z88,?z89,?z90,?z91,?z92,?z93,?z94,?z95,?z96,?z97,?z98,?z99,?z100,?z101,?z102,?z103,?z104,?z105,?z106,?z107,?z108,?z109,?z110,?z111,?z112,?z113,?z114,?z115,?z116,?z117,?z118,?z119,?z120,?z121,?z122,?z123,?z124,?z125,?z126,?z127,?z128,?z129,?z130,?z131,?z132,?z133,?z134,?z135,?z136,?z137,?z138,?z139,?z140,?z141,?z142,?z143,?z144,?z145,?z146,?z147,?z148,?z149,?z150,?z151,?z152,?z153,?z154,?z155,?z156,?z157,?z158,?z159,?z160,?z161,?z162,?z163,?z164,?z165,?z166,?z167,?z168,?z169,?z170,?z171,?z172,?z173,?z174,?z175,?z176,?z177,?z178,?z179,?z180,?z181,?z182,?z183,?z184,?z185,?z186,?z187,?z188,?z189,?z190,?z191,?z192,?z193,?z194,?z195,?z196,?z197,?z198,?z199,?z200,?z201,?z202,?z203,?z204,?z205,?z206,?z207,?z208⟩
   case z0=>refine' L2.aV KX G ?x0;(case x0=>k_is)
   case z1=>refine' ⟨?x1,?y1,?u1,?v1⟩;(case x1=>k_is);(case y1=>k_is);(case u1=>k_is);(case v1=>k_is)
   case z2=>k_is
   case z3=>k_is
   case z4=>(unfold L2.av;k_is)
   case z5=>(unfold L2.av;k_is)
   case z6=>(unfold L2.av;k_is)
   case z7=>(unfold L2.av;k_is)
   case z8=>refine' L2.bU (fun _ _ _ _ _ _=>L2.ie fun _=>rfl) ?p8 ?q8 ?r8 ?s8 ?t8;(case p8=>k_is);(case q8=>k_is);(case r8=>k_is);(case s8=>k_is);(case t8=>k_is)
   case z9=>refine' L2.bU (fun _ _ _ _ _ _=>L2.gj fun _ _ _=>rfl) ?p9 ?q9 ?r9 ?s9 ?t9;(case p9=>k_is);(case q9=>k_is);(case r9=>k_is);(case s9=>k_is);(case t9=>k_is)
   case z10=>refine' L2.bU (fun _ _ _ _ _ _=>L2.gj fun _ _ _=>rfl) ?p10 ?q10 ?r10 ?s10 ?t10;(case p10=>k_is);(case q10=>k_is);(case r10=>k_is);(case s10=>k_is);(case t10=>k_is)
   case z11=>refine' L2.bU (fun _ _ _ _ _ _=>L2.gj fun _ _ _=>rfl) ?p11 ?q11 ?r11 ?s11 ?t11;(case p11=>k_is);(case q11=>k_is);(case r11=>k_is);(case s11=>k_is);(case t11=>k_is)
   case z12=>refine' L2.bU (fun _ _ _ _ _ _=>L2.gj fun _ _ _=>rfl) ?p12 ?q12 ?r12 ?s12 ?t12;(case p12=>k_is);(case q12=>k_is);(case r12=>k_is);(case s12=>k_is);(case t12=>k_is)
   case z13=>refine' L2.bU (fun _ _ _ _ _ _=>L2.gj fun _ _ _=>rfl) ?p13 ?q13 ?r13 ?s13 ?t13;(case p13=>k_is);(case q13=>k_is);(case r13=>k_is);(case s13=>k_is);(case t13=>k_is)
   case z14=>refine' L2.bU (fun _ _ _ _ _ _=>L2.gj fun _ _ _=>rfl) ?p14 ?q14 ?r14 ?s14 ?t14;(case p14=>k_is);(case q14=>k_is);(case r14=>k_is);(case s14=>k_is);(case t14=>k_is)
   case z15=>refine' L2.bU (fun _ _ _ _ _ _=>L2.ie fun _=>rfl) ?p15 ?q15 ?r15 ?s15 ?t15;(case p15=>k_is);(case q15=>k_is);(case r15=>k_is);(case s15=>k_is);(case t15=>k_is)
   case z16=>refine' L2.aV KX G ?x16;(case x16=>k_is)
   case z17=>refine' ⟨?x17,?y17,?u17⟩;(case x17=>k_is);(case y17=>k_is);(case u17=>k_is)
   case z18=>refine' L2.aV KX G ?x18;(case x18=>k_is)
   case z19=>refine' ⟨?x19,?y19,?u19⟩;(case x19=>k_is);(case y19=>k_is);(case u19=>k_is)
   case z20=>refine' L2.dP ?x20 ?y20 ?u20 ?v20;(case x20=>k_is);(case y20=>rfl);(case u20=>k_is);(case v20=>k_is)
   case z21=>refine' L2.fL ?x21 ?y21;(case x21=>k_is);(case y21=>rfl)
   case z22=>refine' ⟨?x22,?y22,?u22,?v22⟩;(case x22=>k_is);(case y22=>k_is);(case u22=>k_is);(case v22=>k_is)
   case z23=>refine' L2.bU (fun _ _ _ _ _ _=>L2.fK fun _ _=>rfl) ?p23 ?q23 ?r23 ?s23 ?t23;(case p23=>k_is);(case q23=>k_is);(case r23=>k_is);(case s23=>k_is);(case t23=>k_is)
   case z24=>(unfold L2.av;k_is)
   case z25=>refine' L2.aV KX G ?x25;(case x25=>k_is)
   case z26=>refine' L2.dP ?x26 ?y26 ?u26 ?v26;(case x26=>k_is);(case y26=>rfl);(case u26=>k_is);(case v26=>k_is)
   case z27=>refine' L2.fL ?x27 ?y27;(case x27=>k_is);(case y27=>rfl)
   case z28=>refine' ⟨?x28,?y28,?u28,?v28⟩;(case x28=>k_is);(case y28=>k_is);(case u28=>k_is);(case v28=>k_is)
   case z29=>refine' ⟨?x29,?y29,?u29,?v29⟩;(case x29=>k_is);(case y29=>k_is);(case u29=>k_is);(case v29=>k_is)
   case z30=>refine' L2.bU (fun _ _ _ _ _ _=>L2.fK fun _ _=>rfl) ?p30 ?q30 ?r30 ?s30 ?t30;(case p30=>k_is);(case q30=>k_is);(case r30=>k_is);(case s30=>k_is);(case t30=>k_is)
   case z31=>(unfold L2.av;k_is)
   case z32=>refine' L2.aV KX G ?x32;(case x32=>k_is)
   case z33=>refine' L2.dP ?x33 ?y33 ?u33 ?v33;(case x33=>k_is);(case y33=>rfl);(case u33=>k_is);(case v33=>k_is)
   case z34=>refine' L2.fL ?x34 ?y34;(case x34=>k_is);(case y34=>rfl)
   case z35=>refine' ⟨?x35,?y35,?u35,?v35⟩;(case x35=>k_is);(case y35=>k_is);(case u35=>k_is);(case v35=>k_is)
   case z36=>refine' ⟨?x36,?y36,?u36,?v36⟩;(case x36=>k_is);(case y36=>k_is);(case u36=>k_is);(case v36=>k_is)
   case z37=>refine' L2.bU (fun _ _ _ _ _ _=>L2.fK fun _ _=>rfl) ?p37 ?q37 ?r37 ?s37 ?t37;(case p37=>k_is);(case q37=>k_is);(case r37=>k_is);(case s37=>k_is);(case t37=>k_is)
   case z38=>(unfold L2.av;k_is)
   case z39=>refine' L2.aV KX G ?x39;(case x39=>k_is)
   case z40=>refine' L2.dP ?x40 ?y40 ?u40 ?v40;(case x40=>k_is);(case y40=>rfl);(case u40=>k_is);(case v40=>k_is)
   case z41=>refine' L2.fL ?x41 ?y41;(case x41=>k_is);(case y41=>rfl)
   case z42=>refine' ⟨?x42,?y42,?u42,?v42⟩;(case x42=>k_is);(case y42=>k_is);(case u42=>k_is);(case v42=>k_is)
   case z43=>refine' ⟨?x43,?y43,?u43,?v43⟩;(case x43=>k_is);(case y43=>k_is);(case u43=>k_is);(case v43=>k_is)
   case z44=>refine' L2.bU (fun _ _ _ _ _ _=>L2.fK fun _ _=>rfl) ?p44 ?q44 ?r44 ?s44 ?t44;(case p44=>k_is);(case q44=>k_is);(case r44=>k_is);(case s44=>k_is);(case t44=>k_is)
   case z45=>(unfold L2.av;k_is)
   case z46=>refine' L2.aV KX G ?x46;(case x46=>k_is)
   case z47=>refine' L2.dP ?x47 ?y47 ?u47 ?v47;(case x47=>k_is);(case y47=>rfl);(case u47=>k_is);(case v47=>k_is)
   case z48=>refine' L2.fL ?x48 ?y48;(case x48=>k_is);(case y48=>rfl)
   case z49=>refine' ⟨?x49,?y49,?u49,?v49⟩;(case x49=>k_is);(case y49=>k_is);(case u49=>k_is);(case v49=>k_is)
   case z50=>refine' ⟨?x50,?y50,?u50,?v50⟩;(case x50=>k_is);(case y50=>k_is);(case u50=>k_is);(case v50=>k_is)
   case z51=>refine' L2.bU (fun _ _ _ _ _ _=>L2.fK fun _ _=>rfl) ?p51 ?q51 ?r51 ?s51 ?t51;(case p51=>k_is);(case q51=>k_is);(case r51=>k_is);(case s51=>k_is);(case t51=>k_is)
   case z52=>(unfold L2.av;k_is)
   case z53=>refine' L2.aV KX G ?x53;(case x53=>k_is)
   case z54=>refine' L2.dP ?x54 ?y54 ?u54 ?v54;(case x54=>k_is);(case y54=>rfl);(case u54=>k_is);(case v54=>k_is)
   case z55=>refine' L2.fL ?x55 ?y55;(case x55=>k_is);(case y55=>rfl)
   case z56=>refine' ⟨?x56,?y56,?u56,?v56⟩;(case x56=>k_is);(case y56=>k_is);(case u56=>k_is);(case v56=>k_is)
   case z57=>refine' ⟨?x57,?y57,?u57,?v57⟩;(case x57=>k_is);(case y57=>k_is);(case u57=>k_is);(case v57=>k_is)
   case z58=>refine' L2.bU (fun _ _ _ _ _ _=>L2.fK fun _ _=>rfl) ?p58 ?q58 ?r58 ?s58 ?t58;(case p58=>k_is);(case q58=>k_is);(case r58=>k_is);(case s58=>k_is);(case t58=>k_is)
   case z59=>(unfold L2.av;k_is)
   case z60=>refine' L2.aV KX G ?x60;(case x60=>k_is)
   case z61=>refine' L2.dP ?x61 ?y61 ?u61 ?v61;(case x61=>k_is);(case y61=>rfl);(case u61=>k_is);(case v61=>k_is)
   case z62=>refine' L2.fL ?x62 ?y62;(case x62=>k_is);(case y62=>rfl)
   case z63=>refine' ⟨?x63,?y63,?u63,?v63⟩;(case x63=>k_is);(case y63=>k_is);(case u63=>k_is);(case v63=>k_is)
   case z64=>refine' ⟨?x64,?y64,?u64,?v64⟩;(case x64=>k_is);(case y64=>k_is);(case u64=>k_is);(case v64=>k_is)
   case z65=>refine' L2.bU (fun _ _ _ _ _ _=>L2.fK fun _ _=>rfl) ?p65 ?q65 ?r65 ?s65 ?t65;(case p65=>k_is);(case q65=>k_is);(case r65=>k_is);(case s65=>k_is);(case t65=>k_is)
   case z66=>(unfold L2.av;k_is)
   case z67=>refine' L2.aV KX G ?x67;(case x67=>k_is)
   case z68=>refine' L2.aV KX G ?x68;(case x68=>k_is)
   case z69=>refine' L2.aV KX G ?x69;(case x69=>k_is)
   case z70=>refine' L2.aV KX G ?x70;(case x70=>k_is)
   case z71=>refine' L2.aV KX G ?x71;(case x71=>k_is)
   case z72=>refine' L2.aV KX G ?x72;(case x72=>k_is)
   case z73=>k_is
   case z74=>k_is
   case z75=>k_is
   case z76=>k_is
   case z77=>k_is
   case z78=>k_is
   case z79=>refine' L2.ah ?x79 ?y79 ?u79 ?v79;(case x79=>k_is);(case y79=>k_is);(case u79=>k_is);(case v79=>first | exact fun _=>rfl | exact fun h=>absurd h (by decide))
   case z80=>refine' L2.ah ?x80 ?y80 ?u80 ?v80;(case x80=>k_is);(case y80=>k_is);(case u80=>k_is);(case v80=>first | exact fun _=>rfl | exact fun h=>absurd h (by decide))
   case z81=>refine' L2.ah ?x81 ?y81 ?u81 ?v81;(case x81=>k_is);(case y81=>k_is);(case u81=>k_is);(case v81=>first | exact fun _=>rfl | exact fun h=>absurd h (by decide))
   case z82=>refine' L2.ah ?x82 ?y82 ?u82 ?v82;(case x82=>k_is);(case y82=>k_is);(case u82=>k_is);(case v82=>first | exact fun _=>rfl | exact fun h=>absurd h (by decide))
   case z83=>refine' L2.ah ?x83 ?y83 ?u83 ?v83;(case x83=>k_is);(case y83=>k_is);(case u83=>k_is);(case v83=>first | exact fun _=>rfl | exact fun h=>absurd h (by decide))
   case z84=>refine' L2.ah ?x84 ?y84 ?u84 ?v84;(case x84=>k_is);(case y84=>k_is);(case u84=>k_is);(case v84=>first | exact fun _=>rfl | exact fun h=>absurd h (by decide))
   case z85=>refine' L2.ah ?x85 ?y85 ?u85 ?v85;(case x85=>k_is);(case y85=>k_is);(case u85=>k_is);(case v85=>first | exact fun _=>rfl | exact fun h=>absurd h (by decide))
   case z86=>refine' L2.eU L2.aZ ?x86;(case x86=>k_is)
   case z87=>refine' L2.ah ?x87 ?y87 ?u87 ?v87;(case x87=>k_is);(case y87=>k_is);(case u87=>k_is);(case v87=>first | exact fun _=>rfl | exact fun h=>absurd h (by decide))
   case z88=>refine' L2.ah ?x88 ?y88 ?u88 ?v88;(case x88=>k_is);(case y88=>k_is);(case u88=>k_is);(case v88=>first | exact fun _=>rfl | exact fun h=>absurd h (by decide))
   case z89=>refine' L2.ah ?x89 ?y89 ?u89 ?v89;(case x89=>k_is);(case y89=>k_is);(case u89=>k_is);(case v89=>first | exact fun _=>rfl | exact fun h=>absurd h (by decide))
   case z90=>refine' L2.ah ?x90 ?y90 ?u90 ?v90;(case x90=>k_is);(case y90=>k_is);(case u90=>k_is);(case v90=>first | exact fun _=>rfl | exact fun h=>absurd h (by decide))
   case z91=>refine' L2.ah ?x91 ?y91 ?u91 ?v91;(case x91=>k_is);(case y91=>k_is);(case u91=>k_is);(case v91=>first | exact fun _=>rfl | exact fun h=>absurd h (by decide))
   case z92=>refine' L2.ah ?x92 ?y92 ?u92 ?v92;(case x92=>k_is);(case y92=>k_is);(case u92=>k_is);(case v92=>first | exact fun _=>rfl | exact fun h=>absurd h (by decide))
   case z93=>refine' L2.ah ?x93 ?y93 ?u93 ?v93;(case x93=>k_is);(case y93=>k_is);(case u93=>k_is);(case v93=>first | exact fun _=>rfl | exact fun h=>absurd h (by decide))
   case z94=>refine' L2.ah ?x94 ?y94 ?u94 ?v94;(case x94=>k_is);(case y94=>k_is);(case u94=>k_is);(case v94=>first | exact fun _=>rfl | exact fun h=>absurd h (by decide))
   case z95=>refine' L2.ah ?x95 ?y95 ?u95 ?v95;(case x95=>k_is);(case y95=>k_is);(case u95=>k_is);(case v95=>first | exact fun _=>rfl | exact fun h=>absurd h (by decide))
   case z96=>refine' L2.ah ?x96 ?y96 ?u96 ?v96;(case x96=>k_is);(case y96=>k_is);(case u96=>k_is);(case v96=>first | exact fun _=>rfl | exact fun h=>absurd h (by decide))
   case z97=>refine' L2.ah ?x97 ?y97 ?u97 ?v97;(case x97=>k_is);(case y97=>k_is);(case u97=>k_is);(case v97=>first | exact fun _=>rfl | exact fun h=>absurd h (by decide))
   case z98=>refine' L2.ah ?x98 ?y98 ?u98 ?v98;(case x98=>k_is);(case y98=>k_is);(case u98=>k_is);(case v98=>first | exact fun _=>rfl | exact fun h=>absurd h (by decide))
   case z99=>refine' L2.ah ?x99 ?y99 ?u99 ?v99;(case x99=>k_is);(case y99=>k_is);(case u99=>k_is);(case v99=>first | exact fun _=>rfl | exact fun h=>absurd h (by decide))
   case z100=>refine' L2.eU L2.aZ ?x100;(case x100=>k_is)
   case z101=>refine' L2.ah ?x101 ?y101 ?u101 ?v101;(case x101=>k_is);(case y101=>k_is);(case u101=>k_is);(case v101=>first | exact fun _=>rfl | exact fun h=>absurd h (by decide))
   case z102=>refine' L2.ah ?x102 ?y102 ?u102 ?v102;(case x102=>k_is);(case y102=>k_is);(case u102=>k_is);(case v102=>first | exact fun _=>rfl | exact fun h=>absurd h (by decide))
   case z103=>refine' L2.ah ?x103 ?y103 ?u103 ?v103;(case x103=>k_is);(case y103=>k_is);(case u103=>k_is);(case v103=>first | exact fun _=>rfl | exact fun h=>absurd h (by decide))
   case z104=>refine' L2.ah ?x104 ?y104 ?u104 ?v104;(case x104=>k_is);(case y104=>k_is);(case u104=>k_is);(case v104=>first | exact fun _=>rfl | exact fun h=>absurd h (by decide))
   case z105=>refine' L2.ah ?x105 ?y105 ?u105 ?v105;(case x105=>k_is);(case y105=>k_is);(case u105=>k_is);(case v105=>first | exact fun _=>rfl | exact fun h=>absurd h (by decide))
   case z106=>refine' L2.ah ?x106 ?y106 ?u106 ?v106;(case x106=>k_is);(case y106=>k_is);(case u106=>k_is);(case v106=>first | exact fun _=>rfl | exact fun h=>absurd h (by decide))
   case z107=>refine' L2.ah ?x107 ?y107 ?u107 ?v107;(case x107=>k_is);(case y107=>k_is);(case u107=>k_is);(case v107=>first | exact fun _=>rfl | exact fun h=>absurd h (by decide))
   case z108=>refine' L2.ah ?x108 ?y108 ?u108 ?v108;(case x108=>k_is);(case y108=>k_is);(case u108=>k_is);(case v108=>first | exact fun _=>rfl | exact fun h=>absurd h (by decide))
   case z109=>refine' L2.ah ?x109 ?y109 ?u109 ?v109;(case x109=>k_is);(case y109=>k_is);(case u109=>k_is);(case v109=>first | exact fun _=>rfl | exact fun h=>absurd h (by decide))
   case z110=>refine' L2.ah ?x110 ?y110 ?u110 ?v110;(case x110=>k_is);(case y110=>k_is);(case u110=>k_is);(case v110=>first | exact fun _=>rfl | exact fun h=>absurd h (by decide))
   case z111=>refine' L2.ah ?x111 ?y111 ?u111 ?v111;(case x111=>k_is);(case y111=>k_is);(case u111=>k_is);(case v111=>first | exact fun _=>rfl | exact fun h=>absurd h (by decide))
   case z112=>refine' L2.ah ?x112 ?y112 ?u112 ?v112;(case x112=>k_is);(case y112=>k_is);(case u112=>k_is);(case v112=>first | exact fun _=>rfl | exact fun h=>absurd h (by decide))
   case z113=>refine' L2.ah ?x113 ?y113 ?u113 ?v113;(case x113=>k_is);(case y113=>k_is);(case u113=>k_is);(case v113=>first | exact fun _=>rfl | exact fun h=>absurd h (by decide))
   case z114=>refine' L2.eU L2.aZ ?x114;(case x114=>k_is)
   case z115=>refine' L2.ah ?x115 ?y115 ?u115 ?v115;(case x115=>k_is);(case y115=>k_is);(case u115=>k_is);(case v115=>first | exact fun _=>rfl | exact fun h=>absurd h (by decide))
   case z116=>refine' L2.ah ?x116 ?y116 ?u116 ?v116;(case x116=>k_is);(case y116=>k_is);(case u116=>k_is);(case v116=>first | exact fun _=>rfl | exact fun h=>absurd h (by decide))
   case z117=>refine' L2.ah ?x117 ?y117 ?u117 ?v117;(case x117=>k_is);(case y117=>k_is);(case u117=>k_is);(case v117=>first | exact fun _=>rfl | exact fun h=>absurd h (by decide))
   case z118=>refine' L2.ah ?x118 ?y118 ?u118 ?v118;(case x118=>k_is);(case y118=>k_is);(case u118=>k_is);(case v118=>first | exact fun _=>rfl | exact fun h=>absurd h (by decide))
   case z119=>refine' L2.ah ?x119 ?y119 ?u119 ?v119;(case x119=>k_is);(case y119=>k_is);(case u119=>k_is);(case v119=>first | exact fun _=>rfl | exact fun h=>absurd h (by decide))
   case z120=>refine' L2.ah ?x120 ?y120 ?u120 ?v120;(case x120=>k_is);(case y120=>k_is);(case u120=>k_is);(case v120=>first | exact fun _=>rfl | exact fun h=>absurd h (by decide))
   case z121=>refine' L2.ah ?x121 ?y121 ?u121 ?v121;(case x121=>k_is);(case y121=>k_is);(case u121=>k_is);(case v121=>first | exact fun _=>rfl | exact fun h=>absurd h (by decide))
   case z122=>refine' L2.ah ?x122 ?y122 ?u122 ?v122;(case x122=>k_is);(case y122=>k_is);(case u122=>k_is);(case v122=>first | exact fun _=>rfl | exact fun h=>absurd h (by decide))
   case z123=>refine' L2.ah ?x123 ?y123 ?u123 ?v123;(case x123=>k_is);(case y123=>k_is);(case u123=>k_is);(case v123=>first | exact fun _=>rfl | exact fun h=>absurd h (by decide))
   case z124=>refine' L2.ah ?x124 ?y124 ?u124 ?v124;(case x124=>k_is);(case y124=>k_is);(case u124=>k_is);(case v124=>first | exact fun _=>rfl | exact fun h=>absurd h (by decide))
   case z125=>refine' L2.ah ?x125 ?y125 ?u125 ?v125;(case x125=>k_is);(case y125=>k_is);(case u125=>k_is);(case v125=>first | exact fun _=>rfl | exact fun h=>absurd h (by decide))
   case z126=>refine' L2.ah ?x126 ?y126 ?u126 ?v126;(case x126=>k_is);(case y126=>k_is);(case u126=>k_is);(case v126=>first | exact fun _=>rfl | exact fun h=>absurd h (by decide))
   case z127=>refine' L2.ah ?x127 ?y127 ?u127 ?v127;(case x127=>k_is);(case y127=>k_is);(case u127=>k_is);(case v127=>first | exact fun _=>rfl | exact fun h=>absurd h (by decide))
   case z128=>refine' L2.eU L2.aZ ?x128;(case x128=>k_is)
   case z129=>refine' L2.ah ?x129 ?y129 ?u129 ?v129;(case x129=>k_is);(case y129=>k_is);(case u129=>k_is);(case v129=>first | exact fun _=>rfl | exact fun h=>absurd h (by decide))
   case z130=>refine' L2.ah ?x130 ?y130 ?u130 ?v130;(case x130=>k_is);(case y130=>k_is);(case u130=>k_is);(case v130=>first | exact fun _=>rfl | exact fun h=>absurd h (by decide))
   case z131=>refine' L2.ah ?x131 ?y131 ?u131 ?v131;(case x131=>k_is);(case y131=>k_is);(case u131=>k_is);(case v131=>first | exact fun _=>rfl | exact fun h=>absurd h (by decide))
   case z132=>refine' L2.ah ?x132 ?y132 ?u132 ?v132;(case x132=>k_is);(case y132=>k_is);(case u132=>k_is);(case v132=>first | exact fun _=>rfl | exact fun h=>absurd h (by decide))
   case z133=>refine' L2.ah ?x133 ?y133 ?u133 ?v133;(case x133=>k_is);(case y133=>k_is);(case u133=>k_is);(case v133=>first | exact fun _=>rfl | exact fun h=>absurd h (by decide))
   case z134=>refine' L2.ah ?x134 ?y134 ?u134 ?v134;(case x134=>k_is);(case y134=>k_is);(case u134=>k_is);(case v134=>first | exact fun _=>rfl | exact fun h=>absurd h (by decide))
   case z135=>refine' L2.ah ?x135 ?y135 ?u135 ?v135;(case x135=>k_is);(case y135=>k_is);(case u135=>k_is);(case v135=>first | exact fun _=>rfl | exact fun h=>absurd h (by decide))
   case z136=>refine' L2.ah ?x136 ?y136 ?u136 ?v136;(case x136=>k_is);(case y136=>k_is);(case u136=>k_is);(case v136=>first | exact fun _=>rfl | exact fun h=>absurd h (by decide))
   case z137=>refine' L2.ah ?x137 ?y137 ?u137 ?v137;(case x137=>k_is);(case y137=>k_is);(case u137=>k_is);(case v137=>first | exact fun _=>rfl | exact fun h=>absurd h (by decide))
   case z138=>refine' L2.ah ?x138 ?y138 ?u138 ?v138;(case x138=>k_is);(case y138=>k_is);(case u138=>k_is);(case v138=>first | exact fun _=>rfl | exact fun h=>absurd h (by decide))
   case z139=>refine' L2.ah ?x139 ?y139 ?u139 ?v139;(case x139=>k_is);(case y139=>k_is);(case u139=>k_is);(case v139=>first | exact fun _=>rfl | exact fun h=>absurd h (by decide))
   case z140=>refine' L2.ah ?x140 ?y140 ?u140 ?v140;(case x140=>k_is);(case y140=>k_is);(case u140=>k_is);(case v140=>first | exact fun _=>rfl | exact fun h=>absurd h (by decide))
   case z141=>refine' L2.ah ?x141 ?y141 ?u141 ?v141;(case x141=>k_is);(case y141=>k_is);(case u141=>k_is);(case v141=>first | exact fun _=>rfl | exact fun h=>absurd h (by decide))
   case z142=>refine' L2.eU L2.aZ ?x142;(case x142=>k_is)
   case z143=>refine' L2.ah ?x143 ?y143 ?u143 ?v143;(case x143=>k_is);(case y143=>k_is);(case u143=>k_is);(case v143=>first | exact fun _=>rfl | exact fun h=>absurd h (by decide))
   case z144=>refine' L2.ah ?x144 ?y144 ?u144 ?v144;(case x144=>k_is);(case y144=>k_is);(case u144=>k_is);(case v144=>first | exact fun _=>rfl | exact fun h=>absurd h (by decide))
   case z145=>refine' L2.ah ?x145 ?y145 ?u145 ?v145;(case x145=>k_is);(case y145=>k_is);(case u145=>k_is);(case v145=>first | exact fun _=>rfl | exact fun h=>absurd h (by decide))
   case z146=>refine' L2.ah ?x146 ?y146 ?u146 ?v146;(case x146=>k_is);(case y146=>k_is);(case u146=>k_is);(case v146=>first | exact fun _=>rfl | exact fun h=>absurd h (by decide))
   case z147=>refine' L2.ah ?x147 ?y147 ?u147 ?v147;(case x147=>k_is);(case y147=>k_is);(case u147=>k_is);(case v147=>first | exact fun _=>rfl | exact fun h=>absurd h (by decide))
   case z148=>refine' L2.ah ?x148 ?y148 ?u148 ?v148;(case x148=>k_is);(case y148=>k_is);(case u148=>k_is);(case v148=>first | exact fun _=>rfl | exact fun h=>absurd h (by decide))
   case z149=>refine' L2.ah ?x149 ?y149 ?u149 ?v149;(case x149=>k_is);(case y149=>k_is);(case u149=>k_is);(case v149=>first | exact fun _=>rfl | exact fun h=>absurd h (by decide))
   case z150=>refine' L2.ah ?x150 ?y150 ?u150 ?v150;(case x150=>k_is);(case y150=>k_is);(case u150=>k_is);(case v150=>first | exact fun _=>rfl | exact fun h=>absurd h (by decide))
   case z151=>refine' L2.ah ?x151 ?y151 ?u151 ?v151;(case x151=>k_is);(case y151=>k_is);(case u151=>k_is);(case v151=>first | exact fun _=>rfl | exact fun h=>absurd h (by decide))
   case z152=>refine' L2.ah ?x152 ?y152 ?u152 ?v152;(case x152=>k_is);(case y152=>k_is);(case u152=>k_is);(case v152=>first | exact fun _=>rfl | exact fun h=>absurd h (by decide))
   case z153=>refine' L2.ah ?x153 ?y153 ?u153 ?v153;(case x153=>k_is);(case y153=>k_is);(case u153=>k_is);(case v153=>first | exact fun _=>rfl | exact fun h=>absurd h (by decide))
   case z154=>refine' L2.ah ?x154 ?y154 ?u154 ?v154;(case x154=>k_is);(case y154=>k_is);(case u154=>k_is);(case v154=>first | exact fun _=>rfl | exact fun h=>absurd h (by decide))
   case z155=>refine' L2.ah ?x155 ?y155 ?u155 ?v155;(case x155=>k_is);(case y155=>k_is);(case u155=>k_is);(case v155=>first | exact fun _=>rfl | exact fun h=>absurd h (by decide))
   case z156=>refine' L2.eU L2.aZ ?x156;(case x156=>k_is)
   case z157=>refine' L2.ah ?x157 ?y157 ?u157 ?v157;(case x157=>k_is);(case y157=>k_is);(case u157=>k_is);(case v157=>first | exact fun _=>rfl | exact fun h=>absurd h (by decide))
   case z158=>refine' L2.ah ?x158 ?y158 ?u158 ?v158;(case x158=>k_is);(case y158=>k_is);(case u158=>k_is);(case v158=>first | exact fun _=>rfl | exact fun h=>absurd h (by decide))
   case z159=>refine' L2.ah ?x159 ?y159 ?u159 ?v159;(case x159=>k_is);(case y159=>k_is);(case u159=>k_is);(case v159=>first | exact fun _=>rfl | exact fun h=>absurd h (by decide))
   case z160=>refine' L2.ah ?x160 ?y160 ?u160 ?v160;(case x160=>k_is);(case y160=>k_is);(case u160=>k_is);(case v160=>first | exact fun _=>rfl | exact fun h=>absurd h (by decide))
   case z161=>refine' L2.ah ?x161 ?y161 ?u161 ?v161;(case x161=>k_is);(case y161=>k_is);(case u161=>k_is);(case v161=>first | exact fun _=>rfl | exact fun h=>absurd h (by decide))
   case z162=>refine' L2.ah ?x162 ?y162 ?u162 ?v162;(case x162=>k_is);(case y162=>k_is);(case u162=>k_is);(case v162=>first | exact fun _=>rfl | exact fun h=>absurd h (by decide))
   case z163=>refine' L2.bu KX G (fun _ _ _ _ _ _=>L2.ie fun _=>rfl) ?p163 ?q163 ?r163 ?s163;(case p163=>k_is);(case q163=>k_is);(case r163=>k_is);(case s163=>k_is)
   case z164=>refine' L2.bu KX G (fun _ _ _ _ _ _=>L2.ie fun _=>rfl) ?p164 ?q164 ?r164 ?s164;(case p164=>k_is);(case q164=>k_is);(case r164=>k_is);(case s164=>k_is)
   case z165=>refine' L2.bu KX G (fun _ _ _ _ _ _=>L2.fK fun _ _=>rfl) ?p165 ?q165 ?r165 ?s165;(case p165=>k_is);(case q165=>k_is);(case r165=>k_is);(case s165=>k_is)
   case z166=>refine' L2.bu KX G (fun _ _ _ _ _ _=>L2.ie fun _=>rfl) ?p166 ?q166 ?r166 ?s166;(case p166=>k_is);(case q166=>k_is);(case r166=>k_is);(case s166=>k_is)
   case z167=>refine' L2.bu KX G (fun _ _ _ _ _ _=>L2.ie fun _=>rfl) ?p167 ?q167 ?r167 ?s167;(case p167=>k_is);(case q167=>k_is);(case r167=>k_is);(case s167=>k_is)
   case z168=>refine' L2.bu KX G (fun _ _ _ _ _ _=>L2.fK fun _ _=>rfl) ?p168 ?q168 ?r168 ?s168;(case p168=>k_is);(case q168=>k_is);(case r168=>k_is);(case s168=>k_is)
   case z169=>refine' L2.bu KX G (fun _ _ _ _ _ _=>L2.gj fun _ _ _=>rfl) ?p169 ?q169 ?r169 ?s169;(case p169=>k_is);(case q169=>k_is);(case r169=>k_is);(case s169=>k_is)
   case z170=>refine' L2.bu KX G (fun _ _ _ _ _ _=>L2.gj fun _ _ _=>rfl) ?p170 ?q170 ?r170 ?s170;(case p170=>k_is);(case q170=>k_is);(case r170=>k_is);(case s170=>k_is)
   case z171=>refine' L2.bu KX G (fun _ _ _ _ _ _=>L2.ie fun _=>rfl) ?p171 ?q171 ?r171 ?s171;(case p171=>k_is);(case q171=>k_is);(case r171=>k_is);(case s171=>k_is)
   case z172=>refine' L2.bu KX G (fun _ _ _ _ _ _=>L2.fK fun _ _=>rfl) ?p172 ?q172 ?r172 ?s172;(case p172=>k_is);(case q172=>k_is);(case r172=>k_is);(case s172=>k_is)
   case z173=>refine' L2.bu KX G (fun _ _ _ _ _ _=>L2.gj fun _ _ _=>rfl) ?p173 ?q173 ?r173 ?s173;(case p173=>k_is);(case q173=>k_is);(case r173=>k_is);(case s173=>k_is)
   case z174=>refine' L2.bu KX G (fun _ _ _ _ _ _=>L2.gj fun _ _ _=>rfl) ?p174 ?q174 ?r174 ?s174;(case p174=>k_is);(case q174=>k_is);(case r174=>k_is);(case s174=>k_is)
   case z175=>refine' L2.bu KX G (fun _ _ _ _ _ _=>L2.fK fun _ _=>rfl) ?p175 ?q175 ?r175 ?s175;(case p175=>k_is);(case q175=>k_is);(case r175=>k_is);(case s175=>k_is)
   case z176=>refine' L2.bu KX G (fun _ _ _ _ _ _=>L2.fK fun _ _=>rfl) ?p176 ?q176 ?r176 ?s176;(case p176=>k_is);(case q176=>k_is);(case r176=>k_is);(case s176=>k_is)
   case z177=>refine' L2.bu KX G (fun _ _ _ _ _ _=>L2.wX fun _ _ _ _=>rfl) ?p177 ?q177 ?r177 ?s177;(case p177=>k_is);(case q177=>k_is);(case r177=>k_is);(case s177=>k_is)
   case z178=>refine' L2.bu KX G (fun _ _ _ _ _ _=>L2.gj fun _ _ _=>rfl) ?p178 ?q178 ?r178 ?s178;(case p178=>k_is);(case q178=>k_is);(case r178=>k_is);(case s178=>k_is)
   case z179=>refine' L2.bu KX G (fun _ _ _ _ _ _=>L2.ie fun _=>rfl) ?p179 ?q179 ?r179 ?s179;(case p179=>k_is);(case q179=>k_is);(case r179=>k_is);(case s179=>k_is)
   case z180=>refine' L2.bu KX G (fun _ _ _ _ _ _=>L2.ie fun _=>rfl) ?p180 ?q180 ?r180 ?s180;(case p180=>k_is);(case q180=>k_is);(case r180=>k_is);(case s180=>k_is)
   case z181=>refine' L2.bu KX G (fun _ _ _ _ _ _=>L2.ie fun _=>rfl) ?p181 ?q181 ?r181 ?s181;(case p181=>k_is);(case q181=>k_is);(case r181=>k_is);(case s181=>k_is)
   case z182=>refine' L2.bu KX G (fun _ _ _ _ _ _=>L2.gj fun _ _ _=>rfl) ?p182 ?q182 ?r182 ?s182;(case p182=>k_is);(case q182=>k_is);(case r182=>k_is);(case s182=>k_is)
   case z183=>refine' L2.bu KX G (fun _ _ _ _ _ _=>L2.fK fun _ _=>rfl) ?p183 ?q183 ?r183 ?s183;(case p183=>k_is);(case q183=>k_is);(case r183=>k_is);(case s183=>k_is)
   case z184=>refine' L2.bu KX G (fun _ _ _ _ _ _=>L2.fK fun _ _=>rfl) ?p184 ?q184 ?r184 ?s184;(case p184=>k_is);(case q184=>k_is);(case r184=>k_is);(case s184=>k_is)
   case z185=>refine' L2.bu KX G (fun _ _ _ _ _ _=>L2.fK fun _ _=>rfl) ?p185 ?q185 ?r185 ?s185;(case p185=>k_is);(case q185=>k_is);(case r185=>k_is);(case s185=>k_is)
   case z186=>refine' L2.bu KX G (fun _ _ _ _ _ _=>L2.wX fun _ _ _ _=>rfl) ?p186 ?q186 ?r186 ?s186;(case p186=>k_is);(case q186=>k_is);(case r186=>k_is);(case s186=>k_is)
   case z187=>refine' L2.bu KX G (fun _ _ _ _ _ _=>L2.gj fun _ _ _=>rfl) ?p187 ?q187 ?r187 ?s187;(case p187=>k_is);(case q187=>k_is);(case r187=>k_is);(case s187=>k_is)
   case z188=>refine' L2.bu KX G (fun _ _ _ _ _ _=>L2.gj fun _ _ _=>rfl) ?p188 ?q188 ?r188 ?s188;(case p188=>k_is);(case q188=>k_is);(case r188=>k_is);(case s188=>k_is)
   case z189=>refine' L2.bu KX G (fun _ _ _ _ _ _=>L2.ie fun _=>rfl) ?p189 ?q189 ?r189 ?s189;(case p189=>k_is);(case q189=>k_is);(case r189=>k_is);(case s189=>k_is)
   case z190=>refine' L2.bu KX G (fun _ _ _ _ _ _=>L2.ie fun _=>rfl) ?p190 ?q190 ?r190 ?s190;(case p190=>k_is);(case q190=>k_is);(case r190=>k_is);(case s190=>k_is)
   case z191=>refine' L2.jv KX G ?x191 ?y191;(case x191=>k_is);(case y191=>exact⟨_,rfl⟩)
   case z192=>refine' L2.jv KX G ?x192 ?y192;(case x192=>k_is);(case y192=>exact⟨_,rfl⟩)
   case z193=>refine' L2.jv KX G ?x193 ?y193;(case x193=>k_is);(case y193=>exact⟨_,rfl⟩)
   case z194=>refine' L2.jv KX G ?x194 ?y194;(case x194=>k_is);(case y194=>exact⟨_,rfl⟩)
   case z195=>
    refine' L2.tu KX G ?x195 ?y195 ?u195 ?v195 ?w195
    (case x195=>k_is)
    (case y195=>k_is)
    (case u195=>(refine' (.cons ?e195_0 ?f195_0 ?g195_0 (.cons ?e195_1 ?f195_1 ?g195_1 (.cons ?e195_2 ?f195_2 ?g195_2 (.cons ?e195_3 ?f195_3 ?g195_3 (.cons ?e195_4 ?f195_4 ?g195_4 (.cons ?e195_5 ?f195_5 ?g195_5 (.cons ?e195_6 ?f195_6 ?g195_6 (.cons ?e195_7 ?f195_7 ?g195_7 .nil))))))));(case e195_0=>k_is);(case f195_0=>decide);(case g195_0=>exact (.cons ⟨_,rfl⟩ (.cons ⟨_,rfl⟩ .nil)));(case e195_1=>k_is);(case f195_1=>decide);(case g195_1=>exact (.cons ⟨_,rfl⟩ .nil));(case e195_2=>k_is);(case f195_2=>decide);(case g195_2=>exact (.cons ⟨_,rfl⟩ (.cons ⟨_,rfl⟩ .nil)));(case e195_3=>k_is);(case f195_3=>decide);(case g195_3=>exact (.cons ⟨_,rfl⟩ (.cons ⟨_,rfl⟩ .nil)));(case e195_4=>k_is);(case f195_4=>decide);(case g195_4=>exact (.cons ⟨_,rfl⟩ (.cons ⟨_,rfl⟩ .nil)));(case e195_5=>k_is);(case f195_5=>decide);(case g195_5=>exact (.cons ⟨_,rfl⟩ (.cons ⟨_,rfl⟩ (.cons ⟨_,rfl⟩ .nil))));(case e195_6=>k_is);(case f195_6=>decide);(case g195_6=>exact (.cons ⟨_,rfl⟩ (.cons ⟨_,rfl⟩ .nil)));(case e195_7=>k_is);(case f195_7=>decide);(case g195_7=>exact (.cons ⟨_,rfl⟩ (.cons ⟨_,rfl⟩ (.cons ⟨_,rfl⟩ (.cons ⟨_,rfl⟩ .nil)))))))
    (case v195=>decide)
    (case w195=>decide +kernel)
   case z196=>refine' L2.cj KX G ?_;k_is
   case z197=>refine' L2.cj KX G ?_;k_is
   case z198=>refine' L2.cj KX G ?_;k_is
   case z199=>refine' L2.cj KX G ?_;k_is
   case z200=>refine' L2.cj KX G ?_;k_is
   case z201=>refine' L2.cj KX G ?_;k_is
   case z202=>refine' L2.cj KX G ?_;k_is
   case z203=>refine' L2.cj KX G ?_;k_is
   case z204=>refine' L2.cj KX G ?_;k_is
   case z205=>refine' L2.cj KX G ?_;k_is
   case z206=>refine' L2.cj KX G ?_;k_is
   case z207=>refine' L2.cj KX G ?_;k_is
   case z208=>refine' L2.cj KX G ?_;k_is
  obtain⟨_,_,_,_,_,_,_,_,_,_,_,_,_,_,_,T⟩:=T
  exact fun base _ _=>LK05.yR T
#print axioms PySem.Challenge.cw_digmatrix_k05_a_wrong_line_holds
