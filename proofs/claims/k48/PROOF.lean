import PyProof.Rows.All
import Wide.All
import OpenK.AllK
import Wide.FinOn
import Lean
import PyProof.EqAt
import PyProof.EqKinds
import PyProof.TupleCall
import PyProof.ZipIter
import PyProof.DictWalks
import PyProof.StrOps2
import KE.IntTextLaws
import PyProof.StrBlockI
import PyProof.StrLawsIn
import PyProof.AutoSeq1
import PyProof.WalkInts
import PyProof.Rows.SetFrom
import PyProof.SetKind
import PyProof.CollectWalk
import PyProof.MinMaxWalk
import PyProof.TupleKey
import PyProof.FString5
import KE.KDictOf
import PyProof.AttrMissHeap
import KE.KSortTup
import PyProof.MeetsSeq3
import PyProof.DictUpdate
import PyProof.StrLawsChain
import PyProof.StrLawsTight
import PyProof.Rows.StrItems
import PyProof.ExcInit
import PyProof.ExcClass3
import PyProof.ExcBaseAll.ValueError
import PyProof.FString
import PyProof.Rows.FStr
import PyProof.RaisesMany
import PyProof.RulesAs
import PyProof.NsDelKeeps
import PyProof.ExcAttrAll.ValueError
import PyProof.Rows.SumAny
import PySem.Challenge.RW_digmatrix_k48_refused_alike
set_option Elab.async false
set_option linter.all false
set_option maxRecDepth 100000
def PySem.W.Fast.tw15690851888314563550:Unit:=()
def PySem.W.Fast.tw14772012780617065428:Unit:=()
def PySem.W.Fast.tw7910017397648189339:Unit:=()
def PySem.W.Fast.tw13319255975969142652:Unit:=()
def PySem.W.Fast.tw9013627868922363892:Unit:=()
def PySem.W.Fast.tw4661070190023885145:Unit:=()
def PySem.W.Fast.tw13744950111288688954:Unit:=()
def PySem.W.Fast.tw12308202331468363297:Unit:=()
def PySem.W.Fast.tw16722219940638560616:Unit:=()
def PySem.W.Fast.tw11527167822990370575:Unit:=()
def PySem.W.Fast.tw11016102106726705650:Unit:=()
def PySem.W.Fast.tw1083017335296618749:Unit:=()
def PySem.W.Fast.tw1248755283176619109:Unit:=()
def PySem.W.Fast.tw15116058016839263455:Unit:=()
def PySem.W.Fast.tw18404020548670717731:Unit:=()
def PySem.W.Fast.tw2378041237933328304:Unit:=()
namespace L2
open PySem PySem.Spec PyProof.Rows
abbrev Key:=Sum Int Str
def rA:Key->Value->Bool
  | .inl k,v=>Value.isInt k v
  | .inr x,v=>Value.isStrOf x v
def BG(w:World):Key->Int
  | .inl k=>hashInt k
  | .inr x=>hashStr w x
theorem oG:∀{k:Key}{v:Value},rA k v=true->(∃i t,k=Sum.inl i/\v=Value.int i t)\/(∃x t,k=Sum.inr x/\v=Value.str x t)
  | .inl i,v,h=>by
    obtain⟨t,e⟩:=Value.isInt_shape (k:=i) (v:=v) h;exact .inl ⟨i,t,rfl,e⟩
  | .inr x,v,h=>by
    obtain⟨t,e⟩:=Value.isStrOf_shape (x:=x) (v:=v) h;exact .inr ⟨x,t,rfl,e⟩
theorem Lu(i:Int)(t:Tok):rA (.inl i) (.int i t)=true:=by simp[rA,Value.isInt]
theorem Lw(x:Str)(t:Tok):rA (.inr x) (.str x t)=true:=by simp[rA,Value.isStrOf]
theorem Lx(a b:Int):decide ((Sum.inl a:Key)=Sum.inl b)=(a == b):=by
  by_cases e:a=b
  · subst e;simp
  · have h:¬(Sum.inl a:Key)=Sum.inl b:=fun q=>e (Sum.inl.inj q)
    rw[decide_eq_false h];exact(beq_eq_false_iff_ne.mpr e).symm
theorem Ly(a b:Str):decide ((Sum.inr a:Key)=Sum.inr b)=decide (a=b):=by
  by_cases e:a=b
  · subst e;simp
  · have h:¬(Sum.inr a:Key)=Sum.inr b:=fun q=>e (Sum.inr.inj q)
    rw[decide_eq_false h,decide_eq_false e]
theorem Lz(a:Int)(b:Str):decide ((Sum.inl a:Key)=Sum.inr b)=false:=decide_eq_false (fun q=>nomatch q)
theorem LA(a:Str)(b:Int):decide ((Sum.inr a:Key)=Sum.inl b)=false:=decide_eq_false (fun q=>nomatch q)
def jV(prog:Program)(w:World):PySem.KeyKind prog w Key where
  is:=rA
  hash:=BG w
  inj:=fun v a b ha hb=>by
    rcases oG ha with ⟨i,t,rfl,rfl⟩ | ⟨x,t,rfl,rfl⟩
    · rcases oG hb with ⟨j,u,rfl,e⟩ | ⟨y,u,rfl,e⟩
      · injection e with e1 _;rw[e1]
      · exact nomatch e
    · rcases oG hb with ⟨j,u,rfl,e⟩ | ⟨y,u,rfl,e⟩
      · exact nomatch e
      · injection e with e1 _;rw[e1]
  byValue:=fun k v h=>by
    rcases oG h with ⟨i,t,rfl,rfl⟩ | ⟨x,t,rfl,rfl⟩<;>rfl
  pyHash:=fun hv h=>by
    rcases oG hv with ⟨i,t,rfl,rfl⟩ | ⟨x,t,rfl,rfl⟩
    · exact wpAny_pyHash_int h
    · exact wpAny_pyHash_str h
  eqBool:=fun hu hv h=>by
    rcases oG hu with ⟨i,t,rfl,rfl⟩ | ⟨x,t,rfl,rfl⟩
    · rcases oG hv with ⟨j,u,rfl,rfl⟩ | ⟨y,u,rfl,rfl⟩
      · rw[Lx] at h;exact wpAny_eqBool_int h
      · rw[Lz] at h;exact SeqAt.EqAt.int_str i t y u _ _ _ _ h
    · rcases oG hv with ⟨j,u,rfl,rfl⟩ | ⟨y,u,rfl,rfl⟩
      · rw[LA] at h;exact SeqAt.EqAt.str_int x t j u _ _ _ _ h
      · rw[Ly] at h;exact wpAny_eqBool_str h
  «strs»:=fun k x t v h=>by
    rcases oG h with ⟨i,u,rfl,e⟩ | ⟨y,u,rfl,e⟩
    · exact nomatch e
    · injection e with e1 _
      subst e1;cases v<;>rfl
theorem LB(prog:Program)(w:World)(i:Int)(t:Tok):(jV prog w).is (.inl i) (.int i t)=true:=Lu i t
theorem LC(prog:Program)(w:World)(x:Str)(t:Tok):(jV prog w).is (.inr x) (.str x t)=true:=Lw x t
inductive V where
  | bO | bl (b:Bool) | int (i:Int) | str (x:Str) | lK (b:Array UInt8) | vC (b:UInt64) | ref (a:Addr) | ty (n:String)
  deriving DecidableEq
def RelV:V->Value->Prop
  | .bO,u=>u=Value.none
  | .bl b,u=>u=Value.bool b
  | .int i,u=>∃t,u=Value.int i t
  | .str x,u=>∃t,u=Value.str x t
  | .lK b,u=>∃t,u=Value.bytes b t
  | .vC b,u=>∃t,u=Value.float b t
  | .ref a,u=>u=Value.ref a
  | .ty n,u=>u=Value.type n
abbrev Vals:List V->List Value->Prop:=Paired RelV
theorem Vals.length{xs:List V}{us:List Value}(r:Vals xs us):xs.length=us.length:=Paired.length r
theorem Vals.get:∀{xs:List V}{us:List Value}{i:Nat}{x:V},Vals xs us->xs[i]? = some x->∃u,us[i]? = some u/\RelV x u
  | _,_,_,_,.nil,e=>by simp at e
  | _,_,0,_,.cons r _,e=>by simp at e;subst e;exact⟨_,rfl,r⟩
  | _,_,i+1,x,.cons _ t,e=>by
    obtain⟨u,h1,h2⟩:=Vals.get (i:=i) (x:=x) t (by simpa using e);exact⟨u,by simpa using h1,h2⟩
theorem Vals.append:∀{xs ys:List V}{us ws:List Value},Vals xs us->Vals ys ws->Vals (xs++ys) (us++ws)
  | _,_,_,_,.nil,s=>s
  | _,_,_,_,.cons r t,s=>.cons r (Vals.append t s)
theorem Vals.take:∀{xs:List V}{us:List Value}(n:Nat),Vals xs us->Vals (xs.take n) (us.take n)
  | _,_,0,_=>.nil
  | _,_,_+1,.nil=>.nil
  | _,_,n+1,.cons r t=>.cons r (Vals.take n t)
theorem Vals.drop:∀{xs:List V}{us:List Value}(n:Nat),Vals xs us->Vals (xs.drop n) (us.drop n)
  | _,_,0,r=>r
  | _,_,_+1,.nil=>.nil
  | _,_,n+1,.cons _ t=>Vals.drop n t
def fG:Option V->Option Value->Prop
  | some v,some u=>RelV v u
  | none,none=>True
  | _,_=>False
def KV{κ:Type}:List (κ×V)->List (κ×Value)->Prop:=Paired fun(p:κ×V)(q:κ×Value)=>p.1=q.1/\RelV p.2 q.2
def kV:Key->V
  | .inl i=>.int i
  | .inr x=>.str x
inductive HO where
    | lst (xs:List V)
    | tup (xs:List V)
    | dK (kvs:List (Key×V)) | dT (kvs:List (List Key×V))
    | set (S:Int->Bool) (n:Nat)
    | ins (C dx:Addr) (fs:List (Str×V))
    | own (x:Addr)
    | xd (fs:List (Str×V))
    | met (f x:Addr)
    | BH (lo hi:Int)
    | eB (o:Obj) (u:HO)
    | rB (ps:Array Value)
    | ext (φ:Heap->Prop)
abbrev Hp:=Addr->Option HO
def upd(H:Hp)(a:Addr)(o:HO):Hp:=fun b=>if b=a then some o else H b
theorem zb{H:Hp}{a:Addr}{o:HO}:upd H a o a=some o:=by unfold upd;rw[if_pos rfl]
theorem zr{H:Hp}{a b:Addr}{o:HO}(h:b≠a):upd H a o b=H b:=by unfold upd;rw[if_neg h]
theorem LD{H:Hp}{a:Addr}{o u:HO}:upd (upd H a o) a u=upd H a u:=by
  funext b;unfold upd;split<;>rfl
theorem jW{H:Hp}{a b:Addr}{o u:HO}(h:H a=some o)(h':H b=some u)(d:o≠u):a≠b:=by
  intro e;subst e;rw[h] at h';exact d (Option.some.inj h')
theorem zv{H:Hp}{a b:Addr}{o:HO}(h:H a=some o)(h':H b=none):a≠b:=by
  intro e;subst e;rw[h] at h';cases h'
section
variable(P:Program)(w:World)
def aP(H:Hp)(h:Heap)(a:Addr):HO->Prop
  | .lst xs=>xs.length<=sizeLine/\∃(its:List Value)(n:Nat),Vals xs its/\h.get? a=some { cls:=.type "list",data:=.seq its.toArray n }
  | .tup xs=>xs.length<=sizeLine/\∃its:List Value,Vals xs its/\IsTup h a its.toArray
  | .dK kvs=>kvs.length<=sizeLine/\(a == sysModules)=false/\∃vs,KV kvs vs/\h.DictOf (jV P w) a vs
  | .dT kvs=>kvs.length<=sizeLine/\(a == sysModules)=false/\∃xs:List (List Key×Addr×Value),
      Paired (fun(p:List Key×V)(q:List Key×Addr×Value)=>p.1=q.1/\H q.2.1=some (.tup (p.1.map kV))/\RelV p.2 q.2.2) kvs xs/\
      ∃o es ep,h.get? a=some o/\o.ExactDict/\o.data = .dict es ep/\es.toList=xs.map (entryOfKey (tupleKind (jV P w)))/\(xs.map (·.1)).Nodup
  | .set S n=>h.SetOf (intKind P w) a S n
  | .ins C dx fs=>H dx=some (.own a)/\fs.length<=1000/\dx≠a/\h.get? a=some (PySem.W.instObj C dx)/\
      ∃mA,h.Ns1 dx mA/\(∀f,fG (fs.lookup f) (mA f))/\PySem.Within mA (fs.map (·.1))
  | .own _=>∃o,h.get? a=some o
  | .xd fs=>∃mA,h.Ns1 a mA/\∀f,fG (fs.lookup f) (mA f)
  | .BH lo hi=>∃t u v,h.get? a=some { cls:=.type "range",data:=.fields #[.int lo t,.int hi u,.int 1 v] }
  | .eB o u=>h.get? a=some o/\aP H h a u
  | .rB ps=>h.get? a=some { cls:=.none,data:=.fields ps }
  | .met f x=>h.get? a=some (PySem.W.methodObj (.ref f) (.ref x))
  | .ext φ=>φ h/\(∃o,h.get? a=some o)/\∀h1 h2:Heap,φ h1->(∀o,h1.get? a=some o->h2.get? a=some o)->φ h2
def fU(H:Hp)(h:Heap):Prop:=∀a o,H a=some o->aP P w H h a o
end
section
variable{P:Program}{w:World}{H H':Hp}{h h':Heap}{a:Addr}{o:HO}
theorem aP.lt(x:aP P w H h a o):a<h.objs.size:=by
  cases o with
  | lst xs=>obtain⟨_,_,_,_,e⟩:=x;exact Heap.lt_size e
  | tup xs=>obtain⟨_,_,_,p⟩:=x;exact p.lt
  | dK kvs=>obtain⟨_,_,_,_,o,_,_,e,_⟩:=x;exact Heap.lt_size e
  | dT kvs=>obtain⟨_,_,_,_,o,_,_,e,_⟩:=x;exact Heap.lt_size e
  | set S n=>obtain⟨o,_,_,_,e,_⟩:=x;exact Heap.lt_size e
  | ins C dx fs=>obtain⟨_,_,_,e,_⟩:=x;exact Heap.lt_size e
  | own y=>obtain⟨_,e⟩:=x;exact Heap.lt_size e
  | xd fs=>obtain⟨_,⟨_,_,_,e,_⟩,_⟩:=x;exact Heap.lt_size e
  | BH lo hi=>obtain⟨_,_,_,e⟩:=x;exact Heap.lt_size e
  | eB ob u=>obtain⟨e,_⟩:=x;exact Heap.lt_size e
  | rB ps=>exact Heap.lt_size (show h.get? a=some _ from x)
  | met f y=>exact Heap.lt_size (show h.get? a=some _ from x)
  | ext φ=>obtain⟨_,⟨_,e⟩,_⟩:=x;exact Heap.lt_size e
theorem Paired.cW{α β:Type}{F G:α->β->Prop}:∀{l₁:List α}{l₂:List β},Paired F l₁ l₂->(∀a b,F a b->G a b)->Paired G l₁ l₂
  | _,_,.nil,_=>.nil
  | _,_,.cons r t,f=>.cons (f _ _ r) (Paired.cW t f)
theorem aP.eO(x:aP P w H h a o)(k:∀b u,(b=a\/H b=some (.own a))->h.get? b=some u->h'.get? b=some u)
    (ho:∀b,H b=some (.own a)->H' b=some (.own a)) (ht:∀b xs,H b=some (.tup xs)->H' b=some (.tup xs)):aP P w H' h' a o:=by
  induction o with
  | lst xs=>obtain⟨z,its,n,r,e⟩:=x;exact⟨z,its,n,r,k _ _ (.inl rfl) e⟩
  | tup xs=>obtain⟨z,its,r,ob,e,c⟩:=x;exact⟨z,its,r,ob,k _ _ (.inl rfl) e,c⟩
  | dK kvs=>obtain⟨z,y,vs,r,ob,es,ep,e,c⟩:=x;exact⟨z,y,vs,r,ob,es,ep,k _ _ (.inl rfl) e,c⟩
  | dT kvs=>
    obtain⟨z,y,xs,r,ob,es,ep,e,c⟩:=x;exact⟨z,y,xs,Paired.cW r fun p q z=>⟨z.1,ht _ _ z.2.1,z.2.2⟩,ob,es,ep,k _ _ (.inl rfl) e,c⟩
  | set S n=>obtain⟨ob,es,ep,t,e,c⟩:=x;exact⟨ob,es,ep,t,k _ _ (.inl rfl) e,c⟩
  | ins C dx fs=>
    obtain⟨d,z,ne,e,mA,⟨od,es,ep,e2,c⟩,r⟩:=x;exact⟨ho _ d,z,ne,k _ _ (.inl rfl) e,mA,⟨od,es,ep,k _ _ (.inr d) e2,c⟩,r⟩
  | own y=>obtain⟨ob,e⟩:=x;exact⟨ob,k _ _ (.inl rfl) e⟩
  | xd fs=>obtain⟨mA,⟨od,es,ep,e,c⟩,r⟩:=x;exact⟨mA,⟨od,es,ep,k _ _ (.inl rfl) e,c⟩,r⟩
  | BH lo hi=>obtain⟨t,u,v,e⟩:=x;exact⟨t,u,v,k _ _ (.inl rfl) e⟩
  | eB ob u ih=>obtain⟨e,q⟩:=x;exact⟨k _ _ (.inl rfl) e,ih q⟩
  | rB ps=>
    have e:h.get? a=some { cls:=.none,data:=.fields ps }:=x;show h'.get? a=some { cls:=.none,data:=.fields ps };exact k a _ (.inl rfl) e
  | met f y=>
    have e:h.get? a=some (PySem.W.methodObj (.ref f) (.ref y)):=x;show h'.get? a=some (PySem.W.methodObj (.ref f) (.ref y));exact k a _ (.inl rfl) e
  | ext φ=>obtain⟨p,⟨o,e⟩,st⟩:=x;exact⟨st _ _ p fun o q=>k _ _ (.inl rfl) q,⟨o,k _ _ (.inl rfl) e⟩,st⟩
theorem fU.lt(x:fU P w H h)(e:H a=some o):a<h.objs.size:=(x a o e).lt
theorem fU.fresh(x:fU P w H h)(e:h.objs.size<=a):H a=none:=by
  cases q:H a with
  | none=>rfl
  | some u=>exact absurd (Nat.lt_of_lt_of_le (x.lt q) e) (Nat.lt_irrefl _)
theorem fU.kept(x:fU P w H h)(k:∀b u,h.get? b=some u->h'.get? b=some u):fU P w H h':=fun a o e=>
  (x a o e).eO (fun b u _ q=>k b u q) (fun _ q=>q) fun _ _ q=>q
theorem fU.laid(x:fU P w H h)(k:∀b u,h.get? b=some u->h'.get? b=some u)(hp:h.objs.size<=a)(new:aP P w (upd H a o) h' a o):fU P w (upd H a o) h':=fun b u e=>by
  have hn:=x.fresh hp
  by_cases hb:b=a
  · subst hb;rw[zb] at e;cases e;exact new
  · rw[zr hb] at e;exact(x b u e).eO (fun c v _ q=>k c v q) (fun c q=>by rw[zr (zv q hn)];exact q) fun c xs q=>by rw[zr (zv q hn)];exact q
end
def Rd(H:Hp)(a:Addr)(u:HO):Prop:=H a=some u\/∃o,H a=some (.eB o u)
theorem Rd.ok{P:Program}{w:World}{H:Hp}{h:Heap}{a:Addr}{u:HO}(r:Rd H a u)(x:fU P w H h):aP P w H h a u:=by
  rcases r with r | ⟨o,r⟩
  · exact x a u r
  · obtain⟨_,q⟩:=x a _ r;exact q
def vD:Option HO->Prop
  | some (.lst _)=>True
  | some (.dK _)=>True
  | some (.dT _)=>True
  | some (.set _ _)=>True
  | some (.ins _ _ _)=>True
  | some (.ext _)=>True
  | _=>False
section
variable{P:Program}{w:World}{H:Hp}{h h':Heap}{x e:Addr}{o':HO}
theorem fU.write(ok:fU P w H h)(mu:vD (H x))(he:e=x\/H e=some (.own x))(k:∀b u,b≠e->h.get? b=some u->h'.get? b=some u)(um:∃u,h'.get? e=some u)
    (new:aP P w (upd H x o') h' x o'):fU P w (upd H x o') h':=fun b u q=>by
  have vE:∀c y,H c=some (.own y)->c≠x:=fun c y r z=>by subst z;rw[r] at mu;exact mu
  have pG:∀c xs,H c=some (.tup xs)->c≠x:=fun c xs r z=>by subst z;rw[r] at mu;exact mu
  by_cases hb:b=x
  · subst hb;rw[zb] at q;cases q;exact new
  · rw[zr hb] at q
    by_cases rC:b=e
    · have q':H b=some (.own x):=by
        rcases he with z | z
        · exact absurd (rC.trans z) hb
        · rw[rC];exact z
      rw[q] at q';cases q';obtain⟨v,hv⟩:=um;exact⟨v,by rw[rC];exact hv⟩
    · refine(ok b u q).eO (fun c v hc r=>k c v ?_ r) (fun c r=>by rw[zr (vE c b r)];exact r) fun c xs r=>by rw[zr (pG c xs r)];exact r
      rcases hc with rfl | hc
      · exact rC
      · rintro rfl;rcases he with z | z
        · exact vE c b hc z
        · rw[hc] at z;cases z;exact hb rfl
end
structure Un(fs ex:List Addr)(H H':Hp)(h h':Heap):Prop where
  keep:∀b o,h.get? b=some o->H b=none->b ∉ fs->b ∉ ex->h'.get? b=some o
  slot:∀b o,h.get? b=some o->H b=none->b∈fs->b ∉ ex->∃sl,h'.get? b=some { o with slots:=sl }
  free:∀b o,h.get? b=some o->H b=none->b ∉ ex->H' b=none
  there:∀b o,h.get? b=some o->b ∉ ex->∃o',h'.get? b=some o'
  gO:∀b xs,H b=some (.tup xs)->H' b=some (.tup xs)
  gD:∀b o u,H b=some (.eB o u)->H' b=some (.eB o u)
  gP:∀b ps,H b=some (.rB ps)->∃more,H' b=some (.rB (ps++more))
section
variable{fs WK ex BI:List Addr}{H H1 H2:Hp}{h h1 h2 h':Heap}{a x e:Addr}{o:HO}
theorem Un.any(u:Un fs ex H H1 h h1){b:Addr}{ob:Obj}(q:h.get? b=some ob)(n:H b=none)(hx:b ∉ ex):∃sl,h1.get? b=some { ob with slots:=sl }:=by
  by_cases hb:b∈fs
  · exact u.slot b ob q n hb hx
  · exact⟨ob.slots,u.keep b ob q n hb hx⟩
theorem Un.kept(k:∀b u,h.get? b=some u->h'.get? b=some u):Un fs ex H H h h':=
  ⟨fun b ob q _ _ _=>k b ob q,fun b ob q _ _ _=>⟨ob.slots,k b ob q⟩,fun _ _ _ n _=>n,fun b ob q _=>⟨ob,k b ob q⟩,fun _ _ q=>q,fun _ _ _ q=>q,fun _ ps q=>⟨#[],by rw[q];simp⟩⟩
theorem Un.refl:Un fs ex H H h h:=Un.kept fun _ _ q=>q
theorem Un.laid(k:∀b u,h.get? b=some u->h'.get? b=some u)(hp:h.objs.size<=a)(hn:H a=none):Un fs ex H (upd H a o) h h' where
  keep:=fun b u q _ _ _=>k b u q
  slot:=fun b u q _ _ _=>⟨u.slots,k b u q⟩
  free:=fun b u q n _=>by rw[zr (Nat.ne_of_lt (Nat.lt_of_lt_of_le (Heap.lt_size q) hp))];exact n
  there:=fun b u q _=>⟨u,k b u q⟩
  gO:=fun b xs q=>by rw[zr (zv q hn)];exact q
  gD:=fun b u xs q=>by rw[zr (zv q hn)];exact q
  gP:=fun b ps q=>⟨#[],by rw[zr (zv q hn),q];simp⟩
theorem Un.write(mu:vD (H x))(he:e=x\/H e=some (.own x))(k:∀b u,b≠e->h.get? b=some u->h'.get? b=some u)(um:∃u,h'.get? e=some u):Un fs ex H (upd H x o) h h':=by
  have hx:∀b,H b=none->b≠x:=fun b n z=>by subst z;rw[n] at mu;exact mu
  have hb:∀b,H b=none->b≠e:=fun b n z=>by
    subst z;rcases he with r | r
    · exact hx b n r
    · rw[n] at r;cases r
  have hm:∀b u,H b=some u->¬vD (some u)->b≠x:=fun b u q nm z=>by subst z;rw[q] at mu;exact nm mu
  refine⟨fun b u q n _ _=>k b u (hb b n) q,fun b u q n _ _=>⟨u.slots,k b u (hb b n) q⟩,fun b u q n _=>by rw[zr (hx b n)];exact n,fun b u q _=>?_,
    fun b xs q=>by rw[zr (hm b _ q fun z=>z)];exact q,fun b u xs q=>by rw[zr (hm b _ q fun z=>z)];exact q,fun b ps q=>⟨#[],by rw[zr (hm b _ q fun z=>z),q];simp⟩⟩
  by_cases rC:b=e
  · subst rC;exact um
  · exact⟨u,k b u rC q⟩
end
def zS(h:Heap)(H:Hp):List Addr:=(List.range h.objs.size).filter fun a=>(H a).isSome
def jf(h:Heap)(H:Hp):Heap:=PySem.W.hideAll h (zS h H)
theorem LF(h:Heap)(H:Hp):(jf h H).objs.size=h.objs.size:=PySem.W.hideAll_size _ _
theorem LG{h:Heap}{H:Hp}{b:Addr}{o:Obj}(e:h.get? b=some o)(n:H b=none):(jf h H).get? b=some o:=
  PySem.W.hideAll_get _ e fun hm=>by
    have q:(H b).isSome=true:=(List.mem_filter.mp hm).2;rw[n] at q;simp at q
theorem LH{h:Heap}{H:Hp}{b:Addr}{o:Obj}(e:(jf h H).get? b=some o):h.get? b=some o/\H b=none:=by
  have e':h.get? b=some o:=PySem.W.of_hideAll (zS h H) e;refine⟨e',?_⟩;cases q:H b with
  | none=>rfl
  | some x=>
    have hm:b∈zS h H:=List.mem_filter.mpr ⟨List.mem_range.mpr (Heap.lt_size e'),by simp[q]⟩;have z:(jf h H).get? b=none:=PySem.W.hideAll_none (zS h H) hm;rw[z] at e;cases e
def LI(g h:Heap)(L:Addr):List (Addr×Obj):=(List.range h.objs.size).filterMap fun a=>if a=L\/(g.get? a).isSome=true then none else(h.get? a).map fun o=>(a,o)
def rest(g h:Heap)(L d:Addr):List (Addr×Obj):=(LI g h L).filter fun p=>decide (p.1≠d)
structure Mod(K:PySem.W.Frag)(mg:Str->Option Value)(base:Heap):Prop where
  zT:K.In base
  glob:base.Ns mainGlobals mg
  blt:∃mb,base.Ns builtinsNs mb/\∀x:Str,x≠"__name__"->mb x=bootBuiltins x
  nolimit:base.NoLimit
structure Cx where
  prog:Program
  w:World
  K:PySem.W.Frag
  mg:Str->Option Value
  base:Heap
  A:Around
  N:List Str
  bF:Shared
  jG:Hp
  env:Env
  outer:List Env
  stack:List Env
  ex:List Addr
  fn:Str->Bool
  calm:Bool
  pn:List (Addr×Obj)
  xe:Value->Shared->Prop
def fH(l:List Env):List Addr:=l.filterMap (·.frame)
abbrev Cx.fs(X:Cx):List Addr:=fH X.outer
def BJ(sc:Scope)(x:Str):Prop:=sc.names.lookup x=some .local\/sc.names.lookup x=some .cell\/sc.names.lookup x=some .free
def Loc(sc:Scope)(x:Str):Prop:=sc.names.lookup x=some .local\/sc.names.lookup x=some .cell
def Look(env:Env)(h:Heap)(m:Str->Option Value)(x:Str)(u:Value):Prop:=
  (env.kindOf x=some .local/\m x=some u)\/((env.kindOf x=some .cell\/env.kindOf x=some .free)/\∃c,env.cells.lookup x=some c/\h.IsCell c (some u))
structure Cx.Ok(X:Cx):Prop where
  mod:Mod X.K X.mg X.base
  kind:X.env.scope.kind = .function
  glob:X.env.globals=mainGlobals
  blt:X.env.builtins=builtinsNs
  above:X.bF.heap.objs.size<=X.env.locals
  inj:∀x y c,X.env.cells.lookup x=some c->X.env.cells.lookup y=some c->x=y
  has:∀x,(X.env.kindOf x=some .cell\/X.env.kindOf x=some .free)->∃c,X.env.cells.lookup x=some c
  rD:∀x c,X.fn x=true->X.env.cells.lookup x=some c->X.bF.heap.objs.size<=c
  hd:X.calm=true->X.A.handled=none
  frames:X.A.frames=some X.stack
  uo:X.stack=X.outer\/(X.stack=X.env::X.outer/\X.env.frame=some X.env.locals)
  zU:∀b∈X.ex,b≠X.env.locals/\∀x c,X.env.cells.lookup x=some c->c≠b
  bs:∀b o,X.base.get? b=some o->X.bF.heap.get? b=some o/\X.jG b=none
  nu:X.base.objs.size<=X.bF.heap.objs.size
  kq:∀b o,X.base.get? b=some o->b ∉ X.ex
  lO:∀b∈X.ex,b ∉ X.fs
  f7:X.bF.heap.FunFrames X.base X.outer
  pH:∀b∈X.fs,X.jG b=none
structure Inv(X:Cx)(pins:List (Addr×Obj))(σ:List (Option V))(H:Hp)(s:Shared):Prop where
  ok:X.Ok
  os:s.os=X.bF.os
  bare:AllBare s.gens
  base:Un X.fs X.ex X.jG H X.bF.heap s.heap
  loc:∃m,s.heap.Ns X.env.locals m/\∀(i:Nat)(x:Str)(v:V),X.N[i]? = some x->σ[i]? = some (some v)->BJ X.env.scope x->∃u,RelV v u/\Look X.env s.heap m x u
  cell:∀x c,X.env.cells.lookup x=some c->∃v,s.heap.IsCell c v
  free:H X.env.locals=none
  cH:∀x c,X.env.cells.lookup x=some c->H c=none
  pin:∀p∈X.pn++pins,s.heap.get? p.1=some p.2/\H p.1=none/\p.1≠X.env.locals/\p.1 ∉ X.fs/\∀v,p.2.data≠.cell v
  aI:fU X.prog X.w H s.heap
  len:σ.length=X.N.length
section
variable{X:Cx}{pins:List (Addr×Obj)}{σ:List (Option V)}{H H':Hp}{s:Shared}{h':Heap}
theorem Cx.Ok.BK(ok:X.Ok){b:Addr}{o:Obj}(e:X.base.get? b=some o):b ∉ X.fs:=fun hb=>by
  have:=(ok.f7.mem hb).1;rw[e] at this;cases this
theorem Inv.bs(I:Inv X pins σ H s):∀b o,X.base.get? b=some o->s.heap.get? b=some o/\H b=none:=fun b o e=>
  ⟨I.base.keep b o (I.ok.bs b o e).1 (I.ok.bs b o e).2 (I.ok.BK e) (I.ok.kq b o e),I.base.free b o (I.ok.bs b o e).1 (I.ok.bs b o e).2 (I.ok.kq b o e)⟩
theorem Inv.bk(I:Inv X pins σ H s):∀b o,X.base.get? b=some o->s.heap.get? b=some o:=fun b o e=>(I.bs b o e).1
theorem Inv.mod(I:Inv X pins σ H s):Mod X.K X.mg X.base:=I.ok.mod
theorem Inv.gQ(I:Inv X pins σ H s):X.K.In s.heap:=I.ok.mod.zT.keeps I.bk
theorem Inv.lt(I:Inv X pins σ H s):X.env.locals<s.heap.objs.size:=let ⟨_,hn,_⟩:=I.loc;hn.lt
theorem Inv.sz(I:Inv X pins σ H s):X.bF.heap.objs.size<=s.heap.objs.size:=Nat.le_trans I.ok.above (Nat.le_of_lt I.lt)
theorem Inv.BL(I:Inv X pins σ H s){a:Addr}(h:s.heap.objs.size<=a):a ∉ X.fs:=fun hb=>by
  obtain⟨_,o,ho,_⟩:=I.ok.f7.mem hb;exact absurd (Nat.lt_of_lt_of_le (Heap.lt_size ho) (Nat.le_trans I.sz h)) (Nat.lt_irrefl _)
theorem Inv.nv(I:Inv X pins σ H s):∀x c,X.env.cells.lookup x=some c->c≠X.env.locals:=fun x c e z=>by
  obtain⟨v,o,ho,hd⟩:=I.cell x c e;obtain⟨m,⟨o',es,ep,pI,qw,_⟩,_⟩:=I.loc;rw[z,pI] at ho;cases ho;rw[qw] at hd;cases hd
theorem Inv.f7(I:Inv X pins σ H s):s.heap.FunFrames X.base X.outer:=by
  have all:∀(l:List Env),(∀b∈fH l,b∈X.fs)->X.bF.heap.FunFrames X.base l->s.heap.FunFrames X.base l:=by
    intro l
    induction l with
    | nil=>intro _ _;trivial
    | cons env r ih=>
      intro hs hl;obtain⟨hk,⟨L,o,hf,hn,ho,hd⟩,hr⟩:=hl;have hL:L∈X.fs:=hs L (by unfold fH;rw[List.filterMap_cons,hf];exact List.mem_cons_self);obtain⟨sl,e⟩:=I.base.slot L o ho (I.ok.pH L hL) hL fun z=>I.ok.lO L z hL
      exact⟨hk,⟨L,_,hf,hn,e,hd⟩,ih (fun b hb=>hs b (by unfold fH;rw[List.filterMap_cons,hf];exact List.mem_cons_of_mem _ hb)) hr⟩
  exact all X.outer (fun _ hb=>hb) I.ok.f7
theorem Inv.stack(I:Inv X pins σ H s):s.heap.FunFrames X.base X.stack:=by
  rcases I.ok.uo with e | ⟨e,hf⟩
  · rw[e];exact I.f7
  · rw[e];obtain⟨m,hn,_⟩:=I.loc;refine .cons (by rw[I.ok.kind];decide) hf hn ?_ I.f7;exact Heap.get?_none_of_le (Nat.le_trans I.ok.nu I.ok.above)
theorem Inv.jg(I:Inv X pins σ H s):∀b∈fH X.stack,b∈X.env.locals::X.fs:=fun b hb=>by
  rcases I.ok.uo with e | ⟨e,hf⟩
  · rw[e] at hb;exact List.mem_cons_of_mem _ hb
  · rw[e] at hb;unfold fH at hb;rw[List.filterMap_cons,hf] at hb;exact hb
theorem Inv.gY(I:Inv X pins σ H s):∀b∈fH X.stack,H b=none:=fun b hb=>by
  rcases List.mem_cons.mp (I.jg b hb) with e | hb
  · rw[e];exact I.free
  · obtain⟨_,o,ho,_⟩:=I.ok.f7.mem hb;exact I.base.free b o ho (I.ok.pH b hb) fun z=>I.ok.lO b z hb
theorem Inv.step{g':Array GenState}{t':Nat}{d':Drawn}{ch:List Addr}(I:Inv X pins σ H s)
    (oH:∀b∈ch,(b∈X.ex\/X.bF.heap.objs.size<=b)/\b≠X.env.locals/\(∀x c,X.env.cells.lookup x=some c->c≠b)/\∀p∈X.pn++pins,p.1≠b)
    (keep:∀b o,b≠X.env.locals->b ∉ X.fs->b ∉ ch->s.heap.get? b=some o->H b=none->h'.get? b=some o)
    (slot:∀b o,b≠X.env.locals->b∈X.fs->b ∉ ch->s.heap.get? b=some o->H b=none->∃sl,h'.get? b=some { o with slots:=sl }) (free:∀b o,b ∉ ch->s.heap.get? b=some o->H b=none->H' b=none)
    (there:∀b o,b ∉ ch->s.heap.get? b=some o->∃o',h'.get? b=some o')
    (gO:∀b xs,H b=some (.tup xs)->H' b=some (.tup xs)) (gD:∀b o u,H b=some (.eB o u)->H' b=some (.eB o u)) (gP:∀b ps,H b=some (.rB ps)->∃more,H' b=some (.rB (ps++more)))
    (ns:∀m,s.heap.Ns X.env.locals m->h'.Ns X.env.locals m) (aI:fU X.prog X.w H' h') (hg:AllBare g') :
    Inv X pins σ H' { s with heap:=h',gens:=g',drawn:=d',toks:=t' }:=by
  have Fg:∀b o,X.bF.heap.get? b=some o->b≠X.env.locals:=fun b o e=>Nat.ne_of_lt (Nat.lt_of_lt_of_le (Heap.lt_size e) I.ok.above)
  have zV:∀b o,X.bF.heap.get? b=some o->b ∉ X.ex->b ∉ ch:=fun b o e hx hb=>by
    rcases (oH b hb).1 with z | z
    · exact hx z
    · exact absurd (Nat.lt_of_lt_of_le (Heap.lt_size e) z) (Nat.lt_irrefl _)
  have cellK:∀x c,X.env.cells.lookup x=some c->∀v,s.heap.IsCell c v->h'.IsCell c v:=fun x c e v ⟨o,ho,hd⟩=>by
    have vF:c ∉ ch:=fun z=>(oH c z).2.2.1 x c e rfl
    by_cases hc:c∈X.fs
    · obtain⟨sl,q⟩:=slot c o (I.nv x c e) hc vF ho (I.cH x c e);exact⟨_,q,hd⟩
    · exact⟨o,keep c o (I.nv x c e) hc vF ho (I.cH x c e),hd⟩
  refine⟨I.ok,I.os,hg,⟨fun b o e n hb hx=>?_,fun b o e n hb hx=>?_,fun b o e n hx=>?_,fun b o e hx=>?_,fun b xs e=>gO b xs (I.base.gO b xs e),fun b o xs e=>gD b o xs (I.base.gD b o xs e),fun b ps e=>?_⟩,?_,fun x c e=>?_,?_,fun x c e=>?_,fun p hp=>?_,aI,I.len⟩
  · exact keep b o (Fg b o e) hb (zV b o e hx) (I.base.keep b o e n hb hx) (I.base.free b o e n hx)
  · obtain⟨sl,e1⟩:=I.base.slot b o e n hb hx;obtain⟨rE,e2⟩:=slot b _ (Fg b o e) hb (zV b o e hx) e1 (I.base.free b o e n hx);exact⟨rE,e2⟩
  · obtain⟨o',e1⟩:=I.base.there b o e hx;exact free b o' (zV b o e hx) e1 (I.base.free b o e n hx)
  · obtain⟨o',e1⟩:=I.base.there b o e hx;exact there b o' (zV b o e hx) e1
  · obtain⟨m1,e1⟩:=I.base.gP b ps e;obtain⟨m2,e2⟩:=gP b _ e1;exact⟨m1++m2,by rw[e2,Array.append_assoc]⟩
  · obtain⟨m,hn,hl⟩:=I.loc;refine⟨m,ns m hn,fun i x v e1 e2 e3=>?_⟩;obtain⟨u,r,l⟩:=hl i x v e1 e2 e3;refine⟨u,r,?_⟩;rcases l with l | ⟨k,c,e,z⟩
    · exact .inl l
    · exact .inr ⟨k,c,e,cellK x c e _ z⟩
  · obtain⟨v,z⟩:=I.cell x c e;exact⟨v,cellK x c e v z⟩
  · obtain⟨m,⟨o,_,_,ho,_⟩,_⟩:=I.loc;exact free _ o (fun z=>(oH _ z).2.1 rfl) ho I.free
  · obtain⟨v,o,ho,hd⟩:=I.cell x c e;exact free c o (fun z=>(oH c z).2.2.1 x c e rfl) ho (I.cH x c e)
  · obtain⟨e,n,ne,nf,d⟩:=I.pin p hp;have vF:p.1 ∉ ch:=fun z=>(oH p.1 z).2.2.2 p hp rfl
    exact⟨keep p.1 p.2 ne nf vF e n,free p.1 p.2 vF e n,ne,nf,d⟩
theorem Inv.un{t':Nat}(I:Inv X pins σ H s)(u:Un X.fs [] H H' s.heap h')(aI:fU X.prog X.w H' h'):Inv X pins σ H' { s with heap:=h',toks:=t' }:=by
  obtain⟨m,⟨o,es,ep,ho,r⟩,_⟩:=id I.loc;obtain⟨sl,hL⟩:=u.any ho I.free (by simp);exact I.step (g':=s.gens) (d':=s.drawn) (ch:=[]) (fun _ z=>nomatch z) (fun b o _ hb _ e n=>u.keep b o e n hb (by simp)) (fun b o _ hb _ e n=>u.slot b o e n hb (by simp)) (fun b o _ e n=>u.free b o e n (by simp)) (fun b o _ e=>u.there b o e (by simp)) u.gO u.gD u.gP (fun m' hm=>by
    obtain⟨o',qx,pJ,pI,r'⟩:=hm;rw[ho] at pI;cases pI;exact⟨_,qx,pJ,hL,r'⟩) aI I.bare
theorem Inv.call{g':Array GenState}{t':Nat}{d':Drawn}{ch:List Addr}(I:Inv X pins σ H s)(u:Un (fH X.stack) ch H H' s.heap h')(aI:fU X.prog X.w H' h')(hg:AllBare g')
    (oH:∀b∈ch,(b∈X.ex\/X.bF.heap.objs.size<=b)/\b≠X.env.locals/\(∀x c,X.env.cells.lookup x=some c->c≠b)/\∀p∈X.pn++pins,p.1≠b) :
    Inv X pins σ H' { s with heap:=h',gens:=g',drawn:=d',toks:=t' }:=by
  obtain⟨m,⟨o,es,ep,ho,r⟩,_⟩:=id I.loc;obtain⟨sl,hL⟩:=u.any ho I.free fun z=>(oH _ z).2.1 rfl
  exact I.step (ch:=ch) oH (fun b o hL hb hc e n=>u.keep b o e n (fun z=>(List.mem_cons.mp (I.jg b z)).elim hL hb) hc) (fun b o _ _ hc e n=>u.any e n hc) (fun b o hc e n=>u.free b o e n hc) (fun b o hc e=>u.there b o e hc) u.gO u.gD u.gP (fun m' hm=>by
    obtain⟨o',qx,pJ,pI,r'⟩:=hm;rw[ho] at pI;cases pI;exact⟨_,qx,pJ,hL,r'⟩) aI hg
theorem Inv.turned{t':Nat}{it:Addr}(I:Inv X pins σ H s)(k:∀b o,b≠it->s.heap.get? b=some o->h'.get? b=some o)(hn:H it=none)(hL:it≠X.env.locals)
    (h1:it∈X.ex\/X.bF.heap.objs.size<=it) (h2:∀x c,X.env.cells.lookup x=some c->c≠it) (h3:∀p∈X.pn++pins,p.1≠it):Inv X pins σ H { s with heap:=h',toks:=t' }:=by
  have vG:∀b u,H b=some u->b≠it:=fun b u e z=>by rw[z,hn] at e;cases e
  refine I.step (g':=s.gens) (d':=s.drawn) (ch:=[it]) (fun b hb=>?_) (fun b o _ _ hc e _=>k b o (fun z=>hc (by simp[z])) e) (fun b o _ _ hc e _=>⟨o.slots,k b o (fun z=>hc (by simp[z])) e⟩) (fun _ _ _ _ n=>n)
    (fun b o hc e=>⟨o,k b o (fun z=>hc (by simp[z])) e⟩) (fun _ _ e=>e) (fun _ _ _ e=>e) (fun b ps e=>⟨#[],by rw[e];simp⟩) (fun m hm=>?_) (fun b u e=>?_) I.bare
  · have e:b=it:=by simpa using hb
    subst e;exact⟨h1,hL,h2,h3⟩
  · obtain⟨o,es,ep,ho,r⟩:=hm;exact⟨o,es,ep,k _ o (Ne.symm hL) ho,r⟩
  · refine(I.aI b u e).eO (fun c v hc q=>k c v ?_ q) (fun _ q=>q) fun _ _ q=>q
    rcases hc with z | z
    · rw[z];exact vG b u e
    · exact vG c _ z
theorem Inv.tok(I:Inv X pins σ H s)(t:Nat):Inv X pins σ H { s with toks:=t }:=I.un (h':=s.heap) (t':=t) Un.refl I.aI
theorem Inv.kept{t':Nat}(I:Inv X pins σ H s)(k:∀b u,s.heap.get? b=some u->h'.get? b=some u):Inv X pins σ H { s with heap:=h',toks:=t' }:=I.un (Un.kept k) (I.aI.kept k)
theorem Inv.laid{a:Addr}{o:HO}{t':Nat}(I:Inv X pins σ H s)(k:∀b u,s.heap.get? b=some u->h'.get? b=some u)(hp:s.heap.objs.size<=a)(new:aP X.prog X.w (upd H a o) h' a o) :
    Inv X pins σ (upd H a o) { s with heap:=h',toks:=t' }:=I.un (Un.laid k hp (I.aI.fresh hp)) (I.aI.laid k hp new)
theorem Inv.write{x e:Addr}{o:HO}{t':Nat}(I:Inv X pins σ H s)(mu:vD (H x))(he:e=x\/H e=some (.own x))(k:∀b u,b≠e->s.heap.get? b=some u->h'.get? b=some u)(um:∃u,h'.get? e=some u)
    (new:aP X.prog X.w (upd H x o) h' x o):Inv X pins σ (upd H x o) { s with heap:=h',toks:=t' }:=I.un (Un.write mu he k um) (I.aI.write mu he k um new)
theorem Inv.kZ{jH:List (Addr×Obj)}(I:Inv X pins σ H s)(h:∀p∈jH,s.heap.get? p.1=some p.2/\H p.1=none/\p.1≠X.env.locals/\p.1 ∉ X.fs/\∀v,p.2.data≠.cell v):Inv X jH σ H s:=
  ⟨I.ok,I.os,I.bare,I.base,I.loc,I.cell,I.free,I.cH,fun p hp=>(List.mem_append.mp hp).elim (fun z=>I.pin p (List.mem_append_left _ z)) (h p),I.aI,I.len⟩
theorem BN{N:List Str}(hN:N.Nodup){i j:Nat}{x:Str}(a:N[i]? = some x)(b:N[j]? = some x):i=j:=by
  obtain⟨h1,e1⟩:=List.getElem?_eq_some_iff.mp a;obtain⟨h2,e2⟩:=List.getElem?_eq_some_iff.mp b;exact(List.getElem_inj hN).mp (e1.trans e2.symm)
theorem Fi{M:Model}{A:Around}{E:Value->Shared->Prop}{i:Nat}{x:Str}{v:V}{u:Value}{Q:Unit->Shared->Prop}(I:Inv X pins σ H s)(hN:X.N.Nodup)(hi:X.N[i]? = some x)(hx:Loc X.env.scope x)(r:RelV v u)
    (h:∀s',Inv X pins (σ.set i (some v)) H s'->(∃a,Heap.SameBut a s.heap s'.heap/\(a=X.env.locals\/X.env.cells.lookup x=some a))->Q () s') (hf:X.fn x=true\/X.env.scope.names.lookup x=some .local:=by first | exact .inl rfl | exact .inr rfl | assumption):wpAny M A (storeName X.env x u) Q E s:=by
  obtain⟨m,hn,hl⟩:=id I.loc;have rF:(X.env.scope.kind == .class||(X.env.scope.kind == .module&&X.env.locals != X.env.globals))=false:=by rw[I.ok.kind];rfl
  have vH:i<σ.length:=by rw[I.len];exact(List.getElem?_eq_some_iff.mp hi).1
  have nv:=I.nv;have tracked:∀{a:Addr}{h':Heap},(∃o,s.heap.get? a=some o/\H a=none)->Heap.SameBut a s.heap h'->fU X.prog X.w H h':=fun{a h'}ha hs b ob e=>by
    obtain⟨_,_,qy⟩:=ha;refine(I.aI b ob e).eO (fun c w' hc q=>(hs.2 c ?_).trans q) (fun _ q=>q) fun _ _ q=>q
    rintro rfl;rcases hc with rfl | hc
    · rw[qy] at e;cases e
    · rw[qy] at hc;cases hc
  rcases hx with hk | hk
  · refine wpAny_storeName_local hk hn (fun h' uq hs=>?_) rF;obtain⟨oL,_,_,Fj,_⟩:=id hn;refine h _ ⟨I.ok,I.os,I.bare,⟨fun b o e n hb hx=>?_,fun b o e n hb hx=>?_,I.base.free,fun b o e hx=>?_,I.base.gO,I.base.gD,I.base.gP⟩,⟨_,uq,fun j y v' e1 e2 e3=>?_⟩,fun y c e=>?_,I.free,I.cH,fun p hp=>?_,tracked ⟨oL,Fj,I.free⟩ hs,by simpa using I.len⟩ ⟨_,hs,.inl rfl⟩
    · exact(hs.2 b (Nat.ne_of_lt (Nat.lt_of_lt_of_le (Heap.lt_size e) I.ok.above))).trans (I.base.keep b o e n hb hx)
    · obtain⟨sl,e1⟩:=I.base.slot b o e n hb hx;exact⟨sl,(hs.2 b (Nat.ne_of_lt (Nat.lt_of_lt_of_le (Heap.lt_size e) I.ok.above))).trans e1⟩
    · obtain⟨o',e1⟩:=I.base.there b o e hx;exact⟨o',(hs.2 b (Nat.ne_of_lt (Nat.lt_of_lt_of_le (Heap.lt_size e) I.ok.above))).trans e1⟩
    · by_cases hj:j=i
      · subst hj;rw[hi] at e1;cases e1;rw[List.getElem?_set_self vH] at e2;cases e2;exact⟨u,r,.inl ⟨hk,by simp⟩⟩
      · rw[List.getElem?_set_ne (Ne.symm hj)] at e2;obtain⟨u',r',q⟩:=hl j y v' e1 e2 e3;refine⟨u',r',?_⟩;rcases q with ⟨k,e⟩ | ⟨k,c,e,z⟩
        · refine .inl ⟨k,?_⟩;have:y≠x:=fun e=>hj (BN hN e1 (e▸hi))
          simp[this,e]
        · exact .inr ⟨k,c,e,z.sameBut hs (nv y c e)⟩
    · obtain⟨w',z⟩:=I.cell y c e;exact⟨w',z.sameBut hs (nv y c e)⟩
    · obtain⟨e,n,ne,nf,d⟩:=I.pin p hp;exact⟨(hs.2 p.1 ne).trans e,n,ne,nf,d⟩
  · have BO:X.fn x=true:=by
      rcases hf with z | z
      · exact z
      · rw[z] at hk;cases hk
    obtain⟨c,hc⟩:=I.ok.has x (.inl hk);obtain⟨w',z⟩:=I.cell x c hc;refine wpAny_storeName_cell I.ok.kind hk hc z (fun h' oJ hs=>?_);obtain⟨oc,Fl,BP⟩:=id z;refine h { s with heap:=h' } ⟨I.ok,I.os,I.bare,⟨fun b o e n hb hx=>?_,fun b o e n hb hx=>?_,I.base.free,fun b o e hx=>?_,I.base.gO,I.base.gD,I.base.gP⟩,⟨m,hn.sameBut hs (Ne.symm (nv x c hc)),fun j y v' e1 e2 e3=>?_⟩,fun y c' e=>?_,I.free,I.cH,fun p hp=>?_,tracked ⟨oc,Fl,I.cH x c hc⟩ hs,by simpa using I.len⟩ ⟨c,hs,.inr hc⟩
    · exact(hs.2 b (Nat.ne_of_lt (Nat.lt_of_lt_of_le (Heap.lt_size e) (I.ok.rD x c BO hc)))).trans (I.base.keep b o e n hb hx)
    · obtain⟨sl,e1⟩:=I.base.slot b o e n hb hx;exact⟨sl,(hs.2 b (Nat.ne_of_lt (Nat.lt_of_lt_of_le (Heap.lt_size e) (I.ok.rD x c BO hc)))).trans e1⟩
    · obtain⟨o',e1⟩:=I.base.there b o e hx;exact⟨o',(hs.2 b (Nat.ne_of_lt (Nat.lt_of_lt_of_le (Heap.lt_size e) (I.ok.rD x c BO hc)))).trans e1⟩
    · by_cases hj:j=i
      · subst hj;rw[hi] at e1;cases e1;rw[List.getElem?_set_self vH] at e2;cases e2;exact⟨u,r,.inr ⟨.inl hk,c,hc,oJ⟩⟩
      · rw[List.getElem?_set_ne (Ne.symm hj)] at e2;obtain⟨u',r',q⟩:=hl j y v' e1 e2 e3;refine⟨u',r',?_⟩;rcases q with q | ⟨k,c',e,z'⟩
        · exact .inl q
        · refine .inr ⟨k,c',e,z'.sameBut hs ?_⟩;rintro rfl;exact hj (BN hN e1 (I.ok.inj _ _ _ e hc▸hi))
    · by_cases zW:c'=c
      · subst zW;exact⟨_,oJ⟩
      · obtain⟨w2,z2⟩:=I.cell y c' e;exact⟨w2,z2.sameBut hs zW⟩
    · obtain⟨e,n,ne,nf,d⟩:=I.pin p hp;refine⟨(hs.2 p.1 ?_).trans e,n,ne,nf,d⟩;intro q;rw[q,Fl] at e;have q':oc=p.2:=Option.some.inj e;exact d w' (by rw[←q'];exact BP)
theorem ur{M:Model}{A:Around}{E:Value->Shared->Prop}{i:Nat}{x:Str}{v:V}{u:Value}{Q:Unit->Shared->Prop}(I:Inv X pins σ H s)(hN:X.N.Nodup)(hi:X.N[i]? = some x)(hx:Loc X.env.scope x)(r:RelV v u)
    (h:∀s',Inv X pins (σ.set i (some v)) H s'->Q () s') (hf:X.fn x=true\/X.env.scope.names.lookup x=some .local:=by first | exact .inl rfl | exact .inr rfl | assumption):wpAny M A (storeName X.env x u) Q E s:=
  Fi I hN hi hx r (fun s' I' _=>h s' I') hf
theorem Inv.k6{s':Shared}{ch:List Addr}(I:Inv X pins σ H s)(ho:s'.os=s.os)(u:Un (fH X.stack) ch H H' s.heap s'.heap)(aI:fU X.prog X.w H' s'.heap)(hg:AllBare s'.gens)
    (oH:∀b∈ch,(b∈X.ex\/X.bF.heap.objs.size<=b)/\b≠X.env.locals/\(∀x c,X.env.cells.lookup x=some c->c≠b)/\∀p∈X.pn++pins,p.1≠b):Inv X pins σ H' s':=by
  obtain⟨h',g',d',t',o'⟩:=s';have e:o'=s.os:=ho;subst e;exact I.call (g':=g') (t':=t') (d':=d') u aI hg oH
end
abbrev XK:=Value->Option Addr->Hp->Prop
abbrev St:=List (Option V)
abbrev VK:=V->Hp->Prop
abbrev TE:=St->Hp->VK->Prop
abbrev TT:=St->Hp->(Bool->Hp->Prop)->Prop
abbrev TA:=St->Hp->(List V->Hp->Prop)->Prop
structure Ends where
  nx:St->Hp->Prop
  rt:VK
  bk:St->Hp->Prop:=fun _ _=>False
  ct:St->Hp->Prop:=fun _ _=>False
abbrev TS:=Ends->St->Hp->Prop
def EP(X:Cx)(pins:List (Addr×Obj))(σ:St)(Q:VK)(u:Value)(s':Shared):Prop:=∃v H',Inv X pins σ H' s'/\RelV v u/\Q v H'
def TP(X:Cx)(pins:List (Addr×Obj))(σ:St)(Q:Bool->Hp->Prop)(b:Bool)(s':Shared):Prop:=∃H',Inv X pins σ H' s'/\Q b H'
def AP(X:Cx)(pins:List (Addr×Obj))(σ:St)(Q:List V->Hp->Prop)(us:List Value)(s':Shared):Prop:=∃vs H',Inv X pins σ H' s'/\Vals vs us/\Q vs H'
def SP(X:Cx)(pins:List (Addr×Obj))(D:Ends)(f:Flow)(s':Shared):Prop:=
  match f with
  | .next=>∃aq H',Inv X pins aq H' s'/\D.nx aq H'
  | .brk=>∃aq H',Inv X pins aq H' s'/\D.bk aq H'
  | .cont=>∃aq H',Inv X pins aq H' s'/\D.ct aq H'
  | .ret u=>∃v aq H',Inv X pins aq H' s'/\RelV v u/\D.rt v H'
def PE(X:Cx)(e:Expr)(t:TE):Prop:=
  ∀(pins:List (Addr×Obj))(s:Shared)(σ:St)(H:Hp)(Q:VK),Inv X pins σ H s->t σ H Q->wpAny (model X.prog X.w) X.A (eval e X.env) (EP X pins σ Q) X.xe s
def PT(X:Cx)(e:Expr)(t:TT):Prop:=
  ∀(pins:List (Addr×Obj))(s:Shared)(σ:St)(H:Hp)(Q:Bool->Hp->Prop),Inv X pins σ H s->t σ H Q->wpAny (model X.prog X.w) X.A (isTrue e X.env (eval e X.env)) (TP X pins σ Q) X.xe s
def PW(X:Cx)(e:Expr)(t:TT):Prop:=
  ∀(whole:Sem Value)(pins:List (Addr×Obj))(s:Shared)(σ:St)(H:Hp)(Q:Bool->Hp->Prop),Inv X pins σ H s->t σ H Q->wpAny (model X.prog X.w) X.A (isTrue e X.env whole) (TP X pins σ Q) X.xe s
theorem PW.pt{X:Cx}{e:Expr}{t:TT}(h:PW X e t):PT X e t:=h _
def PA(X:Cx)(es:List Expr)(t:TA):Prop:=
  ∀(pos:Pos)(pins:List (Addr×Obj))(s:Shared)(σ:St)(H:Hp)(Q:List V->Hp->Prop),Inv X pins σ H s->t σ H Q->wpAny (model X.prog X.w) X.A (spliced (backTo pos (starEach es X.env))) (AP X pins σ Q) X.xe s
def PS(X:Cx)(st:Stmt)(t:TS):Prop:=
  ∀(pins:List (Addr×Obj))(s:Shared)(σ:St)(H:Hp)(D:Ends),Inv X pins σ H s->t D σ H->wpAny (model X.prog X.w) X.A (exec st X.env) (SP X pins D) X.xe s
def jA(X:Cx)(st:List Stmt)(t:TS):Prop:=
  ∀(pins:List (Addr×Obj))(s:Shared)(σ:St)(H:Hp)(D:Ends),Inv X pins σ H s->t D σ H->wpAny (model X.prog X.w) X.A (execs st X.env) (SP X pins D) X.xe s
theorem aX{α:Type}{t:Sem α}{Q Q':α->Shared->Prop}{M:Model}{A:Around}{E:Value->Shared->Prop}{s:Shared}(h:wpAny M A t Q E s)(hQ:∀a s,Q a s->Q' a s):wpAny M A t Q' E s:=wpAny_mono h hQ fun _ _ x=>x
section
variable{X:Cx}
theorem bin{a b:Expr}{ta tb:TE}(ha:PE X a ta)(hb:PE X b tb){pins:List (Addr×Obj)}{s:Shared}{σ:St}{H:Hp}{R:V->V->Hp->Prop}(I:Inv X pins σ H s)(h:ta σ H fun x H1=>tb σ H1 fun y H2=>R x y H2)
    {α:Type}{Q:α->Shared->Prop}{f:Value->Value->Sem α}
    (hf:∀v u s2 x y H2,Inv X pins σ H2 s2->RelV x v->RelV y u->R x y H2->wpAny (model X.prog X.w) X.A (f v u) Q X.xe s2) :
    wpAny (model X.prog X.w) X.A (eval a X.env) (fun v aK=>wpAny (model X.prog X.w) X.A (eval b X.env) (fun u eW=>wpAny (model X.prog X.w) X.A (f v u) Q X.xe eW) X.xe aK) X.xe s:=by
  refine aX (ha pins s σ H _ I h) fun v s1 aE=>?_
  obtain⟨x,H1,I1,r1,q1⟩:=aE;refine aX (hb pins s1 σ H1 _ I1 q1) fun u s2 aE=>?_
  obtain⟨y,H2,I2,r2,q2⟩:=aE;exact hf v u s2 x y H2 I2 r1 r2 q2
def pK(i:Nat):TE:=fun σ H Q=>∃v,σ[i]? = some (some v)/\Q v H
def tC(v:V):TE:=fun _ H Q=>Q v H
theorem LJ{i:Nat}{x:Str}{pos:Pos}(hN:X.N[i]? = some x)(hv:BJ X.env.scope x)(hd:(x == ("__debug__" : Str))=false:=by decide)(jX:(x == ("__classdict__" : Str))=false:=by decide):PE X (.Name x pos) (pK i):=by
  intro pins s σ H Q I h;obtain⟨v,e,h⟩:=h;obtain⟨m,hn,hl⟩:=I.loc;obtain⟨u,r,l⟩:=hl i x v hN e hv;have fin:EP X pins σ Q u s:=⟨v,H,I,r,h⟩;rcases l with ⟨hk,hm⟩ | ⟨hk,c,hc,qz⟩
  · exact wpAny_Name (wpAny_loadName_local I.ok.kind hk hn hm fin) hd
  · rcases hk with hk | hk
    · exact wpAny_Name (wpAny_loadName_cell I.ok.kind hk hc qz fin) hd
    · exact wpAny_Name (wpAny_loadName_free I.ok.kind hk hc qz fin jX) hd
theorem zh{i j pos}:PE X (.Constant (.int i) j pos) (tC (.int i)):=fun _ _ _ H _ I h=>wpAny_Constant_int ⟨.int i,H,I.tok _,⟨_,rfl⟩,h⟩
theorem lP{b j pos}:PE X (.Constant (.bool b) j pos) (tC (.bl b)):=fun _ _ _ H _ I h=>Constant_bool ⟨.bl b,H,I,rfl,h⟩
theorem LK{j pos}:PE X (.Constant .none j pos) (tC .bO):=fun _ _ _ H _ I h=>Constant_none ⟨.bO,H,I,rfl,h⟩
theorem eE{x j pos}:PE X (.Constant (.str x) j pos) (tC (.str x)):=fun _ _ _ H _ I h=>Calls.Constant_str ⟨.str x,H,I.tok _,⟨_,rfl⟩,h⟩
def Gl(X:Cx)(x:Str):Prop:=X.env.kindOf x=some .globalImplicit
theorem rG{E:Value->Shared->Prop}{pins:List (Addr×Obj)}{s:Shared}{σ:St}{H:Hp}{x:Str}{u:Value}{pos:Pos}{Q:Value->Shared->Prop}(I:Inv X pins σ H s)(hg:Gl X x)(hm:X.mg x=some u)(h:Q u s)
    (hd:(x == ("__debug__" : Str))=false:=by decide):wpAny (model X.prog X.w) X.A (eval (.Name x pos) X.env) Q E s:=
  Calls.Name_function_global I.ok.kind hg (Calls.loadGlobal_global (by rw[I.ok.glob];exact I.mod.glob.keeps I.bk) hm h) hd
theorem vJ{E:Value->Shared->Prop}{pins:List (Addr×Obj)}{s:Shared}{σ:St}{H:Hp}{x:Str}{u:Value}{pos:Pos}{Q:Value->Shared->Prop}(I:Inv X pins σ H s)(hg:Gl X x)(hm:X.mg x=none)(hv:bootBuiltins x=some u)(h:Q u s)
    (hn:x≠"__name__":=by decide) (hd:(x == ("__debug__" : Str))=false:=by decide):wpAny (model X.prog X.w) X.A (eval (.Name x pos) X.env) Q E s:=by
  obtain⟨mb,h1,h2⟩:=I.mod.blt;exact Calls.Name_function_global I.ok.kind hg (Calls.loadGlobal_builtin (by rw[I.ok.glob];exact I.mod.glob.keeps I.bk) hm (by rw[I.ok.blt];exact h1.keeps I.bk) ((h2 x hn).trans hv) h) hd
theorem zX{x:Str}{v:V}{u:Value}{pos:Pos}(hg:Gl X x)(hm:X.mg x=some u)(r:RelV v u)(hd:(x == ("__debug__" : Str))=false:=by decide):PE X (.Name x pos) (tC v):=
  fun _ _ _ H _ I h=>rG I hg hm ⟨v,H,I,r,h⟩ hd
variable{a b:Expr}{ta tb:TE}{pos:Pos}
def PC(X:Cx)(op:CmpOp)(a b:Expr)(t:TE):Prop:=
  ∀(pins:List (Addr×Obj))(s:Shared)(σ:St)(H:Hp)(Q:VK),Inv X pins σ H s->t σ H Q->
    wpAny (model X.prog X.w) X.A (eval a X.env) (fun v aK=>wpAny (model X.prog X.w) X.A (eval b X.env) (fun u eW=>wpAny (model X.prog X.w) X.A (compareOp op v u) (EP X pins σ Q) X.xe eW) X.xe aK) X.xe s
theorem Fo(b:Expr){op:CmpOp}(h:op≠.In)(h2:op≠.NotIn):behindInMarks op b=false:=by
  have e1:(op == CmpOp.In)=false:=by cases op<;>first | rfl | exact absurd rfl h
  have e2:(op == CmpOp.NotIn)=false:=by cases op<;>first | rfl | exact absurd rfl h2
  cases b<;>simp[behindInMarks,e1,e2]
def LL(ta:TE):TE:=fun σ H Q=>ta σ H fun x H1=>Q (.bl (!decide (x = .bO))) H1
theorem RelV.ny{x:V}{v:Value}(r:RelV x v):(v == Value.none)=decide (x = .bO):=by
  cases x with
  | bO=>cases r;rfl
  | bl _=>cases r;rfl
  | int _=>obtain⟨t,rfl⟩:=r;rfl
  | str _=>obtain⟨t,rfl⟩:=r;rfl
  | lK _=>obtain⟨t,rfl⟩:=r;rfl
  | vC _=>obtain⟨t,rfl⟩:=r;rfl
  | ref _=>cases r;rfl
  | ty _=>cases r;rfl
theorem LM{j pos'}(ha:PE X a ta):PC X .IsNot a (.Constant .none j pos') (LL ta):=by
  intro pins s σ H Q I h;refine aX (ha pins s σ H _ I h) fun v s1 aE=>?_
  obtain⟨x,H1,I1,r1,q1⟩:=aE;exact Constant_none (isnot_none_gen ⟨.bl _,H1,I1,by rw[r1.ny];rfl,q1⟩)
def tB(t:TE):TT:=fun σ H Q=>t σ H fun x H1=>∃c,x = .bl c/\Q c H1
theorem Fq{op:CmpOp}{t:TE}(h:PC X op a b t)(h1:behindInMarks op b=false:=by first | exact Fo _ (by decide) (by decide) | rfl):PE X (.Compare a [op] [b] pos) t:=fun pins s σ H Q I hw=>wpAny_Compare1 (h pins s σ H Q I hw) h1
theorem qA{op:CmpOp}{t:TE}(h:PC X op a b t)(h1:behindInMarks op b=false:=by first | exact Fo _ (by decide) (by decide) | rfl):PT X (.Compare a [op] [b] pos) (tB t):=by
  intro pins s σ H Q I hw;refine wpAny_isTrue_Compare1 (aX (h pins s σ H _ I hw) fun v s1 h1=>aX h1 fun u s2 h2=>aX h2 fun c s3 aE=>?_) h1;obtain⟨x,H1,I1,r1,q1⟩:=aE;obtain⟨d,rfl,q⟩:=q1;cases r1;exact wpAny_truthy_bool ⟨H1,I1,q⟩
theorem oK{e:Expr}{t:TE}(h:PE X e t)(he:∀whole,isTrue e X.env whole=(do let v ←whole;standAt e.pos;holding [v] (truthy v)):=by intro _;rfl):PT X e (tB t):=by
  intro pins s σ H Q I hw;refine isTrue_plain (aX (h pins s σ H _ I hw) fun v s1 aE=>?_) (he _);obtain⟨x,H1,I1,r1,q1⟩:=aE;obtain⟨d,rfl,q⟩:=q1;cases r1;exact wpAny_truthy_bool ⟨H1,I1,q⟩
variable{tA zY:TT}{rest:List Expr}
def vK(t u:TT):TT:=fun σ H Q=>t σ H fun c H1=>if c=true then u σ H1 Q else Q false H1
def LN(t u:TT):TT:=fun σ H Q=>t σ H fun c H1=>if c=true then Q true H1 else u σ H1 Q
def vL(t:TT):TT:=fun σ H Q=>t σ H fun c H1=>Q (!c) H1
theorem pL(ha:PT X a tA):PW X (.BoolOp .And [a] pos) tA:=by
  intro wh pins s σ H Q I h;refine isTrue_and (aX (ha pins s σ H Q I h) fun c s1 e=>?_);cases c with
  | true=>exact isTrue_and_nil e
  | false=>exact e
theorem zZ(ha:PT X a tA):PW X (.BoolOp .Or [a] pos) tA:=by
  intro wh pins s σ H Q I h;refine isTrue_or (aX (ha pins s σ H Q I h) fun c s1 e=>?_);cases c with
  | false=>exact isTrue_or_nil e
  | true=>exact e
theorem pM(ha:PT X a tA)(hb:PW X (.BoolOp .And (b::rest) pos) zY):PW X (.BoolOp .And (a::b::rest) pos) (vK tA zY):=by
  intro wh pins s σ H Q I h;refine isTrue_and (aX (ha pins s σ H _ I h) fun c s1 aE=>?_);obtain⟨H1,I1,q1⟩:=aE;cases c with
  | true=>exact hb wh pins s1 σ H1 Q I1 q1
  | false=>exact⟨H1,I1,q1⟩
theorem vM(ha:PT X a tA)(hb:PW X (.BoolOp .Or (b::rest) pos) zY):PW X (.BoolOp .Or (a::b::rest) pos) (LN tA zY):=by
  intro wh pins s σ H Q I h;refine isTrue_or (aX (ha pins s σ H _ I h) fun c s1 aE=>?_);obtain⟨H1,I1,q1⟩:=aE;cases c with
  | true=>exact⟨H1,I1,q1⟩
  | false=>exact hb wh pins s1 σ H1 Q I1 q1
theorem pN(ha:PT X a tA):PT X (.UnaryOp .Not a pos) (vL tA):=by
  intro pins s σ H Q I h;exact isTrue_not (ha pins s σ H (fun c H1=>Q (!c) H1) I h)
def LO(ta tb:TE):TE:=fun σ H Q=>ta σ H fun x H1=>∃c,x = .bl c/\if c=true then tb σ H1 Q else Q (.bl false) H1
theorem Aa{op}{t:TE}(h:PE X a t):PE X (.BoolOp op [a] pos) t:=fun pins s σ H Q I hw=>BoolOp_one (h pins s σ H Q I hw)
theorem rH(ha:PE X a ta)(hb:PE X (.BoolOp .And (b::rest) pos) tb):PE X (.BoolOp .And (a::b::rest) pos) (LO ta tb):=by
  intro pins s σ H Q I h;refine BoolOp_and (aX (ha pins s σ H _ I h) fun v s1 aE=>?_);obtain⟨x,H1,I1,r1,q1⟩:=aE;obtain⟨c,rfl,q1⟩:=q1;cases r1;refine wpAny_truthy_bool ?_;cases c with
  | true=>exact hb pins s1 σ H1 Q I1 q1
  | false=>exact⟨.bl false,H1,I1,rfl,q1⟩
def LP(t:TT)(ta tb:TE):TE:=fun σ H Q=>t σ H fun c H1=>if c=true then ta σ H1 Q else tb σ H1 Q
theorem LQ{c:Expr}(hc:PT X c tA)(ha:PE X a ta)(hb:PE X b tb):PE X (.IfExp c a b pos) (LP tA ta tb):=by
  intro pins s σ H Q I h;refine wpAny_IfExp (aX (hc pins s σ H _ I h) fun d s1 aE=>?_);obtain⟨H1,I1,q1⟩:=aE;cases d with
  | true=>exact ha pins s1 σ H1 Q I1 q1
  | false=>exact hb pins s1 σ H1 Q I1 q1
end
def ao(K:PySem.W.Frag)(H:Hp)(a:Addr)(xs:List V):Prop:=
  Rd H a (.lst xs)\/
    ∃(o:Obj)(its:Array Value)(n:Nat),K.lookup a=some o/\o.cls = .type "list"/\o.dict=none/\o.data = .seq its n/\its.size<=sizeLine/\Vals xs its.toList
def aG(K:PySem.W.Frag)(H:Hp)(a:Addr)(xs:List V):Prop:=
  Rd H a (.tup xs)\/
    ∃(o:Obj)(its:Array Value)(n:Nat),K.lookup a=some o/\o.cls = .type "tuple"/\o.data = .seq its n/\its.size<=sizeLine/\Vals xs its.toList
def vN:Value->Option V
  | .none=>some .bO
  | .bool b=>some (.bl b)
  | .int i _=>some (.int i)
  | .str x _=>some (.str x)
  | .bytes b _=>some (.lK b)
  | .float b _=>some (.vC b)
  | .ref a=>some (.ref a)
  | .type n=>some (.ty n)
  | _=>none
theorem RelV.abs{x:V}{u:Value}(r:RelV x u):vN u=some x:=by
  cases x with
  | bO=>cases r;rfl
  | bl _=>cases r;rfl
  | int _=>obtain⟨t,rfl⟩:=r;rfl
  | str _=>obtain⟨t,rfl⟩:=r;rfl
  | lK _=>obtain⟨t,rfl⟩:=r;rfl
  | vC _=>obtain⟨t,rfl⟩:=r;rfl
  | ref _=>cases r;rfl
  | ty _=>cases r;rfl
theorem RelV.inj{x y:V}{u:Value}(r:RelV x u)(q:RelV y u):x=y:=Option.some.inj (r.abs.symm.trans q.abs)
theorem Vals.inj:∀{xs ys:List V}{us:List Value},Vals xs us->Vals ys us->xs=ys
  | _,_,_,.nil,.nil=>rfl
  | _,_,_,.cons r t,.cons r' t'=>by rw[r.inj r',Vals.inj t t']
section
variable{X:Cx}{pins:List (Addr×Obj)}{σ:St}{H:Hp}{s:Shared}{a:Addr}{xs ys:List V}
theorem ao.of{K:PySem.W.Frag}(h:H a=some (.lst xs)):ao K H a xs:=.inl (.inl h)
theorem aG.of{K:PySem.W.Frag}(h:H a=some (.tup xs)):aG K H a xs:=.inl (.inl h)
theorem Inv.list(I:Inv X pins σ H s)(h:ao X.K H a xs):∃its:List Value,Vals xs its/\PlainL s.heap a its.toArray/\xs.length<=sizeLine:=by
  rcases h with h | ⟨o,its,n,hk,hc,hd,hs,hz,r⟩
  · obtain⟨z,its,n,r,e⟩:=h.ok I.aI;exact⟨its,r,⟨_,n,e,rfl,rfl,rfl⟩,z⟩
  · refine⟨its.toList,r,⟨o,n,I.gQ a o hk,hc,hd,by simpa using hs⟩,?_⟩;have e:=r.length;simp only[Array.length_toList] at e;omega
theorem Inv.tuple(I:Inv X pins σ H s)(h:aG X.K H a xs):∃its:List Value,Vals xs its/\IsTup s.heap a its.toArray/\xs.length<=sizeLine:=by
  rcases h with h | ⟨o,its,n,hk,hc,hs,hz,r⟩
  · obtain⟨z,its,r,p⟩:=h.ok I.aI;exact⟨its,r,p,z⟩
  · refine⟨its.toList,r,⟨o,I.gQ a o hk,hc,n,by simpa using hs⟩,?_⟩;have e:=r.length;simp only[Array.length_toList] at e;omega
theorem Inv.f9(I:Inv X pins σ H s)(h:ao X.K H a xs)(h':ao X.K H a ys):xs=ys:=by
  obtain⟨its,r,⟨o,n,e,_,_,d⟩,_⟩:=I.list h;obtain⟨its',r',⟨o',n',e',_,_,d'⟩,_⟩:=I.list h';rw[e] at e';cases e';rw[d] at d';injection d' with d1 _
  have:its=its':=by simpa using congrArg Array.toList d1
  subst this;exact r.inj r'
theorem Inv.lQ(I:Inv X pins σ H s)(h:aG X.K H a xs)(h':aG X.K H a ys):xs=ys:=by
  obtain⟨its,r,⟨o,e,_,n,d⟩,_⟩:=I.tuple h;obtain⟨its',r',⟨o',e',_,n',d'⟩,_⟩:=I.tuple h';rw[e] at e';cases e';rw[d] at d';injection d' with d1 _
  have:its=its':=by simpa using congrArg Array.toList d1
  subst this;exact r.inj r'
end
abbrev Cx.iP(X:Cx)(E:Value->Shared->Prop):Cx:={ X with xe:=E }
abbrev Cx.uu(X:Cx):Cx:=X.iP fun _ _=>False
theorem Cx.Ok.iP{X:Cx}(ok:X.Ok)(E:Value->Shared->Prop):(X.iP E).Ok:=
  ⟨ok.mod,ok.kind,ok.glob,ok.blt,ok.above,ok.inj,ok.has,ok.rD,ok.hd,ok.frames,ok.uo,ok.zU,ok.bs,ok.nu,ok.kq,ok.lO,ok.f7,ok.pH⟩
theorem Cx.Ok.eX{X:Cx}{E:Value->Shared->Prop}(ok:(X.iP E).Ok):X.Ok:=
  ⟨ok.mod,ok.kind,ok.glob,ok.blt,ok.above,ok.inj,ok.has,ok.rD,ok.hd,ok.frames,ok.uo,ok.zU,ok.bs,ok.nu,ok.kq,ok.lO,ok.f7,ok.pH⟩
section
variable{X:Cx}{pins:List (Addr×Obj)}{σ:St}{H:Hp}{s:Shared}{E:Value->Shared->Prop}
theorem Inv.iP(I:Inv X pins σ H s)(E:Value->Shared->Prop):Inv (X.iP E) pins σ H s:=⟨I.ok.iP E,I.os,I.bare,I.base,I.loc,I.cell,I.free,I.cH,I.pin,I.aI,I.len⟩
theorem Inv.eX(I:Inv (X.iP E) pins σ H s):Inv X pins σ H s:=⟨I.ok.eX,I.os,I.bare,I.base,I.loc,I.cell,I.free,I.cH,I.pin,I.aI,I.len⟩
theorem SP.eX{D:Ends}{f:Flow}{s':Shared}(h:SP (X.iP E) pins D f s'):SP X pins D f s':=by
  cases f with
  | next=>obtain⟨aq,H',I,q⟩:=h;exact⟨aq,H',I.eX,q⟩
  | brk=>obtain⟨aq,H',I,q⟩:=h;exact⟨aq,H',I.eX,q⟩
  | cont=>obtain⟨aq,H',I,q⟩:=h;exact⟨aq,H',I.eX,q⟩
  | ret u=>obtain⟨v,aq,H',I,r,q⟩:=h;exact⟨v,aq,H',I.eX,r,q⟩
theorem jA.uu{st:List Stmt}{t:TS}(h:jA X.uu st t):jA X st t:=fun pins s σ H D I hw=>
  wpAny_mono (h pins s σ H D (I.iP _) hw) (fun _ _ q=>q.eX) fun _ _ z=>False.elim z
end
section
variable{X:Cx}{st:Stmt}{rest:List Stmt}{t u:TS}{e:Expr}{te:TE}{pos:Pos}
def jY:TS:=fun D σ H=>D.nx σ H
def rJ(t u:TS):TS:=fun D σ H=>t { D with nx:=u D } σ H
theorem cX:jA X [] jY:=fun _ _ σ H _ I h=>wpAny_execs_nil ⟨σ,H,I,h⟩
theorem zc(h1:PS X st t)(h2:jA X rest u):jA X (st::rest) (rJ t u):=by
  intro pins s σ H D I h;refine wpAny_execs_cons (aX (h1 pins s σ H { D with nx:=u D } I h) fun f s1 q=>?_);cases f with
  | next=>
    obtain⟨aq,H',I',q⟩:=q;exact h2 pins s1 aq H' D I' q
  | ret v=>exact q
  | brk=>exact q
  | cont=>exact q
theorem zi(h1:PS X st t):jA X [st] t:=by
  intro pins s σ H D I h;refine wpAny_execs_cons (aX (h1 pins s σ H D I h) fun f s1 q=>?_);cases f with
  | next=>exact wpAny_execs_nil q
  | ret v=>exact q
  | brk=>exact q
  | cont=>exact q
theorem Inv.quiet{pins:List (Addr×Obj)}{σ:St}{H:Hp}{s:Shared}(I:Inv X pins σ H s):interactive X.env=false:=by simp[interactive,I.ok.kind]
def LR(te:TE):TS:=fun D σ H=>te σ H fun _ H1=>D.nx σ H1
theorem gA(he:PE X e te)(hs:swapsWith e none pos.line X.env=pure false:=by rfl):PS X (.Expr e pos) (LR te):=by
  intro pins s σ H D I h;exact wpAny_Expr_any (aX (he pins s σ H _ I h) fun v s1 ⟨x,H1,I1,r1,q1⟩=>⟨σ,H1,I1,q1⟩) I.quiet hs
def BQ(te:TE):TS:=fun D σ H=>te σ H D.rt
theorem zz(he:PE X e te):PS X (.Return (some e) pos) (BQ te):=by
  intro pins s σ H D I h;exact wpAny_Return_some (aX (he pins s σ H _ I h) fun v s1 ⟨x,H1,I1,r1,q1⟩=>⟨x,σ,H1,I1,r1,q1⟩)
def nA(c:TT)(t u:TS):TS:=fun D σ H=>c σ H fun b H1=>if b=true then t D σ H1 else u D σ H1
theorem cR{c:Expr}{a b:List Stmt}{tc:TT}(hc:PT X c tc)(ha:jA X a t)(hb:jA X b u):PS X (.If c a b pos) (nA tc t u):=by
  intro pins s σ H D I h;refine wpAny_If (aX (hc pins s σ H _ I h) fun d s1 aE=>?_);obtain⟨H1,I1,q1⟩:=aE;cases d with
  | true=>exact ha pins s1 σ H1 D I1 q1
  | false=>exact hb pins s1 σ H1 D I1 q1
def LS:TS:=fun _ _ _=>False
theorem LU:PS X st LS:=fun _ _ _ _ _ _ h=>h.elim
end
abbrev TG:=V->St->Hp->(St->Hp->Prop)->Prop
abbrev qB:=List V->St->Hp->(St->Hp->Prop)->Prop
def PG(X:Cx)(target:Expr)(t:TG):Prop:=
  ∀(pins:List (Addr×Obj))(s:Shared)(σ:St)(H:Hp)(v:V)(u:Value)(Q:St->Hp->Prop),Inv X pins σ H s->RelV v u->t v σ H Q->
    wpAny (model X.prog X.w) X.A (assign target X.env u) (fun _ s'=>∃aq H',Inv X pins aq H' s'/\Q aq H') X.xe s
def vO(X:Cx)(ts:List Expr)(t:qB):Prop:=
  ∀(pins:List (Addr×Obj))(s:Shared)(σ:St)(H:Hp)(vs:List V)(us:List Value)(Q:St->Hp->Prop),Inv X pins σ H s->Vals vs us->t vs σ H Q->
    wpAny (model X.prog X.w) X.A (assignInOrder ((assignEach ts X.env).map (·.2)) us) (fun _ s'=>∃aq H',Inv X pins aq H' s'/\Q aq H') X.xe s
section
variable{X:Cx}{pos:Pos}
def zx(i:Nat):TG:=fun v σ H Q=>Q (σ.set i (some v)) H
theorem ig{i:Nat}{x:Str}(hN:X.N.Nodup)(hi:X.N[i]? = some x)(hx:Loc X.env.scope x)(hf:X.fn x=true\/X.env.scope.names.lookup x=some .local:=by first | exact .inl rfl | exact .inr rfl | assumption):PG X (.Name x pos) (zx i):=by
  intro pins s σ H v u Q I r h;exact wpAny_assign_Name (ur I hN hi hx r (fun s' I'=>⟨_,H,I',h⟩) hf)
def BR:qB:=fun vs σ H Q=>vs = []/\Q σ H
def LV(t:TG)(u:qB):qB:=fun vs σ H Q=>∃v r,vs=v::r/\t v σ H fun aq H'=>u r aq H' Q
theorem mO:vO X [] BR:=by
  intro pins s σ H vs us Q I r h;obtain⟨e,h⟩:=h;subst e;cases r;exact assignInOrder_nil ⟨σ,H,I,h⟩
theorem gZ{e:Expr}{es:List Expr}{t:TG}{u:qB}(h1:PG X e t)(h2:vO X es u)
    (hs:(assignEach (e::es) X.env).map (·.2)=assign e X.env::(assignEach es X.env).map (·.2):=by rfl):vO X (e::es) (LV t u):=by
  intro pins s σ H vs us Q I r h;obtain⟨v,vr,e1,h⟩:=h;subst e1;cases r with
  | cons r rr=>
    rw[hs];refine assignInOrder_cons (aX (h1 pins s σ H _ _ _ I r h) fun _ s1 aE=>?_);obtain⟨oM,H1,I1,q1⟩:=aE;exact h2 pins s1 oM H1 _ _ Q I1 rr q1
def vP(K:PySem.W.Frag)(n:Nat)(t:qB):TG:=fun v σ H Q=>∃a xs,v = .ref a/\aG K H a xs/\xs.length=n/\t xs σ H Q
theorem LW{es:List Expr}{k:Nat}{t:qB}{n:Nat}(hc:X.calm=true)(h:vO X es t)
    (hn:(assignEach es X.env).length=n:=by rfl) (lS:(assignEach es X.env).findIdx? (·.1)=none:=by rfl):PG X (.Tuple es k pos) (vP X.K n t):=by
  intro pins s σ H v u Q I r hw;obtain⟨a,xs,e1,hq,hl,hw⟩:=hw;subst e1;cases r;obtain⟨its,rv,ht,hz⟩:=I.tuple hq;refine assign_Tuple_tuple (I.ok.hd hc) ht (by simp[hn,←hl,rv.length]) lS fun h' hx=>?_
  have I1:Inv X pins σ H { s with heap:=h' }:=I.kept (t':=s.toks) fun b o e=>hx b o (Nat.ne_of_lt (Heap.lt_size e)) e
  exact h pins _ σ H xs _ Q I1 (by simpa using rv) hw
def rK(te:TE)(g:TG):TS:=fun D σ H=>te σ H fun x H1=>g x σ H1 D.nx
theorem LX{i:Nat}{x:Str}{e:Expr}{te:TE}{pos':Pos}(hN:X.N.Nodup)(hi:X.N[i]? = some x)(hx:Loc X.env.scope x)(he:PE X e te)(hs:swapsWith e (some (.Name x pos')) pos.line X.env=pure false:=by rfl)(hf:X.fn x=true\/X.env.scope.names.lookup x=some .local:=by first | exact .inl rfl | exact .inr rfl | assumption) :
    PS X (.Assign [.Name x pos'] e pos) (rK te (zx i)):=by
  intro pins s σ H D I h;refine wpAny_Assign_Name (aX (he pins s σ H _ I h) fun v s1 aE=>?_) hs;obtain⟨y,H1,I1,r1,q1⟩:=aE;exact ur I1 hN hi hx r1 (fun s2 I2=>⟨_,H1,I2,q1⟩) hf
def BS(i j:Nat)(ta:TA):TS:=fun D σ H=>ta σ H fun vs H1=>∃v w,vs = [v,w]/\D.nx ((σ.set i (some v)).set j (some w)) H1
theorem LY{i j:Nat}{x y:Str}{a b:Expr}{ta:TA}{px py pt:Pos}{kt k2 vQ}(hc:X.calm=true)(hN:X.N.Nodup)(hi:X.N[i]? = some x)(hj:X.N[j]? = some y)(jZ:i≠j)
    (hx:X.env.scope.names.lookup x=some .local) (hy:X.env.scope.names.lookup y=some .local) (ha:PA X [a,b] ta)
    (hw:swappedStores [.Tuple [.Name x px,.Name y py] kt pt] (.Tuple [a,b] k2 vQ) X.env=pure (some [x,y]))
    (hs:swapsWithSole [.Tuple [.Name x px,.Name y py] kt pt] (.Tuple [a,b] k2 vQ) pos.line X.env=pure false:=by rfl) :
    PS X (.Assign [.Tuple [.Name x px,.Name y py] kt pt] (.Tuple [a,b] k2 vQ) pos) (BS i j ta):=by
  intro pins s σ H D I h;rw[exec_Assign_arm];refine wpAny_bind (wpAny_standAt ?_);rw[hs];refine wpAny_bind (wpAny_pure ?_);rw[if_neg (by decide)];refine wpAny_bind (Tuple_ (aX (ha _ pins s σ H _ I h) fun us s1 aE=>?_));obtain⟨vs,H1,I1,r1,q1⟩:=aE;obtain⟨v,w,e1,q1⟩:=q1;subst e1;obtain⟨u1,u2,rfl,rv,fj⟩:∃u1 u2,us = [u1,u2]/\RelV v u1/\RelV w u2:=by
    cases r1 with
    | cons p q=>
      cases q with
      | cons p' q'=>
        cases q';exact⟨_,_,rfl,p,p'⟩
  refine wpAny_newObj_type ?_ (by show 2<=sizeLine;decide);have I2:Inv X pins σ H1 { s1 with heap:=s1.heap.push { cls:=.type "tuple",data:=.seq [u1,u2].toArray } }:=I1.kept (t':=s1.toks) fun b o e=>Heap.get?_push_of_some _ e
  rw[hw];refine wpAny_bind (wpAny_pure ?_);show wpAny (model X.prog X.w) X.A (do rule "assign.swapped-stores";let items ←unpackItems (.ref s1.heap.objs.size) 2 none;assignInOrder [fun v=>bindName X.env y v,fun v=>bindName X.env x v] items.reverse;pure Flow.next) _ _ _;refine wpAny_bind (wpAny_rule (wpAny_bind (unpackItems_tuple (items:=#[u1,u2]) (I.ok.hd hc) (IsTup.new s1.heap _) fun h' BU=>?_)));have I3:=I2.kept (h':=h') (t':=s1.toks) fun b o e=>BU b o (Nat.ne_of_lt (Heap.lt_size e)) e
  show wpAny _ _ (assignInOrder [fun v=>bindName X.env y v,fun v=>bindName X.env x v] [u2,u1] >>= fun _=>pure Flow.next) _ _ _;refine wpAny_bind (assignInOrder_cons (wpAny_bindName (ur I3 hN hj (.inl hy) fj (fun s2 I4=>?_) (.inr hy))));refine assignInOrder_cons (wpAny_bindName (ur I4 hN hi (.inl hx) rv (fun s3 I5=>assignInOrder_nil (wpAny_pure ?_)) (.inr hx)));rw[List.set_comm _ _ (Ne.symm jZ)] at I5;exact⟨_,H1,I5,q1⟩
end
section
variable{X:Cx}{pos:Pos}
def LZ(c:TT)(tb:TS):TS:=fun D σ H=>∃W:Nat->St->Hp->Prop,(∃m,W m σ H)/\∀m σ H,W m σ H->
  c σ H fun b H1=>if b=true then ∃N:St->Hp->Prop,(∀aq H',N aq H'->∃m',m'<m/\W m' aq H')/\tb { D with nx:=N,ct:=N,bk:=D.nx } σ H1 else D.nx σ H1
theorem uv{c:Expr}{body:List Stmt}{tc:TT}{tb:TS}(hp:PassesOwn (model X.prog X.w) X.A X.env X.xe)(hc:PT X c tc)(hb:jA X body tb):PS X (.While c body [] pos) (LZ tc tb):=by
  intro pins s σ H D I h;obtain⟨W,⟨m0,w0⟩,turn⟩:=h;refine wpAny_While (codeAny_whileLoop (fun n s'=>∃aq H',Inv X pins aq H' s'/\W n aq H') ?_ m0 ⟨σ,H,I,w0⟩);rintro n s1 ⟨oM,H1,I1,w1⟩;refine wpAny_passesOwn hp (aX (hc pins s1 oM H1 _ I1 (turn n oM H1 w1)) fun b s2 aE=>?_);obtain⟨H2,I2,q2⟩:=aE;cases b with
  | true=>
    obtain⟨N,hN,q2⟩:=q2;rw[if_pos rfl];refine wpAny_passesOwn hp (aX (hb pins s2 oM H2 _ I2 q2) fun f s3 q3=>?_);cases f with
    | next=>
      obtain⟨iQ,H3,I3,n3⟩:=q3;obtain⟨m',hm,w3⟩:=hN iQ H3 n3;exact⟨m',hm,iQ,H3,I3,w3⟩
    | cont=>
      obtain⟨iQ,H3,I3,n3⟩:=q3;obtain⟨m',hm,w3⟩:=hN iQ H3 n3;exact⟨m',hm,iQ,H3,I3,w3⟩
    | brk=>exact q3
    | ret v=>exact q3
  | false=>
    rw[if_neg Bool.false_ne_true];exact wpAny_execs_nil ⟨oM,H2,I2,q2⟩
end
structure It where
  go:Nat->Hp->Prop
  mP:Nat->Hp->V->Hp->Prop
  stop:Nat->Hp->Prop
def d8(X:Cx)(pins:List (Addr×Obj))(H:Hp)(b:Addr):Prop:=
  H b=none/\b≠X.env.locals/\b ∉ X.fs/\(b∈X.ex\/X.bF.heap.objs.size<=b)/\(∀x c,X.env.cells.lookup x=some c->c≠b)/\∀p∈X.pn++pins,p.1≠b
theorem Inv.jh{X:Cx}{pins:List (Addr×Obj)}{σ:St}{H H':Hp}{s:Shared}{b:Addr}(I:Inv X pins σ H s)(hb:s.heap.objs.size<=b)(hn:H' b=none):d8 X pins H' b:=by
  refine⟨hn,Nat.ne_of_gt (Nat.lt_of_lt_of_le I.lt hb),I.BL hb,.inr (Nat.le_trans I.sz hb),fun x c e z=>?_,fun p hp z=>?_⟩
  · obtain⟨v,q⟩:=I.cell x c e;exact absurd (Nat.lt_of_lt_of_le q.lt (by rw[z];exact hb)) (Nat.lt_irrefl _)
  · exact absurd (Nat.lt_of_lt_of_le (Heap.lt_size (I.pin p hp).1) (by rw[z];exact hb)) (Nat.lt_irrefl _)
structure Turn(P:Program)(w:World)(K:PySem.W.Frag)(tg:Expr)(J:It)(fp:List Addr)(it:Addr)(tn:Nat->Heap->Prop):Prop where
  mem:it∈fp
  obj:∀i h,tn i h->∀b∈fp,∃o,h.get? b=some o/\∀v,o.data≠.cell v
  keep:∀i h h',tn i h->(∀b∈fp,∀o,h.get? b=some o->h'.get? b=some o)->tn i h'
  item:∀(X:Cx),X.prog=P->X.w=w->X.K=K->X.calm=true->∀(i:Nat)(pins:List (Addr×Obj))(s:Shared)(σ:St)(H:Hp)(E:Value->Shared->Prop),Inv X pins σ H s->(∀b∈fp,d8 X pins H b)->tn i s.heap->J.go i H->
    wpAny (model P w) X.A (pyNext (.ref it)) (fun r s1=>∃u,r=some u/\
      wpAny (model P w) X.A (letOwnedTupleGo tg (.ref it) u) (fun _ s2=>∃x H',Inv X pins σ H' s2/\RelV x u/\J.mP i H x H'/\tn (i+1) s2.heap/\∀b∈fp,H' b=none) E s1) E s
  done:∀(X:Cx),X.prog=P->X.w=w->X.K=K->X.calm=true->∀(i:Nat)(pins:List (Addr×Obj))(s:Shared)(σ:St)(H:Hp)(E:Value->Shared->Prop),Inv X pins σ H s->(∀b∈fp,d8 X pins H b)->tn i s.heap->J.stop i H->
    wpAny (model P w) X.A (pyNext (.ref it)) (fun r s1=>r=none/\Inv X pins σ H s1) E s
  self:∀(A:Around)(i:Nat)(s:Shared)(Q:Value->Shared->Prop)(E:Value->Shared->Prop),tn i s.heap->Q (.ref it) s->wpAny (model P w) A (pyIter (.ref it)) Q E s
abbrev TI:=St->Hp->(It->Hp->Prop)->Prop
def BV(X:Cx)(pins:List (Addr×Obj))(σ:St)(tg:Expr)(R:It->Hp->Prop)(rL:Value)(s2:Shared):Prop:=
  ∃(it:Addr)(fp:List Addr)(tn:Nat->Heap->Prop)(J:It)(H':Hp),rL = .ref it/\Inv X pins σ H' s2/\Turn X.prog X.w X.K tg J fp it tn/\tn 0 s2.heap/\(∀b∈fp,d8 X pins H' b)/\R J H'
def PI(X:Cx)(tg iter:Expr)(wi:TI):Prop:=
  ∀(pins:List (Addr×Obj))(s:Shared)(σ:St)(H:Hp)(R:It->Hp->Prop),Inv X pins σ H s->wi σ H R->
    wpAny (model X.prog X.w) X.A (eval iter X.env) (fun v s1=>wpAny (model X.prog X.w) X.A (pyIter v) (BV X pins σ tg R) X.xe s1) X.xe s
theorem Ab{M:Model}{A:Around}{E:Value->Shared->Prop}{s:Shared}{tg:Expr}{it:Addr}{u:Value}{o:Obj}{n:String}{vs:Array Value}{Q:Unit->Shared->Prop}(ho:s.heap.get? it=some o)(hc:o.cls = .type n)(hd:o.data = .fields vs)
    (hn : ["enumerate","zip","dict_itemiterator","dict_reverseitemiterator","odict_iterator","itertools.zip_longest","itertools.pairwise"].contains n=false) (hQ:Q () s):wpAny M A (letOwnedTupleGo tg (.ref it) u) Q E s:=by
  unfold letOwnedTupleGo;cases tg<;>first
    | exact wpAny_pure hQ
    | (cases u<;>first
        | exact wpAny_pure hQ
        | (refine wpAny_bind (wpAny_load ho ?_)
           rw[hc,hd];show wpAny M A (if(["enumerate","zip","dict_itemiterator","dict_reverseitemiterator","odict_iterator","itertools.zip_longest","itertools.pairwise"].contains n&&vs[0]? == some (rawInt _))=true then _ else _) Q E s;rw[if_neg (by intro h;rw[hn,Bool.false_and] at h;cases h)];exact wpAny_pure hQ))
def uw(K:PySem.W.Frag)(a:Addr):It:=
  ⟨fun i H=>∃xs x,ao K H a xs/\xs[i]? = some x,fun i H x H'=>H'=H/\∀xs,ao K H a xs->xs[i]? = some x,fun i H=>∃xs,ao K H a xs/\xs.length<=i⟩
def rM(lo:Int)(n:Nat):It:=⟨fun i _=>i<n,fun i H x H'=>H'=H/\x = .int (lo+i),fun i _=>n<=i⟩
theorem L7{P:Program}{w:World}{K:PySem.W.Frag}{tg:Expr}(a it:Addr):Turn P w K tg (uw K a) [it] it (fun i h=>h.IsListIter it a i) where
  mem:=by simp
  obj:=fun i h st b hb=>by
    have e:b=it:=by simpa using hb
    subst e;obtain⟨o,e,c,d⟩:=st;exact⟨o,e,fun v z=>by rw[d] at z;cases z⟩
  keep:=fun i h h' st k=>st.at fun o e=>k it (by simp) o e
  item:=by
    intro X hP hw hK hc i pins s σ H E I hf st hg;subst hP hw hK;obtain⟨xs,x,hq,hx⟩:=hg;obtain⟨its,rv,p,hz⟩:=I.list hq;obtain⟨u,hu,ru⟩:=rv.get hx;obtain⟨f0,f1,f2,f3,f4,f5⟩:=hf it (by simp);refine wpAny_pyNext_list_item st p.isList (x:=u) (by simpa using hu) fun h' jI sb=>?_
    have I1:Inv X pins σ H { s with heap:=h' }:=I.turned (t':=s.toks) (fun b o hb e=>(sb.2 b hb).trans e) f0 f1 f3 f4 f5;obtain⟨o,e,c,d⟩:=id jI;exact⟨u,rfl,Ab (s:={ s with heap:=h' }) e c d (by decide) ⟨x,H,I1,ru,⟨rfl,fun ys hy=>by rw[I.f9 hy hq];exact hx⟩,jI,fun b hb=>(hf b hb).1⟩⟩
  done:=by
    intro X hP hw hK hc i pins s σ H E I hf st hg;subst hP hw hK;obtain⟨xs,hq,hx⟩:=hg;obtain⟨its,rv,p,hz⟩:=I.list hq;obtain⟨f0,f1,f2,f3,f4,f5⟩:=hf it (by simp);have hl:=rv.length;exact wpAny_pyNext_list_end (I.ok.hd hc) st p.isList (by simp;omega) fun h' eb=>⟨rfl,I.turned (t':=s.toks) (fun b o hb e=>eb b o hb e) f0 f1 f3 f4 f5⟩
  self:=fun _ _ _ _ _ st h=>wpAny_pyIter_listiter st h
theorem L8{P:Program}{w:World}{K:PySem.W.Frag}{tg:Expr}(it:Addr)(lo:Int)(n:Nat):Turn P w K tg (rM lo n) [it] it (fun i h=>IsRangeIter h it (lo+(i:Nat) * 1) ((n:Int)-(i:Nat)) 1) where
  mem:=by simp
  obj:=fun i h st b hb=>by
    have e:b=it:=by simpa using hb
    subst e;exact⟨_,st,fun v z=>by
      have z':Data.fields _=Data.cell v:=z;cases z'⟩
  keep:=fun i h h' st k=>k it (by simp) _ st
  item:=by
    intro X hP hw hK hc i pins s σ H E I hf st hg;subst hP hw hK;obtain⟨f0,f1,f2,f3,f4,f5⟩:=hf it (by simp);have W:=Walks.range (prog:=X.prog) (w:=X.w) (I.ok.hd hc) it lo 1 n;refine W.item i s _ _ hg st fun v h' tk hv jI kk=>?_
    obtain⟨t,rfl⟩:=hv;have I1:Inv X pins σ H { s with heap:=h',toks:=tk }:=I.turned (fun b o hb e=>kk b o (by simpa using hb) e) f0 f1 f3 f4 f5;refine⟨_,rfl,Ab (s:={ s with heap:=h',toks:=tk }) (n:="range_iterator") jI rfl rfl (by decide) ⟨.int (lo+i),H,I1,⟨t,?_⟩,⟨rfl,rfl⟩,jI,fun b hb=>(hf b hb).1⟩⟩;rw[Int.mul_one]
  done:=by
    intro X hP hw hK hc i pins s σ H E I hf st hg;subst hP hw hK;obtain⟨f0,f1,f2,f3,f4,f5⟩:=hf it (by simp);exact wpAny_pyNext_range_end (I.ok.hd hc) st (by have:n<=i:=hg;omega) fun h' eb=>⟨rfl,I.turned (t':=s.toks) (fun b o hb e=>eb b o hb e) f0 f1 f3 f4 f5⟩
  self:=fun _ _ _ _ _ st h=>wpAny_pyIter_rangeiter st h
section
variable{X:Cx}{tg:Expr}
def Ft(K:PySem.W.Frag)(tl:TE):TI:=fun σ H R=>tl σ H fun x H1=>∃a,x = .ref a/\(∃xs,ao K H1 a xs)/\R (uw K a) H1
theorem Ma{l:Expr}{tl:TE}(hl:PE X l tl):PI X tg l (Ft X.K tl):=by
  intro pins s σ H R I h;refine aX (hl pins s σ H _ I h) fun v s1 aE=>?_
  obtain⟨x,H1,I1,r1,q1⟩:=aE;obtain⟨a,e,⟨xs,hq⟩,q⟩:=q1;subst e;cases r1;obtain⟨its,rv,p,hz⟩:=I1.list hq;refine wpAny_pyIter_list p.isList ?_;refine⟨s1.heap.objs.size,[s1.heap.objs.size],_,_,H1,rfl,I1.kept (t':=s1.toks) fun b o e=>Heap.get?_push_of_some _ e,L7 a _,⟨_,Heap.get?_push_size _ rfl,rfl,rfl⟩,fun b hb=>?_,q⟩;have e:b=s1.heap.objs.size:=by simpa using hb
  subst e;exact I1.jh (Nat.le_refl _) (I1.aI.fresh (Nat.le_refl _))
theorem Mb{pins:List (Addr×Obj)}{σ:St}{H:Hp}{s:Shared}{R:It->Hp->Prop}{E:Value->Shared->Prop}{lo hi:Int}{t u v:Tok}{tk:Nat}(I:Inv X pins σ H s)(h1 : -(2 ^ 62)<=lo)(h2:lo<2 ^ 62)(h3 : -(2 ^ 62)<=hi)(h4:hi<2 ^ 62)
    (q:R (rM lo (hi-lo).toNat) H):wpAny (model X.prog X.w) X.A (pyIter (.ref s.heap.objs.size)) (BV X pins σ tg R) E { s with heap:=s.heap.push { cls:=.type "range",data:=.fields #[.int lo t,.int hi u,.int 1 v] },toks:=tk }:=by
  refine wpAny_pyIter_range (IsRange.new ..) (small_one h1 h2 h3 h4) ?_;have I1:Inv X pins σ H { s with heap:=s.heap.push { cls:=.type "range",data:=.fields #[.int lo t,.int hi u,.int 1 v] },toks:=tk }:=I.kept fun b o e=>Heap.get?_push_of_some _ e
  refine⟨(s.heap.push { cls:=.type "range",data:=.fields #[.int lo t,.int hi u,.int 1 v] }).objs.size,[(s.heap.push { cls:=.type "range",data:=.fields #[.int lo t,.int hi u,.int 1 v] }).objs.size],_,_,H,rfl,
    I1.kept (t':=tk) fun b o e=>Heap.get?_push_of_some _ e,L8 _ lo (hi-lo).toNat,?_,fun b hb=>?_,q⟩
  · have e1:lo+((0:Nat):Int) * 1=lo:=by simp
    have e2:(((hi-lo).toNat:Nat):Int)-((0:Nat):Int)=Builtin.Range.rangeSize lo hi 1:=by rw[rangeSize_one];split<;>omega
    show IsRangeIter _ _ (lo+((0:Nat):Int) * 1) ((((hi-lo).toNat:Nat):Int)-((0:Nat):Int)) 1;rw[e1,e2];exact Heap.get?_push_size _ rfl
  · have e:b=(s.heap.push { cls:=.type "range",data:=.fields #[.int lo t,.int hi u,.int 1 v] }).objs.size:=by simpa using hb
    subst e;exact I1.jh (Nat.le_refl _) (I1.aI.fresh (Nat.le_refl _))
def Mc(ta:TA):TI:=fun σ H R=>ta σ H fun vs H1=>∃j:Int,vs = [.int j]/\-(2 ^ 62)<=j/\j<2 ^ 62/\R (rM 0 j.toNat) H1
theorem rN{a:Expr}{ta:TA}{p pos:Pos}(hg:Gl X "range")(hm:X.mg "range" = none)(ha:PA X [a] ta)(hs:starEach [a] X.env = [(false,eval a X.env)]:=by rfl):PI X tg (.Call (.Name "range" p) [a] [] pos) (Mc ta):=by
  intro pins s σ H R I h;refine Call_ (vJ I hg hm boot_range (PyProof.Rows.callWith_type1 (aX (ha pos pins s σ H _ I h) fun us s1 aE=>?_) hs rfl));obtain⟨vs,H1,I1,r1,q1⟩:=aE;obtain⟨j,e,q1,q2,q⟩:=q1;subst e;cases r1 with
  | cons r rr=>
    cases rr;obtain⟨t,rfl⟩:=r;exact call_range_1 (Mb I1 (by omega) (by omega) q1 q2 (by simpa using q))
def BW(wi:TI)(g:TG)(tb:TS):TS:=fun D σ H=>wi σ H fun J H1=>∃W:Nat->Nat->St->Hp->Prop,(∃m,W 0 m σ H1)/\∀i m σ H,W i m σ H->
  (J.stop i H/\D.nx σ H)\/(J.go i H/\∃N:St->Hp->Prop,(∀aq H',N aq H'->∃m',m'<m/\W (i+1) m' aq H')/\∀x H',J.mP i H x H'->g x σ H' fun iR H2=>tb { D with nx:=N,ct:=N,bk:=D.nx } iR H2)
def vR(fp:List Addr)(h:Heap):List (Addr×Obj):=fp.filterMap fun b=>(h.get? b).map fun o=>(b,o)
theorem Ac{fp:List Addr}{h:Heap}{b:Addr}{o:Obj}(hb:b∈fp)(e:h.get? b=some o):(b,o)∈vR fp h:=List.mem_filterMap.mpr ⟨b,hb,by rw[e];rfl⟩
theorem Me{fp:List Addr}{h:Heap}{p:Addr×Obj}(hp:p∈vR fp h):p.1∈fp/\h.get? p.1=some p.2:=by
  obtain⟨b,hb,e⟩:=List.mem_filterMap.mp hp;cases q:h.get? b with
  | none=>rw[q] at e;cases e
  | some o=>
    rw[q] at e;have e':(b,o)=p:=Option.some.inj e;subst e';exact⟨hb,q⟩
theorem Inv.pinned{pins:List (Addr×Obj)}{σ:St}{H:Hp}{s:Shared}{fp:List Addr}(I:Inv X pins σ H s)(hf:∀b∈fp,d8 X pins H b)(ho:∀b∈fp,∃o,s.heap.get? b=some o/\∀v,o.data≠.cell v):Inv X (pins++vR fp s.heap) σ H s:=
  I.kZ fun p hp=>(List.mem_append.mp hp).elim (fun z=>I.pin p (List.mem_append_right _ z)) fun z=>by
    obtain⟨hb,e⟩:=Me z;obtain⟨f0,f1,f2,_⟩:=hf p.1 hb;obtain⟨o,e',d⟩:=ho p.1 hb;rw[e] at e';cases e';exact⟨e,f0,f1,f2,d⟩
theorem Inv.gc{pins pl:List (Addr×Obj)}{σ:St}{H:Hp}{s:Shared}(I:Inv X (pins++pl) σ H s):Inv X pins σ H s:=I.kZ fun p hp=>I.pin p (List.mem_append_right _ (List.mem_append_left _ hp))
theorem dZ{iter:Expr}{body:List Stmt}{wi:TI}{g:TG}{tb:TS}{pos:Pos}(hp:PassesOwn (model X.prog X.w) X.A X.env X.xe)(hc:X.calm=true)(hi:PI X tg iter wi)(hg:PG X tg g)(hb:jA X body tb)
    (hs:∀x,foldedSetIterable iter X.env x=pure x:=by intro _;rfl):PS X (.For tg iter body [] pos) (BW wi g tb):=by
  intro pins s σ H D I h;refine wpAny_For (aX (hi pins s σ H _ I h) fun v s1 h1=>aX h1 fun rL s2 h2=>?_) hs;obtain⟨it,fp,tn,J,H2,e,I2,T,Ad,f2,W,⟨m0,w0⟩,turn⟩:=h2;subst e;have kr:∀{H':Hp},(∀b∈fp,H' b=none)->∀b∈fp,d8 X pins H' b:=fun hn b hb=>⟨hn b hb,(f2 b hb).2⟩
  refine codeAny_forLoop_any (fun n s'=>∃i aq H',Inv X pins aq H' s'/\tn i s'.heap/\(∀b∈fp,H' b=none)/\W i n aq H') ?_ m0 ⟨0,σ,H2,I2,Ad,fun b hb=>(f2 b hb).1,w0⟩;rintro n s3 ⟨i,iQ,H3,I3,Fv,Fx,w3⟩;rcases turn i n iQ H3 w3 with ⟨stop,qn⟩ | ⟨go,N,hN,step⟩
  · refine wpAny_passesOwn hp (aX (T.done X rfl rfl rfl hc i pins s3 iQ H3 X.xe I3 (kr Fx) Fv stop) fun r s4 aE=>?_);obtain⟨hr,I4⟩:=aE;subst hr;exact wpAny_execs_nil ⟨iQ,H3,I4,qn⟩
  · refine wpAny_passesOwn hp (aX (T.item X rfl rfl rfl hc i pins s3 iQ H3 X.xe I3 (kr Fx) Fv go) fun r s4 aE=>?_);obtain⟨u,hr,h4⟩:=aE;subst hr;refine wpAny_passesOwn hp (aX h4 fun _ s5 aE=>?_);obtain⟨x,H5,I5,r5,y5,ux,Ae⟩:=aE;have Mf:=I5.pinned (kr Ae) (T.obj _ _ ux);refine wpAny_passesOwn hp (aX (hg _ s5 iQ H5 x u _ Mf r5 (step x H5 y5)) fun _ s6 aE=>?_);obtain⟨Mg,H6,I6,q6⟩:=aE;refine wpAny_passesOwn hp (aX (hb _ s6 Mg H6 _ I6 q6) fun f s7 q7=>?_);have again:∀{nB:St}{H7:Hp},Inv X (pins++vR fp s5.heap) nB H7 s7->N nB H7->∃m,m<n/\∃i aq H',Inv X pins aq H' s7/\tn i s7.heap/\(∀b∈fp,H' b=none)/\W i m aq H':=fun{nB H7}I7 n7=>by
      obtain⟨m',hm,w7⟩:=hN nB H7 n7;refine⟨m',hm,i+1,nB,H7,I7.gc,T.keep _ _ _ ux fun b hb o e=>(I7.pin (b,o) (List.mem_append_right _ (List.mem_append_right _ (Ac hb e)))).1,fun b hb=>?_,w7⟩;obtain⟨o,e,d⟩:=T.obj _ _ ux b hb;exact(I7.pin (b,o) (List.mem_append_right _ (List.mem_append_right _ (Ac hb e)))).2.1
    cases f with
    | next=>obtain⟨nB,H7,I7,n7⟩:=q7;exact again I7 n7
    | cont=>obtain⟨nB,H7,I7,n7⟩:=q7;exact again I7 n7
    | brk=>obtain⟨nB,H7,I7,q7⟩:=q7;exact⟨nB,H7,I7.gc,q7⟩
    | ret v=>obtain⟨x7,nB,H7,I7,r7,q7⟩:=q7;exact⟨x7,nB,H7,I7.gc,r7,q7⟩
end
theorem iK{K:PySem.W.Frag}{a:Addr}{xs:List V}{g:TG}{tb:TS}{D:Ends}{σ:St}{H:Hp}(Pv:Nat->St->Hp->Prop)(h0:Pv 0 σ H)(hl:∀i σ H,i<=xs.length->Pv i σ H->ao K H a xs)
    (hs:∀i x σ H,xs[i]? = some x->Pv i σ H->g x σ H fun iR H2=>tb { D with nx:=Pv (i+1),ct:=Pv (i+1),bk:=D.nx } iR H2) (hd:∀σ H,Pv xs.length σ H->D.nx σ H) :
    ∃W:Nat->Nat->St->Hp->Prop,(∃m,W 0 m σ H)/\∀i m σ H,W i m σ H->
      ((uw K a).stop i H/\D.nx σ H)\/((uw K a).go i H/\∃N:St->Hp->Prop,(∀aq H',N aq H'->∃m',m'<m/\W (i+1) m' aq H')/\∀x H',(uw K a).mP i H x H'->g x σ H' fun iR H2=>tb { D with nx:=N,ct:=N,bk:=D.nx } iR H2):=by
  refine⟨fun i m σ H=>m=xs.length-i/\i<=xs.length/\Pv i σ H,⟨xs.length,by simp,Nat.zero_le _,h0⟩,?_⟩;rintro i m σ H ⟨rfl,hi,p⟩;have q:=hl i σ H hi p
  by_cases bC:i<xs.length
  · refine .inr ⟨⟨xs,xs[i],q,by simp[bC]⟩,Pv (i+1),fun aq H' p'=>⟨xs.length-(i+1),by omega,rfl,bC,p'⟩,fun x H' y=>?_⟩;obtain⟨e,y⟩:=y;subst e;exact hs i x σ _ (y xs q) p
  · have e:i=xs.length:=by omega
    subst e;exact .inl ⟨⟨xs,q,Nat.le_refl _⟩,hd σ H p⟩
theorem vS{lo:Int}{n:Nat}{g:TG}{tb:TS}{D:Ends}{σ:St}{H:Hp}(Pv:Nat->St->Hp->Prop)(h0:Pv 0 σ H)
    (hs:∀i σ H,i<n->Pv i σ H->g (.int (lo+i)) σ H fun iR H2=>tb { D with nx:=Pv (i+1),ct:=Pv (i+1),bk:=D.nx } iR H2) (hd:∀σ H,Pv n σ H->D.nx σ H) :
    ∃W:Nat->Nat->St->Hp->Prop,(∃m,W 0 m σ H)/\∀i m σ H,W i m σ H->
      ((rM lo n).stop i H/\D.nx σ H)\/((rM lo n).go i H/\∃N:St->Hp->Prop,(∀aq H',N aq H'->∃m',m'<m/\W (i+1) m' aq H')/\∀x H',(rM lo n).mP i H x H'->g x σ H' fun iR H2=>tb { D with nx:=N,ct:=N,bk:=D.nx } iR H2):=by
  refine⟨fun i m σ H=>m=n-i/\i<=n/\Pv i σ H,⟨n,by simp,Nat.zero_le _,h0⟩,?_⟩;rintro i m σ H ⟨rfl,hi,p⟩
  by_cases bC:i<n
  · refine .inr ⟨bC,Pv (i+1),fun aq H' p'=>⟨n-(i+1),by omega,rfl,bC,p'⟩,fun x H' y=>?_⟩;obtain⟨e,y⟩:=y;subst e y;exact hs i σ _ bC p
  · have e:i=n:=by omega
    subst e;exact .inl ⟨Nat.le_refl _,hd σ H p⟩
abbrev R2:=V->V->Hp->VK->Prop
def fk(X:Cx)(f:Value->Value->Sem Value)(r:R2):Prop:=
  ∀(pins:List (Addr×Obj))(s:Shared)(σ:St)(H:Hp)(x y:V)(v u:Value)(Q:VK),Inv X pins σ H s->RelV x v->RelV y u->r x y H Q->
    wpAny (model X.prog X.w) X.A (f v u) (EP X pins σ Q) X.xe s
def BX(X:Cx)(f:Value->Sem Value)(r:V->Hp->VK->Prop):Prop:=
  ∀(pins:List (Addr×Obj))(s:Shared)(σ:St)(H:Hp)(x:V)(v:Value)(Q:VK),Inv X pins σ H s->RelV x v->r x H Q->
    wpAny (model X.prog X.w) X.A (f v) (EP X pins σ Q) X.xe s
def ji(X:Cx)(f:Value)(r:List V->Hp->VK->Prop):Prop:=
  ∀(pins:List (Addr×Obj))(s:Shared)(σ:St)(H:Hp)(xs:List V)(us:List Value)(Q:VK),Inv X pins σ H s->Vals xs us->r xs H Q->
    wpAny (model X.prog X.w) X.A (call f us) (EP X pins σ Q) X.xe s
def uy(r:R2)(ta tb:TE):TE:=fun σ H Q=>ta σ H fun x H1=>tb σ H1 fun y H2=>r x y H2 Q
def Mh(r:V->Hp->VK->Prop)(ta:TE):TE:=fun σ H Q=>ta σ H fun x H1=>r x H1 Q
def rI(C:Int->Int->Prop)(g:Int->Int->V):R2:=fun x y H Q=>∃i j,x = .int i/\y = .int j/\C i j/\Q (g i j) H
def rO(g:Int->Int->V):R2:=fun x y H Q=>∃i j,x = .int i/\y = .int j/\Q (g i j) H
def rU(g:Int->V):V->Hp->VK->Prop:=fun x H Q=>∃i,x = .int i/\Q (g i) H
section
variable{X:Cx}{a b c:Expr}{ta tb tc:TE}{pos:Pos}
theorem rP(ha:PE X a ta)(hb:PE X b tb){pins:List (Addr×Obj)}{s:Shared}{σ:St}{H:Hp}{R:V->V->Hp->Prop}(I:Inv X pins σ H s)
    (h:ta σ H fun x H1=>tb σ H1 fun y H2=>R x y H2) {Q:Value->Shared->Prop}{f:Value->Value->Sem Value}
    (hf:∀v u s2 x y H2,Inv X pins σ H2 s2->RelV x v->RelV y u->R x y H2->wpAny (model X.prog X.w) X.A (f v u) Q X.xe s2) :
    wpAny (model X.prog X.w) X.A (eval a X.env) (fun v aK=>wpAny (model X.prog X.w) X.A (eval b X.env) (fun u eW=>wpAny (model X.prog X.w) X.A (f v u) Q X.xe eW) X.xe aK) X.xe s:=by
  refine aX (ha pins s σ H _ I h) fun v s1 aE=>?_
  obtain⟨x,H1,I1,r1,q1⟩:=aE;refine aX (hb pins s1 σ H1 _ I1 q1) fun u s2 aE=>?_
  obtain⟨y,H2,I2,r2,q2⟩:=aE;exact hf v u s2 x y H2 I2 r1 r2 q2
theorem c9{op:Operator}{r:R2}(ho:fk X (binaryOp op) r)(ha:PE X a ta)(hb:PE X b tb):PE X (.BinOp a op b pos) (uy r ta tb):=by
  intro pins s σ H Q I h;exact wpAny_BinOp (rP ha hb I h fun v u s2 x y H2 I2 rx ry q=>ho pins s2 σ H2 x y v u Q I2 rx ry q)
theorem vU{op:UnaryOp}{r:V->Hp->VK->Prop}(ho:BX X (unaryOp op) r)(ha:PE X a ta):PE X (.UnaryOp op a pos) (Mh r ta):=by
  intro pins s σ H Q I h;exact UnaryOp_ (aX (ha pins s σ H _ I h) fun v s1 ⟨x,H1,I1,r1,q1⟩=>ho pins s1 σ H1 x v Q I1 r1 q1)
theorem BY{f:Value->Value->Sem Value}{C:Int->Int->Prop}{g:Int->Int->Int}
    (rule:∀(i j:Int)(t u:Tok)(s:Shared)(Q:Value->Shared->Prop)(E:Value->Shared->Prop),C i j->Q (.int (g i j) s.toks) { s with toks:=s.toks+1 }->wpAny (model X.prog X.w) X.A (f (.int i t) (.int j u)) Q E s) :
    fk X f (rI C fun i j=>.int (g i j)):=by
  intro pins s σ H x y v u Q I rx ry h;obtain⟨i,j,rfl,rfl,hc,q⟩:=h;obtain⟨t,rfl⟩:=rx;obtain⟨t',rfl⟩:=ry;exact rule i j t t' s _ _ hc ⟨.int (g i j),H,I.tok _,⟨_,rfl⟩,q⟩
theorem vV{f:Value->Value->Sem Value}{g:Int->Int->Int}
    (rule:∀(i j:Int)(t u:Tok)(s:Shared)(Q:Value->Shared->Prop)(E:Value->Shared->Prop),Q (.int (g i j) s.toks) { s with toks:=s.toks+1 }->wpAny (model X.prog X.w) X.A (f (.int i t) (.int j u)) Q E s) :
    fk X f (rO fun i j=>.int (g i j)):=by
  intro pins s σ H x y v u Q I rx ry h;obtain⟨i,j,rfl,rfl,q⟩:=h;obtain⟨t,rfl⟩:=rx;obtain⟨t',rfl⟩:=ry;exact rule i j t t' s _ _ ⟨.int (g i j),H,I.tok _,⟨_,rfl⟩,q⟩
theorem rQ{f:Value->Value->Sem Value}{g:Int->Int->Bool}
    (rule:∀(i j:Int)(t u:Tok)(s:Shared)(Q:Value->Shared->Prop)(E:Value->Shared->Prop),Q (.bool (g i j)) s->wpAny (model X.prog X.w) X.A (f (.int i t) (.int j u)) Q E s) :
    fk X f (rO fun i j=>.bl (g i j)):=by
  intro pins s σ H x y v u Q I rx ry h;obtain⟨i,j,rfl,rfl,q⟩:=h;obtain⟨t,rfl⟩:=rx;obtain⟨t',rfl⟩:=ry;exact rule i j t t' s _ _ ⟨.bl (g i j),H,I,rfl,q⟩
def vW(i j:Int):Prop:=0<=j/\j<=1000000/\i.natAbs<2 ^ 64
def rR(i j:Int):Prop:=(-(2 ^ 64)<i/\i<2 ^ 64)\/(-(2 ^ 64)<j/\j<2 ^ 64)
theorem rR.ok{i j:Int}(h:rR i j):IntMulOk i j:=by
  rcases h with ⟨h1,h2⟩ | ⟨h1,h2⟩
  · exact .of_left (intBits_le_64 h1 h2)
  · exact .of_right (intBits_le_64 h1 h2)
theorem jJ:fk X (binaryOp .Add) (rO fun i j=>.int (i+j)):=vV fun _ _ _ _ _ _ _ q=>add_int q
theorem Af:fk X (binaryOp .Sub) (rO fun i j=>.int (i-j)):=vV fun _ _ _ _ _ _ _ q=>sub_int q
theorem Ag:fk X (binaryOp .Mult) (rI rR fun i j=>.int (i * j)):=BY fun _ _ _ _ _ _ _ hc q=>mul_int q hc.ok
theorem rS:fk X (binaryOp .Mod) (rI (fun _ j=>0<j) fun i j=>.int (i%j)):=BY fun i j _ _ _ _ _ hc q=>by
  have h1:(0:Int)<j:=hc;exact mod_int' (by omega) (by rw[Int.fmod_eq_emod_of_nonneg i (by omega)];exact q)
theorem Mi:fk X (binaryOp .Pow) (rI vW fun i j=>.int (i ^ j.toNat)):=BY fun _ _ _ _ _ _ _ hc q=>pow_int_small hc.1 hc.2.1 hc.2.2 q
theorem Mj{f:Value->Sem Value}{g:Int->Int}
    (rule:∀(i:Int)(t:Tok)(s:Shared)(Q:Value->Shared->Prop)(E:Value->Shared->Prop),Q (.int (g i) s.toks) { s with toks:=s.toks+1 }->wpAny (model X.prog X.w) X.A (f (.int i t)) Q E s) :
    BX X f (rU fun i=>.int (g i)):=by
  intro pins s σ H x v Q I rx h;obtain⟨i,rfl,q⟩:=h;obtain⟨t,rfl⟩:=rx;exact rule i t s _ _ ⟨.int (g i),H,I.tok _,⟨_,rfl⟩,q⟩
theorem vX:BX X (unaryOp .USub) (rU fun i=>.int (-i)):=Mj fun _ _ _ _ _ q=>neg_int q
end
def vY:V->V->Bool
  | .bO,.bO=>true | .bO,.int _=>true | .int _,.bO=>true | .bO,.bl _=>true | .bl _,.bO=>true | .bO,.str _=>true | .str _,.bO=>true
  | .int _,.int _=>true | .bl _,.bl _=>true | .str _,.str _=>true | .lK _,.lK _=>true
  | .int _,.str _=>true | .str _,.int _=>true | .bl _,.str _=>true | .str _,.bl _=>true
  | _,_=>false
def Fy:R2:=fun x y H Q=>vY x y=true/\Q (.bl (decide (x=y))) H
def Mk:R2:=fun x y H Q=>vY x y=true/\Q (.bl (!decide (x=y))) H
theorem FA{i j:Int}:decide (V.int i=V.int j)=(i == j):=by
  rw[Bool.eq_iff_iff];simp
theorem FD{i j:Bool}:decide (V.bl i=V.bl j)=(i == j):=by
  rw[Bool.eq_iff_iff];simp
theorem FE{i j:Str}:decide (V.str i=V.str j)=(i == j):=by
  rw[Bool.eq_iff_iff];simp
theorem FF{i j:Array UInt8}:decide (V.lK i=V.lK j)=(i.toList == j.toList):=by
  rw[Bool.eq_iff_iff];cases i;cases j;simp
section
variable{X:Cx}{a b c:Expr}{ta tb tc:TE}{pos:Pos}
theorem fY{pins:List (Addr×Obj)}{σ:St}{H:Hp}{s:Shared}{Q:VK}{k k':Bool}(I:Inv X pins σ H s)(q:Q (.bl k) H)(e:k=k'):EP X pins σ Q (.bool k') s:=by
  subst e;exact⟨.bl k,H,I,rfl,q⟩
theorem fZ:fk X (compareOp .Eq) Fy:=by
  intro pins s σ H x y v u Q I rx ry h;obtain⟨hs,q⟩:=h;cases x with
  | bO=>
    cases rx;cases y with
    | bO=>cases ry;exact PySem.EqNone.eq_none_none (fY I q (by simp))
    | bl j=>cases ry;exact PySem.EqNone.eq_none_bool (fY I q (by simp))
    | int j=>obtain⟨t',rfl⟩:=ry;exact PySem.EqNone.eq_none_int (fY I q (by simp))
    | str j=>obtain⟨t',rfl⟩:=ry;exact PySem.EqNone.eq_none_str (fY I q (by simp))
    | _=>exact absurd (show false=true from hs) Bool.false_ne_true
  | bl i=>
    cases rx;cases y with
    | bO=>cases ry;exact PySem.EqNone.eq_bool_none (fY I q (by simp))
    | bl j=>cases ry;exact eq_bool (fY I q FD)
    | str j=>obtain⟨t',rfl⟩:=ry;exact PySem.EqMixed.eq_bool_str (fY I q (by simp))
    | _=>exact absurd (show false=true from hs) Bool.false_ne_true
  | int i=>
    obtain⟨t,rfl⟩:=rx;cases y with
    | bO=>cases ry;exact PySem.EqNone.eq_int_none (fY I q (by simp))
    | int j=>obtain⟨t',rfl⟩:=ry;exact eq_int (fY I q FA)
    | str j=>obtain⟨t',rfl⟩:=ry;exact PySem.EqMixed.eq_int_str (fY I q (by simp))
    | _=>exact absurd (show false=true from hs) Bool.false_ne_true
  | str i=>
    obtain⟨t,rfl⟩:=rx;cases y with
    | bO=>cases ry;exact PySem.EqNone.eq_str_none (fY I q (by simp))
    | bl j=>cases ry;exact PySem.EqMixed.eq_str_bool (fY I q (by simp))
    | int j=>obtain⟨t',rfl⟩:=ry;exact PySem.EqMixed.eq_str_int (fY I q (by simp))
    | str j=>obtain⟨t',rfl⟩:=ry;exact eq_str (fY I q FE)
    | _=>exact absurd (show false=true from hs) Bool.false_ne_true
  | lK i=>
    obtain⟨t,rfl⟩:=rx;cases y with
    | lK j=>obtain⟨t',rfl⟩:=ry;exact PySem.W.eq_bytes (fY I q FF)
    | _=>exact absurd (show false=true from hs) Bool.false_ne_true
  | _=>cases y<;>exact absurd (show false=true from hs) Bool.false_ne_true
theorem Ah:fk X (compareOp .NotEq) Mk:=by
  intro pins s σ H x y v u Q I rx ry h;obtain⟨hs,q⟩:=h;cases x with
  | bO=>
    cases rx;cases y with
    | bO=>cases ry;exact PySem.EqNone.ne_none_none (fY I q (by simp))
    | bl j=>cases ry;exact PySem.EqNone.ne_none_bool (fY I q (by simp))
    | int j=>obtain⟨t',rfl⟩:=ry;exact PySem.EqNone.ne_none_int (fY I q (by simp))
    | str j=>obtain⟨t',rfl⟩:=ry;exact PySem.EqNone.ne_none_str (fY I q (by simp))
    | _=>exact absurd (show false=true from hs) Bool.false_ne_true
  | bl i=>
    cases rx;cases y with
    | bO=>cases ry;exact PySem.EqNone.ne_bool_none (fY I q (by simp))
    | bl j=>cases ry;exact ne_bool (fY I q (congrArg not FD))
    | str j=>obtain⟨t',rfl⟩:=ry;exact PySem.EqMixed.ne_bool_str (fY I q (by simp))
    | _=>exact absurd (show false=true from hs) Bool.false_ne_true
  | int i=>
    obtain⟨t,rfl⟩:=rx;cases y with
    | bO=>cases ry;exact PySem.EqNone.ne_int_none (fY I q (by simp))
    | int j=>obtain⟨t',rfl⟩:=ry;exact ne_int (fY I q (congrArg not FA))
    | str j=>obtain⟨t',rfl⟩:=ry;exact PySem.EqMixed.ne_int_str (fY I q (by simp))
    | _=>exact absurd (show false=true from hs) Bool.false_ne_true
  | str i=>
    obtain⟨t,rfl⟩:=rx;cases y with
    | bO=>cases ry;exact PySem.EqNone.ne_str_none (fY I q (by simp))
    | bl j=>cases ry;exact PySem.EqMixed.ne_str_bool (fY I q (by simp))
    | int j=>obtain⟨t',rfl⟩:=ry;exact PySem.EqMixed.ne_str_int (fY I q (by simp))
    | str j=>obtain⟨t',rfl⟩:=ry;exact ne_str (fY I q (congrArg not FE))
    | _=>exact absurd (show false=true from hs) Bool.false_ne_true
  | lK i=>
    obtain⟨t,rfl⟩:=rx;cases y with
    | lK j=>obtain⟨t',rfl⟩:=ry;exact PySem.W.ne_bytes (fY I q (congrArg not FF))
    | _=>exact absurd (show false=true from hs) Bool.false_ne_true
  | _=>cases y<;>exact absurd (show false=true from hs) Bool.false_ne_true
theorem uz:fk X (compareOp .Lt) (rO fun i j=>.bl (decide (i<j))):=rQ fun _ _ _ _ _ _ _ q=>lt_int q
theorem Ai:fk X (compareOp .LtE) (rO fun i j=>.bl (decide (i<=j))):=rQ fun _ _ _ _ _ _ _ q=>le_int q
theorem uA:fk X (compareOp .Gt) (rO fun i j=>.bl (decide (j<i))):=rQ fun _ _ _ _ _ _ _ q=>gt_int q
theorem bW(b:Expr){op:CmpOp}(h:op≠.In:=by decide)(h2:op≠.NotIn:=by decide):behindInMarks op b=false:=by
  have e1:(op == CmpOp.In)=false:=by cases op<;>first | rfl | exact absurd rfl h
  have e2:(op == CmpOp.NotIn)=false:=by cases op<;>first | rfl | exact absurd rfl h2
  cases b<;>simp[behindInMarks,e1,e2]
theorem k7{op:CmpOp}{r:R2}(ho:fk X (compareOp op) r)(ha:PE X a ta)(hb:PE X b tb)(hm:behindInMarks op b=false):PE X (.Compare a [op] [b] pos) (uy r ta tb):=by
  intro pins s σ H Q I h;exact wpAny_Compare1 (rP ha hb I h fun v u s2 x y H2 I2 rx ry q=>ho pins s2 σ H2 x y v u Q I2 rx ry q) hm
def BZ(t:TE):TT:=fun σ H Q=>t σ H fun x H'=>∃k,x = .bl k/\Q k H'
theorem cE{op:CmpOp}{r:R2}(ho:fk X (compareOp op) r)(ha:PE X a ta)(hb:PE X b tb)(hm:behindInMarks op b=false):PT X (.Compare a [op] [b] pos) (BZ (uy r ta tb)):=by
  intro pins s σ H Q I h;refine wpAny_isTrue_Compare1 (aX (ha pins s σ H _ I h) fun v s1 ⟨x,H1,I1,r1,q1⟩=>aX (hb pins s1 σ H1 _ I1 q1) fun u s2 ⟨y,H2,I2,r2,q2⟩=>
    aX (ho pins s2 σ H2 x y v u _ I2 r1 r2 q2) fun c s3 ⟨z,H3,I3,r3,k,e,q3⟩=>?_) hm
  subst e;cases r3;exact wpAny_truthy_bool ⟨H3,I3,q3⟩
def Ml(r r':R2)(ta tb tc:TE):TE:=fun σ H Q=>ta σ H fun x H1=>tb σ H1 fun y H2=>r x y H2 fun z H3=>∃k,z = .bl k/\
  (if k=true then tc σ H3 fun w' H4=>r' y w' H4 Q else Q (.bl false) H3)
theorem FG{op B0:CmpOp}{r r':R2}(ho:fk X (compareOp op) r)(pI:fk X (compareOp B0) r')(ha:PE X a ta)(hb:PE X b tb)(hc:PE X c tc)
    (hm:lastMarks [op,B0] [b,c]=false:=by with_unfolding_all rfl):PT X (.Compare a [op,B0] [b,c] pos) (BZ (Ml r r' ta tb tc)):=by
  intro pins s σ H Q I h;refine isTrue_chain (aX (ha pins s σ H _ I h) fun v s1 ⟨x,H1,I1,r1,q1⟩=>test_link (aX (hb pins s1 σ H1 _ I1 q1) fun u s2 ⟨y,H2,I2,r2,q2⟩=>
    aX (ho pins s2 σ H2 x y v u _ I2 r1 r2 q2) fun d s3 ⟨z,H3,I3,r3,k,e,q3⟩=>?_)) hm
  subst e;cases r3;refine wpAny_truthy_bool ?_;cases k with
  | false=>
    obtain⟨k',e',q'⟩:=q3;cases e';exact ite_ff ⟨H3,I3,q'⟩
  | true=>
    refine ite_tt (test_last (aX (hc pins s3 σ H3 _ I3 q3) fun w' s4 ⟨z',H4,I4,r4,q4⟩=>aX (pI pins s4 σ H4 y z' u w' _ I4 r2 r4 q4) fun d' s5 aE=>?_));obtain⟨z2,H5,I5,r5,k2,e2,q5⟩:=aE;subst e2;cases r5;exact wpAny_truthy_bool ⟨H5,I5,q5⟩
theorem Aj:(sizeLine:Nat)<2 ^ 63:=by rw[sizeLine_eq];decide
theorem Mp:fk X (binaryOp .Add) (fun x y H Q=>∃i j,x = .str i/\y = .str j/\i.length+j.length<=sizeLine/\Q (.str (i++j)) H):=by
  intro pins s σ H x y v u Q I rx ry h;obtain⟨i,j,rfl,rfl,hz,q⟩:=h;obtain⟨t,rfl⟩:=rx;obtain⟨t',rfl⟩:=ry;exact add_str (fun t' tk=>⟨.str (i++j),H,I.tok _,⟨_,rfl⟩,q⟩) hz
theorem j0{x:V}{us:List Value}(r:Vals [x] us):∃u,us = [u]/\RelV x u:=by
  cases r with
  | cons r1 r2=>cases r2;exact⟨_,rfl,r1⟩
theorem vZ{x y:V}{us:List Value}(r:Vals [x,y] us):∃u w',us = [u,w']/\RelV x u/\RelV y w':=by
  cases r with
  | cons r1 r2=>
    cases r2 with
    | cons r3 r4=>cases r4;exact⟨_,_,rfl,r1,r3⟩
end
theorem FH{h:Heap}{dx:Addr}{mA:Str->Option Value}(n:h.Ns1 dx mA):∃od,h.get? dx=some od/\∀name,PySem.W.lookIn name od=some (mA name):=by
  obtain⟨o,es,ep,ho,hd,hk,_,hm⟩:=n;refine⟨o,ho,fun name=>?_⟩;have e:=hm name;unfold nsFind findBy at e;rw[←Array.find?_toList] at e;unfold PySem.W.lookIn;rw[hd];dsimp only;split
  · rename_i y q;rw[q] at e;exact congrArg some e
  · rename_i q;rw[q] at e;have a:es.toList.any (·.refKey)=false:=by
      rw[List.any_eq_false];intro y hy;obtain⟨z,t,B8⟩:=hk y (Array.mem_toList_iff.mp hy);simp[DictEntry.refKey,B8]
    have a':¬es.toList.any (·.refKey)=true:=by rw[a];exact Bool.false_ne_true
    rw[if_neg a'];exact congrArg some e
theorem fG.some_of{v:V}{o:Option Value}(r:fG (some v) o):∃u,o=some u/\RelV v u:=by
  cases o with
  | none=>exact(show False from r).elim
  | some u=>exact⟨u,rfl,r⟩
theorem fG.none_of{o:Option Value}(r:fG none o):o=none:=by
  cases o with
  | none=>rfl
  | some u=>exact(show False from r).elim
theorem Mq{v:V}{u:Value}(r:RelV v u):PySem.W.handedIn u=true:=by
  cases v with
  | bO=>cases (show u=Value.none from r);rfl
  | bl b=>cases (show u=Value.bool b from r);rfl
  | int i=>obtain⟨t,e⟩:=(show ∃t,u=Value.int i t from r);cases e;rfl
  | str x=>obtain⟨t,e⟩:=(show ∃t,u=Value.str x t from r);cases e;rfl
  | lK b=>obtain⟨t,e⟩:=(show ∃t,u=Value.bytes b t from r);cases e;rfl
  | vC b=>obtain⟨t,e⟩:=(show ∃t,u=Value.float b t from r);cases e;rfl
  | ref a=>cases (show u=Value.ref a from r);rfl
  | ty n=>cases (show u=Value.type n from r);rfl
def dB(K:PySem.W.Frag)(C:Addr)(f:Str):Prop:=PySem.W.findIn K (.ref C) f=some none
theorem dB.wc{K:PySem.W.Frag}{C:Addr}{f:Str}(n:dB K C f):PySem.W.takerIn K C f=some none:=by
  unfold PySem.W.takerIn;rw[show PySem.W.findIn K (.ref C) f=some none from n];rfl
structure Meth(K:PySem.W.Frag)(C:Addr)(m:Str)(f:Addr):Prop where
  at_:PySem.W.findIn K (.ref C) m=some (some (.ref f))
  fn:PySem.W.isFn K (.ref f)=true
  kp:PySem.W.keepIn K (.ref f)=true
section
variable{X:Cx}{pins:List (Addr×Obj)}{σ:St}{H:Hp}{s:Shared}{a C dx:Addr}{fs:List (Str×V)}{f:Str}{v:V}{A:Around}{E:Value->Shared->Prop}
theorem Mr{prog:Program}{w:World}{env:Env}{e:Expr}{f:Str}{pos:Pos}{s:Shared}{Q:Value->Shared->Prop}(hb:attributeBase e f env (eval e env)=eval e env)
    (h:wpAny (model prog w) A (eval e env) (fun o aK=>wpAny (model prog w) A (getAttr o f true) Q E aK) E s):wpAny (model prog w) A (eval (.Attribute e f pos) env) Q E s:=
  Attribute_any_ h (by rw[arm_eval_Attribute,hb])
end
structure bE(k:Nat)(A:Around):Prop where
  hd:A.handled=none
  dp:A.depth+3 * k+5<recursionLimit
  un:A.units+16 * k+200<cLine
theorem bE.mono{j k:Nat}{A:Around}(r:bE k A)(h:j<=k):bE j A:=⟨r.hd,by have:=r.dp;omega,by have:=r.un;omega⟩
theorem bE.deeper{k:Nat}{A:Around}(r:bE (k+1) A)(env:Env):bE k (A.deeper env):=
  ⟨r.hd,by have:=r.dp;show A.depth+1+3 * k+5<_;omega,by have:=r.un;show A.units+3+16 * k+200<_;omega⟩
theorem Ms{A:Around}{C:Addr}{us:List Value}{kw:List (Str×Value)}:(A.under (.builtin "type.__call__" ⟨.ref C::us,kw⟩)).depth=A.depth+1:=by
  first | rfl | simp[Around.under,Code.weight,Code.isCreation,Code.isGuard,Code.isCaller,Code.frames,Code.isFrame,guardIds]
theorem Mt{A:Around}{C:Addr}{us:List Value}{kw:List (Str×Value)}:(A.under (.builtin "type.__call__" ⟨.ref C::us,kw⟩)).units=A.units+1:=by
  first | rfl | simp[Around.under,Code.cUnits,Code.frames,Code.isFrame]
theorem bE.make{k:Nat}{A:Around}(r:bE (k+1) A)(C:Addr)(us:List Value)(kw:List (Str×Value)):bE k (A.under (.builtin "type.__call__" ⟨.ref C::us,kw⟩)):=
  ⟨r.hd,by have:=r.dp;rw[Ms];omega,by have:=r.un;rw[Mt];omega⟩
theorem bE.depth{k:Nat}{A:Around}(r:bE k A):A.depth<recursionLimit:=by have:=r.dp;omega
theorem bE.units{k:Nat}{A:Around}(r:bE k A):A.units+64<cLine:=by have:=r.un;omega
def we:TA:=fun _ H Q=>Q [] H
def FI(ta:TE)(tr:TA):TA:=fun σ H Q=>ta σ H fun x H1=>tr σ H1 fun xs H2=>Q (x::xs) H2
section
variable{X:Cx}{e:Expr}{es:List Expr}{te:TE}{t:TA}{pos:Pos}
theorem zf:PA X [] we:=fun _ _ _ _ H Q I h=>Calls.spliced_nil ⟨[],H,I,.nil,h⟩
theorem za(ha:PE X e te)(hr:PA X es t)(hs:starEach (e::es) X.env=(false,eval e X.env)::starEach es X.env:=by rfl):PA X (e::es) (FI te t):=by
  intro pos pins s σ H Q I h;rw[hs];show wpAny _ _ (spliced ((false,eval e X.env)::backTo pos (starEach es X.env))) _ _ s;refine Calls.spliced_cons (aX (ha pins s σ H _ I h) fun u s1 aE=>?_);obtain⟨x,H1,I1,r1,q1⟩:=aE;exact aX (hr pos pins s1 σ H1 _ I1 q1) fun us s2 ⟨xs,H2,I2,r2,q2⟩=>⟨x::xs,H2,I2,.cons r1 r2,q2⟩
def B9(t:TA):TE:=fun σ H Q=>t σ H fun xs H1=>xs.length<=sizeLine/\∀p,H1 p=none->Q (.ref p) (upd H1 p (.tup xs))
def Ca(t:TA):TE:=fun σ H Q=>t σ H fun xs H1=>xs.length<=sizeLine/\∀p,H1 p=none->Q (.ref p) (upd H1 p (.lst xs))
theorem eS{x1}(h:PA X es t):PE X (.Tuple es x1 pos) (B9 t):=by
  intro pins s σ H Q I hq;refine wpAny_Tuple_spliced (aX (h pos pins s σ H _ I hq) fun us s1 ⟨xs,H1,I1,r,z,q⟩=>⟨by rw[←r.length];exact z,?_⟩);have hf:H1 s1.heap.objs.size=none:=I1.aI.fresh (Nat.le_refl _);refine⟨.ref s1.heap.objs.size,upd H1 s1.heap.objs.size (.tup xs),I1.laid (t':=s1.toks) (fun b u e=>Heap.get?_push_of_some _ e) (Nat.le_refl _) ?_,rfl,q _ hf⟩;exact⟨z,us,r,⟨_,Heap.get?_push_size _ rfl,rfl,_,rfl⟩⟩
theorem cI(h:PA X es t):PE X (.List es pos) (Ca t):=by
  intro pins s σ H Q I hq;refine wpAny_List_spliced (aX (h pos pins s σ H _ I hq) fun us s1 ⟨xs,H1,I1,r,z,q⟩=>⟨by rw[←r.length];exact z,?_⟩);have hf:H1 s1.heap.objs.size=none:=I1.aI.fresh (Nat.le_refl _);refine⟨.ref s1.heap.objs.size,upd H1 s1.heap.objs.size (.lst xs),I1.laid (t':=s1.toks) (fun b u e=>Heap.get?_push_of_some _ e) (Nat.le_refl _) ?_,rfl,q _ hf⟩;exact⟨z,us,0,r,Heap.get?_push_size _ rfl⟩
end
abbrev Sp:=List V->Hp->VK->XK->Prop
abbrev ku:=List Env->Hp->Shared->XK->Value->Shared->Prop
structure kB(P:Program)(w:World)(K:PySem.W.Frag)(mg:Str->Option Value)(base:Heap)(A:Around)(outer:List Env)(s:Shared)(H:Hp):Prop where
  frames:A.frames=some outer
  mod:Mod K mg base
  bs:∀b o,base.get? b=some o->s.heap.get? b=some o/\H b=none
  nu:base.objs.size<=s.heap.objs.size
  f7:s.heap.FunFrames base outer
  pH:∀b∈fH outer,H b=none
  aI:fU P w H s.heap
  bare:AllBare s.gens
def CE(outer:List Env)(P:Program)(w:World)(H:Hp)(s:Shared)(Q:VK)(u:Value)(s':Shared):Prop:=
  ∃v H',s'.os=s.os/\AllBare s'.gens/\Un (fH outer) [] H H' s.heap s'.heap/\fU P w H' s'.heap/\RelV v u/\Q v H'
def CR(CX:ku)(outer:List Env)(P:Program)(w:World)(H:Hp)(s:Shared)(Q:VK)(E:XK)(r:Result)(s':Shared):Prop:=
  match r with
  | .ok (.ret u)=>CE outer P w H s Q u s'
  | .ok _=>False
  | .error e=>CX outer H s E e s'
structure ir(P:Program)(w:World)(K:PySem.W.Frag)(mg:Str->Option Value)(base:Heap)(CX:ku)(k:Nat)(f:Addr)(fd:FuncData)(ps:List Str)(sp:Sp):Prop where
  len:∀vs H Q E,sp vs H Q E->vs.length=ps.length
  run:∀(A:Around)(outer:List Env)(s:Shared)(H:Hp)(args:Args)(us:List Value)(vs:List V)(Q:VK)(E:XK),bE k A->kB P w K mg base A outer s H->BindsTo s fd args (ps.zip us)->Vals vs us->sp vs H Q E->
    codeAny (model P w) A (.call (.ref f) args) (CR CX outer P w H s Q E) s
theorem kB.make{P:Program}{w:World}{K:PySem.W.Frag}{mg:Str->Option Value}{base:Heap}{A:Around}{outer:List Env}{s:Shared}{H:Hp}(e:kB P w K mg base A outer s H)(C:Addr)(us:List Value)(kw:List (Str×Value)) :
    kB P w K mg base (A.under (.builtin "type.__call__" ⟨.ref C::us,kw⟩)) outer s H:=⟨by first | exact e.frames | (simpa[Around.under,Code.envs,Code.isFrame,pushEnvs] using e.frames),e.mod,e.bs,e.nu,e.f7,e.pH,e.aI,e.bare⟩
section
variable{X:Cx}{pins:List (Addr×Obj)}{σ:St}{H:Hp}{s s':Shared}
theorem Inv.rT(I:Inv X pins σ H s):kB X.prog X.w X.K X.mg X.base X.A X.stack s H:=
  ⟨I.ok.frames,I.ok.mod,I.bs,Nat.le_trans I.ok.nu I.sz,I.stack,I.gY,I.aI,I.bare⟩
theorem Inv.after{Q:VK}{u:Value}(I:Inv X pins σ H s)(h:CE X.stack X.prog X.w H s Q u s'):EP X pins σ Q u s':=by
  obtain⟨v,H',os,bare,un,aI,r,q⟩:=h;obtain⟨hh,g,d,t,Mu⟩:=s';obtain rfl:Mu=s.os:=os;exact⟨v,H',I.call (h':=hh) (g':=g) (d':=d) (t':=t) (ch:=[]) un aI bare (fun b z=>absurd z (by simp)),r,q⟩
end
def Ak(sp:Sp)(j3:List V)(E:XK)(t:TA):TE:=fun σ H Q=>t σ H fun vs H1=>sp (vs++j3) H1 Q E
def Binds(K:PySem.W.Frag)(fd:FuncData)(ps:List Str)(ds:List Value):Prop:=
  ∀(s:Shared)(us:List Value),K.In s.heap->(us++ds).length=ps.length->BindsTo s fd ⟨us,[]⟩ (ps.zip (us++ds))
theorem Binds.all{K:PySem.W.Frag}{fd:FuncData}{ps:List Str}(h:∀us:List Value,us.length=ps.length->bindArgs fd ⟨us,[]⟩=pure (ps.zip us)):Binds K fd ps []:=fun s us _ hl=>by
  rw[List.append_nil] at hl ⊢;exact .of_eq (h us hl)
def wg(CX:ku)(X:Cx)(E:XK):Prop:=∀(pins:List (Addr×Obj))(σ:St)(H:Hp)(s:Shared)(e:Value)(s':Shared),Inv X pins σ H s->CX X.stack H s E e s'->X.xe e s'
section
variable{X:Cx}{CX:ku}{k:Nat}{f C:Addr}{fd:FuncData}{ps:List Str}{sp:Sp}{j3:List V}{ds:List Value}{E:XK}{x m:Str}{p pos apos:Pos}{e o:Expr}{es:List Expr}{ta:TE}{t:TA}
theorem Mv{pins:List (Addr×Obj)}{σ:St}{H:Hp}{s:Shared}{Q:VK}{us:List Value}{vs:List V}(F:ir X.prog X.w X.K X.mg X.base CX k f fd ps sp)(hr:bE k X.A)(hb:Binds X.K fd ps ds)(hd:Vals j3 ds)(hx:wg CX X E)
    (I:Inv X pins σ H s) (r:Vals vs us) (h:sp (vs++j3) H Q E):wpAny (model X.prog X.w) X.A (call (.ref f) us) (EP X pins σ Q) X.xe s:=by
  have r2:Vals (vs++j3) (us++ds):=r.append hd;have hl:(us++ds).length=ps.length:=by rw[←r2.length];exact F.len _ _ _ _ h
  refine wpAny_call (codeAny_mono (F.run X.A X.stack s H ⟨us,[]⟩ (us++ds) (vs++j3) Q E hr I.rT (hb s us I.gQ hl) r2 h) fun r s' hq=>?_);cases r with
  | error e=>exact hx pins σ H s e s' I hq
  | ok fl=>
    cases fl with
    | ret u=>exact I.after hq
    | next=>exact False.elim hq
    | brk=>exact False.elim hq
    | cont=>exact False.elim hq
theorem FJ(F:ir X.prog X.w X.K X.mg X.base CX k f fd ps sp)(hr:bE k X.A)(hg:Gl X x)(hm:X.mg x=some (.ref f))(hk:PySem.W.keepIn X.K (.ref f)=true)(hb:Binds X.K fd ps ds)(hd:Vals j3 ds)(hx:wg CX X E)
    (ha:PA X (e::es) t) (gf:(x == ("__debug__" : Str))=false:=by decide) (he:starEach (e::es) X.env=(false,eval e X.env)::starEach es X.env:=by rfl) (gB:(backTo pos (starEach es X.env)).any (·.1)=false:=by rfl) :
    PE X (.Call (.Name x p) (e::es) [] pos) (Ak sp j3 E t):=by
  intro pins s σ H Q I h;refine wpAny_Call_Name_kw (rG I hg hm ?_ gf);refine PySem.W.callWith_K (h₀:=X.base) I.ok.mod.zT hk (aX (ha pos pins s σ H _ I h) fun us s1 ⟨vs,H1,I1,r,q⟩=>⟨I1.gQ,?_⟩) he gB;exact Mv F hr hb hd hx I1 r q
end
def PK(X:Cx)(wj:List Keyword)(t:TA):Prop:=
  ∀(pos:Pos)(pins:List (Addr×Obj))(s:Shared)(σ:St)(H:Hp)(Q:List V->Hp->Prop),Inv X pins σ H s->t σ H Q->wpAny (model X.prog X.w) X.A (evalAll ((backToKw pos (keywordEach wj X.env)).map (·.2))) (AP X pins σ Q) X.xe s
section
variable{X:Cx}{CX:ku}{k:Nat}{f C:Addr}{fd:FuncData}{ps ks:List Str}{sp:Sp}{E:XK}{x m:Str}{p pos apos kpos:Pos}{e o:Expr}{es:List Expr}{wj:List Keyword}{te ta:TE}{t tk:TA}{nm:Option Str}
theorem Mw:PK X [] we:=fun _ _ _ _ H Q I h=>wpAny_evalAll_nil ⟨[],H,I,.nil,h⟩
theorem Mx(ha:PE X e te)(hr:PK X wj t):PK X (⟨nm,e,kpos⟩::wj) (FI te t):=by
  intro pos pins s σ H Q I h;show wpAny _ _ (evalAll ((do let v ←eval e X.env;standAt pos;pure v)::(backToKw pos (keywordEach wj X.env)).map (·.2))) _ _ s;refine wpAny_evalAll_cons (wpAny_bind (aX (ha pins s σ H _ I h) fun u s1 ⟨x,H1,I1,r1,q1⟩=>wpAny_bind (wpAny_standAt (wpAny_pure ?_))));exact aX (hr pos pins s1 σ H1 _ I1 q1) fun us s2 ⟨xs,H2,I2,r2,q2⟩=>⟨x::xs,H2,I2,.cons r1 r2,q2⟩
variable{g:List Value->List Value->List Value}{gV:List V->List V->List V}
end
structure ak(N P:List Str)(sc:Scope):Prop where
  kind:sc.kind = .function
  co:sc.isCoroutine=false
  gen:sc.isGenerator=false
  nd:N.Nodup
  pre:N.take P.length=P
  par:∀x∈P,sc.names.lookup x=some .local\/sc.names.lookup x=some .cell
  rV:∀y∈sc.names,y.2≠.free
theorem FL{kindOf:Str->Option NameKind}{x:Str}:∀{binds:List (Str×Value)}{m:Str->Option Value},(∀v,(x,v) ∉ binds)->bindL kindOf binds m x=m x
  | [],_,_=>rfl
  | (n,v)::r,m,h=>by
    unfold bindL;rw[FL fun w hw=>h w (List.mem_cons_of_mem _ hw)];split
    · have:x≠n:=by rintro rfl;exact h v List.mem_cons_self
      simp[this]
    · rfl
theorem FN{kindOf:Str->Option NameKind}{x:Str}:∀{binds:List (Str×Value)}{m:Str->Option Value},(∀v,(x,v) ∉ binds)->bindC kindOf binds m x=m x
  | [],_,_=>rfl
  | (n,v)::r,m,h=>by
    unfold bindC;rw[FN fun w hw=>h w (List.mem_cons_of_mem _ hw)];split
    · rfl
    · have:x≠n:=by rintro rfl;exact h v List.mem_cons_self
      simp[this]
theorem FO{kindOf:Str->Option NameKind}{x:Str}{v:Value}:∀{P:List Str}{vs:List Value}{i:Nat}{m:Str->Option Value},P.Nodup->P[i]? = some x->vs[i]? = some v->kindOf x=some .local->
    bindL kindOf (P.zip vs) m x=some v
  | [],_,_,_,_,h,_,_=>by simp at h
  | _::_,[],_,_,_,_,h,_=>by simp at h
  | p::P,w::vs,0,m,nd,h1,h2,hk=>by
    simp at h1 h2;subst h1;subst h2;show bindL kindOf ((p,w)::P.zip vs) m p=_;unfold bindL;rw[FL fun v hv=>(List.nodup_cons.mp nd).1 (List.of_mem_zip hv).1,if_pos hk];simp
  | p::P,w::vs,i+1,m,nd,h1,h2,hk=>by
    show bindL kindOf ((p,w)::P.zip vs) m x=_;unfold bindL;exact FO (i:=i) (List.nodup_cons.mp nd).2 (by simpa using h1) (by simpa using h2) hk
theorem FP{kindOf:Str->Option NameKind}{x:Str}{v:Value}:∀{P:List Str}{vs:List Value}{i:Nat}{m:Str->Option Value},P.Nodup->P[i]? = some x->vs[i]? = some v->kindOf x≠some .local->
    bindC kindOf (P.zip vs) m x=some v
  | [],_,_,_,_,h,_,_=>by simp at h
  | _::_,[],_,_,_,_,h,_=>by simp at h
  | p::P,w::vs,0,m,nd,h1,h2,hk=>by
    simp at h1 h2;subst h1;subst h2;show bindC kindOf ((p,w)::P.zip vs) m p=_;unfold bindC;rw[FN fun v hv=>(List.nodup_cons.mp nd).1 (List.of_mem_zip hv).1,if_neg hk];simp
  | p::P,w::vs,i+1,m,nd,h1,h2,hk=>by
    show bindC kindOf ((p,w)::P.zip vs) m x=_;unfold bindC;exact FP (i:=i) (List.nodup_cons.mp nd).2 (by simpa using h1) (by simpa using h2) hk
def start(N:List Str)(vs:List V):St:=vs.map some++List.replicate (N.length-vs.length) none
def iS(CX:ku)(P:Program)(w:World)(K:PySem.W.Frag)(mg:Str->Option Value)(base:Heap)(N:List Str)(qual:Str)(scope:Scope)(f:Addr)(cd:Value)(A:Around)(outer:List Env)(s:Shared)(H:Hp)(E:XK):Cx where
  prog:=P
  w:=w
  K:=K
  mg:=mg
  base:=base
  A:=A.deeper (envOfC qual scope s.heap.objs.size f cd)
  N:=N
  bF:=s
  jG:=H
  env:=envOfC qual scope s.heap.objs.size f cd
  outer:=outer
  stack:=envOfC qual scope s.heap.objs.size f cd::outer
  ex:=[]
  calm:=true
  fn:=fun _=>true
  pn:=[]
  xe:=fun e s'=>wpAny (model P w) (A.deeper (envOfC qual scope s.heap.objs.size f cd)) (leaving (envOfC qual scope s.heap.objs.size f cd) e) (fun _ oN=>CX outer H s E e oN) (fun e' oN=>CX outer H s E e' oN) s'
theorem FQ{sc:Scope}{n:Nat}{x:Str}(h:sc.names.lookup x=some .cell):∃c,(cellsFrom n sc.names []).lookup x=some c:=by
  have q:=PySem.W.cellsFrom_some sc.names n [] (.inl h);exact Option.isSome_iff_exists.mp q
theorem My{CX:ku}{P:Program}{w:World}{K:PySem.W.Frag}{mg:Str->Option Value}{base:Heap}{N ps:List Str}{qual:Str}{scope:Scope}{f:Addr}{cd:Value}{A:Around}{outer:List Env}{s s1:Shared}{H:Hp}{E:XK}{us:List Value}{vs:List V}
    (S:ak N ps scope) (hd:A.handled=none) (e0:kB P w K mg base A outer s H) (hl:vs.length=ps.length) (r:Vals vs us)
    (x:InCallC s s.heap.objs.size (bindL (envOfC qual scope s.heap.objs.size f cd).kindOf (ps.zip us) fun _=>none) (cellsFrom (s.heap.objs.size+1) scope.names []) (bindC (envOfC qual scope s.heap.objs.size f cd).kindOf (ps.zip us) fun _=>none) s1) :
    Inv (iS CX P w K mg base N qual scope f cd A outer s H E) [] (start N vs) H s1:=by
  have gB:ps.length<=N.length:=by have:=congrArg List.length S.pre;rw[List.length_take] at this;omega
  obtain⟨h1,tk,rfl,hk⟩:=x.done;have wm:∀b:Addr,b ∉ (iS CX P w K mg base N qual scope f cd A outer s H E).ex:=fun b z=>absurd (show b∈([]:List Addr) from z) (by simp)
  refine⟨⟨e0.mod,S.kind,rfl,rfl,Nat.le_refl _,fun y z c h1 h2=>?_,fun y hy=>?_,fun y c _ h=>?_,fun _=>hd,Around.frames_deeper e0.frames,.inr ⟨rfl,rfl⟩,fun b z=>absurd z (wm b),e0.bs,e0.nu,fun b _ _=>wm b,fun b z=>absurd z (wm b),e0.f7,e0.pH⟩,
    rfl,e0.bare,Un.kept hk,⟨_,x.toInCall.ns,fun i y v h1 h2 h3=>?_⟩,fun y c h=>⟨_,x.cell y c h⟩,e0.aI.fresh (Nat.le_refl _),fun y c h=>?_,fun p hp=>absurd (show p∈([]:List (Addr×Obj)) from hp) (by simp),e0.aI.kept hk,?_⟩
  · exact name_of_addr x.apart (PySem.mem_of_lookup h1) (PySem.mem_of_lookup h2)
  · have hy:scope.names.lookup y=some .cell\/scope.names.lookup y=some .free:=hy;rcases hy with hy | hy
    · exact FQ hy
    · exact absurd rfl (S.rV _ (PySem.mem_of_lookup hy))
  · exact Nat.le_of_lt (x.above y c (PySem.mem_of_lookup h))
  · have hi:i<vs.length:=by
      unfold start at h2
      by_cases hi:i<vs.length
      · exact hi
      · rw[List.getElem?_append_right (by simpa using hi)] at h2;rw[List.getElem?_replicate] at h2;split at h2<;>cases h2
    have ha:vs[i]? = some v:=by
      unfold start at h2;rw[List.getElem?_append_left (by simpa using hi),List.getElem?_map] at h2;cases e:vs[i]? with
      | none=>rw[e] at h2;cases h2
      | some a=>rw[e] at h2;cases h2;rfl
    obtain⟨u,hu,rv⟩:=r.get ha;have hp:ps[i]? = some y:=by
      rw[←S.pre,List.getElem?_take_of_lt (by omega)];exact h1
    have FT:ps.Nodup:=by rw[←S.pre];exact S.nd.sublist (List.take_sublist _ _)
    refine⟨u,rv,?_⟩;rcases S.par y (List.mem_of_getElem? hp) with k | k
    · exact .inl ⟨k,FO FT hp hu k⟩
    · obtain⟨c,e⟩:=FQ (n:=s.heap.objs.size+1) k;refine .inr ⟨.inl k,c,e,?_⟩;have q:=x.cell y c e;rw[FP FT hp hu (by show scope.names.lookup y≠_;rw[k];decide)] at q;exact q
  · exact e0.aI.fresh (Nat.le_of_lt (x.above y c (PySem.mem_of_lookup h)))
  · unfold start;show _=N.length;rw[List.length_append,List.length_map,List.length_replicate];omega
theorem FU{CX:ku}{P:Program}{w:World}{K:PySem.W.Frag}{mg:Str->Option Value}{base:Heap}{k:Nat}{f:Addr}{name qual:Str}{params:Arguments}{body:List Stmt}{scope:Scope}{dV kV doc pm aR ct oc:Value}{an od:Option Addr}
    {iT:Array (Option Value)}{N ps:List Str}{sp:Sp}(lk:K.lookup f=some ⟨oc,od,.func (PySem.W.fnOf name qual params body scope dV kV doc pm an aR ct),iT⟩) (jX:PySem.W.codeIn K aR qual=true) (S:ak N ps scope)
    (len:∀vs H Q E,sp vs H Q E->vs.length=ps.length)
    (iu:∀(A:Around)(outer:List Env)(s:Shared)(H:Hp)(vs:List V)(Q:VK)(E:XK),bE k (A.deeper (envOfC qual scope s.heap.objs.size f aR))->sp vs H Q E->
      ∃t,jA (iS CX P w K mg base N qual scope f aR A outer s H E) body t/\t { nx:=fun _ H'=>Q .bO H',rt:=Q } (start N vs) H) :
    ir P w K mg base CX (k+1) f (PySem.W.fnOf name qual params body scope dV kV doc pm an aR ct) ps sp:=by
  refine⟨len,fun A outer s H args us vs Q E hr e0 hb r mQ=>?_⟩;have hl:=len _ _ _ _ mQ;have KX:K.In s.heap:=e0.mod.zT.keeps fun b o e=>(e0.bs b o e).1
  have lim:s.heap.NoLimit:=e0.mod.nolimit.keeps fun b o e=>(e0.bs b o e).1
  have wo:∀y∈ps.zip us,scope.names.lookup y.1=some .local\/(scope.names.lookup y.1=some .cell/\((cellsFrom (s.heap.objs.size+1) scope.names []).lookup y.1).isSome=true):=fun⟨n,v⟩ hy=>by
    rcases S.par n (List.of_mem_zip hy).1 with q | q
    · exact .inl q
    · exact .inr ⟨q,PySem.W.cellsFrom_some _ _ _ (.inl q)⟩
  refine codeAny_call_function hr.depth (KX _ _ lk) rfl S.co S.gen rfl (PySem.W.codeRec_of KX jX) (hb _ _ _ _ ?_);refine wpAny_newFunctionEnv_cells S.kind wo fun env he s1 x=>?_
  subst he;refine⟨lim.keeps x.toInCall.keep,codeAny_func ?_⟩;obtain⟨t,ht,hq⟩:=iu A outer s H vs Q E (hr.deeper _) mQ;have I:Inv (iS CX P w K mg base N qual scope f aR A outer s H E) [] (start N vs) H s1:=My S hr.hd e0 hl r x;refine wpAny_mono (ht [] s1 (start N vs) H _ I hq) (fun fl s' hs=>?_) fun e s' hs=>hs
  have fin:∀{aq:St}{H':Hp}{v:V}{u:Value},Inv (iS CX P w K mg base N qual scope f aR A outer s H E) [] aq H' s'->RelV v u->Q v H'->CE outer P w H s Q u s':=
    fun{aq H' v u}J rv q=>⟨v,H',J.os,J.bare,J.base,J.aI,rv,q⟩
  cases fl with
  | ret u=>
    obtain⟨v,aq,H',J,rv,q⟩:=hs;exact fin J rv q
  | next=>
    obtain⟨aq,H',J,q⟩:=hs;exact fin (v:=V.bO) (u:=Value.none) J rfl q
  | brk=>
    obtain⟨_,_,_,q⟩:=hs;exact False.elim q
  | cont=>
    obtain⟨_,_,_,q⟩:=hs;exact False.elim q
section
variable{X:Cx}{x:Str}{p pos:Pos}{e:Expr}{es:List Expr}{t:TA}{id T:String}{r:List V->Hp->VK->Prop}
def FW(r:List V->Hp->VK->Prop)(t:TA):TE:=fun σ H Q=>t σ H fun vs H1=>r vs H1 Q
theorem fJ(hc:ji X (.builtin id) r)(hg:Gl X x)(hm:X.mg x=none)(hv:bootBuiltins x=some (.builtin id))(ha:PA X (e::es) t)(hn:x≠"__name__":=by decide)(gf:(x == ("__debug__" : Str))=false:=by decide)
    (he:starEach (e::es) X.env=(false,eval e X.env)::starEach es X.env:=by rfl) (gB:(backTo pos (starEach es X.env)).any (·.1)=false:=by rfl):PE X (.Call (.Name x p) (e::es) [] pos) (FW r t):=by
  intro pins s σ H Q I h;refine wpAny_Call_Name_kw (vJ I hg hm hv ?_ hn gf);exact PyProof.Rows.callWith_builtin1 (aX (ha pos pins s σ H _ I h) fun us s1 ⟨vs,H1,I1,r1,q1⟩=>hc pins s1 σ H1 vs us Q I1 r1 q1) he gB
theorem pO(hc:ji X (.type T) r)(hg:Gl X x)(hm:X.mg x=none)(hv:bootBuiltins x=some (.type T))(ha:PA X (e::es) t)(hn:x≠"__name__":=by decide)(gf:(x == ("__debug__" : Str))=false:=by decide)
    (he:starEach (e::es) X.env=(false,eval e X.env)::starEach es X.env:=by rfl) (gB:(backTo pos (starEach es X.env)).any (·.1)=false:=by rfl):PE X (.Call (.Name x p) (e::es) [] pos) (FW r t):=by
  intro pins s σ H Q I h;refine wpAny_Call_Name_kw (vJ I hg hm hv ?_ hn gf);exact PyProof.Rows.callWith_type1 (aX (ha pos pins s σ H _ I h) fun us s1 ⟨vs,H1,I1,r1,q1⟩=>hc pins s1 σ H1 vs us Q I1 r1 q1) he gB
end
end L2
namespace HT
open PySem PyProof.Rows
section
open PySem.SeqAt
open PySem.AutoSeq1 (wpAny_loadPart')
open PySem.MeetsSeq PySem.MeetsSeq2 PySem.MeetsSeq3
end
section
variable{prog:Program}{w:World}{A:Around}{E:Value->Shared->Prop}{s:Shared}
theorem pP{t b:Addr}{vs ws:List Value}{Q:Value->Shared->Prop}(ht:IsTup s.heap t vs.toArray)(hb:IsTup s.heap b ws.toArray)(hv:vs≠[])
    (h1:ws = []->Q (.ref t) s) (h2:ws≠[]->Q (.ref s.heap.objs.size) { s with heap:=s.heap.push { cls:=.type "tuple",data:=.seq (vs++ws).toArray } })
    (hsz:vs.length+ws.length<=sizeLine):wpAny (model prog w) A (binaryOp .Add (.ref t) (.ref b)) Q E s:=by
  obtain⟨⟨cls,dd,data,sl⟩,ho,hc,n,hd⟩:=id ht;obtain⟨⟨Cb,Al,data2,Am⟩,rW,rX,n2,hd2⟩:=id hb;simp only at hc hd rX hd2;subst hc hd rX hd2;have e:vs.toArray++ws.toArray=(vs++ws).toArray:=by simp
  by_cases hw:ws = []
  · exact concat_meets ⟨_,ho,rfl⟩ ⟨_,rW,rfl⟩ noFill_tuple_add seq_tuple_add PySem.F.slot_tuple_add PySem.F.entry_tuple_add (PySem.F.args_tuple_add_2 _ _)
      (tuple_addW1 t b vs.toArray ws.toArray n n2 dd Al sl Am (by simpa using hv) (by simp[hw])) ⟨ho,rW,h1 hw⟩
  · refine concat_meets ⟨_,ho,rfl⟩ ⟨_,rW,rfl⟩ noFill_tuple_add seq_tuple_add PySem.F.slot_tuple_add PySem.F.entry_tuple_add (PySem.F.args_tuple_add_2 _ _)
      (tuple_addW2 t b vs.toArray ws.toArray n n2 dd Al sl Am (by simpa using hv) (by simpa using hw) (by rw[List.size_toArray,List.size_toArray];exact hsz)) ⟨ho,rW,?_⟩
    rw[e];exact h2 hw
def bR(n d:Nat):Option Int->Nat
  | none=>d
  | some v=>if v<0 then(v+(n:Int)).toNat else min v.toNat n
theorem Mz(n d:Nat)(hd:d<=n)(o:Option Int):bR n d o<=n:=by
  cases o with
  | none=>exact hd
  | some v=>
    show(if v<0 then(v+(n:Int)).toNat else min v.toNat n)<=n
    by_cases hv:v<0
    · rw[if_pos hv];omega
    · rw[if_neg hv];exact Nat.min_le_right _ _
theorem FY(v:Int)(n d:Nat):(if v<0 then max (v+(n:Int)) 0 else min v (n:Int))=((bR n d (some v):Nat):Int):=by
  show(if v<0 then max (v+(n:Int)) 0 else min v (n:Int))=(((if v<0 then(v+(n:Int)).toNat else min v.toNat n):Nat):Int)
  by_cases hv:v<0
  · simp only[if_pos hv];omega
  · simp only[if_neg hv];omega
theorem MA(lo hi:Option Int)(n:Nat):Builtin.Slice.sliceAdjust lo hi 1 (n:Int)=(((bR n 0 lo:Nat):Int),((bR n n hi:Nat):Int)):=by
  have h1:¬((1:Int)<0):=by omega
  unfold Builtin.Slice.sliceAdjust;simp only[h1,if_false];refine Prod.ext ?_ ?_
  · cases lo with
    | none=>rfl
    | some v=>exact FY v n 0
  · cases hi with
    | none=>rfl
    | some v=>exact FY v n n
theorem MB(i j:Nat):Builtin.Slice.slicePlaces (i:Int) (j:Int) 1=j-i:=by
  unfold Builtin.Slice.slicePlaces;have h1:(1:Int) > 0:=by omega
  simp only[h1,if_true,Int.ediv_one];split<;>omega
theorem FZ{v:Value}{o:Option Int}{Q:Option Int->Shared->Prop}(p:IsPart v o)(h:Q o s):wpAny (model prog w) A (Builtin.Slice.slicePartIndex v) Q E s:=by
  cases p with
  | none=>exact slicePart_none h
  | int i t=>exact slicePart_int h
theorem MC{sl:Addr}{vl vu:Value}{lo hi:Option Int}{n:Nat}{Q:Int×Int×Nat->Shared->Prop}(hs:s.heap.IsSliceOf sl vl vu .none)(pl:IsPart vl lo)(pu:IsPart vu hi)
    (h:Q (((bR n 0 lo:Nat):Int),1,bR n n hi-bR n 0 lo) s):wpAny (model prog w) A (Builtin.Slice.sliceApplied (.ref sl) (pure (n:Int))) Q E s:=by
  obtain⟨os,rY,F4,An⟩:=id hs;unfold Builtin.Slice.sliceApplied Builtin.Slice.sliceFields;refine wpAny_bind (wpAny_bind (wpAny_field rY An (x:=vl) rfl (wpAny_bind (wpAny_field rY An (x:=vu) rfl (wpAny_bind (wpAny_field rY An (x:=.none) rfl (wpAny_pure ?_)))))));refine wpAny_bind (slicePart_none ?_);show wpAny _ _ (if((1:Int) == 0)=true then _ else _) _ _ s;rw[if_neg (by decide)];refine wpAny_bind (FZ pl (wpAny_bind (FZ pu (wpAny_bind (wpAny_pure ?_)))));show wpAny _ _ (match Builtin.Slice.sliceAdjust lo hi 1 (n:Int) with | (lo,hi)=>pure (lo,(1:Int),Builtin.Slice.slicePlaces lo hi 1)) _ _ s;rw[MA lo hi n];show wpAny _ _ (pure (((bR n 0 lo:Nat):Int),(1:Int),Builtin.Slice.slicePlaces ((bR n 0 lo:Nat):Int) ((bR n n hi:Nat):Int) 1)) _ _ s;rw[MB];exact wpAny_pure h
theorem MD(xs:Array Value)(i k:Nat):((List.range k).filterMap fun(m:Nat)=>xs[((i:Int)+(m:Int) * 1).toNat]?).toArray=((xs.toList.drop i).take k).toArray:=by
  have e:(fun(m:Nat)=>xs[((i:Int)+(m:Int) * 1).toNat]?)=fun m=>xs[i+m]?:=by
    funext m;have:((i:Int)+(m:Int) * 1).toNat=i+m:=by omega
    rw[this]
  rw[e];have:=pick_run xs i k;rw[List.filterMap_map] at this;have e2:((fun x=>xs[x]?) ∘ fun x=>i+x)=fun m=>xs[i+m]?:=rfl
  rw[e2] at this;rw[this]
theorem gh{t sl:Addr}{items:Array Value}{vl vu:Value}{lo hi:Option Int}{Q:Value->Shared->Prop}(ht:IsTup s.heap t items)(hs:s.heap.IsSliceOf sl vl vu .none)(pl:IsPart vl lo)(pu:IsPart vu hi)
    (hw:¬(bR items.size 0 lo=0/\bR items.size items.size hi=items.size))
    (h:Q (.ref s.heap.objs.size) { s with heap:=s.heap.push { cls:=.type "tuple",data:=.seq ((items.toList.drop (bR items.size 0 lo)).take (bR items.size items.size hi-bR items.size 0 lo)).toArray } })
    (hsz:items.size<=sizeLine):wpAny (model prog w) A (getItem (.ref t) (.ref sl)) Q E s:=by
  have k8:sizeOk (.seq ((items.toList.drop (bR items.size 0 lo)).take (bR items.size items.size hi-bR items.size 0 lo)).toArray):=by
    show((items.toList.drop (bR items.size 0 lo)).take (bR items.size items.size hi-bR items.size 0 lo)).toArray.size<=sizeLine;rw[List.size_toArray,List.length_take,List.length_drop,Array.length_toList];omega
  have hj:bR items.size items.size hi<=items.size:=Mz _ _ (Nat.le_refl _) hi;obtain⟨os,rY,F4,An⟩:=id hs;have ME:s.TypeIs (.ref sl) "slice":=⟨os,rY,F4⟩;unfold getItem
  try with_reducible refine wpAny_holding ?_
  first | refine wpAny_bind (wpAny_pure ?_) | skip
  refine wpAny_bind (wpAny_sequenceKey ht.typeIs (by decide) ?_);refine wpAny_bind (wpAny_callSpecial?_slot (name:=Str.ofString "__getitem__") ht.typeIs PyProof.Rows.slot_tuple_getitem
    (wpAny_call_entry PyProof.Rows.slot_tuple_getitem ht.typeIs entry_tuple_getitem ?_ (args_tuple_getitem _ _)))
  show wpAny _ _ (Builtin.Tuple.tupleItemsOf (.ref t) >>= _) _ _ s;refine wpAny_bind (tupleItemsOf_ ht ?_);refine wpAny_bind (wpAny_typeOf ME ?_);rw[if_pos (by decide)];refine wpAny_bind (MC hs pl pu ?_);have MF:¬((((bR items.size 0 lo:Nat):Int) == 0&&(1:Int) == 1&&(bR items.size items.size hi-bR items.size 0 lo) == items.size)=true):=by
    intro q;rw[Bool.and_eq_true,Bool.and_eq_true] at q;have q1:((bR items.size 0 lo:Nat):Int)=0:=eq_of_beq q.1.1;have q2:bR items.size items.size hi-bR items.size 0 lo=items.size:=eq_of_beq q.2;exact hw ⟨by omega,by omega⟩
  show wpAny _ _ (if(((bR items.size 0 lo:Nat):Int) == 0&&(1:Int) == 1&&(bR items.size items.size hi-bR items.size 0 lo) == items.size)=true then _ else _) _ _ s;rw[if_neg MF,MD]
  first
    | exact wpAny_bind (m:=Builtin.Tuple.tupleExact _) (wpAny_newObj_type (wpAny_pure ⟨_,rfl,wpAny_pure h⟩) k8)
    | exact wpAny_bind (m:=Builtin.Tuple.tupleExact _) (wpAny_newObj_type (wpAny_bind (wpAny_pure (wpAny_pure ⟨_,rfl,wpAny_pure h⟩))) k8)
    | exact wpAny_bind (wpAny_bind (m:=Builtin.Tuple.tupleExact _) (wpAny_newObj_type (wpAny_pure (wpAny_pure ⟨_,rfl,wpAny_pure h⟩)) k8))
    | exact wpAny_bind (wpAny_bind (m:=Builtin.Tuple.tupleExact _) (wpAny_newObj_type (wpAny_pure ⟨_,rfl,wpAny_pure h⟩) k8))
end
end HT
namespace L2
open PySem PySem.Spec PyProof.Rows
abbrev TO:=St->Hp->(Option Int->Hp->Prop)->Prop
def PO(X:Cx)(e:Option Expr)(t:TO):Prop:=
  ∀(pins:List (Addr×Obj))(s:Shared)(σ:St)(H:Hp)(Q:Option Int->Hp->Prop),Inv X pins σ H s->t σ H Q->
    wpAny (model X.prog X.w) X.A (evalPart e X.env) (fun u s'=>∃o H',Inv X pins σ H' s'/\IsPart u o/\Q o H') X.xe s
def MG:TO:=fun _ H Q=>Q none H
def MH(t:TE):TO:=fun σ H Q=>t σ H fun x H1=>∃i,x = .int i/\Q (some i) H1
section
variable{X:Cx}{e:Expr}{te:TE}{lo hi:Option Expr}{tl th:TO}{pos p2:Pos}
theorem nC:PO X none MG:=by
  intro pins s σ H Q I h;rw[evalPart_none];exact wpAny_pure ⟨none,H,I,.none,h⟩
theorem kC(h:PE X e te):PO X (some e) (MH te):=by
  intro pins s σ H Q I hw;rw[evalPart_some];refine aX (h pins s σ H _ I hw) fun u s1 aE=>?_
  obtain⟨x,H1,I1,r1,q1⟩:=aE;obtain⟨i,rfl,q⟩:=q1;obtain⟨t,rfl⟩:=r1;exact⟨some i,H1,I1,.int i t,q⟩
def uB(X:Cx)(r:V->Option Int->Option Int->Hp->VK->Prop):Prop:=
  ∀(pins:List (Addr×Obj))(s:Shared)(σ:St)(H:Hp)(x:V)(v vl vu:Value)(lo hi:Option Int)(sl:Addr)(Q:VK),Inv X pins σ H s->RelV x v->s.heap.IsSliceOf sl vl vu .none->IsPart vl lo->IsPart vu hi->r x lo hi H Q->
    ∃T id,typeLookup (.type T) "__getitem__" = pure (some (.builtin id))/\s.TypeIs v T/\wpAny (model X.prog X.w) X.A (getItem v (.ref sl)) (EP X pins σ Q) X.xe s
def MI(r:V->Option Int->Option Int->Hp->VK->Prop)(te:TE)(tl th:TO):TE:=fun σ H Q=>te σ H fun x H1=>tl σ H1 fun l H2=>th σ H2 fun u H3=>r x l u H3 Q
theorem lT{r:V->Option Int->Option Int->Hp->VK->Prop}(hr:uB X r)(he:PE X e te)(hl:PO X lo tl)(hu:PO X hi th):PE X (.Subscript e (.Slice lo hi none p2) pos) (MI r te tl th):=by
  intro pins s σ H Q I h;refine Subscript_ (aX (he pins s σ H _ I h) fun v s1 aE=>?_);obtain⟨x,H1,I1,r1,q1⟩:=aE;refine wpAny_Slice (aX (hl pins s1 σ H1 _ I1 q1) fun vl s2 ⟨l,H2,I2,pl,q2⟩=>aX (hu pins s2 σ H2 _ I2 q2) fun vu s3 aE=>?_);obtain⟨u,H3,I3,pu,q3⟩:=aE;rw[evalPart_none];refine wpAny_pure ?_;have I4:Inv X pins σ H3 { s3 with heap:=s3.heap.push { cls:=.type "slice",data:=.fields #[vl,vu,.none] } }:=I3.kept (t':=s3.toks) fun b ob q=>Heap.get?_push_of_some _ q
  obtain⟨T,id,hT,ht,hg⟩:=hr pins { s3 with heap:=s3.heap.push { cls:=.type "slice",data:=.fields #[vl,vu,.none] } } σ H3 x v vl vu l u s3.heap.objs.size Q I4 r1 (Heap.IsSliceOf.new ..) pl pu q3;show wpAny (model X.prog X.w) X.A (subscriptTail e (.Slice lo hi none p2) v (.ref s3.heap.objs.size)) (EP X pins σ Q) X.xe { s3 with heap:=s3.heap.push { cls:=.type "slice",data:=.fields #[vl,vu,.none] } };exact tail_any (ops:=[.ref s3.heap.objs.size,v]) ht hT hg (by with_unfolding_all rfl)
def fK(xs:List V)(lo hi:Option Int):List V:=(xs.drop (HT.bR xs.length 0 lo)).take (HT.bR xs.length xs.length hi-HT.bR xs.length 0 lo)
theorem F9(xs:List V)(lo hi:Option Int):(fK xs lo hi).length<=xs.length:=by
  unfold fK;rw[List.length_take,List.length_drop];omega
def wu(K:PySem.W.Frag):V->Option Int->Option Int->Hp->VK->Prop:=fun x lo hi H Q=>∃a xs,x = .ref a/\aG K H a xs/\
  ¬(HT.bR xs.length 0 lo=0/\HT.bR xs.length xs.length hi=xs.length)/\∀p,H p=none->Q (.ref p) (upd H p (.tup (fK xs lo hi)))
theorem MJ:uB X (wu X.K):=by
  intro pins s σ H x v vl vu lo hi sl Q I rx hs pl pu h;obtain⟨a,xs,rfl,hx,hw,q⟩:=h;cases rx;obtain⟨its,r,ht,hz⟩:=I.tuple hx;have hlen:its.toArray.size=xs.length:=by rw[List.size_toArray];exact r.length.symm
  refine⟨"tuple",_,PyProof.Rows.slot_tuple_getitem.lookup,ht.typeIs,?_⟩;refine HT.gh ht hs pl pu (by rw[hlen];exact hw) ?_ (by rw[hlen];exact hz);rw[hlen];refine⟨.ref s.heap.objs.size,_,I.laid (t':=s.toks) (o:=.tup (fK xs lo hi)) (fun b ob q=>Heap.get?_push_of_some _ q) (Nat.le_refl _) ?_,rfl,q _ (I.aI.fresh (Nat.le_refl _))⟩;exact⟨Nat.le_trans (F9 xs lo hi) hz,_,(r.drop (HT.bR xs.length 0 lo)).take (HT.bR xs.length xs.length hi-HT.bR xs.length 0 lo),IsTup.new _ _⟩
def Ga(K:PySem.W.Frag):R2:=fun x y H Q=>∃a b xs ys,x = .ref a/\y = .ref b/\aG K H a xs/\aG K H b ys/\xs≠[]/\xs.length+ys.length<=sizeLine/\
  (ys = []->Q (.ref a) H)/\(ys≠[]->∀p,H p=none->Q (.ref p) (upd H p (.tup (xs++ys))))
theorem Vals.dg{xs:List V}{us:List Value}(r:Vals xs us):us = []↔xs = []:=by
  cases r with
  | nil=>simp
  | cons _ _=>simp
theorem MK:fk X (binaryOp .Add) (Ga X.K):=by
  intro pins s σ H x y v u Q I rx ry h;obtain⟨a,b,xs,ys,rfl,rfl,ha,hb,hx,hz,q1,q2⟩:=h;cases rx;cases ry;obtain⟨its,r1,p1,_⟩:=I.tuple ha;obtain⟨bV,r2,p2,_⟩:=I.tuple hb;refine HT.pP p1 p2 (fun z=>hx (r1.dg.mp z)) (fun z=>⟨.ref a,H,I,rfl,q1 (r2.dg.mp z)⟩) (fun z=>?_) (by rw[←r1.length,←r2.length];exact hz);refine⟨.ref s.heap.objs.size,_,I.laid (t':=s.toks) (o:=.tup (xs++ys)) (fun b ob q=>Heap.get?_push_of_some _ q) (Nat.le_refl _) ?_,rfl,q2 (fun w=>z (r2.dg.mpr w)) _ (I.aI.fresh (Nat.le_refl _))⟩;exact⟨by rw[List.length_append];exact hz,_,r1.append r2,IsTup.new _ _⟩
end
def rZ(n:Nat)(i:Int):Option Nat:=if 0<=i then(if i<n then some i.toNat else none) else if -(n:Int)<=i then some (i+n).toNat else none
def gC{α:Type}(xs:List α)(i:Int):Option α:=(rZ xs.length i).bind fun j=>xs[j]?
theorem ML{n:Nat}{i:Int}{j:Nat}(h:rZ n i=some j):seqIndex? i n=some j/\j<n/\-(n:Int)<=i/\i<n:=by
  unfold rZ at h
  by_cases h0:0<=i
  · rw[if_pos h0] at h
    by_cases h1:i<n
    · rw[if_pos h1] at h;have e:i.toNat=j:=Option.some.inj h;exact⟨by rw[seqIndex_of h0 h1,e],by omega,by omega,h1⟩
    · rw[if_neg h1] at h;cases h
  · rw[if_neg h0] at h
    by_cases h1 : -(n:Int)<=i
    · rw[if_pos h1] at h;have e:(i+n).toNat=j:=Option.some.inj h;exact⟨by rw[seqIndex_neg (by omega) h1,e],by omega,h1,by omega⟩
    · rw[if_neg h1] at h;cases h
theorem Cc{α:Type}{xs:List α}{i:Int}{v:α}(h:gC xs i=some v):∃j,seqIndex? i xs.length=some j/\xs[j]? = some v/\j<xs.length/\-(xs.length:Int)<=i/\i<xs.length:=by
  unfold gC at h;cases e:rZ xs.length i with
  | none=>rw[e] at h;cases h
  | some j=>
    rw[e] at h;obtain⟨h1,h2,h3,h4⟩:=ML e;exact⟨j,h1,h,h2,h3,h4⟩
theorem iU{α:Type}{xs:List α}{j:Nat}{v:α}(h:xs[j]? = some v):gC xs (j:Int)=some v:=by
  have hj:j<xs.length:=(List.getElem?_eq_some_iff.mp h).1;have e:rZ xs.length (j:Int)=some j:=by
    unfold rZ;rw[if_pos (by omega),if_pos (by omega)];simp
  unfold gC;rw[e];exact h
def Gb(b:Expr):Prop:=∀o i,subscripted b false o i=operate [o,i] (getItem o i)
def r8(X:Cx)(r:R2):Prop:=
  ∀(value slice:Expr)(pins:List (Addr×Obj))(s:Shared)(σ:St)(H:Hp)(x y:V)(v u:Value)(Q:VK),Inv X pins σ H s->RelV x v->RelV y u->r x y H Q->
    subscripted slice false v u=operate [v,u] (getItem v u)->wpAny (model X.prog X.w) X.A (subscriptTail value slice v u) (EP X pins σ Q) X.xe s
def wz(X:Cx)(id:String)(r:V->List V->Hp->VK->Prop):Prop:=
  ∀(pins:List (Addr×Obj))(s:Shared)(σ:St)(H:Hp)(x:V)(xs:List V)(v:Value)(us:List Value)(Q:VK),Inv X pins σ H s->RelV x v->Vals xs us->r x xs H Q->
    wpAny (model X.prog X.w) X.A (call (.builtin id) (v::us)) (EP X pins σ Q) X.xe s
section
variable{X:Cx}{a b:Expr}{ta tb:TE}{pos:Pos}
theorem MM{r:R2}(hr:r8 X r)(ha:PE X a ta)(hb:PE X b tb)(hs:Gb b):PE X (.Subscript a b pos) (uy r ta tb):=by
  intro pins s σ H Q I h;exact Subscript_ (rP ha hb I h fun v u s2 x y H2 I2 rx ry q=>hr a b pins s2 σ H2 x y v u Q I2 rx ry q (hs _ _))
def wA(K:PySem.W.Frag):R2:=fun x y H Q=>∃p xs i v,x = .ref p/\y = .int i/\ao K H p xs/\gC xs i=some v/\Q v H
def wB(K:PySem.W.Frag):R2:=fun x y H Q=>∃p xs i v,x = .ref p/\y = .int i/\aG K H p xs/\gC xs i=some v/\Q v H
def Cd:R2:=fun x y H Q=>∃z i c,x = .str z/\y = .int i/\z.length<=sizeLine/\gC z.cps.toList i=some c/\Q (.str ⟨#[c]⟩) H
theorem MN:r8 X (wA X.K):=by
  intro value slice pins s σ H x y v u Q I rx ry h hs;obtain⟨p,xs,i,z,rfl,rfl,hq,he,q⟩:=h;cases rx;obtain⟨t,rfl⟩:=ry;obtain⟨its,r,pl,hz⟩:=I.list hq;obtain⟨j,h1,h2,h3,h4,h5⟩:=Cc he;obtain⟨w,ew,fj⟩:=r.get h2;have hl:=r.length;have hn:=Aj;have fin:EP X pins σ Q w s:=⟨z,H,I,fj,q⟩
  by_cases h0:0<=i
  · have hj:i.toNat=j:=by
      rw[seqIndex_of h0 h5] at h1;exact Option.some.inj h1
    exact item_listR pl.isList h0 (by omega) (by rw[hj];simpa using ew) fin hs
  · have hj:(i+(its.toArray.size:Int)).toNat=j:=by
      rw[seqIndex_neg (by omega) h4] at h1;rw[List.size_toArray,←hl];exact Option.some.inj h1
    exact subscriptTail_builtinR (x:=w) pl.isList.typeIs slot_list_getitem.lookup
      (wpAny_getItem_list_neg (Q:=fun r s'=>r=w/\EP X pins σ Q r s') pl.isList (by omega) (by rw[List.size_toArray]<;>omega) (by omega) (by rw[hj];simpa using ew) ⟨rfl,fin⟩) hs
theorem MO:r8 X (wB X.K):=by
  intro value slice pins s σ H x y v u Q I rx ry h hs;obtain⟨p,xs,i,z,rfl,rfl,hq,he,q⟩:=h;cases rx;obtain⟨t,rfl⟩:=ry;obtain⟨its,r,pl,hz⟩:=I.tuple hq;obtain⟨j,h1,h2,h3,h4,h5⟩:=Cc he;obtain⟨w,ew,fj⟩:=r.get h2;have hl:=r.length;have hn:=Aj;have fin:EP X pins σ Q w s:=⟨z,H,I,fj,q⟩;exact subscriptTail_builtinR (x:=w) pl.typeIs slot_tuple_getitem.lookup
    (getItem_tuple (j:=j) (Q:=fun r s'=>r=w/\EP X pins σ Q r s') pl (by omega) (by omega) (by rw[List.size_toArray,←hl];exact h1) (by simpa using ew) ⟨rfl,fin⟩) hs
theorem MP:r8 X Cd:=by
  intro value slice pins s σ H x y v u Q I rx ry h hs;obtain⟨z,i,c,rfl,rfl,hz,he,q⟩:=h;obtain⟨t,rfl⟩:=rx;obtain⟨t',rfl⟩:=ry;obtain⟨j,h1,h2,h3,h4,h5⟩:=Cc he;have hl:z.cps.toList.length=z.length:=by simp[Str.length]
  rw[hl] at h1 h4 h5;have hn:=Aj;exact tail_any (typeIs_str s z t) slot_str_getitem.lookup (getItem_str (c:=c) (by
    have e1:decide (i < -(2 ^ 63:Int))=false:=decide_eq_false (by omega);have e2:decide (i≥2 ^ 63)=false:=decide_eq_false (by omega);rw[e1,e2,Bool.or_false]) (by rw[h1];simpa using h2) ⟨.str ⟨#[c]⟩,H,I.tok _,⟨_,rfl⟩,q⟩) hs
theorem MQ(lo hi:Option Int)(n:Nat):(sliceBounds lo hi none n).1=((HT.bR n 0 lo:Nat):Int)/\(sliceBounds lo hi none n).2.1=((HT.bR n n hi:Nat):Int)/\(sliceBounds lo hi none n).2.2=1:=by
  refine⟨?_,?_,rfl⟩
  · cases lo with
    | none=>simp[sliceBounds,HT.bR]
    | some i=>
      simp only[sliceBounds,HT.bR,Option.getD_none,show(1:Int) > 0 by decide,if_true]
      by_cases h:i<0
      · simp only[h,if_true]<;>omega
      · simp only[h,if_false]<;>omega
  · cases hi with
    | none=>simp[sliceBounds,HT.bR]
    | some i=>
      simp only[sliceBounds,HT.bR,Option.getD_none,show(1:Int) > 0 by decide,if_true]
      by_cases h:i<0
      · simp only[h,if_true]<;>omega
      · simp only[h,if_false]<;>omega
theorem MR(its:List Value)(lo hi:Option Int):slicePick its.toArray lo hi none=((its.drop (HT.bR its.length 0 lo)).take (HT.bR its.length its.length hi-HT.bR its.length 0 lo)).toArray:=by
  obtain⟨h1,h2,h3⟩:=MQ lo hi its.toArray.size;unfold slicePick;rw[h1,h2,h3];simp only[sliceRange_one,pick_run,List.size_toArray]<;>rfl
def wC(K:PySem.W.Frag):V->Option Int->Option Int->Hp->VK->Prop:=fun x lo hi H Q=>∃a xs,x = .ref a/\ao K H a xs/\∀p,H p=none->Q (.ref p) (upd H p (.lst (fK xs lo hi)))
theorem MS:uB X (wC X.K):=by
  intro pins s σ H x v vl vu lo hi sl Q I rx hs pl pu h;obtain⟨a,xs,rfl,hx,q⟩:=h;cases rx;obtain⟨its,r,ht,hz⟩:=I.list hx;have hlen:=r.length;refine⟨"list",_,slot_list_getitem.lookup,ht.isList.typeIs,?_⟩;refine wpAny_getItem_list_slice ht.isList hs pl pu .none (by simp) ?_ (by rw[List.size_toArray]<;>omega);rw[MR,←hlen];refine⟨.ref s.heap.objs.size,_,I.laid (t':=s.toks) (o:=.lst (fK xs lo hi)) (fun b ob q=>Heap.get?_push_of_some _ q) (Nat.le_refl _) ?_,rfl,q _ (I.aI.fresh (Nat.le_refl _))⟩;exact⟨Nat.le_trans (F9 xs lo hi) hz,_,0,(r.drop (HT.bR xs.length 0 lo)).take (HT.bR xs.length xs.length hi-HT.bR xs.length 0 lo),Heap.get?_push_size _ rfl⟩
def jj:V->Bool
  | .bO=>true
  | .bl _=>true
  | .int _=>true
  | .str _=>true
  | _=>false
def k9:V->V->Bool
  | .bO,.bO=>true
  | .bl a,.bl b=>a == b
  | .bl a,.int b=>(if a then 1 else 0) == b
  | .int a,.bl b=>a == (if b then 1 else 0)
  | .int a,.int b=>a == b
  | .str a,.str b=>a == b
  | _,_=>false
theorem Gd{A:Around}{s:Shared}{y x:V}{u v:Value}(ry:RelV y u)(rx:RelV x v)(fy:jj y=true)(fx:jj x=true):SeqAt.EqAt A s u v (k9 y x):=by
  cases y with
  | bO=>
    cases ry;cases x with
    | bO=>cases rx;exact SeqAt.EqAt.same _
    | bl b=>cases rx;exact SeqAt.EqAt.none_bool b
    | int b=>obtain⟨t,rfl⟩:=rx;exact SeqAt.EqAt.none_int b t
    | str b=>obtain⟨t,rfl⟩:=rx;exact SeqAt.EqAt.none_str b t
    | _=>exact absurd (show false=true from fx) Bool.false_ne_true
  | bl a=>
    cases ry;cases x with
    | bO=>cases rx;exact SeqAt.EqAt.bool_none a
    | bl b=>cases rx;exact SeqAt.EqAt.bool_bool a b
    | int b=>obtain⟨t,rfl⟩:=rx;exact SeqAt.EqAt.bool_int a b t
    | str b=>obtain⟨t,rfl⟩:=rx;exact SeqAt.EqAt.bool_str a b t
    | _=>exact absurd (show false=true from fx) Bool.false_ne_true
  | int a=>
    obtain⟨t',rfl⟩:=ry;cases x with
    | bO=>cases rx;exact SeqAt.EqAt.int_none a t'
    | bl b=>cases rx;exact SeqAt.EqAt.int_bool a t' b
    | int b=>obtain⟨t,rfl⟩:=rx;exact SeqAt.EqAt.int_int a t' b t
    | str b=>obtain⟨t,rfl⟩:=rx;exact SeqAt.EqAt.int_str a t' b t
    | _=>exact absurd (show false=true from fx) Bool.false_ne_true
  | str a=>
    obtain⟨t',rfl⟩:=ry;cases x with
    | bO=>cases rx;exact SeqAt.EqAt.str_none a t'
    | bl b=>cases rx;exact SeqAt.EqAt.str_bool a t' b
    | int b=>obtain⟨t,rfl⟩:=rx;exact SeqAt.EqAt.str_int a t' b t
    | str b=>obtain⟨t,rfl⟩:=rx;exact SeqAt.EqAt.str_str a t' b t
    | _=>exact absurd (show false=true from fx) Bool.false_ne_true
  | _=>exact absurd (show false=true from fy) Bool.false_ne_true
def kD(x:V)(u:Value):Bool:=match u with
  | .none=>k9 .bO x
  | .bool b=>k9 (.bl b) x
  | .int i _=>k9 (.int i) x
  | .str z _=>k9 (.str z) x
  | _=>false
theorem Ge{x y:V}{u:Value}(r:RelV y u)(f:jj y=true):kD x u=k9 y x:=by
  cases y with
  | bO=>cases r;rfl
  | bl b=>cases r;rfl
  | int i=>obtain⟨t,rfl⟩:=r;rfl
  | str z=>obtain⟨t,rfl⟩:=r;rfl
  | _=>exact absurd (show false=true from f) Bool.false_ne_true
theorem wD{x:V}:∀{xs:List V}{us:List Value},Vals xs us->xs.all jj=true->us.any (kD x)=xs.any fun y=>k9 y x
  | _,_,.nil,_=>rfl
  | y::xs,u::us,.cons r t,f=>by
    rw[List.all_cons,Bool.and_eq_true] at f;rw[List.any_cons,List.any_cons,Ge r f.1,wD t f.2]
theorem wF{A:Around}{s:Shared}{x:V}{v:Value}(rx:RelV x v)(fx:jj x=true):∀{xs:List V}{us:List Value},Vals xs us->xs.all jj=true->∀u∈us,SeqAt.EqAt A s u v (kD x u)
  | _,_,.nil,_=>fun u hu=>by cases hu
  | y::xs,u::us,.cons r t,f=>fun u' hu=>by
    rw[List.all_cons,Bool.and_eq_true] at f;rcases List.mem_cons.mp hu with rfl | hu
    · rw[Ge r f.1];exact Gd r rx f.1 fx
    · exact wF rx fx t f.2 u' hu
def uC(x:V)(xs:List V):Bool:=xs.any fun y=>k9 y x
def Ao(K:PySem.W.Frag)(neg:Bool):R2:=fun x y H Q=>∃p xs,y = .ref p/\(ao K H p xs\/aG K H p xs)/\jj x=true/\xs.all jj=true/\Q (.bl (if neg then !uC x xs else uC x xs)) H
theorem MT:fk X (compareOp .In) (Ao X.K false):=by
  intro pins s σ H x y v u Q I rx ry h;obtain⟨p,xs,rfl,hq,fx,fs,q⟩:=h;cases ry;rcases hq with hq | hq
  · obtain⟨its,r,pl,hz⟩:=I.list hq;refine SeqAt.in_listAt (kD x) pl.isList (fun w hw=>wF rx fx r fs w (by simpa using hw)) ⟨.bl _,H,I,rfl,?_⟩;rw[show its.toArray.any (kD x)=its.any (kD x) by simp,wD r fs];exact q
  · obtain⟨its,r,pl,hz⟩:=I.tuple hq;refine SeqAt.in_tupleAt (kD x) pl (fun w hw=>wF rx fx r fs w (by simpa using hw)) ⟨.bl _,H,I,rfl,?_⟩;rw[show its.toArray.any (kD x)=its.any (kD x) by simp,wD r fs];exact q
theorem MU:fk X (compareOp .NotIn) (Ao X.K true):=by
  intro pins s σ H x y v u Q I rx ry h;obtain⟨p,xs,rfl,hq,fx,fs,q⟩:=h;cases ry;rcases hq with hq | hq
  · obtain⟨its,r,pl,hz⟩:=I.list hq;refine SeqAt.notIn_listAt (kD x) pl.isList (fun w hw=>wF rx fx r fs w (by simpa using hw)) ⟨.bl _,H,I,rfl,?_⟩;rw[show its.toArray.any (kD x)=its.any (kD x) by simp,wD r fs];exact q
  · obtain⟨its,r,pl,hz⟩:=I.tuple hq;refine SeqAt.notIn_tupleAt (kD x) pl (fun w hw=>wF rx fx r fs w (by simpa using hw)) ⟨.bl _,H,I,rfl,?_⟩;rw[show its.toArray.any (kD x)=its.any (kD x) by simp,wD r fs];exact q
theorem MV:ji X (.builtin "len") (fun xs H Q=>∃p ys,xs = [.ref p]/\(ao X.K H p ys\/aG X.K H p ys)/\Q (.int ys.length) H):=by
  intro pins s σ H xs us Q I r h;obtain⟨p,ys,rfl,hq,q⟩:=h;obtain⟨u,rfl,rx⟩:=j0 r;cases rx;have hn:=Aj;rcases hq with hq | hq
  · obtain⟨its,r',pl,hz⟩:=I.list hq;have hlen:=r'.length;exact Calls.call_len_list pl.isList (by simp only[List.size_toArray]<;>omega) ⟨.int ys.length,H,I.tok _,⟨s.toks+1,by rw[List.size_toArray,hlen]⟩,q⟩
  · obtain⟨its,r',pl,hz⟩:=I.tuple hq;have hlen:=r'.length;exact len_tuple pl (by simp only[List.size_toArray]<;>omega) ⟨.int ys.length,H,I.tok _,⟨s.toks+1,by rw[List.size_toArray,hlen]⟩,q⟩
theorem MW:ji X (.type "list") (fun xs H Q=>∃p ys,xs = [.ref p]/\(ao X.K H p ys\/aG X.K H p ys)/\∀l,H l=none->Q (.ref l) (upd H l (.lst ys))):=by
  intro pins s σ H xs us Q I r h;obtain⟨p,ys,rfl,hq,q⟩:=h;obtain⟨u,rfl,rx⟩:=j0 r;cases rx;have fin:∀(its:List Value),Vals ys its->ys.length<=sizeLine->∀(h':Heap)(c':Nat),(∀b o',s.heap.get? b=some o'->h'.get? b=some o')->
      h'.get? s.heap.objs.size=some { cls:=.type "list",dict:=none,data:=.seq its.toArray c',slots:=#[] }->EP X pins σ Q (.ref s.heap.objs.size) { s with heap:=h' }:=fun its r' hz h' c' kp e=>
    ⟨.ref s.heap.objs.size,_,I.laid (t':=s.toks) kp (Nat.le_refl _) (show aP X.prog X.w _ h' _ (.lst ys) from⟨hz,its,c',r',e⟩),rfl,q _ (I.aI.fresh (Nat.le_refl _))⟩
  rcases hq with hq | hq
  · obtain⟨its,r',pl,hz⟩:=I.list hq;have hlen:=r'.length;obtain⟨o,ho,hc,n,hd⟩:=pl.isList;exact call_list_seq p (.inl rfl) ho hc hd (fun h' c' kp e=>fin its r' hz h' c' kp e) (by simp only[List.size_toArray]<;>omega)
  · obtain⟨its,r',pl,hz⟩:=I.tuple hq;have hlen:=r'.length;obtain⟨o,ho,hc,n,hd⟩:=pl;exact call_list_seq p (.inr rfl) ho hc hd (fun h' c' kp e=>fin its r' hz h' c' kp e) (by simp only[List.size_toArray]<;>omega)
def Ce(K:PySem.W.Frag)(T:String)(x:V)(H:Hp):Prop:=match x with
  | .str _=>T = "str"
  | .int _=>T = "int"
  | .ref p=>(T = "list"/\∃xs,ao K H p xs)\/(T = "tuple"/\∃o,K.lookup p=some o/\o.cls = .type "tuple"/\o.dict=none)\/
      (T = "dict"/\((∃kvs,H p=some (.dK kvs))\/∃kvs,H p=some (.dT kvs)))\/(T = "set"/\∃S n,H p=some (.set S n))
  | _=>False
theorem Gf{pins:List (Addr×Obj)}{σ:St}{H:Hp}{s:Shared}{T:String}{x:V}{v:Value}(I:Inv X pins σ H s)(r:RelV x v)(ty:Ce X.K T x H) :
    s.TypeIs v T/\∀a,v = .ref a->∃ob,s.heap.get? a=some ob/\ob.dict=none:=by
  cases x with
  | str z=>
    obtain⟨t,rfl⟩:=r;cases (show T = "str" from ty);exact⟨typeIs_str s z t,fun _ e=>nomatch e⟩
  | int i=>
    obtain⟨t,rfl⟩:=r;cases (show T = "int" from ty);exact⟨typeIs_int s i t,fun _ e=>nomatch e⟩
  | ref p=>
    cases r;rcases ty with ⟨rfl,xs,hq⟩ | ⟨rfl,o,hk,hc,hd⟩ | ⟨rfl,hk⟩ | ⟨rfl,S,n,hk⟩
    · obtain⟨its,_,pl,_⟩:=I.list hq;refine⟨pl.isList.typeIs,fun a e=>?_⟩;cases e;obtain⟨o,n,e,c,hd,_⟩:=pl;exact⟨o,e,hd⟩
    · refine⟨⟨o,I.gQ p o hk,hc⟩,fun a e=>?_⟩;cases e;exact⟨o,I.gQ _ o hk,hd⟩
    · have z:∃o,s.heap.get? p=some o/\o.ExactDict:=by
        rcases hk with ⟨kvs,hk⟩ | ⟨kvs,hk⟩
        · obtain⟨_,_,_,_,o,_,_,e,ex,_⟩:=I.aI p _ hk;exact⟨o,e,ex⟩
        · obtain⟨_,_,_,_,o,_,_,e,ex,_⟩:=I.aI p _ hk;exact⟨o,e,ex⟩
      obtain⟨o,e,ex⟩:=z;refine⟨⟨o,e,ex.1⟩,fun a e2=>?_⟩;cases e2;exact⟨o,e,ex.2.1⟩
    · obtain⟨o,_,_,_,e,ex,_⟩:=I.aI p _ hk;refine⟨⟨o,e,ex.1⟩,fun a e2=>?_⟩;cases e2;exact⟨o,e,ex.2.1⟩
  | _=>exact False.elim ty
def wG(K:PySem.W.Frag)(T:String)(r:V->List V->Hp->VK->Prop)(to:TE):TE:=fun σ H Q=>to σ H fun x H1=>Ce K T x H1/\r x [] H1 Q
def Gg(K:PySem.W.Frag)(T:String)(r:V->List V->Hp->VK->Prop)(to:TE)(t:TA):TE:=fun σ H Q=>to σ H fun x H1=>Ce K T x H1/\t σ H1 fun xs H2=>r x xs H2 Q
variable{o e:Expr}{es:List Expr}{to:TE}{t:TA}{name:Str}{apos aS:Pos}{T id:String}{r:V->List V->Hp->VK->Prop}
theorem MX(pa:PlainAttrs T)(slot:Slot T name id)(r9:typeOf (.builtin id)=pure (.type "method_descriptor"))(hm:wz X id r)(ho:PE X o to)
    (iw:attributeBase o name X.env (eval o X.env)=eval o X.env:=by rfl) (iy:(apos.endLine == aS.line)=true:=by rfl):PE X (.Call (.Attribute o name apos) [] [] aS) (wG X.K T r to):=by
  intro pins s σ H Q I h;refine wpAny_Call_method0_late iw iy (aX (ho pins s σ H _ I h) fun v s1 aE=>?_);obtain⟨x,H1,I1,r1,ty,q1⟩:=aE;obtain⟨h1,h2⟩:=Gf I1 r1 ty;exact⟨T,id,pa,slot,r9,h1,h2,Calls.callWith_builtin rfl (PySem.evalArgs_none (hm pins s1 σ H1 x [] v [] Q I1 r1 .nil q1))⟩
theorem MY(pa:PlainAttrs T)(slot:Slot T name id)(r9:typeOf (.builtin id)=pure (.type "method_descriptor"))(hm:wz X id r)(ho:PE X o to)(ha:PA X (e::es) t)
    (iw:attributeBase o name X.env (eval o X.env)=eval o X.env:=by rfl)
    (sd:((backTo aS (starEach (e::es) X.env)).all (fun x=>!x.1)&&(backToKw aS (keywordEach [] X.env)).all (fun x=>x.1.isSome)
      && decide ((e::es).length+([]:List Keyword).length+(if([]:List Keyword).isEmpty then 0 else 1)<30))=true:=by rfl)
    (iy:(apos.endLine == aS.line)=true:=by rfl) (hs:starEach (e::es) X.env=(false,eval e X.env)::starEach es X.env:=by rfl) (kF:(backTo aS (starEach es X.env)).any (·.1)=false:=by rfl) :
    PE X (.Call (.Attribute o name apos) (e::es) [] aS) (Gg X.K T r to t):=by
  intro pins s σ H Q I h;refine wpAny_Call_method_late iw sd iy rfl (aX (ho pins s σ H _ I h) fun v s1 aE=>?_);obtain⟨x,H1,I1,r1,ty,q1⟩:=aE;obtain⟨h1,h2⟩:=Gf I1 r1 ty;refine⟨T,id,pa,slot,r9,h1,h2,?_⟩;have hA:=ha aS pins s1 σ H1 _ I1 q1;rw[hs] at hA ⊢;refine Calls.callWith_builtin (by show(false||(backTo aS (starEach es X.env)).any (·.1))=false;rw[kF]<;>rfl) (Calls.evalArgs_plain ?_);exact aX hA fun us s2 ⟨vs,H2,I2,r2,q2⟩=>hm pins s2 σ H2 x vs v us Q I2 r1 r2 q2
end
def Gh(X:Cx)(id:String)(r:V->List V->Hp->VK->Prop):Prop:=
  ∀(pins:List (Addr×Obj))(s:Shared)(σ:St)(H:Hp)(x:V)(xs:List V)(v:Value)(us:List Value)(Q:VK),Inv X pins σ H s->RelV x v->Vals xs us->r x xs H Q->
    wpAny (model X.prog X.w) X.A (call (.builtin id) (v::us)) (EP X pins σ Q) X.xe s
theorem Vals.one:∀{x:V}{us:List Value},Vals [x] us->∃u,us = [u]/\RelV x u
  | _,_,.cons r .nil=>⟨_,rfl,r⟩
section
variable{X:Cx}{pins:List (Addr×Obj)}{σ:St}{H:Hp}{s:Shared}{l b:Addr}{xs ys zs:List V}
theorem Inv.Cf{its its':List Value}{n:Nat}{f:Array Value->Array Value}{t':Nat}(I:Inv X pins σ H s)(hH:H l=some (.lst xs))
    (e:s.heap.get? l=some { cls:=.type "list",data:=.seq its.toArray n }) (hf:f its.toArray=its'.toArray) (hv:Vals ys its') (hz:ys.length<=sizeLine) :
    Inv X pins σ (upd H l (.lst ys)) { s with heap:=s.heap.update l (Obj.mapSeq f),toks:=t' }:=by
  have q:=PySem.IsL.update e f;rw[hf] at q;refine I.write (x:=l) (e:=l) (by rw[hH];exact trivial) (.inl rfl) (fun b' u hb hu=>(Heap.get?_update_other s.heap (Obj.mapSeq f) (Ne.symm hb)).trans hu) ⟨_,q⟩ ?_;exact⟨hz,its',_,hv,q⟩
theorem Inv.se{its:List Value}{t':Nat}(I:Inv X pins σ H s)(hv:Vals ys its)(hz:ys.length<=sizeLine) :
    Inv X pins σ (upd H s.heap.objs.size (.lst ys)) { s with heap:=s.heap.push { cls:=.type "list",data:=.seq its.toArray },toks:=t' }:=
  I.laid (fun _ _ q=>Heap.get?_push_of_some _ q) (Nat.le_refl _) ⟨hz,its,0,hv,Heap.get?_push_size _ rfl⟩
theorem Inv.fresh(I:Inv X pins σ H s):H s.heap.objs.size=none:=I.aI.fresh (Nat.le_refl _)
theorem Inv.sj(I:Inv X pins σ H s)(hH:H l=some (.lst xs)):xs.length<=sizeLine/\∃(its:List Value)(n:Nat),Vals xs its/\xs.length=its.length/\s.heap.get? l=some { cls:=.type "list",data:=.seq its.toArray n }:=by
  obtain⟨z,its,n,r,e⟩:=I.aI l _ hH;exact⟨z,its,n,r,r.length,e⟩
theorem WL{n:Nat}(h:n<=sizeLine):Builtin.List.listTooLong n=false:=by
  unfold Builtin.List.listTooLong;exact decide_eq_false (by omega)
end
section
variable{X:Cx}
def MZ:V->List V->Hp->VK->Prop:=fun x vs H Q=>∃l xs y,x = .ref l/\vs = [y]/\H l=some (.lst xs)/\xs.length<sizeLine/\Q .bO (upd H l (.lst (xs++[y])))
theorem j4:Gh X "list.append" MZ:=by
  intro pins s σ H x vs v us Q I rx rv h;obtain⟨l,xs,y,rfl,rfl,hH,hz,q⟩:=h;cases rx;obtain⟨u,rfl,ru⟩:=rv.one;obtain⟨z,its,n,r,hl,e⟩:=I.sj hH;refine call_meets F.slot_list_append ⟨_,e,rfl⟩ F.entry_list_append (F.args_list_append_2 _ _) (PySem.list_append l its.toArray n u (by rw[List.size_toArray];omega)) ⟨e,?_⟩;refine⟨.bO,_,I.Cf (its':=its++[u]) hH e (by simp) (r.append (.cons ru .nil)) ?_,rfl,q⟩;rw[List.length_append,List.length_singleton];omega
def Cg:R2:=fun x y H Q=>∃l b xs zs,x = .ref l/\y = .ref b/\H l=some (.lst xs)/\H b=some (.lst zs)/\xs.length+zs.length<=sizeLine/\∀p,H p=none->Q (.ref p) (upd H p (.lst (xs++zs)))
theorem sq:fk X (binaryOp .Add) Cg:=by
  intro pins s σ H x y v u Q I rx ry h;obtain⟨l,b,xs,zs,rfl,rfl,hH,hB,hz,q⟩:=h;cases rx;cases ry;obtain⟨z,its,n,r,hl,e⟩:=I.sj hH;obtain⟨z2,bV,n2,r2,iL,e2⟩:=I.sj hB;refine PySem.P.add_list e e2 ?_ (by rw[List.size_toArray,List.size_toArray];omega);have ea:its.toArray++bV.toArray=(its++bV).toArray:=by simp
  rw[ea];exact⟨.ref _,_,I.se (t':=s.toks) (r.append r2) (by rw[List.length_append];omega),rfl,q _ I.fresh⟩
end
section
variable{κ:Type}[DecidableEq κ]
def cF(kvs:List (κ×V))(k:κ):Option V:=(kvs.find? fun kv=>decide (kv.1=k)).map (·.2)
def putK(kvs:List (κ×V))(k:κ)(v:V):List (κ×V):=
  if(kvs.any fun kv=>decide (kv.1=k))=true then kvs.map (fun kv=>if kv.1=k then(kv.1,v) else kv) else kvs++[(k,v)]
theorem wH{p:κ×V}{r:List (κ×V)}{k:κ}(e:p.1=k):cF (p::r) k=some p.2:=by simp[cF,List.find?_cons,e]
theorem Ci{p:κ×V}{r:List (κ×V)}{k:κ}(e:¬p.1=k):cF (p::r) k=cF r k:=by simp[cF,List.find?_cons,e]
theorem Gi(k:κ):∀kvs:List (κ×V),(kvs.any fun kv=>decide (kv.1=k))=(cF kvs k).isSome
  | []=>rfl
  | p::r=>by
    rw[List.any_cons]
    by_cases e:p.1=k
    · simp only[wH e,decide_eq_true e,Bool.true_or,Option.isSome_some]
    · rw[Ci e,decide_eq_false e,Bool.false_or];exact Gi k r
theorem Aq(kvs:List (κ×V))(k:κ)(v:V):(putK kvs k v).length<=kvs.length+1:=by
  unfold putK;split
  · rw[List.length_map];omega
  · rw[List.length_append,List.length_cons,List.length_nil];omega
theorem fG.dQ{o:Option V}{u:Option Value}(r:fG o u):o.isSome=u.isSome:=by
  cases o with
  | none=>cases u with
    | none=>rfl
    | some _=>exact(show False from r).elim
  | some _=>cases u with
    | none=>exact(show False from r).elim
    | some _=>rfl
theorem KV.val{kvs:List (κ×V)}{vs:List (κ×Value)}(r:KV kvs vs)(k:κ):fG (cF kvs k) (valueAt vs k):=by
  unfold KV at r
  induction r with
  | nil=>exact True.intro
  | @cons p q ps qs h t ih=>
    obtain⟨h1,h2⟩:=h
    by_cases e:p.1=k
    · have e':q.1=k:=h1.symm.trans e;have b:valueAt (q::qs) k=some q.2:=by simp[valueAt,List.find?_cons,e']
      rw[wH e,b];exact h2
    · have e':¬q.1=k:=fun z=>e (h1.trans z)
      have b:valueAt (q::qs) k=valueAt qs k:=by simp[valueAt,List.find?_cons,e']
      rw[Ci e,b];exact ih
theorem KV.any{kvs:List (κ×V)}{vs:List (κ×Value)}(r:KV kvs vs)(k:κ):(kvs.any fun kv=>decide (kv.1=k))=vs.any fun kv=>decide (kv.1=k):=by
  unfold KV at r
  induction r with
  | nil=>rfl
  | cons h t ih=>rw[List.any_cons,List.any_cons,ih,h.1]
theorem KV.su{kvs:List (κ×V)}{vs:List (κ×Value)}(r:KV kvs vs)(k:κ){y:V}{u:Value}(ry:RelV y u) :
    KV (kvs.map fun kv=>if kv.1=k then(kv.1,y) else kv) (vs.map fun kv=>if kv.1=k then(kv.1,u) else kv):=by
  unfold KV at r ⊢
  induction r with
  | nil=>exact .nil
  | @cons p q ps qs h t ih=>
    rw[List.map_cons,List.map_cons];refine .cons ?_ ih;obtain⟨h1,h2⟩:=h
    by_cases e:p.1=k
    · rw[if_pos e,if_pos (h1.symm.trans e)];exact⟨h1,ry⟩
    · rw[if_neg e,if_neg (fun z=>e (h1.trans z))];exact⟨h1,h2⟩
theorem KV.put{kvs:List (κ×V)}{vs:List (κ×Value)}(r:KV kvs vs)(k:κ){y:V}{u:Value}(ry:RelV y u):KV (putK kvs k y) (stored vs k u):=by
  unfold putK stored;rw[r.any k]
  by_cases e:(vs.any fun kv=>decide (kv.1=k))=true
  · rw[if_pos e,if_pos e];exact r.su k ry
  · rw[if_neg e,if_neg e];exact Paired.snoc r ⟨rfl,ry⟩
theorem KV.length{kvs:List (κ×V)}{vs:List (κ×Value)}(r:KV kvs vs):kvs.length=vs.length:=Paired.length r
end
theorem uD{P:Program}{w:World}{k:Key}{u:Value}(r:RelV (kV k) u):(jV P w).is k u=true:=by
  cases k with
  | inl i=>obtain⟨t,e⟩:=(show ∃t,u=Value.int i t from r);subst e;exact LB P w i t
  | inr x=>obtain⟨t,e⟩:=(show ∃t,u=Value.str x t from r);subst e;exact LC P w x t
theorem Gj{P:Program}{w:World}:∀{ks:List Key}{us:List Value},Vals (ks.map kV) us->ItemsAre (jV P w) ks us
  | [],_,r=>by rw[List.map_nil] at r;cases r;exact .nil
  | k::ks,_,r=>by
    rw[List.map_cons] at r;cases r with
    | cons h t=>exact .cons (uD h) (Gj t)
abbrev KT(H:Hp):List (List Key×V)->List (List Key×Addr×Value)->Prop:=Paired fun p q=>p.1=q.1/\H q.2.1=some (.tup (p.1.map kV))/\RelV p.2 q.2.2
theorem KT.val{H:Hp}{kvs:List (List Key×V)}{xs:List (List Key×Addr×Value)}(r:KT H kvs xs)(k:List Key):fG (cF kvs k) ((atKey xs k).map (·.2)):=by
  induction r with
  | nil=>exact True.intro
  | @cons p q ps qs h t ih=>
    obtain⟨h1,_,h2⟩:=h
    by_cases e:p.1=k
    · have e':q.1=k:=h1.symm.trans e;have b:atKey (q::qs) k=some q.2:=by simp[atKey,List.find?_cons,e']
      rw[wH e,b];exact h2
    · have e':¬q.1=k:=fun z=>e (h1.trans z)
      have b:atKey (q::qs) k=atKey qs k:=by simp[atKey,List.find?_cons,e']
      rw[Ci e,b];exact ih
theorem KT.su{H:Hp}{kvs:List (List Key×V)}{xs:List (List Key×Addr×Value)}(r:KT H kvs xs)(k:List Key){y:V}{u:Value}(ry:RelV y u) :
    KT H (kvs.map fun kv=>if kv.1=k then(kv.1,y) else kv) (xs.map (putAt k u)):=by
  induction r with
  | nil=>exact .nil
  | @cons p q ps qs h t ih=>
    rw[List.map_cons,List.map_cons];refine .cons ?_ ih;obtain⟨h1,h2,h3⟩:=h;unfold putAt
    by_cases e:p.1=k
    · rw[if_pos e,if_pos (h1.symm.trans e)];exact⟨h1,h2,ry⟩
    · rw[if_neg e,if_neg (fun z=>e (h1.trans z))];exact⟨h1,h2,h3⟩
theorem KT.put{H:Hp}{kvs:List (List Key×V)}{xs:List (List Key×Addr×Value)}(r:KT H kvs xs)(k:List Key){b:Addr}{y:V}{u:Value}(hb:H b=some (.tup (k.map kV)))(ry:RelV y u) :
    KT H (putK kvs k y) (storedH xs k b u):=by
  have e:(kvs.any fun kv=>decide (kv.1=k))=(atKey xs k).isSome:=by
    rw[Gi,(r.val k).dQ,Option.isSome_map]
  unfold putK storedH;rw[e]
  by_cases q:(atKey xs k).isSome=true
  · rw[if_pos q,if_pos q];exact r.su k ry
  · rw[if_neg q,if_neg q];exact Paired.snoc r ⟨rfl,hb,ry⟩
theorem KT.keeps{H H':Hp}{kvs:List (List Key×V)}{xs:List (List Key×Addr×Value)}(r:KT H kvs xs)(ht:∀b ys,H b=some (.tup ys)->H' b=some (.tup ys)):KT H' kvs xs:=
  Paired.cW r fun _ _ z=>⟨z.1,ht _ _ z.2.1,z.2.2⟩
section
variable{P:Program}{w:World}{H:Hp}{h:Heap}{a:Addr}
theorem Cj{u:HO}(ok:fU P w H h)(e:Rd H a u):aP P w H h a u:=e.ok ok
theorem oO{kvs:List (Key×V)}(ok:fU P w H h)(e:Rd H a (.dK kvs)):kvs.length<=sizeLine/\(a == sysModules)=false/\∃vs,KV kvs vs/\h.DictOf (jV P w) a vs:=
  show aP P w H h a (.dK kvs) from Cj ok e
theorem Ck{kvs:List (Key×V)}(ok:fU P w H h)(e:H a=some (.dK kvs)):kvs.length<=sizeLine/\(a == sysModules)=false/\∃vs,KV kvs vs/\h.DictOf (jV P w) a vs:=oO ok (.inl e)
theorem wI{ks:List Key}(ok:fU P w H h)(e:H a=some (.tup (ks.map kV))):(tupleKind (jV P w)).is h ks a:=by
  obtain⟨_,its,r,o,h1,h2,n,h3⟩:=(show aP P w H h a (.tup (ks.map kV)) from ok a _ e);exact⟨o,its.toArray,n,h1,h2,h3,by simpa using Gj r⟩
theorem uE{kvs:List (List Key×V)}(ok:fU P w H h)(e:Rd H a (.dT kvs)):kvs.length<=sizeLine/\(a == sysModules)=false/\
    ∃xs,KT H kvs xs/\h.DictOfH (tupleKind (jV P w)) a xs:=by
  obtain⟨z,y,xs,r,o,es,ep,h1,h2,h3,h4,h5⟩:=(show aP P w H h a (.dT kvs) from Cj ok e);refine⟨z,y,xs,r,o,es,ep,h1,h2,h3,h4,fun x hx=>?_,h5⟩;have all:∀{l:List (List Key×V)}{m:List (List Key×Addr×Value)},KT H l m->∀x∈m,(tupleKind (jV P w)).is h x.1 x.2.1:=by
    intro l m q
    induction q with
    | nil=>intro x hx;exact nomatch hx
    | @cons p q ps qs hq t ih=>
      intro x hx;rcases List.mem_cons.mp hx with e | hx
      · subst e;exact wI ok (by rw[←hq.1];exact hq.2.1)
      · exact ih x hx
  exact all r x hx
theorem nD{kvs:List (List Key×V)}(ok:fU P w H h)(e:H a=some (.dT kvs)):kvs.length<=sizeLine/\(a == sysModules)=false/\
    ∃xs,KT H kvs xs/\h.DictOfH (tupleKind (jV P w)) a xs:=uE ok (.inl e)
end
def aU(H:Hp)(a:Addr)(y:V)(r:Option V):Prop:=
  (∃kvs k,Rd H a (.dK kvs)/\y=kV k/\r=cF kvs k)\/∃kvs k b,Rd H a (.dT kvs)/\y = .ref b/\H b=some (.tup (k.map kV))/\r=cF kvs k
def cG(H:Hp)(a:Addr)(y v:V)(H':Hp):Prop:=
  (∃kvs k,H a=some (.dK kvs)/\y=kV k/\kvs.length<sizeLine/\H'=upd H a (.dK (putK kvs k v)))\/
  ∃kvs k b,H a=some (.dT kvs)/\y = .ref b/\H b=some (.tup (k.map kV))/\kvs.length<sizeLine/\H'=upd H a (.dT (putK kvs k v))
theorem aU.k{H:Hp}{a:Addr}{kvs:List (Key×V)}{k:Key}(e:H a=some (.dK kvs)):aU H a (kV k) (cF kvs k):=.inl ⟨kvs,k,.inl e,rfl,rfl⟩
theorem cG.k{H:Hp}{a:Addr}{kvs:List (Key×V)}{k:Key}{v:V}(e:H a=some (.dK kvs))(hl:kvs.length<sizeLine):cG H a (kV k) v (upd H a (.dK (putK kvs k v))):=.inl ⟨kvs,k,e,rfl,hl,rfl⟩
theorem cG.t{H:Hp}{a b:Addr}{kvs:List (List Key×V)}{k:List Key}{v:V}(e:H a=some (.dT kvs))(eb:H b=some (.tup (k.map kV)))(hl:kvs.length<sizeLine) :
    cG H a (.ref b) v (upd H a (.dT (putK kvs k v))):=.inr ⟨kvs,k,b,e,rfl,eb,hl,rfl⟩
section
variable{X:Cx}{pins:List (Addr×Obj)}{σ:St}{H:Hp}{s:Shared}{a:Addr}{y v:V}{u r:Value}{o:Option V}{A:Around}{E:Value->Shared->Prop}
theorem Inv.big(I:Inv X pins σ H s):sysModules<s.heap.objs.size:=by
  have h:mainGlobals<s.heap.objs.size:=(I.mod.glob.keeps I.bk).lt;exact Nat.lt_trans (by decide) h
theorem M0{Q:Value->Shared->Prop}(hu:A.units+1<cLine)(I:Inv X pins σ H s)(g:aU H a y (some v))(ry:RelV y u)(h:∀w' s',Inv X pins σ H s'->RelV v w'->Q w' s') :
    wpAny (model X.prog X.w) A (getItem (.ref a) u) Q E s:=by
  rcases g with ⟨kvs,k,e,ey,l⟩ | ⟨kvs,k,b,e,ey,eb,l⟩
  · subst ey;obtain⟨z,hd,vs,rel,dd⟩:=oO I.aI e;obtain⟨w',hw,fj⟩:=fG.some_of (v:=v) (o:=valueAt vs k) (by rw[l];exact rel.val k);exact wpAny_getItem_of (uD ry) dd.mapOf hw (h w' _ (I.tok _) fj)
  · subst ey;cases (show u=Value.ref b from ry);obtain⟨z,hd,xs,rel,dd⟩:=uE I.aI e;obtain⟨w',hw,fj⟩:=fG.some_of (v:=v) (o:=(atKey xs k).map (·.2)) (by rw[l];exact rel.val k);obtain⟨p,hp,jk⟩:=Option.map_eq_some_iff.mp hw;refine wpAny_getItem_heap (tupleKind_room_in1 hu) (wI I.aI eb) dd hp ?_;rw[jk];exact h w' _ (I.tok _) fj
theorem Cm{Q:Value->Shared->Prop}(hu:A.units+1<cLine)(I:Inv X pins σ H s)(g:aU H a y o)(ry:RelV y u)(h:∀s',Inv X pins σ H s'->Q (.bool o.isSome) s') :
    wpAny (model X.prog X.w) A (compareOp .In u (.ref a)) Q E s:=by
  rcases g with ⟨kvs,k,e,ey,l⟩ | ⟨kvs,k,b,e,ey,eb,l⟩
  · subst ey;obtain⟨z,hd,vs,rel,dd⟩:=oO I.aI e;refine wpAny_in_of (uD ry) hd dd.mapOf ?_;rw[←(rel.val k).dQ,←l];exact h _ (I.tok _)
  · subst ey;cases (show u=Value.ref b from ry);obtain⟨z,hd,xs,rel,dd⟩:=uE I.aI e;refine wpAny_in_heap (tupleKind_room_in1 hu) (wI I.aI eb) hd dd ?_;have q:=(rel.val k).dQ;rw[Option.isSome_map] at q;rw[←q,←l];exact h _ (I.tok _)
theorem M1{Q:Value->Shared->Prop}(hu:A.units+1<cLine)(I:Inv X pins σ H s)(g:aU H a y o)(ry:RelV y u)(h:∀s',Inv X pins σ H s'->Q (.bool (!o.isSome)) s') :
    wpAny (model X.prog X.w) A (compareOp .NotIn u (.ref a)) Q E s:=by
  rcases g with ⟨kvs,k,e,ey,l⟩ | ⟨kvs,k,b,e,ey,eb,l⟩
  · subst ey;obtain⟨z,hd,vs,rel,dd⟩:=oO I.aI e;refine wpAny_notIn_of (uD ry) hd dd.mapOf ?_;rw[←(rel.val k).dQ,←l];exact h _ (I.tok _)
  · subst ey;cases (show u=Value.ref b from ry);obtain⟨z,hd,xs,rel,dd⟩:=uE I.aI e;refine wpAny_notIn_heap (tupleKind_room_in1 hu) (wI I.aI eb) hd dd ?_;have q:=(rel.val k).dQ;rw[Option.isSome_map] at q;rw[←q,←l];exact h _ (I.tok _)
theorem Ar{h':Heap}{t':Nat}{ob:HO}(I:Inv X pins σ H s)(mu:vD (H a))(hs:Heap.SameBut a s.heap h')(he:∃q,h'.get? a=some q)(new:aP X.prog X.w (upd H a ob) h' a ob) :
    Inv X pins σ (upd H a ob) { s with heap:=h',toks:=t' }:=
  I.write (x:=a) (e:=a) mu (.inl rfl) (fun b q hb z=>(hs.2 b hb).trans z) he new
theorem Co{P:Program}{w:World}{H':Hp}{h':Heap}{kvs:List (Key×V)}{vs:List (Key×Value)}(z:kvs.length<=sizeLine)(hd:(a == sysModules)=false)(rel:KV kvs vs)(dd:h'.DictOf (jV P w) a vs) :
    aP P w H' h' a (.dK kvs):=⟨z,hd,vs,rel,dd⟩
theorem M3{H':Hp}{Q:Unit->Shared->Prop}(hu:A.units+1<cLine)(I:Inv X pins σ H s)(g:cG H a y v H')(ry:RelV y u)(rv:RelV v r)(h:∀s',Inv X pins σ H' s'->Q () s') :
    wpAny (model X.prog X.w) A (setItem (.ref a) u r) Q E s:=by
  rcases g with ⟨kvs,k,e,ey,l,eH⟩ | ⟨kvs,k,b,e,ey,eb,l,eH⟩
  · subst ey eH;obtain⟨z,hd,vs,rel,dd⟩:=Ck I.aI e;have hz:vs.length<=sizeLine:=by rw[←rel.length];exact z
    have hl:(putK kvs k v).length<=sizeLine:=by have:=Aq kvs k v;omega
    refine wpAny_setItem_pairs (hsz:=hz) (uD ry) dd fun h' oQ hs=>h _ ?_
    have he:∃q,h'.get? a=some q:=let ⟨q,_,_,hq,_⟩:=oQ;⟨q,hq⟩
    exact Ar I (by rw[e];exact True.intro) hs he (Co hl hd (rel.put k rv) oQ)
  · subst ey eH;cases (show u=Value.ref b from ry);obtain⟨z,hd,xs,rel,dd⟩:=nD I.aI e;have hz:xs.length<=sizeLine:=by rw[←Paired.length rel];exact z
    have hl:(putK kvs k v).length<=sizeLine:=by have:=Aq kvs k v;omega
    refine wpAny_setItem_heap (hsz:=hz) (tupleKind_room_in1 hu) (wI I.aI eb) dd fun h' oQ hs=>h _ ?_
    obtain⟨q,es,ep,hq,h2,h3,h4,_,h5⟩:=oQ;refine Ar I (by rw[e];exact True.intro) hs ⟨q,hq⟩ ⟨hl,hd,_,(rel.put k eb rv).keeps fun c ys ec=>?_,q,es,ep,hq,h2,h3,h4,h5⟩;rw[zr (jW ec e (fun z=>nomatch z))];exact ec
end
section
variable{X:Cx}{pins:List (Addr×Obj)}{σ:St}{H:Hp}{s:Shared}{a:Addr}{kvs:List (Key×V)}{k:Key}{u:Value}{A:Around}{E:Value->Shared->Prop}
theorem Gk{Q:Value->Shared->Prop}(I:Inv X pins σ H s)(e:Rd H a (.dK kvs))(h:∀t s',Inv X pins σ H s'->Q (.int kvs.length t) s'):wpAny (model X.prog X.w) A (call (.builtin "len") [.ref a]) Q E s:=by
  obtain⟨z,hd,vs,rel,dd⟩:=oO I.aI e;refine call_len_dict hd dd (by rw[←rel.length];rw[sizeLine_eq] at z;omega) ?_;rw[←rel.length];exact h _ _ (I.tok _)
end
def wJ(i:Expr):Prop:=∀ov iv,subscripted i false ov iv=operate [ov,iv] (getItem ov iv)
theorem M4{prog:Program}{w:World}{A:Around}{E:Value->Shared->Prop}{s:Shared}{env:Env}{value slice:Expr}{pos:Pos}{T id:String}{Q:Value->Shared->Prop}
    (hl:typeLookup (.type T) "__getitem__" = pure (some (.builtin id))) (hs:wJ slice)
    (h:wpAny (model prog w) A (eval value env) (fun o aK=>wpAny (model prog w) A (eval slice env) (fun i eW=>eW.TypeIs o T/\wpAny (model prog w) A (getItem o i) Q E eW) E aK) E s) :
    wpAny (model prog w) A (eval (.Subscript value slice pos) env) Q E s:=by
  refine Subscript_ (wpAny_mono h (fun o aK eY=>wpAny_mono eY (fun i eW jl=>?_) fun _ _ x=>x) fun _ _ x=>x);obtain⟨hT,jl⟩:=jl;unfold subscriptTail;refine wpAny_bind ?_;rw[getitemInPython_of_ne hT.not_modules];refine wpAny_bind (wpAny_specialOf hT hl ?_);have fin:wpAny (model prog w) A (subscripted slice false o i) (fun r iV=>wpAny (model prog w) A (letTemporaryGo value o r >>= fun _=>pure r) Q E iV) E eW:=by
    rw[hs o i];exact wpAny_operating (wpAny_mono jl (fun r iV pQ=>wpAny_bind (wpAny_letTemporaryGo (wpAny_pure pQ))) fun _ _ x=>x)
  first
    | exact wpAny_pure (wpAny_bind fin)
    | exact wpAny_bind (wpAny_pure (wpAny_bind fin))
    | exact wpAny_bind fin
theorem M5{X:Cx}{pins:List (Addr×Obj)}{σ:St}{H:Hp}{s:Shared}{a:Addr}{y:V}{o:Option V}(I:Inv X pins σ H s)(g:aU H a y o):s.TypeIs (.ref a) "dict":=by
  rcases g with ⟨kvs,k,e,_,_⟩ | ⟨kvs,k,b,e,_,_,_⟩
  · obtain⟨_,_,vs,_,dd⟩:=oO I.aI e;exact dd.typeIs
  · obtain⟨_,_,xs,_,dd⟩:=uE I.aI e;exact dd.typeIs
def M6(td ty:TE):TE:=fun σ H Q=>td σ H fun x H1=>ty σ H1 fun y H2=>∃a v,x = .ref a/\aU H2 a y (some v)/\Q v H2
def Cp(ty td:TE):TE:=fun σ H Q=>ty σ H fun y H1=>td σ H1 fun x H2=>∃a o,x = .ref a/\aU H2 a y o/\Q (.bl o.isSome) H2
def M7(ty td:TE):TE:=fun σ H Q=>ty σ H fun y H1=>td σ H1 fun x H2=>∃a o,x = .ref a/\aU H2 a y o/\Q (.bl (!o.isSome)) H2
def M8(td ty tv:TE):TS:=fun D σ H=>tv σ H fun v H1=>td σ H1 fun x H2=>ty σ H2 fun y H3=>∃a H4,x = .ref a/\cG H3 a y v H4/\D.nx σ H4
section
variable{X:Cx}{o i e value:Expr}{pos pos' M9:Pos}{td ty tv:TE}
theorem zw(hu:X.A.units+1<cLine)(ho:PE X o td)(hi:PE X i ty)(hs:wJ i):PE X (.Subscript o i pos) (M6 td ty):=by
  intro pins s σ H Q I h;refine M4 PySem.F.slot_dict_getitem.lookup hs (aX (ho pins s σ H _ I h) fun u s1 ⟨x,H1,I1,rx,q1⟩=>aX (hi pins s1 σ H1 _ I1 q1) fun iv s2 aE=>?_);obtain⟨y,H2,I2,ry,a,v,ex,g,q2⟩:=aE;subst ex;obtain rfl:u=Value.ref a:=rx;exact⟨M5 I2 g,M0 hu I2 g ry fun w' s3 I3 fj=>⟨v,H2,I3,fj,q2⟩⟩
theorem As(hu:X.A.units+1<cLine)(hi:PE X i ty)(ho:PE X o td):PC X .In i o (Cp ty td):=by
  intro pins s σ H Q I h;refine aX (hi pins s σ H _ I h) fun iv s1 ⟨y,H1,I1,ry,q1⟩=>aX (ho pins s1 σ H1 _ I1 q1) fun u s2 aE=>?_
  obtain⟨x,H2,I2,rx,a,ov,ex,g,q2⟩:=aE;subst ex;obtain rfl:u=Value.ref a:=rx;exact Cm hu I2 g ry fun s3 I3=>⟨.bl ov.isSome,H2,I3,rfl,q2⟩
theorem wK(hu:X.A.units+1<cLine)(hi:PE X i ty)(ho:PE X o td):PC X .NotIn i o (M7 ty td):=by
  intro pins s σ H Q I h;refine aX (hi pins s σ H _ I h) fun iv s1 ⟨y,H1,I1,ry,q1⟩=>aX (ho pins s1 σ H1 _ I1 q1) fun u s2 aE=>?_
  obtain⟨x,H2,I2,rx,a,ov,ex,g,q2⟩:=aE;subst ex;obtain rfl:u=Value.ref a:=rx;exact M1 hu I2 g ry fun s3 I3=>⟨.bl (!ov.isSome),H2,I3,rfl,q2⟩
theorem g7(hu:X.A.units+1<cLine)(ho:PE X o td)(hi:PE X i ty)(hv:PE X value tv)(hs:swapsWith value (some (.Subscript o i pos')) pos.line X.env=pure false) :
    PS X (.Assign [.Subscript o i pos'] value pos) (M8 td ty tv):=by
  intro pins s σ H D I h;refine wpAny_Assign_Subscript (aX (hv pins s σ H _ I h) fun r s1 ⟨v,H1,I1,rv,q1⟩=>aX (ho pins s1 σ H1 _ I1 q1) fun u s2 ⟨x,H2,I2,rx,q2⟩=>aX (hi pins s2 σ H2 _ I2 q2) fun iv s3 aE=>?_) hs;obtain⟨y,H3,I3,ry,a,H4,ex,g,q3⟩:=aE;subst ex;obtain rfl:u=Value.ref a:=rx;exact M3 hu I3 g ry rv fun s4 I4=>⟨σ,H4,I4,q3⟩
end
theorem Na{P:Program}{w:World}{H:Hp}(h:Heap)(hb:sysModules<h.objs.size):aP P w H (h.push { cls:=.type "dict",data:=.dict #[] }) h.objs.size (.dK []):=
  ⟨Nat.zero_le _,beq_eq_false_iff_ne.mpr (Ne.symm (Nat.ne_of_lt hb)),[],.nil,Heap.DictOf.new h⟩
theorem Nc{P:Program}{w:World}{H:Hp}(h:Heap)(hb:sysModules<h.objs.size):aP P w H (h.push { cls:=.type "dict",data:=.dict #[] }) h.objs.size (.dT []):=
  ⟨Nat.zero_le _,beq_eq_false_iff_ne.mpr (Ne.symm (Nat.ne_of_lt hb)),[],.nil,_,#[],0,Heap.get?_push_size _ rfl,⟨rfl,rfl,rfl⟩,rfl,rfl,List.nodup_nil⟩
def Nd:TE:=fun _ H Q=>∀p,H p=none->Q (.ref p) (upd H p (.dK []))
def Nf:TE:=fun _ H Q=>∀p,H p=none->Q (.ref p) (upd H p (.dT []))
section
variable{X:Cx}{pos:Pos}
theorem jm:PE X (.Dict [] [] pos) Nd:=fun pins s σ H Q I h=>
  wpAny_Dict_empty ⟨.ref s.heap.objs.size,_,I.laid (a:=s.heap.objs.size) (o:=.dK []) (t':=s.toks) (fun _ _ q=>Heap.get?_push_of_some _ q) (Nat.le_refl _) (Na s.heap I.big),rfl,h _ (I.aI.fresh (Nat.le_refl _))⟩
theorem Gm:PE X (.Dict [] [] pos) Nf:=fun pins s σ H Q I h=>
  wpAny_Dict_empty ⟨.ref s.heap.objs.size,_,I.laid (a:=s.heap.objs.size) (o:=.dT []) (t':=s.toks) (fun _ _ q=>Heap.get?_push_of_some _ q) (Nat.le_refl _) (Nc s.heap I.big),rfl,h _ (I.aI.fresh (Nat.le_refl _))⟩
end
def uH(kvs more:List (Key×V)):List (Key×V):=more.foldl (fun acc kv=>putK acc kv.1 kv.2) kvs
theorem KV.merge:∀{more:List (Key×V)}{rs:List (Key×Value)}{kvs:List (Key×V)}{vs:List (Key×Value)},KV more rs->KV kvs vs->KV (uH kvs more) (merged vs rs):=by
  intro more rs kvs vs r;unfold KV at r
  induction r generalizing kvs vs with
  | nil=>intro q;exact q
  | @cons p q ps qs h t ih=>
    intro r0;have e:KV (putK kvs p.1 p.2) (stored vs q.1 q.2):=by
      have:=r0.put p.1 h.2;rw[←h.1];exact this
    exact ih e
theorem Gn:∀(more kvs:List (Key×V)),(uH kvs more).length<=kvs.length+more.length
  | [],kvs=>by show kvs.length<=kvs.length+0;omega
  | p::r,kvs=>by
    have h1:=Gn r (putK kvs p.1 p.2);have h2:=Aq kvs p.1 p.2;show(uH (putK kvs p.1 p.2) r).length<=_;rw[List.length_cons];omega
structure M2(X:Cx)(o:Expr)(m:Str)(apos:Pos)(e f:Expr)(aS:Pos):Prop where
  base:attributeBase o m X.env (eval o X.env)=eval o X.env
  Ng:((backTo aS (starEach [e,f] X.env)).all (fun x=>!x.1)&&(backToKw aS (keywordEach [] X.env)).all (fun x=>x.1.isSome)
    && decide (([e,f]:List Expr).length+([]:List Keyword).length+(if([]:List Keyword).isEmpty then 0 else 1)<30))=true
  line:(apos.endLine == aS.line)=true
  trees:backTo aS (starEach [e,f] X.env) = [(false,eval e X.env),(false,eval f X.env)]
def Gp(H:Hp)(a:Addr):Prop:=(∃kvs,Rd H a (.dK kvs))\/∃kvs,Rd H a (.dT kvs)
theorem Nh{X:Cx}{pins:List (Addr×Obj)}{σ:St}{H:Hp}{s:Shared}{a:Addr}(I:Inv X pins σ H s)(d:Gp H a) :
    s.TypeIs (.ref a) "dict"/\(∀b,Value.ref a = .ref b->∃ob,s.heap.get? b=some ob/\ob.dict=none)/\(a == sysModules)=false:=by
  rcases d with ⟨kvs,e⟩ | ⟨kvs,e⟩
  · obtain⟨_,hd,vs,_,dd⟩:=oO I.aI e;refine⟨dd.typeIs,fun b q=>?_,hd⟩;cases q;obtain⟨ob,_,_,h1,h2,_⟩:=dd;exact⟨ob,h1,h2.2.1⟩
  · obtain⟨_,hd,xs,_,dd⟩:=uE I.aI e;refine⟨dd.typeIs,fun b q=>?_,hd⟩;cases q;obtain⟨ob,_,_,h1,h2,_⟩:=dd;exact⟨ob,h1,h2.2.1⟩
end L2
namespace Gq
open PySem PySem.W PySem.Calls PyProof.Rows
theorem Ni{P:Params}{h:Heap}:∀(ns:List Int)(vs:List Value),WellAll P h vs (ns.map WData.int)->IntsAre vs ns:=by
  intro ns
  induction ns with
  | nil=>
    intro vs w;rw[List.map_nil] at w;cases w;exact .nil
  | cons n ns ih=>
    intro vs w;rw[List.map_cons] at w;cases w with
    | cons a b=>
      cases a;exact .cons _ _ (ih _ b)
theorem Nj{l:OpenLaw}{n:Nat}(hn:l.most=some n){P:Params}{h:Heap}{args:List WData}{vals:List Value}
    (pR:l.row.toRowW.claim.pre args=true) (Cq:WellAll P h vals args) :
    ∃a vs ns,vals = [Value.ref a]/\args = [WData.list (ns.map WData.int)]/\h.get? a=some { cls:=.type "list",data:=.seq vs.toArray }/\IntsAre vs ns/\ns.length<=n:=by
  have Nk:WShape.hasAll [] args [.list .int]=true:=(pre_splitW pR).1;have hc:l.pre.holds [] { args:=args } = true:=(pre_splitW pR).2;obtain⟨d,r,rfl,h1,h2⟩:=hasAllW_cons Nk;obtain rfl:=hasAllW_nil h2;obtain⟨xs,rfl,h3⟩:=hasW_list h1;obtain⟨ns,rfl⟩:=items_int h3;have hlen:ns.length<=n:=by
    unfold OpenLaw.pre at hc;have h4:(WTm.not (.lt (.lit (.int (n:Int))) (.len (.arg 0)))).holds [] { args:=[.list (ns.map .int)] } = true:=by
      have h4:=(holds_andW hc).1;rw[hn] at h4;exact h4
    have h5:=condW_of h4 (w_not (w_lt w_lit (w_len_list (w_arg rfl))));rw[List.length_map] at h5;refine Nat.le_of_not_lt fun q=>?_
    have q':(n:Int)<((ns.length:Nat):Int):=by omega
    first
      | (rw[decide_eq_true q'] at h5;exact absurd h5 (by decide))
      | (simp at h5;omega)
  cases Cq with
  | cons w1 w2=>
    cases w2;cases w1 with
    | list ho Cr=>exact⟨_,_,ns,rfl,rfl,ho,Ni ns _ Cr,hlen⟩
theorem Nl(l:OpenLaw)(args:List WData):l.row.toRowW.claim.post args (.bool true) args=true:=
  postW_of (r:=l.row.toRowW) (X:=(true == true))
    (show WShape.has [] (.bool true) .bool=true by first | rfl | decide | simp[WShape.has,WShape.arms,WShape.armsAll])
    (show(WTm.eq .res (.lit (.bool true))).value [] { args:=args,res:=some (.bool true),after:=args } = some (.bool (true == true)) from w_eq_bool (w_res rfl) w_lit) rfl
theorem jK{l:OpenLaw}{n:Nat}{q:Program}{loose:List Str}{XP:(Str->Option Value)->Heap->Prop}{YP:World->Heap->Prop}{d:DefRec}
    (hn:l.most=some n) (sy:d.params.defaults = [])
    (call:∀(w:World)(bF aK:Shared)(mg mb:Str->Option Value)(fa:Addr)(o:Obj)(pm cd doc:Value)(a:Addr)(vs:List Value)(ns:List Int),
      Ground q loose [] XP w bF mg mb aK.heap->YP w aK.heap->
      aK.heap.get? fa=some o->o.data = .func (docDef d.name d.params d.body d.scope pm cd doc)->aK.heap.CodeRec cd d.name->mg d.name=some (.ref fa)->
      aK.heap.get? a=some { cls:=.type "list",data:=.seq vs.toArray }->IntsAre vs ns->ns.length<=n->aK.gens = #[]->
      codeAny (model l.prog w) callerA (.call (.ref fa) ⟨[.ref a],[]⟩) (fun r s'=>r = .ok (.ret (.bool true))/\OldK aK.heap s'.heap/\s'.os=aK.os/\AllBare s'.gens) aK) :
    WalkO q loose XP YP l.row.toRowW d [] (fun f vs=>PySem.call f vs):=by
  intro w bF aK mg mb G Y fa o pm cd doc dV kV ho hd jX hD uI hg args vals as pR Nm WM Cq Cs;obtain rfl:dV = .none:=Dflts.none hD sy;obtain rfl:kV = .none:=Dflts.noKw hD;obtain⟨a,vs,ns,rfl,rfl,sA,hints,hlen⟩:=Nj hn pR Cq;refine enter_call (codeAny_mono (call w bF aK mg mb fa o pm cd doc a vs ns G Y ho (fd_plain hd) jX uI sA hints hlen hg) fun r s' hq=>?_);obtain⟨rfl,h2,h3,h4⟩:=hq;exact⟨.inl ⟨.bool true,.bool true,[],rfl,fun _=>rfl,.bool true,Nl l _,fun _=>⟨List.Pairwise.nil,fun _ hm=>(nomatch hm)⟩⟩,h2,h3,h4⟩
end Gq
namespace L2
open PySem PySem.Spec PyProof.Rows
theorem Gr:∀{vs:List Value}{ns:List Int},IntsAre vs ns->Vals (ns.map V.int) vs
  | _,_,.nil=>.nil
  | _,_,.cons n t h=>.cons ⟨t,rfl⟩ (Gr h)
def pS(H:Hp):Prop:=∀b,H b=none\/∃o xs,H b=some (.eB o (.lst xs))
theorem Nn{P:Program}{w:World}{K:PySem.W.Frag}{mg mb:Str->Option Value}{CX:ku}{k:Nat}{fa a:Addr}{fd:FuncData}{x:Str}{sp:Sp}{aK:Shared}{vs:List Value}{ns:List Int}
    (KX:K.In aK.heap) (Au:aK.heap.Ns mainGlobals mg) (hb:aK.heap.Ns builtinsNs mb) (Np:∀x:Str,x≠"__name__"->mb x=bootBuiltins x) (Ct:aK.heap.NoLimit) (hg:aK.gens = #[])
    (ha:aK.heap.get? a=some { cls:=.type "list",data:=.seq vs.toArray }) (hi:IntsAre vs ns) (hl:ns.length<=sizeLine) (hr:bE k callerA)
    (F:∀base:Heap,K.In base->base.Ns mainGlobals mg->ir P w K mg base CX k fa fd [x] sp) (wL:∀(s:Shared)(u:Value),BindsTo s fd ⟨[u],[]⟩ [(x,u)])
    (mQ:∀H:Hp,pS H->ao K H a (ns.map V.int)->sp [.ref a] H (fun v _=>v = .bl true) fun _ _ _=>False)
    (wM:∀H e s',CX [] H aK (fun _ _ _=>False) e s'->False) :
    codeAny (model P w) callerA (.call (.ref fa) ⟨[.ref a],[]⟩) (fun r s'=>r = .ok (.ret (.bool true))/\OldK aK.heap s'.heap/\s'.os=aK.os/\AllBare s'.gens) aK:=by
  have rv:=Gr hi;have Cu:=hi.length;have core:∀H:Hp,pS H->ao K H a (ns.map V.int)->fU P w H aK.heap->(∀b,H b≠none->b=a)->(H a≠none->K.lookup a=none)->
      codeAny (model P w) callerA (.call (.ref fa) ⟨[.ref a],[]⟩) (fun r s'=>r = .ok (.ret (.bool true))/\OldK aK.heap s'.heap/\s'.os=aK.os/\AllBare s'.gens) aK:=by
    intro H hO hS aI hA hK;have lg:∀{b:Addr}{o:Obj},aK.heap.get? b=some o->H b=none->(jf aK.heap H).get? b=some o:=fun e n=>LG e n
    have wm:∀{b:Addr}{o:Obj}{es:Array DictEntry}{ep:Nat},aK.heap.get? b=some o->o.data = .dict es ep->H b=none:=fun{b o es ep}e d=>by
      cases q:H b with
      | none=>rfl
      | some u=>
        have e':b=a:=hA b (by rw[q];simp);subst e';rw[ha] at e;cases e;have d':Data.seq vs.toArray _=Data.dict es ep:=d;cases d'
    have Av:∀{b:Addr}{m:Str->Option Value},aK.heap.Ns b m->(jf aK.heap H).Ns b m:=fun{b m} ⟨o,es,ep,e,d,r⟩=>⟨o,es,ep,lg e (wm e d),d,r⟩
    have Gs:K.In (jf aK.heap H):=fun b o e=>lg (KX b o e) (by
      cases q:H b with
      | none=>rfl
      | some u=>
        have e':b=a:=hA b (by rw[q];simp);subst e';rw[hK (by rw[q];simp)] at e;cases e)
    have hM:Mod K mg (jf aK.heap H):=⟨Gs,Av Au,⟨mb,Av hb,Np⟩,let ⟨mc,h1,h2⟩:=Ct;⟨mc,Av h1,h2⟩⟩;have e0:kB P w K mg (jf aK.heap H) callerA [] aK H:=⟨rfl,hM,fun b o e=>LH e,Nat.le_of_eq (LF _ _),trivial,fun b hb=>absurd (show b∈([]:List Addr) from hb) (by simp),aI,.of_eq hg⟩;refine codeAny_mono ((F _ Gs (Av Au)).run callerA [] aK H ⟨[.ref a],[]⟩ [.ref a] [.ref a] _ _ hr e0 (wL aK (.ref a)) (.cons rfl .nil) (mQ H hO hS)) fun r s' h=>?_
    cases r with
    | error e=>exact(wM H e s' h).elim
    | ok fl=>
      cases fl with
      | next=>exact False.elim h
      | brk=>exact False.elim h
      | cont=>exact False.elim h
      | ret u=>
        obtain⟨v,H',os,bare,un,sC,r',q⟩:=h;have q':v = .bl true:=q;subst q';obtain rfl:u=Value.bool true:=r';refine⟨rfl,OldK.of_keep fun b o e=>?_,os,bare⟩;cases q:H b with
        | none=>exact un.keep b o e q (by intro z;exact absurd (show b∈([]:List Addr) from z) (by simp)) (by simp)
        | some u=>
          rcases hO b with z | ⟨ob,xs,z⟩
          · rw[q] at z;cases z
          · have z2:=un.gD b ob _ z;obtain⟨e1,_⟩:=aI b _ z;obtain⟨e2,_⟩:=sC b _ z2;rw[e] at e1;cases e1;exact e2
  cases hk:K.lookup a with
  | some o=>
    have e:=KX a o hk;rw[ha] at e;cases e;refine core (fun _=>none) (fun _=>.inl rfl) (.inr ⟨_,vs.toArray,_,hk,rfl,rfl,rfl,by rw[List.size_toArray,Cu];exact hl,by simpa using rv⟩) (fun b u z=>by have z':(none:Option HO)=some u:=z;cases z') (fun b z=>absurd rfl z) fun z=>absurd rfl z
  | none=>
    refine core (fun b=>if b=a then some (.eB { cls:=.type "list",data:=.seq vs.toArray } (.lst (ns.map V.int))) else none) (fun b=>?_) (.inl (.inr ⟨{ cls:=.type "list",data:=.seq vs.toArray },if_pos rfl⟩)) (fun b u z=>?_) (fun b z=>?_) fun _=>hk
    · by_cases hb:b=a
      · exact .inr ⟨_,_,if_pos hb⟩
      · exact .inl (if_neg hb)
    · by_cases hb:b=a
      · have z':=(if_pos hb).symm.trans z;cases z';subst hb;exact⟨ha,by rw[List.length_map];exact hl,vs,_,rv,ha⟩
      · have z':=(if_neg hb).symm.trans z;cases z'
    · by_cases hb:b=a
      · exact hb
      · exact absurd (if_neg hb) z
abbrev Gu{K:PySem.W.Frag}{h:Heap}(_:K.In h):PySem.W.Frag:=K
theorem Nq{l:PySem.W.OpenLaw}{n k:Nat}{q:Program}{loose:List Str}{XP:(Str->Option Value)->Heap->Prop}{YP:World->Heap->Prop}{d:DefRec}{K:Params->PySem.W.Frag}{CX:World->ku}{sp:World->Sp}{x:Str}
    (hn:l.most=some n) (kG:n<=sizeLine) (sy:d.params.defaults = []) (hr:bE k callerA)
    (hY:∀(w:World)(h:Heap),YP w h->(K w.params).In h)
    (F:∀(w:World)(mg:Str->Option Value)(fa:Addr)(h:Heap),(K w.params).In h->h.Ns mainGlobals mg->mg d.name=some (.ref fa)->
      ∃fd:FuncData,(∀(s:Shared)(u:Value),BindsTo s fd ⟨[u],[]⟩ [(x,u)])/\
        ∀base:Heap,(K w.params).In base->base.Ns mainGlobals mg->ir l.prog w (K w.params) mg base (CX w) k fa fd [x] (sp w))
    (mQ:∀(w:World)(H:Hp)(a:Addr)(ns:List Int),ns.length<=n->pS H->ao (K w.params) H a (ns.map V.int)->sp w [.ref a] H (fun v _=>v = .bl true) fun _ _ _=>False)
    (wM:∀(w:World)(H:Hp)(s:Shared)(e:Value)(s':Shared),CX w [] H s (fun _ _ _=>False) e s'->False) :
    PySem.W.WalkO q loose XP YP l.row.toRowW d [] (fun f vs=>PySem.call f vs):=by
  refine Gq.jK hn sy fun w bF aK mg mb fa o pm cd doc a vs ns G Y ho hd jX uI sA hints hlen hg=>?_
  have KX:=hY w _ Y;obtain⟨fd,hb,hF⟩:=F w mg fa _ KX G.T.g uI;exact Nn KX G.T.g G.T.b G.T.builtins G.T.nolimit hg sA hints (Nat.le_trans hlen kG) hr hF hb (fun H hO hS=>mQ w H a ns hlen hO hS) fun H e s'=>wM w H aK e s'
theorem nE{l:PySem.W.OpenLaw}{n k:Nat}{q:Program}{loose:List Str}{XP:(Str->Option Value)->Heap->Prop}{YP:World->Heap->Prop}{d:DefRec}{K:Params->PySem.W.Frag}{CX:ku}{sp:PySem.W.Frag->Sp}{x:Str}
    (hn:l.most=some n) (kG:n<=sizeLine) (sy:d.params.defaults = []) (hr:bE k callerA)
    (hY:∀(w:World)(h:Heap),YP w h->(K w.params).In h)
    (F:∀(w:World)(mg:Str->Option Value)(fa:Addr)(h:Heap),(K w.params).In h->h.Ns mainGlobals mg->mg d.name=some (.ref fa)->
      ∃fd:FuncData,(∀(s:Shared)(u:Value),BindsTo s fd ⟨[u],[]⟩ [(x,u)])/\
        ∀base:Heap,(K w.params).In base->base.Ns mainGlobals mg->ir l.prog w (K w.params) mg base CX k fa fd [x] (sp (K w.params)))
    (mQ:∀(K:PySem.W.Frag)(H:Hp)(a:Addr)(ns:List Int),ns.length<=n->pS H->ao K H a (ns.map V.int)->sp K [.ref a] H (fun v _=>v = .bl true) fun _ _ _=>False)
    (wM:∀(H:Hp)(s:Shared)(e:Value)(s':Shared),CX [] H s (fun _ _ _=>False) e s'->False) :
    PySem.W.WalkO q loose XP YP l.row.toRowW d [] (fun f vs=>PySem.call f vs):=
  Nq (K:=K) (CX:=fun _=>CX) (sp:=fun w=>sp (K w.params)) hn kG sy hr hY F (fun w H a ns h1 h2 h3=>mQ (K w.params) H a ns h1 h2 h3) fun _ H s e s'=>wM H s e s'
def Aw(s:Stmt)(j:Nat):Stmt:=match s with
  | .ClassDef _ _ _ body _ _ _ _ _ _ _=>body.getD j (.Pass ⟨0,0,0,0⟩)
  | _=>.Pass ⟨0,0,0,0⟩
def sE(s:Stmt):Arguments:=match s with
  | .FunctionDef _ a _ _ _ _ _ _ _ _=>a
  | _=>{ posonlyargs:=[],args:=[],vararg:=none,kwonlyargs:=[],kw_defaults:=[],kwarg:=none,defaults:=[] }
def nF(s:Stmt):List Stmt:=match s with
  | .FunctionDef _ _ b _ _ _ _ _ _ _=>b
  | _=>[]
def zq(s:Stmt):Scope:=match s with
  | .FunctionDef _ _ _ _ _ _ sc _ _ _=>sc
  | _=>{ kind:=.function,names:=[],isGenerator:=false,isCoroutine:=false }
abbrev qC:ku:=fun _ _ _ _ _ _=>False
abbrev E0:XK:=fun _ _ _=>False
theorem Nr{X:Cx}:wg qC X E0:=fun _ _ _ _ _ _ _ h=>h.elim
structure wN(K:PySem.W.Frag)(x qual:Str)(st:Stmt)(f:Addr)(fd:FuncData):Prop where
  ex:∃(oc:Value)(od:Option Addr)(kV doc pm:Value)(an:Option Addr)(aR ct:Value)(iT:Array (Option Value)),
    fd=PySem.W.fnOf x qual (sE st) (nF st) (zq st) .none kV doc pm an aR ct/\K.lookup f=some ⟨oc,od,.func fd,iT⟩/\PySem.W.codeIn K aR qual=true
  kp:PySem.W.keepIn K (.ref f)=true
section
variable{P:Program}{w:World}{K:PySem.W.Frag}{mg:Str->Option Value}{base:Heap}
theorem wN.ok{x qual:Str}{st:Stmt}{f:Addr}{fd:FuncData}{N ps:List Str}{k:Nat}{sp:Sp}(F:wN K x qual st f fd)(S:ak N ps (zq st))(len:∀vs H Q E,sp vs H Q E->vs.length=ps.length)
    (iu:∀(aR:Value)(A:Around)(outer:List Env)(s:Shared)(H:Hp)(vs:List V)(Q:VK)(E:XK),bE k (A.deeper (envOfC qual (zq st) s.heap.objs.size f aR))->sp vs H Q E->
      ∃t,jA (iS qC P w K mg base N qual (zq st) f aR A outer s H E).uu (nF st) t/\t { nx:=fun _ H'=>Q .bO H',rt:=Q } (start N vs) H):ir P w K mg base qC (k+1) f fd ps sp:=by
  obtain⟨oc,od,kV,doc,pm,an,aR,ct,iT,rfl,lk,jX⟩:=F.ex;refine FU lk jX S len fun A outer s H vs Q E hr mQ=>?_
  obtain⟨t,h,q⟩:=iu aR A outer s H vs Q E hr mQ;exact⟨t,h.uu,q⟩
theorem Gv{x qual:Str}{st:Stmt}{f:Addr}{oc:Value}{od an:Option Addr}{iT:Array (Option Value)}{kV doc pm aR ct:Value}(l:K.lookup f=some ⟨oc,od,.func (PySem.W.fnOf x qual (sE st) (nF st) (zq st) .none kV doc pm an aR ct),iT⟩)
    (c:PySem.W.codeIn K aR qual=true) (k:PySem.W.keepIn K (.ref f)=true):wN K x qual st f (PySem.W.fnOf x qual (sE st) (nF st) (zq st) .none kV doc pm an aR ct):=⟨⟨oc,od,kV,doc,pm,an,aR,ct,iT,rfl,l,c⟩,k⟩
end
theorem fm{A:Around}{k:Nat}(hr:bE k A):A.units+1<cLine:=Nat.lt_of_le_of_lt (Nat.add_le_add_left (by decide:1<=64) _) hr.units
theorem fP{n:Nat}(h:n<=1000):n<sizeLine:=Nat.lt_of_le_of_lt h (by decide)
section
variable{X:Cx}
theorem pv(i:Nat){x:Str}{pos:Pos}(hN:X.N[i]? = some x:=by rfl)(hv:BJ X.env.scope x:=by first | exact Or.inl rfl | exact Or.inr (Or.inl rfl) | exact Or.inr (Or.inr rfl))(hd:(x == ("__debug__" : Str))=false:=by decide)
    (jX:(x == ("__classdict__" : Str))=false:=by decide):PE X (.Name x pos) (pK i):=LJ hN hv hd jX
end
theorem cT{A B:Prop}(h:B):if false=true then A else B:=by
  rw[if_neg Bool.false_ne_true];exact h
theorem dD{A B:Prop}(h:A):if true=true then A else B:=by
  rw[if_pos rfl];exact h
theorem aT{c A B:Prop}[Decidable c](h1:c->A)(h2:¬c->B):if c then A else B:=by
  by_cases h:c
  · rw[if_pos h];exact h1 h
  · rw[if_neg h];exact h2 h
def ah(H H':Hp):Prop:=∀b o,H b=some o->H' b=some o
theorem ah.refl(H:Hp):ah H H:=fun _ _ h=>h
theorem ah.trans{H H1 H2:Hp}(a:ah H H1)(b:ah H1 H2):ah H H2:=fun c o h=>b c o (a c o h)
theorem ah.free{H H':Hp}(e:ah H H'){l:Addr}(h:H' l=Option.none):H l=Option.none:=by
  cases q:H l with
  | none=>rfl
  | some o=>
    rw[e l o q] at h;cases h
theorem ah.seq{K:PySem.W.Frag}{H H':Hp}{a:Addr}{xs:List V}(e:ah H H')(h:ao K H a xs):ao K H' a xs:=by
  rcases h with (h | ⟨o,h⟩) | h
  · exact .inl (.inl (e _ _ h))
  · exact .inl (.inr ⟨o,e _ _ h⟩)
  · exact .inr h
section
variable{X:Cx}
theorem Gw:ji X (.builtin "len") (fun xs H Q=>∃a kvs,xs = [V.ref a]/\H a=some (.dK kvs)/\Q (.int kvs.length) H):=by
  intro pins s σ H xs us Q I r h;obtain⟨a,kvs,rfl,ha,q⟩:=h;obtain⟨u,rfl,ru⟩:=j0 r;cases ru;exact Gk I (.inl ha) fun t s' I'=>⟨.int kvs.length,H,I',⟨t,rfl⟩,q⟩
end
def lU(cells:List (Str×Addr)):List (Str×NameKind)->List (Str×Addr)->List (Str×Addr)
  | [],cs=>cs
  | (n,k)::r,cs=>lU cells r (if(k == NameKind.free)=true then(match cells.lookup n with | some c=>(n,c)::cs | none=>cs) else cs)
theorem Nt{scope:Scope}{env:Env}(h:∀x∈scope.names,x.2 = .free->∃c,env.cells.lookup x.1=some c):closureFor scope env=pure (lU env.cells scope.names []):=by
  unfold closureFor;have go:∀(names:List (Str×NameKind))(cs:List (Str×Addr)),(∀x∈names,x.2 = .free->∃c,env.cells.lookup x.1=some c)->
      (forIn names cs (fun(x:Str×NameKind)(r:List (Str×Addr))=>if(x.2 == NameKind.free)=true then(do let a ←cellOf env x.1;pure (ForInStep.yield ((x.1,a)::r))) else pure (ForInStep.yield r)):Sem (List (Str×Addr)))=pure (lU env.cells names cs):=by
    intro names
    induction names with
    | nil=>intro cs _;rfl
    | cons x r ih=>
      intro cs hc;obtain⟨n,k⟩:=x;have hr:∀y∈r,y.2 = .free->∃c,env.cells.lookup y.1=some c:=fun y hy=>hc y (List.mem_cons_of_mem _ hy)
      rw[List.forIn_cons];cases e:(k == NameKind.free) with
      | true=>
        obtain⟨c,hl⟩:=hc (n,k) List.mem_cons_self (by simpa using e);have jo:env.cells.lookup n=some c:=hl;have ec:cellOf env n=pure c:=by unfold cellOf;rw[jo]
        show(_ >>= _)=pure (lU env.cells r (if(k == NameKind.free)=true then _ else _));rw[e,jo];simp only[if_true,ec,pure_bind];exact ih _ hr
      | false=>
        show(_ >>= _)=pure (lU env.cells r (if(k == NameKind.free)=true then _ else _));rw[e];simp only[Bool.false_eq_true,if_false,pure_bind];exact ih _ hr
  exact(congrArg (· >>= fun r=>pure r) (go scope.names [] h)).trans (pure_bind _ _)
theorem uJ{α:Type}{y n:Str}{c:α}{r:List (Str×α)}(h:y=n):((n,c)::r).lookup y=some c:=by
  subst h;simp
theorem wO{α:Type}{y n:Str}{c:α}{r:List (Str×α)}(h:¬y=n):((n,c)::r).lookup y=r.lookup y:=by
  rw[List.lookup_cons,beq_eq_false_iff_ne.mpr h]
theorem Gx{cells:List (Str×Addr)}{n:Str}{k:NameKind}{cs:List (Str×Addr)}(hs:∀y d,cs.lookup y=some d->cells.lookup y=some d) :
    ∀y d,(if(k == NameKind.free)=true then(match cells.lookup n with | some c=>(n,c)::cs | none=>cs) else cs).lookup y=some d->cells.lookup y=some d:=by
  intro y d h;split at h
  · split at h
    · rename_i c hc
      by_cases hy:y=n
      · rw[uJ hy] at h;rw[hy,hc];exact h
      · rw[wO hy] at h;exact hs y d h
    · exact hs y d h
  · exact hs y d h
theorem Cv(cells:List (Str×Addr)):∀(names:List (Str×NameKind))(cs:List (Str×Addr)),(∀y d,cs.lookup y=some d->cells.lookup y=some d)->
    ∀y d,(lU cells names cs).lookup y=some d->cells.lookup y=some d
  | [],_,hs,y,d,h=>hs y d h
  | (n,k)::r,cs,hs,y,d,h=>Cv cells r _ (Gx hs) y d h
theorem Gy(cells:List (Str×Addr)){x:Str}{c:Addr}(hc:cells.lookup x=some c):∀(names:List (Str×NameKind))(cs:List (Str×Addr)),(∀y d,cs.lookup y=some d->cells.lookup y=some d)->
    ((x,NameKind.free)∈names\/cs.lookup x=some c)->(lU cells names cs).lookup x=some c
  | [],_,_,h=>by
    rcases h with h | h
    · cases h
    · exact h
  | (n,k)::r,cs,hs,h=>by
    refine Gy cells hc r _ (Gx hs) ?_
    by_cases hx:(x,NameKind.free)=(n,k)
    · cases hx
      right
      rw[if_pos (by rfl),hc];exact uJ rfl
    · rcases h with h | h
      · rcases List.mem_cons.mp h with h | h
        · exact absurd h hx
        · exact .inl h
      · right
        split
        · split
          · rename_i c' oJ
            by_cases hn:x=n
            · rw[uJ hn];rw[hn,oJ] at hc;exact hc
            · rw[wO hn];exact h
          · exact h
        · exact h
theorem Cw(env:Env)(x:Str):∀names:List (Str×NameKind),
    (names.map fun(n,k)=>if(k == NameKind.free&&env.scope.kind == .function&&env.kindOf n == some .cell) then(n,NameKind.cell) else(n,k)).lookup x =
      (names.lookup x).map fun k=>if(k == NameKind.free&&env.scope.kind == .function&&env.kindOf x == some .cell) then NameKind.cell else k
  | []=>rfl
  | (n,k)::r=>by
    have ih:=Cw env x r;rw[List.map_cons]
    by_cases hx:x=n
    · subst hx;rw[uJ rfl];show List.lookup x ((if(k == NameKind.free&&env.scope.kind == .function&&env.kindOf x == some .cell)=true then(x,NameKind.cell) else(x,k))::_)=some (if(k == NameKind.free&&env.scope.kind == .function&&env.kindOf x == some .cell)=true then NameKind.cell else k)
      by_cases hc:(k == NameKind.free&&env.scope.kind == .function&&env.kindOf x == some .cell)=true
      · rw[if_pos hc,if_pos hc];exact uJ rfl
      · rw[if_neg hc,if_neg hc];exact uJ rfl
    · rw[wO hx,←ih];show List.lookup x ((if(k == NameKind.free&&env.scope.kind == .function&&env.kindOf n == some .cell)=true then(n,NameKind.cell) else(n,k))::_)=_
      by_cases hc:(k == NameKind.free&&env.scope.kind == .function&&env.kindOf n == some .cell)=true
      · rw[if_pos hc];exact wO hx
      · rw[if_neg hc];exact wO hx
theorem Nu{scope:Scope}{env:Env}{x:Str}(h:scope.names.lookup x=some .free):(relabel scope env).names.lookup x=some .cell\/(relabel scope env).names.lookup x=some .free:=by
  have e:=Cw env x scope.names;rw[h] at e;have e':(relabel scope env).names.lookup x=some (if(NameKind.free == NameKind.free&&env.scope.kind == .function&&env.kindOf x == some .cell)=true then NameKind.cell else NameKind.free):=e;rw[e'];split
  · exact .inl rfl
  · exact .inr rfl
theorem Nv{scope:Scope}{env:Env}{x:Str}(nc:∀y∈scope.names,y.2≠.cell)(h:(relabel scope env).names.lookup x=some .cell\/(relabel scope env).names.lookup x=some .free):(x,NameKind.free)∈scope.names:=by
  have e:=Cw env x scope.names;have e':(relabel scope env).names.lookup x=_:=e;cases q:scope.names.lookup x with
  | none=>
    rw[q] at e';rw[e'] at h;rcases h with h | h<;>cases h
  | some k=>
    rw[q] at e';have m:=PySem.mem_of_lookup q;cases k with
    | free=>exact m
    | cell=>exact absurd rfl (nc _ m)
    | _=>
      rw[e'] at h;rcases h with h | h<;>cases h
structure b7(scope gE:Scope)(cap:List Str):Prop where
  kind:scope.kind = .function
  nG:∀y∈scope.names,y.2≠.cell
  loc:∀y∈scope.names,y.2 = .local->scope.names.lookup y.1=some .local
  free:∀y∈scope.names,y.2 = .free->gE.names.lookup y.1=some .cell\/gE.names.lookup y.1=some .free
  cap:∀x∈cap,scope.names.lookup x=some .free
def jB(X:Cx)(N:List Str)(scope:Scope)(C:Addr)(s:Shared)(H:Hp)(ex:List Addr):Cx where
  prog:=X.prog
  w:=X.w
  K:=X.K
  mg:=X.mg
  base:=X.base
  A:=X.A
  N:=N
  bF:=s
  jG:=H
  env:=compEnvC scope (lU X.env.cells scope.names []) C X.env
  outer:=X.stack
  stack:=X.stack
  ex:=ex
  fn:=fun _=>false
  calm:=X.calm
  pn:=[]
  xe:=fun _ _=>False
def lV(own:List Str)(ix:List Nat)(σ:St):St:=own.map (fun _=>none)++ix.map fun i=>(σ[i]?).join
theorem Gz{X:Cx}{pins:List (Addr×Obj)}{σ:St}{H:Hp}{s:Shared}{scope:Scope}{cap:List Str}(I:Inv X pins σ H s)(S:b7 scope X.env.scope cap) :
    closureFor scope X.env=pure (lU X.env.cells scope.names []):=
  Nt fun x hx hf=>I.ok.has x.1 (S.free x hx hf)
theorem Nx{X:Cx}{pins:List (Addr×Obj)}{σ:St}{H:Hp}{s:Shared}{scope:Scope}{own cap:List Str}{ix:List Nat}{fp:List Addr}{eY:Heap}{m:Str->Option Value}{tk:Nat}
    (I:Inv X pins σ H s) (S:b7 scope X.env.scope cap) (dR:ix.map (fun i=>X.N[i]?)=cap.map some) (hf:∀b∈fp,d8 X pins H b) (bC:∀b∈fp,b<s.heap.objs.size)
    (hn:eY.Ns s.heap.objs.size m) (hk:∀b o,s.heap.get? b=some o->eY.get? b=some o) :
    Inv (jB X (own++cap) scope s.heap.objs.size s H fp) [] (lV own ix σ) H { s with heap:=eY,toks:=tk }:=by
  have sub:∀y d,(lU X.env.cells scope.names []).lookup y=some d->X.env.cells.lookup y=some d:=Cv _ _ _ (fun y d h=>by cases h);have has:∀y c,(y,NameKind.free)∈scope.names->X.env.cells.lookup y=some c->(lU X.env.cells scope.names []).lookup y=some c:=fun y c hy hc=>Gy _ hc _ _ (fun y d h=>by cases h) (.inl hy)
  have hlen:ix.length=cap.length:=by
    have:=congrArg List.length dR;simpa using this
  refine⟨⟨I.mod,S.kind,I.ok.glob,I.ok.blt,Nat.le_refl _,fun x y c e1 e2=>I.ok.inj x y c (sub _ _ e1) (sub _ _ e2),fun x hx=>?_,fun x c z=>(by cases z),I.ok.hd,I.ok.frames,.inl rfl,fun b hb=>⟨Nat.ne_of_lt (bC b hb),fun x c e=>(hf b hb).2.2.2.2.1 x c (sub _ _ e)⟩,I.bs,
      Nat.le_trans I.ok.nu I.sz,fun b o e hb=>?_,fun b hb z=>?_,I.stack,I.gY⟩,rfl,I.bare,Un.kept hk,⟨m,hn,fun i x v e1 e2 e3=>?_⟩,fun x c e=>?_,I.aI.fresh (Nat.le_refl _),fun x c e=>I.cH x c (sub _ _ e),fun p hp=>absurd (show p∈([]:List (Addr×Obj)) from hp) (by simp),I.aI.kept hk,?_⟩
  · have m':=Nv (env:=X.env) S.nG hx;obtain⟨c,hc⟩:=I.ok.has x (S.free _ m' rfl);exact⟨c,has x c m' hc⟩
  · obtain⟨f0,f1,f2,f3,f4,f5⟩:=hf b hb;rcases f3 with z | z
    · exact I.ok.kq b o e z
    · exact absurd (Nat.lt_of_lt_of_le (Nat.lt_of_lt_of_le (Heap.lt_size e) I.ok.nu) z) (Nat.lt_irrefl _)
  · obtain⟨f0,f1,f2,f3,f4,f5⟩:=hf b hb;rcases List.mem_cons.mp (I.jg b z) with z | z
    · exact f1 z
    · exact f2 z
  · have e1:(own++cap)[i]? = some x:=e1;unfold lV at e2
    by_cases hi:i<own.length
    · rw[List.getElem?_append_left (by simpa using hi),List.getElem?_map] at e2;cases q:own[i]? with
      | none=>rw[q] at e2;cases e2
      | some y=>rw[q] at e2;cases e2
    · rw[List.getElem?_append_right (by simpa using hi)] at e1;rw[List.getElem?_append_right (by simpa using hi),List.length_map,List.getElem?_map] at e2;generalize i-own.length=j at e1 e2;cases q:ix[j]? with
      | none=>rw[q] at e2;cases e2
      | some k=>
        rw[q] at e2;have e2:(σ[k]?).join=some v:=Option.some.inj e2;have Ny:σ[k]? = some (some v):=by
          cases q2:σ[k]? with
          | none=>rw[q2] at e2;cases e2
          | some o=>rw[q2] at e2;exact congrArg some e2
        have eN:X.N[k]? = some x:=by
          have:=congrArg (fun l=>l[j]?) dR;simp only[List.getElem?_map,q,e1,Option.map_some] at this;exact Option.some.inj this
        have eZ:=S.cap x (List.mem_of_getElem? e1);have gR:=PySem.mem_of_lookup eZ;have wQ:=S.free _ gR rfl;obtain⟨m0,WN,hl⟩:=I.loc;obtain⟨u,r,l⟩:=hl k x v eN Ny (.inr wQ);rcases l with ⟨kd,_⟩ | ⟨kd,c,e,z⟩
        · have kd:X.env.scope.names.lookup x=some .local:=kd;rcases wQ with ho | ho<;>(have ho:X.env.scope.names.lookup x=_:=ho;rw[kd] at ho;cases ho)
        · exact⟨u,r,.inr ⟨Nu eZ,c,has x c gR e,z.keeps hk⟩⟩
  · obtain⟨v,q⟩:=I.cell x c (sub _ _ e);exact⟨v,q.keeps hk⟩
  · show(lV own ix σ).length=(own++cap).length;unfold lV;simp[hlen]
theorem Nz{X:Cx}{pins:List (Addr×Obj)}{σ aq:St}{H H':Hp}{s s':Shared}{scope:Scope}{N:List Str}{fp:List Addr}{h':Heap}
    (I:Inv X pins σ H s) (hf:∀b∈fp,d8 X pins H b) (J:Inv (jB X N scope s.heap.objs.size s H fp) [] aq H' s') (hs:Heap.SameBut s.heap.objs.size s'.heap h'):Inv X pins σ H' { s' with heap:=h' }:=by
  have ne:∀b o,s.heap.get? b=some o->b≠s.heap.objs.size:=fun b o e=>Nat.ne_of_lt (Heap.lt_size e)
  have B:Un (fH X.stack) fp H H' s.heap s'.heap:=J.base;refine I.k6 (s':={ s' with heap:=h' }) (ch:=fp) J.os ⟨fun b o e n hb hx=>?_,fun b o e n hb hx=>?_,B.free,fun b o e hx=>?_,B.gO,B.gD,B.gP⟩ (fun b ob e=>?_) J.bare fun b hb=>?_
  · exact(hs.2 b (ne b o e)).trans (B.keep b o e n hb hx)
  · obtain⟨sl,e1⟩:=B.slot b o e n hb hx;exact⟨sl,(hs.2 b (ne b o e)).trans e1⟩
  · obtain⟨o',e1⟩:=B.there b o e hx;exact⟨o',(hs.2 b (ne b o e)).trans e1⟩
  · have fr:H' s.heap.objs.size=none:=J.free;refine(J.aI b ob e).eO (fun c w' hc q=>(hs.2 c ?_).trans q) (fun _ q=>q) fun _ _ q=>q
    rintro rfl;rcases hc with hc | hc
    · rw[←hc,fr] at e;cases e
    · rw[fr] at hc;cases hc
  · obtain⟨f0,f1,f2,f3,f4,f5⟩:=hf b hb;exact⟨f3,f1,f4,f5⟩
def wR(X:Cx)(ifs:List Expr)(t:TT):Prop:=
  ∀(pins:List (Addr×Obj))(s:Shared)(σ:St)(H:Hp)(Q:Bool->Hp->Prop),Inv X pins σ H s->t σ H Q->
    wpAny (model X.prog X.w) X.A (forIn ifs true fun c r=>if r=true then do let ok ←isTrue c X.env (eval c X.env);pure (ForInStep.yield ok) else pure (ForInStep.yield r)) (TP X pins σ Q) X.xe s
def gS:TT:=fun _ H Q=>Q true H
theorem j5{X:Cx}:wR X [] gS:=fun _ s σ H Q I h=>wpAny_tests_nil ⟨H,I,h⟩
theorem Cy{X:Cx}{c:Expr}{t:TT}(h:PT X c t):wR X [c] t:=fun pins s σ H Q I hw=>wpAny_tests_one (h pins s σ H Q I hw)
theorem NB{prog:Program}{w:World}{A:Around}{R:Result->Shared->Prop}{s:Shared}{elt target iter:Expr}{ifs:List Expr}{scope:Scope}{pos:Pos}{it acc:Value}{env:Env}(I:Nat->Shared->Prop)
    (turn:∀n s,I n s->wpAny (model prog w) A (pyNext it) (fun r aK=>match r with
      | none=>R (.ok .next) aK
      | some v=>wpAny (model prog w) A (letOwnedTupleGo target it v) (fun _ qD=>wpAny (model prog w) A (assign target env v) (fun _ eW=>
          wpAny (model prog w) A (forIn ifs true fun c r=>if r=true then do let ok ←isTrue c env (eval c env);pure (ForInStep.yield ok) else pure (ForInStep.yield r)) (fun ok iV=>
            if ok=true then wpAny (model prog w) A (eval elt env) (fun x jL=>
              wpAny (model prog w) A (call (.builtin "list.append") [acc,x]) (fun _ wU=>∃m,m<n/\I m wU) (notedBy (model prog w) A env fun e s'=>R (.error e) s') jL) (notedBy (model prog w) A env fun e s'=>R (.error e) s') iV
            else ∃m,m<n/\I m iV) (notedBy (model prog w) A env fun e s'=>R (.error e) s') eW) (notedBy (model prog w) A env fun e s'=>R (.error e) s') qD) (notedBy (model prog w) A env fun e s'=>R (.error e) s') aK) (notedBy (model prog w) A env fun e s'=>R (.error e) s') s)
    (n:Nat) (h:I n s):codeAny (model prog w) A (.compLoop (.ListComp elt [⟨target,iter,ifs,0⟩] scope pos) 0 it acc env) R s:=by
  refine codeAny_loop rfl I (fun n s hI=>?_) n h;show wpAny _ A ((compTurn (.ListComp elt [⟨target,iter,ifs,0⟩] scope pos) 0 it acc env).onRaise (fun x=>do noteFrame x env;theTreesLotGoes x)) _ _ s;refine wpAny_noted ?_;rw[compTurn_list];refine wpAny_bind (wpAny_standAt (wpAny_bind (wpAny_mono (turn n s hI) (fun r aK eY=>?_) fun _ _ h'=>h')));cases r with
  | none=>exact wpAny_pure eY
  | some v=>
    refine wpAny_bind (wpAny_mono eY (fun _ qD wV=>?_) fun _ _ h'=>h');refine wpAny_bind (wpAny_mono wV (fun _ eW jl=>wpAny_bind (wpAny_mono jl (fun ok iV pQ=>?_) fun _ _ h'=>h')) fun _ _ h'=>h');cases ok with
    | false=>exact wpAny_pure ⟨rfl,pQ⟩
    | true=>
      exact wpAny_bind (wpAny_bind (wpAny_mono pQ (fun x jL Cz=>wpAny_bind (wpAny_mono Cz (fun _ wU CA=>wpAny_pure (wpAny_pure ⟨rfl,CA⟩)) fun _ _ h'=>h')) fun _ _ h'=>h'))
def wW(own:List Str)(ix:List Nat)(J:It)(g:TG)(tc:TT)(te:TE)(σ:St)(H1:Hp)(D:Addr)(Q:VK):Prop:=
  ∃W:Nat->Nat->St->List V->Hp->Prop,(∃m,W 0 m (lV own ix σ) [] (upd H1 D (.lst [])))/\∀i m aq ys H',W i m aq ys H'->H' D=some (.lst ys)/\
    ((J.stop i H'/\Q (.ref D) H')\/(J.go i H'/\ys.length<sizeLine/\∀x H2,J.mP i H' x H2->g x aq H2 fun iQ H3=>tc iQ H3 fun b H4=>
      if b=true then te iQ H4 fun y H5=>H5 D=some (.lst ys)/\∃m',m'<m/\W (i+1) m' iQ (ys++[y]) (upd H5 D (.lst (ys++[y]))) else H4 D=some (.lst ys)/\∃m',m'<m/\W (i+1) m' iQ ys H4))
def GA(own:List Str)(ix:List Nat)(wi:TI)(g:TG)(tc:TT)(te:TE):TE:=fun σ H Q=>wi σ H fun J H1=>∀D,H1 D=none->wW own ix J g tc te σ H1 D Q
section
variable{X:Cx}{tg iter elt:Expr}{ifs:List Expr}{scope:Scope}{pos:Pos}{own cap:List Str}{ix:List Nat}{wi:TI}{g:TG}{tc:TT}{te:TE}
theorem GB{pins:List (Addr×Obj)}{σ:St}{s:Shared}{E:Value->Shared->Prop}{RR:Value->Addr->Result->Shared->Prop}{Q:VK}
    (hc:X.calm=true) (S:b7 scope X.env.scope cap) (dR:ix.map (fun i=>X.N[i]?)=cap.map some)
    (hg:∀C s H ex,PG (jB X (own++cap) scope C s H ex) tg g) (ht:∀C s H ex,wR (jB X (own++cap) scope C s H ex) ifs tc) (he:∀C s H ex,PE (jB X (own++cap) scope C s H ex) elt te)
    {rL:Value}(h:BV X pins σ tg (fun J H1=>∀D,H1 D=none->wW own ix J g tc te σ H1 D Q) rL s)
    (hR:∀(D C:Addr)(s':Shared)(H':Hp)(m:Str->Option Value),s'.heap.Ns C m->d8 X pins H' C->(∀h',Heap.SameBut C s'.heap h'->Inv X pins σ H' { s' with heap:=h' })->Q (.ref D) H'->RR (.ref D) C (.ok .next) s') :
    wpAny (model X.prog X.w) X.A (newList []) (fun acc iV=>wpAny (model X.prog X.w) X.A (newFunctionEnv scope X.env.globals (lU X.env.cells scope.names []) [] X.env.qual none .none (some X.env)) (fun wX jL=>
      codeAny (model X.prog X.w) X.A (.compStart (.ListComp elt [⟨tg,iter,ifs,0⟩] scope pos) 0 rL acc { wX with scope:=relabel scope X.env }) (RR acc wX.locals) jL) E iV) E s:=by
  obtain⟨it,fp,tn,J,H2,rfl,I2,T,Ad,f2,q2⟩:=h;refine wpAny_newObj_type (wpAny_newFunctionEnv S.nG (by intro y hy;simp at hy) (fun eY kH kI=>?_) S.kind);dsimp only at kH kI ⊢;have hD:H2 s.heap.objs.size=none:=I2.aI.fresh (Nat.le_refl _);obtain⟨W,⟨m0,w0⟩,turn⟩:=q2 s.heap.objs.size hD;have I3:Inv X pins σ (upd H2 s.heap.objs.size (.lst [])) { s with heap:=s.heap.push { cls:=.type "list",data:=.seq ([]:List Value).toArray } }:=I2.se (t':=s.toks) (its:=[]) .nil (Nat.zero_le _);have GC:∀b∈fp,b<s.heap.objs.size:=fun b hb=>by
    obtain⟨o,e,_⟩:=T.obj 0 _ Ad b hb;exact Heap.lt_size e
  have f3:∀b∈fp,d8 X pins (upd H2 s.heap.objs.size (.lst [])) b:=fun b hb=>⟨by rw[zr (Nat.ne_of_lt (GC b hb))];exact(f2 b hb).1,(f2 b hb).2⟩
  generalize hH:s.heap.push { cls:=.type "list",data:=.seq ([]:List Value).toArray } = H3 at I3 kH kI ⊢;have sz:H3.objs.size=s.heap.objs.size+1:=by rw[←hH,Heap.size_push]
  have up:∀b o,H3.get? b=some o->eY.get? b=some o:=fun b o e=>kI.extBut b o (Nat.ne_of_lt (Heap.lt_size e)) (Heap.get?_push_of_some _ e)
  have old:∀b o,s.heap.get? b=some o->eY.get? b=some o:=fun b o e=>up b o (by rw[←hH];exact Heap.get?_push_of_some _ e)
  have GD:∀b∈fp,b<({ s with heap:=H3 }:Shared).heap.objs.size:=fun b hb=>by show b<H3.objs.size;rw[sz];exact Nat.lt_succ_of_lt (GC b hb)
  have GF:tn 0 eY:=T.keep _ _ _ Ad fun b _ o e=>old b o e
  have kr:∀{H':Hp},(∀b∈fp,H' b=none)->∀b∈fp,d8 (jB X (own++cap) scope H3.objs.size { s with heap:=H3 } (upd H2 s.heap.objs.size (.lst [])) fp) [] H' b:=fun hn b hb=>
    ⟨hn b hb,Nat.ne_of_lt (GD b hb),fun z=>(List.mem_cons.mp (I3.jg b z)).elim (f2 b hb).2.1 (f2 b hb).2.2.1,.inl hb,fun x c e=>(f2 b hb).2.2.2.2.1 x c (Cv _ _ _ (fun y d h=>by cases h) _ _ e),fun p hp=>absurd (show p∈([]:List (Addr×Obj)) from hp) (by simp)⟩
  have loop:∀jL:Shared,jL = { s with heap:=eY,toks:=s.toks+([]:List (Str×Value)).length }->
      codeAny (model X.prog X.w) X.A (.compLoop (.ListComp elt [⟨tg,iter,ifs,0⟩] scope pos) 0 (.ref it) (.ref s.heap.objs.size) (compEnvC scope (lU X.env.cells scope.names []) H3.objs.size X.env))
        (RR (.ref s.heap.objs.size) H3.objs.size) jL:=by
    rintro jL rfl;have I4:=Nx (own:=own) (fp:=fp) (tk:=s.toks+([]:List (Str×Value)).length) I3 S dR f3 GD kH up;refine NB (fun n s'=>∃i aq ys H',Inv (jB X (own++cap) scope H3.objs.size { s with heap:=H3 } (upd H2 s.heap.objs.size (.lst [])) fp) [] aq H' s'/\tn i s'.heap/\(∀b∈fp,H' b=none)/\W i n aq ys H') ?_ m0
      ⟨0,_,[],_,I4,GF,fun b hb=>(f3 b hb).1,w0⟩
    rintro n s5 ⟨i,Ax,ys,H5,I5,ux,Ae,w5⟩;obtain⟨WO,wY⟩:=turn i n Ax ys H5 w5;rcases wY with ⟨stop,q⟩ | ⟨go,hz,step⟩
    · refine aX (T.done (jB X (own++cap) scope H3.objs.size { s with heap:=H3 } (upd H2 s.heap.objs.size (.lst [])) fp) rfl rfl rfl hc i [] s5 Ax H5 _ I5 (kr Ae) ux stop) fun r s6 aE=>?_
      obtain⟨hr,I6⟩:=aE;subst hr;obtain⟨m6,CB,_⟩:=I6.loc;exact hR _ _ s6 H5 m6 CB (I3.jh (Nat.le_refl _) I6.free) (fun h' hs=>Nz I3 f3 I6 hs) q
    · refine aX (T.item (jB X (own++cap) scope H3.objs.size { s with heap:=H3 } (upd H2 s.heap.objs.size (.lst [])) fp) rfl rfl rfl hc i [] s5 Ax H5 _ I5 (kr Ae) ux go) fun r s6 aE=>?_
      obtain⟨u,hr,h6⟩:=aE;subst hr;refine aX h6 fun _ s7 aE=>?_
      obtain⟨x,H7,I7,r7,y7,CC,NC⟩:=aE;have ND:=I7.pinned (kr NC) (T.obj _ _ CC);refine wpAny_mono (hg _ _ _ _ _ s7 Ax H7 x u _ ND r7 (step x H7 y7)) (fun _ s8 aE=>?_) fun _ _ z=>False.elim z
      obtain⟨CD,H8,I8,q8⟩:=aE;refine wpAny_mono (ht _ _ _ _ _ s8 CD H8 _ I8 q8) (fun ok s9 aE=>?_) fun _ _ z=>False.elim z
      obtain⟨H9,I9,q9⟩:=aE;have again:∀{s':Shared}{aq:St}{H':Hp}{CF:List V}{m':Nat},Inv (jB X (own++cap) scope H3.objs.size { s with heap:=H3 } (upd H2 s.heap.objs.size (.lst [])) fp) ([]++vR fp s7.heap) aq H' s'->m'<n->W (i+1) m' aq CF H'->
          ∃m,m<n/\∃i aq ys H',Inv (jB X (own++cap) scope H3.objs.size { s with heap:=H3 } (upd H2 s.heap.objs.size (.lst [])) fp) [] aq H' s'/\tn i s'.heap/\(∀b∈fp,H' b=none)/\W i m aq ys H':=fun{s' aq H' CF m'}I' hm w'=>by
        refine⟨m',hm,i+1,aq,CF,H',I'.gc,T.keep _ _ _ CC fun b hb o e=>(I'.pin (b,o) (List.mem_append_right _ (List.mem_append_right _ (Ac hb e)))).1,fun b hb=>?_,w'⟩;obtain⟨o,e,d⟩:=T.obj _ _ CC b hb;exact(I'.pin (b,o) (List.mem_append_right _ (List.mem_append_right _ (Ac hb e)))).2.1
      cases ok with
      | false=>
        rw[if_neg Bool.false_ne_true] at q9 ⊢;obtain⟨_,m',hm,w'⟩:=q9;exact again I9 hm w'
      | true=>
        rw[if_pos rfl] at q9 ⊢;refine wpAny_mono (he _ _ _ _ _ s9 CD H9 _ I9 q9) (fun v wZ aE=>?_) fun _ _ z=>False.elim z
        obtain⟨y,Ay,NF,NG,CG,m',hm,w'⟩:=aE;refine wpAny_mono (j4 (X:=jB X (own++cap) scope H3.objs.size { s with heap:=H3 } (upd H2 s.heap.objs.size (.lst [])) fp) _ wZ CD Ay (.ref s.heap.objs.size) [y] (.ref s.heap.objs.size) [v] (fun _ H'=>H'=upd Ay s.heap.objs.size (.lst (ys++[y]))) NF rfl (.cons NG .nil) ⟨_,ys,y,rfl,rfl,CG,hz,rfl⟩)
          (fun _ WQ ⟨_,WR,NH,_,NI⟩=>?_) fun _ _ z=>False.elim z
        subst NI;exact again NH hm w'
  exact codeAny_compStart_list (loop _ rfl) (T.self _ 0 _ _ _ GF (loop _ rfl))
theorem ly{gE:Scope}(hc:X.calm=true)(S':b7 scope gE cap)(dR:ix.map (fun i=>X.N[i]?)=cap.map some)(hi:PI X tg iter wi)
    (hg:∀C s H ex,PG (jB X (own++cap) scope C s H ex) tg g) (ht:∀C s H ex,wR (jB X (own++cap) scope C s H ex) ifs tc) (he:∀C s H ex,PE (jB X (own++cap) scope C s H ex) elt te)
    (hs:∀x,foldedSetIterable iter X.env x=pure x:=by intro _;rfl) (ho:X.env.scope=gE:=by rfl):PE X (.ListComp elt [⟨tg,iter,ifs,0⟩] scope pos) (GA own ix wi g tc te):=by
  have S:b7 scope X.env.scope cap:=ho▸S';intro pins s σ H Q I h;rw[eval_ListComp];refine wpAny_comprehension_free (use:=none) rfl hs (Gz I S) S.kind S.loc (aX (hi pins s σ H _ I h) fun xv aK eY=>aX eY fun rL eW jl=>?_);refine GB (RR:=fun acc C=>compPost (model X.prog X.w) X.A X.xe none (EP X pins σ Q) acc C) hc S dR hg ht he jl fun D C s' H' m hn _ hI q=>?_
  exact⟨m,hn,fun h' qE=>⟨.ref D,H',hI h' qE,rfl,q⟩⟩
theorem w9{gE:Scope}{i:Nat}{y:Str}{py xg:Pos}(hc:X.calm=true)(hN:X.N.Nodup)(uK:X.N[i]? = some y)(hy:X.env.scope.names.lookup y=some .local)
    (NJ:swapsWith (.ListComp elt [⟨tg,iter,ifs,0⟩] scope pos) (some (.Name y py)) xg.line X.env=pure true) (S':b7 scope gE cap) (dR:ix.map (fun i=>X.N[i]?)=cap.map some) (hi:PI X tg iter wi)
    (hg:∀C s H ex,PG (jB X (own++cap) scope C s H ex) tg g) (ht:∀C s H ex,wR (jB X (own++cap) scope C s H ex) ifs tc) (he:∀C s H ex,PE (jB X (own++cap) scope C s H ex) elt te)
    (hs:∀x,foldedSetIterable iter X.env x=pure x:=by intro _;rfl) (ho:X.env.scope=gE:=by rfl):PS X (.Assign [.Name y py] (.ListComp elt [⟨tg,iter,ifs,0⟩] scope pos) xg) (rK (GA own ix wi g tc te) (zx i)):=by
  have S:b7 scope X.env.scope cap:=ho▸S';intro pins s σ H D I h;rw[exec_Assign_Name_used _ _ _ _ NJ];refine wpAny_bind (wpAny_standAt (wpAny_bind ?_));show wpAny _ X.A (do let _ ←comprehension (.ListComp elt [⟨tg,iter,ifs,0⟩] scope pos) scope X.env _ (newList []) false (eval iter X.env) (some (assign (.Name y py) X.env))) _ _ s;refine wpAny_bind (wpAny_mono (wpAny_comprehension_free (use:=some (assign (.Name y py) X.env)) (Q:=fun _ s'=>SP X pins D .next s') rfl hs (Gz I S) S.kind S.loc
    (aX (hi pins s σ H _ I h) fun xv aK eY=>aX eY fun rL eW jl=>?_)) (fun _ s' hq=>wpAny_pure (wpAny_pure hq)) fun _ _ e=>e)
  refine GB (RR:=fun acc C=>compPost (model X.prog X.w) X.A X.xe (some (assign (.Name y py) X.env)) (fun _ s'=>SP X pins D .next s') acc C) hc S dR hg ht he jl fun D' C s' H' m hn hF hI q=>?_
  show wpAny _ X.A (assign (.Name y py) X.env (.ref D')) _ _ _;have I':Inv X pins σ H' s':=hI s'.heap (Heap.SameBut.refl ..);refine wpAny_assign_Name (Fi I' hN uK (.inl hy) (v:=.ref D') rfl (fun oN NK aE=>?_) (.inr hy));obtain⟨a,CH,ha⟩:=aE;obtain⟨f0,f1,f2,f3,f4,f5⟩:=hF;have NL:C≠a:=by
    rcases ha with ha | ha
    · rw[ha];exact f1
    · exact fun z=>f4 _ _ ha z.symm
  exact⟨m,hn.sameBut CH NL,fun h' qE=>⟨_,H',NK.turned (t':=oN.toks) (fun b o hb e=>(qE.2 b hb).trans e) f0 f1 f3 f4 f5,q⟩⟩
end
structure Fix(J:It)(xs:List V)(P:Hp->Prop):Prop where
  go:∀i H,P H->i<xs.length->J.go i H
  mP:∀i H x H',P H->J.mP i H x H'->H'=H/\(i<xs.length->xs[i]? = some x)
  stop:∀i H,P H->xs.length<=i->J.stop i H
theorem oR{K:PySem.W.Frag}{a:Addr}{xs:List V}:Fix (uw K a) xs (fun H=>ao K H a xs):=
  ⟨fun i H h hi=>⟨xs,xs[i],h,by simp[hi]⟩,fun i H x H' h y=>⟨y.1,fun _=>y.2 xs h⟩,fun i H h hi=>⟨xs,h,hi⟩⟩
theorem GG{lo:Int}{n:Nat}:Fix (rM lo n) ((List.range n).map fun i=>V.int (lo+(i:Nat))) (fun _=>True):=
  ⟨fun i H h hi=>by show i<n;simpa using hi,fun i H x H' h y=>⟨y.1,fun hi=>by
    have uK:i<n:=by simpa using hi
    rw[List.getElem?_map,List.getElem?_range uK,y.2];rfl⟩,fun i H h hi=>by show n<=i;simpa using hi⟩
theorem NN{J:It}{xs:List V}{P:Hp->Prop}{own:List Str}{ix:List Nat}{tc:TT}{te:TE}{σ:St}{H1:Hp}{D:Addr}{Q:VK}(F:Fix J xs P)(p:V->Bool)(f:V->V)
    (hP:∀ys,P (upd H1 D (.lst ys))) (hz:xs.length<=sizeLine)
    (ht:∀x∈xs,∀ys(Q':Bool->Hp->Prop),Q' (p x) (upd H1 D (.lst ys))->tc ((lV own ix σ).set 0 (some x)) (upd H1 D (.lst ys)) Q')
    (he:∀x∈xs,p x=true->∀ys(Q':VK),Q' (f x) (upd H1 D (.lst ys))->te ((lV own ix σ).set 0 (some x)) (upd H1 D (.lst ys)) Q')
    (hQ:Q (.ref D) (upd H1 D (.lst ((xs.filter p).map f)))):wW own ix J (zx 0) tc te σ H1 D Q:=by
  refine⟨fun i m aq ys H'=>m=xs.length-i/\i<=xs.length/\(∀z,aq.set 0 z=(lV own ix σ).set 0 z)/\ys=((xs.take i).filter p).map f/\H'=upd H1 D (.lst ys),
    ⟨xs.length,by simp,Nat.zero_le _,fun _=>rfl,by simp,rfl⟩,?_⟩
  rintro i m aq ys H' ⟨rfl,hi,CI,rfl,rfl⟩;refine⟨zb,?_⟩
  by_cases bC:i<xs.length
  · refine .inr ⟨F.go i _ (hP _) bC,?_,fun x H2 y=>?_⟩
    · rw[List.length_map];have h1:((xs.take i).filter p).length<=(xs.take i).length:=List.length_filter_le _ _;rw[List.length_take] at h1;omega
    · obtain⟨e,y'⟩:=F.mP i _ x H2 (hP _) y;subst e;have hx:=y' bC;have hm:x∈xs:=List.mem_of_getElem? hx;have tk:=take_succ_filter p xs i x hx;show tc (aq.set 0 (some x)) _ _;rw[CI];refine ht x hm _ _ ?_;have xh:∀z,((lV own ix σ).set 0 (some x)).set 0 z=(lV own ix σ).set 0 z:=fun z=>List.set_set ..
      cases hp:p x with
      | true=>
        rw[if_pos rfl];refine he x hm hp _ _ ⟨zb,xs.length-(i+1),by omega,rfl,bC,xh,?_,?_⟩
        · rw[tk,hp];simp
        · rw[LD]
      | false=>
        rw[if_neg Bool.false_ne_true];refine⟨zb,xs.length-(i+1),by omega,rfl,bC,xh,?_,?_⟩
        · rw[tk,hp];simp
        · rfl
  · have e:i=xs.length:=by omega
    subst e;refine .inl ⟨F.stop _ _ (hP _) (Nat.le_refl _),?_⟩;rw[List.take_length];exact hQ
def sg(c:Nat):V:=.str ⟨#[c]⟩
section
variable{X:Cx}
theorem CJ:∀{bs:List Bool}{us:List Value},Vals (bs.map V.bl) us->us=bs.map Value.bool
  | [],_,r=>by cases r;rfl
  | b::bs,_,r=>by
    cases r with
    | cons r1 r2=>rw[show _=Value.bool b from r1,CJ r2];rfl
theorem NO(bs:List Bool):((List.range bs.length).all fun i=>(bs[i]?).getD true)=bs.all id:=by
  rw[Bool.eq_iff_iff,List.all_eq_true,List.all_eq_true];constructor
  · intro h b hb;obtain⟨i,hi,e⟩:=List.mem_iff_getElem.mp hb;have:=h i (List.mem_range.mpr hi);rw[List.getElem?_eq_getElem hi,Option.getD_some,e] at this;exact this
  · intro h i hi;have uK:=List.mem_range.mp hi;rw[List.getElem?_eq_getElem uK,Option.getD_some];exact h _ (List.getElem_mem uK)
theorem NP(hc:X.calm=true):ji X (.builtin "all") (fun xs H Q=>∃(a:Addr)(bs:List Bool),xs = [V.ref a]/\ao X.K H a (bs.map V.bl)/\Q (.bl (bs.all id)) H):=by
  intro pins s σ H xs us Q I r h;obtain⟨a,bs,rfl,ha,q⟩:=h;obtain⟨u,rfl,ru⟩:=j0 r;cases ru;obtain⟨its,rv,pl,hz⟩:=I.list ha;have e:its=bs.map Value.bool:=CJ rv;subst e;have hl:=pl.isList;have bC:a<s.heap.objs.size:=by obtain⟨_,e,_⟩:=hl;exact Heap.lt_size e
  refine call_all_walk (wpAny_pyIter_list hl ?_);refine⟨s.heap.objs.size,[s.heap.objs.size,a],[s.heap.objs.size],(bs.map Value.bool).toArray.size,_,_,fun i=>(bs[i]?).getD true,rfl,Walks.list (A:=X.A.in1) (I.ok.hd hc) _ a (Nat.ne_of_lt bC) (bs.map Value.bool).toArray,
    ⟨⟨_,Heap.get?_push_size _ rfl,rfl,rfl⟩,hl.push _⟩,fun i v s' Q' E' hP hQ=>?_,fun h' tk hk=>?_⟩
  · have j6:(bs.map Value.bool)[i]? = some v:=by simpa using hP
    rw[List.getElem?_map] at j6;cases e:bs[i]? with
    | none=>rw[e] at j6;cases j6
    | some b=>
      rw[e] at j6;cases j6;simp only[e,Option.getD_some] at hQ;exact wpAny_truthy_bool hQ
  · have e:((List.range (bs.map Value.bool).toArray.size).all fun i=>(bs[i]?).getD true)=bs.all id:=by
      rw[List.size_toArray,List.length_map];exact NO bs
    rw[e];refine⟨.bl (bs.all id),H,?_,rfl,q⟩;exact I.kept fun b o eb=>hk b o (fun z=>by rw[List.mem_singleton.mp z] at eb;exact absurd (Heap.lt_size eb) (Nat.lt_irrefl _)) (Heap.get?_push_of_some _ eb)
theorem GH:∀{ys:List Str}{us:List Value},Vals (ys.map V.str) us->StrsAre us ys
  | [],_,r=>by cases r;exact .nil
  | y::ys,_,r=>by
    cases r with
    | cons r1 r2=>
      obtain⟨t,rfl⟩:=r1;exact .cons y t (GH r2)
def CK:V->Option Int->Option Int->Hp->VK->Prop:=fun x lo hi H Q=>∃z,x = .str z/\z.length<=sizeLine/\Q (.str (Txt.slice z lo hi)) H
theorem GI:uB X CK:=by
  intro pins s σ H x v vl vu lo hi sl Q I rx hs pl pu h;obtain⟨z,rfl,hz,q⟩:=h;obtain⟨t,rfl⟩:=rx;refine⟨"str",_,F.slot_str_getitem.lookup,typeIs_str _ _ _,?_⟩;have fin:∀(t':Tok)(k:Nat),EP X pins σ Q (.str (Txt.slice z lo hi) t') { s with toks:=k }:=fun t' k=>⟨.str _,H,I.tok k,⟨_,rfl⟩,q⟩
  obtain⟨o,ho,qF,hd⟩:=hs;cases pl<;>cases pu
  · exact wpAny_getItem_str_slice (l:=none) (u:=none) (st:=none) ⟨o,ho,qF,hd⟩ rfl (post_val_or_str ⟨Nat.le_trans (Txt.slice_le z _ _) hz,fin⟩)
  · exact wpAny_getItem_str_slice (l:=none) (u:=some (_,_)) (st:=none) ⟨o,ho,qF,hd⟩ rfl (post_val_or_str ⟨Nat.le_trans (Txt.slice_le z _ _) hz,fin⟩)
  · exact wpAny_getItem_str_slice (l:=some (_,_)) (u:=none) (st:=none) ⟨o,ho,qF,hd⟩ rfl (post_val_or_str ⟨Nat.le_trans (Txt.slice_le z _ _) hz,fin⟩)
  · exact wpAny_getItem_str_slice (l:=some (_,_)) (u:=some (_,_)) (st:=none) ⟨o,ho,qF,hd⟩ rfl (post_val_or_str ⟨Nat.le_trans (Txt.slice_le z _ _) hz,fin⟩)
end
theorem cY{Pl:List Value->Prop}(h:∀a,Pl [a]):∀us:List Value,us.length=1->Pl us
  | [a],_=>h a
theorem fV{Pl:List Value->Prop}(h:∀a b,Pl [a,b]):∀us:List Value,us.length=2->Pl us
  | [a,b],_=>h a b
theorem lW{Pl:List Value->Prop}(h:∀a b c,Pl [a,b,c]):∀us:List Value,us.length=3->Pl us
  | [a,b,c],_=>h a b c
theorem pT{Pl:List Value->Prop}(h:∀a b c d,Pl [a,b,c,d]):∀us:List Value,us.length=4->Pl us
  | [a,b,c,d],_=>h a b c d
theorem xj{Pl:List Value->Prop}(h:∀a b c d e,Pl [a,b,c,d,e]):∀us:List Value,us.length=5->Pl us
  | [a,b,c,d,e],_=>h a b c d e
def Df(K:PySem.W.Frag)(mg:Str->Option Value)(x:Str)(st:Stmt)(ps:List Str):Prop:=
  ∃(f:Addr)(fd:FuncData),wN K x x st f fd/\mg x=some (.ref f)/\∀us:List Value,us.length=ps.length->bindArgs fd ⟨us,[]⟩=pure (ps.zip us)
theorem aC{K:PySem.W.Frag}{h:Heap}{mg:Str->Option Value}(X:K.In h)(G:h.Ns mainGlobals mg){x:Str}{st:Stmt}{ps:List Str}{f:Addr}{oc kV dc pm cd ct:Value}{od an:Option Addr}{sl:Array (Option Value)}
    (hb:∀(kV doc pm:Value)(an:Option Addr)(aR ct:Value)(us:List Value),us.length=ps.length->bindArgs (PySem.W.fnOf x x (sE st) (nF st) (zq st) .none kV doc pm an aR ct) ⟨us,[]⟩=pure (ps.zip us))
    (a:PySem.W.nsIn K mainGlobals x=some (some (.ref f))) (l:K.lookup f=some ⟨oc,od,.func (PySem.W.fnOf x x (sE st) (nF st) (zq st) .none kV dc pm an cd ct),sl⟩) (c:PySem.W.codeIn K cd x=true) (k:PySem.W.keepIn K (.ref f)=true):Df K mg x st ps:=
  ⟨f,_,Gv l c k,PySem.W.mg_of X G a,fun us hl=>hb kV dc pm an cd ct us hl⟩
theorem gj{K:PySem.W.Frag}{h:Heap}{mg:Str->Option Value}(X:K.In h)(G:h.Ns mainGlobals mg){x:Str}{u:Value}(a:PySem.W.nsIn K mainGlobals x=some (some u)):mg x=some u:=PySem.W.mg_of X G a
theorem dF{K:PySem.W.Frag}{h:Heap}{mg:Str->Option Value}(X:K.In h)(G:h.Ns mainGlobals mg){x:Str}(a:PySem.W.nsIn K mainGlobals x=some none):mg x=none:=PySem.W.mg_none_of X G a
def cD(P:Program)(w:World)(K:PySem.W.Frag)(mg:Str->Option Value)(base:Heap)(x:Str)(ps:List Str)(k:Nat)(sp:Sp):Prop:=
  ∃(f:Addr)(fd:FuncData),mg x=some (.ref f)/\PySem.W.keepIn K (.ref f)=true/\(∃oc od iT,K.lookup f=some ⟨oc,od,.func fd,iT⟩)/\(∀us:List Value,us.length=ps.length->bindArgs fd ⟨us,[]⟩=pure (ps.zip us))/\ir P w K mg base qC k f fd ps sp
section
variable{P:Program}{w:World}{K:PySem.W.Frag}{mg:Str->Option Value}{base:Heap}
theorem Df.has{x:Str}{st:Stmt}{N ps:List Str}{k:Nat}{sp:Sp}(D:Df K mg x st ps)(S:ak N ps (zq st))(len:∀vs H Q E,sp vs H Q E->vs.length=ps.length)
    (iu:∀(f:Addr)(aR:Value)(A:Around)(outer:List Env)(s:Shared)(H:Hp)(vs:List V)(Q:VK)(E:XK),bE k (A.deeper (envOfC x (zq st) s.heap.objs.size f aR))->sp vs H Q E->
      ∃t,jA (iS qC P w K mg base N x (zq st) f aR A outer s H E).uu (nF st) t/\t { nx:=fun _ H'=>Q .bO H',rt:=Q } (start N vs) H):cD P w K mg base x ps (k+1) sp:=by
  obtain⟨f,fd,F,a,b⟩:=D;obtain⟨oc,od,kV,doc,pm,an,aR,ct,iT,e,lk,jX⟩:=id F.ex;exact⟨f,fd,a,F.kp,⟨oc,od,iT,lk⟩,b,F.ok S len (iu f)⟩
end
section
variable{X:Cx}{k:Nat}{ps:List Str}{sp:Sp}{x:Str}{p pos:Pos}{e:Expr}{es:List Expr}{t:TA}
theorem NQ(F:cD X.prog X.w X.K X.mg X.base x ps k sp)(hr:bE k X.A)(hg:Gl X x)(ha:PA X (e::es) t)(gf:(x == ("__debug__" : Str))=false:=by decide)
    (he:starEach (e::es) X.env=(false,eval e X.env)::starEach es X.env:=by rfl) (gB:(backTo pos (starEach es X.env)).any (·.1)=false:=by rfl):PE X (.Call (.Name x p) (e::es) [] pos) (Ak sp [] E0 t):=by
  obtain⟨f,fd,a,kp,lk,b,G⟩:=F;exact FJ G hr hg a kp (.all b) .nil Nr ha gf he gB
end
theorem nH{l:PySem.W.OpenLaw}{q:Program}{loose:List Str}{XP:(Str->Option Value)->Heap->Prop}{YP:World->Heap->Prop}{d:DefRec}{K:Params->PySem.W.Frag}{k:Nat}{x:Str}{sp:PySem.W.Frag->Sp}
    (hn:l.most=some 63) (sy:d.params.defaults = []) (hr:bE k callerA) (hY:∀(w:World)(h:Heap),YP w h->(K w.params).In h)
    (mQ:∀(K:PySem.W.Frag)(H:Hp)(a:Addr)(ns:List Int),ns.length<=63->ao K H a (ns.map V.int)->sp K [.ref a] H (fun v _=>v = .bl true) fun _ _ _=>False)
    (F:∀(w:World)(mg:Str->Option Value)(h:Heap),(K w.params).In h->h.Ns mainGlobals mg->∀base:Heap,(K w.params).In base->base.Ns mainGlobals mg->cD l.prog w (K w.params) mg base d.name [x] k (sp (K w.params))) :
    PySem.W.WalkO q loose XP YP l.row.toRowW d [] (fun f vs=>PySem.call f vs):=by
  refine L2.nE (n:=63) (k:=k) (x:=x) (CX:=qC) (sp:=sp) hn (by decide) sy hr hY (fun w mg fa h KX G uI=>?_) (fun K H a ns hl _ hS=>mQ K H a ns hl hS) fun _ _ _ _ z=>z
  obtain⟨f,fd,a,kp,⟨oc,od,iT,lk⟩,b,_⟩:=F w mg h KX G h KX G;have ef:fa=f:=by
    rw[uI] at a;cases a;rfl
  subst ef;refine⟨fd,fun s u=>.of_eq (b [u] rfl),fun base kb nb=>?_⟩;obtain⟨f',NR,a',xm,⟨NS,NT,CL,Az⟩,b',G'⟩:=F w mg h KX G base kb nb;have ef:f'=fa:=by
    rw[uI] at a';cases a';rfl
  subst ef;rw[lk] at Az;cases Az;exact G'
inductive bP(K:PySem.W.Frag)(H:Hp):Nat->V->V->Bool->Prop where
  | flat {n:Nat}{x y:V}(fx:jj x=true) (fy:jj y=true):bP K H n x y (k9 x y)
  | lst {n:Nat}{a b:Addr}{xs ys:List V}(e:Nat->Bool) (hx:ao K H a xs) (hy:ao K H b ys) (hl:xs.length=ys.length) (he:∀(i:Nat)x y,xs[i]? = some x->ys[i]? = some y->bP K H n x y (e i)) :
      bP K H (n+1) (.ref a) (.ref b) ((List.range xs.length).all e)
  | pU {n:Nat}{a b:Addr}{xs ys:List V}(hx:ao K H a xs) (hy:ao K H b ys) (hl:xs.length≠ys.length):bP K H (n+1) (.ref a) (.ref b) false
  | tup {n:Nat}{a b:Addr}{xs ys:List V}(e:Nat->Bool) (hx:aG K H a xs) (hy:aG K H b ys) (he:∀(i:Nat)x y,xs[i]? = some x->ys[i]? = some y->bP K H n x y (e i)) :
      bP K H (n+1) (.ref a) (.ref b) ((List.range (min xs.length ys.length)).all e&&xs.length == ys.length)
  | lt {n:Nat}{a b:Addr}{xs ys:List V}(hx:ao K H a xs) (hy:aG K H b ys):bP K H (n+1) (.ref a) (.ref b) false
  | tl {n:Nat}{a b:Addr}{xs ys:List V}(hx:aG K H a xs) (hy:ao K H b ys):bP K H (n+1) (.ref a) (.ref b) false
theorem xq{x:V}(h:jj x=true):k9 x x=true:=by
  cases x<;>first | rfl | (simp[jj] at h;done) | (simp[k9];done)
section
variable{X:Cx}{pins:List (Addr×Obj)}{σ:St}{H:Hp}{s:Shared}
theorem GJ(I:Inv X pins σ H s){a:Addr}{xs ys:List V}(hx:ao X.K H a xs)(hy:aG X.K H a ys):False:=by
  obtain⟨its,_,⟨o,n,e,c,_,_⟩,_⟩:=I.list hx;obtain⟨its',_,⟨o',e',c',_⟩,_⟩:=I.tuple hy;rw[e] at e';cases e';rw[c] at c';injection c' with c'
  exact absurd c' (by decide)
theorem bP.refl(I:Inv X pins σ H s){n:Nat}{x y:V}{b:Bool}(h:bP X.K H n x y b):x=y->b=true:=by
  induction h with
  | flat fx fy=>intro e;subst e;exact xq fx
  | lst e hx hy hl he ih=>
    intro q;cases q;have:=I.f9 hx hy;subst this;rw[List.all_eq_true];intro i hi;have hi:=List.mem_range.mp hi;exact ih i _ _ (List.getElem?_eq_getElem hi) (List.getElem?_eq_getElem hi) rfl
  | pU hx hy hl=>
    intro q;cases q;exact absurd (congrArg List.length (I.f9 hx hy)) hl
  | tup e hx hy he ih=>
    intro q;cases q;have:=I.lQ hx hy;subst this;rw[Nat.min_self,beq_self_eq_true,Bool.and_true,List.all_eq_true];intro i hi;have hi:=List.mem_range.mp hi;exact ih i _ _ (List.getElem?_eq_getElem hi) (List.getElem?_eq_getElem hi) rfl
  | lt hx hy=>intro q;cases q;exact(GJ I hx hy).elim
  | tl hx hy=>intro q;cases q;exact(GJ I hy hx).elim
theorem AA(A:Around):A.in1.units<=A.units+1:=by
  first
    | exact Nat.le_refl _
    | exact Nat.le_succ _
    | (unfold Around.in1;simp)
theorem bP.at(I:Inv X pins σ H s){n:Nat}{x y:V}{b:Bool}(h:bP X.K H n x y b):∀{u v:Value}{A:Around},RelV x u->RelV y v->A.units+n<cLine->
    SeqAt.EqAt A s u v b/\((∃p q,x = .ref p/\y = .ref q)->SeqAt.RcAt A s u v b):=by
  induction h with
  | flat fx fy=>
    intro u v A ru rv hu;refine⟨Gd ru rv fx fy,fun aE=>?_⟩;obtain⟨p,q,e,_⟩:=aE;subst e;cases fx
  | @lst n a b xs ys e hx hy hl he ih=>
    intro u v A ru rv hu;cases ru;cases rv;obtain⟨its,r1,p1,_⟩:=I.list hx;obtain⟨bV,r2,p2,_⟩:=I.list hy;have l1:=r1.length;have l2:=r2.length;have h1:=AA A;have rc:SeqAt.RcAt A s (.ref a) (.ref b) ((List.range xs.length).all e):=by
      have:=SeqAt.RcAt.lists (A:=A) (e:=e) p1.isList p2.isList (by simp;omega) (by omega) (fun j j1 j2=>by
        have g1:xs[j]? = some (xs[j]'(by simp at j1;omega)):=List.getElem?_eq_getElem _;have g2:ys[j]? = some (ys[j]'(by simp at j2;omega)):=List.getElem?_eq_getElem _;obtain⟨w1,q1,t1⟩:=r1.get g1;obtain⟨w2,q2,t2⟩:=r2.get g2;have:=(ih j _ _ g1 g2 t1 t2 (A:=A.in1) (by omega)).1;have z1:its.toArray[j]=w1:=by
          have:=List.getElem?_eq_some_iff.mp q1;obtain⟨_,z⟩:=this;simpa using z
        have z2:bV.toArray[j]=w2:=by
          have:=List.getElem?_eq_some_iff.mp q2;obtain⟨_,z⟩:=this;simpa using z
        rw[z1,z2];exact this)
      have es:its.toArray.size=xs.length:=by simp;omega
      rw[es] at this;exact this
    refine⟨?_,fun _=>rc⟩
    by_cases fB:a=b
    · subst fB;have:=(bP.lst e hx hy hl he).refl I rfl;rw[this];exact .same _
    · exact .of_refs fB rc
  | @pU n a b xs ys hx hy hl=>
    intro u v A ru rv hu;cases ru;cases rv;obtain⟨its,r1,p1,_⟩:=I.list hx;obtain⟨bV,r2,p2,_⟩:=I.list hy;have l1:=r1.length;have l2:=r2.length;have rc:SeqAt.RcAt A s (.ref a) (.ref b) false:=SeqAt.RcAt.lists_lengths p1.isList p2.isList (by simp;omega) (by omega);refine⟨?_,fun _=>rc⟩
    by_cases fB:a=b
    · subst fB;exact absurd (congrArg List.length (I.f9 hx hy)) hl
    · exact .of_refs fB rc
  | @tup n a b xs ys e hx hy he ih=>
    intro u v A ru rv hu;cases ru;cases rv;obtain⟨its,r1,p1,_⟩:=I.tuple hx;obtain⟨bV,r2,p2,_⟩:=I.tuple hy;have l1:=r1.length;have l2:=r2.length;have h1:=AA A;have rc:SeqAt.RcAt A s (.ref a) (.ref b) ((List.range (min xs.length ys.length)).all e&&xs.length == ys.length):=by
      have:=SeqAt.RcAt.tuples (A:=A) (e:=e) (show s.heap.IsTuple a its.toArray from p1) (show s.heap.IsTuple b bV.toArray from p2) (by omega) (fun j j1 j2=>by
        have g1:xs[j]? = some (xs[j]'(by simp at j1;omega)):=List.getElem?_eq_getElem _;have g2:ys[j]? = some (ys[j]'(by simp at j2;omega)):=List.getElem?_eq_getElem _;obtain⟨w1,q1,t1⟩:=r1.get g1;obtain⟨w2,q2,t2⟩:=r2.get g2;have:=(ih j _ _ g1 g2 t1 t2 (A:=A.in1) (by omega)).1;have z1:its.toArray[j]=w1:=by
          have:=List.getElem?_eq_some_iff.mp q1;obtain⟨_,z⟩:=this;simpa using z
        have z2:bV.toArray[j]=w2:=by
          have:=List.getElem?_eq_some_iff.mp q2;obtain⟨_,z⟩:=this;simpa using z
        rw[z1,z2];exact this)
      have es:its.toArray.size=xs.length:=by simp;omega
      have NU:bV.toArray.size=ys.length:=by simp;omega
      rw[es,NU] at this;exact this
    refine⟨?_,fun _=>rc⟩
    by_cases fB:a=b
    · subst fB;have:=(bP.tup e hx hy he).refl I rfl;rw[this];exact .same _
    · exact .of_refs fB rc
  | @lt n a b xs ys hx hy=>
    intro u v A ru rv hu;cases ru;cases rv;obtain⟨its,r1,p1,_⟩:=I.list hx;obtain⟨bV,r2,p2,_⟩:=I.tuple hy;exact⟨SeqAt.EqAt.list_tuple p1.isList (show s.heap.IsTuple b bV.toArray from p2) (by omega),fun _=>SeqAt.RcAt.list_tuple p1.isList (show s.heap.IsTuple b bV.toArray from p2) (by omega)⟩
  | @tl n a b xs ys hx hy=>
    intro u v A ru rv hu;cases ru;cases rv;obtain⟨its,r1,p1,_⟩:=I.tuple hx;obtain⟨bV,r2,p2,_⟩:=I.list hy;exact⟨SeqAt.EqAt.tuple_list (show s.heap.IsTuple a its.toArray from p1) p2.isList (by omega),fun _=>SeqAt.RcAt.tuple_list (show s.heap.IsTuple a its.toArray from p1) p2.isList (by omega)⟩
end
section
variable{X:Cx}{pins:List (Addr×Obj)}{σ:St}{H:Hp}{s:Shared}
theorem GK(I:Inv X pins σ H s){n:Nat}{xs ys:List V}{its bV:List Value}{e:Nat->Bool}(r1:Vals xs its)(r2:Vals ys bV)(he:∀(i:Nat)x y,xs[i]? = some x->ys[i]? = some y->bP X.K H n x y (e i)){A:Around}(hu:A.units+n<cLine) :
    ∀(j:Nat)(h1:j<its.toArray.size)(h2:j<bV.toArray.size),SeqAt.EqAt A s its.toArray[j] bV.toArray[j] (e j):=fun j j1 j2=>by
  have l1:=r1.length;have l2:=r2.length;have g1:xs[j]? = some (xs[j]'(by simp at j1;omega)):=List.getElem?_eq_getElem _;have g2:ys[j]? = some (ys[j]'(by simp at j2;omega)):=List.getElem?_eq_getElem _;obtain⟨w1,q1,t1⟩:=r1.get g1;obtain⟨w2,q2,t2⟩:=r2.get g2;have:=((he j _ _ g1 g2).at I t1 t2 (A:=A) hu).1;have z1:its.toArray[j]=w1:=by
    obtain⟨_,z⟩:=List.getElem?_eq_some_iff.mp q1;simpa using z
  have z2:bV.toArray[j]=w2:=by
    obtain⟨_,z⟩:=List.getElem?_eq_some_iff.mp q2;simpa using z
  rw[z1,z2];exact this
theorem bP.ne(I:Inv X pins σ H s){n:Nat}{p q:Addr}{b:Bool}(h:bP X.K H n (.ref p) (.ref q) b){A:Around}(hu:A.units+n<cLine):SeqAt.RcNeAt A s (.ref p) (.ref q) (!b):=by
  have h1:=AA A;cases h with
  | flat fx fy=>cases fx
  | lst e hx hy hl he=>
    obtain⟨its,r1,p1,_⟩:=I.list hx;obtain⟨bV,r2,p2,_⟩:=I.list hy;have l1:=r1.length;have l2:=r2.length;have:=SeqAt.RcNeAt.lists (A:=A) (e:=e) p1.isList p2.isList (by simp;omega) (by omega) (GK I r1 r2 he (A:=A.in1) (by omega));rw[List.size_toArray,←l1] at this;exact this
  | pU hx hy hl=>
    obtain⟨its,r1,p1,_⟩:=I.list hx;obtain⟨bV,r2,p2,_⟩:=I.list hy;have l1:=r1.length;have l2:=r2.length;exact SeqAt.RcNeAt.lists_lengths p1.isList p2.isList (by simp;omega) (by omega)
  | tup e hx hy he=>
    obtain⟨its,r1,p1,_⟩:=I.tuple hx;obtain⟨bV,r2,p2,_⟩:=I.tuple hy;have l1:=r1.length;have l2:=r2.length;have:=SeqAt.RcNeAt.tuples (A:=A) (e:=e) (show s.heap.IsTuple p its.toArray from p1) (show s.heap.IsTuple q bV.toArray from p2) (by omega) (GK I r1 r2 he (A:=A.in1) (by omega));rw[List.size_toArray,List.size_toArray,←l1,←l2] at this;exact this
  | lt hx hy=>
    obtain⟨its,r1,p1,_⟩:=I.list hx;obtain⟨bV,r2,p2,_⟩:=I.tuple hy;exact SeqAt.RcNeAt.list_tuple p1.isList (show s.heap.IsTuple q bV.toArray from p2) (by omega)
  | tl hx hy=>
    obtain⟨its,r1,p1,_⟩:=I.tuple hx;obtain⟨bV,r2,p2,_⟩:=I.list hy;exact SeqAt.RcNeAt.tuple_list (show s.heap.IsTuple p its.toArray from p1) p2.isList (by omega)
end
section
variable{X:Cx}
def xr(K:PySem.W.Frag):R2:=fun x y H Q=>∃p q b,x = .ref p/\y = .ref q/\bP K H 8 x y b/\Q (.bl b) H
theorem NV(hu:X.A.units+9<cLine):fk X (compareOp .Eq) (xr X.K):=by
  intro pins s σ H x y v u Q I rx ry h;obtain⟨p,q,b,rfl,rfl,d,hq⟩:=h;exact(d.at I rx ry (A:=X.A) (by omega)).2 ⟨p,q,rfl,rfl⟩ X.prog X.w _ _ ⟨.bl b,H,I,rfl,hq⟩
def xu(K:PySem.W.Frag):R2:=fun x y H Q=>∃p q b,x = .ref p/\y = .ref q/\bP K H 8 x y b/\Q (.bl (!b)) H
theorem NW(hu:X.A.units+9<cLine):fk X (compareOp .NotEq) (xu X.K):=by
  intro pins s σ H x y v u Q I rx ry h;obtain⟨p,q,b,rfl,rfl,d,hq⟩:=h;cases rx;cases ry;exact d.ne I (A:=X.A) (by omega) X.prog X.w _ _ ⟨.bl (!b),H,I,rfl,hq⟩
def xw(K:PySem.W.Frag)(neg:Bool):R2:=fun x y H Q=>∃(p:Addr)(xs:List V)(e:V->Bool),y = .ref p/\(ao K H p xs\/aG K H p xs)/\(∀z∈xs,bP K H 8 z x (e z))/\Q (.bl (if neg then !xs.any e else xs.any e)) H
theorem GL:∀{xs:List V}{us:List Value}{u:Value},Vals xs us->u∈us->∃x∈xs,RelV x u
  | _,_,_,.cons r t,h=>by
    rcases List.mem_cons.mp h with h | h
    · subst h;exact⟨_,List.mem_cons_self ..,r⟩
    · obtain⟨x,hx,q⟩:=GL t h;exact⟨x,List.mem_cons_of_mem _ hx,q⟩
def iW(e:V->Bool)(u:Value):Bool:=match vN u with
  | some x=>e x
  | none=>false
theorem GN{e:V->Bool}{x:V}{u:Value}(r:RelV x u):iW e u=e x:=by unfold iW;rw[r.abs]
theorem CM{e:V->Bool}:∀{xs:List V}{us:List Value},Vals xs us->us.any (iW e)=xs.any e
  | _,_,.nil=>rfl
  | _,_,.cons r t=>by rw[List.any_cons,List.any_cons,GN r,CM t]
theorem NX(hu:X.A.units+10<cLine):fk X (compareOp .NotIn) (xw X.K true):=by
  intro pins s σ H x y v u Q I rx ry h;obtain⟨p,xs,e,rfl,hq,hd,q⟩:=h;cases ry;have h1:=AA X.A;have items:∀{its:List Value},Vals xs its->∀z,z∈its.toArray->SeqAt.EqAt X.A.in1 s z v (iW e z):=fun{its}r z hz=>by
    obtain⟨x',BU,rz⟩:=GL r (by simpa using hz);rw[GN rz];exact((hd x' BU).at I rz rx (A:=X.A.in1) (by omega)).1
  rcases hq with hq | hq
  · obtain⟨its,r,pl,hz⟩:=I.list hq;refine SeqAt.notIn_listAt (iW e) pl.isList (items r) ⟨.bl _,H,I,rfl,?_⟩;rw[show its.toArray.any (iW e)=its.any (iW e) by simp,CM r];exact q
  · obtain⟨its,r,pl,hz⟩:=I.tuple hq;refine SeqAt.notIn_tupleAt (iW e) pl (items r) ⟨.bl _,H,I,rfl,?_⟩;rw[show its.toArray.any (iW e)=its.any (iW e) by simp,CM r];exact q
end
def Wd(v:V):Prop:=(∃x,v = .str x/\x.length<=100)\/∃i:Int,v = .int i/\i.natAbs<10 ^ 60
theorem Wd.flat{v:V}(h:Wd v):jj v=true:=by
  rcases h with ⟨x,rfl,_⟩ | ⟨i,rfl,_⟩<;>rfl
def xx(xs ys:List V):Bool:=(List.range (min xs.length ys.length)).all (fun i=>match xs[i]?,ys[i]? with | some x,some y=>k9 x y | _,_=>true)&&xs.length == ys.length
theorem bP.nI{K:PySem.W.Frag}{H:Hp}{n:Nat}{a b:Addr}{xs ys:List V}(hx:aG K H a xs)(hy:aG K H b ys)(fx:∀x∈xs,jj x=true)(fy:∀x∈ys,jj x=true):bP K H (n+1) (.ref a) (.ref b) (xx xs ys):=by
  refine bP.tup _ hx hy fun i x y e1 e2=>?_
  rw[e1,e2];exact bP.flat (fx x (List.mem_of_getElem? e1)) (fy y (List.mem_of_getElem? e2))
theorem CO{xs:List V}(h:∀x∈xs,jj x=true):xx xs xs=true:=by
  unfold xx;rw[beq_self_eq_true,Bool.and_true,List.all_eq_true];intro i hi;rw[Nat.min_self] at hi;have hi:=List.mem_range.mp hi;rw[List.getElem?_eq_getElem hi];exact xq (h _ (List.getElem_mem hi))
theorem bP.nJ{K:PySem.W.Frag}{H:Hp}{n:Nat}{a b:Addr}{xs:List V}(hx:ao K H a xs)(hy:ao K H b xs)(h:∀x∈xs,bP K H n x x true):bP K H (n+1) (.ref a) (.ref b) true:=by
  have:=bP.lst (n:=n) (fun _=>true) hx hy rfl fun i x y e1 e2=>by
    rw[e1] at e2;cases e2;exact h x (List.mem_of_getElem? e1)
  rw[show(List.range xs.length).all (fun _=>true)=true from List.all_eq_true.mpr fun _ _=>rfl] at this;exact this
theorem bP.xy{K:PySem.W.Frag}{H:Hp}{n:Nat}{a b:Addr}{xs ys:List V}(hx:aG K H a xs)(hy:aG K H b ys)(hl:xs.length=ys.length)(h:∀(i:Nat)x y,xs[i]? = some x->ys[i]? = some y->bP K H n x y true):bP K H (n+1) (.ref a) (.ref b) true:=by
  have:=bP.tup (n:=n) (fun _=>true) hx hy h;rw[show(List.range (min xs.length ys.length)).all (fun _=>true)=true from List.all_eq_true.mpr fun _ _=>rfl,hl,beq_self_eq_true] at this;exact this
theorem ah.tup{K:PySem.W.Frag}{H H':Hp}{a:Addr}{xs:List V}(e:ah H H')(h:aG K H a xs):aG K H' a xs:=by
  rcases h with (h | ⟨o,h⟩) | h
  · exact .inl (.inl (e _ _ h))
  · exact .inl (.inr ⟨o,e _ _ h⟩)
  · exact .inr h
theorem ah.new{H:Hp}{D:Addr}{o:HO}(h:H D=none):ah H (upd H D o):=fun b u e=>by rw[zr (zv e h)];exact e
theorem ah.upd{H H':Hp}{D:Addr}{o:HO}(e:ah H H')(h:H D=none):ah H (upd H' D o):=fun b u q=>by
  rw[zr (zv q h)];exact e b u q
theorem CP{J:It}{xs:List V}{P:Hp->Prop}{own:List Str}{ix:List Nat}{te:TE}{σ:St}{H1:Hp}{D:Addr}{Q:VK}(F:Fix J xs P)(f:V->V)(hD:H1 D=none)
    (hP:∀H',ah H1 H'->P H') (hz:xs.length<=sizeLine)
    (he:∀x∈xs,∀H'(Q':VK),ah H1 H'->(∀AB,ah H' AB->Q' (f x) AB)->te ((lV own ix σ).set 0 (some x)) H' Q')
    (hQ:∀H',ah H1 H'->H' D=some (.lst (xs.map f))->Q (.ref D) H'):wW own ix J (zx 0) gS te σ H1 D Q:=by
  refine⟨fun i m aq ys H'=>m=xs.length-i/\i<=xs.length/\(∀z,aq.set 0 z=(lV own ix σ).set 0 z)/\ys=(xs.take i).map f/\ah H1 H'/\H' D=some (.lst ys),
    ⟨xs.length,by simp,Nat.zero_le _,fun _=>rfl,by simp,ah.new hD,zb⟩,?_⟩
  rintro i m aq ys H' ⟨rfl,hi,CI,rfl,hs,AD⟩;refine⟨AD,?_⟩
  by_cases bC:i<xs.length
  · refine .inr ⟨F.go i _ (hP _ hs) bC,?_,fun x H2 y=>?_⟩
    · rw[List.length_map,List.length_take];omega
    · obtain⟨e,y'⟩:=F.mP i _ x H2 (hP _ hs) y;subst e;have hx:=y' bC;have hm:x∈xs:=List.mem_of_getElem? hx;unfold zx gS;dsimp only;rw[if_pos rfl,CI];refine he x hm _ _ hs fun AB qE=>⟨qE D _ AD,xs.length-(i+1),by omega,rfl,bC,fun z=>List.set_set ..,?_,(hs.trans qE).upd hD,zb⟩
      rw[List.take_add_one,hx,List.map_append];rfl
  · have e:i=xs.length:=by omega
    subst e;refine .inl ⟨F.stop _ _ (hP _ hs) (Nat.le_refl _),hQ _ hs ?_⟩;rw[List.take_length] at AD;exact AD
section
variable{X:Cx}(K:PySem.W.Frag)(h:X.K=K)
include h
theorem dS:r8 X (wA K):=h▸MN
theorem zo:r8 X (wB K):=h▸MO
theorem sF:uB X (wC K):=h▸MS
theorem AE:uB X (wu K):=h▸MJ
theorem NY:fk X (binaryOp .Add) (Ga K):=h▸MK
theorem GO:fk X (compareOp .In) (Ao K false):=h▸MT
theorem NZ:fk X (compareOp .NotIn) (Ao K true):=h▸MU
theorem sG(hu:X.A.units+9<cLine):fk X (compareOp .Eq) (xr K):=h▸NV hu
theorem zev(hu:X.A.units+9<cLine):fk X (compareOp .NotEq) (xu K):=h▸NW hu
theorem GP(hu:X.A.units+10<cLine):fk X (compareOp .NotIn) (xw K true):=h▸NX hu
theorem lA:ji X (.builtin "len") (fun xs H Q=>∃p ys,xs = [.ref p]/\(ao K H p ys\/aG K H p ys)/\Q (.int ys.length) H):=h▸MV
theorem xA:ji X (.type "list") (fun xs H Q=>∃p ys,xs = [.ref p]/\(ao K H p ys\/aG K H p ys)/\∀l,H l=none->Q (.ref l) (upd H l (.lst ys))):=h▸MW
theorem N1(hc:X.calm=true):ji X (.builtin "all") (fun xs H Q=>∃(a:Addr)(bs:List Bool),xs = [V.ref a]/\ao K H a (bs.map V.bl)/\Q (.bl (bs.all id)) H):=h▸NP hc
variable{o e:Expr}{es:List Expr}{to:TE}{t:TA}{name:Str}{apos aS:Pos}{T id:String}{r:V->List V->Hp->VK->Prop}
theorem N2(pa:PlainAttrs T)(slot:Slot T name id)(r9:typeOf (.builtin id)=pure (.type "method_descriptor"))(hm:wz X id r)(ho:PE X o to)
    (iw:attributeBase o name X.env (eval o X.env)=eval o X.env:=by rfl) (iy:(apos.endLine == aS.line)=true:=by rfl):PE X (.Call (.Attribute o name apos) [] [] aS) (wG K T r to):=h▸MX pa slot r9 hm ho iw iy
theorem jM(pa:PlainAttrs T)(slot:Slot T name id)(r9:typeOf (.builtin id)=pure (.type "method_descriptor"))(hm:wz X id r)(ho:PE X o to)(ha:PA X (e::es) t)
    (iw:attributeBase o name X.env (eval o X.env)=eval o X.env:=by rfl)
    (sd:((backTo aS (starEach (e::es) X.env)).all (fun x=>!x.1)&&(backToKw aS (keywordEach [] X.env)).all (fun x=>x.1.isSome)
      && decide ((e::es).length+([]:List Keyword).length+(if([]:List Keyword).isEmpty then 0 else 1)<30))=true:=by rfl)
    (iy:(apos.endLine == aS.line)=true:=by rfl) (hs:starEach (e::es) X.env=(false,eval e X.env)::starEach es X.env:=by rfl) (kF:(backTo aS (starEach es X.env)).any (·.1)=false:=by rfl) :
    PE X (.Call (.Attribute o name apos) (e::es) [] aS) (Gg K T r to t):=h▸MY pa slot r9 hm ho ha iw sd iy hs kF
end
section
variable{X:Cx}{tg:Expr}(K:PySem.W.Frag)(h:X.K=K)
include h
theorem eF{l:Expr}{tl:TE}(hl:PE X l tl):PI X tg l (Ft K tl):=h▸Ma hl
theorem mR{es:List Expr}{k:Nat}{t:qB}{n:Nat}{pos:Pos}(hc:X.calm=true)(h':vO X es t)
    (hn:(assignEach es X.env).length=n:=by rfl) (lS:(assignEach es X.env).findIdx? (·.1)=none:=by rfl):PG X (.Tuple es k pos) (vP K n t):=h▸LW hc h' hn lS
end
theorem gk{A:Around}{k:Nat}(hr:bE k A):A.units+9<cLine:=Nat.lt_of_le_of_lt (Nat.add_le_add_left (by decide:9<=64) _) hr.units
theorem xB{A:Around}{k:Nat}(hr:bE k A):A.units+10<cLine:=Nat.lt_of_le_of_lt (Nat.add_le_add_left (by decide:10<=64) _) hr.units
theorem qG{c:TT}{t u:TS}{D:Ends}{σ:St}{H:Hp}(b:Bool)(ht:∀Q':Bool->Hp->Prop,(∀H',ah H H'->Q' b H')->c σ H Q')(hs:∀H',ah H H'->if b=true then t D σ H' else u D σ H'):nA c t u D σ H:=ht _ hs
theorem iz{c:TT}{t u:TS}{D:Ends}{σ:St}{H:Hp}(b:Bool)(ht:∀Q':Bool->Hp->Prop,Q' b H->c σ H Q')(hs:if b=true then t D σ H else u D σ H):nA c t u D σ H:=ht _ hs
theorem bP.lX{K:PySem.W.Frag}{H:Hp}{n:Nat}{a b:Addr}{xs:List V}(hx:ao K H a xs)(hy:ao K H b []):bP K H (n+1) (.ref a) (.ref b) (decide (xs = [])):=by
  by_cases h:xs = []
  · subst h;exact bP.lst (fun _=>true) hx hy rfl fun i x y e _=>by simp at e
  · rw[decide_eq_false h];exact bP.pU hx hy fun z=>h (List.length_eq_zero_iff.mp z)
theorem lB{α:Type}{x:α}{xs:List α}:gC (x::xs) 0=some x:=by
  have:=iU (xs:=x::xs) (j:=0) (v:=x) rfl;exact this
theorem jC{n:Nat}(h:n<=1000):n<=sizeLine:=Nat.le_of_lt (fP h)
open Builtin Builtin.Str
section
variable{X:Cx}{pins:List (Addr×Obj)}{σ:St}{H:Hp}{s:Shared}{h':Heap}
theorem Inv.lC{t':Nat}{ch:List Addr}(I:Inv X pins σ H s)(k:∀b o,b ∉ ch->s.heap.get? b=some o->h'.get? b=some o)(hf:∀b∈ch,d8 X pins H b):Inv X pins σ H { s with heap:=h',toks:=t' }:=by
  have vG:∀b u,H b=some u->b ∉ ch:=fun b u e z=>by rw[(hf b z).1] at e;cases e
  refine I.step (g':=s.gens) (d':=s.drawn) (ch:=ch) (fun b hb=>⟨(hf b hb).2.2.2.1,(hf b hb).2.1,(hf b hb).2.2.2.2.1,(hf b hb).2.2.2.2.2⟩) (fun b o _ _ hc e _=>k b o hc e) (fun b o _ _ hc e _=>⟨o.slots,k b o hc e⟩) (fun _ _ _ _ n=>n)
    (fun b o hc e=>⟨o,k b o hc e⟩) (fun _ _ e=>e) (fun _ _ _ e=>e) (fun b ps e=>⟨#[],by rw[e];simp⟩) (fun m hm=>?_) (fun b u e=>?_) I.bare
  · obtain⟨o,es,ep,ho,r⟩:=hm;exact⟨o,es,ep,k _ o (fun z=>(hf _ z).2.1 rfl) ho,r⟩
  · refine(I.aI b u e).eO (fun c v hc q=>k c v ?_ q) (fun _ q=>q) fun _ _ q=>q
    rcases hc with z | z
    · rw[z];exact vG b u e
    · exact vG c _ z
end
open Sem (wp)
open Sem (wp)
def gm(h:Heap)(d:Addr)(es:Array DictEntry)(ep:Nat):Prop:=∃o,h.get? d=some o/\o.ExactDict/\o.data = .dict es ep
theorem gm.at{h h':Heap}{d:Addr}{es:Array DictEntry}{ep:Nat}(q:gm h d es ep)(k:∀o,h.get? d=some o->h'.get? d=some o):gm h' d es ep:=let ⟨o,ho,r⟩:=q;⟨o,k o ho,r⟩
theorem gm.typeIs{s:Shared}{d:Addr}{es:Array DictEntry}{ep:Nat}(q:gm s.heap d es ep):s.TypeIs (.ref d) "dict":=let ⟨o,ho,c,_⟩:=q;⟨o,ho,c.1⟩
section
variable{prog:Program}{w:World}{A:Around}{E:Value->Shared->Prop}{s:Shared}
theorem CQ{d:Addr}{es:Array DictEntry}{ep:Nat}{Q:Value->Shared->Prop}(hd:(d == sysModules)=false)(hm:gm s.heap d es ep)
    (hQ:Q (.ref s.heap.objs.size) { s with heap:=s.heap.push { cls:=.type "dict_keyiterator",data:=.fields #[.ref d,.int 0 0,.int es.size 0,.int ep 0] } }):wpAny (model prog w) A (pyIter (.ref d)) Q E s:=by
  obtain⟨o,ho,hc,xC⟩:=id hm;have T:s.TypeIs (.ref d) "dict":=hm.typeIs;refine wpAny_pyIter_slot T F.slot_dict_iter (wpAny_call_entry F.slot_dict_iter T F.entry_dict_iter ?_ (F.args_dict_iter_1 _));unfold Builtin.«dict.__iter__»;refine wpAny_bind ?_;unfold Builtin.Dict.dictSlotNone;refine wpAny_bind (wpAny_notOrdered_dict T ?_);show wpAny (model prog w) _ (pure (Value.ref d)) _ _ s;refine wpAny_pure ?_;show wpAny (model prog w) _ (Builtin.Dict.showsAll d >>= _) _ _ s;unfold Builtin.Dict.showsAll;rw[if_neg (by rw[hd];exact Bool.false_ne_true)];refine wpAny_bind (wpAny_pure (wpAny_bind (wpAny_dictEntries ho xC (wpAny_bind (wpAny_dictEpoch ho xC ?_)))));exact wpAny_bind (wpAny_newObj_type (wpAny_pure ⟨_,rfl,"dict_keyiterator",_,⟨_,Heap.get?_push_size _ rfl,rfl⟩,F.slot_dict_keyiterator_next.lookup,hQ⟩))
theorem GQ{it d:Addr}{i ep:Nat}{es:Array DictEntry}{e:DictEntry}{Q:Option Value->Shared->Prop}(hit:s.heap.IsKeyIter it d i es.size ep)(hm:gm s.heap d es ep)(hx:es[i]? = some e)
    (hQ:∀h1,h1.IsKeyIter it d (i+1) es.size ep->Heap.SameBut it s.heap h1->Q (some e.key) { s with heap:=h1 }):wpAny (model prog w) A (pyNext (.ref it)) Q E s:=by
  obtain⟨o,ho,hc,hd⟩:=id hit;obtain⟨od,xD,jX,xE⟩:=id hm;obtain⟨bC,he⟩:=Array.getElem?_eq_some_iff.mp hx;subst he;unfold pyNext;refine wpAny_bind (wpAny_attempt (wpAny_callSpecial?_slot (name:=Str.ofString "__next__") hit.typeIs F.slot_dict_keyiterator_next (wpAny_call_entry F.slot_dict_keyiterator_next hit.typeIs F.entry_dict_keyiterator_next ?_ (F.args_dict_keyiterator_next_1 _))));refine wpAny_bind (wpAny_pure (wpAny_bind (wpAny_bind ?_)));refine wpAny_bind (wpAny_typeNameOfWhole_keyiter hit.typeIs (wpAny_pure (wpAny_bind (wpAny_fieldsOf ho hd ?_))));have own:Builtin.Dict_items.ownsTuple "dict_keyiterator" = false:=by decide
  simp only[own,Bool.false_eq_true,if_false];show wpAny (model prog w) _ (if(Value.ref d == Value.none)=true then _ else _) _ _ s;rw[if_neg (show ¬((Value.ref d == Value.none)=true) from Bool.false_ne_true)];refine wpAny_bind (wpAny_pure (wpAny_bind (wpAny_dictEntries xD xE ?_)));rw[if_neg (by simp)];refine wpAny_bind (wpAny_pure (wpAny_bind (wpAny_dictEpoch xD xE ?_)));rw[if_neg (by simp)];refine wpAny_pure ?_;simp only[show ¬((i:Int)<0) from by omega,if_false,Int.toNat_natCast,Array.getElem?_eq_getElem bC];refine wpAny_bind (wpAny_bind (wpAny_typeNameOfWhole_keyiter hit.typeIs (wpAny_pure (wpAny_bind (wpAny_isOneOf_keyiter hit.typeIs ?_)))));show wpAny (model prog w) _ (setField (.ref it) 1 (rawInt ((i:Int)+1)) >>= _) _ _ s;refine wpAny_bind (wpAny_setField ho hd (by simp) ?_);have nx:(s.heap.update it (Obj.mapFields (·.setIfInBounds 1 (rawInt ((i:Int)+1))))).IsKeyIter it d (i+1) es.size ep:=
    ⟨_,Heap.get?_update_self _ ho (Obj.isFreed_of_fields (Obj.data_mapFields hd _)),(Obj.cls_mapFields ..).trans hc,by rw[Obj.data_mapFields hd];simp[rawInt]⟩
  refine wpAny_bind (wpAny_holding (wpAny_bind (wpAny_isOneOf_keyiter (s:={ s with heap:=s.heap.update it (Obj.mapFields (·.setIfInBounds 1 (rawInt ((i:Int)+1)))) }) nx.typeIs ?_)));show wpAny (model prog w) _ (pure es[i].key) _ _ _;exact wpAny_pure (wpAny_pure ⟨_,rfl,wpAny_pure (hQ _ nx (Heap.SameBut.update ..))⟩)
theorem GR{it d:Addr}{i ep:Nat}{es:Array DictEntry}{Q:Option Value->Shared->Prop}(hh:A.handled=none)(hit:s.heap.IsKeyIter it d i es.size ep)(hm:gm s.heap d es ep)(hx:es.size<=i)
    (hQ:∀h1,Heap.ExtBut it s.heap h1->Q none { s with heap:=h1 }):wpAny (model prog w) A (pyNext (.ref it)) Q E s:=by
  obtain⟨o,ho,hc,hd⟩:=id hit;obtain⟨od,xD,jX,xE⟩:=id hm;unfold pyNext;refine wpAny_bind (wpAny_attempt (wpAny_callSpecial?_slot (name:=Str.ofString "__next__") hit.typeIs F.slot_dict_keyiterator_next (wpAny_call_entry F.slot_dict_keyiterator_next hit.typeIs F.entry_dict_keyiterator_next ?_ (F.args_dict_keyiterator_next_1 _))));refine wpAny_bind (wpAny_pure (wpAny_bind (wpAny_bind ?_)));refine wpAny_bind (wpAny_typeNameOfWhole_keyiter hit.typeIs (wpAny_pure (wpAny_bind (wpAny_fieldsOf ho hd ?_))));have own:Builtin.Dict_items.ownsTuple "dict_keyiterator" = false:=by decide
  simp only[own,Bool.false_eq_true,if_false];show wpAny (model prog w) _ (if(Value.ref d == Value.none)=true then _ else _) _ _ s;rw[if_neg (show ¬((Value.ref d == Value.none)=true) from Bool.false_ne_true)];refine wpAny_bind (wpAny_pure (wpAny_bind (wpAny_dictEntries xD xE ?_)));rw[if_neg (by simp)];refine wpAny_bind (wpAny_pure (wpAny_bind (wpAny_dictEpoch xD xE ?_)));rw[if_neg (by simp)];refine wpAny_pure ?_;simp only[show ¬((i:Int)<0) from by omega,if_false,Int.toNat_natCast,Array.getElem?_eq_none hx];refine wpAny_bind (wpAny_bind (wpAny_typeNameOfWhole_keyiter hit.typeIs (wpAny_pure ?_)));show wpAny (model prog w) _ (setField (.ref it) 0 .none >>= _) _ _ s;refine wpAny_bind (wpAny_setField ho hd (by simp) ?_);show wpAny (model prog w) _ (newExc (.type "StopIteration") [] >>= _) _ _ _;refine wpAny_bind ?_;simp only[newExc,newTuple];refine wpAny_bind (wpAny_newObj_type (wpAny_bind (m:=firstArgMember _ _) (wpAny_of_eq (a:=Value.none) (by first | rfl | (simp only[firstArgMember];rfl)) (wpAny_newObj_type ?_ (by size_fits)))) (by size_fits));simp only[raiseNew];refine wpAny_bind (wpAny_handled ?_);rw[show A.in1.handled=none from hh];refine wpAny_bind (wpAny_pure (wpAny_throw ?_));exact wpAny_bind (wpAny_isInstance (T:="StopIteration") (b:=true) ⟨_,Heap.get?_push_size _ rfl,rfl⟩ isSubtype_stop (wpAny_pure (hQ _ (((Heap.SameBut.update ..).extBut.push _).push _))))
theorem GS(hh:A.handled=none)(I d:Addr)(iA:d≠I)(es:Array DictEntry)(ep:Nat) :
    Walks prog w A I [I,d] [I] es.size (fun i v=>∃e,es[i]? = some e/\v=e.key) (fun i h=>h.IsKeyIter I d i es.size ep/\gm h d es ep) where
  sub:=fun b hb=>by simp at hb;simp[hb]
  frame:=fun _ _ _ st hk=>⟨st.1.at fun o e=>hk I (by simp) o e,st.2.at fun o e=>hk d (by simp) o e⟩
  item:=fun i s Q E hi st hQ=>by
    have hx:es[i]? = some es[i]:=Array.getElem?_eq_getElem hi;exact GQ st.1 st.2 hx fun h1 j7 hs=>hQ _ h1 s.toks ⟨_,hx,rfl⟩ ⟨j7,st.2.at fun o e=>(hs.2 d iA).trans e⟩ fun b o hb e=>(hs.2 b (fun h=>hb (by simp[h]))).trans e
  done:=fun s Q E st hQ=>GR hh st.1 st.2 (Nat.le_refl _) fun h1 he=>hQ h1 s.toks fun b o hb e=>he b o (fun h=>hb (by simp[h])) e
  self:=fun _ _ _ _ st hQ=>wpAny_pyIter_keyiter st.1 hQ
theorem GU{d:Addr}{Q:Bool->Shared->Prop}(T:s.TypeIs (.ref d) "dict")(hq:Q false s):wpAny (model prog w) A (Builtin.List.listLengthHint (.ref d)) Q E s:=by
  unfold Builtin.List.listLengthHint;refine wpAny_bind (wpAny_specialOf T F.slot_dict_len.lookup ?_);have e:splitId "dict.__len__" = some ("dict","__len__"):=by kernel_rfl
  simp only[e];have sub:isSubtype (.type "dict") (.type "dict")=pure true:=by rw[isSubtype_type];kernel_rfl
  exact wpAny_bind (wpAny_isInstance (T:="dict") (b:=true) T sub (wpAny_bind (wpAny_typeOf T (wpAny_pure hq))))
theorem N3{d:Addr}{Q:Bool->Shared->Prop}(T:s.TypeIs (.ref d) "dict_values")(hq:Q false s):wpAny (model prog w) A (Builtin.List.listLengthHint (.ref d)) Q E s:=by
  unfold Builtin.List.listLengthHint;refine wpAny_bind (wpAny_specialOf T F.slot_dict_values_len.lookup ?_);have e:splitId "dict_values.__len__" = some ("dict_values","__len__"):=by kernel_rfl
  simp only[e];have sub:isSubtype (.type "dict_values") (.type "dict_values")=pure true:=by rw[isSubtype_type];kernel_rfl
  exact wpAny_bind (wpAny_isInstance (T:="dict_values") (b:=true) T sub (wpAny_bind (wpAny_typeOf T (wpAny_pure hq))))
end
section
variable{prog:Program}{w:World}{A:Around}{s:Shared}{R:Result->Shared->Prop}{I:Addr}{fp wr:List Addr}{n:Nat}{P:Nat->Value->Prop}{St:Nat->Heap->Prop}
theorem GV(W:Walks prog w A.in1 I fp wr n P St)(hn:n<=sizeLine)(S:Addr)(c:Nat)(lS:St 0 s.heap)(hS:S ∉ fp)(hl:s.heap.get? S=some { cls:=.type "list",data:=.seq #[] c })
    (hR:∀s1 acc c1,Moved (S::wr) (fun a b=>b=a) s s1->s1.heap.get? S=some { cls:=.type "list",dict:=none,data:=.seq acc c1,slots:=#[] }->ItemsOf P acc n->R (.ok (.ret .none)) s1) :
    wpAny (model prog w) A.in1 (rule "list.extend.makes-room" >>= fun _=>Builtin.List.listTouch (.ref S) >>= fun _=>again (.builtin "list.extend.loop" ⟨[.ref S,.ref I,.none],[]⟩))
      (fun fin s1=>match fin with | .done f=>R (.ok f) s1 | .again c1=>c1.quiet=true/\codeAny (model prog w) A c1 R s1) (fun e s1=>R (.error e) s1) s:=by
  refine wpAny_bind (wpAny_rule (wpAny_bind ?_));show wpAny (model prog w) A.in1 (updateSeq S (·.push .none) >>= fun _=>updateSeq S (·.pop)) _ _ _;refine wpAny_bind (wpAny_updateSeq hl rfl ?_);have l2:=Heap.get?_update_self (Obj.mapSeq (·.push Value.none)) hl rfl;refine wpAny_updateSeq (hz:=by seq_fits) l2 rfl ?_;have l3:=Heap.get?_update_self (Obj.mapSeq (·.pop)) l2 rfl;have iX:∀b o,b≠S->s.heap.get? b=some o->((s.heap.update S (Obj.mapSeq (·.push Value.none))).update S (Obj.mapSeq (·.pop))).get? b=some o:=fun b o hb e=>(Heap.get?_update_other _ _ (Ne.symm hb)).trans ((Heap.get?_update_other _ _ (Ne.symm hb)).trans e)
  refine wpAny_pure ⟨plainId_quiet F.plain_extend_loop _,codeAny_extend_loopS W.toS hn _ hS _ n 0 _ _ _ rfl (Nat.zero_le _) (W.toS.frame 0 s _ s.toks lS (Nat.le_refl _) fun b hb o e=>iX b o (fun h=>hS (h▸hb)) e) l3 (ItemsOf.nil P) fun s1 acc c1 hm h1 h2=>?_⟩;have m0:Moved (S::wr) (fun(a b:Array GenState)=>b=a) s { s with heap:=(s.heap.update S (Obj.mapSeq (·.push Value.none))).update S (Obj.mapSeq (·.pop)) }:=⟨fun b o hb e=>iX b o (fun h=>hb (by simp[h])) e,rfl,rfl,rfl,Nat.le_refl _⟩;exact hR s1 acc c1 (Moved.trans (fun _ _ _ h1 h2=>h2.trans h1) m0 hm) h1 h2
end
section
variable{prog:Program}{w:World}{A:Around}{s:Shared}{R:Result->Shared->Prop}
theorem GW{S:Addr}{x:Value}(hl:s.heap.get? S=some { cls:=.type "list",data:=.seq #[] })
    (h:wpAny (model prog w) A.in1 (Builtin.List.listExtendWith (.ref S) x .none) (fun fin s1=>match fin with | .done f=>R (.ok f) s1 | .again c1=>c1.quiet=true/\codeAny (model prog w) A c1 R s1) (fun e s1=>R (.error e) s1)
      { s with heap:=s.heap.update S (Obj.mapSeq (fun _=>(#[]:Array Value))) }) :
    wpAny (model prog w) A.in1 (Builtin.«list.__init__» ⟨[.ref S,x],[]⟩) (fun fin s1=>match fin with | .done f=>R (.ok f) s1 | .again c1=>c1.quiet=true/\codeAny (model prog w) A c1 R s1) (fun e s1=>R (.error e) s1) s:=by
  show wpAny (model prog w) A.in1 (do let N4 ←Builtin.List.listItems (.ref S);Builtin.List.listUpdate (.ref S) (fun _=>#[]);letGo N4.toList.reverse;Builtin.List.listExtendWith (.ref S) x .none) _ _ s;refine wpAny_bind ?_;unfold Builtin.List.listItems;refine wpAny_bind (wpAny_seqItems hl rfl (wpAny_pure ?_));show wpAny (model prog w) A.in1 (updateSeq S (fun _=>#[]) >>= fun _=>letGo (#[]:Array Value).toList.reverse >>= fun _=>Builtin.List.listExtendWith (.ref S) x .none) _ _ s;exact wpAny_bind (wpAny_updateSeq hl rfl (wpAny_bind (wpAny_letGo h)))
end
section
variable{prog:Program}{w:World}{A:Around}{E:Value->Shared->Prop}{s:Shared}
theorem N5{d:Addr}{es:Array DictEntry}{ep:Nat}{Q:Value->Shared->Prop}(hh:A.handled=none)(hd:(d == sysModules)=false)(hm:gm s.heap d es ep)(hn:es.size<=sizeLine)
    (hQ:∀h1 acc c tk,(∀b o,s.heap.get? b=some o->h1.get? b=some o)->h1.get? s.heap.objs.size=some { cls:=.type "list",dict:=none,data:=.seq acc c,slots:=#[] }->ItemsOf (fun i v=>∃e,es[i]? = some e/\v=e.key) acc es.size->
      Q (.ref s.heap.objs.size) { s with heap:=h1,toks:=tk }):wpAny (model prog w) A (call (.type "list") [.ref d]) Q E s:=by
  have dl:d<s.heap.objs.size:=by obtain⟨o,ho,_⟩:=hm;exact Heap.lt_size ho
  refine callType_codes (Q₁:=fun obj s1=>obj = .ref s.heap.objs.size/\s1 = { s with heap:=s.heap.push { cls:=.type "list",data:=.seq #[] } }) F.called_list (F.typeCall_list_1 _) F.entry_list_init (code_list_new _ ⟨rfl,rfl⟩) fun obj s1 h1=>?_
  obtain⟨rfl,rfl⟩:=h1;have hS:(s.heap.push { cls:=.type "list",data:=.seq #[] }).get? s.heap.objs.size=some { cls:=.type "list",data:=.seq #[] }:=Heap.get?_push_size _ rfl;refine⟨⟨_,hS,rfl⟩,F.args_list_init_2 _ _,GW hS ?_⟩;have l2:=Heap.get?_update_self (Obj.mapSeq (fun _=>(#[]:Array Value))) hS rfl;have old:∀b o,s.heap.get? b=some o->((s.heap.push { cls:=.type "list",data:=.seq #[] }).update s.heap.objs.size (Obj.mapSeq (fun _=>(#[]:Array Value)))).get? b=some o:=fun b o e=>
    (Heap.get?_update_other _ _ (fun z=>Nat.lt_irrefl _ (z▸Heap.lt_size e))).trans (Heap.get?_push_of_some _ e)
  have oS:=hm.at (h':=(s.heap.push { cls:=.type "list",data:=.seq #[] }).update s.heap.objs.size (Obj.mapSeq (fun _=>(#[]:Array Value)))) fun o e=>old d o e
  have zu:((s.heap.push { cls:=.type "list",data:=.seq #[] }).update s.heap.objs.size (Obj.mapSeq (fun _=>(#[]:Array Value)))).objs.size=s.heap.objs.size+1:=by rw[Heap.size_update,Heap.size_push]
  generalize (s.heap.push { cls:=.type "list",data:=.seq #[] }).update s.heap.objs.size (Obj.mapSeq (fun _=>(#[]:Array Value)))=g at l2 old oS zu;have T:({ s with heap:=g }:Shared).TypeIs (.ref d) "dict":=oS.typeIs;unfold Builtin.List.listExtendWith;refine wpAny_bind (wpAny_typeOf T ?_);have sr:Builtin.List.listSameRef (.ref s.heap.objs.size) (.ref d)=false:=by
    have:s.heap.objs.size≠d:=Ne.symm (Nat.ne_of_lt dl);simp[Builtin.List.listSameRef,this]
  have t1:(Value.type "dict" == Value.type "list")=false:=by decide
  have t2:(Value.type "dict" == Value.type "tuple")=false:=by decide
  simp only[sr,t1,t2,Bool.or_false,Bool.false_eq_true,if_false];refine wpAny_bind (CQ (s:={ s with heap:=g }) hd oS ?_);have oU:=oS.at (h':=g.push { cls:=.type "dict_keyiterator",data:=.fields #[.ref d,.int 0 0,.int es.size 0,.int ep 0] }) fun o e=>Heap.get?_push_of_some _ e
  refine wpAny_bind (wpAny_holding (GU (s:={ s with heap:=g.push { cls:=.type "dict_keyiterator",data:=.fields #[.ref d,.int 0 0,.int es.size 0,.int ep 0] } }) oU.typeIs ?_));have dI:d≠g.objs.size:=by rw[zu];exact Nat.ne_of_lt (Nat.lt_succ_of_lt dl)
  have SI:s.heap.objs.size ∉ [g.objs.size,d]:=by
    rw[zu];intro z;simp only[List.mem_cons,List.not_mem_nil,or_false] at z;rcases z with z | z
    · exact absurd z (Nat.ne_of_lt (Nat.lt_succ_self _))
    · exact absurd z (Ne.symm (Nat.ne_of_lt dl))
  refine GV (A:=A.in1) (s:={ s with heap:=g.push { cls:=.type "dict_keyiterator",data:=.fields #[.ref d,.int 0 0,.int es.size 0,.int ep 0] } }) (GS (A:=A.in1.in1) hh g.objs.size d dI es ep) hn _ _ ⟨⟨_,Heap.get?_push_size _ rfl,rfl,rfl⟩,oU⟩ SI (Heap.get?_push_of_some _ l2) fun s2 acc c xF h2 h3=>?_
  obtain⟨hp,ge,dr,tk,os⟩:=s2;obtain⟨m1,m2,m3,m4,m5⟩:=xF;obtain rfl:ge=s.gens:=m2;obtain rfl:dr=s.drawn:=m3;obtain rfl:os=s.os:=m4;refine⟨rfl,hQ hp acc c tk (fun b o e=>m1 b o ?_ (Heap.get?_push_of_some _ (old b o e))) h2 h3⟩;intro z;have bl:=Heap.lt_size e;simp only[List.mem_cons,List.not_mem_nil,or_false] at z;rcases z with z | z
  · exact absurd bl (by rw[z];exact Nat.lt_irrefl _)
  · have z:b=g.objs.size:=z;rw[z,zu] at bl;exact absurd bl (Nat.not_lt_of_le (Nat.le_succ _))
theorem N6{κ:Type}[DecidableEq κ]{knd:KeyKind prog w κ}{d v:Addr}{kvs:List (κ×Value)}{Q:Value->Shared->Prop}(hh:A.handled=none)(hv:s.heap.IsValuesView v d)(hm:s.heap.DictOf knd d kvs)(hn:kvs.length<=sizeLine)
    (hQ:∀h1 acc c tk,(∀b o,s.heap.get? b=some o->h1.get? b=some o)->h1.get? s.heap.objs.size=some { cls:=.type "list",dict:=none,data:=.seq acc c,slots:=#[] }->ItemsOf (fun i v=>∃k,kvs[i]? = some (k,v)) acc kvs.length->
      Q (.ref s.heap.objs.size) { s with heap:=h1,toks:=tk }):wpAny (model prog w) A (call (.type "list") [.ref v]) Q E s:=by
  obtain⟨ep,hm⟩:=hm.dictAt;have dl:d<s.heap.objs.size:=hm.lt_size;have vl:v<s.heap.objs.size:=by obtain⟨o,ho,_⟩:=hv;exact Heap.lt_size ho
  refine callType_codes (Q₁:=fun obj s1=>obj = .ref s.heap.objs.size/\s1 = { s with heap:=s.heap.push { cls:=.type "list",data:=.seq #[] } }) F.called_list (F.typeCall_list_1 _) F.entry_list_init (code_list_new _ ⟨rfl,rfl⟩) fun obj s1 h1=>?_
  obtain⟨rfl,rfl⟩:=h1;have hS:(s.heap.push { cls:=.type "list",data:=.seq #[] }).get? s.heap.objs.size=some { cls:=.type "list",data:=.seq #[] }:=Heap.get?_push_size _ rfl;refine⟨⟨_,hS,rfl⟩,F.args_list_init_2 _ _,GW hS ?_⟩;have l2:=Heap.get?_update_self (Obj.mapSeq (fun _=>(#[]:Array Value))) hS rfl;have old:∀b o,s.heap.get? b=some o->((s.heap.push { cls:=.type "list",data:=.seq #[] }).update s.heap.objs.size (Obj.mapSeq (fun _=>(#[]:Array Value)))).get? b=some o:=fun b o e=>
    (Heap.get?_update_other _ _ (fun z=>Nat.lt_irrefl _ (z▸Heap.lt_size e))).trans (Heap.get?_push_of_some _ e)
  have oS:=hm.keep old;have AF:((s.heap.push { cls:=.type "list",data:=.seq #[] }).update s.heap.objs.size (Obj.mapSeq (fun _=>(#[]:Array Value)))).IsValuesView v d:=let ⟨o,ho,r⟩:=hv;⟨o,old v o ho,r⟩
  have zu:((s.heap.push { cls:=.type "list",data:=.seq #[] }).update s.heap.objs.size (Obj.mapSeq (fun _=>(#[]:Array Value)))).objs.size=s.heap.objs.size+1:=by rw[Heap.size_update,Heap.size_push]
  generalize (s.heap.push { cls:=.type "list",data:=.seq #[] }).update s.heap.objs.size (Obj.mapSeq (fun _=>(#[]:Array Value)))=g at l2 old oS AF zu;have T:({ s with heap:=g }:Shared).TypeIs (.ref v) "dict_values":=AF.typeIs;unfold Builtin.List.listExtendWith;refine wpAny_bind (wpAny_typeOf T ?_);have sr:Builtin.List.listSameRef (.ref s.heap.objs.size) (.ref v)=false:=by
    have:s.heap.objs.size≠v:=Ne.symm (Nat.ne_of_lt vl);simp[Builtin.List.listSameRef,this]
  have t1:(Value.type "dict_values" == Value.type "list")=false:=by decide
  have t2:(Value.type "dict_values" == Value.type "tuple")=false:=by decide
  simp only[sr,t1,t2,Bool.or_false,Bool.false_eq_true,if_false];refine wpAny_bind (wpAny_pyIter_values (s:={ s with heap:=g }) AF oS ?_);have oU:=oS.push { cls:=.type "dict_valueiterator",data:=.fields #[.ref d,.int 0 0,.int kvs.length 0,.int ep 0] };have N7:(g.push { cls:=.type "dict_valueiterator",data:=.fields #[.ref d,.int 0 0,.int kvs.length 0,.int ep 0] }).IsValuesView v d:=let ⟨o,ho,r⟩:=AF;⟨o,Heap.get?_push_of_some _ ho,r⟩
  refine wpAny_bind (wpAny_holding (N3 (s:={ s with heap:=g.push { cls:=.type "dict_valueiterator",data:=.fields #[.ref d,.int 0 0,.int kvs.length 0,.int ep 0] } }) N7.typeIs ?_));have dI:d≠g.objs.size:=by rw[zu];exact Nat.ne_of_lt (Nat.lt_succ_of_lt dl)
  have SI:s.heap.objs.size ∉ [g.objs.size,d]:=by
    rw[zu];intro z;simp only[List.mem_cons,List.not_mem_nil,or_false] at z;rcases z with z | z
    · exact absurd z (Nat.ne_of_lt (Nat.lt_succ_self _))
    · exact absurd z (Ne.symm (Nat.ne_of_lt dl))
  refine GV (A:=A.in1) (s:={ s with heap:=g.push { cls:=.type "dict_valueiterator",data:=.fields #[.ref d,.int 0 0,.int kvs.length 0,.int ep 0] } }) (Walks.dictValues (A:=A.in1.in1) hh g.objs.size d dI kvs ep) hn _ _ ⟨⟨_,Heap.get?_push_size _ rfl,rfl,rfl⟩,oU⟩ SI (Heap.get?_push_of_some _ l2) fun s2 acc c xF h2 h3=>?_
  obtain⟨hp,ge,dr,tk,os⟩:=s2;obtain⟨m1,m2,m3,m4,m5⟩:=xF;obtain rfl:ge=s.gens:=m2;obtain rfl:dr=s.drawn:=m3;obtain rfl:os=s.os:=m4;refine⟨rfl,hQ hp acc c tk (fun b o e=>m1 b o ?_ (Heap.get?_push_of_some _ (old b o e))) h2 h3⟩;intro z;have bl:=Heap.lt_size e;simp only[List.mem_cons,List.not_mem_nil,or_false] at z;rcases z with z | z
  · exact absurd bl (by rw[z];exact Nat.lt_irrefl _)
  · have z:b=g.objs.size:=z;rw[z,zu] at bl;exact absurd bl (Nat.not_lt_of_le (Nat.le_succ _))
end
theorem Vals.of_get:∀{xs:List V}{us:List Value},xs.length=us.length->(∀(i:Nat)x u,xs[i]? = some x->us[i]? = some u->RelV x u)->Vals xs us
  | [],[],_,_=>.nil
  | x::xs,u::us,hl,h=>.cons (h 0 x u rfl rfl) (Vals.of_get (by simpa using hl) fun i y v e1 e2=>h (i+1) y v (by simpa using e1) (by simpa using e2))
  | [],_::_,hl,_=>by simp at hl
  | _::_,[],hl,_=>by simp at hl
theorem GX{k:Key}{v:Value}(h:rA k v=true):RelV (kV k) v:=by
  rcases oG h with ⟨i,t,rfl,rfl⟩ | ⟨x,t,rfl,rfl⟩
  · exact⟨t,rfl⟩
  · exact⟨t,rfl⟩
theorem Paired.get'{α β:Type}{F:α->β->Prop}:∀{l₁:List α}{l₂:List β}{i:Nat}{a:α},Paired F l₁ l₂->l₁[i]? = some a->∃b,l₂[i]? = some b/\F a b
  | _,_,_,_,.nil,e=>by simp at e
  | _,_,0,_,.cons r _,e=>by simp at e;subst e;exact⟨_,rfl,r⟩
  | _,_,i+1,a,.cons _ t,e=>by
    obtain⟨u,h1,h2⟩:=Paired.get' (i:=i) (a:=a) t (by simpa using e);exact⟨u,by simpa using h1,h2⟩
section
variable{X:Cx}
theorem GY{pins:List (Addr×Obj)}{σ:St}{H:Hp}{s:Shared}{Q:VK}{ys:List V}{h1:Heap}{acc:Array Value}{c tk:Nat}(I:Inv X pins σ H s)(kp:∀b o,s.heap.get? b=some o->h1.get? b=some o)
    (e:h1.get? s.heap.objs.size=some { cls:=.type "list",dict:=none,data:=.seq acc c,slots:=#[] }) (r:Vals ys acc.toList) (hz:ys.length<=sizeLine) (q:∀l,H l=none->Q (.ref l) (upd H l (.lst ys))):EP X pins σ Q (.ref s.heap.objs.size) { s with heap:=h1,toks:=tk }:=
  ⟨.ref s.heap.objs.size,_,I.laid (t':=tk) (o:=.lst ys) kp (Nat.le_refl _) ⟨hz,acc.toList,c,r,by simpa using e⟩,rfl,q _ (I.aI.fresh (Nat.le_refl _))⟩
theorem CS(hc:X.calm=true):ji X (.type "list") (fun xs H Q=>∃p kvs,xs = [V.ref p]/\H p=some (.dK kvs)/\∀l,H l=none->Q (.ref l) (upd H l (.lst (kvs.map fun kv=>kV kv.1)))):=by
  intro pins s σ H xs us Q I r h;obtain⟨p,kvs,rfl,hp,q⟩:=h;obtain⟨u,rfl,ru⟩:=j0 r;cases ru;obtain⟨z,hd,vs,rel,o,es,ep,e,ex,dt,kk,pr,nd⟩:=I.aI p _ hp;have l1:kvs.length=vs.length:=Paired.length rel;have l2:es.size=vs.length:=by rw[←pr.length];simp
  refine N5 (I.ok.hd hc) hd ⟨o,e,ex,dt⟩ (by omega) fun h1 acc c tk kp el it=>GY I kp el (Vals.of_get ?_ fun i x v ex ev=>?_) (by rw[List.length_map];exact z) q
  · have:=it.1;simp only[List.length_map,Array.length_toList];omega
  · rw[List.getElem?_map] at ex;cases ek:kvs[i]? with
    | none=>rw[ek] at ex;cases ex
    | some kv=>
      rw[ek] at ex;cases ex;obtain⟨en,AG,rfl⟩:=it.2 i v (by simpa using ev);obtain⟨w',hw,fj⟩:=Paired.get' rel ek;have:=(pr.get? (e:=en) (k:=w'.1) (v:=w'.2) (by simpa using AG) (by rw[hw])).1;have e1:kv.1=w'.1:=fj.1;show RelV (kV kv.1) en.key;rw[e1];exact GX this
def AH(p d:Addr):HO:=.ext fun h=>h.IsValuesView p d
theorem N8:wz X "dict.values" (fun x xs H Q=>∃d kvs,x=V.ref d/\xs = []/\H d=some (.dK kvs)/\∀p,H p=none->Q (.ref p) (upd H p (AH p d))):=by
  intro pins s σ H x xs v us Q I rx rs h;obtain⟨d,kvs,rfl,rfl,hd,q⟩:=h;cases rx;cases rs;obtain⟨z,hs,vs,rel,dd⟩:=I.aI d _ hd;refine call_meetsIn PySem.F.slot_dict_values dd.typeIs PySem.F.entry_dict_values (PySem.F.args_dict_values_1 _) (meets_dict_values (jV X.prog X.w) d hs) ⟨⟨vs,dd⟩,?_⟩;refine⟨.ref s.heap.objs.size,_,I.laid (t':=s.toks) (a:=s.heap.objs.size) (o:=AH s.heap.objs.size d) (fun b u e=>Heap.get?_push_of_some _ e) (Nat.le_refl _) ⟨⟨_,Heap.get?_push_size _ rfl,rfl,rfl⟩,⟨_,Heap.get?_push_size _ rfl⟩,fun h1 h2 ⟨o,ho,r⟩ k=>⟨o,k o ho,r⟩⟩,rfl,q _ (I.aI.fresh (Nat.le_refl _))⟩
theorem N9(hc:X.calm=true):ji X (.type "list") (fun xs H Q=>∃p d kvs,xs = [V.ref p]/\H p=some (AH p d)/\H d=some (.dK kvs)/\∀l,H l=none->Q (.ref l) (upd H l (.lst (kvs.map (·.2))))):=by
  intro pins s σ H xs us Q I r h;obtain⟨p,d,kvs,rfl,hp,hd,q⟩:=h;obtain⟨u,rfl,ru⟩:=j0 r;cases ru;obtain⟨z,hs,vs,rel,dd⟩:=I.aI d _ hd;obtain⟨hv,_,_⟩:=I.aI p _ hp;have l1:kvs.length=vs.length:=Paired.length rel;refine N6 (I.ok.hd hc) hv dd (by omega) fun h1 acc c tk kp el it=>GY I kp el (Vals.of_get ?_ fun i x v ex ev=>?_) (by rw[List.length_map];exact z) q
  · have:=it.1;simp only[List.length_map,Array.length_toList];omega
  · rw[List.getElem?_map] at ex;cases ek:kvs[i]? with
    | none=>rw[ek] at ex;cases ex
    | some kv=>
      rw[ek] at ex;cases ex;obtain⟨k,hk⟩:=it.2 i v (by simpa using ev);obtain⟨w',hw,fj⟩:=Paired.get' rel ek;rw[hk] at hw;cases hw;exact fj.2
end
def xG(K:PySem.W.Frag)(C:Addr)(qual m:Str)(st:Stmt)(ps:List Str):Prop:=
  ∃(f:Addr)(fd:FuncData),wN K m qual st f fd/\Meth K C m f/\∀us:List Value,us.length=ps.length->bindArgs fd ⟨us,[]⟩=pure (ps.zip us)
theorem nK{K:PySem.W.Frag}{C:Addr}{qual m:Str}{st:Stmt}{ps:List Str}{f:Addr}{oc kV dc pm cd ct:Value}{od an:Option Addr}{sl:Array (Option Value)}
    (hb:∀(kV doc pm:Value)(an:Option Addr)(aR ct:Value)(us:List Value),us.length=ps.length->bindArgs (PySem.W.fnOf m qual (sE st) (nF st) (zq st) .none kV doc pm an aR ct) ⟨us,[]⟩=pure (ps.zip us))
    (a:PySem.W.findIn K (.ref C) m=some (some (.ref f))) (l:K.lookup f=some ⟨oc,od,.func (PySem.W.fnOf m qual (sE st) (nF st) (zq st) .none kV dc pm an cd ct),sl⟩) (c:PySem.W.codeIn K cd qual=true) (k:PySem.W.keepIn K (.ref f)=true)
    (i:PySem.W.isFn K (.ref f)=true):xG K C qual m st ps:=⟨f,_,Gv l c k,⟨a,i,k⟩,fun us hl=>hb kV dc pm an cd ct us hl⟩
def pV(P:Program)(w:World)(K:PySem.W.Frag)(mg:Str->Option Value)(base:Heap)(C:Addr)(m:Str)(ps:List Str)(k:Nat)(sp:Sp):Prop:=
  ∃(f:Addr)(fd:FuncData),Meth K C m f/\(∀us:List Value,us.length=ps.length->bindArgs fd ⟨us,[]⟩=pure (ps.zip us))/\ir P w K mg base qC k f fd ps sp
section
variable{P:Program}{w:World}{K:PySem.W.Frag}{mg:Str->Option Value}{base:Heap}
theorem xG.has{C:Addr}{qual m:Str}{st:Stmt}{N ps:List Str}{k:Nat}{sp:Sp}(D:xG K C qual m st ps)(S:ak N ps (zq st))(len:∀vs H Q E,sp vs H Q E->vs.length=ps.length)
    (iu:∀(f:Addr)(aR:Value)(A:Around)(outer:List Env)(s:Shared)(H:Hp)(vs:List V)(Q:VK)(E:XK),bE k (A.deeper (envOfC qual (zq st) s.heap.objs.size f aR))->sp vs H Q E->
      ∃t,jA (iS qC P w K mg base N qual (zq st) f aR A outer s H E).uu (nF st) t/\t { nx:=fun _ H'=>Q .bO H',rt:=Q } (start N vs) H):pV P w K mg base C m ps (k+1) sp:=by
  obtain⟨f,fd,F,a,b⟩:=D;obtain⟨oc,od,kV,doc,pm,an,aR,ct,iT,e,lk,jX⟩:=id F.ex;exact⟨f,fd,a,b,F.ok S len (iu f)⟩
end
section
variable{X:Cx}(K:PySem.W.Frag)(h:X.K=K)
include h
end
def CT(n i:Nat)(p:Prop):Prop:=∃m',m'<n-i/\m'=n-(i+1)/\i+1<=n/\p
theorem jD{n i:Nat}{p:Prop}(h:i<n)(q:p):CT n i p:=⟨n-(i+1),by omega,rfl,h,q⟩
theorem eT{α:Type}{xs:List α}{i:Nat}{x:α}(h:xs[i]? = some x):i<xs.length:=(List.getElem?_eq_some_iff.mp h).1
theorem mS{J:It}{xs:List V}{P:Hp->Prop}{own:List Str}{ix:List Nat}{g:TG}{tc:TT}{te:TE}{σ:St}{H1:Hp}{D:Addr}{Q:VK}(F:Fix J xs P)
    (R:Nat->St->List V->Hp->Prop) (h0:R 0 (lV own ix σ) [] (upd H1 D (.lst [])))
    (hP:∀i aq ys H',R i aq ys H'->P H'/\H' D=some (.lst ys)/\ys.length<=i) (hz:xs.length<=sizeLine)
    (hs:∀i x aq ys H',xs[i]? = some x->R i aq ys H'->g x aq H' fun iQ H3=>tc iQ H3 fun b H4=>
      if b=true then te iQ H4 fun y H5=>H5 D=some (.lst ys)/\CT xs.length i (R (i+1) iQ (ys++[y]) (upd H5 D (.lst (ys++[y])))) else H4 D=some (.lst ys)/\CT xs.length i (R (i+1) iQ ys H4))
    (hQ:∀aq ys H',R xs.length aq ys H'->Q (.ref D) H'):wW own ix J g tc te σ H1 D Q:=by
  refine⟨fun i m aq ys H'=>m=xs.length-i/\i<=xs.length/\R i aq ys H',⟨xs.length,by simp,Nat.zero_le _,h0⟩,?_⟩;rintro i m aq ys H' ⟨rfl,hi,r⟩;obtain⟨p1,p2,p3⟩:=hP i aq ys H' r;refine⟨p2,?_⟩
  by_cases bC:i<xs.length
  · refine .inr ⟨F.go i _ p1 bC,by omega,fun x H2 y=>?_⟩;obtain⟨e,y'⟩:=F.mP i _ x H2 p1 y;subst e;exact hs i x aq ys _ (y' bC) r
  · have e:i=xs.length:=by omega
    subst e;exact .inl ⟨F.stop _ _ p1 (Nat.le_refl _),hQ aq ys H' r⟩
end L2
namespace Dm
open PySem PySem.NumText
abbrev co(x:Str):List Nat:=x.cps.toList
theorem GZ(x:Str):(co x).length=x.length:=by simp[Str.length]
theorem CU{x y:Str}(h:co x=co y):x=y:=by
  cases x with
  | mk a=>cases y with
    | mk b=>
      have:a=b:=by
        have h:a.toList=b.toList:=h;exact Array.toList_inj.mp h
      rw[this]
theorem G0(l:List Nat):co ⟨l.toArray⟩=l:=by simp[co]
def dG(n d:Nat):Option Int->Nat
  | none=>d
  | some i=>if i<0 then(max (i+(n:Int)) 0).toNat else min i.toNat n
theorem Oa(l:List Nat)(i k:Nat):((List.range k).map fun m=>i+m).filterMap (fun j=>l[j]?)=(l.drop i).take k:=by
  induction k generalizing i with
  | zero=>simp
  | succ k ih=>
    rw[List.range_succ_eq_map,List.map_cons,List.map_map];have e:((List.range k).map ((fun m=>i+m) ∘ Nat.succ))=(List.range k).map fun m=>(i+1)+m:=by
      apply List.map_congr_left;intro a _;simp only[Function.comp,Nat.succ_eq_add_one];omega
    rw[e,List.filterMap_cons];simp only[Nat.add_zero];rw[ih (i+1)];cases h:l[i]? with
    | none=>
      have hl:l.length<=i:=List.getElem?_eq_none_iff.mp h;rw[List.drop_eq_nil_of_le hl,List.drop_eq_nil_of_le (by omega)];simp
    | some v=>
      obtain⟨hi,e⟩:=List.getElem?_eq_some_iff.mp h;rw[List.drop_eq_getElem_cons hi,List.take_succ_cons,e]
def AI(n:Nat)(d:Int):Option Int->Int
  | none=>d
  | some i=>max 0 (min (if i<0 then i+(n:Int) else i) n)
theorem G1(n d:Nat)(hd:d<=n)(o:Option Int):AI n d o=((dG n d o:Nat):Int):=by
  cases o with
  | none=>rfl
  | some i=>simp only[dG,AI];split<;>omega
theorem Ob(n d:Nat)(hd:d<=n)(o:Option Int):dG n d o<=n:=by
  cases o with
  | none=>exact hd
  | some i=>simp only[dG];split<;>omega
theorem G2(lo hi:Option Int)(n:Nat):Builtin.Str.strSliceIndices lo hi 1 n=(List.range (dG n n hi-dG n 0 lo)).map fun m=>dG n 0 lo+m:=by
  have:Builtin.Str.strSliceIndices lo hi 1 n=sliceRange (AI n 0 lo) (AI n n hi) 1:=by
    cases lo<;>cases hi<;>rfl
  rw[this,show(0:Int)=((0:Nat):Int) from rfl,G1 n 0 (Nat.zero_le _),G1 n n (Nat.le_refl _)];unfold sliceRange;simp only[show(1:Int) > 0 by decide,if_true,Int.one_mul,Int.ediv_one];have ec:(if((dG n 0 lo:Nat):Int)<((dG n n hi:Nat):Int) then((dG n n hi:Nat):Int)-((dG n 0 lo:Nat):Int)+1-1 else 0).toNat=dG n n hi-dG n 0 lo:=by
    split<;>omega
  rw[ec];apply List.map_congr_left;intro a _;omega
theorem Oc(x:Str)(lo hi:Option Int):co (Txt.slice x lo hi)=((co x).drop (dG x.length 0 lo)).take (dG x.length x.length hi-dG x.length 0 lo):=by
  have key:(Builtin.Str.strSliceIndices lo hi 1 x.length).filterMap (x.cps[·]?)=((co x).drop (dG x.length 0 lo)).take (dG x.length x.length hi-dG x.length 0 lo):=by
    rw[G2,←Oa (co x)]
    congr 1
    funext j;simp[co]
  unfold Txt.slice;split
  · rename_i h;have hl:(Builtin.Str.strSliceIndices lo hi 1 x.length).length=x.length:=by
      simpa using h
    rw[G2,List.length_map,List.length_range] at hl;have h1:=Ob x.length x.length (Nat.le_refl _) hi;have h2:dG x.length 0 lo=0\/x.length=0:=by omega
    have h3:=GZ x;rcases h2 with h2 | h2
    · rw[hl,h2,List.drop_zero,List.take_of_length_le (by omega)]
    · have:co x = []:=List.length_eq_zero_iff.mp (by omega);rw[this];simp
  · rw[G0];exact key
def bS:Str:="abcdefghijklmnopqrstuvwxyz0123456789-"
def G3(l:List Nat)(sg:Str):Bool:=l.all fun c=>decide (c∈co sg)
def lY(x:Str):Bool:=decide (1<=x.length)&&decide (x.length<=12)&&G3 (co x) bS
def g8(ns:List Int)(i:Int):Int:=ns.getD i.toNat 0
def pt(c k m:Int):Int:=(c%99991+17) * (48271+7919 * k)%65537 * (k+3)%8191%m
theorem eU(c k m:Int)(h:0<m):0<=pt c k m/\pt c k m<m:=⟨Int.emod_nonneg _ (by omega),Int.emod_lt_of_pos _ h⟩
def nM(one at':Int)(k j:Nat):Int:=if(j:Int)=at' then pt one ((j:Int)+2) 37+k else pt one ((j:Int)+2) 37
def j8(one at':Int)(k j:Nat):Nat:=(co bS).getD (nM one at' k j%37).toNat 0
def j9(one at':Int)(k size:Nat):List Nat:=(List.range size).map (j8 one at' k)
theorem Od:(co bS).length=37:=by decide +kernel
theorem Oe:(co bS).Nodup:=by decide +kernel
theorem lZ(z:Int):0<=z%37/\(z%37).toNat<(co bS).length:=by
  have h1:=Int.emod_nonneg z (show(37:Int)≠0 by decide);have h2:=Int.emod_lt_of_pos z (show(0:Int)<37 by decide);rw[Od];omega
theorem Of(one at':Int)(k j:Nat):j8 one at' k j∈co bS:=by
  unfold j8;have h:=(lZ (nM one at' k j)).2;rw[List.getD_eq_getElem?_getD,List.getElem?_eq_getElem h];exact List.getElem_mem h
theorem Og{i j:Nat}(hi:i<(co bS).length)(hj:j<(co bS).length)(h:(co bS).getD i 0=(co bS).getD j 0):i=j:=by
  rw[List.getD_eq_getElem?_getD,List.getD_eq_getElem?_getD,List.getElem?_eq_getElem hi,List.getElem?_eq_getElem hj] at h;have h:(co bS)[i]=(co bS)[j]:=h;exact(List.getElem_inj Oe).mp h
theorem uL(one at':Int)(k size:Nat):(j9 one at' k size).length=size:=by unfold j9;simp
theorem G4{one at':Int}{k size j:Nat}(h:j<size):(j9 one at' k size)[j]? = some (j8 one at' k j):=by
  unfold j9;rw[List.getElem?_map,List.getElem?_range h];rfl
theorem Oh{one at':Int}{k k' size:Nat}(h0:0<=at')(h1:at'<size)(hk:k<9)(dj:k'<9)(h:j9 one at' k size=j9 one at' k' size):k=k':=by
  have hj:at'.toNat<size:=by omega
  have e1:=G4 (one:=one) (at':=at') (k:=k) hj;have e2:=G4 (one:=one) (at':=at') (k:=k') hj;rw[h,e2] at e1;have e:j8 one at' k' at'.toNat=j8 one at' k at'.toNat:=Option.some.inj e1;unfold j8 at e;have q:=Og (lZ _).2 (lZ _).2 e;have a1:=(lZ (nM one at' k' at'.toNat)).1;have a2:=(lZ (nM one at' k at'.toNat)).1;have q2:nM one at' k' at'.toNat%37=nM one at' k at'.toNat%37:=by omega
  unfold nM at q2;rw[if_pos (Int.toNat_of_nonneg h0),if_pos (Int.toNat_of_nonneg h0)] at q2;omega
def jq(l:List Nat):Str:=⟨l.toArray⟩
theorem sH(l:List Nat):co (jq l)=l:=G0 l
theorem G5{l m:List Nat}(h:jq l=jq m):l=m:=by
  have:=congrArg co h
  rwa [sH,sH] at this
theorem Oi{x:Str}(h1:1<=(co x).length)(h2:(co x).length<=12)(h3:∀c∈co x,c∈co bS):lY x=true:=by
  rw[GZ] at h1 h2;unfold lY;rw[decide_eq_true h1,decide_eq_true h2];show G3 (co x) bS=true;exact List.all_eq_true.mpr fun c hc=>decide_eq_true (h3 c hc)
theorem Oj{one at':Int}{k size c:Nat}(h:c∈j9 one at' k size):c∈co bS:=by
  obtain⟨j,_,rfl⟩:=List.mem_map.mp h;exact Of ..
theorem CV{f:Nat->Str}{n:Nat}(h:∀i j,i<n->j<n->f i=f j->i=j):((List.range n).map f).Nodup:=by
  unfold List.Nodup;rw[List.pairwise_map];refine List.Pairwise.imp_of_mem (R:=(·≠·)) (fun{a b}ha hb fB e=>?_) List.nodup_range;exact fB (h a b (List.mem_range.mp ha) (List.mem_range.mp hb) e)
theorem Ol:(Str.ofString "" : Str)=jq []:=by decide +kernel
theorem G6(l m:List Nat):jq l++jq m=jq (l++m):=by
  apply CU;show(l.toArray++m.toArray).toList=(l++m).toArray.toList;simp
theorem AJ(l:List Nat):(jq l).length=l.length:=by show l.toArray.size=_;simp
theorem G7(l:List Nat)(z:Int)(h0:0<=z)(h1:z<=l.length):Txt.slice (jq l) none (some z)=jq (l.take z.toNat):=by
  apply CU;rw[Oc,sH,sH,AJ];simp only[dG];rw[if_neg (by omega),List.drop_zero,Nat.sub_zero]
  congr 1
  omega
end Dm
namespace Dm
open PySem PySem.NumText L2
def uM:List Str:=["over","cuts","fills","same"]
def nN(z:Int):Prop:=z.natAbs<10 ^ 60
inductive e7(us:List Str):List V->Prop where
  | plain {kd x y:Str}(hk:kd∈uM) (hx:x∈us) (hy:y∈us):e7 us [.str kd,.str x,.str y]
  | after {x y:Str}{n:Int}(hx:x∈us) (hy:y∈us) (h0:0<=n) (h1:nN n):e7 us [.str "after",.str x,.str y,.int n]
theorem e7.mono{us qH:List Str}{ws:List V}(h:e7 us ws)(s:∀x∈us,x∈qH):e7 qH ws:=by
  cases h with
  | plain hk hx hy=>exact .plain hk (s _ hx) (s _ hy)
  | after hx hy h0 h1=>exact .after (s _ hx) (s _ hy) h0 h1
theorem CW{x:Str}(h:lY x=true):x.length<=12:=by
  unfold lY at h;simp only[Bool.and_eq_true,decide_eq_true_eq] at h;exact h.1.2
theorem Om:∀k∈uM,k.length<=100:=by decide +kernel
theorem e7.words{us:List Str}{ws:List V}(h:e7 us ws)(hu:∀x∈us,lY x=true):(∀v∈ws,Wd v)/\ws.length<=5/\∃x r,ws = .str x::r:=by
  have nm:∀x∈us,Wd (.str x):=fun x hx=>.inl ⟨x,rfl,Nat.le_trans (CW (hu x hx)) (by decide)⟩
  cases h with
  | plain hk hx hy=>
    refine⟨fun v hv=>?_,by simp,_,_,rfl⟩;simp only[List.mem_cons,List.not_mem_nil,or_false] at hv;rcases hv with rfl | rfl | rfl
    · exact .inl ⟨_,rfl,Om _ hk⟩
    · exact nm _ hx
    · exact nm _ hy
  | after hx hy h0 h1=>
    refine⟨fun v hv=>?_,by simp,_,_,rfl⟩;simp only[List.mem_cons,List.not_mem_nil,or_false] at hv;rcases hv with rfl | rfl | rfl | rfl
    · exact .inl ⟨_,rfl,by decide +kernel⟩
    · exact nm _ hx
    · exact nm _ hy
    · exact .inr ⟨_,rfl,h1⟩
abbrev aV(H:Hp):List Addr->List (List V)->Prop:=Paired fun a ws=>H a=some (.tup ws)
theorem aV.same{H H':Hp}(s:ah H H'):∀{as:List Addr}{fC:List (List V)},aV H as fC->aV H' as fC
  | _,_,.nil=>.nil
  | _,_,.cons h t=>.cons (s _ _ h) (aV.same s t)
theorem aV.get{H:Hp}:∀{as:List Addr}{fC:List (List V)}{a:Addr},aV H as fC->a∈as->∃ws∈fC,H a=some (.tup ws)
  | _,_,_,.cons h t,ha=>by
    rcases List.mem_cons.mp ha with ha | ha
    · subst ha;exact⟨_,List.mem_cons_self ..,h⟩
    · obtain⟨ws,hw,e⟩:=aV.get t ha;exact⟨ws,List.mem_cons_of_mem _ hw,e⟩
theorem aV.snoc{H:Hp}{a:Addr}{ws:List V}{as:List Addr}{fC:List (List V)}(t:aV H as fC)(h:H a=some (.tup ws)):aV H (as++[a]) (fC++[ws]):=Paired.snoc t h
theorem aV.eO{H H':Hp}(s:∀b xs,H b=some (.tup xs)->H' b=some (.tup xs)):∀{as:List Addr}{fC:List (List V)},aV H as fC->aV H' as fC
  | _,_,.nil=>.nil
  | _,_,.cons h t=>.cons (s _ _ h) (aV.eO s t)
theorem kg{H:Hp}{p:Addr}{xs ys:List V}(h:H p=some (.lst xs)):∀b zs,H b=some (.tup zs)->upd H p (.lst ys) b=some (.tup zs):=fun b zs e=>by
  rw[zr (jW e h (by intro z;cases z))];exact e
theorem mT{xs:List Str}(nd:xs.Nodup)(k:Nat)(h:k<xs.length):xs[k] ∉ xs.take k:=by
  intro z;obtain⟨j,hj,e⟩:=List.mem_iff_getElem.mp z;rw[List.getElem_take] at e;rw[List.length_take] at hj;have:=(List.getElem_inj nd).mp e;omega
theorem Oo{x y:V}(hx:Wd x)(hy:Wd y):k9 x y=decide (x=y):=by
  rcases hx with ⟨a,rfl,_⟩ | ⟨a,rfl,_⟩<;>rcases hy with ⟨b,rfl,_⟩ | ⟨b,rfl,_⟩
  · show(a == b)=_
    by_cases h:a=b
    · subst h;simp
    · rw[decide_eq_false (fun z=>h (V.str.inj z))];exact beq_eq_false_iff_ne.mpr h
  · exact(decide_eq_false (fun z=>nomatch z)).symm
  · exact(decide_eq_false (fun z=>nomatch z)).symm
  · show(a == b)=_
    by_cases h:a=b
    · subst h;simp
    · rw[decide_eq_false (fun z=>h (V.int.inj z))];exact beq_eq_false_iff_ne.mpr h
theorem Oq{xs ys:List V}(hx:∀v∈xs,Wd v)(hy:∀v∈ys,Wd v):xx xs ys=decide (xs=ys):=by
  by_cases h:xs=ys
  · subst h;rw[CO fun x q=>(hx x q).flat,decide_eq_true rfl]
  · rw[decide_eq_false h];rw[←Bool.not_eq_true];intro q;unfold xx at q;rw[Bool.and_eq_true] at q;obtain⟨q1,q2⟩:=q;have q2:xs.length=ys.length:=by simpa using q2
    apply h;apply List.ext_getElem q2;intro i h1 h2;have:=List.all_eq_true.mp q1 i (List.mem_range.mpr (by omega));rw[List.getElem?_eq_getElem h1,List.getElem?_eq_getElem h2] at this;have e:k9 xs[i] ys[i]=true:=this;rw[Oo (hx _ (List.getElem_mem h1)) (hy _ (List.getElem_mem h2))] at e;exact of_decide_eq_true e
theorem aV.at{H:Hp}:∀{as:List Addr}{fC:List (List V)}{i:Nat}{a:Addr},aV H as fC->as[i]? = some a->∃ws,fC[i]? = some ws/\H a=some (.tup ws)
  | _,_,_,_,.nil,e=>by simp at e
  | _,_,0,_,.cons h _,e=>by simp at e;subst e;exact⟨_,rfl,h⟩
  | _,_,i+1,_,.cons _ t,e=>by
    obtain⟨ws,q,r⟩:=aV.at (i:=i) t (by simpa using e);exact⟨ws,by simpa using q,r⟩
theorem aV.len{H:Hp}{as:List Addr}{fC:List (List V)}(t:aV H as fC):as.length=fC.length:=Paired.length t
theorem aV.any{H:Hp}{as:List Addr}{fC:List (List V)}{ws:List V}(t:aV H as fC):∀(e:V->Bool),(∀a vs,vs∈fC->H a=some (.tup vs)->e (.ref a)=decide (vs=ws))->(as.map V.ref).any e=decide (ws∈fC):=by
  intro e he
  induction t with
  | nil=>simp
  | @cons a vs as fC h t ih=>
    rw[List.map_cons,List.any_cons,he a vs (List.mem_cons_self ..) h,ih fun b us q r=>he b us (List.mem_cons_of_mem _ q) r]
    by_cases q:vs=ws
    · subst q;simp
    · rw[decide_eq_false q,Bool.false_or];have:ws∈vs::fC↔ws∈fC:=by
        rw[List.mem_cons];constructor
        · rintro(z | z)
          · exact absurd z.symm q
          · exact z
        · exact .inr
      exact decide_eq_decide.mpr this.symm
def sI(H:Hp)(ws:List V):V->Bool
  | .ref a=>match H a with
    | some (.tup vs)=>decide (vs=ws)
    | _=>false
  | _=>false
theorem G9{H:Hp}{ws vs:List V}{a:Addr}(h:H a=some (.tup vs)):sI H ws (.ref a)=decide (vs=ws):=by
  show(match H a with | some (.tup vs)=>decide (vs=ws) | _=>false)=_;rw[h]
theorem aV.xH{H:Hp}{as:List Addr}{fC:List (List V)}{ws:List V}(t:aV H as fC):(as.map V.ref).any (sI H ws)=decide (ws∈fC):=t.any _ fun _ _ _ h=>G9 h
theorem aV.Hf{K:PySem.W.Frag}{H:Hp}{n:Nat}{as:List Addr}{fC:List (List V)}{ws:List V}{p:Addr}(t:aV H as fC)(hw:∀vs∈fC,∀v∈vs,Wd v)(hp:H p=some (.tup ws))(hv:∀v∈ws,Wd v) :
    ∀z∈as.map V.ref,bP K H (n+1) z (.ref p) (sI H ws z):=by
  intro z hz;obtain⟨a,ha,rfl⟩:=List.mem_map.mp hz;obtain⟨vs,Hg,e⟩:=t.get ha;rw[G9 e,←Oq (hw vs Hg) hv];exact bP.nI (aG.of e) (aG.of hp) (fun x q=>(hw vs Hg x q).flat) fun x q=>(hv x q).flat
theorem Hh(ns:List Int)(lo hi:Option Int):∃cs:List Int,fK (ns.map V.int) lo hi=cs.map V.int/\cs.length<=ns.length:=by
  refine⟨(ns.drop (HT.bR (ns.map V.int).length 0 lo)).take (HT.bR (ns.map V.int).length (ns.map V.int).length hi-HT.bR (ns.map V.int).length 0 lo),?_,?_⟩
  · unfold fK;rw[List.map_take,List.map_drop]
  · rw[List.length_take,List.length_drop];omega
structure jr(K:PySem.W.Frag)(H:Hp)(pm pu pt pf:Addr)(lo hi:Int)(us:List Str)(ts fs:List (List V))(at' af:List Addr):Prop where
  m:aG K H pm [.int lo,.int hi]
  u:ao K H pu (us.map V.str)
  t:ao K H pt (at'.map V.ref)
  tt:aV H at' ts
  f:ao K H pf (af.map V.ref)
  ft:aV H af fs
theorem jr.same{K:PySem.W.Frag}{H H':Hp}{pm pu pt pf:Addr}{lo hi:Int}{us:List Str}{ts fs:List (List V)}{at' af:List Addr}(t:jr K H pm pu pt pf lo hi us ts fs at' af)(s:ah H H'):jr K H' pm pu pt pf lo hi us ts fs at' af:=
  ⟨s.tup t.m,s.seq t.u,s.seq t.t,t.tt.same s,s.seq t.f,t.ft.same s⟩
theorem xJ{α:Type}{H:Hp}{g:α->List V}{ai:List Addr}{ps:List α}{i:Nat}{x:V}(t:aV H ai (ps.map g))(hx:(ai.map V.ref)[i]? = some x) :
    ∃q p,x = .ref q/\ps[i]? = some p/\ai[i]? = some q/\H q=some (.tup (g p)):=by
  rw[List.getElem?_map] at hx;cases e:ai[i]? with
  | none=>rw[e] at hx;cases hx
  | some q=>
    rw[e] at hx;cases hx;obtain⟨ws,h1,h2⟩:=Paired.get' t e;rw[List.getElem?_map] at h1;cases e':ps[i]? with
    | none=>rw[e'] at h1;cases h1
    | some p=>
      rw[e'] at h1;cases h1;exact⟨q,p,rfl,rfl,rfl,h2⟩
theorem Hi{α:Type}{p:α->Prop}{xs:List α}{i:Nat}{x:α}(hx:xs[i]? = some x)(h:∀y∈xs.take i,p y)(hp:p x):∀y∈xs.take (i+1),p y:=by
  intro y hy;rw[List.take_add_one,hx,List.mem_append] at hy;rcases hy with hy | hy
  · exact h y hy
  · simp at hy;subst hy;exact hp
theorem xK{u v:V}{i:Int}(h0:0<=i)(h1:i<2):∃z,gC [u,v] i=some z/\(z=u\/z=v):=by
  have h:i=0\/i=1:=by omega
  rcases h with rfl | rfl
  · exact⟨u,rfl,.inl rfl⟩
  · exact⟨v,rfl,.inr rfl⟩
structure av where
  k:Str
  a:Str
  b:Str
  g:Option Int
def bg(t:av):List V:=.str t.k :: .str t.a :: .str t.b::(match t.g with
  | some n=>[V.int n]
  | none=>[])
def bK:Str:="same"
structure iM(us:List Str)(t:av):Prop where
  ok:e7 us (bg t)
  a:t.a∈us
  b:t.b∈us
theorem xM(t:av):gC (bg t) 0=some (.str t.k):=lB
theorem xN(t:av):gC (bg t) 1=some (.str t.a):=iU (xs:=bg t) (j:=1) rfl
theorem xO(t:av):gC (bg t) 2=some (.str t.b):=iU (xs:=bg t) (j:=2) rfl
theorem Hj{xs:List V}{z:Int}(h0:0<=z)(h1:z<=xs.length):fK xs none (some z)=xs.take z.toNat:=by
  unfold fK HT.bR;simp;split
  · omega
  · congr 1
    omega
theorem xP{x y:Str}(h1:¬co x<co y)(h2:¬co y<co x):x=y:=by
  rw[List.not_lt] at h1 h2;exact CU (List.le_antisymm h2 h1)
theorem xQ{x y:Str}(h1:co x<co y)(h2:co y<co x):False:=List.lt_irrefl _ (List.lt_trans h1 h2)
theorem CZ{y m f:List Nat}(h1:y<m)(h2:¬f<m):y<f:=by
  exact Decidable.byContradiction fun z=>h2 (List.lt_of_le_of_lt (List.not_lt.mp z) h1)
def gp(x y:Str):Str:=if co y<co x then y else x
theorem C0(x y:Str):gp x y=x\/gp x y=y:=by unfold gp;split<;>simp
theorem C2(x y:Str):¬co x<co (gp x y):=by
  unfold gp;split
  · next h=>exact fun z=>xQ h z
  · exact List.lt_irrefl _
theorem C3(x y:Str):¬co y<co (gp x y):=by
  unfold gp;split
  · exact List.lt_irrefl _
  · next h=>exact h
def Nb(ts:List av)(y z:Str):Prop:=∃t∈ts,t.k=bK/\((t.a=y/\t.b=z)\/(t.b=y/\t.a=z))
inductive Cn(ts:List av):Str->Str->Prop where
  | refl (x:Str):Cn ts x x
  | step {x y z:Str}(h:Cn ts x y) (n:Nb ts y z):Cn ts x z
theorem Nb.symm{ts:List av}{y z:Str}(h:Nb ts y z):Nb ts z y:=by
  obtain⟨t,ht,hk,h⟩:=h;exact⟨t,ht,hk,h.elim (fun q=>.inr ⟨q.2,q.1⟩) fun q=>.inl ⟨q.2,q.1⟩⟩
theorem Cn.trans{ts:List av}{x y z:Str}(h:Cn ts x y)(h2:Cn ts y z):Cn ts x z:=by
  induction h2 with
  | refl=>exact h
  | step _ n ih=>exact ih.step n
theorem Cn.one{ts:List av}{y z:Str}(n:Nb ts y z):Cn ts y z:=(Cn.refl y).step n
theorem Cn.symm{ts:List av}{x y:Str}(h:Cn ts x y):Cn ts y x:=by
  induction h with
  | refl=>exact .refl _
  | step _ n ih=>exact(Cn.one n.symm).trans ih
theorem Nb.mono{ts sJ:List av}{y z:Str}(h:Nb ts y z)(s:∀t∈ts,t∈sJ):Nb sJ y z:=by
  obtain⟨t,ht,r⟩:=h;exact⟨t,s t ht,r⟩
theorem Cn.mono{ts sJ:List av}{y z:Str}(h:Cn ts y z)(s:∀t∈ts,t∈sJ):Cn sJ y z:=by
  induction h with
  | refl=>exact .refl _
  | step _ n ih=>exact ih.step (n.mono s)
theorem Nb.mem{us:List Str}{ts:List av}{y z:Str}(h:Nb ts y z)(ht:∀t∈ts,t.a∈us/\t.b∈us):z∈us:=by
  obtain⟨t,h1,_,h2⟩:=h;rcases h2 with ⟨_,rfl⟩ | ⟨_,rfl⟩
  · exact(ht t h1).2
  · exact(ht t h1).1
theorem Cn.mem{us:List Str}{ts:List av}{y z:Str}(h:Cn ts y z)(hy:y∈us)(ht:∀t∈ts,t.a∈us/\t.b∈us):z∈us:=by
  cases h with
  | refl=>exact hy
  | step _ n=>exact n.mem ht
def jn(aJ:Str->Str)(f s:Str):Str->Str:=fun x=>if aJ x=f\/aJ x=s then gp f s else aJ x
def pW(aJ:Str->Str)(t:av):Str->Str:=if t.k=bK then jn aJ (aJ t.a) (aJ t.b) else aJ
def aj(ts:List av):Str->Str:=ts.foldl pW id
structure Good(ts:List av)(aJ:Str->Str):Prop where
  to:∀x,Cn ts x (aJ x)
  eq:∀x y,Cn ts x y->aJ x=aJ y
  le:∀x y,Cn ts x y->¬co y<co (aJ x)
theorem Ot:Good [] id:=by
  have h:∀x y,Cn [] x y->x=y:=by
    intro x y c
    induction c with
    | refl=>rfl
    | step _ n _=>obtain⟨t,ht,_⟩:=n;cases ht
  exact⟨fun x=>.refl x,h,fun x y c=>by rw[h x y c];exact List.lt_irrefl _⟩
theorem Ou{ts:List av}{aJ:Str->Str}{t:av}(g:Good ts aJ):Good (ts++[t]) (pW aJ t):=by
  have sub:∀u∈ts,u∈ts++[t]:=fun u hu=>List.mem_append_left _ hu
  by_cases hk:t.k=bK
  · unfold pW;rw[if_pos hk];have nt:Nb (ts++[t]) t.a t.b:=⟨t,by simp,hk,.inl ⟨rfl,rfl⟩⟩;have ca:∀x,aJ x=aJ t.a->Cn (ts++[t]) x t.a:=fun x e=>by
      have h1:=(g.to x).mono sub;have h2:=(g.to t.a).mono sub;rw[e] at h1;exact h1.trans h2.symm
    have cb:∀x,aJ x=aJ t.b->Cn (ts++[t]) x t.b:=fun x e=>by
      have h1:=(g.to x).mono sub;have h2:=(g.to t.b).mono sub;rw[e] at h1;exact h1.trans h2.symm
    have la:Cn (ts++[t]) t.a (aJ t.a):=(g.to t.a).mono sub;have lb:Cn (ts++[t]) t.b (aJ t.b):=(g.to t.b).mono sub;have to:∀x,Cn (ts++[t]) x (jn aJ (aJ t.a) (aJ t.b) x):=by
      intro x;unfold jn;split
      · next h=>
        have hx:Cn (ts++[t]) x t.a:=h.elim (ca x) fun e=>(cb x e).trans (Cn.one nt.symm)
        rcases C0 (aJ t.a) (aJ t.b) with e | e
        · rw[e];exact hx.trans la
        · rw[e];exact(hx.trans (Cn.one nt)).trans lb
      · exact(g.to x).mono sub
    have ja:jn aJ (aJ t.a) (aJ t.b) t.a=gp (aJ t.a) (aJ t.b):=if_pos (.inl rfl);have jb:jn aJ (aJ t.a) (aJ t.b) t.b=gp (aJ t.a) (aJ t.b):=if_pos (.inr rfl);have eq:∀x y,Cn (ts++[t]) x y->jn aJ (aJ t.a) (aJ t.b) x=jn aJ (aJ t.a) (aJ t.b) y:=by
      intro x y c
      induction c with
      | refl=>rfl
      | @step y z _ n ih=>
        rw[ih];obtain⟨u,hu,AK,h⟩:=n;rcases List.mem_append.mp hu with hu | hu
        · have:aJ y=aJ z:=g.eq y z (Cn.one ⟨u,hu,AK,h⟩);unfold jn;rw[this]
        · have hu:u=t:=by simpa using hu
          subst hu;rcases h with ⟨rfl,rfl⟩ | ⟨rfl,rfl⟩
          · rw[ja,jb]
          · rw[ja,jb]
    refine⟨to,eq,fun x y c=>?_⟩;rw[eq x y c];have old:=g.le y y (.refl y);unfold jn;split
    · next h=>
      rcases h with e | e
      · intro z;rw[e] at old;exact old (CZ z (C2 _ _))
      · intro z;rw[e] at old;exact old (CZ z (C3 _ _))
    · exact old
  · unfold pW;rw[if_neg hk];have back:∀x y,Cn (ts++[t]) x y->Cn ts x y:=by
      intro x y c
      induction c with
      | refl=>exact .refl _
      | step _ n ih=>
        obtain⟨u,hu,AK,h⟩:=n;rcases List.mem_append.mp hu with hu | hu
        · exact ih.step ⟨u,hu,AK,h⟩
        · have hu:u=t:=by simpa using hu
          subst hu;exact absurd AK hk
    exact⟨fun x=>(g.to x).mono sub,fun x y c=>g.eq x y (back x y c),fun x y c=>g.le x y (back x y c)⟩
theorem Hl:∀(Ho ts:List av)(aJ:Str->Str),Good ts aJ->Good (ts++Ho) (Ho.foldl pW aJ)
  | [],ts,aJ,g=>by rw[List.append_nil];exact g
  | t::r,ts,aJ,g=>by
    have:=Hl r (ts++[t]) (pW aJ t) (Ou g);rw[List.append_assoc] at this;exact this
theorem sL(ts:List av):Good ts (aj ts):=Hl ts [] id Ot
theorem Hq{ts:List av}{i:Nat}{t:av}(h:ts[i]? = some t):aj (ts.take (i+1))=pW (aj (ts.take i)) t:=by
  unfold aj;rw[List.take_add_one,h,List.foldl_append];rfl
theorem Hr{us:List Str}{ts:List av}{x:Str}(hx:x∈us)(ht:∀t∈ts,t.a∈us/\t.b∈us):aj ts x∈us:=((sL ts).to x).mem hx ht
def dN(us:List Str)(aJ:Str->Str):List (Key×V):=us.map fun x=>(Sum.inr x,V.str (aJ x))
theorem kh{us:List Str}{aJ:Str->Str}{x:Str}(h:x∈us):cF (dN us aJ) (Sum.inr x)=some (.str (aJ x)):=by
  induction us with
  | nil=>cases h
  | cons y r ih=>
    unfold dN;rw[List.map_cons]
    by_cases e:y=x
    · subst e;exact wH rfl
    · have hx:x∈r:=by
        rcases List.mem_cons.mp h with h | h
        · exact absurd h.symm e
        · exact h
      have:=ih hx;unfold cF at this ⊢;rw[List.find?_cons_of_neg (by simpa using e)];exact this
theorem C4{us:List Str}{aJ:Str->Str}{x y:Str}(h:x∈us):putK (dN us aJ) (Sum.inr x) (.str y)=dN us (fun z=>if z=x then y else aJ z):=by
  have ha:((dN us aJ).any fun kv=>decide (kv.1=(Sum.inr x:Key)))=true:=by
    rw[List.any_eq_true];exact⟨(Sum.inr x,V.str (aJ x)),List.mem_map.mpr ⟨x,h,rfl⟩,decide_eq_true rfl⟩
  unfold putK;rw[if_pos ha];unfold dN;rw[List.map_map];apply List.map_congr_left;intro z _;show(if(Sum.inr z:Key)=Sum.inr x then(Sum.inr z,V.str y) else(Sum.inr z,V.str (aJ z)))=_
  by_cases e:z=x
  · subst e;simp
  · rw[if_neg (fun q=>e (Sum.inr.inj q))];show _=(Sum.inr z,V.str (if z=x then y else aJ z));rw[if_neg e]
theorem Hs{us:List Str}{x:Str}(h:x ∉ us):putK (dN us id) (Sum.inr x) (.str x)=dN (us++[x]) id:=by
  have ha:¬((dN us id).any fun kv=>decide (kv.1=(Sum.inr x:Key)))=true:=by
    rw[List.any_eq_true];rintro⟨kv,h1,h2⟩;obtain⟨z,hz,rfl⟩:=List.mem_map.mp h1;have h2:z=x:=Sum.inr.inj (of_decide_eq_true h2);subst h2;exact h hz
  unfold putK;rw[if_neg ha];unfold dN;rw[List.map_append];rfl
theorem uN{us:List Str}{f g:Str->Str}(h:∀x∈us,f x=g x):dN us f=dN us g:=by
  unfold dN;apply List.map_congr_left;intro x hx;rw[h x hx]
theorem xR(us:List Str)(f:Str->Str):(dN us f).length=us.length:=List.length_map _
theorem Ov(us:List Str)(f:Str->Str):((dN us f).map fun kv=>kV kv.1)=us.map V.str:=by
  unfold dN;rw[List.map_map];rfl
theorem lD{us rs:List Str}(hn:rs.Nodup)(hs:∀x∈rs,x∈us):rs.length<=us.length:=by
  induction rs generalizing us with
  | nil=>simp
  | cons a r ih=>
    rw[List.nodup_cons] at hn;have ha:=hs a (by simp);have h2:∀x∈r,x∈us.erase a:=fun x hx=>by
      refine(List.mem_erase_of_ne (fun z=>by subst z;exact hn.1 hx)).mpr (hs x (List.mem_cons_of_mem _ hx))
    have:=ih hn.2 h2;rw[List.length_erase_of_mem ha] at this;have hp:0<us.length:=List.length_pos_of_mem ha;rw[List.length_cons];omega
def sM(l:List Str):Prop:=l.Pairwise (fun a b=>¬co b<co a)
theorem Ht:∀{a b:List Str},a.Perm b->sM a->sM b->a=b
  | [],b,p,_,_=>by rw[List.nil_perm.mp p]
  | x::r,[],p,_,_=>by have:=p.length_eq;cases this
  | x::r,y::r',p,ha,hb=>by
    have hx:x∈y::r':=p.mem_iff.mp (by simp);have hy:y∈x::r:=p.mem_iff.mpr (by simp);have e:x=y:=by
      rcases List.mem_cons.mp hx with h | h
      · exact h
      · rcases List.mem_cons.mp hy with h2 | h2
        · exact h2.symm
        · exact xP ((List.pairwise_cons.mp hb).1 x h) ((List.pairwise_cons.mp ha).1 y h2)
    subst e;rw[Ht (List.Perm.cons_inv p) (List.pairwise_cons.mp ha).2 (List.pairwise_cons.mp hb).2]
def l8(x:Str):List Str->List Str
  | []=>[x]
  | y::r=>if co y<co x then y::l8 x r else x::y::r
def au:List Str->List Str
  | []=>[]
  | x::r=>l8 x (au r)
theorem C5(x:Str):∀l,(l8 x l).Perm (x::l)
  | []=>.refl _
  | y::r=>by
    unfold l8;split
    · exact((C5 x r).cons y).trans (.swap x y r)
    · exact .refl _
theorem xS:∀l,(au l).Perm l
  | []=>.refl _
  | x::r=>(C5 x (au r)).trans ((xS r).cons x)
theorem Hu(x:Str):∀l,sM l->sM (l8 x l)
  | [],_=>List.pairwise_singleton ..
  | y::r,h=>by
    unfold l8;obtain⟨h1,h2⟩:=List.pairwise_cons.mp h;split
    · next c=>
      refine List.pairwise_cons.mpr ⟨fun z hz=>?_,Hu x r h2⟩;rcases List.mem_cons.mp ((C5 x r).mem_iff.mp hz) with e | hz
      · subst e;exact fun q=>xQ q c
      · exact h1 z hz
    · next c=>
      refine List.pairwise_cons.mpr ⟨fun z hz=>?_,h⟩;rcases List.mem_cons.mp hz with e | hz
      · subst e;exact c
      · intro q;exact h1 z hz (CZ q c)
theorem C6:∀l,sM (au l)
  | []=>.nil
  | x::r=>Hu x (au r) (C6 r)
theorem C7{ms us:List Str}(p:ms.Perm us)(h:sM ms):ms=au us:=Ht (p.trans (xS us).symm) h (C6 us)
theorem C8{us:List Str}(h:us.Nodup):(au us).Nodup:=(xS us).nodup_iff.mpr h
theorem gq{us:List Str}{x:Str}:x∈au us↔x∈us:=(xS us).mem_iff
theorem C9(us:List Str):(au us).length=us.length:=(xS us).length_eq
theorem AL{us:List Str}(h:us.Nodup):(au us).Pairwise (fun a b=>co a<co b):=by
  have h1:=C6 us;have h2:=C8 h;refine(h1.and h2).imp fun{a b}aE=>?_
  obtain⟨p,q⟩:=aE;exact Decidable.byContradiction fun k=>q (xP k p)
theorem Ow{ss:List Str}(h:ss.Pairwise (fun a b=>co a<co b)){i j:Nat}{x y:Str}(hx:ss[i]? = some x)(hy:ss[j]? = some y)(hl:co x<co y):i<j:=by
  obtain⟨hi,ex⟩:=List.getElem?_eq_some_iff.mp hx;obtain⟨hj,ey⟩:=List.getElem?_eq_some_iff.mp hy;rcases Nat.lt_trichotomy i j with c | c | c
  · exact c
  · subst c;rw[ex] at ey;subst ey;exact absurd hl (List.lt_irrefl _)
  · have:=(List.pairwise_iff_getElem.mp h) j i hj hi c;rw[ex,ey] at this;exact(xQ hl this).elim
def dV(ks:List Str)(f:Str->V):List (Key×V):=ks.map fun x=>(Sum.inr x,f x)
theorem jt{ks:List Str}{f:Str->V}{x:Str}(h:x∈ks):cF (dV ks f) (Sum.inr x)=some (f x):=by
  induction ks with
  | nil=>cases h
  | cons y r ih=>
    unfold dV;rw[List.map_cons]
    by_cases e:y=x
    · subst e;exact wH rfl
    · have hx:x∈r:=by
        rcases List.mem_cons.mp h with h | h
        · exact absurd h.symm e
        · exact h
      have:=ih hx;unfold cF at this ⊢;rw[List.find?_cons_of_neg (by simpa using e)];exact this
theorem sN{ks:List Str}{f:Str->V}{x:Str}(h:x ∉ ks):cF (dV ks f) (Sum.inr x)=none:=by
  unfold cF;rw[List.find?_eq_none.mpr]
  · rfl
  · intro kv AM;obtain⟨z,hz,rfl⟩:=List.mem_map.mp AM;intro e;have e:z=x:=Sum.inr.inj (of_decide_eq_true e);subst e;exact h hz
theorem AN{ks:List Str}{f:Str->V}{x:Str}{v:V}(h:x∈ks):putK (dV ks f) (Sum.inr x) v=dV ks (fun z=>if z=x then v else f z):=by
  have ha:((dV ks f).any fun kv=>decide (kv.1=(Sum.inr x:Key)))=true:=by
    rw[List.any_eq_true];exact⟨(Sum.inr x,f x),List.mem_map.mpr ⟨x,h,rfl⟩,decide_eq_true rfl⟩
  unfold putK;rw[if_pos ha];unfold dV;rw[List.map_map];apply List.map_congr_left;intro z _;show(if(Sum.inr z:Key)=Sum.inr x then(Sum.inr z,v) else(Sum.inr z,f z))=(Sum.inr z,if z=x then v else f z)
  by_cases e:z=x
  · subst e;simp
  · rw[if_neg (fun q=>e (Sum.inr.inj q)),if_neg e]
theorem oV{ks:List Str}{f:Str->V}{x:Str}{v:V}(h:x ∉ ks):putK (dV ks f) (Sum.inr x) v=dV (ks++[x]) (fun z=>if z=x then v else f z):=by
  have ha:¬((dV ks f).any fun kv=>decide (kv.1=(Sum.inr x:Key)))=true:=by
    rw[List.any_eq_true];rintro⟨kv,h1,h2⟩;obtain⟨z,hz,rfl⟩:=List.mem_map.mp h1;have h2:z=x:=Sum.inr.inj (of_decide_eq_true h2);subst h2;exact h hz
  unfold putK;rw[if_neg ha];unfold dV;rw[List.map_append]
  congr 1
  · apply List.map_congr_left;intro z hz;have:¬z=x:=fun e=>h (e▸hz)
    show _=(Sum.inr z,if z=x then v else f z);rw[if_neg this]
  · show[(Sum.inr x,v)] = [(Sum.inr x,if x=x then v else f x)];rw[if_pos rfl]
theorem l9{ks:List Str}{f g:Str->V}(h:∀x∈ks,f x=g x):dV ks f=dV ks g:=by
  unfold dV;apply List.map_congr_left;intro x hx;rw[h x hx]
theorem fL(ks:List Str)(f:Str->V):(dV ks f).length=ks.length:=List.length_map _
theorem xT(ks:List Str)(f:Str->V):((dV ks f).map fun kv=>kV kv.1)=ks.map V.str:=by
  unfold dV;rw[List.map_map];rfl
theorem Ox(ks:List Str)(f:Str->V):((dV ks f).map (·.2))=ks.map f:=by
  unfold dV;rw[List.map_map];rfl
def zn(ts:List av)(ss:List Str):List Str:=ss.filter fun x=>decide (aj ts x=x)
def jE(ts:List av)(ss:List Str)(k:Str):List Str:=ss.filter fun x=>decide (aj ts x=k)
def mU(us:List Str)(ts:List av):List (List Str):=(zn ts (au us)).map (jE ts (au us))
theorem Hv{ts:List av}{ss:List Str}{i:Nat}{u:Str}(h:ss[i]? = some u):zn ts (ss.take (i+1))=zn ts (ss.take i)++(if aj ts u=u then[u] else[]):=by
  unfold zn;rw[List.take_add_one,h,List.filter_append]
  by_cases c:aj ts u=u
  · rw[if_pos c];simp[c]
  · rw[if_neg c];simp[c]
theorem Dd{ts:List av}{ss:List Str}{i:Nat}{u k:Str}(h:ss[i]? = some u):jE ts (ss.take (i+1)) k=jE ts (ss.take i) k++(if aj ts u=k then[u] else[]):=by
  unfold jE;rw[List.take_add_one,h,List.filter_append]
  by_cases c:aj ts u=k
  · rw[if_pos c];simp[c]
  · rw[if_neg c];simp[c]
theorem De(ts:List av)(x:Str):aj ts (aj ts x)=aj ts x:=((sL ts).eq x _ ((sL ts).to x)).symm
theorem Dg(ts:List av)(x:Str):¬co x<co (aj ts x):=(sL ts).le x x (.refl x)
theorem Oz{us:List Str}{ts:List av}(nd:us.Nodup)(ht:∀t∈ts,t.a∈us/\t.b∈us){i:Nat}{u:Str}(h:(au us)[i]? = some u)(iA:aj ts u≠u):aj ts u∈zn ts ((au us).take i):=by
  have hu:u∈us:=gq.mp (List.mem_of_getElem? h);have hl:aj ts u∈au us:=gq.mpr (Hr hu ht);obtain⟨j,hj,ej⟩:=List.mem_iff_getElem.mp hl;have OA:(au us)[j]? = some (aj ts u):=by rw[List.getElem?_eq_getElem hj,ej]
  have bC:co (aj ts u)<co u:=Decidable.byContradiction fun k=>iA (xP k (Dg ts u))
  have jZ:=Ow (AL nd) OA h bC;unfold zn;rw[List.mem_filter];refine⟨?_,decide_eq_true (De ts u)⟩;rw[List.mem_take_iff_getElem];exact⟨j,by omega,ej⟩
theorem OB{us:List Str}{ts:List av}(nd:us.Nodup){i:Nat}{u:Str}(h:(au us)[i]? = some u):u ∉ zn ts ((au us).take i)/\(aj ts u=u->jE ts ((au us).take i) u = []):=by
  have hi:=(List.getElem?_eq_some_iff.mp h).1;have eu:=(List.getElem?_eq_some_iff.mp h).2;have bC:∀x∈(au us).take i,co x<co u:=by
    intro x hx;obtain⟨j,hj,ej⟩:=List.mem_take_iff_getElem.mp hx;have:=(List.pairwise_iff_getElem.mp (AL nd)) j i (by omega) hi (by omega);rw[ej,eu] at this;exact this
  refine⟨fun z=>?_,fun e=>?_⟩
  · have:=bC u (List.mem_filter.mp z).1;exact List.lt_irrefl _ this
  · unfold jE;rw[List.filter_eq_nil_iff];intro x hx c;have c:aj ts x=u:=of_decide_eq_true c;have:=Dg ts x;rw[c] at this;exact this (bC x hx)
section
variable{us:List Str}{ts:List av}
theorem jN{k:Str}:k∈zn ts (au us)↔k∈us/\aj ts k=k:=by
  unfold zn;rw[List.mem_filter,gq,decide_eq_true_iff]
theorem nO(nd:us.Nodup):(zn ts (au us)).Nodup:=(C8 nd).sublist (List.filter_sublist ..)
theorem Hx(nd:us.Nodup):(zn ts (au us)).Pairwise (fun a b=>co a<co b):=(AL nd).sublist (List.filter_sublist ..)
theorem OC(nd:us.Nodup)(k:Str):(jE ts (au us) k).Pairwise (fun a b=>co a<co b):=(AL nd).sublist (List.filter_sublist ..)
theorem lE{k y:Str}:y∈jE ts (au us) k↔y∈us/\aj ts y=k:=by
  unfold jE;rw[List.mem_filter,gq,decide_eq_true_iff]
theorem qI(ht:∀t∈ts,t.a∈us/\t.b∈us){x:Str}(hx:x∈us):aj ts x∈zn ts (au us):=jN.mpr ⟨Hr hx ht,De ts x⟩
theorem Hy(nd:us.Nodup){k:Str}(hk:k∈zn ts (au us)):∃r,jE ts (au us) k=k::r:=by
  obtain⟨h1,h2⟩:=jN.mp hk;have hm:k∈jE ts (au us) k:=lE.mpr ⟨h1,h2⟩;have hp:=OC (ts:=ts) nd k;cases e:jE ts (au us) k with
  | nil=>rw[e] at hm;cases hm
  | cons x r=>
    rw[e] at hm hp;rcases List.mem_cons.mp hm with z | z
    · rw[z];exact⟨r,rfl⟩
    · have h3:=(List.pairwise_cons.mp hp).1 k z;have hx:x∈jE ts (au us) k:=by rw[e];simp
      have h4:=Dg ts x;rw[(lE.mp hx).2] at h4;exact absurd h3 h4
theorem Dh(nd:us.Nodup):(mU us ts).length<=us.length:=by
  unfold mU;rw[List.length_map];have:=List.length_filter_le (fun x=>decide (aj ts x=x)) (au us);rw[C9] at this;exact this
end
theorem Hz{one at':Int}{k size:Nat}(h:size<=12):(j9 one at' k 12).take size=j9 one at' k size:=by
  unfold j9;rw[←List.map_take,List.take_range,Nat.min_eq_left h]
def oW(one at':Int)(tu:Bool)(size k:Nat):Str:=jq ((j9 one at' (if tu then k else 0) 12).take (if tu then size else 1+(size+k)%12))
def uO(one at':Int)(tu:Bool)(size:Nat):List Str:=(List.range 8).map (oW one at' tu size)
theorem OD{one at':Int}{tu:Bool}{size:Nat}(h0:0<=at')(h1:at'<size)(h2:1<=size)(h3:size<=12):(uO one at' tu size).Nodup/\(∀x∈uO one at' tu size,lY x=true)/\(uO one at' tu size).length=8:=by
  refine⟨?_,?_,by unfold uO;simp⟩
  · unfold uO;refine CV fun i j hi hj e=>?_
    unfold oW at e;cases tu with
    | true=>
      rw[if_pos rfl,if_pos rfl,if_pos rfl,Hz h3,Hz h3] at e;exact Oh h0 h1 (by omega) (by omega) (G5 e)
    | false=>
      rw[if_neg Bool.false_ne_true,if_neg Bool.false_ne_true,if_neg Bool.false_ne_true] at e;have:=congrArg List.length (G5 e);simp only[List.length_take,uL] at this;omega
  · intro x hx;unfold uO at hx;obtain⟨k,hk,rfl⟩:=List.mem_map.mp hx;unfold oW;refine Oi ?_ ?_ ?_
    · rw[sH,List.length_take,uL];split<;>omega
    · rw[sH,List.length_take,uL];split<;>omega
    · intro c hc;rw[sH] at hc;exact Oj (List.mem_of_mem_take hc)
def oX(xs:List Str)(ps:List Int)(x:Str):Int:=ps.getD (xs.idxOf x) 0
theorem HA{xs:List Str}{ps:List Int}(nd:xs.Nodup){i:Nat}{x:Str}{p:Int}(hx:xs[i]? = some x)(hp:ps[i]? = some p):oX xs ps x=p:=by
  unfold oX;have hi:=(List.getElem?_eq_some_iff.mp hx).1;have ex:=(List.getElem?_eq_some_iff.mp hx).2;have:xs.idxOf x=i:=by
    rw[←ex];exact nd.idxOf_getElem i hi
  rw[this,List.getD_eq_getElem?_getD,hp];rfl
structure bI where
  n:Str
  u:Str
  lo:Int
  hi:Int
def dU(f:bI):List V:=[.str f.n,.str f.u,.int f.lo,.int f.hi]
structure nP(us:List Str)(f:bI):Prop where
  n:lY f.n=true
  u:f.u∈us
  le:f.lo<=f.hi
  lo:nN f.lo
  hi:nN f.hi
theorem iM.mono{us qH:List Str}{t:av}(h:iM us t)(s:∀x∈us,x∈qH):iM qH t:=⟨h.ok.mono s,s _ h.a,s _ h.b⟩
theorem nP.mono{us qH:List Str}{f:bI}(h:nP us f)(s:∀x∈us,x∈qH):nP qH f:=⟨h.n,s _ h.u,h.le,h.lo,h.hi⟩
theorem nP.words{us:List Str}{f:bI}(h:nP us f)(hu:∀x∈us,lY x=true):∀v∈dU f,Wd v:=by
  intro v hv;simp[dU] at hv;rcases hv with rfl | rfl | rfl | rfl
  · exact .inl ⟨_,rfl,Nat.le_trans (CW h.n) (by decide)⟩
  · exact .inl ⟨_,rfl,Nat.le_trans (CW (hu _ h.u)) (by decide)⟩
  · exact .inr ⟨_,rfl,h.lo⟩
  · exact .inr ⟨_,rfl,h.hi⟩
structure AO(lo hi:Int)(us:List Str)(ts:List av)(fs:List bI):Prop where
  fr:lo<=hi
  WS:nN lo
  HB:nN hi
  nd:us.Nodup
  nm:∀x∈us,lY x=true
  ul:us.length<=8
  tok:∀t∈ts,iM us t
  qJ:ts.Nodup
  tl:ts.length<=16
  uP:∀f∈fs,nP us f
  HC:(fs.map bI.n).Nodup
  fl:fs.length<=6
theorem AO.tw{lo hi:Int}{us:List Str}{ts:List av}{fs:List bI}(h:AO lo hi us ts fs):∀vs∈ts.map bg,∀v∈vs,Wd v:=fun vs hv=>by
  obtain⟨u,hu,rfl⟩:=List.mem_map.mp hv;exact((h.tok u hu).ok.words h.nm).1
structure gF(K:PySem.W.Frag)(H:Hp)(p pm pu pt pf:Addr)(lo hi:Int)(us:List Str)(ts:List av)(fs:List bI)(at' af:List Addr):Prop where
  p:aG K H p [.ref pm,.ref pu,.ref pt,.ref pf]
  at':jr K H pm pu pt pf lo hi us (ts.map bg) (fs.map dU) at' af
theorem gF.same{K:PySem.W.Frag}{H H':Hp}{p pm pu pt pf:Addr}{lo hi:Int}{us:List Str}{ts:List av}{fs:List bI}{at' af:List Addr}(h:gF K H p pm pu pt pf lo hi us ts fs at' af)(s:ah H H'):gF K H' p pm pu pt pf lo hi us ts fs at' af:=
  ⟨s.tup h.p,h.at'.same s⟩
theorem OE{xs:List Str}(nd:xs.Nodup)(t m:Nat):((xs.drop t++xs.take t).filter fun x=>decide (x∈xs.take m)).Nodup/\∀x,x∈(xs.drop t++xs.take t).filter (fun x=>decide (x∈xs.take m))↔x∈xs.take m:=by
  have pm:(xs.drop t++xs.take t).Perm xs:=by
    have:=List.perm_append_comm (l₁:=xs.drop t) (l₂:=xs.take t)
    rwa [List.take_append_drop] at this
  refine⟨(pm.nodup_iff.mpr nd).sublist (List.filter_sublist ..),fun x=>?_⟩;rw[List.mem_filter,decide_eq_true_iff,pm.mem_iff];exact⟨fun h=>h.2,fun h=>⟨List.mem_of_mem_take h,h⟩⟩
theorem OF{xs:List V}{z:Int}(h0:0<=z)(h1:z<=xs.length):fK xs (some z) none=xs.drop z.toNat:=by
  unfold fK HT.bR;simp;split
  · omega
  · rw[Nat.min_eq_left (by omega)];apply List.take_of_length_le;rw[List.length_drop];omega
abbrev Ln:=Str->List (Str×Addr)
def aZ(ts:List av)(z:List (av×Addr)):Ln:=fun k=>(z.filter fun p=>decide (p.1.k≠bK/\aj ts p.1.a=k)).map fun p=>(aj ts p.1.b,p.2)
theorem HD{ts:List av}{z:List (av×Addr)}{i:Nat}{t:av}{r:Addr}{k:Str}(h:z[i]? = some (t,r)):aZ ts (z.take (i+1)) k=aZ ts (z.take i) k++(if t.k≠bK/\aj ts t.a=k then[(aj ts t.b,r)] else[]):=by
  unfold aZ;rw[List.take_add_one,h,List.filter_append,List.map_append]
  by_cases c:t.k≠bK/\aj ts t.a=k
  · rw[if_pos c];simp[c.1,c.2]
  · rw[if_neg c]
    congr 1
    have:((some (t,r)).toList.filter fun p=>decide (p.1.k≠bK/\aj ts p.1.a=k)) = []:=by
      rw[List.filter_eq_nil_iff];intro p hp;have:p=(t,r):=by simpa using hp
      subst this;intro e;exact c (of_decide_eq_true e)
    rw[this];rfl
theorem g9{ts:List av}{z:List (av×Addr)}{k l:Str}{r:Addr}:(l,r)∈aZ ts z k↔∃t,(t,r)∈z/\t.k≠bK/\aj ts t.a=k/\aj ts t.b=l:=by
  unfold aZ;rw[List.mem_map];constructor
  · rintro⟨⟨t,r'⟩,h,e⟩;rw[List.mem_filter,decide_eq_true_iff] at h;simp only[Prod.mk.injEq] at e;obtain⟨e1,e2⟩:=e;subst e2;exact⟨t,h.1,h.2.1,h.2.2,e1⟩
  · rintro⟨t,h1,h2,h3,h4⟩;refine⟨(t,r),?_,by simp[h4]⟩;rw[List.mem_filter,decide_eq_true_iff];exact⟨h1,h2,h3⟩
theorem AQ{ts:List av}{z:List (av×Addr)}{k:Str}:(aZ ts z k).length<=z.length:=by
  unfold aZ;rw[List.length_map];exact List.length_filter_le _ _
inductive Wk(ln:Ln)(s:Str):List Addr->Str->Prop
  | nil:Wk ln s [] s
  | snoc {rs:List Addr}{m l:Str}{r:Addr}(w:Wk ln s rs m) (h:(l,r)∈ln m):Wk ln s (rs++[r]) l
def Rc(ln:Ln)(s:Str)(n:Nat)(v:Str):Prop:=∃rs,Wk ln s rs v/\rs.length=n
theorem Rc.zero{ln:Ln}{s v:Str}(h:Rc ln s 0 v):v=s:=by
  obtain⟨rs,w,e⟩:=h;cases w with
  | nil=>rfl
  | snoc w h=>simp at e
theorem Rc.succ{ln:Ln}{s v:Str}{n:Nat}(h:Rc ln s (n+1) v):∃u r,Rc ln s n u/\(v,r)∈ln u:=by
  obtain⟨rs,w,e⟩:=h;cases w with
  | nil=>simp at e
  | snoc w h=>exact⟨_,_,⟨_,w,by simpa using e⟩,h⟩
theorem Rc.step{ln:Ln}{s v u:Str}{n:Nat}{r:Addr}(h:Rc ln s n u)(e:(v,r)∈ln u):Rc ln s (n+1) v:=by
  obtain⟨rs,w,q⟩:=h;exact⟨_,w.snoc e,by simp[q]⟩
structure Bf(ln:Ln)(s:Str)(d:Nat)(M ns:List Str):Prop where
  met:∀v∈M,∃j,1<=j/\j<=d/\Rc ln s j v
  no:∀j,1<=j->j<=d->¬Rc ln s j s
  all:∀v,Rc ln s d v->(∀j,1<=j->j<d->¬Rc ln s j v)->v∈ns
theorem Bf.zero{ln:Ln}{s:Str}:Bf ln s 0 [] [s]:=
  ⟨fun v h=>(List.not_mem_nil h).elim,fun j h1 h2=>by omega,fun v h _=>by rw[h.zero];simp⟩
theorem Bf.succ{ln:Ln}{s:Str}{d:Nat}{M ns ms:List Str}(b:Bf ln s d M ns)(hm:∀v∈ms,Rc ln s (d+1) v)(hs:∀u∈ns,∀v r,(v,r)∈ln u->v≠s/\v∈M++ms):Bf ln s (d+1) (M++ms) ms:=by
  refine⟨fun v h=>?_,fun j h1 h2 q=>?_,fun v h hj=>?_⟩
  · rcases List.mem_append.mp h with h | h
    · obtain⟨j,a,c,e⟩:=b.met v h;exact⟨j,a,by omega,e⟩
    · exact⟨d+1,by omega,by omega,hm v h⟩
  · by_cases c:j<=d
    · exact b.no j h1 c q
    · have e:j=d+1:=by omega
      subst e;obtain⟨u,r,hu,he⟩:=q.succ
      by_cases c2:∃j,1<=j/\j<d/\Rc ln s j u
      · obtain⟨j,a1,a2,a3⟩:=c2;exact b.no (j+1) (by omega) (by omega) (a3.step he)
      · exact(hs u (b.all u hu fun j a1 a2 a3=>c2 ⟨j,a1,a2,a3⟩) s r he).1 rfl
  · obtain⟨u,r,hu,he⟩:=h.succ;have bL:u∈ns:=b.all u hu fun j a1 a2 a3=>hj (j+1) (by omega) (by omega) (a3.step he)
    rcases List.mem_append.mp (hs u bL v r he).2 with h | h
    · obtain⟨j,a1,a2,a3⟩:=b.met v h;exact absurd a3 (hj j a1 (by omega))
    · exact h
theorem Bf.done{ln:Ln}{s:Str}{d:Nat}{M:List Str}(b:Bf ln s d M []):∀j,1<=j->¬Rc ln s j s:=by
  have low:∀j v,1<=j->Rc ln s j v->∃j',1<=j'/\j'<=d/\Rc ln s j' v/\j'<max d 1:=by
    intro j
    induction j with
    | zero=>intro v h;omega
    | succ j ih=>
      intro v _ h;have xU:Rc ln s d v->∃j',1<=j'/\j'<=d/\Rc ln s j' v/\j'<max d 1:=fun q=>by
        by_cases c:∃j,1<=j/\j<d/\Rc ln s j v
        · obtain⟨i,a1,a2,a3⟩:=c;exact⟨i,a1,by omega,a3,by omega⟩
        · exact nomatch b.all v q fun i a1 a2 a3=>c ⟨i,a1,a2,a3⟩
      by_cases c1:j+1<d
      · exact⟨j+1,by omega,by omega,h,by omega⟩
      · by_cases c2:j+1=d
        · exact xU (c2▸h)
        · obtain⟨u,r,hu,he⟩:=h.succ
          by_cases c3:j=0
          · have:d=0:=by omega
            subst this;subst c3;exact(nomatch b.all s ⟨[],.nil,rfl⟩ fun i a1 a2 a3=>by omega)
          · obtain⟨j',a1,a2,a3,a4⟩:=ih u (by omega) hu
            by_cases c4:j'+1=d
            · exact xU (c4▸a3.step he)
            · exact⟨j'+1,by omega,by omega,a3.step he,by omega⟩
  intro j h q;obtain⟨j',a1,a2,a3,_⟩:=low j s h q;exact b.no j' a1 a2 a3
structure Bn(H:Hp)(pd:Addr)(ob:Obj)(keys:List Str)(ln:Ln)(ad:Str->Addr)(bs:Str->List Addr):Prop where
  d:H pd=some (.eB ob (.dK (dV keys fun k=>.ref (ad k))))
  l:∀k∈keys,H (ad k)=some (.lst ((bs k).map V.ref))
  e:∀k∈keys,Paired (fun b(p:Str×Addr)=>H b=some (.tup [.str p.1,.ref p.2])) (bs k) (ln k)
theorem Bn.same{H H':Hp}{pd:Addr}{ob:Obj}{keys:List Str}{ln:Ln}{ad:Str->Addr}{bs:Str->List Addr}(b:Bn H pd ob keys ln ad bs)(s:ah H H'):Bn H' pd ob keys ln ad bs:=
  ⟨s _ _ b.d,fun k hk=>s _ _ (b.l k hk),fun k hk=>Paired.cW (b.e k hk) fun _ _ h=>s _ _ h⟩
theorem mV{α:Type}{F:Addr->α->Prop}{as:List Addr}{ps:List α}{i:Nat}{x:V}(t:Paired F as ps)(hx:(as.map V.ref)[i]? = some x):∃q p,x = .ref q/\ps[i]? = some p/\as[i]? = some q/\F q p:=by
  rw[List.getElem?_map] at hx;cases e:as[i]? with
  | none=>rw[e] at hx;cases hx
  | some q=>
    rw[e] at hx;cases hx;obtain⟨p,h1,h2⟩:=Paired.get' t e;exact⟨q,p,rfl,h1,rfl,h2⟩
def HE(H:Hp)(b:Addr)(e:Str×List Addr):Prop:=∃q,H b=some (.tup [.str e.1,.ref q])/\H q=some (.lst (e.2.map V.ref))
def Di(pl:Addr)(H:Hp)(b:Addr)(e:Str×List Addr):Prop:=∃q,q≠pl/\H b=some (.tup [.str e.1,.ref q])/\H q=some (.lst (e.2.map V.ref))
def eG:Str->V:=fun _=>.bl true
theorem Dj{M:List Str}{v:Str}(h:v ∉ M):putK (dV M eG) (Sum.inr v) (.bl true)=dV (M++[v]) eG:=by
  rw[oV h];refine l9 fun z _=>?_
  unfold eG;split<;>rfl
structure nQ(Hw H':Hp)(pm pl:Addr)(ln:Ln)(s:Str)(keys M:List Str)(d:Nat)(ml:List Addr)(fs:List (Str×List Addr)):Prop where
  kp:∀b o,b≠pm->Hw b=some o->H' b=some o
  m:H' pm=some (.dK (dV (M++fs.map Prod.fst) eG))
  l:H' pl=some (.lst (ml.map V.ref))
  w:Paired (Di pl H') ml fs
  ok:∀e∈fs,Wk ln s e.2 e.1/\e.2.length=d+1/\e.1∈keys
  nd:(M++fs.map Prod.fst).Nodup
section
variable{Hw H':Hp}{pm pl:Addr}{ln:Ln}{s:Str}{keys M:List Str}{d:Nat}{ml:List Addr}{fs:List (Str×List Addr)}
theorem nQ.add(g:nQ Hw H' pm pl ln s keys M d ml fs)(hw:Hw pl=none)(qK:pl≠pm){v:Str}{rs:List Addr}(hv:v ∉ M++fs.map Prod.fst){H2:Hp}(s2:ah (upd H' pm (.dK (dV (M++fs.map Prod.fst++[v]) eG))) H2){q b:Addr}
    (hq:H2 q=some (.lst (rs.map V.ref))) (nq:q≠pl) (hb:H2 b=some (.tup [.str v,.ref q])) (ok:Wk ln s rs v/\rs.length=d+1/\v∈keys) :
    nQ Hw (upd H2 pl (.lst (ml.map V.ref++[.ref b]))) pm pl ln s keys M d (ml++[b]) (fs++[(v,rs)]):=by
  have l2:H2 pl=some (.lst (ml.map V.ref)):=s2 _ _ (by rw[zr qK];exact g.l);have pG:∀b vs,H2 b=some (.tup vs)->b≠pl:=fun b vs e z=>by rw[z,l2] at e;cases e
  refine⟨fun c o n e=>?_,?_,?_,?_,fun e he=>?_,?_⟩
  · rw[zr (zv e hw)];exact s2 _ _ (by rw[zr n];exact g.kp c o n e)
  · rw[zr (Ne.symm qK),List.map_append,←List.append_assoc];exact s2 _ _ zb
  · rw[zb,List.map_append];rfl
  · refine Paired.snoc (Paired.cW g.w fun c e h=>?_) ?_
    · obtain⟨q',n',h1,h2⟩:=h;have qL:=s2 _ _ (show upd H' pm (.dK (dV (M++fs.map Prod.fst++[v]) eG)) c=_ by rw[zr (fun z=>by rw[z,g.m] at h1;cases h1)];exact h1);have OG:=s2 _ _ (show upd H' pm (.dK (dV (M++fs.map Prod.fst++[v]) eG)) q'=_ by rw[zr (fun z=>by rw[z,g.m] at h2;cases h2)];exact h2);exact⟨q',n',by rw[zr (pG _ _ qL)];exact qL,by rw[zr n'];exact OG⟩
    · exact⟨q,nq,by rw[zr (pG _ _ hb)];exact hb,by rw[zr nq];exact hq⟩
  · rcases List.mem_append.mp he with he | he
    · exact g.ok e he
    · have:e=(v,rs):=by simpa using he
      subst this;exact ok
  · rw[List.map_append,←List.append_assoc];rw[List.nodup_append];refine⟨g.nd,by simp,fun a ha c hc e=>?_⟩;have hc:c=v:=by simpa using hc
    subst hc;subst e;exact hv ha
end
theorem Bn.get{H:Hp}{pd:Addr}{ob:Obj}{keys:List Str}{ln:Ln}{ad:Str->Addr}{bs:Str->List Addr}(b:Bn H pd ob keys ln ad bs){k:Str}(hk:k∈keys):aU H pd (.str k) (some (.ref (ad k))):=by
  have:aU H pd (kV (Sum.inr k)) (cF (dV keys fun k=>.ref (ad k)) (Sum.inr k)):=.inl ⟨_,_,.inr ⟨ob,b.d⟩,rfl,rfl⟩
  rwa [jt hk] at this
def HF(ln:Ln)(s:Str)(rs:List Addr):Prop:=(rs = []/\∀j,1<=j->¬Rc ln s j s)\/(rs≠[]/\Wk ln s rs s/\∀j,1<=j->j<rs.length->¬Rc ln s j s)
def ia(ln:Ln)(keys:List Str)(rs:List Addr):Prop:=(rs = []/\∀s∈keys,∀j,1<=j->¬Rc ln s j s)\/(rs≠[]/\(∃s∈keys,Wk ln s rs s)/\∀s∈keys,∀j,1<=j->j<rs.length->¬Rc ln s j s)
theorem ia.nil{ln:Ln}:ia ln [] []:=.inl ⟨rfl,fun s h=>(List.not_mem_nil h).elim⟩
theorem ia.step{ln:Ln}{keys:List Str}{u:Str}{rs xs:List Addr}(h:ia ln keys rs)(g:HF ln u xs):ia ln (keys++[u]) (if xs≠[]/\(rs = []\/xs.length<rs.length) then xs else rs):=by
  have mem:∀{s:Str},s∈keys++[u]->s∈keys\/s=u:=fun h=>by simpa using h
  have low:∀{n:Nat},n<=xs.length\/xs = []->∀j,1<=j->j<n->¬Rc ln u j u:=fun hn j h1 h2=>by
    rcases g with ⟨e,g⟩ | ⟨e,_,g⟩
    · exact g j h1
    · exact g j h1 (by rcases hn with hn | hn;omega;exact absurd hn e)
  by_cases c:xs≠[]/\(rs = []\/xs.length<rs.length)
  · rw[if_pos c];rcases g with ⟨e,_⟩ | ⟨_,g1,g2⟩
    · exact absurd e c.1
    · refine .inr ⟨c.1,⟨u,by simp,g1⟩,fun s hs j h1 h2=>?_⟩;rcases mem hs with hs | rfl
      · rcases h with ⟨_,h⟩ | ⟨hn,_,h⟩
        · exact h s hs j h1
        · rcases c.2 with z | z
          · exact absurd z hn
          · exact h s hs j h1 (by omega)
      · exact g2 j h1 h2
  · rw[if_neg c];rcases h with ⟨e,h⟩ | ⟨hn,⟨s,hs,hw⟩,h⟩
    · have ex:xs = []:=Decidable.byContradiction fun z=>c ⟨z,.inl e⟩
      refine .inl ⟨e,fun s hs j h1=>?_⟩;rcases mem hs with hs | rfl
      · exact h s hs j h1
      · rcases g with ⟨_,g⟩ | ⟨z,_⟩
        · exact g j h1
        · exact absurd ex z
    · refine .inr ⟨hn,⟨s,List.mem_append_left _ hs,hw⟩,fun s hs j h1 h2=>?_⟩;rcases mem hs with hs | rfl
      · exact h s hs j h1 h2
      · refine low (n:=rs.length) ?_ j h1 h2
        by_cases z:xs = []
        · exact .inr z
        · exact .inl (Nat.le_of_not_lt fun q=>c ⟨z,.inr q⟩)
theorem xV{us:List Str}{ts:List av}{ai:List Addr}(ht:∀t∈ts,t.a∈us/\t.b∈us):∀k∈zn ts (au us),∀l r,(l,r)∈aZ ts (ts.zip ai) k->l∈zn ts (au us):=by
  intro k _ l r h;obtain⟨t,h1,_,_,rfl⟩:=g9.mp h;exact qI ht (ht t (List.of_mem_zip h1).1).2
theorem sO{ks:List Str}{f:Str->V}{i:Nat}{k:Key}{v:V}(h:(dV ks f)[i]? = some (k,v)):∃u,ks[i]? = some u/\k=Sum.inr u/\v=f u:=by
  unfold dV at h;rw[List.getElem?_map] at h;cases e:ks[i]? with
  | none=>rw[e] at h;cases h
  | some u=>
    rw[e] at h;cases h;exact⟨u,rfl,rfl,rfl⟩
theorem OH{us:List Str}(P:Nat->Str->Bool)(mono:∀k x,P k x=true->P (k+1) x=true)(prog:∀k,(∃x∈us,P k x=false)->∃z∈us,P k z=false/\P (k+1) z=true):∀x∈us,P us.length x=true:=by
  intro x hx;refine Decidable.byContradiction fun hn=>?_
  have hn:P us.length x=false:=by simpa using hn
  have back:∀k,k<=us.length->P k x=false:=by
    intro k hk;cases e:P k x with
    | false=>rfl
    | true=>
      have:∀j,P (k+j) x=true:=by
        intro j
        induction j with
        | zero=>exact e
        | succ j ih=>exact mono _ _ ih
      have:=this (us.length-k);rw[show k+(us.length-k)=us.length by omega,hn] at this;cases this
  have cnt:∀k,k<=us.length->k<=us.countP (P k):=by
    intro k
    induction k with
    | zero=>intro _;exact Nat.zero_le _
    | succ k ih=>
      intro hk;have h1:=ih (by omega);obtain⟨z,hz,z1,z2⟩:=prog k ⟨x,hx,back k (by omega)⟩;have h2:us.countP (P k)<us.countP (P (k+1)):=by
        have gen:∀(l:List Str),us.Sublist us->(∀y∈l,P k y=true->P (k+1) y=true)->z∈l->l.countP (P k)<l.countP (P (k+1)):=by
          intro l _ hm hz
          induction l with
          | nil=>cases hz
          | cons y r OI=>
            rw[List.countP_cons,List.countP_cons];have le:r.countP (P k)<=r.countP (P (k+1)):=List.countP_mono_left fun y hy e=>hm y (List.mem_cons_of_mem _ hy) e
            rcases List.mem_cons.mp hz with e | hz
            · subst e;rw[z1,z2];simp;omega
            · have:=OI (fun y hy=>hm y (List.mem_cons_of_mem _ hy)) hz;have h3:(if P k y=true then 1 else 0)<=(if P (k+1) y=true then 1 else 0):=by
                by_cases c:P k y=true
                · rw[if_pos c,if_pos (hm y (by simp) c)];exact Nat.le_refl _
                · rw[if_neg c];exact Nat.zero_le _
              omega
        exact gen us (List.Sublist.refl _) (fun y _=>mono k y) hz
      omega
  have h1:=cnt us.length (Nat.le_refl _);have h2:us.countP (P us.length)<us.length:=by
    have:=List.countP_le_length (p:=P us.length) (l:=us);rcases Nat.lt_or_ge (us.countP (P us.length)) us.length with h | h
    · exact h
    · have e:us.countP (P us.length)=us.length:=by omega
      rw[List.countP_eq_length] at e;have:=e x hx;rw[hn] at this;cases this
  omega
def gG(aJ:Str->Str)(t:av):Str->Str:=if t.k=bK then fun x=>if x=t.a\/x=t.b then gp (aJ t.a) (aJ t.b) else aJ x else aJ
def ju(ts:List av)(aJ:Str->Str):Str->Str:=ts.foldl gG aJ
def cK(ts:List av):Nat->Str->Str
  | 0=>id
  | n+1=>ju ts (cK ts n)
theorem HG{ts:List av}{aJ:Str->Str}{i:Nat}{t:av}(h:ts[i]? = some t):ju (ts.take (i+1)) aJ=gG (ju (ts.take i) aJ) t:=by
  unfold ju;rw[List.take_add_one,h,List.foldl_append];rfl
def xW(ts:List av)(aJ:Str->Str):Prop:=∀x,Cn ts x (aJ x)
theorem OJ{ts:List av}{aJ:Str->Str}{t:av}(ht:t∈ts)(h:xW ts aJ):xW ts (gG aJ t):=by
  intro x;unfold gG;split
  · next hk=>
    have n:Nb ts t.a t.b:=⟨t,ht,hk,.inl ⟨rfl,rfl⟩⟩;dsimp only;split
    · next hx=>
      rcases hx with rfl | rfl
      · rcases C0 (aJ t.a) (aJ t.b) with e | e
        · rw[e];exact h _
        · rw[e];exact(Cn.one n).trans (h _)
      · rcases C0 (aJ t.a) (aJ t.b) with e | e
        · rw[e];exact(Cn.one n.symm).trans (h _)
        · rw[e];exact h _
    · exact h x
  · exact h x
theorem AR{x y z:Str}(h1:¬co x<co y)(h2:¬co y<co z):¬co x<co z:=by
  rw[List.not_lt] at *;exact List.le_trans h2 h1
theorem OL(aJ:Str->Str)(t:av)(x:Str):¬co (aJ x)<co (gG aJ t x):=by
  unfold gG;split
  · dsimp only;split
    · next hx=>
      rcases hx with rfl | rfl
      · exact C2 _ _
      · exact C3 _ _
    · exact List.lt_irrefl _
  · exact List.lt_irrefl _
theorem HH{ts:List av}:∀(us:List av)(aJ:Str->Str),(∀t∈us,t∈ts)->xW ts aJ->xW ts (ju us aJ)
  | [],aJ,_,h=>h
  | t::r,aJ,hs,h=>HH r (gG aJ t) (fun u hu=>hs u (List.mem_cons_of_mem _ hu)) (OJ (hs t (by simp)) h)
theorem xX:∀(us:List av)(aJ:Str->Str)(x:Str),¬co (aJ x)<co (ju us aJ x)
  | [],aJ,x=>List.lt_irrefl _
  | t::r,aJ,x=>AR (OL aJ t x) (xX r (gG aJ t) x)
theorem OM{ts:List av}(aJ:Str->Str){y z:Str}(n:Nb ts y z):¬co (aJ y)<co (ju ts aJ z):=by
  obtain⟨t,ht,hk,h⟩:=n;obtain⟨A,B,e⟩:=List.append_of_mem ht;subst e;have e:ju (A++t::B) aJ=ju B (gG (ju A aJ) t):=by unfold ju;rw[List.foldl_append];rfl
  rw[e];refine AR ?_ (xX B _ z);unfold gG;rw[if_pos hk]
  try dsimp only
  rcases h with ⟨rfl,rfl⟩ | ⟨rfl,rfl⟩
  · rw[if_pos (.inr rfl)];exact AR (xX A aJ _) (C2 _ _)
  · rw[if_pos (.inl rfl)];exact AR (xX A aJ _) (C3 _ _)
theorem HJ(ts:List av):∀n,xW ts (cK ts n)
  | 0=>fun x=>.refl x
  | n+1=>HH ts _ (fun _ h=>h) (HJ ts n)
theorem HK(ts:List av)(n:Nat)(x:Str):¬co (cK ts n x)<co (aj ts x):=(sL ts).le x _ (HJ ts n x)
theorem ON{us:List Str}{ts:List av}(ht:∀t∈ts,t.a∈us/\t.b∈us):∀x∈us,cK ts us.length x=aj ts x:=by
  intro x hx;have mono:∀k x,cK ts k x=aj ts x->cK ts (k+1) x=aj ts x:=fun k x e=>by
    have h1:=xX ts (cK ts k) x;rw[e] at h1;exact xP (HK ts (k+1) x) h1
  have:=OH (us:=us) (fun k x=>decide (cK ts k x=aj ts x)) (fun k x e=>decide_eq_true (mono k x (of_decide_eq_true e))) ?_ x hx
  · exact of_decide_eq_true this
  · rintro k ⟨x,hx,e⟩;have e:¬cK ts k x=aj ts x:=of_decide_eq_false e;have top:cK ts k (aj ts x)=aj ts (aj ts x):=by
      clear e;rename_i e;clear e
      induction k with
      | zero=>rw[De];rfl
      | succ k ih=>exact mono k _ ih
    have c:Cn ts (aj ts x) x:=((sL ts).to x).symm;have walk:∀y,Cn ts (aj ts x) y->cK ts k y≠aj ts y->∃a b,Nb ts a b/\cK ts k a=aj ts a/\cK ts k b≠aj ts b:=by
      intro y c
      induction c with
      | refl=>intro h;exact absurd top h
      | @step y z c n ih=>
        intro h
        by_cases q:cK ts k y=aj ts y
        · exact⟨y,z,n,q,h⟩
        · exact ih q
    obtain⟨a,b,n,ha,hb⟩:=walk x c e;refine⟨b,n.mem ht,decide_eq_false hb,decide_eq_true ?_⟩;have h1:=OM (ts:=ts) (cK ts k) n;rw[ha,(sL ts).eq a b (Cn.one n)] at h1;exact xP (HK ts (k+1) b) h1
abbrev Lk:=List (Str×Str)
theorem Wk.seq{ln:Ln}{s t:Str}{rs:List Addr}(w:Wk ln s rs t):∃vs:Nat->Str,vs 0=s/\vs rs.length=t/\∀i,i<rs.length->∃r,rs[i]? = some r/\(vs (i+1),r)∈ln (vs i):=by
  induction w with
  | nil=>exact⟨fun _=>s,rfl,rfl,fun i h=>by simp at h⟩
  | @snoc rs m l r w h ih=>
    obtain⟨vs,h0,h1,h2⟩:=ih;refine⟨fun i=>if i=rs.length+1 then l else vs i,?_,?_,fun i hi=>?_⟩
    · dsimp only;rw[if_neg (by omega)];exact h0
    · dsimp only;rw[if_pos (by simp)]
    · dsimp only;rw[List.length_append] at hi;have hi:i<rs.length+1:=hi
      by_cases c:i=rs.length
      · subst c;rw[if_pos rfl,if_neg (by omega),h1];exact⟨r,by simp,h⟩
      · obtain⟨r',e,q⟩:=h2 i (by omega);rw[if_neg (by omega),if_neg (by omega)];exact⟨r',by rw[List.getElem?_append_left (by omega)];exact e,q⟩
def kJ(ts:List av):Lk:=(ts.filter fun t=>decide (t.k≠bK)).map fun t=>(aj ts t.a,aj ts t.b)
theorem OO{ts:List av}{x y:Str}:(x,y)∈kJ ts↔∃t∈ts,t.k≠bK/\aj ts t.a=x/\aj ts t.b=y:=by
  unfold kJ;rw[List.mem_map];constructor
  · rintro⟨t,h,e⟩;rw[List.mem_filter,decide_eq_true_iff] at h;simp only[Prod.mk.injEq] at e;exact⟨t,h.1,h.2,e⟩
  · rintro⟨t,h1,h2,h3,h4⟩;exact⟨t,by rw[List.mem_filter,decide_eq_true_iff];exact⟨h1,h2⟩,by rw[h3,h4]⟩
theorem OP{ts:List av}{ai:List Addr}(hl:ai.length=ts.length){x y:Str}:(x,y)∈kJ ts↔∃r,(y,r)∈aZ ts (ts.zip ai) x:=by
  rw[OO];constructor
  · rintro⟨t,h1,h2,h3,h4⟩;obtain⟨i,hi,e⟩:=List.mem_iff_getElem.mp h1;refine⟨ai[i]'(by omega),g9.mpr ⟨t,?_,h2,h3,h4⟩⟩;rw[List.mem_iff_getElem];exact⟨i,by rw[List.length_zip];omega,by rw[List.getElem_zip,e]⟩
  · rintro⟨r,h⟩;obtain⟨t,h1,h2,h3,h4⟩:=g9.mp h;exact⟨t,(List.of_mem_zip h1).1,h2,h3,h4⟩
theorem OQ{ln:Ln}{F:List Str}(hn:F≠[])(h:∀x∈F,∃y∈F,∃r,(y,r)∈ln x):∃s∈F,∃j,1<=j/\Rc ln s j s:=by
  obtain⟨x0,h0⟩:=List.exists_mem_of_ne_nil F hn;have hf:∃f:Str->Str,∀x∈F,f x∈F/\∃r,(f x,r)∈ln x:=by
    refine⟨fun x=>if c:x∈F then(h x c).choose else x,fun x hx=>?_⟩;dsimp only;rw[dif_pos hx];exact(h x hx).choose_spec
  obtain⟨f,hf⟩:=hf
  let x:Nat->Str:=fun n=>Nat.rec x0 (fun _ y=>f y) n
  have hx:∀n,x n∈F:=by
    intro n
    induction n with
    | zero=>exact h0
    | succ n ih=>exact(hf _ ih).1
  have go:∀i d,Rc ln (x i) d (x (i+d)):=by
    intro i d
    induction d with
    | zero=>exact⟨[],.nil,rfl⟩
    | succ d ih=>
      obtain⟨r,e⟩:=(hf _ (hx (i+d))).2;exact ih.step e
  have rep:∃i j,i<j/\x i=x j:=by
    refine Classical.byContradiction fun hn=>?_
    have nd:((List.range (F.length+1)).map x).Nodup:=CV fun i j _ _ e=>by
      rcases Nat.lt_trichotomy i j with c | c | c
      · exact absurd ⟨i,j,c,e⟩ hn
      · exact c
      · exact absurd ⟨j,i,c,e.symm⟩ hn
    have:=lD nd (us:=F) fun y hy=>by
      obtain⟨i,_,rfl⟩:=List.mem_map.mp hy;exact hx i
    simp at this;omega
  obtain⟨i,j,jZ,e⟩:=rep;refine⟨x i,hx i,j-i,by omega,?_⟩;have:=go i (j-i)
  rwa [show i+(j-i)=j by omega,←e] at this
structure iB(K:PySem.W.Frag)(H:Hp)(p pu pt:Addr)(x y:V)(us:List Str)(ai:List Addr)(ts:List av):Prop where
  p:aG K H p [x,.ref pu,.ref pt,y]
  u:ao K H pu (us.map V.str)
  t:ao K H pt (ai.map V.ref)
  tt:aV H ai (ts.map bg)
  nd:us.Nodup
  ul:us.length<64
  tl:ts.length<=900
  ok:∀t∈ts,iM us t
section
variable{K:PySem.W.Frag}{H H':Hp}{p pu pt:Addr}{x y:V}{us:List Str}{ai:List Addr}{ts:List av}
theorem iB.same(h:iB K H p pu pt x y us ai ts)(s:ah H H'):iB K H' p pu pt x y us ai ts:=⟨s.tup h.p,s.seq h.u,s.seq h.t,h.tt.same s,h.nd,h.ul,h.tl,h.ok⟩
theorem iB.ends(h:iB K H p pu pt x y us ai ts):∀t∈ts,t.a∈us/\t.b∈us:=fun t ht=>⟨(h.ok t ht).a,(h.ok t ht).b⟩
theorem iB.len(h:iB K H p pu pt x y us ai ts):ai.length=ts.length:=by have:=h.tt.len;rw[List.length_map] at this;exact this
theorem iB.gv(h:iB K H p pu pt x y us ai ts):(zn ts (au us)).length<=63:=by
  have:=Dh (us:=us) (ts:=ts) h.nd;have:=h.ul;unfold mU at *;rw[List.length_map] at *;omega
end
def AS:Str:="after"
def bT(t:av):Int:=t.g.getD 0
theorem iM.after{us:List Str}{t:av}(h:iM us t)(e:t.k=AS):gC (bg t) 3=some (.int (bT t)):=by
  have h:=h.ok;obtain⟨k,a,b,g⟩:=t;cases g with
  | some n=>exact iU (xs:=bg ⟨k,a,b,some n⟩) (j:=3) rfl
  | none=>
    exfalso;unfold bg at h;simp only at h e;subst e;cases h with
    | plain hk hx hy=>revert hk;decide
theorem iM.plain{us:List Str}{t:av}(h:iM us t)(e:t.k≠AS):bT t=0:=by
  have h:=h.ok;obtain⟨k,a,b,g⟩:=t;cases g with
  | none=>rfl
  | some n=>
    exfalso;unfold bg at h;simp only at h e;generalize ew:([V.str k,V.str a,V.str b,V.int n]:List V)=ws at h;cases h with
    | plain hk hx hy=>simp at ew
    | after hx hy h0 h1=>
      simp only[List.cons.injEq,V.str.injEq] at ew;exact e ew.1
abbrev cZ:=Str×Str×Int×Addr
def sP(ts:List av)(z:List (av×Addr)):List cZ:=(z.filter fun p=>decide (p.1.k≠bK)).map fun p=>(aj ts p.1.a,aj ts p.1.b,bT p.1,p.2)
section
variable{K:PySem.W.Frag}{H:Hp}{n:Nat}
theorem aV.nR{as:List Addr}{ts:List av}:aV H as (ts.map bg)->∀{t:av}{r:Addr},(t,r)∈ts.zip as->H r=some (.tup (bg t))/\r∈as/\t∈ts:=by
  intro h t r hz;obtain⟨i,hi,e⟩:=List.mem_iff_getElem.mp hz;have e':(ts.zip as)[i]? = some (t,r):=by rw[List.getElem?_eq_getElem hi,e]
  obtain⟨e1,e2⟩:=List.getElem?_zip_eq_some.mp e';obtain⟨ws,h1,h2⟩:=Paired.get' h e2;rw[List.getElem?_map,e1] at h1;cases h1;exact⟨h2,List.mem_of_getElem? e2,List.mem_of_getElem? e1⟩
end
theorem HL{α:Type}{xs:List α}{i:Nat}{v:α}(hi:i<xs.length)(h:xs[if i=0 then xs.length-1 else i-1]? = some v):gC xs (0+(i:Int)-1)=some v:=by
  unfold gC rZ
  by_cases c:i=0
  · subst c;rw[if_pos rfl] at h;rw[if_neg (by omega),if_pos (by omega)];rw[show(0+((0:Nat):Int)-1+(xs.length:Int)).toNat=xs.length-1 by omega];exact h
  · rw[if_neg c] at h;rw[if_pos (by omega),if_pos (by omega),show(0+(i:Int)-1).toNat=i-1 by omega];exact h
structure sQ(ts:List av)(ai:List Addr)(rs:List Addr)(vs:Nat->Str):Prop where
  at':∀i r,rs[i]? = some r->∃t,(t,r)∈ts.zip ai/\t.k≠bK/\aj ts t.a=vs i/\aj ts t.b=vs (i+1)
  cl:vs 0=vs rs.length
theorem Wk.pX{ts:List av}{ai:List Addr}{s:Str}{rs:List Addr}(w:Wk (aZ ts (ts.zip ai)) s rs s):∃vs,sQ ts ai rs vs:=by
  obtain⟨vs,h0,h1,h2⟩:=w.seq;refine⟨vs,fun i r e=>?_,by rw[h0,h1]⟩;obtain⟨r',e',q⟩:=h2 i (eT e);rw[e] at e';cases e';obtain⟨t,a,b,c,d⟩:=g9.mp q;exact⟨t,a,b,c,d⟩
theorem ia.pX{us:List Str}{ts:List av}{ai:List Addr}{rs:List Addr}(h:ia (aZ ts (ts.zip ai)) (zn ts (au us)) rs):∃vs,sQ ts ai rs vs:=by
  rcases h with ⟨e,_⟩ | ⟨_,⟨s,_,w⟩,_⟩
  · subst e;exact⟨fun _=>"",fun i r e=>by simp at e,rfl⟩
  · exact w.pX
theorem ia.len{ln:Ln}{keys:List Str}{rs xs:List Addr}(h:ia ln keys rs)(g:ia ln keys xs):rs.length=xs.length:=by
  have low:∀{as bs:List Addr},ia ln keys as->ia ln keys bs->as.length<=bs.length:=by
    intro as bs h g;rcases g with ⟨e,g⟩ | ⟨e,⟨s,hs,w⟩,_⟩
    · rcases h with ⟨e',_⟩ | ⟨e',⟨s,hs,w⟩,_⟩
      · rw[e,e'];exact Nat.le_refl _
      · exact absurd ⟨_,w,rfl⟩ (g s hs _ (List.length_pos_iff.mpr e'))
    · rcases h with ⟨e',h⟩ | ⟨_,_,h⟩
      · rw[e'];exact Nat.zero_le _
      · exact Nat.le_of_not_lt fun c=>h s hs _ (List.length_pos_iff.mpr e) c ⟨_,w,rfl⟩
  exact Nat.le_antisymm (low h g) (low g h)
theorem ia.dg{ln:Ln}{keys:List Str}{rs:List Addr}(h:ia ln keys rs):rs≠[]↔∃s∈keys,∃j,1<=j/\Rc ln s j s:=by
  rcases h with ⟨e,h⟩ | ⟨e,⟨s,hs,w⟩,_⟩
  · exact⟨fun z=>absurd e z,fun⟨s,hs,j,hj,r⟩=>absurd r (h s hs j hj)⟩
  · exact⟨fun _=>⟨s,hs,_,List.length_pos_iff.mpr e,_,w,rfl⟩,fun _=>e⟩
def cJ(ln:Ln)(keys:List Str):Prop:=∀s∈keys,∀j,1<=j->¬Rc ln s j s
def mW(M:List Str)(L:List (Str×Addr)):Bool:=L.all fun p=>decide (p.1∈M)
def mh(ln:Ln)(keys M:List Str):List Str:=keys.filter fun x=>decide (x ∉ M)&&mW M (ln x)
theorem OR{M:List Str}{L:List (Str×Addr)}:mW M L=true↔∀l r,(l,r)∈L->l∈M:=by
  unfold mW;rw[List.all_eq_true];constructor
  · intro h l r hm;exact of_decide_eq_true (h (l,r) hm)
  · intro h p hp;exact decide_eq_true (h p.1 p.2 hp)
theorem fD{ln:Ln}{keys M:List Str}{x:Str}:x∈mh ln keys M↔x∈keys/\x ∉ M/\∀l r,(l,r)∈ln x->l∈M:=by
  unfold mh;rw[List.mem_filter,Bool.and_eq_true,decide_eq_true_iff,OR]
theorem OS{ln:Ln}{keys M:List Str}(cl:∀k∈keys,∀l r,(l,r)∈ln k->l∈keys)(nr:cJ ln keys)(hx:∃x∈keys,x ∉ M):mh ln keys M≠[]:=by
  intro z;obtain⟨x,h1,h2⟩:=hx;obtain⟨s,hs,j,hj,r⟩:=OQ (ln:=ln) (F:=keys.filter fun x=>decide (x ∉ M)) (List.ne_nil_of_mem (List.mem_filter.mpr ⟨h1,decide_eq_true h2⟩)) fun y hy=>by
    rw[List.mem_filter,decide_eq_true_iff] at hy;refine Classical.byContradiction fun hn=>?_
    have:y∈mh ln keys M:=fD.mpr ⟨hy.1,hy.2,fun l r hl=>Decidable.byContradiction fun q=>hn ⟨l,List.mem_filter.mpr ⟨cl y hy.1 l r hl,decide_eq_true q⟩,r,hl⟩⟩;rw[z] at this;cases this
  exact nr s (List.mem_filter.mp hs).1 j hj r
structure Ord(ln:Ln)(keys os:List Str):Prop where
  nd:os.Nodup
  sub:∀x∈os,x∈keys
  low:∀(i:Nat)o,os[i]? = some o->∀l r,(l,r)∈ln o->l∈os.take i
  least:∀(i:Nat)o,os[i]? = some o->∀x∈keys,x ∉ os.take i->(∀l r,(l,r)∈ln x->l∈os.take i)->¬co x<co o
theorem Ord.nil{ln:Ln}{keys:List Str}:Ord ln keys []:=⟨by simp,by simp,by simp,by simp⟩
theorem Ord.snoc{ln:Ln}{keys os:List Str}{u:Str}{r:List Str}(h:Ord ln keys os)(kl:keys.Pairwise (fun a b=>co a<co b))(hu:mh ln keys os=u::r):Ord ln keys (os++[u]):=by
  have hm:u∈mh ln keys os:=by rw[hu];simp
  obtain⟨m1,m2,m3⟩:=fD.mp hm;have at':∀(i:Nat)o,(os++[u])[i]? = some o->(i<os.length/\os[i]? = some o/\(os++[u]).take i=os.take i)\/(i=os.length/\o=u/\(os++[u]).take i=os):=by
    intro i o e
    by_cases c:i<os.length
    · rw[List.getElem?_append_left c] at e;exact .inl ⟨c,e,by rw[List.take_append_of_le_length (by omega)]⟩
    · have hi:=(List.getElem?_eq_some_iff.mp e).1;rw[List.length_append] at hi;have hi:i<os.length+1:=hi;have:i=os.length:=by omega
      subst this;simp at e;exact .inr ⟨rfl,e.symm,by simp⟩
  refine⟨?_,fun x hx=>?_,fun i o e l r' hl=>?_,fun i o e x hx hn hl=>?_⟩
  · rw[List.nodup_append];refine⟨h.nd,by simp,fun a ha b hb e=>?_⟩;have hb:b=u:=by simpa using hb
    subst hb;subst e;exact m2 ha
  · rcases List.mem_append.mp hx with hx | hx
    · exact h.sub x hx
    · have:x=u:=by simpa using hx
      rw[this];exact m1
  · rcases at' i o e with ⟨c,e',et⟩ | ⟨c,rfl,et⟩
    · rw[et];exact h.low i o e' l r' hl
    · rw[et];exact m3 l r' hl
  · rcases at' i o e with ⟨c,e',et⟩ | ⟨c,rfl,et⟩
    · rw[et] at hn hl;exact h.least i o e' x hx hn hl
    · rw[et] at hn hl;have AU:x∈mh ln keys os:=fD.mpr ⟨hx,hn,hl⟩;have pw:(mh ln keys os).Pairwise (fun a b=>co a<co b):=kl.sublist (List.filter_sublist ..);rw[hu] at AU pw;rcases List.mem_cons.mp AU with rfl | AU
      · exact List.lt_irrefl _
      · exact fun z=>xQ z ((List.pairwise_cons.mp pw).1 x AU)
theorem Ord.perm{ln:Ln}{keys os:List Str}(h:Ord ln keys os)(kn:keys.Nodup)(hl:os.length=keys.length):os.Perm keys:=by
  rw[List.perm_ext_iff_of_nodup h.nd kn];intro x;refine⟨h.sub x,fun hx=>?_⟩;refine Decidable.byContradiction fun hn=>?_
  have:=lD (us:=keys) (rs:=x::os) (List.nodup_cons.mpr ⟨hn,h.nd⟩) fun y hy=>by
    rcases List.mem_cons.mp hy with rfl | hy
    · exact hx
    · exact h.sub y hy
  rw[List.length_cons] at this;omega
end Dm
namespace L2
open PySem PySem.Spec PyProof.Rows
theorem OT{prog:Program}{w:World}{A:Around}{P:Nat->Value->Prop}(val:Nat->Str)(xY:∀i v,P i v->∃t,v=Value.str (val i) t) :
    CmpOf prog w A .Lt P (fun i j=>decide ((val i).cps.toList<(val j).cps.toList)):=fun i j vi vj s Q E hi hj h=>by
  obtain⟨t,rfl⟩:=xY i vi hi;obtain⟨u,rfl⟩:=xY j vj hj;exact richCompare_gives (op:=.Lt) (typeIs_str s _ t) (typeIs_str s _ u) PySem.F.slot_str_lt PySem.F.entry_str_lt (PySem.F.args_str_lt_2 _ _) (gives_str_lt _ _ t u) (fun x=>nomatch x) h
theorem OU{prog:Program}{w:World}{A:Around}{E:Value->Shared->Prop}{s:Shared}{a b:Str}{t u:Tok}{Q:Value->Shared->Prop}(hh:A.handled=none)
    (h:∀h' tk,(∀c o,s.heap.get? c=some o->h'.get? c=some o)->Q (if b.cps.toList<a.cps.toList then .str b u else .str a t) { s with heap:=h',toks:=tk }) :
    wpAny (model prog w) A (call (.builtin "min") [.str a t,.str b u]) Q E s:=by
  have hT:(s.heap.push { cls:=.type "tuple",data:=.seq #[.str a t,.str b u] }).IsTuple s.heap.objs.size #[.str a t,.str b u]:=⟨_,Heap.get?_push_size _ rfl,rfl,0,rfl⟩;refine call_min_two (wpAny_pyIter_tuple hT ?_);have hsz:(s.heap.push { cls:=.type "tuple",data:=.seq #[.str a t,.str b u] }).objs.size=s.heap.objs.size+1:=Heap.size_push ..;refine⟨_,[_,s.heap.objs.size],[_],_,_,_,_,rfl,Walks.tuple (A:=A.in1) hh _ s.heap.objs.size (by rw[hsz];exact Nat.ne_of_lt (Nat.lt_succ_self _)) #[.str a t,.str b u],
    ⟨⟨_,Heap.get?_push_size _ rfl,rfl,rfl⟩,hT.push _⟩,fun c hc=>?_,(by show 0<2;decide),OT (fun i=>if i=0 then a else b) (fun i v e=>?_),fun v h' tk hP hk=>?_⟩
  · show c<((s.heap.push _).push _).objs.size;rw[Heap.size_push,hsz];rcases List.mem_cons.mp hc with rfl | hc
    · rw[hsz];exact Nat.lt_succ_self _
    · rcases List.mem_cons.mp hc with rfl | hc
      · exact Nat.lt_succ_of_lt (Nat.lt_succ_self _)
      · cases hc
  · match i,e with
    | 0,e=>cases e;exact⟨t,rfl⟩
    | 1,e=>cases e;exact⟨u,rfl⟩
    | i+2,e=>simp at e
  · have hold:∀c o,s.heap.get? c=some o->h'.get? c=some o:=fun c o e=>by
      refine hk c o (fun hm=>?_) (Heap.get?_push_of_some _ (Heap.get?_push_of_some _ e));rcases List.mem_cons.mp hm with e1 | hm
      · have:=Heap.lt_size e;rw[e1,hsz] at this;exact Nat.lt_irrefl _ (Nat.lt_of_succ_lt this)
      · cases hm
    have:=h h' tk hold;have hv:v=if b.cps.toList<a.cps.toList then Value.str b u else Value.str a t:=by
      have j6:(#[Value.str a t,Value.str b u])[argBest (fun i j=>decide ((if i=0 then a else b).cps.toList<(if j=0 then a else b).cps.toList)) 1]? = some v:=hP
      by_cases AV:b.cps.toList<a.cps.toList
      · have e:argBest (fun i j=>decide ((if i=0 then a else b).cps.toList<(if j=0 then a else b).cps.toList)) 1=1:=by simp[argBest,AV]
        rw[e] at j6;rw[if_pos AV];exact(Option.some.inj j6).symm
      · have e:argBest (fun i j=>decide ((if i=0 then a else b).cps.toList<(if j=0 then a else b).cps.toList)) 1=0:=by simp[argBest,AV]
        rw[e] at j6;rw[if_neg AV];exact(Option.some.inj j6).symm
    rw[hv];exact this
theorem HM:∀(r:List Str)(x:Str),risingS x r=true->(x::r).Pairwise (fun a b=>¬b.cps.toList<a.cps.toList)
  | [],x,_=>List.pairwise_singleton ..
  | y::r,x,h=>by
    unfold risingS at h;rw[Bool.and_eq_true] at h;have ih:=HM r y h.2;have h1:¬y.cps.toList<x.cps.toList:=by
      intro z;have:ltCps y.cps.toList x.cps.toList=true:=by rw[ltCps_eq];exact decide_eq_true z
      rw[this] at h;simp at h
    refine List.pairwise_cons.mpr ⟨fun b hb=>?_,ih⟩;rcases List.mem_cons.mp hb with rfl | hb
    · exact h1
    · intro z;have h2:=(List.pairwise_cons.mp ih).1 b hb;rw[List.not_lt] at h1 h2;exact absurd z (List.not_lt.mpr (List.le_trans h1 h2))
theorem OV{ss:List Str}(h:sortedS ss=true):ss.Pairwise (fun a b=>¬b.cps.toList<a.cps.toList):=by
  cases ss with
  | nil=>exact .nil
  | cons x r=>exact HM r x h
section
variable{X:Cx}
theorem HN(hc:X.calm=true):ji X (.builtin "min") (fun xs H Q=>∃i j,xs = [.str i,.str j]/\Q (.str (if j.cps.toList<i.cps.toList then j else i)) H):=by
  intro pins s σ H xs us Q I r h;obtain⟨i,j,rfl,q⟩:=h;obtain⟨u,w',rfl,⟨t,rfl⟩,⟨t',rfl⟩⟩:=vZ r;refine OU (I.ok.hd hc) fun h' tk k=>⟨_,H,I.kept k,?_,q⟩
  by_cases hj:j.cps.toList<i.cps.toList
  · rw[if_pos hj,if_pos hj];exact⟨_,rfl⟩
  · rw[if_neg hj,if_neg hj];exact⟨_,rfl⟩
theorem Dk{K:PySem.W.Frag}(h:X.K=K):ji X (.builtin "sorted") (fun xs H Q=>∃(a:Addr)(ns:List Str),xs = [V.ref a]/\ao K H a (ns.map V.str)/\ns.length<64/\
    ∀(p:Addr)(ms:List Str),H p=none->ms.Perm ns->ms.Pairwise (fun a b=>¬b.cps.toList<a.cps.toList)->Q (.ref p) (upd H p (.lst (ms.map V.str)))):=by
  subst h;intro pins s σ H xs us Q I r h;obtain⟨a,ns,rfl,ha,hn,q⟩:=h;obtain⟨u,rfl,ru⟩:=j0 r;cases ru;obtain⟨its,rv,pl,hz⟩:=I.list ha;have hl:=rv.length;rw[List.length_map] at hl;refine PyProof.Rows.sorted_strs pl.isList (GH rv) (by omega) fun out ms a1 a2 a3=>?_
  obtain⟨e,he⟩:=PyProof.Rows.sortedAll_at s.heap its out;have uq:H (s.heap.objs.size+1)=none:=I.aI.fresh (Nat.le_succ _);have hm:ms.length=ns.length:=a2.length_eq;have hs:sizeLine=16777216:=sizeLine_eq;have vs:∀{us:List Value}{ys:List Str},StrsAre us ys->Vals (ys.map V.str) us:=by
    intro us ys h
    induction h with
    | nil=>exact .nil
    | cons x t _ ih=>exact .cons ⟨t,rfl⟩ ih
  refine⟨.ref (s.heap.objs.size+1),_,I.laid (t':=s.toks) (a:=s.heap.objs.size+1) (o:=.lst (ms.map V.str)) (fun b o eb=>PyProof.Rows.sortedAll_old eb) (Nat.le_succ _) ⟨?_,out.toList,e,vs a1,?_⟩,rfl,q _ ms uq a2 (OV a3)⟩
  · rw[List.length_map];omega
  · rw[he]
end
end L2
namespace HT
open PySem PySem.Spec PyProof.Rows PySem.Calls
end HT
namespace L2
open PySem PySem.Spec PyProof.Rows
section
variable{X:Cx}{pins:List (Addr×Obj)}{σ:St}{H:Hp}{s:Shared}{a:Addr}{u r:Value}{A:Around}{E:Value->Shared->Prop}
theorem OW{kvs:List (Key×V)}{k:Key}{z:V}{Q:Value->Shared->Prop}(I:Inv X pins σ H s)(e:H a=some (.dK kvs))(ry:RelV (kV k) u)(rz:RelV z r)(hl:kvs.length<sizeLine)
    (h1:∀v,cF kvs k=some v->∀w' s',Inv X pins σ H s'->RelV v w'->Q w' s') (h2:cF kvs k=none->∀s',Inv X pins σ (upd H a (.dK (putK kvs k z))) s'->Q r s') :
    wpAny (model X.prog X.w) A (call (.builtin "dict.setdefault") [.ref a,u,r]) Q E s:=by
  obtain⟨hz,hd,vs,rel,dd⟩:=Ck I.aI e;refine call_meetsIn PySem.F.slot_dict_setdefault dd.typeIs PySem.F.entry_dict_setdefault (PySem.F.args_dict_setdefault_3 _ _ _) (kt_meets_setdefault (jV X.prog X.w) a (uD ry) hd r)
    ⟨vs,dd,by rw[←rel.length];exact hz,fun v hv=>?_,fun hn h' oQ hs=>?_⟩
  · cases l:cF kvs k with
    | some v0=>
      obtain⟨w',hw,fj⟩:=fG.some_of (v:=v0) (o:=valueAt vs k) (by rw[←l];exact rel.val k);rw[hw] at hv;cases hv;exact h1 v0 l _ _ (I.tok _) fj
    | none=>
      have hn:valueAt vs k=none:=fG.none_of (by have:=rel.val k;rw[l] at this;exact this);rw[hn] at hv;cases hv
  · cases l:cF kvs k with
    | some v0=>
      obtain⟨w',hw,fj⟩:=fG.some_of (v:=v0) (o:=valueAt vs k) (by rw[←l];exact rel.val k);rw[hw] at hn;cases hn
    | none=>
      have iL:(putK kvs k z).length<=sizeLine:=by have:=Aq kvs k z;omega
      have he:∃q,h'.get? a=some q:=let ⟨q,_,_,hq,_⟩:=oQ;⟨q,hq⟩
      exact h2 l _ (Ar I (by rw[e];exact True.intro) hs he (Co iL hd (rel.put k rz) oQ))
end
def OX(td ty tx:TE):TE:=fun σ H Q=>td σ H fun x H1=>∃a,x = .ref a/\Gp H1 a/\ty σ H1 fun y H2=>tx σ H2 fun z H3=>∃kvs k,H3 a=some (.dK kvs)/\y=kV k/\kvs.length<sizeLine/\
  (∀v,cF kvs k=some v->Q v H3)/\(cF kvs k=none->Q z (upd H3 a (.dK (putK kvs k z))))
theorem OY{X:Cx}{o e f:Expr}{apos aS:Pos}{td ty tx:TE}(ho:PE X o td)(he:PE X e ty)(hf:PE X f tx)(m:M2 X o "setdefault" apos e f aS):PE X (.Call (.Attribute o "setdefault" apos) [e,f] [] aS) (OX td ty tx):=by
  intro pins s σ H Q I h;refine wpAny_Call_method m.base m.Ng m.line PySem.F.plainAttrs_dict PySem.F.slot_dict_setdefault PySem.F.type_dict_setdefault (aX (ho pins s σ H _ I h) fun u s1 aE=>?_);obtain⟨x,H1,I1,rx,a,ex,d,q1⟩:=aE;subst ex;obtain rfl:u=Value.ref a:=rx;obtain⟨t1,t2,_⟩:=Nh I1 d;refine⟨t1,t2,?_⟩;rw[m.trees];refine Calls.callWith_builtin rfl (Calls.evalArgs_plain (Calls.spliced_cons (aX (he pins s1 σ H1 _ I1 q1) fun iv s2 ⟨y,H2,I2,ry,q2⟩=>
    Calls.spliced_cons (aX (hf pins s2 σ H2 _ I2 q2) fun fv s3 ⟨z,H3,I3,rz,kvs,k,ea,ey,hl,q3,q4⟩=>Calls.spliced_nil ?_))))
  subst ey;exact OW I3 ea ry rz hl (fun v l w' s4 I4 fj=>⟨v,H3,I4,fj,q3 v l⟩) fun l s4 I4=>⟨z,_,I4,rz,q4 l⟩
def dd(val:Nat->Str):Nat->List Str
  | 0=>[]
  | i+1=>if val i∈dd val i then dd val i else dd val i++[val i]
section
variable{prog:Program}{w:World}{A:Around}{s:Shared}{R:Result->Shared->Prop}{I:Addr}{fp wr:List Addr}{n:Nat}{P:Nat->Value->Prop}{St:Nat->Heap->Prop}
theorem OZ(W:Walks prog w A.in1 I fp wr n P St)(hn:n<=sizeLine)(S:Addr)(c:Nat)(lS:St 0 s.heap)(hS:S ∉ fp)(hl:s.heap.get? S=some { cls:=.type "list",data:=.seq #[] c })(r:Value)
    (hR:∀s1 acc c1,Moved (S::wr) (fun a b=>b=a) s s1->s1.heap.get? S=some { cls:=.type "list",dict:=none,data:=.seq acc c1,slots:=#[] }->ItemsOf P acc n->R (.ok (.ret r)) s1) :
    wpAny (model prog w) A.in1 (rule "list.extend.makes-room" >>= fun _=>Builtin.List.listTouch (.ref S) >>= fun _=>again (.builtin "list.extend.loop" ⟨[.ref S,.ref I,r],[]⟩))
      (fun fin s1=>match fin with | .done f=>R (.ok f) s1 | .again c1=>c1.quiet=true/\codeAny (model prog w) A c1 R s1) (fun e s1=>R (.error e) s1) s:=by
  refine wpAny_bind (wpAny_rule (wpAny_bind ?_));show wpAny (model prog w) A.in1 (updateSeq S (·.push .none) >>= fun _=>updateSeq S (·.pop)) _ _ _;refine wpAny_bind (wpAny_updateSeq hl rfl ?_);have l2:=Heap.get?_update_self (Obj.mapSeq (·.push Value.none)) hl rfl;refine wpAny_updateSeq (hz:=by seq_fits) l2 rfl ?_;have l3:=Heap.get?_update_self (Obj.mapSeq (·.pop)) l2 rfl;have iX:∀b o,b≠S->s.heap.get? b=some o->((s.heap.update S (Obj.mapSeq (·.push Value.none))).update S (Obj.mapSeq (·.pop))).get? b=some o:=fun b o hb e=>(Heap.get?_update_other _ _ (Ne.symm hb)).trans ((Heap.get?_update_other _ _ (Ne.symm hb)).trans e)
  refine wpAny_pure ⟨plainId_quiet PySem.F.plain_extend_loop _,codeAny_extend_loopS W.toS hn _ hS _ n 0 _ _ _ rfl (Nat.zero_le _) (W.toS.frame 0 s _ s.toks lS (Nat.le_refl _) fun b hb o e=>iX b o (fun h=>hS (h▸hb)) e) l3 (ItemsOf.nil P) fun s1 acc c1 hm h1 h2=>?_⟩;have m0:Moved (S::wr) (fun(a b:Array GenState)=>b=a) s { s with heap:=(s.heap.update S (Obj.mapSeq (·.push Value.none))).update S (Obj.mapSeq (·.pop)) }:=⟨fun b o hb e=>iX b o (fun h=>hb (by simp[h])) e,rfl,rfl,rfl,Nat.le_refl _⟩;exact hR s1 acc c1 (Moved.trans (fun _ _ _ h1 h2=>h2.trans h1) m0 hm) h1 h2
end
section
variable{prog:Program}{w:World}{A:Around}{E:Value->Shared->Prop}{s:Shared}
theorem O0{P:Nat->Value->Prop}{acc:Array Value}{n:Nat}(h:ItemsOf P acc n)(l:List Value)(hl:l.length=n)(hp:∀i v,P i v->l[i]? = some v):acc.toList=l:=by
  apply List.ext_getElem?;intro i
  by_cases hi:i<n
  · have hs:i<acc.size:=by rw[h.1];exact hi
    have e:acc[i]? = some acc[i]:=Array.getElem?_eq_getElem hs;rw[hp i _ (h.2 i _ e),Array.getElem?_toList,e]
  · have h1:acc.toList.length<=i:=by rw[Array.length_toList,h.1];omega
    have h2:l.length<=i:=by omega
    rw[List.getElem?_eq_none h1,List.getElem?_eq_none h2]
end
theorem HP{c:TT}{t u:TS}{D:Ends}{σ:St}{H:Hp}(P:St->Prop)(b:Bool)(ht:∀Q':Bool->Hp->Prop,Q' b H->c σ H Q')(h1:b=true->∃oM,P oM/\(D.nx oM H->t D σ H))(h2:b=false->∃iR,P iR/\(D.nx iR H->u D σ H))
    (hn:∀aq,P aq->D.nx aq H):nA c t u D σ H:=by
  refine iz b ht ?_;cases b with
  | true=>
    obtain⟨oM,p,h⟩:=h1 rfl;exact dD (h (hn _ p))
  | false=>
    obtain⟨iR,p,h⟩:=h2 rfl;exact cT (h (hn _ p))
def uQ(a:Addr)(ob:Obj)(kvs:List (Key×V)):It:=
  ⟨fun i H=>H a=some (.eB ob (.dK kvs))/\i<kvs.length,fun i H x H'=>H'=H/\∃kv,kvs[i]? = some kv/\x=kV kv.1,fun i H=>H a=some (.eB ob (.dK kvs))/\kvs.length<=i⟩
theorem O1{P:Program}{w:World}{K:PySem.W.Frag}{tg:Expr}(a it:Addr){ob:Obj}{kvs:List (Key×V)}{es:Array DictEntry}{ep:Nat}(hd:ob.data = .dict es ep)(hl:es.size=kvs.length):Turn P w K tg (uQ a ob kvs) [it] it (fun i h=>h.IsKeyIter it a i es.size ep) where
  mem:=by simp
  obj:=fun i h st b hb=>by
    have e:b=it:=by simpa using hb
    subst e;obtain⟨o,e,c,d⟩:=st;exact⟨o,e,fun v z=>by rw[d] at z;cases z⟩
  keep:=fun i h h' st k=>st.at fun o e=>k it (by simp) o e
  item:=by
    intro X hP hw hK hc i pins s σ H E I hf st hg;subst hP hw hK;obtain⟨hq,hx⟩:=hg;obtain⟨e0,z,hs,vs,rel,o,qx,pJ,e,ex,dt,kk,pr,nd⟩:=I.aI a _ hq;rw[e0] at e;cases e;rw[hd] at dt;cases dt;have hi:i<es.size:=by omega
    have AG:es[i]? = some es[i]:=Array.getElem?_eq_getElem hi;obtain⟨f0,f1,f2,f3,f4,f5⟩:=hf it (by simp);refine GQ st ⟨ob,e0,ex,hd⟩ AG fun h' jI sb=>?_
    have I1:Inv X pins σ H { s with heap:=h' }:=I.turned (t':=s.toks) (fun b o hb e=>(sb.2 b hb).trans e) f0 f1 f3 f4 f5;obtain⟨oi,ei,ci,di⟩:=id jI;have ek:kvs[i]? = some kvs[i]:=List.getElem?_eq_getElem hx;obtain⟨w',hw,fj⟩:=Paired.get' rel ek;have:=(pr.get? (e:=es[i]) (k:=w'.1) (v:=w'.2) (i:=i) (by rw[Array.getElem?_toList];exact AG) (by rw[hw])).1;have e1:kvs[i].1=w'.1:=fj.1;exact⟨_,rfl,Ab (s:={ s with heap:=h' }) ei ci di (by decide) ⟨kV kvs[i].1,H,I1,by rw[e1];exact GX this,⟨rfl,_,ek,rfl⟩,jI,fun b hb=>(hf b hb).1⟩⟩
  done:=by
    intro X hP hw hK hc i pins s σ H E I hf st hg;subst hP hw hK;obtain⟨hq,hx⟩:=hg;obtain⟨e0,z,hs,vs,rel,o,qx,pJ,e,ex,dt,kk,pr,nd⟩:=I.aI a _ hq;rw[e0] at e;cases e;obtain⟨f0,f1,f2,f3,f4,f5⟩:=hf it (by simp);exact GR (I.ok.hd hc) st ⟨ob,e0,ex,hd⟩ (by omega) fun h' eb=>⟨rfl,I.turned (t':=s.toks) (fun b o hb e=>eb b o hb e) f0 f1 f3 f4 f5⟩
  self:=fun _ _ _ _ _ st h=>wpAny_pyIter_keyiter st h
section
variable{X:Cx}{tg:Expr}
def O2(tl:TE):TI:=fun σ H R=>tl σ H fun x H1=>∃a ob kvs,x = .ref a/\H1 a=some (.eB ob (.dK kvs))/\R (uQ a ob kvs) H1
theorem mj{l:Expr}{tl:TE}(hl:PE X l tl):PI X tg l (O2 tl):=by
  intro pins s σ H R I h;refine aX (hl pins s σ H _ I h) fun v s1 aE=>?_
  obtain⟨x,H1,I1,r1,q1⟩:=aE;obtain⟨a,ob,kvs,e,hq,q⟩:=q1;subst e;cases r1;obtain⟨e0,z,hs,vs,rel,o,es,ep,e,ex,dt,kk,pr,nd⟩:=I1.aI a _ hq;have WT:=e0;rw[e0] at e;cases e;have l1:kvs.length=vs.length:=Paired.length rel;have l2:es.size=vs.length:=by rw[←pr.length];simp
  refine CQ hs ⟨ob,e0,ex,dt⟩ ?_;refine⟨s1.heap.objs.size,[s1.heap.objs.size],_,_,H1,rfl,I1.kept (t':=s1.toks) fun b o e=>Heap.get?_push_of_some _ e,O1 a _ dt (l2.trans l1.symm),⟨_,Heap.get?_push_size _ rfl,rfl,rfl⟩,fun b hb=>?_,q⟩;have e:b=s1.heap.objs.size:=by simpa using hb
  subst e;exact I1.jh (Nat.le_refl _) (I1.aI.fresh (Nat.le_refl _))
theorem sR{a:Addr}{ob:Obj}{kvs:List (Key×V)}{g:TG}{tb:TS}{D:Ends}{σ:St}{H:Hp}(Pv:Nat->St->Hp->Prop)(h0:Pv 0 σ H)(hl:∀i σ H,i<=kvs.length->Pv i σ H->H a=some (.eB ob (.dK kvs)))
    (hs:∀i k v σ H,kvs[i]? = some (k,v)->Pv i σ H->g (kV k) σ H fun iR H2=>tb { D with nx:=Pv (i+1),ct:=Pv (i+1),bk:=D.nx } iR H2) (hd:∀σ H,Pv kvs.length σ H->D.nx σ H) :
    ∃W:Nat->Nat->St->Hp->Prop,(∃m,W 0 m σ H)/\∀i m σ H,W i m σ H->
      ((uQ a ob kvs).stop i H/\D.nx σ H)\/((uQ a ob kvs).go i H/\∃N:St->Hp->Prop,(∀aq H',N aq H'->∃m',m'<m/\W (i+1) m' aq H')/\∀x H',(uQ a ob kvs).mP i H x H'->g x σ H' fun iR H2=>tb { D with nx:=N,ct:=N,bk:=D.nx } iR H2):=by
  refine⟨fun i m σ H=>m=kvs.length-i/\i<=kvs.length/\Pv i σ H,⟨kvs.length,by simp,Nat.zero_le _,h0⟩,?_⟩;rintro i m σ H ⟨rfl,hi,p⟩;have q:=hl i σ H hi p
  by_cases bC:i<kvs.length
  · refine .inr ⟨⟨q,bC⟩,Pv (i+1),fun aq H' p'=>⟨kvs.length-(i+1),by omega,rfl,bC,p'⟩,fun x H' y=>?_⟩;obtain⟨e,kv,y,rfl⟩:=y;subst e;exact hs i kv.1 kv.2 σ _ y p
  · have e:i=kvs.length:=by omega
    subst e;exact .inl ⟨⟨q,Nat.le_refl _⟩,hd σ H p⟩
theorem Inv.frozen{pins:List (Addr×Obj)}{σ:St}{H:Hp}{s:Shared}{a:Addr}{kvs:List (Key×V)}(I:Inv X pins σ H s)(h:H a=some (.dK kvs)):∃ob,Inv X pins σ (upd H a (.eB ob (.dK kvs))) s:=by
  obtain⟨o,e⟩:∃o,s.heap.get? a=some o:=by
    obtain⟨_,_,_,_,o,_,_,e,_⟩:=I.aI a _ h;exact⟨o,e⟩
  have ok:=I.aI a _ h;refine⟨o,I.write (e:=a) (h':=s.heap) (t':=s.toks) (by rw[h];trivial) (.inl rfl) (fun b u _ q=>q) ⟨o,e⟩ ⟨e,?_⟩⟩;obtain⟨z,hd,vs,r⟩:=ok;exact⟨z,hd,vs,r⟩
def Dl(ts:TS):TS:=fun D σ H=>ts D σ H\/∃a kvs,H a=some (.dK kvs)/\∀ob,ts D σ (upd H a (.eB ob (.dK kvs)))
theorem qM{st:Stmt}{ts:TS}(h:PS X st ts):PS X st (Dl ts):=by
  intro pins s σ H D I q;rcases q with q | ⟨a,kvs,ha,q⟩
  · exact h pins s σ H D I q
  · obtain⟨ob,I'⟩:=I.frozen ha;exact h pins s σ _ D I' (q ob)
end
section
variable{X:Cx}{tg:Expr}
theorem AW{a:Addr}{ob:Obj}{kvs:List (Key×V)}:Fix (uQ a ob kvs) (kvs.map fun kv=>kV kv.1) (fun H=>H a=some (.eB ob (.dK kvs))):=
  ⟨fun i H h hi=>⟨h,by simpa using hi⟩,fun i H x H' h y=>⟨y.1,fun _=>by obtain⟨kv,h1,h2⟩:=y.2;rw[List.getElem?_map,h1,h2];rfl⟩,fun i H h hi=>⟨h,by simpa using hi⟩⟩
theorem HQ:ji X (.builtin "len") (fun xs H Q=>∃a kvs,xs = [V.ref a]/\Rd H a (.dK kvs)/\Q (.int kvs.length) H):=by
  intro pins s σ H xs us Q I r h;obtain⟨a,kvs,rfl,ha,q⟩:=h;obtain⟨u,rfl,ru⟩:=j0 r;cases ru;exact Gk I ha fun t s' I'=>⟨.int kvs.length,H,I',⟨t,rfl⟩,q⟩
end
section
variable{prog:Program}{w:World}{A:Around}{E:Value->Shared->Prop}{s:Shared}
theorem O3{S d:Addr}{es:Array DictEntry}{ep:Nat}{c:Nat}{r:Value}{R:Result->Shared->Prop}(hh:A.handled=none)(hd:(d == sysModules)=false)(hm:gm s.heap d es ep)(hz:es.size<=sizeLine)
    (hS:s.heap.get? S=some { cls:=.type "list",data:=.seq #[] c }) (iA:S≠d)
    (hR:∀h1 acc c1 tk,(∀b o,b≠S->s.heap.get? b=some o->h1.get? b=some o)->h1.get? S=some { cls:=.type "list",dict:=none,data:=.seq acc c1,slots:=#[] }->acc.toList=es.toList.map (·.key)->R (.ok (.ret r)) { s with heap:=h1,toks:=tk }) :
    wpAny (model prog w) A.in1 (Builtin.List.listExtendWith (.ref S) (.ref d) r) (fun fin s1=>match fin with | .done f=>R (.ok f) s1 | .again c1=>c1.quiet=true/\codeAny (model prog w) A c1 R s1) (fun e s1=>R (.error e) s1) s:=by
  have dl:d<s.heap.objs.size:=by obtain⟨o,ho,_⟩:=hm;exact Heap.lt_size ho
  have sl:S<s.heap.objs.size:=Heap.lt_size hS;have T:s.TypeIs (.ref d) "dict":=hm.typeIs;unfold Builtin.List.listExtendWith;refine wpAny_bind (wpAny_typeOf T ?_);have sr:Builtin.List.listSameRef (.ref S) (.ref d)=false:=by simp[Builtin.List.listSameRef,iA]
  have t1:(Value.type "dict" == Value.type "list")=false:=by decide
  have t2:(Value.type "dict" == Value.type "tuple")=false:=by decide
  simp only[sr,t1,t2,Bool.or_false,Bool.false_eq_true,if_false];refine wpAny_bind (CQ hd hm ?_);have old:∀b o,s.heap.get? b=some o->(s.heap.push { cls:=.type "dict_keyiterator",data:=.fields #[.ref d,.int 0 0,.int es.size 0,.int ep 0] }).get? b=some o:=fun b o e=>Heap.get?_push_of_some _ e
  have oU:=hm.at (h':=s.heap.push { cls:=.type "dict_keyiterator",data:=.fields #[.ref d,.int 0 0,.int es.size 0,.int ep 0] }) fun o e=>old d o e
  refine wpAny_bind (wpAny_holding (GU (s:={ s with heap:=s.heap.push { cls:=.type "dict_keyiterator",data:=.fields #[.ref d,.int 0 0,.int es.size 0,.int ep 0] } }) oU.typeIs ?_));have SI:S ∉ [s.heap.objs.size,d]:=by
    simp only[List.mem_cons,List.not_mem_nil,or_false];exact fun z=>z.elim (Nat.ne_of_lt sl) iA
  refine OZ (A:=A) (s:={ s with heap:=s.heap.push { cls:=.type "dict_keyiterator",data:=.fields #[.ref d,.int 0 0,.int es.size 0,.int ep 0] } }) (GS (A:=A.in1) hh s.heap.objs.size d (Nat.ne_of_lt dl) es ep) hz S c ⟨⟨_,Heap.get?_push_size _ rfl,rfl,rfl⟩,oU⟩ SI (old _ _ hS) r fun s1 acc c1 xF h1 h2=>?_
  obtain⟨gH,ge,dr,tk,os⟩:=s1;obtain⟨m1,m2,m3,m4,m5⟩:=xF;obtain rfl:ge=s.gens:=m2;obtain rfl:dr=s.drawn:=m3;obtain rfl:os=s.os:=m4;refine hR gH acc c1 tk (fun b o hb e=>m1 b o ?_ (old b o e)) h1 (O0 h2 (es.toList.map (·.key)) (by rw[List.length_map,Array.length_toList]) fun i v ⟨e,h3,h4⟩=>by rw[List.getElem?_map,Array.getElem?_toList,h3,h4];rfl);intro z;simp only[List.mem_cons,List.not_mem_nil,or_false] at z;exact z.elim hb fun z=>absurd (Heap.lt_size e) (by rw[z];exact Nat.lt_irrefl _)
theorem O4{d:Addr}{es:Array DictEntry}{ep:Nat}{Q:List Value->Shared->Prop}(hh:A.handled=none)(hd:(d == sysModules)=false)(hm:gm s.heap d es ep)(hz:es.size<=sizeLine)
    (hQ:∀h1 tk,(∀b o,s.heap.get? b=some o->h1.get? b=some o)->s.heap.objs.size<h1.objs.size->Q (es.toList.map (·.key)) { s with heap:=h1,toks:=tk }):wpAny (model prog w) A (collect (.ref d)) Q E s:=by
  have dl:d<s.heap.objs.size:=by obtain⟨o,ho,_⟩:=hm;exact Heap.lt_size ho
  unfold collect;refine wpAny_bind (wpAny_runValue (codeAny_builtin PySem.F.entry_proto_collect ?_));rw[Around.under_plainId PySem.F.plain_proto_collect _];show wpAny _ A.in1 (newList [] >>= fun l=>again (.builtin "list.__iadd__" ⟨[l,.ref d],[]⟩)) _ _ s;refine wpAny_bind (wpAny_newObj_type ?_);refine wpAny_pure ⟨plainId_quiet PySem.F.plain_list_iadd _,codeAny_builtin PySem.F.entry_list_iadd ?_⟩;rw[Around.under_plainId PySem.F.plain_list_iadd _];show wpAny _ A.in1 (Builtin.List.listExtendWith (.ref s.heap.objs.size) (.ref d) (.ref s.heap.objs.size)) _ _ _;have hS:(s.heap.push { cls:=.type "list",data:=.seq ([]:List Value).toArray }).get? s.heap.objs.size=some { cls:=.type "list",data:=.seq #[] }:=Heap.get?_push_size _ rfl;have old:∀b o,s.heap.get? b=some o->(s.heap.push { cls:=.type "list",data:=.seq ([]:List Value).toArray }).get? b=some o:=fun b o e=>Heap.get?_push_of_some _ e
  have oS:=hm.at (h':=s.heap.push { cls:=.type "list",data:=.seq ([]:List Value).toArray }) (fun o e=>old d o e);refine O3 (prog:=prog) (A:=A) (r:=.ref s.heap.objs.size) (R:=fun r s'=>match r with
    | .ok (.ret v)=>wpAny (model prog w) A (match v with
      | .ref a=>do
        let o ←load a
        match o.data with
        | .seq xs _=>pure xs.toList
        | _=>unsupported "internal:collect"
      | _=>unsupported "internal:collect") Q E s'
    | .ok _=>False
    | .error e=>E e s') (s:={ s with heap:=s.heap.push { cls:=.type "list",data:=.seq ([]:List Value).toArray } }) hh hd oS hz hS (Ne.symm (Nat.ne_of_lt dl)) fun h1 acc c1 tk k e p=>?_
  show wpAny _ A (load s.heap.objs.size >>= _) _ _ _;refine wpAny_bind (wpAny_load e ?_);rw[←p] at hQ;exact wpAny_pure (hQ h1 tk (fun b o eb=>k b o (fun z=>Nat.lt_irrefl _ (z▸Heap.lt_size eb)) (old b o eb)) (Heap.lt_size e))
end
theorem HR{prog:Program}{w:World}{A:Around}{s:Shared}{a b:Int}{t u:Tok}{Q:Value->Shared->Prop}{E:Value->Shared->Prop}(q:Q (.bool (decide (a > b))) s):wpAny (model prog w) A (richCompare .Gt (.int a t) (.int b u)) Q E s:=
  CmpOf.ints_gt (P:=fun i v=>(i=0/\v = .int a t)\/(i=1/\v = .int b u)) (fun i=>if i=0 then a else b) (fun i v h=>by
    rcases h with ⟨rfl,rfl⟩ | ⟨rfl,rfl⟩
    · exact⟨t,rfl⟩
    · exact⟨u,rfl⟩) 0 1 _ _ s Q E (.inl ⟨rfl,rfl⟩) (.inr ⟨rfl,rfl⟩) q
section
variable{prog:Program}{w:World}{A:Around}{R:Result->Shared->Prop}
structure gw(h:Heap)(l it S:Addr)(its:Array Value)(vb:Value)(j:Nat)(c:Nat):Prop where
  i:h.IsListIter it l j
  l:h.IsList l its
  s:h.get? S=some { cls:=.type "list",dict:=none,data:=.seq #[vb,vb] c,slots:=#[] }
theorem O5{l it S:Addr}{its:Array Value}{val:Nat->Int}{dv:Value}(hh:A.handled=none)(hv:∀i v,its[i]? = some v->∃t,v=Value.int (val i) t)(n1:S≠it)(n2:S≠l)(n3:l≠it) :
    ∀(k j b:Nat)(s:Shared)(vb:Value)(c:Nat),its.size-j=k->gw s.heap l it S its vb j c->its[b]? = some vb->(∀i,i<j->val i<=val b)->j<=its.size->
      (∀(v:Value)(b':Nat)(h':Heap)(tk:Nat),its[b']? = some v->(∀i,i<its.size->val i<=val b')->(∀d o,d≠it->d≠S->s.heap.get? d=some o->h'.get? d=some o)->R (.ok (.ret v)) { s with heap:=h',toks:=tk })->
      codeAny (model prog w) A (.builtin "max.loop" ⟨[.ref it,.none,.ref S],[("default",dv)]⟩) R s:=by
  have nm:(toString "max" ++ toString ".loop" : String) = "max.loop":=by decide
  intro k
  induction k with
  | zero=>
    intro j b s vb c hk M eb best hj q;refine codeAny_builtin F.entry_max_loop ?_;rw[Around.under_plainId F.plain_max_loop _];show wpAny _ A.in1 (seqItems? (.ref S) >>= _) _ _ s;refine wpAny_bind (wpAny_seqItems M.s rfl (wpAny_bind (wpAny_tryCatch (wpAny_pyNext_list_end (A:=A.in1) hh M.i M.l (Array.getElem?_eq_none (show its.size<=j by omega)) fun h' oY=>?_))));have s':=oY S _ n1 M.s;refine wpAny_bind (m:=updateSeq S (fun _=>#[])) ?_;refine wpAny_updateSeq s' rfl (wpAny_bind (wpAny_letGo (wpAny_pure ?_)));exact q vb b _ s.toks eb (fun i hi=>best i (by omega)) fun d o d1 d2 e=>by
      rw[Heap.get?_update_other _ _ (Ne.symm d2)];exact oY d o d1 e
  | succ k ih=>
    intro j b s vb c hk M eb best hj q;have bC:j<its.size:=by omega
    have ej:its[j]? = some its[j]:=Array.getElem?_eq_getElem bC;obtain⟨t1,e1⟩:=hv j _ ej;obtain⟨t2,e2⟩:=hv b _ eb;refine codeAny_builtin F.entry_max_loop ?_;rw[Around.under_plainId F.plain_max_loop _];show wpAny _ A.in1 (seqItems? (.ref S) >>= _) _ _ s;refine wpAny_bind (wpAny_seqItems M.s rfl (wpAny_bind (wpAny_tryCatch (wpAny_pyNext_list_item M.i M.l ej fun h' j7 sb=>?_))));have s':h'.get? S=_:=(sb.2 S n1).trans M.s;have l':h'.IsList l its:=by
      obtain⟨o,ho,r⟩:=M.l;exact⟨o,(sb.2 l n3).trans ho,r⟩
    rw[e1,e2];rw[e1] at ej;rw[e2] at s' eb;refine wpAny_bind (wpAny_pure ?_);refine wpAny_bind (wpAny_tryCatch (wpAny_holding (wpAny_bind (HR (s:={ s with heap:=h' }) (t:=t1) (u:=t2) ?_))));refine wpAny_bind (wpAny_holding (wpAny_truthy_bool (wpAny_bind (wpAny_letGo (wpAny_pure ?_)))))
    by_cases c1:val j > val b
    · rw[decide_eq_true c1,if_pos rfl];refine wpAny_bind (m:=updateSeq S (fun _=>#[Value.int (val j) t1,Value.int (val j) t1])) ?_;refine wpAny_updateSeq s' rfl (wpAny_bind (wpAny_letGo ?_));rw[nm];have keep:∀d o,d≠S->h'.get? d=some o->(h'.update S (Obj.mapSeq fun _=>#[Value.int (val j) t1,Value.int (val j) t1])).get? d=some o:=fun d o d1 e=>(Heap.get?_update_other _ _ (Ne.symm d1)).trans e
      obtain⟨c',M'⟩:∃c',gw (h'.update S (Obj.mapSeq fun _=>#[Value.int (val j) t1,Value.int (val j) t1])) l it S its (Value.int (val j) t1) (j+1) c':=by
        refine⟨_,j7.at fun o e=>keep it o (Ne.symm n1) e,?_,Heap.get?_update_self _ s' rfl⟩;obtain⟨o,ho,r⟩:=l';exact⟨o,keep l o (Ne.symm n2) ho,r⟩
      refine wpAny_pure ⟨plainId_quiet F.plain_max_loop _,ih (j+1) j _ _ _ (by omega) M' ej (fun i hi=>?_) bC fun v b' h2 tk ev hb kp=>?_⟩
      · by_cases c2:i=j
        · subst c2;exact Int.le_refl _
        · have:=best i (by omega);omega
      · exact q v b' h2 tk ev hb fun d o d1 d2 e=>kp d o d1 d2 (keep d o d2 ((sb.2 d d1).trans e))
    · rw[decide_eq_false c1,if_neg Bool.false_ne_true];refine wpAny_bind (wpAny_letGo ?_);rw[nm];refine wpAny_pure ⟨plainId_quiet F.plain_max_loop _,ih (j+1) b { s with heap:=h' } _ c (by omega) ⟨j7,l',s'⟩ eb (fun i hi=>?_) bC fun v b' h2 tk ev hb kp=>?_⟩
      · by_cases c2:i=j
        · subst c2;omega
        · exact best i (by omega)
      · exact q v b' h2 tk ev hb fun d o d1 d2 e=>kp d o d1 d2 ((sb.2 d d1).trans e)
theorem O6{l it S:Addr}{its:Array Value}{val:Nat->Int}{dv:Value}{s:Shared}{c:Nat}(hh:A.handled=none)(hv:∀i v,its[i]? = some v->∃t,v=Value.int (val i) t)(n1:S≠it)(n2:S≠l)(n3:l≠it)
    (hi:s.heap.IsListIter it l 0) (hl:s.heap.IsList l its) (hS:s.heap.get? S=some { cls:=.type "list",dict:=none,data:=.seq #[] c,slots:=#[] })
    (q:∀(v:Value)(h':Heap)(tk:Nat),(its.size=0/\v=dv)\/(∃b,its[b]? = some v/\∀i,i<its.size->val i<=val b)->(∀d o,d≠it->d≠S->s.heap.get? d=some o->h'.get? d=some o)->R (.ok (.ret v)) { s with heap:=h',toks:=tk }) :
    codeAny (model prog w) A (.builtin "max.loop" ⟨[.ref it,.none,.ref S],[("default",dv)]⟩) R s:=by
  have nm:(toString "max" ++ toString ".loop" : String) = "max.loop":=by decide
  refine codeAny_builtin F.entry_max_loop ?_;rw[Around.under_plainId F.plain_max_loop _];show wpAny _ A.in1 (seqItems? (.ref S) >>= _) _ _ s
  by_cases h0:its.size=0
  · refine wpAny_bind (wpAny_seqItems hS rfl (wpAny_bind (wpAny_tryCatch (wpAny_pyNext_list_end (A:=A.in1) hh hi hl (Array.getElem?_eq_none (by omega)) fun h' oY=>?_))));refine wpAny_bind (wpAny_rule (wpAny_pure ?_));exact q dv h' s.toks (.inl ⟨h0,rfl⟩) fun d o d1 _ e=>oY d o d1 e
  · have ej:its[0]? = some its[0]:=Array.getElem?_eq_getElem (by omega);refine wpAny_bind (wpAny_seqItems hS rfl (wpAny_bind (wpAny_tryCatch (wpAny_pyNext_list_item hi hl ej fun h' j7 sb=>?_))));have s':h'.get? S=_:=(sb.2 S n1).trans hS;have l':h'.IsList l its:=by
      obtain⟨o,ho,r⟩:=hl;exact⟨o,(sb.2 l n3).trans ho,r⟩
    refine wpAny_bind (wpAny_pure ?_);refine wpAny_bind (m:=updateSeq S (fun _=>#[its[0],its[0]])) ?_;refine wpAny_updateSeq s' rfl ?_;rw[nm];have keep:∀d o,d≠S->h'.get? d=some o->(h'.update S (Obj.mapSeq fun _=>#[its[0],its[0]])).get? d=some o:=fun d o d1 e=>(Heap.get?_update_other _ _ (Ne.symm d1)).trans e
    obtain⟨c',M'⟩:∃c',gw (h'.update S (Obj.mapSeq fun _=>#[its[0],its[0]])) l it S its its[0] 1 c':=by
      refine⟨_,j7.at fun o e=>keep it o (Ne.symm n1) e,?_,Heap.get?_update_self _ s' rfl⟩;obtain⟨o,ho,r⟩:=l';exact⟨o,keep l o (Ne.symm n2) ho,r⟩
    refine wpAny_pure ⟨plainId_quiet F.plain_max_loop _,O5 hh hv n1 n2 n3 _ 1 0 _ _ _ rfl M' ej (fun i hi=>?_) (by omega) fun v b' h2 tk ev hb kp=>?_⟩
    · have:i=0:=by omega
      subst this;exact Int.le_refl _
    · exact q v h2 tk (.inr ⟨b',ev,hb⟩) fun d o d1 d2 e=>kp d o d1 d2 (keep d o d2 ((sb.2 d d1).trans e))
end
section
variable{prog:Program}{w:World}{A:Around}{E:Value->Shared->Prop}{s:Shared}
theorem O7(a d:Value):argsOk "max" ⟨[a],[("default",d)]⟩:=by unfold argsOk;kernel_rfl
theorem O8{l:Addr}{its:Array Value}{val:Nat->Int}{dv:Value}{Q:Value->Shared->Prop}(hh:A.handled=none)(hl:s.heap.IsList l its)(hv:∀i v,its[i]? = some v->∃t,v=Value.int (val i) t)
    (q:∀(v:Value)(h':Heap)(tk:Nat),(its.size=0/\v=dv)\/(∃b,its[b]? = some v/\∀i,i<its.size->val i<=val b)->(∀d o,s.heap.get? d=some o->h'.get? d=some o)->Q v { s with heap:=h',toks:=tk }) :
    wpAny (model prog w) A (call (.builtin "max") [.ref l] [("default",dv)]) Q E s:=by
  have nm:(toString "max" ++ toString ".loop" : String) = "max.loop":=by decide
  have bC:l<s.heap.objs.size:=by obtain⟨_,e,_⟩:=hl;exact Heap.lt_size e
  have body:wpAny (model prog w) A.in1 (Builtin.«max» ⟨[.ref l],[("default",dv)]⟩) (fun fin s'=>match fin with
      | .done f=>(match (Except.ok f:Result) with | .ok (.ret v)=>Q v s' | .ok _=>False | .error e=>E e s')
      | .again c'=>c'.quiet=true/\codeAny (model prog w) A c' (fun r s'=>match r with | .ok (.ret v)=>Q v s' | .ok _=>False | .error e=>E e s') s') E s:=by
    show wpAny _ A.in1 (Builtin.Builtins.bindParams "max" ["key","default"] 0 ⟨[],[("default",dv)]⟩ >>= _) _ _ s;refine wpAny_bind (wpAny_of_eq (show Builtin.Builtins.bindParams "max" ["key","default"] 0 ⟨[],[("default",dv)]⟩=pure [none,some dv] from rfl) ?_);refine wpAny_bind (wpAny_pure (wpAny_bind (wpAny_pyIter_list hl ?_)));refine wpAny_bind (wpAny_newObj_type ?_);rw[nm];have zu:(s.heap.push { cls:=.type "list_iterator",data:=.fields #[.ref l,.int 0 0] }).objs.size=s.heap.objs.size+1:=Heap.size_push ..;have gI:∀d o,s.heap.get? d=some o->(s.heap.push { cls:=.type "list_iterator",data:=.fields #[.ref l,.int 0 0] }).get? d=some o:=fun d o e=>Heap.get?_push_of_some _ e
    have hit:(s.heap.push { cls:=.type "list_iterator",data:=.fields #[.ref l,.int 0 0] }).IsListIter s.heap.objs.size l 0:=⟨_,Heap.get?_push_size _ rfl,rfl,rfl⟩;have jv:(s.heap.push { cls:=.type "list_iterator",data:=.fields #[.ref l,.int 0 0] }).IsList l its:=by
      obtain⟨o,ho,r⟩:=hl;exact⟨o,gI l o ho,r⟩
    generalize s.heap.push { cls:=.type "list_iterator",data:=.fields #[.ref l,.int 0 0] } = g at zu gI hit jv;have iL:(g.push { cls:=.type "list",data:=.seq ([]:List Value).toArray }).IsList l its:=by
      obtain⟨o,ho,r⟩:=jv;exact⟨o,Heap.get?_push_of_some _ ho,r⟩
    refine wpAny_pure ⟨plainId_quiet F.plain_max_loop _,O6 (it:=s.heap.objs.size) (S:=g.objs.size) hh hv ?_ ?_ ?_ (hit.at fun o e=>Heap.get?_push_of_some _ e) iL (Heap.get?_push_size _ rfl) fun v h' tk hb kp=>?_⟩
    · rw[zu];exact Nat.succ_ne_self _
    · rw[zu];exact Ne.symm (Nat.ne_of_lt (Nat.lt_succ_of_lt bC))
    · exact Nat.ne_of_lt bC
    · refine q v h' tk hb fun d o e=>kp d o (fun z=>?_) (fun z=>?_) (Heap.get?_push_of_some _ (gI d o e))
      · exact absurd (Heap.lt_size e) (by rw[z];exact Nat.lt_irrefl _)
      · exact absurd (Heap.lt_size e) (by rw[z,zu];exact Nat.not_lt_of_le (Nat.le_succ _))
  refine wpAny_call (codeAny_call_builtin F.plain_max F.entry_max ?_);have ha:=O7 (.ref l) dv;simp only[checkBuiltinCall,F.kind_max];cases sg:Manifest.signature? "max" with
  | none=>exact wpAny_pure body
  | some g=>
    simp only[argsOk,sg] at ha;have ha:Bind.checkArgs "max" g ⟨[.ref l],[("default",dv)]⟩=pure ():=ha;show wpAny _ A.in1 (Bind.checkArgs "max" g ⟨[.ref l],[("default",dv)]⟩) _ _ s;rw[ha];exact wpAny_pure body
end
def xZ(ns:List Int)(d m:Int):Prop:=(ns = []/\m=d)\/(m∈ns/\∀y∈ns,y<=m)
def O9(K:PySem.W.Frag)(d:Int)(te:TE):TE:=fun σ H Q=>te σ H fun x H1=>∃(p:Addr)(ns:List Int),x = .ref p/\ao K H1 p (ns.map V.int)/\∀m,xZ ns d m->Q (.int m) H1
section
variable{X:Cx}
theorem HS(K:PySem.W.Frag)(hK:X.K=K)(d:Int){e:Expr}{te:TE}{p pos kpos aS:Pos}{j:Nat}(hc:X.calm=true)(hg:Gl X "max")(hm:X.mg "max" = none)(he:PE X e te)
    (hs:starEach [e] X.env = [(false,eval e X.env)]:=by rfl):PE X (.Call (.Name "max" p) [e] [⟨some "default",.Constant (.int d) j aS,kpos⟩] pos) (O9 K d te):=by
  subst hK;intro pins s σ H Q I h;refine wpAny_Call_Name_kw (vJ I hg hm boot_max ?_);refine PySem.W.callWith_of (P:=fun _=>True) (first:=[]) (by rw[hs];rfl) (fun h _=>⟨.machine,.inr (.inl rfl),fun _ _ _ _ _ q=>wpAny_pure q⟩) (PyProof.Rows.evalArgs_kw2 rfl ?_ hs);refine aX (za he zf hs pos pins s σ H (fun vs H1=>match vs with | [x]=>∃(p:Addr)(ns:List Int),x = .ref p/\ao X.K H1 p (ns.map V.int)/\∀m,xZ ns d m->Q (.int m) H1 | _=>False) I h) fun us s1 aE=>?_
  obtain⟨vs,H1,I1,r,q⟩:=aE
  match vs,q with
  | [x],q=>
    obtain⟨l,ns,rfl,hl,q⟩:=q;obtain⟨u,rfl,ru⟩:=j0 r;cases ru;refine aX (Mx (nm:=some "default") (kpos:=kpos) (zh (i:=d) (j:=j) (pos:=aS)) Mw pos pins s1 σ H1 (fun zs H2=>zs = [.int d]/\H2=H1) I1 ⟨rfl,rfl⟩) fun ws s2 ⟨zs,H2,I2,rz,q2⟩=>⟨trivial,?_⟩
    obtain⟨rfl,rfl⟩:=q2;obtain⟨v,rfl,t,rfl⟩:=j0 rz;obtain⟨its,rv,pl,hz⟩:=I2.list hl;have len:=rv.length;rw[List.length_map] at len;have hv:∀i v,its.toArray[i]? = some v->∃t,v=Value.int (ns.getD i 0) t:=by
      intro i v e;have e':its[i]? = some v:=by simpa using e
      have hi:i<ns.length:=by have:=(List.getElem?_eq_some_iff.mp e').1;omega
      obtain⟨w,e2,fj⟩:=rv.get (i:=i) (x:=.int ns[i]) (by simp[hi]);rw[e'] at e2;cases e2;have:ns.getD i 0=ns[i]:=by rw[List.getD_eq_getElem?_getD,List.getElem?_eq_getElem hi];rfl
      rw[this];exact fj
    refine O8 (I2.ok.hd hc) pl.isList hv fun v h' tk hb kp=>?_
    have sz:its.toArray.size=ns.length:=by rw[List.size_toArray];exact len.symm
    rcases hb with ⟨h0,rfl⟩ | ⟨b,eb,hb⟩
    · refine⟨.int d,_,I2.kept kp,⟨t,rfl⟩,q d (.inl ⟨?_,rfl⟩)⟩;exact List.length_eq_zero_iff.mp (by omega)
    · obtain⟨t',rfl⟩:=hv b _ eb;have Pa:b<ns.length:=by
        have:=(Array.getElem?_eq_some_iff.mp eb).1;omega
      have eg:∀i(hi:i<ns.length),ns.getD i 0=ns[i]:=fun i hi=>by rw[List.getD_eq_getElem?_getD,List.getElem?_eq_getElem hi];rfl
      refine⟨.int (ns.getD b 0),_,I2.kept kp,⟨t',rfl⟩,q _ (.inr ⟨?_,fun y hy=>?_⟩)⟩
      · rw[eg b Pa];exact List.getElem_mem _
      · obtain⟨i,hi,rfl⟩:=List.mem_iff_getElem.mp hy;have:=hb i (by omega)
        rwa [eg i hi] at this
end
end L2
namespace Dm
open PySem PySem.NumText L2
def fM(lv:Str->Nat)(j:Nat)(x:Str):Bool:=decide (lv x=j)
def mq(lv:Str->Nat)(L:List (Str×Addr)):List Int:=L.map fun p=>(lv p.1:Int)+1
def jw(lv:Str->Nat)(u:Str)(m:Nat):Str->Nat:=fun x=>if x=u then m else lv x
structure Lv(ln:Ln)(M:List Str)(lv:Str->Nat)(n:Nat):Prop where
  cl:∀x∈M,∀l r,(l,r)∈ln x->l∈M
  mx:∀x∈M,xZ (mq lv (ln x)) 0 (lv x)
  lt:∀x∈M,lv x<n
  all:∀j,j<n->∃x∈M,lv x=j
theorem Lv.nil{ln:Ln}{lv:Str->Nat}:Lv ln [] lv 0:=⟨by simp,by simp,by simp,by simp⟩
theorem Lv.mem{ln:Ln}{M M':List Str}{lv:Str->Nat}{n:Nat}(h:Lv ln M lv n)(e:∀x,x∈M↔x∈M'):Lv ln M' lv n:=
  ⟨fun x hx l r hl=>(e l).mp (h.cl x ((e x).mpr hx) l r hl),fun x hx=>h.mx x ((e x).mpr hx),fun x hx=>h.lt x ((e x).mpr hx),fun j hj=>by
    obtain⟨x,hx,z⟩:=h.all j hj;exact⟨x,(e x).mp hx,z⟩⟩
theorem Lv.next{ln:Ln}{M:List Str}{lv:Str->Nat}{n:Nat}{u:Str}(h:Lv ln M lv n)(hc:∀l r,(l,r)∈ln u->l∈M){m:Int}(hm:xZ (mq lv (ln u)) 0 m):∃k:Nat,m=k/\k<=n:=by
  rcases hm with ⟨_,rfl⟩ | ⟨hm,_⟩
  · exact⟨0,rfl,by omega⟩
  · unfold mq at hm;rw[List.mem_map] at hm;obtain⟨⟨l,r⟩,hl,rfl⟩:=hm;have:=h.lt l (hc l r hl);exact⟨lv l+1,by simp,by omega⟩
theorem Pb{lv HU:Str->Nat}{L:List (Str×Addr)}(h:∀l r,(l,r)∈L->lv l=HU l):mq lv L=mq HU L:=by
  unfold mq;refine List.map_congr_left fun p hp=>?_
  rw[h p.1 p.2 hp]
theorem ya{lv:Str->Nat}{u x:Str}{k:Nat}(h:x≠u):jw lv u k x=lv x:=by unfold jw;rw[if_neg h]
theorem AX{lv:Str->Nat}{u:Str}{k:Nat}:jw lv u k u=k:=by unfold jw;rw[if_pos rfl]
theorem Lv.step{ln:Ln}{M:List Str}{lv:Str->Nat}{n:Nat}{u:Str}(h:Lv ln M lv n)(hu:u ∉ M)(hc:∀l r,(l,r)∈ln u->l∈M){k:Nat}(hm:xZ (mq lv (ln u)) 0 k)(hk:k<=n) :
    Lv ln (M++[u]) (jw lv u k) (if k=n then n+1 else n):=by
  have ne:∀x∈M,x≠u:=fun x hx z=>hu (z▸hx)
  have cg:∀x,(∀l r,(l,r)∈ln x->l∈M)->mq (jw lv u k) (ln x)=mq lv (ln x):=fun x hx=>Pb fun l r hl=>ya (ne l (hx l r hl))
  have sp:∀x,x∈M++[u]->x∈M\/x=u:=fun x hx=>by
    rcases List.mem_append.mp hx with h | h
    · exact .inl h
    · exact .inr (by simpa using h)
  refine⟨fun x hx l r hl=>?_,fun x hx=>?_,fun x hx=>?_,fun j hj=>?_⟩
  · rcases sp x hx with hx | rfl
    · exact List.mem_append_left _ (h.cl x hx l r hl)
    · exact List.mem_append_left _ (hc l r hl)
  · rcases sp x hx with hx | rfl
    · rw[cg x (h.cl x hx),ya (ne x hx)];exact h.mx x hx
    · rw[cg x hc,AX];exact hm
  · rcases sp x hx with hx | rfl
    · rw[ya (ne x hx)];have:=h.lt x hx;split<;>omega
    · rw[AX];split<;>omega
  · by_cases c:j<n
    · obtain⟨x,hx,e⟩:=h.all j c;exact⟨x,List.mem_append_left _ hx,by rw[ya (ne x hx)];exact e⟩
    · refine⟨u,by simp,?_⟩;rw[AX];split at hj<;>omega
theorem Pc{M:List Str}{lv:Str->Nat}{u:Str}{k j:Nat}(hu:u ∉ M):(M++[u]).filter (fM (jw lv u k) j)=M.filter (fM lv j)++(if k=j then[u] else[]):=by
  rw[List.filter_append]
  congr 1
  · refine List.filter_congr fun x hx=>?_
    unfold fM;have ne:x≠u:=fun z=>hu (by rw[←z];exact hx)
    rw[ya ne]
  · have e:fM (jw lv u k) j u=decide (k=j):=by unfold fM;rw[AX]
    by_cases c:k=j
    · rw[if_pos c,List.filter_cons_of_pos (by rw[e];exact decide_eq_true c)];rfl
    · rw[if_neg c,List.filter_cons_of_neg (by rw[e,decide_eq_false c];exact Bool.false_ne_true)];rfl
theorem Pd{os keys:List Str}{p:Str->Bool}(pm:os.Perm keys)(kl:keys.Pairwise (fun a b=>co a<co b)):au (os.filter p)=keys.filter p:=by
  refine(C7 (pm.filter p).symm ?_).symm;unfold sM;exact(kl.imp (fun h=>xQ h)).sublist (List.filter_sublist ..)
theorem Pe{l:List Addr}(h:l.Nodup){i j:Nat}{a:Addr}(hi:l[i]? = some a)(hj:l[j]? = some a):i=j:=by
  obtain⟨h1,e1⟩:=List.getElem?_eq_some_iff.mp hi;obtain⟨h2,e2⟩:=List.getElem?_eq_some_iff.mp hj;have pw:=List.pairwise_iff_getElem.mp h;rcases Nat.lt_trichotomy i j with c | c | c
  · exact absurd (e1.trans e2.symm) (pw i j h1 h2 c)
  · exact c
  · exact absurd (e2.trans e1.symm) (pw j i h2 h1 c)
end Dm
namespace L2
open PySem PySem.Spec PyProof.Rows
theorem Pf{c:TT}{t u:TS}{D:Ends}{σ:St}{H:Hp}(P:St->Hp->Prop)(b:Bool)(ht:∀Q':Bool->Hp->Prop,Q' b H->c σ H Q')(h1:b=true->(∀aq H',P aq H'->D.nx aq H')->t D σ H)(h2:b=false->(∀aq H',P aq H'->D.nx aq H')->u D σ H)
    (hn:∀aq H',P aq H'->D.nx aq H'):nA c t u D σ H:=by
  refine iz b ht ?_;cases b with
  | true=>exact dD (h1 rfl hn)
  | false=>exact cT (h2 rfl hn)
end L2
namespace Dm
open PySem PySem.NumText L2
theorem Lv.pY{ln:Ln}{M:List Str}{lv:Str->Nat}{n:Nat}(h:Lv ln M lv n){j:Nat}(hj:n<=j):M.filter (fM lv j) = []:=by
  rw[List.filter_eq_nil_iff];intro x hx;have:=h.lt x hx;unfold fM;rw[decide_eq_true_iff];omega
end Dm
namespace L2
open PySem PySem.Spec PyProof.Rows
abbrev IS:=Int×Str
def d7(p q:IS):Bool:=if p.1=q.1 then decide (q.2.cps.toList<p.2.cps.toList) else decide (q.1<p.1)
theorem qN(p:IS):d7 p p=false:=by
  unfold d7;rw[if_pos rfl];exact decide_eq_false (List.lt_irrefl _)
theorem Dq{i b j:IS}(h1:d7 i b=false)(h2:d7 j b=true):d7 i j=false:=by
  unfold d7 at *
  by_cases c1:i.1=b.1
  · rw[if_pos c1] at h1;have h1:=of_decide_eq_false h1
    by_cases c2:j.1=b.1
    · rw[if_pos c2] at h2;have h2:=of_decide_eq_true h2;rw[if_pos (c1.trans c2.symm)];exact decide_eq_false fun z=>h1 (List.lt_trans h2 z)
    · rw[if_neg c2] at h2;have h2:=of_decide_eq_true h2;rw[if_neg (fun z=>c2 (z.symm.trans c1))];exact decide_eq_false (by omega)
  · rw[if_neg c1] at h1;have h1:=of_decide_eq_false h1
    by_cases c2:j.1=b.1
    · rw[if_neg (fun z=>c1 (z.trans c2))];exact decide_eq_false (by omega)
    · rw[if_neg c2] at h2;have h2:=of_decide_eq_true h2;rw[if_neg (by omega)];exact decide_eq_false (by omega)
theorem AY{p b:IS}(h:d7 p b=false):p.1<=b.1:=by
  unfold d7 at h
  by_cases c:p.1=b.1
  · omega
  · rw[if_neg c] at h;have:=of_decide_eq_false h;omega
def cA(h:Heap)(v:Value)(p:IS):Prop:=∃a t u,v = .ref a/\IsTup h a #[.int p.1 t,.str p.2 u]
theorem cA.kept{h h':Heap}{v:Value}{p:IS}(t:cA h v p)(k:∀d o,(h.get? d=some o/\o.cls = .type "tuple")->h'.get? d=some o):cA h' v p:=by
  obtain⟨a,x,y,rfl,o,ho,hc,n,hd⟩:=t;exact⟨a,x,y,rfl,o,k a o ⟨ho,hc⟩,hc,n,hd⟩
section
variable{prog:Program}{w:World}{A:Around}{E:Value->Shared->Prop}{s:Shared}
theorem Pg{a b:Int}{t u:Tok}{Q:Value->Shared->Prop}(q:Q (.bool (decide (a<b))) s):wpAny (model prog w) A (richCompare .Lt (.int a t) (.int b u)) Q E s:=
  CmpOf.ints_lt (P:=fun i v=>(i=0/\v = .int a t)\/(i=1/\v = .int b u)) (fun i=>if i=0 then a else b) (fun i v h=>by
    rcases h with ⟨rfl,rfl⟩ | ⟨rfl,rfl⟩
    · exact⟨t,rfl⟩
    · exact⟨u,rfl⟩) 0 1 _ _ s Q E (.inl ⟨rfl,rfl⟩) (.inr ⟨rfl,rfl⟩) q
theorem Ph{v1 v2:Value}{p q:IS}{Q:Value->Shared->Prop}(hu:A.units<cLine)(h1:cA s.heap v1 p)(h2:cA s.heap v2 q)(h:Q (.bool (d7 p q)) s) :
    wpAny (model prog w) A (richCompare .Gt v1 v2) Q E s:=by
  obtain⟨a,t1,u1,rfl,oa,sS,pZ,na,yc⟩:=h1;obtain⟨b,t2,u2,rfl,ob,sU,p7,nb,gf⟩:=h2;have ta:s.TypeIs (.ref a) "tuple":=⟨oa,sS,pZ⟩;have tb:s.TypeIs (.ref b) "tuple":=⟨ob,sU,p7⟩;refine wpAny_richCompare_same_room (op:=.Gt) ta tb F.slot_tuple_gt (wpAny_call_entry F.slot_tuple_gt ta F.entry_tuple_gt ?_ (F.args_tuple_gt_2 _ _)) hu;show wpAny _ _ (isInstance (.ref b) (.type "tuple") >>= _) _ _ s;refine wpAny_bind (wpAny_isInstance tb isSubtype_tuple_tuple ?_);rw[if_neg (by decide)];refine wpAny_bind (wpAny_tupleItemsOf sS yc (wpAny_bind (wpAny_tupleItemsOf sU gf (wpAny_bind ?_))));show wpAny _ _ (forIn [((Value.int p.1 t1,Value.int q.1 t2):Value×Value),(Value.str p.2 u1,Value.str q.2 u2)] _ _) _ _ s;rw[List.forIn_cons];refine wpAny_bind (wpAny_bind (wpAny_eqBool_int ?_))
  by_cases c:p.1=q.1
  · rw[show(p.1 == q.1)=true from beq_iff_eq.mpr c,if_neg (by decide)];refine wpAny_pure ?_;show wpAny _ _ (forIn [((Value.str p.2 u1,Value.str q.2 u2):Value×Value)] _ _) _ _ s;rw[List.forIn_cons];refine wpAny_bind (wpAny_bind (wpAny_eqBool_str ?_))
    by_cases c2:p.2=q.2
    · rw[decide_eq_true c2,if_neg (by decide)];refine wpAny_pure ?_;show wpAny _ _ (forIn ([]:List (Value×Value)) _ _) _ _ s;rw[List.forIn_nil];refine wpAny_pure (wpAny_pure ⟨_,rfl,(fun e=>nomatch e),?_⟩);have e:d7 p q=false:=by
        unfold d7;rw[if_pos c,c2];exact decide_eq_false (List.lt_irrefl _)
      rw[e] at h;exact h
    · rw[decide_eq_false c2,if_pos (by decide)];refine wpAny_bind (wpAny_rule (wpAny_bind (PySem.P.gt_str ?_)));refine wpAny_pure (wpAny_pure (wpAny_pure ⟨_,rfl,(fun e=>nomatch e),?_⟩));unfold d7 at h;rw[if_pos c] at h;exact h
  · rw[show(p.1 == q.1)=false from beq_eq_false_iff_ne.mpr c,if_pos (by decide)];refine wpAny_bind (wpAny_rule (wpAny_bind (HR ?_)));refine wpAny_pure (wpAny_pure (wpAny_pure ⟨_,rfl,(fun e=>nomatch e),?_⟩));unfold d7 at h;rw[if_neg c] at h;exact h
theorem Pj{v1 v2:Value}{p q:IS}{Q:Value->Shared->Prop}(hu:A.units<cLine)(h1:cA s.heap v1 p)(h2:cA s.heap v2 q)(h:Q (.bool (d7 q p)) s) :
    wpAny (model prog w) A (richCompare .Lt v1 v2) Q E s:=by
  obtain⟨a,t1,u1,rfl,oa,sS,pZ,na,yc⟩:=h1;obtain⟨b,t2,u2,rfl,ob,sU,p7,nb,gf⟩:=h2;have ta:s.TypeIs (.ref a) "tuple":=⟨oa,sS,pZ⟩;have tb:s.TypeIs (.ref b) "tuple":=⟨ob,sU,p7⟩;refine wpAny_richCompare_same_room (op:=.Lt) ta tb F.slot_tuple_lt (wpAny_call_entry F.slot_tuple_lt ta F.entry_tuple_lt ?_ (F.args_tuple_lt_2 _ _)) hu;show wpAny _ _ (isInstance (.ref b) (.type "tuple") >>= _) _ _ s;refine wpAny_bind (wpAny_isInstance tb isSubtype_tuple_tuple ?_);rw[if_neg (by decide)];refine wpAny_bind (wpAny_tupleItemsOf sS yc (wpAny_bind (wpAny_tupleItemsOf sU gf (wpAny_bind ?_))));show wpAny _ _ (forIn [((Value.int p.1 t1,Value.int q.1 t2):Value×Value),(Value.str p.2 u1,Value.str q.2 u2)] _ _) _ _ s;rw[List.forIn_cons];refine wpAny_bind (wpAny_bind (wpAny_eqBool_int ?_))
  by_cases c:p.1=q.1
  · rw[show(p.1 == q.1)=true from beq_iff_eq.mpr c,if_neg (by decide)];refine wpAny_pure ?_;show wpAny _ _ (forIn [((Value.str p.2 u1,Value.str q.2 u2):Value×Value)] _ _) _ _ s;rw[List.forIn_cons];refine wpAny_bind (wpAny_bind (wpAny_eqBool_str ?_))
    by_cases c2:p.2=q.2
    · rw[decide_eq_true c2,if_neg (by decide)];refine wpAny_pure ?_;show wpAny _ _ (forIn ([]:List (Value×Value)) _ _) _ _ s;rw[List.forIn_nil];refine wpAny_pure (wpAny_pure ⟨_,rfl,(fun e=>nomatch e),?_⟩);have e:d7 q p=false:=by
        unfold d7;rw[if_pos c.symm,c2];exact decide_eq_false (List.lt_irrefl _)
      rw[e] at h;exact h
    · rw[decide_eq_false c2,if_pos (by decide)];refine wpAny_bind (wpAny_rule (wpAny_bind (lt_str ?_)));refine wpAny_pure (wpAny_pure (wpAny_pure ⟨_,rfl,(fun e=>nomatch e),?_⟩));unfold d7 at h;rw[if_pos c.symm] at h;exact h
  · rw[show(p.1 == q.1)=false from beq_eq_false_iff_ne.mpr c,if_pos (by decide)];refine wpAny_bind (wpAny_rule (wpAny_bind (Pg ?_)));refine wpAny_pure (wpAny_pure (wpAny_pure ⟨_,rfl,(fun e=>nomatch e),?_⟩));unfold d7 at h;rw[if_neg (Ne.symm c)] at h;exact h
end
theorem Dr{i b j:IS}(h1:d7 b i=false)(h2:d7 b j=true):d7 j i=false:=by
  unfold d7 at *
  by_cases c1:b.1=i.1
  · rw[if_pos c1] at h1;have h1:=of_decide_eq_false h1
    by_cases c2:b.1=j.1
    · rw[if_pos c2] at h2;have h2:=of_decide_eq_true h2;rw[if_pos (c2.symm.trans c1)];exact decide_eq_false fun z=>h1 (List.lt_trans z h2)
    · rw[if_neg c2] at h2;have h2:=of_decide_eq_true h2;rw[if_neg (fun z=>c2 (c1.trans z.symm))];exact decide_eq_false (by omega)
  · rw[if_neg c1] at h1;have h1:=of_decide_eq_false h1
    by_cases c2:b.1=j.1
    · rw[if_neg (fun z=>c1 (c2.trans z))];exact decide_eq_false (by omega)
    · rw[if_neg c2] at h2;have h2:=of_decide_eq_true h2;rw[if_neg (by omega)];exact decide_eq_false (by omega)
theorem oZ{α β:Type}{F:α->β->Prop}{as:List α}{bs:List β}(h:Paired F as bs):∀{i:Nat}{a:α}{b:β},as[i]? = some a->bs[i]? = some b->F a b:=by
  induction h with
  | nil=>intro i a b e _;simp at e
  | cons h _ ih=>
    intro i a b e1 e2;cases i with
    | zero=>simp at e1 e2;rw[←e1,←e2];exact h
    | succ i=>exact ih (by simpa using e1) (by simpa using e2)
section
variable{prog:Program}{w:World}{A:Around}{R:Result->Shared->Prop}
theorem Pk{l it S:Addr}{its:Array Value}{val:Nat->IS}(hh:A.handled=none)(hu:A.units+1<cLine)(n1:S≠it)(n2:S≠l)(n3:l≠it) :
    ∀(k j b:Nat)(s:Shared)(vb:Value)(c:Nat),its.size-j=k->gw s.heap l it S its vb j c->(∀i v,its[i]? = some v->cA s.heap v (val i))->its[b]? = some vb->(∀i,i<j->d7 (val i) (val b)=false)->j<=its.size->
      (∀(v:Value)(b':Nat)(h':Heap)(tk:Nat),its[b']? = some v->(∀i,i<its.size->d7 (val i) (val b')=false)->(∀d o,d≠it->d≠S->s.heap.get? d=some o->h'.get? d=some o)->R (.ok (.ret v)) { s with heap:=h',toks:=tk })->
      codeAny (model prog w) A (.builtin "max.loop" ⟨[.ref it,.none,.ref S],[]⟩) R s:=by
  have nm:(toString "max" ++ toString ".loop" : String) = "max.loop":=by decide
  intro k
  induction k with
  | zero=>
    intro j b s vb c hk M ht eb best hj q;refine codeAny_builtin F.entry_max_loop ?_;rw[Around.under_plainId F.plain_max_loop _];show wpAny _ A.in1 (seqItems? (.ref S) >>= _) _ _ s;refine wpAny_bind (wpAny_seqItems M.s rfl (wpAny_bind (wpAny_tryCatch (wpAny_pyNext_list_end (A:=A.in1) hh M.i M.l (Array.getElem?_eq_none (show its.size<=j by omega)) fun h' oY=>?_))));have s':=oY S _ n1 M.s;refine wpAny_bind (m:=updateSeq S (fun _=>#[])) ?_;refine wpAny_updateSeq s' rfl (wpAny_bind (wpAny_letGo (wpAny_pure ?_)));exact q vb b _ s.toks eb (fun i hi=>best i (by omega)) fun d o d1 d2 e=>by
      rw[Heap.get?_update_other _ _ (Ne.symm d2)];exact oY d o d1 e
  | succ k ih=>
    intro j b s vb c hk M ht eb best hj q;have bC:j<its.size:=by omega
    have ej:its[j]? = some its[j]:=Array.getElem?_eq_getElem bC;refine codeAny_builtin F.entry_max_loop ?_;rw[Around.under_plainId F.plain_max_loop _];show wpAny _ A.in1 (seqItems? (.ref S) >>= _) _ _ s;have ci:∀d o,s.heap.get? d=some o->o.cls = .type "tuple"->d≠it:=fun d o e z y=>by
      obtain⟨o',e',c',_⟩:=M.i;rw[y,e'] at e;cases e;rw[c'] at z;exact absurd z (by decide)
    have cS:∀d o,s.heap.get? d=some o->o.cls = .type "tuple"->d≠S:=fun d o e z y=>by
      have e':=M.s;rw[y,e'] at e;cases e;have z:Value.type "list" = Value.type "tuple":=z;exact absurd z (by decide)
    refine wpAny_bind (wpAny_seqItems M.s rfl (wpAny_bind (wpAny_tryCatch (wpAny_pyNext_list_item M.i M.l ej fun h' j7 sb=>?_))));have s':h'.get? S=_:=(sb.2 S n1).trans M.s;have l':h'.IsList l its:=by
      obtain⟨o,ho,r⟩:=M.l;exact⟨o,(sb.2 l n3).trans ho,r⟩
    have gT:∀i v,its[i]? = some v->cA h' v (val i):=fun i v e=>(ht i v e).kept fun d o z=>(sb.2 d (ci d o z.1 z.2)).trans z.1
    have tj:=gT j _ ej;have tb:=gT b _ eb;generalize its[j]=vj at ej tj;refine wpAny_bind (wpAny_pure ?_);refine wpAny_bind (wpAny_tryCatch (wpAny_holding (wpAny_bind (Ph (s:={ s with heap:=h' }) hu tj tb ?_))));refine wpAny_bind (wpAny_holding (wpAny_truthy_bool (wpAny_bind (wpAny_letGo (wpAny_pure ?_)))))
    by_cases c1:d7 (val j) (val b)=true
    · rw[c1,if_pos rfl];refine wpAny_bind (m:=updateSeq S (fun _=>#[vj,vj])) ?_;refine wpAny_updateSeq s' rfl (wpAny_bind (wpAny_letGo ?_));rw[nm];have keep:∀d o,d≠S->h'.get? d=some o->(h'.update S (Obj.mapSeq fun _=>#[vj,vj])).get? d=some o:=fun d o d1 e=>(Heap.get?_update_other _ _ (Ne.symm d1)).trans e
      obtain⟨c',M'⟩:∃c',gw (h'.update S (Obj.mapSeq fun _=>#[vj,vj])) l it S its vj (j+1) c':=by
        refine⟨_,j7.at fun o e=>keep it o (Ne.symm n1) e,?_,Heap.get?_update_self _ s' rfl⟩;obtain⟨o,ho,r⟩:=l';exact⟨o,keep l o (Ne.symm n2) ho,r⟩
      refine wpAny_pure ⟨plainId_quiet F.plain_max_loop _,ih (j+1) j _ _ _ (by omega) M' (fun i v e=>?_) ej (fun i hi=>?_) bC fun v b' h2 tk ev hb kp=>?_⟩
      · refine(ht i v e).kept fun d o z=>keep d o (cS d o z.1 z.2) ((sb.2 d (ci d o z.1 z.2)).trans z.1)
      · by_cases c2:i=j
        · subst c2;exact qN _
        · exact Dq (best i (by omega)) c1
      · exact q v b' h2 tk ev hb fun d o d1 d2 e=>kp d o d1 d2 (keep d o d2 ((sb.2 d d1).trans e))
    · have c1:d7 (val j) (val b)=false:=by simpa using c1
      rw[c1,if_neg Bool.false_ne_true];refine wpAny_bind (wpAny_letGo ?_);rw[nm];refine wpAny_pure ⟨plainId_quiet F.plain_max_loop _,ih (j+1) b { s with heap:=h' } _ c (by omega) ⟨j7,l',s'⟩ gT eb (fun i hi=>?_) bC fun v b' h2 tk ev hb kp=>?_⟩
      · by_cases c2:i=j
        · subst c2;exact c1
        · exact best i (by omega)
      · exact q v b' h2 tk ev hb fun d o d1 d2 e=>kp d o d1 d2 ((sb.2 d d1).trans e)
theorem Pn{l it S:Addr}{its:Array Value}{val:Nat->IS}{s:Shared}{c:Nat}(hh:A.handled=none)(hu:A.units+1<cLine)(n1:S≠it)(n2:S≠l)(n3:l≠it)(iC:0<its.size)
    (hi:s.heap.IsListIter it l 0) (hl:s.heap.IsList l its) (hS:s.heap.get? S=some { cls:=.type "list",dict:=none,data:=.seq #[] c,slots:=#[] }) (ht:∀i v,its[i]? = some v->cA s.heap v (val i))
    (q:∀(v:Value)(b':Nat)(h':Heap)(tk:Nat),its[b']? = some v->(∀i,i<its.size->d7 (val i) (val b')=false)->(∀d o,d≠it->d≠S->s.heap.get? d=some o->h'.get? d=some o)->R (.ok (.ret v)) { s with heap:=h',toks:=tk }) :
    codeAny (model prog w) A (.builtin "max.loop" ⟨[.ref it,.none,.ref S],[]⟩) R s:=by
  have nm:(toString "max" ++ toString ".loop" : String) = "max.loop":=by decide
  refine codeAny_builtin F.entry_max_loop ?_;rw[Around.under_plainId F.plain_max_loop _];show wpAny _ A.in1 (seqItems? (.ref S) >>= _) _ _ s;have ci:∀d o,s.heap.get? d=some o->o.cls = .type "tuple"->d≠it:=fun d o e z y=>by
    obtain⟨o',e',c',_⟩:=hi;rw[y,e'] at e;cases e;rw[c'] at z;exact absurd z (by decide)
  have cS:∀d o,s.heap.get? d=some o->o.cls = .type "tuple"->d≠S:=fun d o e z y=>by
    rw[y,hS] at e;cases e;have z:Value.type "list" = Value.type "tuple":=z;exact absurd z (by decide)
  have ej:its[0]? = some its[0]:=Array.getElem?_eq_getElem iC;refine wpAny_bind (wpAny_seqItems hS rfl (wpAny_bind (wpAny_tryCatch (wpAny_pyNext_list_item hi hl ej fun h' j7 sb=>?_))));have s':h'.get? S=_:=(sb.2 S n1).trans hS;have l':h'.IsList l its:=by
    obtain⟨o,ho,r⟩:=hl;exact⟨o,(sb.2 l n3).trans ho,r⟩
  refine wpAny_bind (wpAny_pure ?_);refine wpAny_bind (m:=updateSeq S (fun _=>#[its[0],its[0]])) ?_;refine wpAny_updateSeq s' rfl ?_;rw[nm];have keep:∀d o,d≠S->h'.get? d=some o->(h'.update S (Obj.mapSeq fun _=>#[its[0],its[0]])).get? d=some o:=fun d o d1 e=>(Heap.get?_update_other _ _ (Ne.symm d1)).trans e
  obtain⟨c',M'⟩:∃c',gw (h'.update S (Obj.mapSeq fun _=>#[its[0],its[0]])) l it S its its[0] 1 c':=by
    refine⟨_,j7.at fun o e=>keep it o (Ne.symm n1) e,?_,Heap.get?_update_self _ s' rfl⟩;obtain⟨o,ho,r⟩:=l';exact⟨o,keep l o (Ne.symm n2) ho,r⟩
  refine wpAny_pure ⟨plainId_quiet F.plain_max_loop _,Pk (val:=val) hh hu n1 n2 n3 _ 1 0 _ _ _ rfl M' (fun i v e=>?_) ej (fun i hi=>?_) (by omega) fun v b' h2 tk ev hb kp=>?_⟩
  · exact(ht i v e).kept fun d o z=>keep d o (cS d o z.1 z.2) ((sb.2 d (ci d o z.1 z.2)).trans z.1)
  · have:i=0:=by omega
    subst this;exact qN _
  · exact q v b' h2 tk ev hb fun d o d1 d2 e=>kp d o d1 d2 (keep d o d2 ((sb.2 d d1).trans e))
end
section
variable{prog:Program}{w:World}{A:Around}{E:Value->Shared->Prop}{s:Shared}
theorem Po{l:Addr}{its:Array Value}{val:Nat->IS}{Q:Value->Shared->Prop}(hh:A.handled=none)(hu:A.units+1<cLine)(hl:s.heap.IsList l its)(iC:0<its.size)(ht:∀i v,its[i]? = some v->cA s.heap v (val i))
    (q:∀(v:Value)(b':Nat)(h':Heap)(tk:Nat),its[b']? = some v->(∀i,i<its.size->d7 (val i) (val b')=false)->(∀d o,s.heap.get? d=some o->h'.get? d=some o)->Q v { s with heap:=h',toks:=tk }) :
    wpAny (model prog w) A (call (.builtin "max") [.ref l]) Q E s:=by
  have nm:(toString "max" ++ toString ".loop" : String) = "max.loop":=by decide
  have bC:l<s.heap.objs.size:=by obtain⟨_,e,_⟩:=hl;exact Heap.lt_size e
  have body:wpAny (model prog w) A.in1 (Builtin.«max» ⟨[.ref l],[]⟩) (fun fin s'=>match fin with
      | .done f=>(match (Except.ok f:Result) with | .ok (.ret v)=>Q v s' | .ok _=>False | .error e=>E e s')
      | .again c'=>c'.quiet=true/\codeAny (model prog w) A c' (fun r s'=>match r with | .ok (.ret v)=>Q v s' | .ok _=>False | .error e=>E e s') s') E s:=by
    show wpAny _ A.in1 (Builtin.Builtins.bindParams "max" ["key","default"] 0 ⟨[],[]⟩ >>= _) _ _ s;refine wpAny_bind (wpAny_of_eq (show Builtin.Builtins.bindParams "max" ["key","default"] 0 ⟨[],[]⟩=pure [none,none] from rfl) ?_);refine wpAny_bind (wpAny_pure (wpAny_bind (wpAny_pyIter_list hl ?_)));refine wpAny_bind (wpAny_newObj_type ?_);rw[nm];have zu:(s.heap.push { cls:=.type "list_iterator",data:=.fields #[.ref l,.int 0 0] }).objs.size=s.heap.objs.size+1:=Heap.size_push ..;have gI:∀d o,s.heap.get? d=some o->(s.heap.push { cls:=.type "list_iterator",data:=.fields #[.ref l,.int 0 0] }).get? d=some o:=fun d o e=>Heap.get?_push_of_some _ e
    have hit:(s.heap.push { cls:=.type "list_iterator",data:=.fields #[.ref l,.int 0 0] }).IsListIter s.heap.objs.size l 0:=⟨_,Heap.get?_push_size _ rfl,rfl,rfl⟩;have jv:(s.heap.push { cls:=.type "list_iterator",data:=.fields #[.ref l,.int 0 0] }).IsList l its:=by
      obtain⟨o,ho,r⟩:=hl;exact⟨o,gI l o ho,r⟩
    generalize s.heap.push { cls:=.type "list_iterator",data:=.fields #[.ref l,.int 0 0] } = g at zu gI hit jv;have iL:(g.push { cls:=.type "list",data:=.seq ([]:List Value).toArray }).IsList l its:=by
      obtain⟨o,ho,r⟩:=jv;exact⟨o,Heap.get?_push_of_some _ ho,r⟩
    refine wpAny_pure ⟨plainId_quiet F.plain_max_loop _,Pn (val:=val) (it:=s.heap.objs.size) (S:=g.objs.size) hh hu ?_ ?_ ?_ iC (hit.at fun o e=>Heap.get?_push_of_some _ e) iL (Heap.get?_push_size _ rfl) (fun i v e=>(ht i v e).kept fun d o z=>Heap.get?_push_of_some _ (gI d o z.1)) fun v b' h' tk eb hb kp=>?_⟩
    · rw[zu];exact Nat.succ_ne_self _
    · rw[zu];exact Ne.symm (Nat.ne_of_lt (Nat.lt_succ_of_lt bC))
    · exact Nat.ne_of_lt bC
    · refine q v b' h' tk eb hb fun d o e=>kp d o (fun z=>?_) (fun z=>?_) (Heap.get?_push_of_some _ (gI d o e))
      · exact absurd (Heap.lt_size e) (by rw[z];exact Nat.lt_irrefl _)
      · exact absurd (Heap.lt_size e) (by rw[z,zu];exact Nat.not_lt_of_le (Nat.le_succ _))
  refine wpAny_call (codeAny_call_builtin F.plain_max F.entry_max ?_);have ha:=F.args_max1 (.ref l);simp only[checkBuiltinCall,F.kind_max];cases sg:Manifest.signature? "max" with
  | none=>exact wpAny_pure body
  | some g=>
    simp only[argsOk,sg] at ha;have ha:Bind.checkArgs "max" g ⟨[.ref l],[]⟩=pure ():=ha;show wpAny _ A.in1 (Bind.checkArgs "max" g ⟨[.ref l],[]⟩) _ _ s;rw[ha];exact wpAny_pure body
end
section
variable{X:Cx}
theorem Pp{K:PySem.W.Frag}(h:X.K=K)(hc:X.calm=true)(hu:X.A.units+1<cLine):ji X (.builtin "max") (fun xs H Q=>∃(l:Addr)(as:List Addr)(ps:List IS),xs = [V.ref l]/\ao K H l (as.map V.ref)/\Paired (fun a(p:IS)=>aG K H a [.int p.1,.str p.2]) as ps/\ps≠[]/\
    ∀(j:Nat)a p,as[j]? = some a->ps[j]? = some p->(∀q∈ps,d7 q p=false)->Q (.ref a) H):=by
  subst h;intro pins s σ H xs us Q I r h;obtain⟨l,as,ps,rfl,hl,pr,iA,q⟩:=h;obtain⟨u,rfl,ru⟩:=j0 r;cases ru;obtain⟨its,rv,pl,hz⟩:=I.list hl;have len:=rv.length;rw[List.length_map] at len;have lp:as.length=ps.length:=Paired.length pr;have iC:0<ps.length:=List.length_pos_iff.mpr iA;have yd:∀(i:Nat)(v:Value),its.toArray[i]? = some v->∃(a:Addr)(p:IS),as[i]? = some a/\ps[i]? = some p/\v=Value.ref a/\aG X.K H a [.int p.1,.str p.2]:=by
    intro i v e;have e':its[i]? = some v:=by simpa using e
    have hi:i<as.length:=by have:=(List.getElem?_eq_some_iff.mp e').1;omega
    have ye:i<ps.length:=by omega
    obtain⟨u,e2,ru⟩:=rv.get (i:=i) (x:=V.ref as[i]) (by simp[hi]);rw[e'] at e2;cases e2;cases ru;exact⟨as[i],ps[i],List.getElem?_eq_getElem hi,List.getElem?_eq_getElem ye,rfl,oZ pr (List.getElem?_eq_getElem hi) (List.getElem?_eq_getElem ye)⟩
  have ht:∀i v,its.toArray[i]? = some v->cA s.heap v (ps.getD i (0,"")):=by
    intro i v e;obtain⟨a,p,ea,ep,rfl,t⟩:=yd i v e;obtain⟨ts,rt,it,_⟩:=I.tuple t;have e0:ps.getD i (0,"")=p:=by rw[List.getD_eq_getElem?_getD,ep];rfl
    obtain⟨u1,u2,rfl,⟨t1,rfl⟩,⟨t2,rfl⟩⟩:=vZ rt;rw[e0];exact⟨a,t1,t2,rfl,it⟩
  refine Po (I.ok.hd hc) hu pl.isList (by rw[List.size_toArray];omega) ht fun v b h' tk eb hb kp=>?_
  obtain⟨a,p,ea,ep,rfl,t⟩:=yd b v eb;refine⟨.ref a,H,I.kept kp,rfl,q b a p ea ep fun z hz=>?_⟩;obtain⟨i,hi⟩:=List.mem_iff_getElem?.mp hz;have bC:=(List.getElem?_eq_some_iff.mp hi).1;have:=hb i (by rw[List.size_toArray];omega);rw[List.getD_eq_getElem?_getD,List.getD_eq_getElem?_getD,hi,ep] at this;exact this
end
section
variable{prog:Program}{w:World}{A:Around}{R:Result->Shared->Prop}
theorem Pq{l it S:Addr}{its:Array Value}{val:Nat->IS}(hh:A.handled=none)(hu:A.units+1<cLine)(n1:S≠it)(n2:S≠l)(n3:l≠it) :
    ∀(k j b:Nat)(s:Shared)(vb:Value)(c:Nat),its.size-j=k->gw s.heap l it S its vb j c->(∀i v,its[i]? = some v->cA s.heap v (val i))->its[b]? = some vb->(∀i,i<j->d7 (val b) (val i)=false)->j<=its.size->
      (∀(v:Value)(b':Nat)(h':Heap)(tk:Nat),its[b']? = some v->(∀i,i<its.size->d7 (val b') (val i)=false)->(∀d o,d≠it->d≠S->s.heap.get? d=some o->h'.get? d=some o)->R (.ok (.ret v)) { s with heap:=h',toks:=tk })->
      codeAny (model prog w) A (.builtin "min.loop" ⟨[.ref it,.none,.ref S],[]⟩) R s:=by
  have nm:(toString "min" ++ toString ".loop" : String) = "min.loop":=by decide
  intro k
  induction k with
  | zero=>
    intro j b s vb c hk M ht eb best hj q;refine codeAny_builtin F.entry_min_loop ?_;rw[Around.under_plainId F.plain_min_loop _];show wpAny _ A.in1 (seqItems? (.ref S) >>= _) _ _ s;refine wpAny_bind (wpAny_seqItems M.s rfl (wpAny_bind (wpAny_tryCatch (wpAny_pyNext_list_end (A:=A.in1) hh M.i M.l (Array.getElem?_eq_none (show its.size<=j by omega)) fun h' oY=>?_))));have s':=oY S _ n1 M.s;refine wpAny_bind (m:=updateSeq S (fun _=>#[])) ?_;refine wpAny_updateSeq s' rfl (wpAny_bind (wpAny_letGo (wpAny_pure ?_)));exact q vb b _ s.toks eb (fun i hi=>best i (by omega)) fun d o d1 d2 e=>by
      rw[Heap.get?_update_other _ _ (Ne.symm d2)];exact oY d o d1 e
  | succ k ih=>
    intro j b s vb c hk M ht eb best hj q;have bC:j<its.size:=by omega
    have ej:its[j]? = some its[j]:=Array.getElem?_eq_getElem bC;refine codeAny_builtin F.entry_min_loop ?_;rw[Around.under_plainId F.plain_min_loop _];show wpAny _ A.in1 (seqItems? (.ref S) >>= _) _ _ s;have ci:∀d o,s.heap.get? d=some o->o.cls = .type "tuple"->d≠it:=fun d o e z y=>by
      obtain⟨o',e',c',_⟩:=M.i;rw[y,e'] at e;cases e;rw[c'] at z;exact absurd z (by decide)
    have cS:∀d o,s.heap.get? d=some o->o.cls = .type "tuple"->d≠S:=fun d o e z y=>by
      have e':=M.s;rw[y,e'] at e;cases e;have z:Value.type "list" = Value.type "tuple":=z;exact absurd z (by decide)
    refine wpAny_bind (wpAny_seqItems M.s rfl (wpAny_bind (wpAny_tryCatch (wpAny_pyNext_list_item M.i M.l ej fun h' j7 sb=>?_))));have s':h'.get? S=_:=(sb.2 S n1).trans M.s;have l':h'.IsList l its:=by
      obtain⟨o,ho,r⟩:=M.l;exact⟨o,(sb.2 l n3).trans ho,r⟩
    have gT:∀i v,its[i]? = some v->cA h' v (val i):=fun i v e=>(ht i v e).kept fun d o z=>(sb.2 d (ci d o z.1 z.2)).trans z.1
    have tj:=gT j _ ej;have tb:=gT b _ eb;generalize its[j]=vj at ej tj;refine wpAny_bind (wpAny_pure ?_);refine wpAny_bind (wpAny_tryCatch (wpAny_holding (wpAny_bind (Pj (s:={ s with heap:=h' }) hu tj tb ?_))));refine wpAny_bind (wpAny_holding (wpAny_truthy_bool (wpAny_bind (wpAny_letGo (wpAny_pure ?_)))))
    by_cases c1:d7 (val b) (val j)=true
    · rw[c1,if_pos rfl];refine wpAny_bind (m:=updateSeq S (fun _=>#[vj,vj])) ?_;refine wpAny_updateSeq s' rfl (wpAny_bind (wpAny_letGo ?_));rw[nm];have keep:∀d o,d≠S->h'.get? d=some o->(h'.update S (Obj.mapSeq fun _=>#[vj,vj])).get? d=some o:=fun d o d1 e=>(Heap.get?_update_other _ _ (Ne.symm d1)).trans e
      obtain⟨c',M'⟩:∃c',gw (h'.update S (Obj.mapSeq fun _=>#[vj,vj])) l it S its vj (j+1) c':=by
        refine⟨_,j7.at fun o e=>keep it o (Ne.symm n1) e,?_,Heap.get?_update_self _ s' rfl⟩;obtain⟨o,ho,r⟩:=l';exact⟨o,keep l o (Ne.symm n2) ho,r⟩
      refine wpAny_pure ⟨plainId_quiet F.plain_min_loop _,ih (j+1) j _ _ _ (by omega) M' (fun i v e=>?_) ej (fun i hi=>?_) bC fun v b' h2 tk ev hb kp=>?_⟩
      · refine(ht i v e).kept fun d o z=>keep d o (cS d o z.1 z.2) ((sb.2 d (ci d o z.1 z.2)).trans z.1)
      · by_cases c2:i=j
        · subst c2;exact qN _
        · exact Dr (best i (by omega)) c1
      · exact q v b' h2 tk ev hb fun d o d1 d2 e=>kp d o d1 d2 (keep d o d2 ((sb.2 d d1).trans e))
    · have c1:d7 (val b) (val j)=false:=by simpa using c1
      rw[c1,if_neg Bool.false_ne_true];refine wpAny_bind (wpAny_letGo ?_);rw[nm];refine wpAny_pure ⟨plainId_quiet F.plain_min_loop _,ih (j+1) b { s with heap:=h' } _ c (by omega) ⟨j7,l',s'⟩ gT eb (fun i hi=>?_) bC fun v b' h2 tk ev hb kp=>?_⟩
      · by_cases c2:i=j
        · subst c2;exact c1
        · exact best i (by omega)
      · exact q v b' h2 tk ev hb fun d o d1 d2 e=>kp d o d1 d2 ((sb.2 d d1).trans e)
theorem Pr{l it S:Addr}{its:Array Value}{val:Nat->IS}{s:Shared}{c:Nat}(hh:A.handled=none)(hu:A.units+1<cLine)(n1:S≠it)(n2:S≠l)(n3:l≠it)(iC:0<its.size)
    (hi:s.heap.IsListIter it l 0) (hl:s.heap.IsList l its) (hS:s.heap.get? S=some { cls:=.type "list",dict:=none,data:=.seq #[] c,slots:=#[] }) (ht:∀i v,its[i]? = some v->cA s.heap v (val i))
    (q:∀(v:Value)(b':Nat)(h':Heap)(tk:Nat),its[b']? = some v->(∀i,i<its.size->d7 (val b') (val i)=false)->(∀d o,d≠it->d≠S->s.heap.get? d=some o->h'.get? d=some o)->R (.ok (.ret v)) { s with heap:=h',toks:=tk }) :
    codeAny (model prog w) A (.builtin "min.loop" ⟨[.ref it,.none,.ref S],[]⟩) R s:=by
  have nm:(toString "min" ++ toString ".loop" : String) = "min.loop":=by decide
  refine codeAny_builtin F.entry_min_loop ?_;rw[Around.under_plainId F.plain_min_loop _];show wpAny _ A.in1 (seqItems? (.ref S) >>= _) _ _ s;have ci:∀d o,s.heap.get? d=some o->o.cls = .type "tuple"->d≠it:=fun d o e z y=>by
    obtain⟨o',e',c',_⟩:=hi;rw[y,e'] at e;cases e;rw[c'] at z;exact absurd z (by decide)
  have cS:∀d o,s.heap.get? d=some o->o.cls = .type "tuple"->d≠S:=fun d o e z y=>by
    rw[y,hS] at e;cases e;have z:Value.type "list" = Value.type "tuple":=z;exact absurd z (by decide)
  have ej:its[0]? = some its[0]:=Array.getElem?_eq_getElem iC;refine wpAny_bind (wpAny_seqItems hS rfl (wpAny_bind (wpAny_tryCatch (wpAny_pyNext_list_item hi hl ej fun h' j7 sb=>?_))));have s':h'.get? S=_:=(sb.2 S n1).trans hS;have l':h'.IsList l its:=by
    obtain⟨o,ho,r⟩:=hl;exact⟨o,(sb.2 l n3).trans ho,r⟩
  refine wpAny_bind (wpAny_pure ?_);refine wpAny_bind (m:=updateSeq S (fun _=>#[its[0],its[0]])) ?_;refine wpAny_updateSeq s' rfl ?_;rw[nm];have keep:∀d o,d≠S->h'.get? d=some o->(h'.update S (Obj.mapSeq fun _=>#[its[0],its[0]])).get? d=some o:=fun d o d1 e=>(Heap.get?_update_other _ _ (Ne.symm d1)).trans e
  obtain⟨c',M'⟩:∃c',gw (h'.update S (Obj.mapSeq fun _=>#[its[0],its[0]])) l it S its its[0] 1 c':=by
    refine⟨_,j7.at fun o e=>keep it o (Ne.symm n1) e,?_,Heap.get?_update_self _ s' rfl⟩;obtain⟨o,ho,r⟩:=l';exact⟨o,keep l o (Ne.symm n2) ho,r⟩
  refine wpAny_pure ⟨plainId_quiet F.plain_min_loop _,Pq (val:=val) hh hu n1 n2 n3 _ 1 0 _ _ _ rfl M' (fun i v e=>?_) ej (fun i hi=>?_) (by omega) fun v b' h2 tk ev hb kp=>?_⟩
  · exact(ht i v e).kept fun d o z=>keep d o (cS d o z.1 z.2) ((sb.2 d (ci d o z.1 z.2)).trans z.1)
  · have:i=0:=by omega
    subst this;exact qN _
  · exact q v b' h2 tk ev hb fun d o d1 d2 e=>kp d o d1 d2 (keep d o d2 ((sb.2 d d1).trans e))
end
section
variable{prog:Program}{w:World}{A:Around}{E:Value->Shared->Prop}{s:Shared}
theorem Pu{l:Addr}{its:Array Value}{val:Nat->IS}{Q:Value->Shared->Prop}(hh:A.handled=none)(hu:A.units+1<cLine)(hl:s.heap.IsList l its)(iC:0<its.size)(ht:∀i v,its[i]? = some v->cA s.heap v (val i))
    (q:∀(v:Value)(b':Nat)(h':Heap)(tk:Nat),its[b']? = some v->(∀i,i<its.size->d7 (val b') (val i)=false)->(∀d o,s.heap.get? d=some o->h'.get? d=some o)->Q v { s with heap:=h',toks:=tk }) :
    wpAny (model prog w) A (call (.builtin "min") [.ref l]) Q E s:=by
  have nm:(toString "min" ++ toString ".loop" : String) = "min.loop":=by decide
  have bC:l<s.heap.objs.size:=by obtain⟨_,e,_⟩:=hl;exact Heap.lt_size e
  have body:wpAny (model prog w) A.in1 (Builtin.«min» ⟨[.ref l],[]⟩) (fun fin s'=>match fin with
      | .done f=>(match (Except.ok f:Result) with | .ok (.ret v)=>Q v s' | .ok _=>False | .error e=>E e s')
      | .again c'=>c'.quiet=true/\codeAny (model prog w) A c' (fun r s'=>match r with | .ok (.ret v)=>Q v s' | .ok _=>False | .error e=>E e s') s') E s:=by
    show wpAny _ A.in1 (Builtin.Builtins.bindParams "min" ["key","default"] 0 ⟨[],[]⟩ >>= _) _ _ s;refine wpAny_bind (wpAny_of_eq (show Builtin.Builtins.bindParams "min" ["key","default"] 0 ⟨[],[]⟩=pure [none,none] from rfl) ?_);refine wpAny_bind (wpAny_pure (wpAny_bind (wpAny_pyIter_list hl ?_)));refine wpAny_bind (wpAny_newObj_type ?_);rw[nm];have zu:(s.heap.push { cls:=.type "list_iterator",data:=.fields #[.ref l,.int 0 0] }).objs.size=s.heap.objs.size+1:=Heap.size_push ..;have gI:∀d o,s.heap.get? d=some o->(s.heap.push { cls:=.type "list_iterator",data:=.fields #[.ref l,.int 0 0] }).get? d=some o:=fun d o e=>Heap.get?_push_of_some _ e
    have hit:(s.heap.push { cls:=.type "list_iterator",data:=.fields #[.ref l,.int 0 0] }).IsListIter s.heap.objs.size l 0:=⟨_,Heap.get?_push_size _ rfl,rfl,rfl⟩;have jv:(s.heap.push { cls:=.type "list_iterator",data:=.fields #[.ref l,.int 0 0] }).IsList l its:=by
      obtain⟨o,ho,r⟩:=hl;exact⟨o,gI l o ho,r⟩
    generalize s.heap.push { cls:=.type "list_iterator",data:=.fields #[.ref l,.int 0 0] } = g at zu gI hit jv;have iL:(g.push { cls:=.type "list",data:=.seq ([]:List Value).toArray }).IsList l its:=by
      obtain⟨o,ho,r⟩:=jv;exact⟨o,Heap.get?_push_of_some _ ho,r⟩
    refine wpAny_pure ⟨plainId_quiet F.plain_min_loop _,Pr (val:=val) (it:=s.heap.objs.size) (S:=g.objs.size) hh hu ?_ ?_ ?_ iC (hit.at fun o e=>Heap.get?_push_of_some _ e) iL (Heap.get?_push_size _ rfl) (fun i v e=>(ht i v e).kept fun d o z=>Heap.get?_push_of_some _ (gI d o z.1)) fun v b' h' tk eb hb kp=>?_⟩
    · rw[zu];exact Nat.succ_ne_self _
    · rw[zu];exact Ne.symm (Nat.ne_of_lt (Nat.lt_succ_of_lt bC))
    · exact Nat.ne_of_lt bC
    · refine q v b' h' tk eb hb fun d o e=>kp d o (fun z=>?_) (fun z=>?_) (Heap.get?_push_of_some _ (gI d o e))
      · exact absurd (Heap.lt_size e) (by rw[z];exact Nat.lt_irrefl _)
      · exact absurd (Heap.lt_size e) (by rw[z,zu];exact Nat.not_lt_of_le (Nat.le_succ _))
  refine wpAny_call (codeAny_call_builtin F.plain_min F.entry_min ?_);have ha:=F.args_min1 (.ref l);simp only[checkBuiltinCall,F.kind_min];cases sg:Manifest.signature? "min" with
  | none=>exact wpAny_pure body
  | some g=>
    simp only[argsOk,sg] at ha;have ha:Bind.checkArgs "min" g ⟨[.ref l],[]⟩=pure ():=ha;show wpAny _ A.in1 (Bind.checkArgs "min" g ⟨[.ref l],[]⟩) _ _ s;rw[ha];exact wpAny_pure body
end
section
variable{X:Cx}
theorem Pw{K:PySem.W.Frag}(h:X.K=K)(hc:X.calm=true)(hu:X.A.units+1<cLine):ji X (.builtin "min") (fun xs H Q=>∃(l:Addr)(as:List Addr)(ps:List IS),xs = [V.ref l]/\ao K H l (as.map V.ref)/\Paired (fun a(p:IS)=>aG K H a [.int p.1,.str p.2]) as ps/\ps≠[]/\
    ∀(j:Nat)a p,as[j]? = some a->ps[j]? = some p->(∀q∈ps,d7 p q=false)->Q (.ref a) H):=by
  subst h;intro pins s σ H xs us Q I r h;obtain⟨l,as,ps,rfl,hl,pr,iA,q⟩:=h;obtain⟨u,rfl,ru⟩:=j0 r;cases ru;obtain⟨its,rv,pl,hz⟩:=I.list hl;have len:=rv.length;rw[List.length_map] at len;have lp:as.length=ps.length:=Paired.length pr;have iC:0<ps.length:=List.length_pos_iff.mpr iA;have yd:∀(i:Nat)(v:Value),its.toArray[i]? = some v->∃(a:Addr)(p:IS),as[i]? = some a/\ps[i]? = some p/\v=Value.ref a/\aG X.K H a [.int p.1,.str p.2]:=by
    intro i v e;have e':its[i]? = some v:=by simpa using e
    have hi:i<as.length:=by have:=(List.getElem?_eq_some_iff.mp e').1;omega
    have ye:i<ps.length:=by omega
    obtain⟨u,e2,ru⟩:=rv.get (i:=i) (x:=V.ref as[i]) (by simp[hi]);rw[e'] at e2;cases e2;cases ru;exact⟨as[i],ps[i],List.getElem?_eq_getElem hi,List.getElem?_eq_getElem ye,rfl,oZ pr (List.getElem?_eq_getElem hi) (List.getElem?_eq_getElem ye)⟩
  have ht:∀i v,its.toArray[i]? = some v->cA s.heap v (ps.getD i (0,"")):=by
    intro i v e;obtain⟨a,p,ea,ep,rfl,t⟩:=yd i v e;obtain⟨ts,rt,it,_⟩:=I.tuple t;have e0:ps.getD i (0,"")=p:=by rw[List.getD_eq_getElem?_getD,ep];rfl
    obtain⟨u1,u2,rfl,⟨t1,rfl⟩,⟨t2,rfl⟩⟩:=vZ rt;rw[e0];exact⟨a,t1,t2,rfl,it⟩
  refine Pu (I.ok.hd hc) hu pl.isList (by rw[List.size_toArray];omega) ht fun v b h' tk eb hb kp=>?_
  obtain⟨a,p,ea,ep,rfl,t⟩:=yd b v eb;refine⟨.ref a,H,I.kept kp,rfl,q b a p ea ep fun z hz=>?_⟩;obtain⟨i,hi⟩:=List.mem_iff_getElem?.mp hz;have bC:=(List.getElem?_eq_some_iff.mp hi).1;have:=hb i (by rw[List.size_toArray];omega);rw[List.getD_eq_getElem?_getD,List.getD_eq_getElem?_getD,hi,ep] at this;exact this
end
end L2
namespace Dm
open PySem PySem.NumText L2
structure cU(K:PySem.W.Frag)(H:Hp)(p pm pu pt pf:Addr)(lo hi:Int)(us:List Str)(ai:List Addr)(ts:List av)(af:List Addr)(fs:List bI):Prop where
  cz:iB K H p pu pt (.ref pm) (.ref pf) us ai ts
  m:aG K H pm [.int lo,.int hi]
  f:ao K H pf (af.map V.ref)
  ft:aV H af (fs.map dU)
  fu:∀f∈fs,f.u∈us
  fl:fs.length<=60
section
variable{K:PySem.W.Frag}{H H':Hp}{p pm pu pt pf:Addr}{lo hi:Int}{us:List Str}{ai:List Addr}{ts:List av}{af:List Addr}{fs:List bI}
theorem cU.same(h:cU K H p pm pu pt pf lo hi us ai ts af fs)(s:ah H H'):cU K H' p pm pu pt pf lo hi us ai ts af fs:=⟨h.cz.same s,s.tup h.m,s.seq h.f,h.ft.same s,h.fu,h.fl⟩
theorem cU.mw(h:cU K H p pm pu pt pf lo hi us ai ts af fs):af.length=fs.length:=by have:=h.ft.len;rw[List.length_map] at this;exact this
end
theorem Ds(f:bI):gC (dU f) 0=some (.str f.n):=rfl
theorem HV(f:bI):gC (dU f) 1=some (.str f.u):=rfl
theorem Du(f:bI):gC (dU f) 2=some (.int f.lo):=rfl
theorem HW(f:bI):gC (dU f) 3=some (.int f.hi):=rfl
abbrev Fz:=List (bI×Addr)
def dH(ts:List av)(z:Fz):Str->Fz:=fun k=>z.filter fun p=>decide (aj ts p.1.u=k)
theorem Px{ts:List av}{z:Fz}{i:Nat}{f:bI}{r:Addr}{k:Str}(h:z[i]? = some (f,r)):dH ts (z.take (i+1)) k=dH ts (z.take i) k++(if aj ts f.u=k then[(f,r)] else[]):=by
  unfold dH;rw[List.take_add_one,h,List.filter_append]
  congr 1
  by_cases c:aj ts f.u=k
  · rw[if_pos c];simp[c]
  · rw[if_neg c];simp[c]
theorem Dv{ts:List av}{z:Fz}{k:Str}:(dH ts z k).length<=z.length:=List.length_filter_le _ _
structure Fw(H:Hp)(pd:Addr)(ob:Obj)(keys:List Str)(fw:Str->Fz)(ad:Str->Addr):Prop where
  d:H pd=some (.eB ob (.dK (dV keys fun k=>.ref (ad k))))
  l:∀k∈keys,H (ad k)=some (.lst ((fw k).map fun p=>V.ref p.2))
theorem Fw.same{H H':Hp}{pd:Addr}{ob:Obj}{keys:List Str}{fw:Str->Fz}{ad:Str->Addr}(b:Fw H pd ob keys fw ad)(s:ah H H'):Fw H' pd ob keys fw ad:=
  ⟨s _ _ b.d,fun k hk=>s _ _ (b.l k hk)⟩
theorem iY{H:Hp}{pd:Addr}{ob:Obj}{keys:List Str}{f:Str->V}(h:H pd=some (.eB ob (.dK (dV keys f)))){k:Str}(hk:k∈keys):aU H pd (.str k) (some (f k)):=by
  have:=jt (f:=f) hk;exact .inl ⟨_,Sum.inr k,.inr ⟨ob,h⟩,rfl,this.symm⟩
def qO(lo:Int)(L:Fz):List IS:=(lo,"")::L.map fun p=>(p.1.lo,p.1.n)
def qP(hi:Int)(L:Fz):List IS:=(hi,"")::L.map fun p=>(p.1.hi,p.1.n)
def nS(l:List IS)(m:IS):Prop:=m∈l/\∀q∈l,d7 q m=false
def nU(l:List IS)(m:IS):Prop:=m∈l/\∀q∈l,d7 m q=false
structure Bd(H:Hp)(pd:Addr)(ob:Obj)(keys:List Str)(v:Str->IS)(ad:Str->Addr):Prop where
  d:H pd=some (.eB ob (.dK (dV keys fun k=>.ref (ad k))))
  e:∀k∈keys,H (ad k)=some (.tup [.int (v k).1,.str (v k).2])
theorem Bd.same{H H':Hp}{pd:Addr}{ob:Obj}{keys:List Str}{v:Str->IS}{ad:Str->Addr}(b:Bd H pd ob keys v ad)(s:ah H H'):Bd H' pd ob keys v ad:=
  ⟨s _ _ b.d,fun k hk=>s _ _ (b.e k hk)⟩
theorem Py{lo:Int}{L:Fz}{m:IS}(h:nS (qO lo L) m)(y:Int):m.1<=y↔lo<=y/\∀p∈L,p.1.lo<=y:=by
  obtain⟨h1,h2⟩:=h;unfold qO at h1 h2;constructor
  · intro h;refine⟨?_,fun p hp=>?_⟩
    · have:=AY (h2 (lo,"") (by simp));have:lo<=m.1:=this;omega
    · have:=AY (h2 (p.1.lo,p.1.n) (List.mem_cons_of_mem _ (List.mem_map.mpr ⟨p,hp,rfl⟩)));have:p.1.lo<=m.1:=this;omega
  · rintro⟨a,b⟩;rcases List.mem_cons.mp h1 with rfl | h1
    · exact a
    · obtain⟨p,hp,rfl⟩:=List.mem_map.mp h1;exact b p hp
theorem Pz{hi:Int}{L:Fz}{m:IS}(h:nU (qP hi L) m)(y:Int):y<=m.1↔y<=hi/\∀p∈L,y<=p.1.hi:=by
  obtain⟨h1,h2⟩:=h;unfold qP at h1 h2;constructor
  · intro h;refine⟨?_,fun p hp=>?_⟩
    · have:=AY (h2 (hi,"") (by simp));have:m.1<=hi:=this;omega
    · have:=AY (h2 (p.1.hi,p.1.n) (List.mem_cons_of_mem _ (List.mem_map.mpr ⟨p,hp,rfl⟩)));have:m.1<=p.1.hi:=this;omega
  · rintro⟨a,b⟩;rcases List.mem_cons.mp h1 with rfl | h1
    · exact a
    · obtain⟨p,hp,rfl⟩:=List.mem_map.mp h1;exact b p hp
def mz(i j:Int):Int:=if j > i then j else i
def uR(i j:Int):Int:=if j<i then j else i
def gx(ts:List av)(fs:List bI)(lo:Int)(k:Str):Int:=fs.foldl (fun m f=>if aj ts f.u=k then mz m f.lo else m) lo
def uS(ts:List av)(fs:List bI)(hi:Int)(k:Str):Int:=fs.foldl (fun m f=>if aj ts f.u=k then uR m f.hi else m) hi
theorem Dw{us:List Str}{ts:List av}(dW:∀t∈ts,t.a∈us/\t.b∈us){x:Str}(hx:x∈us):aj ts x∈zn ts (au us):=qI dW hx
def nV(f:Str->Int)(q:cZ):Str->Int:=fun z=>if z=q.1 then mz (f q.1) (f q.2.1+q.2.2.1) else f z
def nW(f:Str->Int)(q:cZ):Str->Int:=fun z=>if z=q.2.1 then uR (f q.2.1) (f q.1-q.2.2.1) else f z
def sV(ls:List cZ)(f:Str->Int):Str->Int:=ls.foldl nV f
def sW(ls:List cZ)(f:Str->Int):Str->Int:=ls.foldl nW f
def mC(ls:List cZ)(f:Str->Int):Nat->Str->Int
  | 0=>f
  | n+1=>sV ls (mC ls f n)
def mX(ls:List cZ)(f:Str->Int):Nat->Str->Int
  | 0=>f
  | n+1=>sW ls (mX ls f n)
theorem HX{α β:Type}:∀{as:List α}{bs:List β},bs.length=as.length->∀a∈as,∃b,(a,b)∈as.zip bs
  | [],_,_,a,h=>by cases h
  | x::as,[],h,_,_=>by simp at h
  | x::as,y::bs,h,a,ha=>by
    rcases List.mem_cons.mp ha with rfl | ha
    · exact⟨y,by simp⟩
    · obtain⟨b,hb⟩:=HX (as:=as) (bs:=bs) (by simpa using h) a ha;exact⟨b,by simp[hb]⟩
end Dm
namespace L2
open PySem
end L2
namespace L2
open PySem PySem.W PyProof.Rows
def kK(N:Nat)(lt:Nat->Nat->Bool):Nat->Nat->(Bool->Shared->Prop)->Shared->Prop:=fun i j C s=>i<N/\j<N/\i≠j/\C (lt i j) s
structure nX(N:Nat)(lt:Nat->Nat->Bool):Prop where
  WU:∀a,a<N->lt a a=false
  tr:∀a b c,a<N->b<N->c<N->lt a b=true->lt b c=true->lt a c=true
  Dy:∀a b,a<N->b<N->a≠b->lt a b=false->lt b a=true
structure Good(N:Nat)(p:Array Nat):Prop where
  sz:p.size=N
  lt:∀i,i<N->p.getD i 0<N
  inj:∀i j,i<N->j<N->p.getD i 0=p.getD j 0->i=j
def lF(lt:Nat->Nat->Bool)(p:Array Nat)(k:Nat):Prop:=∀i j,i<j->j<k->lt (p.getD i 0) (p.getD j 0)=true
def qQ(lt:Nat->Nat->Bool)(p:Array Nat)(k:Nat):Prop:=∀i j,i<j->j<k->lt (p.getD j 0) (p.getD i 0)=true
section
variable{N:Nat}{lt:Nat->Nat->Bool}{s:Shared}
theorem lF.snoc(T:nX N lt){p:Array Nat}(G:Good N p){n:Nat}(h:lF lt p n)(hn:n<N)(h1:1<=n)(q:lt (p.getD (n-1) 0) (p.getD n 0)=true):lF lt p (n+1):=by
  intro i j jZ hj
  by_cases c:j<n
  · exact h i j jZ c
  · have:j=n:=by omega
    subst this
    by_cases c2:i=j-1
    · rw[c2];exact q
    · exact T.tr _ _ _ (G.lt i (by omega)) (G.lt (j-1) (by omega)) (G.lt j hn) (h i (j-1) (by omega) (by omega)) q
theorem qQ.snoc(T:nX N lt){p:Array Nat}(G:Good N p){n:Nat}(h:qQ lt p n)(hn:n<N)(h1:1<=n)(q:lt (p.getD n 0) (p.getD (n-1) 0)=true):qQ lt p (n+1):=by
  intro i j jZ hj
  by_cases c:j<n
  · exact h i j jZ c
  · have:j=n:=by omega
    subst this
    by_cases c2:i=j-1
    · rw[c2];exact q
    · exact T.tr _ _ _ (G.lt j hn) (G.lt (j-1) (by omega)) (G.lt i (by omega)) q (h i (j-1) (by omega) (by omega))
theorem Dz(T:nX N lt){p:Array Nat}(G:Good N p){Q:Nat->Shared->Prop}:∀(f n:Nat),1<=n->n+f<=N->lF lt p n->(∀m,n<=m->m<=n+f->lF lt p m->(m<n+f->lt (p.getD m 0) (p.getD (m-1) 0)=true)->Q m s)->(kas_asc p f n).kasWp (kK N lt) Q s
  | 0,n,_,_,a,k=>k n (Nat.le_refl _) (Nat.le_refl _) a (fun z=>absurd z (Nat.lt_irrefl _))
  | f+1,n,h1,hn,a,k=>by
    refine⟨G.lt n (by omega),G.lt (n-1) (by omega),fun z=>by have:=G.inj n (n-1) (by omega) (by omega) z;omega,?_⟩;cases c:lt (p.getD n 0) (p.getD (n-1) 0) with
    | true=>
      dsimp only;rw[if_pos rfl];exact k n (Nat.le_refl _) (by omega) a fun _=>c
    | false=>
      dsimp only;rw[if_neg (by simp)];have ne:p.getD n 0≠p.getD (n-1) 0:=fun z=>by have:=G.inj n (n-1) (by omega) (by omega) z;omega
      have q:=T.Dy _ _ (G.lt n (by omega)) (G.lt (n-1) (by omega)) ne c;refine Dz T G f (n+1) (by omega) (by omega) (a.snoc T G (by omega) h1 q) fun m m1 m2 am hm=>k m (by omega) (by omega) am fun z=>hm (by omega)
theorem HY(T:nX N lt){p:Array Nat}(G:Good N p){Q:Array Nat×Nat×Nat->Shared->Prop}:∀(f n:Nat),1<=n->n+f<=N->qQ lt p n->(∀m,n<=m->m<=n+f->qQ lt p m->Q (p,m,0) s)->(kas_desc f p n 0).kasWp (kK N lt) Q s
  | 0,n,_,_,a,k=>k n (Nat.le_refl _) (Nat.le_refl _) a
  | f+1,n,h1,hn,a,k=>by
    refine⟨G.lt n (by omega),G.lt (n-1) (by omega),fun z=>by have:=G.inj n (n-1) (by omega) (by omega) z;omega,?_⟩;cases c:lt (p.getD n 0) (p.getD (n-1) 0) with
    | true=>
      dsimp only;rw[if_pos rfl,if_neg (by omega)];exact HY T G f (n+1) (by omega) (by omega) (a.snoc T G (by omega) h1 c) fun m m1 m2 am=>k m (by omega) (by omega) am
    | false=>
      dsimp only;rw[if_neg (by simp)];have ne:p.getD n 0≠p.getD (n-1) 0:=fun z=>by have:=G.inj n (n-1) (by omega) (by omega) z;omega
      have q:=T.Dy _ _ (G.lt n (by omega)) (G.lt (n-1) (by omega)) ne c;refine⟨G.lt (n-1) (by omega),G.lt n (by omega),Ne.symm ne,?_⟩;rw[q];dsimp only;rw[if_pos rfl];exact k n (Nat.le_refl _) (by omega) a
theorem yf{p:Array Nat}{i:Nat}{q:Array Nat}{j:Nat}(h:p[i]? = q[j]?):p.getD i 0=q.getD j 0:=by
  rw[Array.getD_eq_getD_getElem?,Array.getD_eq_getD_getElem?,h]
theorem yg{p:Array Nat}{j:Nat}(hj:j<=p.size)(k:Nat):(kas_rev p 0 j).getD k 0=if k<j then p.getD (j-1-k) 0 else p.getD k 0:=by
  have e:=getElem?_mirror_all (xs:=p) (i:=0) hj k;unfold kas_rev
  by_cases c:k<j
  · rw[if_pos c];rw[if_pos ⟨Nat.zero_le _,c⟩] at e;rw[Nat.zero_add] at e;exact yf e
  · rw[if_neg c];rw[if_neg (fun z=>c z.2)] at e;exact yf e
theorem Good.rev{p:Array Nat}(G:Good N p){j:Nat}(hj:j<=N):Good N (kas_rev p 0 j):=by
  have hz:j<=p.size:=by rw[G.sz];exact hj
  refine⟨by rw[kas_rev_size];exact G.sz,fun i hi=>?_,fun a b ha hb e=>?_⟩
  · rw[yg hz];split
    · exact G.lt _ (by omega)
    · exact G.lt _ hi
  · rw[yg hz,yg hz] at e
    by_cases c1:a<j<;>by_cases c2:b<j
    · rw[if_pos c1,if_pos c2] at e;have:=G.inj _ _ (by omega) (by omega) e;omega
    · rw[if_pos c1,if_neg c2] at e;have:=G.inj _ _ (by omega) (by omega) e;omega
    · rw[if_neg c1,if_pos c2] at e;have:=G.inj _ _ (by omega) (by omega) e;omega
    · rw[if_neg c1,if_neg c2] at e;exact G.inj _ _ (by omega) (by omega) e
theorem qQ.rev{p:Array Nat}(G:Good N p){j:Nat}(hj:j<=N)(h:qQ lt p j):lF lt (kas_rev p 0 j) j:=by
  have hz:j<=p.size:=by rw[G.sz];exact hj
  intro a b fB hb;rw[yg hz,yg hz,if_pos (by omega),if_pos hb];exact h _ _ (by omega) (by omega)
theorem PB(T:nX N lt){p:Array Nat}(G:Good N p)(h2:2<=N){Q:Nat×Array Nat->Shared->Prop}(k:∀m p',1<=m->m<=N->Good N p'->lF lt p' m->Q (m,p') s):(kas_count N p).kasWp (kK N lt) Q s:=by
  unfold kas_count;rw[KasT.kasWp_bind];refine Dz T G (N-1) 1 (Nat.le_refl _) (by omega) (fun i j a b=>by omega) fun n n1 n2 an hn=>?_
  by_cases c:n=N
  · rw[if_pos (by rw[c];simp)];exact k n p n1 (by omega) G an
  · rw[if_neg (by simpa using c)]
    by_cases c2:n > 1
    · rw[if_pos c2];refine⟨G.lt 0 (by omega),G.lt (n-1) (by omega),fun z=>by have:=G.inj 0 (n-1) (by omega) (by omega) z;omega,?_⟩;rw[an 0 (n-1) (by omega) (by omega)];dsimp only;rw[if_pos rfl];exact k n p n1 (by omega) G an
    · rw[if_neg c2];have e1:n=1:=by omega
      subst e1;have PD:=hn (by omega);unfold kas_descPart;rw[KasT.kasWp_bind];have d2:qQ lt p (1+1):=fun i j jZ hj=>by
        have:i=0:=by omega
        have:j=1:=by omega
        subst i j;exact PD
      refine HY T G (N-(1+1)) (1+1) (by omega) (by omega) d2 fun m m1 m2 dm=>?_
      show KasT.kasWp _ (if(0:Nat) > 0 then _ else kas_tail3 m N p) _ _;rw[if_neg (by omega)];unfold kas_tail3;rw[KasT.kasWp_bind];refine Dz T (G.rev (j:=m) (by omega)) (N-m) m (by omega) (by omega) (dm.rev G (by omega)) fun r r1 r2 ar _=>?_
      exact k r _ (by omega) (by omega) (G.rev (by omega)) ar
theorem DA(T:nX N lt){p:Array Nat}(G:Good N p){k:Nat}(hk:k<N){Q:Nat->Shared->Prop}:∀(f l r:Nat),l<=r->r<=k->r-l<=f->(∀i,i<l->lt (p.getD i 0) (p.getD k 0)=true)->(∀i,r<=i->i<k->lt (p.getD k 0) (p.getD i 0)=true)->lF lt p k->
      (∀m,m<=k->(∀i,i<m->lt (p.getD i 0) (p.getD k 0)=true)->(∀i,m<=i->i<k->lt (p.getD k 0) (p.getD i 0)=true)->Q m s)->(kas_place p k f l r).kasWp (kK N lt) Q s
  | 0,l,r,h1,h2,h3,a,b,_,q=>q l (by omega) a fun i hi dj=>b i (by omega) dj
  | f+1,l,r,h1,h2,h3,a,b,as,q=>by
    unfold kas_place
    by_cases c:l≥r
    · rw[if_pos c];exact q l (by omega) a fun i hi dj=>b i (by omega) dj
    · rw[if_neg c];have hm:(l+r) / 2<r:=by omega
      have hl:l<=(l+r) / 2:=by omega
      generalize (l+r) / 2=m at hm hl;refine⟨G.lt k hk,G.lt m (by omega),fun z=>by have:=G.inj k m hk (by omega) z;omega,?_⟩;cases e:lt (p.getD k 0) (p.getD m 0) with
      | true=>
        dsimp only;rw[if_pos rfl];refine DA T G hk f l m hl (by omega) (by omega) a (fun i hi HZ=>?_) as q
        by_cases c3:i=m
        · rw[c3];exact e
        · exact T.tr _ _ _ (G.lt k hk) (G.lt m (by omega)) (G.lt i (by omega)) e (as m i (by omega) HZ)
      | false=>
        dsimp only;rw[if_neg (by simp)];have ne:p.getD k 0≠p.getD m 0:=fun z=>by have:=G.inj k m hk (by omega) z;omega
        have e2:=T.Dy _ _ (G.lt k hk) (G.lt m (by omega)) ne e;refine DA T G hk f (m+1) r (by omega) h2 (by omega) (fun i hi=>?_) b as q
        by_cases c3:i=m
        · rw[c3];exact e2
        · exact T.tr _ _ _ (G.lt i (by omega)) (G.lt m (by omega)) (G.lt k hk) (as i m (by omega) (by omega)) e2
theorem DB{p:Array Nat}{k d:Nat}(hk:k<p.size)(hd:d<=k)(j:Nat):(bubble p k d).getD j 0=if j=k-d then p.getD k 0 else if k-d<j/\j<=k then p.getD (j-1) 0 else p.getD j 0:=by
  have e:=getElem?_bubble hk d hd j
  by_cases c1:j=k-d
  · rw[if_pos c1] at e ⊢;exact yf e
  · rw[if_neg c1] at e ⊢
    by_cases c2:k-d<j/\j<=k
    · rw[if_pos c2] at e ⊢;exact yf e
    · rw[if_neg c2] at e ⊢;exact yf e
def kL(k d j:Nat):Nat:=if j=k-d then k else if k-d<j/\j<=k then j-1 else j
theorem DC{p:Array Nat}{k d:Nat}(hk:k<p.size)(hd:d<=k)(j:Nat):(bubble p k d).getD j 0=p.getD (kL k d j) 0:=by
  rw[DB hk hd];unfold kL
  by_cases c1:j=k-d
  · rw[if_pos c1,if_pos c1]
  · rw[if_neg c1,if_neg c1]
    by_cases c2:k-d<j/\j<=k
    · rw[if_pos c2,if_pos c2]
    · rw[if_neg c2,if_neg c2]
theorem DE{N k d j:Nat}(hk:k<N)(hj:j<N):kL k d j<N:=by
  unfold kL;split
  · exact hk
  · split<;>omega
theorem PF{k d a b:Nat}(hd:d<=k)(e:kL k d a=kL k d b):a=b:=by
  unfold kL at e;split at e<;>split at e<;>(try split at e)<;>(try split at e)<;>omega
theorem Good.PJ{p:Array Nat}(G:Good N p){k d:Nat}(hk:k<N)(hd:d<=k):Good N (bubble p k d):=by
  have hz:k<p.size:=by rw[G.sz];exact hk
  refine⟨by rw[bubble_size];exact G.sz,fun i hi=>?_,fun a b ha hb e=>?_⟩
  · rw[DC hz hd];exact G.lt _ (DE hk hi)
  · rw[DC hz hd,DC hz hd] at e;exact PF hd (G.inj _ _ (DE hk ha) (DE hk hb) e)
theorem Ia(T:nX N lt){Q:Array Nat->Shared->Prop}:∀(f:Nat)(p:Array Nat)(k:Nat),Good N p->1<=k->k+f=N->lF lt p k->(∀p',Good N p'->lF lt p' N->Q p' s)->(kas_bin f p k).kasWp (kK N lt) Q s
  | 0,p,k,G,h1,hk,a,q=>q p G (by rw[←hk];exact a)
  | f+1,p,k,G,h1,hk,a,q=>by
    unfold kas_bin;rw[KasT.kasWp_bind];have DF:k<N:=by omega
    refine DA T G DF k 0 k (Nat.zero_le _) (Nat.le_refl _) (by omega) (fun i hi=>by omega) (fun i hi HZ=>by omega) a fun m hm lo hi=>?_
    have hz:k<p.size:=by rw[G.sz];exact DF
    have hd:k-m<=k:=by omega
    refine Ia T f _ (k+1) (G.PJ DF hd) (by omega) (by omega) (fun i j jZ hj=>?_) q;rw[DB hz hd,DB hz hd];have em:k-(k-m)=m:=by omega
    rw[em]
    by_cases c1:i=m
    · rw[if_pos c1,if_neg (by omega),if_pos ⟨by omega,by omega⟩];exact hi (j-1) (by omega) (by omega)
    · rw[if_neg c1]
      by_cases c2:j=m
      · rw[if_pos c2,if_neg (by omega)];exact lo i (by omega)
      · rw[if_neg c2]
        by_cases c3:m<i/\i<=k
        · rw[if_pos c3,if_pos ⟨by omega,by omega⟩];exact a _ _ (by omega) (by omega)
        · rw[if_neg c3]
          by_cases c4:m<j/\j<=k
          · rw[if_pos c4];exact a _ _ (by omega) (by omega)
          · rw[if_neg c4];exact a _ _ (by omega) (by omega)
theorem Ib:Good N (List.toArray (List.range N)):=by
  have e:∀i,i<N->(List.toArray (List.range N)).getD i 0=i:=fun i hi=>by
    rw[Array.getD_eq_getD_getElem?];simp[hi]
  refine⟨by simp,fun i hi=>by rw[e i hi];exact hi,fun i j hi hj z=>by rw[e i hi,e j hj] at z;exact z⟩
theorem PL(T:nX N lt)(h2:2<=N){Q:Array Nat->Shared->Prop}(q:∀p,Good N p->lF lt p N->Q p s):(kas_sort N).kasWp (kK N lt) Q s:=by
  unfold kas_sort;rw[KasT.kasWp_bind];refine PB T Ib h2 fun m p m1 m2 G a=>?_
  dsimp only
  by_cases c:m<N
  · rw[if_pos c];have e:max m 1=m:=by omega
    rw[e];exact Ia T (N-m) p m G m1 (by omega) a q
  · rw[if_neg c];have e:m=N:=by omega
    subst e;exact q p G a
end
theorem Ic{α:Type}{cmp yh:Nat->Nat->(Bool->Shared->Prop)->Shared->Prop}{s:Shared}{Q:α->Shared->Prop}(h:∀i j(C:Bool->Shared->Prop),cmp i j (fun b s'=>s'=s/\C b s) s->yh i j C s)(m:∀i j(C C':Bool->Shared->Prop),(∀b,C b s->C' b s)->cmp i j C s->cmp i j (fun b s'=>s'=s/\C' b s) s):∀(t:KasT α),t.kasWp cmp Q s->t.kasWp yh Q s
  | .ret a,q=>q
  | .ask i j k,q=>h i j _ (m i j (fun b s'=>(k b).kasWp cmp Q s') _ (fun b z=>Ic h m (k b) z) q)
section
variable{prog:Program}{w:World}{A:Around}{E:Value->Shared->Prop}{s:Shared}
def jO(h:Heap)(d:Addr)(us:List Value):Heap:=((h.update d (Obj.mapSeq fun _=>#[])).push (seqObj "tuple" us.toArray 0)).push (seqObj "list" #[] 0)
theorem PM{h:Heap}{d b:Addr}{us:List Value}{o:Obj}(n:b≠d)(e:h.get? b=some o):(jO h d us).get? b=some o:=by
  unfold jO;refine Heap.get?_push_of_some _ (Heap.get?_push_of_some _ ?_);rw[Heap.get?_update_other _ _ (Ne.symm n)];exact e
def AZ(us:List Value)(lt:Nat->Nat->Bool)(out:List Value):Prop:=∃p:Array Nat,Good us.length p/\lF lt p us.length/\out=p.toList.map fun i=>us.getD i Value.none
theorem PN{d:Addr}{us:List Value}{n:Nat}{κ:SortKind}{lt:Nat->Nat->Bool}{P:PySem.Fin->Shared->Prop}(T:nX us.length lt)(hd:s.heap.get? d=some (seqObj "list" us.toArray n))(small:us.length<64)
    (kind:2<=us.length->∀(Q:SortKind->Shared->Prop)(E':Value->Shared->Prop),Q κ { s with heap:=jO s.heap d us }->wpAny (model prog w) A (keyKind' us.toArray) Q E' { s with heap:=jO s.heap d us })
    (less:∀i j,i<us.length->j<us.length->i≠j->∀(Q:Bool->Shared->Prop),Q (lt i j) { s with heap:=jO s.heap d us }->wpAny (model prog w) A (keyLt' κ (us.getD i Value.none) (us.getD j Value.none)) Q (fun _ _=>False) { s with heap:=jO s.heap d us })
    (fin:∀out:List Value,out.length=us.length->AZ us lt out->P (.done (.ret .none)) { s with heap:=sortedHeap s.heap d us out.toArray }) :
    wpAny (model prog w) A (Builtin.«list.sort» ⟨[.ref d],[]⟩) P E s:=by
  rw[list_sort_plain];have dl:d<s.heap.objs.size:=Heap.lt_size hd;refine wpAny_bind (listItems_at hd rfl (wpAny_bind (listUpdate_at hd rfl ?_)));obtain⟨n1,iD⟩:∃n1,(s.heap.update d (Obj.mapSeq fun _=>#[])).get? d=some (seqObj "list" #[] n1):=⟨_,get?_update_seq hd (fun _=>#[])⟩;refine wpAny_bind (seqEpoch_at iD rfl (wpAny_bind (wpAny_newTuple (wpAny_bind (wpAny_newList (wpAny_holding ?_))))));have fQ:(jO s.heap d us).get? d=some (seqObj "list" #[] n1):=Heap.get?_push_of_some _ (Heap.get?_push_of_some _ iD);show wpAny (model prog w) A _ P E { s with heap:=jO s.heap d us };dsimp only;have zl:us.toArray.size=us.length:=by simp
  by_cases c:us.toArray.size<2
  · rw[if_pos c,if_pos c];refine wpAny_bind (wpAny_pure ?_);rw[StateT.run_pure];refine wpAny_bind (wpAny_pure ?_);dsimp only;have ez:(us.toArray.zip us.toArray).map (·.2)=us.toArray:=by
      apply Array.ext';simp[List.map_snd_zip]
    refine wpAny_bind (seqEpoch_at fQ rfl (wpAny_bind (listUpdate_at fQ rfl ?_ (hsz2:=by rw[Array.size_map];show(us.toArray.zip us.toArray).size<=_;rw[sizeLine_eq];simp;omega))));simp only[bne_self_eq_false,Bool.false_eq_true,if_false];have go:=fin us rfl ⟨_,Ib,fun i j a b=>by omega,by
      apply List.ext_getElem?;intro i
      by_cases hi:i<us.length
      · simp[hi]
      · simp[Nat.le_of_not_lt hi]⟩
    refine wpAny_pure ?_;have e2:(arrOf (SortSt.mk' general' (us.toArray.zip us.toArray) #[] 7 none)).map (·.2)=us.toArray:=ez;rw[e2];exact go
  · rw[if_neg c,if_neg c];have two:2<=us.length:=by omega
    refine wpAny_bind (kind two _ _ ?_);refine wpAny_bind (wpAny_mono (kat_run (E:=E) (ks:=us) (vs:=us) (G:=fun p s'=>s' = { s with heap:=jO s.heap d us }/\Good us.length p/\lF lt p us.length) (Q:=fun jI s'=>s' = { s with heap:=jO s.heap d us }/\failedOf jI=none/\∃p,Good us.length p/\lF lt p us.length/\arrOf jI=p.map (kas_item (us.toArray.zip us.toArray))) rfl two small (fun p jI s' _ e1 e2 g=>⟨g.1,e2,p,g.2.1,g.2.2,e1⟩) ?_) (fun r s' q=>?_) fun _ _ z=>z)
    · refine Ic (cmp:=kK us.length lt) (fun i j C h=>?_) (fun i j C C' h q=>⟨q.1,q.2.1,q.2.2.1,rfl,h _ q.2.2.2⟩) _ (PL T two fun p g a=>⟨rfl,g,a⟩);obtain⟨h1,h2,PR,_,h3⟩:=h;exact less i j h1 h2 PR _ h3
    · obtain⟨⟨⟩,jI⟩:=r;obtain⟨rfl,nf,p,g,a,ea⟩:=q;dsimp only at ea nf ⊢;have eo:(arrOf jI).map (·.2)=(p.toList.map fun i=>us.getD i Value.none).toArray:=by
        rw[ea];apply Array.ext';simp only[Array.toList_map,List.map_map];refine List.map_congr_left fun i _=>?_
        show(kas_item (us.toArray.zip us.toArray) i).2=_;rw[kat_item rfl]
      have el:(p.toList.map fun i=>us.getD i Value.none).length=us.length:=by rw[List.length_map,Array.length_toList,g.sz]
      refine wpAny_bind (seqEpoch_at fQ rfl (wpAny_bind (listUpdate_at fQ rfl ?_ (hsz2:=by rw[eo];show(p.toList.map fun i=>us.getD i Value.none).toArray.size<=_;rw[List.size_toArray,el,sizeLine_eq];omega))));rw[nf];simp only[bne_self_eq_false,Bool.false_eq_true,if_false];have go:=fin _ el ⟨p,g,a,rfl⟩;unfold sortedHeap at go;rw[←eo] at go;exact wpAny_pure go
theorem PU{l:Addr}{us:List Value}{κ:SortKind}{lt:Nat->Nat->Bool}{Q:Value->Shared->Prop}(T:nX us.length lt)(small:us.length<64)
    (col:∀(E':Value->Shared->Prop)(Q':List Value->Shared->Prop),(∀h1 tk,(∀b o,s.heap.get? b=some o->h1.get? b=some o)->s.heap.objs.size<h1.objs.size->Q' us { s with heap:=h1,toks:=tk })->wpAny (model prog w) A.in1 (collect (.ref l)) Q' E' s)
    (kind:2<=us.length->∀(s':Shared),(∀b o,s.heap.get? b=some o->s'.heap.get? b=some o)->∀{A':Around}{E':Value->Shared->Prop}{Q':SortKind->Shared->Prop},Q' κ s'->wpAny (model prog w) A' (keyKind' us.toArray) Q' E' s')
    (less:∀i j,i<us.length->j<us.length->i≠j->∀(s':Shared),(∀b o,s.heap.get? b=some o->s'.heap.get? b=some o)->∀{Q':Bool->Shared->Prop},Q' (lt i j) s'->wpAny (model prog w) A.in1.in1 (keyLt' κ (us.getD i Value.none) (us.getD j Value.none)) Q' (fun _ _=>False) s')
    (fin:∀(D:Addr)(out:List Value)(h':Heap)(tk c:Nat),out.length=us.length->AZ us lt out->(∀b o,s.heap.get? b=some o->h'.get? b=some o)->s.heap.objs.size<=D->h'.get? D=some (seqObj "list" out.toArray c)->Q (.ref D) { s with heap:=h',toks:=tk }) :
    wpAny (model prog w) A (call (.builtin "sorted") [.ref l]) Q E s:=by
  refine Calls.call_function_entry kind_sorted plain_sorted entry_sorted (args_sorted1 _) ?_;show wpAny _ _ (Builtin.«sorted» ⟨[.ref l],[]⟩) _ _ _;unfold Builtin.«sorted»;refine wpAny_bind (m:=checkCount "sorted" 1 1 _) (wpAny_pure (wpAny_bind (col _ _ fun h1 tk k1 z1=>wpAny_bind (wpAny_newList ?_ (by rw[sizeLine_eq];omega)))));have hd:(h1.push (seqObj "list" us.toArray 0)).get? h1.objs.size=some (seqObj "list" us.toArray 0):=Heap.get?_push_size _ rfl;show wpAny _ _ _ _ _ { s with heap:=h1.push (seqObj "list" us.toArray 0),toks:=tk };have k2:∀b o,s.heap.get? b=some o->(h1.push (seqObj "list" us.toArray 0)).get? b=some o:=fun b o e=>Heap.get?_push_of_some _ (k1 b o e)
  have nb:∀b o,s.heap.get? b=some o->b≠h1.objs.size:=fun b o e=>Nat.ne_of_lt (Heap.lt_size (k1 b o e))
  generalize h1.push (seqObj "list" us.toArray 0)=g at hd k2;have kp:∀b o,s.heap.get? b=some o->(jO g h1.objs.size us).get? b=some o:=fun b o e=>PM (nb b o e) (k2 b o e)
  have kd:2<=us.length->∀(Q':SortKind->Shared->Prop)(E':Value->Shared->Prop),Q' κ { s with heap:=jO g h1.objs.size us,toks:=tk }->wpAny (model prog w) A.in1.in1 (keyKind' us.toArray) Q' E' { s with heap:=jO g h1.objs.size us,toks:=tk }:=fun two Q' E' q=>kind two { s with heap:=jO g h1.objs.size us,toks:=tk } kp q
  have ls:∀i j,i<us.length->j<us.length->i≠j->∀(Q':Bool->Shared->Prop),Q' (lt i j) { s with heap:=jO g h1.objs.size us,toks:=tk }->wpAny (model prog w) A.in1.in1 (keyLt' κ (us.getD i Value.none) (us.getD j Value.none)) Q' (fun _ _=>False) { s with heap:=jO g h1.objs.size us,toks:=tk }:=fun i j a b n Q' q=>less i j a b n { s with heap:=jO g h1.objs.size us,toks:=tk } kp q
  refine wpAny_bind (wpAny_holding (wpAny_call_entry slot_list_sort ⟨_,hd,rfl⟩ entry_list_sort (PN (s:={ s with heap:=g,toks:=tk }) T hd small kd ls fun out lo po=>⟨_,rfl,?_⟩) (args_list_sort _)));obtain⟨c,hc⟩:=sortedHeap_at (out:=out.toArray) hd;refine wpAny_pure ⟨_,rfl,fin h1.objs.size out _ tk c lo po (fun b o e=>?_) (Nat.le_of_lt z1) hc⟩;have e2:=k2 b o e;rw[sortedHeap_old (nb b o e) (Heap.lt_size e2)];exact e2
end
theorem Ie:∀{rs us:List Nat},rs.Nodup->(∀x∈rs,x∈us)->rs.length<=us.length
  | [],us,_,_=>Nat.zero_le _
  | a::r,us,hn,hs=>by
    rw[List.nodup_cons] at hn;have ha:=hs a (by simp);have:=Ie (rs:=r) (us:=us.erase a) hn.2 fun x hx=>by
      have:x≠a:=fun z=>hn.1 (z▸hx)
      exact(List.mem_erase_of_ne this).mpr (hs x (List.mem_cons_of_mem _ hx))
    rw[List.length_erase_of_mem ha] at this;have:=List.length_pos_of_mem ha;rw[List.length_cons];omega
abbrev SS:=Str×Str
def gy(p q:SS):Bool:=if p.1=q.1 then decide (p.2.cps.toList<q.2.cps.toList) else decide (p.1.cps.toList<q.1.cps.toList)
theorem PV{a b:Str}(h:a.cps.toList=b.cps.toList):a=b:=by
  obtain⟨x⟩:=a;obtain⟨y⟩:=b;have:x=y:=Array.toList_inj.mp h;rw[this]
theorem Ig{a b:Str}(h:a≠b)(n:¬a.cps.toList<b.cps.toList):b.cps.toList<a.cps.toList:=by
  rcases List.le_iff_lt_or_eq.mp (List.not_lt.mp n) with z | z
  · exact z
  · exact absurd (PV z.symm) h
theorem PX(p:SS):gy p p=false:=by
  unfold gy;rw[if_pos rfl];exact decide_eq_false (List.lt_irrefl _)
theorem PY{a b c:SS}(h1:gy a b=true)(h2:gy b c=true):gy a c=true:=by
  unfold gy at *
  by_cases c1:a.1=b.1
  · rw[if_pos c1] at h1
    by_cases c2:b.1=c.1
    · rw[if_pos c2] at h2;rw[if_pos (c1.trans c2)];exact decide_eq_true (List.lt_trans (of_decide_eq_true h1) (of_decide_eq_true h2))
    · rw[if_neg c2] at h2;rw[if_neg (fun z=>c2 (c1.symm.trans z)),c1];exact h2
  · rw[if_neg c1] at h1
    by_cases c2:b.1=c.1
    · rw[if_neg (fun z=>c1 (z.trans c2.symm)),←c2];exact h1
    · rw[if_neg c2] at h2;have h3:=List.lt_trans (of_decide_eq_true h1) (of_decide_eq_true h2);rw[if_neg (fun z=>by rw[z] at h3;exact List.lt_irrefl _ h3)];exact decide_eq_true h3
theorem PZ{a b:SS}(ne:a≠b)(h:gy a b=false):gy b a=true:=by
  unfold gy at *
  by_cases c1:a.1=b.1
  · rw[if_pos c1] at h;rw[if_pos c1.symm];exact decide_eq_true (Ig (fun z=>ne (Prod.ext c1 z)) (of_decide_eq_false h))
  · rw[if_neg c1] at h;rw[if_neg (Ne.symm c1)];exact decide_eq_true (Ig c1 (of_decide_eq_false h))
theorem P0{ps:List SS}(nd:ps.Nodup):nX ps.length fun i j=>gy (ps.getD i ("","")) (ps.getD j ("","")):=by
  have e:∀i(h:i<ps.length),ps.getD i ("","")=ps[i]:=fun i h=>by rw[List.getD_eq_getElem?_getD,List.getElem?_eq_getElem h];rfl
  refine⟨fun a _=>PX _,fun a b c _ _ _ h1 h2=>PY h1 h2,fun a b ha hb n h=>PZ (fun z=>n ?_) h⟩;rw[e a ha,e b hb] at z;have pw:=List.pairwise_iff_getElem.mp nd;rcases Nat.lt_trichotomy a b with c | c | c
  · exact absurd z (pw a b ha hb c)
  · exact c
  · exact absurd z.symm (pw b a hb ha c)
theorem P1{us out:List Value}{lt:Nat->Nat->Bool}{α:Type}(xs:List α)(d:α)(h:AZ us lt out)(hl:us.length=xs.length):∃ys:List α,ys.Perm xs/\ys.length=out.length/\(∀i:Nat,i<ys.length->∃j,j<xs.length/\out[i]? = us[j]?/\ys[i]? = xs[j]?)/\
    ∀i j(hi:i<ys.length)(hj:j<ys.length),i<j->∃a b,a<xs.length/\b<xs.length/\ys[i]? = xs[a]?/\ys[j]? = xs[b]?/\lt a b=true:=by
  obtain⟨p,G,A,rfl⟩:=h;rw[hl] at G A;have pl:p.toList.length=xs.length:=by rw[Array.length_toList,G.sz]
  have pg:∀i(h:i<xs.length),p.toList[i]? = some (p.getD i 0):=fun i h=>by
    have hi:i<p.size:=by rw[G.sz];exact h
    rw[Array.getElem?_toList,Array.getElem?_eq_getElem hi,Array.getD_eq_getD_getElem?,Array.getElem?_eq_getElem hi];rfl
  have pr:p.toList.Perm (List.range xs.length):=by
    rw[List.perm_ext_iff_of_nodup ?_ List.nodup_range]
    · intro a;rw[List.mem_range];constructor
      · intro h;obtain⟨i,hi⟩:=List.mem_iff_getElem?.mp h;have jo:=(List.getElem?_eq_some_iff.mp hi).1;rw[pg i (by omega)] at hi;cases hi;exact G.lt i (by omega)
      · intro h;have inj:p.toList.Nodup:=by
          rw[List.nodup_iff_pairwise_ne,List.pairwise_iff_getElem];intro i j hi hj jZ z;have e1:=pg i (by omega);have e2:=pg j (by omega);rw[List.getElem?_eq_getElem hi] at e1;rw[List.getElem?_eq_getElem hj] at e2;have:=G.inj i j (by omega) (by omega) ((Option.some.inj e1).symm.trans (z.trans (Option.some.inj e2)));omega
        have sub:∀x∈p.toList,x∈List.range xs.length:=fun x hx=>by
          obtain⟨i,hi⟩:=List.mem_iff_getElem?.mp hx;have jo:=(List.getElem?_eq_some_iff.mp hi).1;rw[pg i (by omega)] at hi;cases hi;exact List.mem_range.mpr (G.lt i (by omega))
        refine Decidable.byContradiction fun n=>?_
        have:(p.toList).length<=((List.range xs.length).erase a).length:=by
          refine Ie inj fun x hx=>?_
          rw[List.Nodup.mem_erase_iff List.nodup_range];exact⟨fun z=>n (z▸hx),sub x hx⟩
        rw[List.length_erase_of_mem (List.mem_range.mpr h),List.length_range,pl] at this;omega
    · rw[List.nodup_iff_pairwise_ne,List.pairwise_iff_getElem];intro i j hi hj jZ z;have e1:=pg i (by omega);have e2:=pg j (by omega);rw[List.getElem?_eq_getElem hi] at e1;rw[List.getElem?_eq_getElem hj] at e2;have:=G.inj i j (by omega) (by omega) ((Option.some.inj e1).symm.trans (z.trans (Option.some.inj e2)));omega
  have ex:xs=(List.range xs.length).map fun i=>xs.getD i d:=by
    apply List.ext_getElem?;intro i
    by_cases hi:i<xs.length
    · simp[hi]
    · simp[Nat.le_of_not_lt hi]
  refine⟨p.toList.map fun i=>xs.getD i d,?_,by rw[List.length_map,List.length_map],fun i hi=>?_,fun i j hi hj jZ=>?_⟩
  · have:=pr.map fun i=>xs.getD i d
    rw[←ex] at this;exact this
  · rw[List.length_map] at hi;have bC:=G.lt i (by omega);refine⟨p.getD i 0,bC,?_,?_⟩
    · rw[List.getElem?_map,pg i (by omega)];show some (us.getD _ _)=_;rw[List.getD_eq_getElem?_getD,List.getElem?_eq_getElem (show p.getD i 0<us.length by omega)];rfl
    · rw[List.getElem?_map,pg i (by omega)];show some (xs.getD _ _)=_;rw[List.getD_eq_getElem?_getD,List.getElem?_eq_getElem bC];rfl
  · rw[List.length_map] at hi hj;have h1:=G.lt i (by omega);have h2:=G.lt j (by omega);refine⟨p.getD i 0,p.getD j 0,h1,h2,?_,?_,A i j jZ (by omega)⟩
    · rw[List.getElem?_map,pg i (by omega)];show some (xs.getD _ _)=_;rw[List.getD_eq_getElem?_getD,List.getElem?_eq_getElem h1];rfl
    · rw[List.getElem?_map,pg j (by omega)];show some (xs.getD _ _)=_;rw[List.getD_eq_getElem?_getD,List.getElem?_eq_getElem h2];rfl
section
variable{prog:Program}{w:World}{A:Around}{E:Value->Shared->Prop}{s:Shared}
def gK(h:Heap)(v:Value)(p:SS):Prop:=∃a t u,v = .ref a/\IsTup h a #[.str p.1 t,.str p.2 u]
theorem gK.kept{h h':Heap}{v:Value}{p:SS}(t:gK h v p)(k:∀b o,h.get? b=some o->h'.get? b=some o):gK h' v p:=by
  obtain⟨a,x,y,rfl,o,ho,hc,n,hd⟩:=t;exact⟨a,x,y,rfl,o,k a o ho,hc,n,hd⟩
theorem P4{v1 v2:Value}{p q:SS}{Q:Bool->Shared->Prop}(h1:gK s.heap v1 p)(h2:gK s.heap v2 q)(h:Q (gy p q) s):wpAny (model prog w) A (keyLt' (tuples' true) v1 v2) Q (fun _ _=>False) s:=by
  obtain⟨a,t1,u1,rfl,oa,sS,_,na,yc⟩:=h1;obtain⟨b,t2,u2,rfl,ob,sU,_,nb,gf⟩:=h2;refine kat_lt sS yc sU gf ?_;show KatLex prog w A true false Q [(Value.str p.1 t1,Value.str q.1 t2),(Value.str p.2 u1,Value.str q.2 u2)] 0 s;refine kat_cons (wpAny_eqBool_str ?_);unfold gy at h
  by_cases c:p.1=q.1
  · rw[decide_eq_true c];rw[if_pos c] at h;refine kat_yes (kat_cons (wpAny_eqBool_str ?_))
    by_cases c2:p.2=q.2
    · rw[decide_eq_true c2];refine kat_yes (kat_nil ?_);rw[c2,decide_eq_false (List.lt_irrefl _)] at h;exact h
    · rw[decide_eq_false c2];refine kat_no ?_;show wpAny _ _ (oneLt' false (Value.str p.2 u1) (Value.str q.2 u2)) _ _ _;exact kat_one _ _ (lt_str h)
  · rw[decide_eq_false c];rw[if_neg c] at h;refine kat_no ?_;show wpAny _ _ (oneLt' true (Value.str p.1 t1) (Value.str q.1 t2)) _ _ _;exact oneLt_str h
theorem P5{vs:List Value}{ps:List SS}{Q:SortKind->Shared->Prop}(h:Paired (gK s.heap) vs ps)(iA:0<ps.length)(q:Q (tuples' true) s):wpAny (model prog w) A (keyKind' vs.toArray) Q E s:=by
  obtain⟨fs,kt,hl,hf⟩:∃fs,KatTups s.heap vs fs/\fs.length=ps.length/\∀v∈fs,∃x t,v=Value.str x t:=by
    clear iA
    induction h with
    | nil=>exact⟨[],.nil,rfl,by simp⟩
    | cons h _ ih=>
      obtain⟨fs,k,l,f⟩:=ih;obtain⟨a,t,u,rfl,o,ho,hc,n,hd⟩:=h;refine⟨_::fs,.cons ho hc hd rfl k,by simp[l],fun v hv=>?_⟩;rcases List.mem_cons.mp hv with rfl | hv
      · exact⟨_,_,rfl⟩
      · exact f v hv
  refine kat_kind (T:=.type "str") kt (by omega) (fun v hv=>?_) rfl q;obtain⟨x,t,rfl⟩:=hf v hv;exact Looks.now
end
theorem yi{α β:Type}{F:α->β->Prop}:∀{as:List α}{bs:List β},as.length=bs.length->(∀(i:Nat)a b,as[i]? = some a->bs[i]? = some b->F a b)->Paired F as bs
  | [],[],_,_=>.nil
  | [],_::_,h,_=>by simp at h
  | _::_,[],h,_=>by simp at h
  | a::as,b::bs,h,k=>.cons (k 0 a b rfl rfl) (yi (by simpa using h) fun i a b e1 e2=>k (i+1) a b (by simpa using e1) (by simpa using e2))
theorem P6{us out:List Value}{lt:Nat->Nat->Bool}{α:Type}(as:List Addr)(xs:List α)(d:α)(hv:Vals (as.map V.ref) us)(h:AZ us lt out)(la:as.length=xs.length) :
    ∃(bs:List Addr)(ys:List α),Vals (bs.map V.ref) out/\bs.length=ys.length/\ys.Perm xs/\(∀(i:Nat)b y,bs[i]? = some b->ys[i]? = some y->∃j:Nat,as[j]? = some b/\xs[j]? = some y)/\ys.Pairwise (fun y z=>∃(a b:Nat),xs[a]? = some y/\xs[b]? = some z/\lt a b=true):=by
  have lu:us.length=(as.zip xs).length:=by
    have:=hv.length;rw[List.length_map] at this;rw[List.length_zip];omega
  obtain⟨zs,pm,lz,at',up⟩:=P1 (as.zip xs) (0,d) h lu;have sn:(as.zip xs).map Prod.snd=xs:=List.map_snd_zip (by omega);refine⟨zs.map Prod.fst,zs.map Prod.snd,?_,by rw[List.length_map,List.length_map],by have:=pm.map Prod.snd;rwa [sn] at this,fun i b y e1 e2=>?_,?_⟩
  · refine yi (by rw[List.length_map,List.length_map,lz]) fun i x v e1 e2=>?_
    rw[List.getElem?_map,List.getElem?_map] at e1;cases ez:zs[i]? with
    | none=>rw[ez] at e1;cases e1
    | some z=>
      rw[ez] at e1;cases e1;obtain⟨j,hj,o1,o2⟩:=at' i (List.getElem?_eq_some_iff.mp ez).1;rw[ez] at o2;rw[e2] at o1;obtain⟨h1,h2⟩:=List.getElem?_zip_eq_some.mp o2.symm;obtain⟨v',e3,r⟩:=hv.get (i:=j) (x:=V.ref z.1) (by rw[List.getElem?_map,h1];rfl);rw[←o1] at e3;cases e3;exact r
  · rw[List.getElem?_map] at e1 e2;cases ez:zs[i]? with
    | none=>rw[ez] at e1;cases e1
    | some z=>
      rw[ez] at e1 e2;cases e1;cases e2;obtain⟨j,hj,_,o2⟩:=at' i (List.getElem?_eq_some_iff.mp ez).1;rw[ez] at o2;exact⟨j,List.getElem?_zip_eq_some.mp o2.symm⟩
  · rw[List.pairwise_iff_getElem];intro i j hi hj jZ;rw[List.length_map] at hi hj;obtain⟨a,b,ha,hb,e1,e2,l⟩:=up i j hi hj jZ;refine⟨a,b,?_,?_,l⟩
    · rw[List.getElem?_eq_getElem hi] at e1;have:=(List.getElem?_zip_eq_some.mp e1.symm).2;rw[List.getElem_map];exact this
    · rw[List.getElem?_eq_getElem hj] at e2;have:=(List.getElem?_zip_eq_some.mp e2.symm).2;rw[List.getElem_map];exact this
section
variable{X:Cx}
theorem Inv.yj{pins:List (Addr×Obj)}{σ:St}{H:Hp}{s:Shared}{K:PySem.W.Frag}(hK:X.K=K)(I:Inv X pins σ H s){a:Addr}{p:SS}(t:aG K H a [.str p.1,.str p.2]):gK s.heap (.ref a) p:=by
  subst hK;obtain⟨ts,rt,it,_⟩:=I.tuple t;obtain⟨u1,u2,rfl,⟨t1,rfl⟩,⟨t2,rfl⟩⟩:=vZ rt;exact⟨a,t1,t2,rfl,it⟩
end
end L2
namespace L2
open PySem PySem.Spec PyProof.Rows
section
variable{X:Cx}
theorem Ih:Gh X "dict.update" (fun x vs H Q=>∃(d o:Addr)(kvs more:List (Key×V)),x = .ref d/\vs = [.ref o]/\d≠o/\H d=some (.dK kvs)/\Rd H o (.dK more)/\kvs.length+more.length<=1000/\Q .bO (upd H d (.dK (uH kvs more)))):=by
  intro pins s σ H x vs v us Q I rx rv h;obtain⟨d,o,kvs,more,rfl,rfl,ne,hd,ho,hz,q⟩:=h;cases rx;obtain⟨u,rfl,ru⟩:=j0 rv;cases ru;obtain⟨z1,y1,P7,r1,d1⟩:=Ck I.aI hd;obtain⟨z2,y2,P8,r2,d2⟩:=oO I.aI ho;have hs:sizeLine=16777216:=sizeLine_eq;refine call_meetsIn PySem.F.slot_dict_update d1.typeIs PySem.F.entry_dict_update (PySem.F.args_dict_update_2 _ _) (meets_dict_update (jV X.prog X.w) d o ne y2) ⟨P7,P8,d1,d2,by rw[←r1.length,←r2.length];omega,fun h' oQ _ sb=>?_⟩;have he:∃q,h'.get? d=some q:=let ⟨q,_,_,hq,_⟩:=oQ;⟨q,hq⟩
  have ml:=Gn more kvs;exact⟨.bO,_,Ar (t':=s.toks) I (by rw[hd];exact True.intro) sb he (Co (by omega) y1 (KV.merge r2 r1) oQ),rfl,q⟩
theorem P9(K:PySem.W.Frag)(hK:X.K=K)(hc:X.calm=true):ji X (.builtin "any") (fun xs H Q=>∃(a:Addr)(bs:List Bool),xs = [V.ref a]/\ao K H a (bs.map V.bl)/\Q (.bl (bs.any id)) H):=by
  subst hK;intro pins s σ H xs us Q I r h;obtain⟨a,bs,rfl,ha,q⟩:=h;obtain⟨u,rfl,ru⟩:=j0 r;cases ru;obtain⟨its,rv,pl,hz⟩:=I.list ha;have e:its=bs.map Value.bool:=CJ rv;subst e;have hl:=pl.isList;have bC:a<s.heap.objs.size:=by obtain⟨_,e,_⟩:=hl;exact Heap.lt_size e
  refine call_any_walk (wpAny_pyIter_list hl ?_);refine⟨s.heap.objs.size,[s.heap.objs.size,a],[s.heap.objs.size],(bs.map Value.bool).toArray.size,_,_,fun i=>(bs[i]?).getD false,rfl,Walks.list (A:=X.A.in1) (I.ok.hd hc) _ a (Nat.ne_of_lt bC) (bs.map Value.bool).toArray,
    ⟨⟨_,Heap.get?_push_size _ rfl,rfl,rfl⟩,hl.push _⟩,fun i v s' Q' E' hP hQ=>?_,fun h' tk hk=>?_⟩
  · have j6:(bs.map Value.bool)[i]? = some v:=by simpa using hP
    rw[List.getElem?_map] at j6;cases e:bs[i]? with
    | none=>rw[e] at j6;cases j6
    | some b=>
      rw[e] at j6;cases j6;simp only[e,Option.getD_some] at hQ;exact wpAny_truthy_bool hQ
  · have e:((List.range (bs.map Value.bool).toArray.size).any fun i=>(bs[i]?).getD false)=bs.any id:=by
      rw[Bool.eq_iff_iff,List.any_eq_true,List.any_eq_true];have z:(bs.map Value.bool).toArray.size=bs.length:=by simp
      rw[z];constructor
      · rintro⟨i,hi,h⟩;have hi:=List.mem_range.mp hi;rw[List.getElem?_eq_getElem hi] at h;exact⟨bs[i],List.getElem_mem hi,h⟩
      · rintro⟨b,hb,h⟩;obtain⟨i,hi,rfl⟩:=List.mem_iff_getElem.mp hb;refine⟨i,List.mem_range.mpr hi,?_⟩;rw[List.getElem?_eq_getElem hi];exact h
    rw[e];refine⟨.bl (bs.any id),H,I.kept fun b o q'=>?_,rfl,q⟩;have hb:=Heap.lt_size q';exact hk b o (fun z=>absurd (List.mem_singleton.mp z) (Nat.ne_of_lt hb)) (Heap.get?_push_of_some _ q')
inductive kM(ts:TS)(D:Ends)(σ:St):Hp->Prop
  | go {H:Hp}(h:ts D σ H):kM ts D σ H
  | eB {H:Hp}(a:Addr) (kvs:List (Key×V)) (ha:H a=some (.dK kvs)) (k:∀ob,kM ts D σ (upd H a (.eB ob (.dK kvs)))):kM ts D σ H
def Qa(ts:TS):TS:=fun D σ H=>kM ts D σ H
theorem Ii{st:Stmt}{ts:TS}(h:PS X st ts):PS X st (Qa ts):=by
  intro pins s σ H D I q;have go:∀{H:Hp},kM ts D σ H->Inv X pins σ H s->wpAny (model X.prog X.w) X.A (exec st X.env) (SP X pins D) X.xe s:=fun q=>by
    induction q with
    | go q=>intro I;exact h pins s σ _ D I q
    | eB a kvs ha k ih=>
      intro I;obtain⟨ob,I'⟩:=I.frozen ha;exact ih ob I'
  exact go q I
theorem Ij{K:PySem.W.Frag}(hK:X.K=K)(hc:X.calm=true):ji X (.builtin "sorted") (fun xs H Q=>∃(p:Addr)(kvs:List (List Key×V))(ps:List SS),xs = [V.ref p]/\Rd H p (.dT kvs)/\(kvs.map fun kv=>kv.1)=ps.map (fun q=>[Sum.inr q.1,Sum.inr q.2])/\ps.Nodup/\ps.length<64/\
    ∀(D:Addr)(bs:List Addr)(qs:List SS),H D=none->Paired (fun a(p:SS)=>H a=some (.tup [.str p.1,.str p.2])) bs qs->qs.Perm ps->qs.Pairwise (fun a b=>gy a b=true)->Q (.ref D) (upd H D (.lst (bs.map V.ref)))):=by
  subst hK;intro pins s σ H xs us Q I r h;obtain⟨p,kvs,ps,rfl,hp,hk,nd,WV,q⟩:=h;obtain⟨u,rfl,ru⟩:=j0 r;cases ru;obtain⟨z,hd,xs,rel,o,es,ep,h1,h2,h3,h4,h5⟩:=(show aP X.prog X.w H s.heap p (.dT kvs) from Cj I.aI hp);have WW:kvs.length=xs.length:=Paired.length rel;have WX:kvs.length=ps.length:=by have:=congrArg List.length hk;simpa using this
  have WY:es.size=xs.length:=by
    have:=congrArg List.length h4;rw[Array.length_toList,List.length_map] at this;exact this
  have yk:es.toList.map (·.key)=xs.map fun x=>Value.ref x.2.1:=by
    rw[h4,List.map_map];rfl
  have Ik:∀i,i<ps.length->∃x,xs[i]? = some x/\∃q,ps[i]? = some q/\H x.2.1=some (.tup [.str q.1,.str q.2]):=fun i hi=>by
    have hx:i<xs.length:=by omega
    have AM:i<kvs.length:=by omega
    refine⟨xs[i],List.getElem?_eq_getElem hx,ps[i],List.getElem?_eq_getElem hi,?_⟩;have f:=oZ rel (List.getElem?_eq_getElem AM) (List.getElem?_eq_getElem hx);have e:(kvs.map fun kv=>kv.1)[i]? = some [Sum.inr ps[i].1,Sum.inr ps[i].2]:=by rw[hk,List.getElem?_map,List.getElem?_eq_getElem hi];rfl
    rw[List.getElem?_map,List.getElem?_eq_getElem AM] at e;have e:kvs[i].1 = [Sum.inr ps[i].1,Sum.inr ps[i].2]:=Option.some.inj e;have:=f.2.1;rw[e] at this;exact this
  have rv:Vals ((xs.map fun x=>x.2.1).map V.ref) (xs.map fun x=>Value.ref x.2.1):=yi (by simp) fun i a b e1 e2=>by
    rw[List.getElem?_map,List.getElem?_map] at e1;rw[List.getElem?_map] at e2;cases ex:xs[i]? with
    | none=>rw[ex] at e1;cases e1
    | some x=>
      rw[ex] at e1 e2;cases e1;cases e2;rfl
  have hT:Paired (gK s.heap) (xs.map fun x=>Value.ref x.2.1) ps:=yi (by rw[List.length_map];omega) fun i v p e1 e2=>by
    obtain⟨x,ex,q',eq,hx⟩:=Ik i (by have:=(List.getElem?_eq_some_iff.mp e2).1;exact this);rw[List.getElem?_map,ex] at e1;cases e1;rw[e2] at eq;cases eq;exact I.yj rfl (aG.of hx)
  have li:(xs.map fun x=>Value.ref x.2.1).length=ps.length:=by rw[List.length_map];omega
  have T:=P0 nd;rw[←li] at T;have gd:∀i(h:i<ps.length),ps[i]? = some (ps.getD i ("","")):=fun i h=>by rw[List.getD_eq_getElem?_getD,List.getElem?_eq_getElem h];rfl
  have gi:∀i(h:i<(xs.map fun x=>Value.ref x.2.1).length),(xs.map fun x=>Value.ref x.2.1)[i]? = some ((xs.map fun x=>Value.ref x.2.1).getD i Value.none):=fun i h=>by rw[List.getD_eq_getElem?_getD,List.getElem?_eq_getElem h];rfl
  have col:∀(E':Value->Shared->Prop)(Q':List Value->Shared->Prop),(∀h1 tk,(∀b o,s.heap.get? b=some o->h1.get? b=some o)->s.heap.objs.size<h1.objs.size->Q' (xs.map fun x=>Value.ref x.2.1) { s with heap:=h1,toks:=tk })->wpAny (model X.prog X.w) X.A.in1 (collect (.ref p)) Q' E' s:=fun E' Q' q'=>by
    refine O4 (A:=X.A.in1) (I.ok.hd hc) hd ⟨o,h1,h2,h3⟩ (by rw[sizeLine_eq];omega) fun h1 tk k sz=>?_
    rw[yk];exact q' h1 tk k sz
  refine PU (κ:=tuples' true) T (by omega) col (fun two s' kp _ _ Q' q'=>P5 (Paired.cW hT fun v p t=>t.kept kp) (by omega) q') (fun i j hi hj n s' kp Q' q'=>P4 ((oZ hT (gi i hi) (gd i (by omega))).kept kp) ((oZ hT (gi j hj) (gd j (by omega))).kept kp) q') fun D out h' tk c lo po kp hD hg=>?_
  obtain⟨bs,ys,vb,lb,pm,ab,up⟩:=P6 (xs.map fun x=>x.2.1) ps ("","") rv po (by rw[List.length_map];omega);have hn:H D=none:=I.aI.fresh hD;refine⟨.ref D,_,I.laid (t':=tk) (h':=h') (a:=D) (o:=.lst (bs.map V.ref)) kp hD ⟨?_,out,c,vb,by rw[hg]⟩,rfl,q D bs ys hn ?_ pm (up.imp fun⟨a,b,e1,e2,l⟩=>?_)⟩
  · rw[List.length_map,lb,pm.length_eq,sizeLine_eq];omega
  · refine yi lb fun i b y e1 e2=>?_
    obtain⟨j,g1,g2⟩:=ab i b y e1 e2;obtain⟨x,ex,q',eq,hx⟩:=Ik j (by exact(List.getElem?_eq_some_iff.mp g2).1);rw[List.getElem?_map,ex] at g1;cases g1;rw[g2] at eq;cases eq;exact hx
  · rw[List.getD_eq_getElem?_getD,List.getD_eq_getElem?_getD,e1,e2] at l;exact l
end
end L2
namespace Dm
open PySem PySem.NumText L2
theorem Rc.refl{ln:Ln}{s:Str}:Rc ln s 0 s:=⟨[],.nil,rfl⟩
theorem Il{ln:Ln}{s:Str}:∀{n:Nat}{v:Str},Rc ln s (n+1) v->∃l r,(l,r)∈ln s/\Rc ln l n v
  | 0,v,h=>by
    obtain⟨u,r,h1,h2⟩:=h.succ;have:=h1.zero;subst this;exact⟨v,r,h2,Rc.refl⟩
  | n+1,v,h=>by
    obtain⟨u,r,h1,h2⟩:=h.succ;obtain⟨l,r',h3,h4⟩:=Il h1;exact⟨l,r',h3,h4.step h2⟩
theorem Im{ln:Ln}{s l:Str}{r:Addr}(h:(l,r)∈ln s):∀{n:Nat}{v:Str},Rc ln l n v->Rc ln s (n+1) v
  | 0,v,q=>by
    have:=q.zero;subst this;exact Rc.refl.step h
  | n+1,v,q=>by
    obtain⟨u,r',h1,h2⟩:=q.succ;exact(Im h h1).step h2
theorem Io{ln:Ln}{a b c:Str}{i:Nat}(h:Rc ln a i b):∀{j:Nat},Rc ln b j c->Rc ln a (i+j) c
  | 0,q=>by have:=q.zero;subst this;exact h
  | j+1,q=>by
    obtain⟨u,r,h1,h2⟩:=q.succ;exact(Io h h1).step h2
def eV(ln:Ln)(x y:Str):Prop:=∃j,1<=j/\Rc ln x j y
theorem jx{ln:Ln}{x y:Str}:eV ln x y↔∃l r,(l,r)∈ln x/\(l=y\/eV ln l y):=by
  constructor
  · rintro⟨j,h1,h⟩;obtain⟨n,rfl⟩:∃n,j=n+1:=⟨j-1,by omega⟩;obtain⟨l,r,h2,h3⟩:=Il h;refine⟨l,r,h2,?_⟩;cases n with
    | zero=>exact .inl h3.zero.symm
    | succ n=>exact .inr ⟨n+1,by omega,h3⟩
  · rintro⟨l,r,h,rfl | ⟨j,h1,h2⟩⟩
    · exact⟨1,by omega,Rc.refl.step h⟩
    · exact⟨j+1,by omega,Im h h2⟩
theorem Rc.inKeys{ln:Ln}{keys:List Str}(cl:∀k∈keys,∀l r,(l,r)∈ln k->l∈keys){x:Str}(hx:x∈keys):∀{j:Nat}{y:Str},Rc ln x j y->y∈keys
  | 0,y,h=>by have:=h.zero;subst this;exact hx
  | j+1,y,h=>by
    obtain⟨u,r,h1,h2⟩:=h.succ;exact cl u (Rc.inKeys cl hx h1) y r h2
theorem A0{ln:Ln}{keys:List Str}(cl:∀k∈keys,∀l r,(l,r)∈ln k->l∈keys)(nr:cJ ln keys){x y:Str}(hx:x∈keys){j:Nat}(h:Rc ln x j y):j<keys.length:=by
  obtain⟨rs,w,rfl⟩:=h;obtain⟨vs,v0,vl,st⟩:=w.seq;have Ip:∀a d,a+d<=rs.length->Rc ln (vs a) d (vs (a+d)):=by
    intro a d
    induction d with
    | zero=>intro _;exact Rc.refl
    | succ d ih=>
      intro hd;obtain⟨r,_,h2⟩:=st (a+d) (by omega);exact(ih (by omega)).step h2
  have mem:∀a,a<=rs.length->vs a∈keys:=fun a ha=>by
    have:=Ip 0 a (by omega);rw[Nat.zero_add,v0] at this;exact this.inKeys cl hx
  have nd:((List.range (rs.length+1)).map vs).Nodup:=by
    rw[List.nodup_iff_pairwise_ne,List.pairwise_map];refine List.Pairwise.imp_of_mem ?_ (List.pairwise_lt_range (n:=rs.length+1));intro a b ha hb fB e;have hb:=List.mem_range.mp hb;have:=Ip a (b-a) (by omega);rw[show a+(b-a)=b by omega,←e] at this;exact nr _ (mem a (by omega)) (b-a) (by omega) this
  have:=lD (us:=keys) nd fun z hz=>by
    obtain⟨a,ha,rfl⟩:=List.mem_map.mp hz;exact mem a (by have:=List.mem_range.mp ha;omega)
  rw[List.length_map,List.length_range] at this;omega
def c7{α:Type}[DecidableEq α](M:List α)(x:α):List α:=if x∈M then M else M++[x]
theorem DG{α:Type}[DecidableEq α]{M:List α}{x y:α}:y∈c7 M x↔y∈M\/y=x:=by
  unfold c7;split
  · next h=>
    constructor
    · exact .inl
    · rintro(z | rfl)
      · exact z
      · exact h
  · rw[List.mem_append,List.mem_singleton]
theorem DH{α:Type}[DecidableEq α]{M:List α}{x:α}(h:M.Nodup):(c7 M x).Nodup:=by
  unfold c7;split
  · exact h
  · next n=>
    rw[List.nodup_append];refine⟨h,by simp,fun a ha b hb e=>?_⟩;have:b=x:=by simpa using hb
    subst this;subst e;exact n ha
def uT(M M2:List Str):List Str:=M2.foldl c7 M
theorem Iq{y:Str}:∀{M2 M:List Str},y∈uT M M2↔y∈M\/y∈M2
  | [],M=>by simp[uT]
  | x::r,M=>by
    show y∈uT (c7 M x) r↔_;rw[Iq,DG,List.mem_cons,or_assoc]
theorem Ir:∀{M2 M:List Str},M.Nodup->(uT M M2).Nodup
  | [],_,h=>h
  | x::r,M,h=>Ir (M2:=r) (M:=c7 M x) (DH h)
theorem Iu{M:List Str}{x:Str}:putK (dV M eG) (Sum.inr x) (.bl true)=dV (c7 M x) eG:=by
  unfold c7;split
  · next h=>
    rw[AN h];refine l9 fun z _=>?_
    split<;>rfl
  · next h=>exact Dj h
theorem Iv:∀{M2 M:List Str},uH (dV M eG) (dV M2 eG)=dV (uT M M2) eG
  | [],M=>rfl
  | x::r,M=>by
    show uH (putK (dV M eG) (Sum.inr x) (.bl true)) (dV r eG)=_;rw[Iu,Iv];rfl
theorem Iw{α:Type}[DecidableEq α]:∀{rs us:List α},rs.Nodup->(∀x∈rs,x∈us)->rs.length<=us.length
  | [],us,_,_=>Nat.zero_le _
  | a::r,us,hn,hs=>by
    rw[List.nodup_cons] at hn;have ha:=hs a (by simp);have:=Iw (rs:=r) (us:=us.erase a) hn.2 fun x hx=>by
      have:x≠a:=fun z=>hn.1 (z▸hx)
      exact(List.mem_erase_of_ne this).mpr (hs x (List.mem_cons_of_mem _ hx))
    rw[List.length_erase_of_mem ha] at this;have:=List.length_pos_of_mem ha;rw[List.length_cons];omega
structure Dp(H:Hp)(pd:Addr)(ob:Obj)(os:List Str)(bD:Str->List Str)(ad:Str->Addr)(obs:Str->Obj):Prop where
  d:H pd=some (.eB ob (.dK (dV os fun k=>.ref (ad k))))
  e:∀k∈os,H (ad k)=some (.eB (obs k) (.dK (dV (bD k) eG)))
theorem Dp.same{H H':Hp}{pd:Addr}{ob:Obj}{os:List Str}{bD:Str->List Str}{ad:Str->Addr}{obs:Str->Obj}(h:Dp H pd ob os bD ad obs)(s:ah H H'):Dp H' pd ob os bD ad obs:=⟨s _ _ h.d,fun k hk=>s _ _ (h.e k hk)⟩
theorem DI{H:Hp}{a:Addr}{ob:Obj}{M:List Str}(h:H a=some (.eB ob (.dK (dV M eG))))(y:Str):aU H a (.str y) (if y∈M then some (.bl true) else none):=by
  refine .inl ⟨_,Sum.inr y,.inr ⟨ob,h⟩,rfl,?_⟩
  by_cases c:y∈M
  · rw[if_pos c,jt c];rfl
  · rw[if_neg c,sN c]
theorem Iz{ts:TS}{D:Ends}{σ:St}{ad:Str->Addr}{f:Str->List (Key×V)}:∀(L:List Str)(H:Hp),(∀k∈L,H (ad k)=some (.dK (f k)))->(∀k∈L,∀k'∈L,ad k=ad k'->k=k')->L.Nodup->
    (∀(H':Hp)(obs:Str->Obj),(∀k∈L,H' (ad k)=some (.eB (obs k) (.dK (f k))))->(∀b,(∀k∈L,b≠ad k)->H' b=H b)->kM ts D σ H')->kM ts D σ H
  | [],H,_,_,_,k=>k H (fun _=>default) (by simp) fun b _=>rfl
  | x::r,H,h,inj,nd,k=>by
    rw[List.nodup_cons] at nd;have ne:∀z∈r,ad z≠ad x:=fun z hz e=>nd.1 ((inj z (List.mem_cons_of_mem _ hz) x (by simp) e)▸hz)
    refine .eB (ad x) (f x) (h x (by simp)) fun ob=>?_
    refine Iz r _ (fun z hz=>by rw[zr (ne z hz)];exact h z (List.mem_cons_of_mem _ hz)) (fun a ha b hb=>inj a (List.mem_cons_of_mem _ ha) b (List.mem_cons_of_mem _ hb)) nd.2 fun H' obs h1 h2=>?_
    refine k H' (fun z=>if z=x then ob else obs z) (fun z hz=>?_) fun b hb=>?_
    · by_cases c:z=x
      · subst c;rw[if_pos rfl,h2 (ad z) fun w hw=>Ne.symm (ne w hw),zb]
      · rw[if_neg c];exact h1 z ((List.mem_cons.mp hz).resolve_left c)
    · rw[h2 b fun w hw=>hb w (List.mem_cons_of_mem _ hw),zr (hb x (by simp))]
def yl(ln:Ln)(keys:List Str)(p:SS):Prop:=p.1∈keys/\(∃r,(p.2,r)∈ln p.1)/\¬∃t,eV ln p.1 t/\eV ln t p.2
def dP(ps:List SS):List (List Key×V):=ps.map fun p=>([Sum.inr p.1,Sum.inr p.2],V.bl true)
theorem Qc(ps:List SS):((dP ps).map fun kv=>kv.1)=ps.map fun q=>[Sum.inr q.1,Sum.inr q.2]:=by unfold dP;rw[List.map_map];rfl
theorem Qd{ps:List SS}{p:SS}:putK (dP ps) [Sum.inr p.1,Sum.inr p.2] (.bl true)=dP (c7 ps p):=by
  have inj:∀a b:SS,([Sum.inr a.1,Sum.inr a.2]:List Key) = [Sum.inr b.1,Sum.inr b.2]↔a=b:=fun a b=>by
    constructor
    · intro h;simp only[List.cons.injEq,Sum.inr.injEq,and_true] at h;exact Prod.ext h.1 h.2
    · rintro rfl;rfl
  have any:((dP ps).any fun kv=>decide (kv.1 = [Sum.inr p.1,Sum.inr p.2]))=decide (p∈ps):=by
    rw[Bool.eq_iff_iff,List.any_eq_true,decide_eq_true_iff];unfold dP;constructor
    · rintro⟨x,hx,e⟩;obtain⟨q,hq,rfl⟩:=List.mem_map.mp hx;exact((inj q p).mp (of_decide_eq_true e))▸hq
    · intro h;exact⟨_,List.mem_map.mpr ⟨p,h,rfl⟩,decide_eq_true rfl⟩
  unfold putK c7;rw[any]
  by_cases c:p∈ps
  · rw[if_pos (decide_eq_true c),if_pos c];unfold dP;rw[List.map_map];refine List.map_congr_left fun q _=>?_
    show(if([Sum.inr q.1,Sum.inr q.2]:List Key) = [Sum.inr p.1,Sum.inr p.2] then _ else _)=_;split<;>rfl
  · rw[if_neg (by rw[decide_eq_false c];exact Bool.false_ne_true),if_neg c];unfold dP;rw[List.map_append];rfl
abbrev Tr:=av×Addr
abbrev Rw:=Str->List (Str×Tr)
def bu(ts:List av)(z:List Tr):Rw:=fun k=>(z.filter fun p=>decide (p.1.k≠bK/\aj ts p.1.a=k)).map fun p=>(aj ts p.1.b,p)
theorem Qe{ts:List av}{z:List Tr}{k:Str}:aZ ts z k=(bu ts z k).map fun q=>(q.1,q.2.2):=by unfold aZ bu;rw[List.map_map];rfl
theorem iE{ts:List av}{z:List Tr}{k l:Str}{b:Tr}:(l,b)∈bu ts z k↔b∈z/\b.1.k≠bK/\aj ts b.1.a=k/\aj ts b.1.b=l:=by
  unfold bu;rw[List.mem_map];constructor
  · rintro⟨p,hp,e⟩;rw[List.mem_filter,decide_eq_true_iff] at hp;cases e;exact⟨hp.1,hp.2.1,hp.2.2,rfl⟩
  · rintro⟨h1,h2,h3,h4⟩;exact⟨b,by rw[List.mem_filter,decide_eq_true_iff];exact⟨h1,h2,h3⟩,by rw[h4]⟩
abbrev bZ:=Int×Str×List Tr
inductive Up(R:Rw)(F:Str->IS->Prop):Str->bZ->Prop
  | bare {k:Str}{m:IS}(h:F k m):Up R F k (m.1,m.2,[])
  | up {k l:Str}{c:bZ}{b:Tr}(u:Up R F l c) (h:(l,b)∈R k):Up R F k (c.1+bT b.1,c.2.1,c.2.2++[b])
inductive Dn(R:Rw)(F:Str->IS->Prop):Str->bZ->Prop
  | bare {k:Str}{m:IS}(h:F k m):Dn R F k (m.1,m.2,[])
  | dn {k l:Str}{c:bZ}{b:Tr}(u:Dn R F k c) (h:(l,b)∈R k):Dn R F l (c.1-bT b.1,c.2.1,b::c.2.2)
def fW(R:Rw)(F:Str->IS->Prop)(k:Str)(m:Int):Prop:=(∃c,Up R F k c/\c.1=m)/\∀c,Up R F k c->c.1<=m
def gJ(R:Rw)(F:Str->IS->Prop)(k:Str)(m:Int):Prop:=(∃c,Dn R F k c/\c.1=m)/\∀c,Dn R F k c->m<=c.1
variable{R:Rw}{F G:Str->IS->Prop}{k:Str}{keys:List Str}
theorem fW.uniq{m n:Int}(h:fW R F k m)(h':fW R F k n):m=n:=by
  obtain⟨⟨c,u,e⟩,a⟩:=h;obtain⟨⟨c',u',e'⟩,a'⟩:=h';have h1:=a _ u';have h2:=a' _ u;omega
theorem gJ.uniq{m n:Int}(h:gJ R F k m)(h':gJ R F k n):m=n:=by
  obtain⟨⟨c,u,e⟩,a⟩:=h;obtain⟨⟨c',u',e'⟩,a'⟩:=h';have h1:=a _ u';have h2:=a' _ u;omega
theorem DJ{f:Str->Int}(h0:∀k m,F k m->k∈keys->m.1<=f k)(cl:∀k l b,(l,b)∈R k->k∈keys/\l∈keys)(h1:∀k l b,(l,b)∈R k->f l+bT b.1<=f k){c:bZ}(hk:k∈keys)(u:Up R F k c):c.1<=f k:=by
  induction u with
  | bare h=>exact h0 _ _ h hk
  | up u h ih=>
    have:=ih (cl _ _ _ h).2;have:=h1 _ _ _ h;show _+_<=_;omega
theorem Qg{f:Str->Int}(h0:∀k m,F k m->k∈keys->f k<=m.1)(cl:∀k l b,(l,b)∈R k->k∈keys/\l∈keys)(h1:∀k l b,(l,b)∈R k->f l<=f k-bT b.1){c:bZ}(hk:k∈keys)(u:Dn R F k c):f k<=c.1:=by
  induction u with
  | bare h=>exact h0 _ _ h hk
  | dn u h ih=>
    have:=ih (cl _ _ _ h).1;have:=h1 _ _ _ h;show _<=_-_;omega
theorem Qh{d:bZ}(hd:Dn R G k d):∀{c:bZ},Up R F k c->d.1<c.1->∃k' c' m,(k'=k\/∃l b,(l,b)∈R k')/\Up R F k' c'/\G k' m/\m.1<c'.1:=by
  induction hd with
  | bare h=>exact fun u hl=>⟨_,_,_,.inl rfl,u,h,hl⟩
  | @dn k l c b u h ih=>
    intro c' u' hl;have hl:c.1-bT b.1<c'.1:=hl;obtain⟨k',Qi,m,h1,h2⟩:=ih (u'.up h) (show c.1<c'.1+bT b.1 by omega);refine⟨k',Qi,m,?_,h2⟩;rcases h1 with rfl | h1
    · exact .inr ⟨_,_,h⟩
    · exact .inr h1
theorem Qj{f g:Str->Int}(cl:∀k l b,(l,b)∈R k->k∈keys/\l∈keys)(hf:∀k∈keys,fW R F k (f k))(hg:∀k∈keys,gJ R G k (g k)):(∃k∈keys,g k<f k)↔∃k∈keys,∃c m,Up R F k c/\G k m/\m.1<c.1:=by
  constructor
  · rintro⟨k,hk,hl⟩;obtain⟨⟨c,u,e⟩,_⟩:=hf k hk;obtain⟨⟨d,v,e'⟩,_⟩:=hg k hk;obtain⟨k',c',m,h1,h2,h3,h4⟩:=Qh v u (by omega);refine⟨k',?_,c',m,h2,h3,h4⟩;rcases h1 with rfl | ⟨l,b,h⟩
    · exact hk
    · exact(cl _ _ _ h).1
  · rintro⟨k,hk,c,m,u,h,hl⟩;have h1:=(hf k hk).2 _ u;have h2:=(hg k hk).2 _ (Dn.bare h);exact⟨k,hk,by have h2:g k<=m.1:=h2;omega⟩
theorem Rc.cons{ln:Ln}{k l:Str}{r:Addr}(e:(l,r)∈ln k):∀{n:Nat}{s:Str},Rc ln l n s->Rc ln k (n+1) s
  | 0,s,h=>by rw[h.zero];exact Rc.step Rc.refl e
  | n+1,s,h=>by
    obtain⟨u,r',h1,h2⟩:=h.succ;exact(Rc.cons e h1).step h2
theorem Rc.short{ln:Ln}{keys:List Str}(cl:∀k∈keys,∀l r,(l,r)∈ln k->l∈keys)(nr:cJ ln keys){k s:Str}{n:Nat}(hk:k∈keys)(h:Rc ln k n s):n<keys.length:=by
  obtain⟨rs,w,e⟩:=h;obtain⟨vs,v0,v1,st⟩:=w.seq;rw[e] at v1 st;have hk:∀i,i<=n->vs i∈keys:=by
    intro i
    induction i with
    | zero=>intro _;rw[v0];exact hk
    | succ i ih=>
      intro hi;obtain⟨r,_,q⟩:=st i (by omega);exact cl _ (ih (by omega)) _ _ q
  have go:∀i d,i+d<=n->Rc ln (vs i) d (vs (i+d)):=by
    intro i d
    induction d with
    | zero=>intro _;exact Rc.refl
    | succ d ih=>
      intro hi;obtain⟨r,_,q⟩:=st (i+d) (by omega);exact(ih (by omega)).step q
  have main:∀i j,i<j->j<=n->vs i≠vs j:=fun i j jZ hj e=>by
    have:=go i (j-i) (by omega);rw[show i+(j-i)=j by omega,←e] at this;exact nr _ (hk i (by omega)) _ (by omega) this
  have nd:((List.range (n+1)).map vs).Nodup:=CV fun i j hi hj e=>by
    rcases Nat.lt_trichotomy i j with c | c | c
    · exact absurd e (main i j c (by omega))
    · exact c
    · exact absurd e.symm (main j i c (by omega))
  have:=lD (us:=keys) nd fun x hx=>by
    obtain⟨i,hi,rfl⟩:=List.mem_map.mp hx;exact hk i (by have:=List.mem_range.mp hi;omega)
  rw[List.length_map,List.length_range] at this;omega
def jP(R:Rw):Ln:=fun k=>(R k).map fun q=>(q.1,q.2.2)
theorem qR{l:Str}{b:Tr}(h:(l,b)∈R k):(l,b.2)∈jP R k:=List.mem_map.mpr ⟨(l,b),h,rfl⟩
theorem Qk{l:Str}{r:Addr}(h:(l,r)∈jP R k):∃t,(l,(t,r))∈R k:=by
  obtain⟨⟨l',t,r'⟩,h',e⟩:=List.mem_map.mp h;cases e;exact⟨t,h'⟩
theorem Up.rc{c:bZ}(u:Up R F k c):∃s,Rc (jP R) k c.2.2.length s:=by
  induction u with
  | bare h=>exact⟨_,Rc.refl⟩
  | up u h ih=>
    obtain⟨s,q⟩:=ih;refine⟨s,?_⟩;show Rc _ _ (_++[_]).length _;rw[List.length_append];exact Rc.cons (qR h) q
theorem Dn.rc{c:bZ}(cl:∀k l b,(l,b)∈R k->k∈keys/\l∈keys)(u:Dn R F k c)(hk:k∈keys):∃s∈keys,Rc (jP R) s c.2.2.length k:=by
  induction u with
  | bare h=>exact⟨_,hk,Rc.refl⟩
  | dn u h ih=>
    obtain⟨s,hs,q⟩:=ih (cl _ _ _ h).1;exact⟨s,hs,q.step (qR h)⟩
theorem IA(cl:∀k l b,(l,b)∈R k->k∈keys/\l∈keys):∀k∈keys,∀l r,(l,r)∈jP R k->l∈keys:=fun k _ l r h=>by
  obtain⟨t,h⟩:=Qk h;exact(cl _ _ _ h).2
theorem Up.short{c:bZ}(cl:∀k l b,(l,b)∈R k->k∈keys/\l∈keys)(nr:cJ (jP R) keys)(hk:k∈keys)(u:Up R F k c):c.2.2.length<keys.length:=by
  obtain⟨s,q⟩:=u.rc;exact q.short (IA cl) nr hk
theorem Dn.short{c:bZ}(cl:∀k l b,(l,b)∈R k->k∈keys/\l∈keys)(nr:cJ (jP R) keys)(hk:k∈keys)(u:Dn R F k c):c.2.2.length<keys.length:=by
  obtain⟨s,hs,q⟩:=u.rc cl hk;exact q.short (IA cl) nr hs
structure iZ(R:Rw)(F:Str->IS->Prop)(keys:List Str)(n:Nat)(M:List Str)(v:Str->bZ):Prop where
  nd:M.Nodup
  sub:∀k∈M,k∈keys
  is:∀k∈M,Up R F k (v k)/\(v k).2.2.length=n
  all:∀k∈keys,∀c,Up R F k c->c.2.2.length=n->k∈M/\c.1<=(v k).1
theorem iZ.zero{v:Str->bZ}(nd:keys.Nodup)(h:∀k∈keys,(v k).2.2 = []/\F k ((v k).1,(v k).2.1))(hu:∀k m m',F k m->F k m'->m.1=m'.1):iZ R F keys 0 keys v:=by
  refine⟨nd,fun _ h=>h,fun k hk=>⟨?_,by rw[(h k hk).1];rfl⟩,fun k hk c u e=>⟨hk,?_⟩⟩
  · have:=Up.bare (R:=R) (h k hk).2;rw[←(h k hk).1] at this;exact this
  · cases u with
    | bare h'=>exact Int.le_of_eq (hu _ _ _ h' (h k hk).2)
    | up u h'=>
      have e:(_++[_]).length=0:=e;simp at e
structure i0(R:Rw)(M:List Str)(v:Str->bZ)(k:Str)(z:List (Str×Tr))(has:Prop)(c:bZ):Prop where
  no:¬has->∀l b,(l,b)∈z->l ∉ M
  yes:has->∃l b,(l,b)∈z/\l∈M/\c=((v l).1+bT b.1,(v l).2.1,(v l).2.2++[b])
  max:has->∀l b,(l,b)∈z->l∈M->(v l).1+bT b.1<=c.1
theorem iZ.next{n:Nat}{M M':List Str}{v v':Str->bZ}(cl:∀k l b,(l,b)∈R k->k∈keys/\l∈keys)(r:iZ R F keys n M v)(nd:M'.Nodup)(sub:∀k∈M',k∈keys)(h:∀k∈keys,i0 R M v k (R k) (k∈M') (v' k)):iZ R F keys (n+1) M' v':=by
  refine⟨nd,sub,fun k hk=>?_,fun k hk c u e=>?_⟩
  · obtain⟨l,b,h1,h2,h3⟩:=(h k (sub k hk)).yes hk;obtain⟨u,e⟩:=r.is l h2;rw[h3];refine⟨u.up h1,?_⟩;show(_++[_]).length=_;rw[List.length_append,e];rfl
  · cases u with
    | bare h'=>exact absurd e (by show ¬([]:List Tr).length=n+1;simp)
    | @up _ l c b u h'=>
      have e:(c.2.2++[b]).length=n+1:=e;rw[List.length_append] at e;have e:c.2.2.length+1=n+1:=e;obtain⟨h1,h2⟩:=r.all l (cl _ _ _ h').2 c u (by omega);have hM:k∈M':=Decidable.byContradiction fun z=>(h k hk).no z l b h' h1
      refine⟨hM,?_⟩;have:=(h k hk).max hM l b h' h1;show c.1+_<=_;omega
theorem iZ.stop{n:Nat}{v:Str->bZ}(cl:∀k l b,(l,b)∈R k->k∈keys/\l∈keys)(r:iZ R F keys n [] v):∀k∈keys,∀c,Up R F k c->c.2.2.length<n:=by
  have no:∀k∈keys,∀c,Up R F k c->c.2.2.length≠n:=fun k hk c u e=>List.not_mem_nil (r.all k hk c u e).1
  intro k hk c u
  induction u with
  | bare h=>
    have:=no _ hk _ (Up.bare h);show 0<n;have:(0:Nat)≠n:=this;omega
  | @up k l c b u h ih=>
    have h1:=ih (cl _ _ _ h).2;have h2:=no _ hk _ (u.up h);have h2:(c.2.2++[b]).length≠n:=h2;show(c.2.2++[b]).length<n;rw[List.length_append] at h2 ⊢;have h2:c.2.2.length+1≠n:=h2;show c.2.2.length+1<n;omega
theorem IB{f:Str->Int}{q:cZ}(z:Str):f z<=nV f q z:=by
  unfold nV mz;split
  · rename_i h;rw[h];split<;>omega
  · omega
theorem Ql{f:Str->Int}{q:cZ}:f q.2.1+q.2.2.1<=nV f q q.1:=by
  unfold nV mz;rw[if_pos rfl];split<;>omega
theorem IC(ls:List cZ):∀{f:Str->Int}(z:Str),f z<=sV ls f z:=by
  induction ls with
  | nil=>intro f z;exact Int.le_refl _
  | cons q ls ih=>intro f z;exact Int.le_trans (IB z) (ih (f:=nV f q) z)
theorem Qm{ls:List cZ}:∀{f f':Str->Int}{q:cZ},q∈ls->(∀z,f z<=f' z)->f q.2.1+q.2.2.1<=sV ls f' q.1:=by
  induction ls with
  | nil=>intro f f' q h;cases h
  | cons p ls ih=>
    intro f f' q h hf;rcases List.mem_cons.mp h with rfl | h
    · have h1:=hf q.2.1;have h2:=Ql (f:=f') (q:=q);have h3:=IC ls (f:=nV f' q) q.1;have:sV (q::ls) f' q.1=sV ls (nV f' q) q.1:=rfl;omega
    · exact ih (f':=nV f' p) h fun z=>Int.le_trans (hf z) (IB z)
theorem ID{f:Str->Int}{q:cZ}(z:Str):nW f q z<=f z:=by
  unfold nW uR;split
  · rename_i h;rw[h];split<;>omega
  · omega
theorem Qn{f:Str->Int}{q:cZ}:nW f q q.2.1<=f q.1-q.2.2.1:=by
  unfold nW uR;rw[if_pos rfl];split<;>omega
theorem IE(ls:List cZ):∀{f:Str->Int}(z:Str),sW ls f z<=f z:=by
  induction ls with
  | nil=>intro f z;exact Int.le_refl _
  | cons q ls ih=>intro f z;exact Int.le_trans (ih (f:=nW f q) z) (ID z)
theorem Qo{ls:List cZ}:∀{f f':Str->Int}{q:cZ},q∈ls->(∀z,f' z<=f z)->sW ls f' q.2.1<=f q.1-q.2.2.1:=by
  induction ls with
  | nil=>intro f f' q h;cases h
  | cons p ls ih=>
    intro f f' q h hf;rcases List.mem_cons.mp h with rfl | h
    · have h1:=hf q.1;have h2:=Qn (f:=f') (q:=q);have h3:=IE ls (f:=nW f' q) q.2.1;have:sW (q::ls) f' q.2.1=sW ls (nW f' q) q.2.1:=rfl;omega
    · exact ih (f':=nW f' p) h fun z=>Int.le_trans (ID z) (hf z)
structure DK(R:Rw)(ls:List cZ):Prop where
  to:∀k l b,(l,b)∈R k->∃q∈ls,q.1=k/\q.2.1=l/\q.2.2.1=bT b.1
  of:∀q∈ls,∃b,(q.2.1,b)∈R q.1/\bT b.1=q.2.2.1
theorem IF{ts:List av}{z:List Tr}:DK (bu ts z) (sP ts z):=by
  refine⟨fun k l b h=>?_,fun q h=>?_⟩
  · obtain⟨h1,h2,h3,h4⟩:=iE.mp h;exact⟨(aj ts b.1.a,aj ts b.1.b,bT b.1,b.2),List.mem_map.mpr ⟨b,by rw[List.mem_filter,decide_eq_true_iff];exact⟨h1,h2⟩,rfl⟩,h3,h4,rfl⟩
  · obtain⟨p,hp,rfl⟩:=List.mem_map.mp h;rw[List.mem_filter,decide_eq_true_iff] at hp;exact⟨p,iE.mpr ⟨hp.1,hp.2,rfl,rfl⟩,rfl⟩
theorem Qp{ls:List cZ}{f:Str->Int}(L:DK R ls)(cl:∀k l b,(l,b)∈R k->k∈keys/\l∈keys)(nr:cJ (jP R) keys)(h0:∀k∈keys,∃m,F k m/\m.1=f k)(hu:∀k m m',F k m->F k m'->m.1=m'.1)(hk:k∈keys):fW R F k (mC ls f keys.length k):=by
  have ex:∀(rs:List cZ)(g:Str->Int),(∀q∈rs,q∈ls)->(∀k∈keys,∃c,Up R F k c/\c.1=g k)->∀k∈keys,∃c,Up R F k c/\c.1=sV rs g k:=by
    intro rs
    induction rs with
    | nil=>intro g _ h;exact h
    | cons q rs ih=>
      intro g hs h;refine ih (nV g q) (fun q' h'=>hs q' (List.mem_cons_of_mem _ h')) fun k hk=>?_
      unfold nV mz
      by_cases e:k=q.1
      · rw[if_pos e]
        by_cases e2:g q.2.1+q.2.2.1 > g q.1
        · rw[if_pos e2];obtain⟨b,h1,h2⟩:=L.of q (hs q (by simp));obtain⟨c,u,e3⟩:=h q.2.1 (cl _ _ _ h1).2;refine⟨_,u.up (e▸h1),?_⟩;show c.1+bT b.1=_;rw[e3,h2]
        · rw[if_neg e2,←e];exact h k hk
      · rw[if_neg e];exact h k hk
  have DL:∀n,∀k∈keys,∃c,Up R F k c/\c.1=mC ls f n k:=by
    intro n
    induction n with
    | zero=>
      intro k hk;obtain⟨m,h1,h2⟩:=h0 k hk;exact⟨_,Up.bare h1,h2⟩
    | succ n ih=>exact ex ls (mC ls f n) (fun _ h=>h) ih
  have mono:∀n z,mC ls f n z<=mC ls f (n+1) z:=fun n z=>IC ls z
  have nY:∀n m,n<=m->∀z,mC ls f n z<=mC ls f m z:=by
    intro n m h
    induction h with
    | refl=>intro z;exact Int.le_refl _
    | step _ ih=>intro z;exact Int.le_trans (ih z) (mono _ z)
  have le:∀{k:Str}{c:bZ},Up R F k c->k∈keys->c.1<=mC ls f c.2.2.length k:=by
    intro k c u
    induction u with
    | @bare k m h=>
      intro hk;obtain⟨m',h1,h2⟩:=h0 k hk;show m.1<=f k;rw[←h2,hu _ _ _ h h1];exact Int.le_refl _
    | @up k l c b u h ih=>
      intro hk;have:=ih (cl _ _ _ h).2;obtain⟨q,hq,e1,e2,e3⟩:=L.to _ _ _ h;show c.1+bT b.1<=mC ls f (c.2.2++[b]).length k;rw[List.length_append];show _<=sV ls (mC ls f c.2.2.length) k;have:=Qm (f:=mC ls f c.2.2.length) hq (fun z=>Int.le_refl _);rw[e1,e2,e3] at this;omega
  refine⟨DL _ k hk,fun c u=>?_⟩;have h1:=le u hk;have h2:=u.short cl nr hk;exact Int.le_trans h1 (nY _ _ (by omega) k)
theorem Qq{ls:List cZ}{f:Str->Int}(L:DK R ls)(cl:∀k l b,(l,b)∈R k->k∈keys/\l∈keys)(nr:cJ (jP R) keys)(h0:∀k∈keys,∃m,F k m/\m.1=f k)(hu:∀k m m',F k m->F k m'->m.1=m'.1)(hk:k∈keys):gJ R F k (mX ls f keys.length k):=by
  have ex:∀(rs:List cZ)(g:Str->Int),(∀q∈rs,q∈ls)->(∀k∈keys,∃c,Dn R F k c/\c.1=g k)->∀k∈keys,∃c,Dn R F k c/\c.1=sW rs g k:=by
    intro rs
    induction rs with
    | nil=>intro g _ h;exact h
    | cons q rs ih=>
      intro g hs h;refine ih (nW g q) (fun q' h'=>hs q' (List.mem_cons_of_mem _ h')) fun k hk=>?_
      unfold nW uR
      by_cases e:k=q.2.1
      · rw[if_pos e]
        by_cases e2:g q.1-q.2.2.1<g q.2.1
        · rw[if_pos e2];obtain⟨b,h1,h2⟩:=L.of q (hs q (by simp));obtain⟨c,u,e3⟩:=h q.1 (cl _ _ _ h1).1;refine⟨_,u.dn (e▸h1),?_⟩;show c.1-bT b.1=_;rw[e3,h2]
        · rw[if_neg e2,←e];exact h k hk
      · rw[if_neg e];exact h k hk
  have DL:∀n,∀k∈keys,∃c,Dn R F k c/\c.1=mX ls f n k:=by
    intro n
    induction n with
    | zero=>
      intro k hk;obtain⟨m,h1,h2⟩:=h0 k hk;exact⟨_,Dn.bare h1,h2⟩
    | succ n ih=>exact ex ls (mX ls f n) (fun _ h=>h) ih
  have mono:∀n z,mX ls f (n+1) z<=mX ls f n z:=fun n z=>IE ls z
  have nY:∀n m,n<=m->∀z,mX ls f m z<=mX ls f n z:=by
    intro n m h
    induction h with
    | refl=>intro z;exact Int.le_refl _
    | step _ ih=>intro z;exact Int.le_trans (mono _ z) (ih z)
  have le:∀{k:Str}{c:bZ},Dn R F k c->k∈keys->mX ls f c.2.2.length k<=c.1:=by
    intro k c u
    induction u with
    | @bare k m h=>
      intro hk;obtain⟨m',h1,h2⟩:=h0 k hk;show f k<=m.1;rw[←h2,hu _ _ _ h h1];exact Int.le_refl _
    | @dn k l c b u h ih=>
      intro hk;have:=ih (cl _ _ _ h).1;obtain⟨q,hq,e1,e2,e3⟩:=L.to _ _ _ h;show sW ls (mX ls f c.2.2.length) l<=c.1-bT b.1;have:=Qo (f:=mX ls f c.2.2.length) hq (fun z=>Int.le_refl _);rw[e1,e2,e3] at this;omega
  refine⟨DL _ k hk,fun c u=>?_⟩;have h1:=le u hk;have h2:=u.short cl nr hk;exact Int.le_trans (nY _ _ (by omega) k) h1
def bh(H0 H:Hp)(a:Addr)(c:bZ):Prop:=∃l,H a=some (.tup [.int c.1,.str c.2.1,.ref l])/\H l=some (.lst (c.2.2.map fun p=>V.ref p.2))/\H0 l=none
def Qs(fz:Bool)(o:Obj)(keys:List Str)(ad:Str->Addr):HO:=if fz then .eB o (.dK (dV keys fun k=>.ref (ad k))) else .dK (dV keys fun k=>.ref (ad k))
section
variable{H0 H H':Hp}{a pd:Addr}{c:bZ}
theorem bh.same(h:bh H0 H a c)(s:ah H H'):bh H0 H' a c:=by
  obtain⟨l,h1,h2,h3⟩:=h;exact⟨l,s _ _ h1,s _ _ h2,h3⟩
theorem bh.put{kv:List (Key×V)}{o:HO}(h:bh H0 H a c)(hd:H pd=some (.dK kv)):bh H0 (upd H pd o) a c:=by
  obtain⟨l,h1,h2,h3⟩:=h;exact⟨l,by rw[zr (jW h1 hd (by intro z;cases z))];exact h1,by rw[zr (jW h2 hd (by intro z;cases z))];exact h2,h3⟩
theorem bh.any(h:bh H0 H a c):bh (fun _=>none) H a c:=by
  obtain⟨l,h1,h2,_⟩:=h;exact⟨l,h1,h2,rfl⟩
theorem bh.old{H1:Hp}(h:bh H1 H a c)(s:ah H0 H1):bh H0 H a c:=by
  obtain⟨l,h1,h2,h3⟩:=h;exact⟨l,h1,h2,s.free h3⟩
end
theorem Qt{H:Hp}{pd:Addr}{ob:Obj}{keys:List Str}{f:Str->V}(h:H pd=some (.eB ob (.dK (dV keys f)))){k:Str}(hk:k ∉ keys):aU H pd (.str k) none:=.inl ⟨_,Sum.inr k,.inr ⟨ob,h⟩,rfl,(sN hk).symm⟩
theorem mY{ts:List av}{z:List Tr}:aZ ts z=jP (bu ts z):=funext fun k=>Qe
theorem Qu{ts:List av}{z:List Tr}{k:Str}:(bu ts z k).length<=z.length:=by
  unfold bu;rw[List.length_map];exact List.length_filter_le _ _
theorem DM{K:PySem.W.Frag}{H:Hp}{p pu pt:Addr}{x y:V}{us:List Str}{ai:List Addr}{ts:List av}(h:iB K H p pu pt x y us ai ts){k l:Str}{b:Tr}(hb:(l,b)∈bu ts (ts.zip ai) k):H b.2=some (.tup (bg b.1))/\iM us b.1:=by
  have hz:=(iE.mp hb).1;obtain⟨i,hi⟩:=List.mem_iff_getElem?.mp hz;obtain⟨h1,h2⟩:=List.getElem?_zip_eq_some.mp hi;exact⟨oZ h.tt h2 (by rw[List.getElem?_map,h1];rfl),h.ok _ (List.mem_of_getElem? h1)⟩
theorem qS{us:List Str}{ts:List av}{ai:List Addr}(ht:∀t∈ts,t.a∈us/\t.b∈us):∀k l b,(l,b)∈bu ts (ts.zip ai) k->k∈zn ts (au us)/\l∈zn ts (au us):=fun k l b h=>by
  obtain⟨h1,h2,h3,h4⟩:=iE.mp h;have hm:=(List.of_mem_zip (a:=b.1) (b:=b.2) h1).1;rw[←h3,←h4];exact⟨qI ht (ht _ hm).1,qI ht (ht _ hm).2⟩
theorem DN{R:Rw}{k l:Str}{r:Addr}{j:Nat}(h:(jP R k)[j]? = some (l,r)):∃t,(R k)[j]? = some (l,(t,r)):=by
  unfold jP at h;rw[List.getElem?_map] at h;cases e:(R k)[j]? with
  | none=>rw[e] at h;cases h
  | some q=>
    rw[e] at h;obtain⟨l',t,r'⟩:=q;cases h;exact⟨t,rfl⟩
theorem DO{R:Rw}{k:Str}:(jP R k).length=(R k).length:=by unfold jP;rw[List.length_map]
section
variable{R:Rw}{M:List Str}{v:Str->bZ}{k:Str}{z:List (Str×Tr)}{has p8:Prop}{c c':bZ}{l:Str}{b:Tr}
theorem i0.nil(h:¬has):i0 R M v k [] has c:=⟨fun _ l b h=>(List.not_mem_nil h).elim,fun h'=>absurd h' h,fun h'=>absurd h' h⟩
theorem ki{α:Type}{xs:List α}{x y:α}(h:y∈xs++[x]):y∈xs\/y=x:=by
  rcases List.mem_append.mp h with h | h
  · exact .inl h
  · exact .inr (by simpa using h)
theorem i0.skip(h:i0 R M v k z has c)(hl:l ∉ M):i0 R M v k (z++[(l,b)]) has c:=by
  refine⟨fun hn l' b' h'=>?_,fun hy=>?_,fun hy l' b' h' hm=>?_⟩
  · rcases ki h' with h' | h'
    · exact h.no hn l' b' h'
    · cases h';exact hl
  · obtain⟨l',b',h1,h2⟩:=h.yes hy;exact⟨l',b',List.mem_append_left _ h1,h2⟩
  · rcases ki h' with h' | h'
    · exact h.max hy l' b' h' hm
    · cases h';exact absurd hm hl
theorem i0.eO(h:i0 R M v k z has c)(hh:has)(le:(v l).1+bT b.1<=c.1):i0 R M v k (z++[(l,b)]) has c:=by
  refine⟨fun hn=>absurd hh hn,fun hy=>?_,fun hy l' b' h' hm=>?_⟩
  · obtain⟨l',b',h1,h2⟩:=h.yes hy;exact⟨l',b',List.mem_append_left _ h1,h2⟩
  · rcases ki h' with h' | h'
    · exact h.max hy l' b' h' hm
    · cases h';exact le
theorem i0.take(h:i0 R M v k z has c)(hl:l∈M)(hh:p8)(ge:has->c.1<(v l).1+bT b.1)(e:c'=((v l).1+bT b.1,(v l).2.1,(v l).2.2++[b])):i0 R M v k (z++[(l,b)]) p8 c':=by
  subst e;refine⟨fun hn=>absurd hh hn,fun hy=>⟨l,b,by simp,hl,rfl⟩,fun hy l' b' h' hm=>?_⟩;show _<=(v l).1+bT b.1;rcases ki h' with h' | h'
  · by_cases hc:has
    · have:=h.max hc l' b' h' hm;have:=ge hc;omega
    · exact absurd hm (h.no hc l' b' h')
  · cases h';exact Int.le_refl _
theorem i0.congr(h:i0 R M v k z has c)(e:has↔p8)(e':c=c'):i0 R M v k z p8 c':=by
  subst e';exact⟨fun hn=>h.no fun z=>hn (e.mp z),fun hy=>h.yes (e.mpr hy),fun hy=>h.max (e.mpr hy)⟩
end
structure iF(R:Rw)(F:Str->IS->Prop)(keys done:List Str)(v:Str->bZ):Prop where
  is:∀k∈keys,Up R F k (v k)
  ge:∀k∈keys,∀m,F k m->m.1<=(v k).1
  le:∀k∈done,∀l b,(l,b)∈R k->(v l).1+bT b.1<=(v k).1
structure iG(R:Rw)(F:Str->IS->Prop)(keys done:List Str)(v:Str->bZ):Prop where
  is:∀k∈keys,Dn R F k (v k)
  ge:∀k∈keys,∀m,F k m->(v k).1<=m.1
  le:∀k∈done,∀l b,(l,b)∈R k->(v l).1<=(v k).1-bT b.1
section
variable{R:Rw}{F:Str->IS->Prop}{keys done:List Str}{v:Str->bZ}
theorem iF.lo(h:iF R F keys done v)(cl:∀k l b,(l,b)∈R k->k∈keys/\l∈keys)(all:∀k∈keys,k∈done){k:Str}(hk:k∈keys):fW R F k (v k).1:=
  ⟨⟨_,h.is k hk,rfl⟩,fun c u=>DJ (f:=fun z=>(v z).1) (keys:=keys) (fun k m hf hk=>h.ge k hk m hf) cl (fun k l b hb=>h.le k (all k (cl _ _ _ hb).1) l b hb) hk u⟩
theorem iG.hi(h:iG R F keys done v)(cl:∀k l b,(l,b)∈R k->k∈keys/\l∈keys)(all:∀k∈keys,k∈done){k:Str}(hk:k∈keys):gJ R F k (v k).1:=
  ⟨⟨_,h.is k hk,rfl⟩,fun c u=>Qg (f:=fun z=>(v z).1) (keys:=keys) (fun k m hf hk=>h.ge k hk m hf) cl (fun k l b hb=>h.le k (all k (cl _ _ _ hb).1) l b hb) hk u⟩
end
theorem lG{ts:List av}{fs:List bI}{lo y:Int}{k:Str}:gx ts fs lo k<=y↔lo<=y/\∀f∈fs,aj ts f.u=k->f.lo<=y:=by
  unfold gx
  induction fs generalizing lo with
  | nil=>simp
  | cons f fs ih=>
    rw[List.foldl_cons,ih]
    by_cases e:aj ts f.u=k
    · rw[if_pos e];unfold mz;constructor
      · rintro⟨h1,h2⟩;refine⟨by split at h1<;>omega,fun g hg e'=>?_⟩;rcases List.mem_cons.mp hg with rfl | hg
        · split at h1<;>omega
        · exact h2 g hg e'
      · rintro⟨h1,h2⟩;have:=h2 f (by simp) e;exact⟨by split<;>omega,fun g hg e'=>h2 g (List.mem_cons_of_mem _ hg) e'⟩
    · rw[if_neg e];constructor
      · rintro⟨h1,h2⟩;refine⟨h1,fun g hg e'=>?_⟩;rcases List.mem_cons.mp hg with rfl | hg
        · exact absurd e' e
        · exact h2 g hg e'
      · rintro⟨h1,h2⟩;exact⟨h1,fun g hg e'=>h2 g (List.mem_cons_of_mem _ hg) e'⟩
theorem nZ{ts:List av}{fs:List bI}{hi y:Int}{k:Str}:y<=uS ts fs hi k↔y<=hi/\∀f∈fs,aj ts f.u=k->y<=f.hi:=by
  unfold uS
  induction fs generalizing hi with
  | nil=>simp
  | cons f fs ih=>
    rw[List.foldl_cons,ih]
    by_cases e:aj ts f.u=k
    · rw[if_pos e];unfold uR;constructor
      · rintro⟨h1,h2⟩;refine⟨by split at h1<;>omega,fun g hg e'=>?_⟩;rcases List.mem_cons.mp hg with rfl | hg
        · split at h1<;>omega
        · exact h2 g hg e'
      · rintro⟨h1,h2⟩;have:=h2 f (by simp) e;exact⟨by split<;>omega,fun g hg e'=>h2 g (List.mem_cons_of_mem _ hg) e'⟩
    · rw[if_neg e];constructor
      · rintro⟨h1,h2⟩;refine⟨h1,fun g hg e'=>?_⟩;rcases List.mem_cons.mp hg with rfl | hg
        · exact absurd e' e
        · exact h2 g hg e'
      · rintro⟨h1,h2⟩;exact⟨h1,fun g hg e'=>h2 g (List.mem_cons_of_mem _ hg) e'⟩
def iH(ts:List av)(lo:Int)(z:Fz)(k:Str)(m:IS):Prop:=nS (qO lo (dH ts z k)) m
def iN(ts:List av)(hi:Int)(z:Fz)(k:Str)(m:IS):Prop:=nU (qP hi (dH ts z k)) m
theorem IG{ts:List av}{fs:List bI}{af:List Addr}{k:Str}(hl:af.length=fs.length)(P:bI->Prop):(∀p∈dH ts (fs.zip af) k,P p.1)↔∀f∈fs,aj ts f.u=k->P f:=by
  unfold dH;constructor
  · intro h f hf e;obtain⟨b,hb⟩:=HX (bs:=af) hl f hf;exact h (f,b) (List.mem_filter.mpr ⟨hb,decide_eq_true e⟩)
  · intro h p hp;rw[List.mem_filter,decide_eq_true_iff] at hp;exact h p.1 (List.of_mem_zip (a:=p.1) (b:=p.2) hp.1).1 hp.2
theorem iH.low{ts:List av}{fs:List bI}{af:List Addr}{lo:Int}{k:Str}{m:IS}(hl:af.length=fs.length)(h:iH ts lo (fs.zip af) k m):m.1=gx ts fs lo k:=by
  have h1:=fun y=>Py h y
  have h2:=fun y=>(h1 y).trans ((and_congr_right fun _=>IG hl (fun f=>f.lo<=y)).trans lG.symm)
  have a:=(h2 m.1).mp (Int.le_refl _);have b:=(h2 (gx ts fs lo k)).mpr (Int.le_refl _);omega
theorem iN.high{ts:List av}{fs:List bI}{af:List Addr}{hi:Int}{k:Str}{m:IS}(hl:af.length=fs.length)(h:iN ts hi (fs.zip af) k m):m.1=uS ts fs hi k:=by
  have h1:=fun y=>Pz h y
  have h2:=fun y=>(h1 y).trans ((and_congr_right fun _=>IG hl (fun f=>y<=f.hi)).trans nZ.symm)
  have a:=(h2 m.1).mp (Int.le_refl _);have b:=(h2 (uS ts fs hi k)).mpr (Int.le_refl _);omega
section
variable{R:Rw}{F:Str->IS->Prop}{keys done:List Str}{v:Str->bZ}{u:Str}{c:bZ}
theorem iF.set(h:iF R F keys done v)(hu:u ∉ done)(low:∀k∈done,∀l b,(l,b)∈R k->l≠u)(up:Up R F u c)(gt:(v u).1<=c.1):iF R F keys done (fun z=>if z=u then c else v z):=by
  refine⟨fun k hk=>?_,fun k hk m hm=>?_,fun k hk l b hb=>?_⟩
  · by_cases e:k=u
    · rw[if_pos e,e];exact up
    · rw[if_neg e];exact h.is k hk
  · by_cases e:k=u
    · rw[if_pos e];have:=h.ge k hk m hm;rw[e] at this;omega
    · rw[if_neg e];exact h.ge k hk m hm
  · rw[if_neg (low k hk l b hb),if_neg (fun z=>hu (z▸hk):¬k=u)];exact h.le k hk l b hb
theorem iF.snoc(h:iF R F keys done v)(hz:∀l b,(l,b)∈R u->(v l).1+bT b.1<=(v u).1):iF R F keys (done++[u]) v:=
  ⟨h.is,h.ge,fun k hk l b hb=>by
    rcases ki hk with z | z
    · exact h.le k z l b hb
    · rw[z] at hb ⊢;exact hz l b hb⟩
theorem iG.set(h:iG R F keys done v)(hu:u ∉ done)(dn:Dn R F u c)(lt:c.1<=(v u).1):iG R F keys done (fun z=>if z=u then c else v z):=by
  refine⟨fun k hk=>?_,fun k hk m hm=>?_,fun k hk l b hb=>?_⟩
  · by_cases e:k=u
    · rw[if_pos e,e];exact dn
    · rw[if_neg e];exact h.is k hk
  · by_cases e:k=u
    · rw[if_pos e];have:=h.ge k hk m hm;rw[e] at this;omega
    · rw[if_neg e];exact h.ge k hk m hm
  · have h1:=h.le k hk l b hb;rw[if_neg (fun z=>hu (z▸hk):¬k=u)]
    by_cases e:l=u
    · rw[if_pos e];rw[e] at h1;omega
    · rw[if_neg e];exact h1
theorem iG.snoc(h:iG R F keys done v)(hz:∀l b,(l,b)∈R u->(v l).1<=(v u).1-bT b.1):iG R F keys (done++[u]) v:=
  ⟨h.is,h.ge,fun k hk l b hb=>by
    rcases ki hk with z | z
    · exact h.le k z l b hb
    · rw[z] at hb ⊢;exact hz l b hb⟩
end
theorem Bn.keep{H H':Hp}{pc pd:Addr}{ob:Obj}{kv:List (Key×V)}{keys:List Str}{ln:Ln}{ad:Str->Addr}{bs:Str->List Addr}(b:Bn H pd ob keys ln ad bs)(qa:H pc=some (.dK kv))(kp:∀b o,b≠pc->H b=some o->H' b=some o):Bn H' pd ob keys ln ad bs:=
  ⟨kp _ _ (jW b.d qa (by intro z;cases z)) b.d,fun k hk=>kp _ _ (jW (b.l k hk) qa (by intro z;cases z)) (b.l k hk),fun k hk=>Paired.cW (b.e k hk) fun _ _ h=>kp _ _ (jW h qa (by intro z;cases z)) h⟩
theorem II{ln:Ln}{keys os:List Str}(O:Ord ln keys os){i:Nat}{u:Str}(hu:os[i]? = some u):u ∉ os.take i/\(∀l r,(l,r)∈ln u->l≠u)/\∀k∈os.take i,∀l r,(l,r)∈ln k->l≠u:=by
  have hi:=eT hu;have fr:u ∉ os.take i:=by
    have:=mT O.nd i hi;rw[show os[i]=u from(List.getElem?_eq_some_iff.mp hu).2] at this;exact this
  refine⟨fr,fun l r h z=>fr (z▸O.low i u hu l r h),fun k hk l r h z=>?_⟩;obtain⟨j,hj⟩:=List.mem_iff_getElem?.mp hk;rw[List.getElem?_take] at hj;split at hj
  · have:=O.low j k hj l r h;rw[z] at this;exact fr ((List.take_prefix_take_left (Nat.le_of_lt (by assumption))).subset this)
  · cases hj
theorem Qv{ln:Ln}{keys os:List Str}(O:Ord ln keys os){i:Nat}{u:Str}(hu:os.reverse[i]? = some u):u ∉ os.reverse.take i/\∀l r,(l,r)∈ln u->l ∉ os.reverse.take i/\l≠u:=by
  have hi:=eT hu;rw[List.length_reverse] at hi;rw[List.getElem?_reverse hi] at hu;have lo:=II O hu;have DP:∀x∈os.take (os.length-1-i+1),x ∉ os.reverse.take i:=fun x hx hr=>by
    rw[List.take_reverse,List.mem_reverse] at hr;have e:os.length-1-i+1=os.length-i:=by omega
    rw[e] at hx;have nd:=O.nd;rw[←List.take_append_drop (os.length-i) os,List.nodup_append] at nd;exact nd.2.2 x hx x hr rfl
  have tk:os.take (os.length-1-i+1)=os.take (os.length-1-i)++[u]:=by rw[List.take_add_one,hu];rfl
  rw[tk] at DP;exact⟨DP u (by simp),fun l r h=>⟨DP l (List.mem_append_left _ (O.low _ u hu l r h)),lo.2.1 l r h⟩⟩
def Qw(R:Rw)(F G:Str->IS->Prop)(keys:List Str):Prop:=∀k∈keys,∀c m,Up R F k c->G k m->c.1<=m.1
def Qx(R:Rw)(F G:Str->IS->Prop)(keys:List Str)(c:bZ)(w:Str):Prop:=∃k m,k∈keys/\Up R F k c/\G k m/\m.2=w/\m.1<c.1/\∀k'∈keys,∀c' m',Up R F k' c'->G k' m'->c'.2.2.length<c.2.2.length->c'.1<=m'.1
def ym(H:Hp)(q:Addr)(c:bZ)(w:Str):Prop:=∃l,H q=some (.tup [.str c.2.1,.ref l,.str w])/\H l=some (.lst (c.2.2.map fun p=>V.ref p.2))
def jQ(lo hi:Int)(us:List Str)(ai:List Addr)(ts:List av)(af:List Addr)(fs:List bI):Prop:=Qw (bu ts (ts.zip ai)) (iH ts lo (fs.zip af)) (iN ts hi (fs.zip af)) (zn ts (au us))
def mZ(lo hi:Int)(us:List Str)(ai:List Addr)(ts:List av)(af:List Addr)(fs:List bI)(c:bZ)(w:Str):Prop:=Qx (bu ts (ts.zip ai)) (iH ts lo (fs.zip af)) (iN ts hi (fs.zip af)) (zn ts (au us)) c w
theorem IJ(x:IS):∀l:List IS,∃m,nS (x::l) m
  | []=>⟨x,by simp,fun q hq=>by rw[show q=x by simpa using hq];exact qN x⟩
  | y::l=>by
    obtain⟨m,h1,h2⟩:=IJ x l
    by_cases c:d7 y m=true
    · refine⟨y,by simp,fun q hq=>?_⟩;rcases List.mem_cons.mp hq with e | hq
      · rw[e];exact Dq (h2 x (by simp)) c
      · rcases List.mem_cons.mp hq with e | hq
        · rw[e];exact qN y
        · exact Dq (h2 q (List.mem_cons_of_mem _ hq)) c
    · refine⟨m,?_,fun q hq=>?_⟩
      · rcases List.mem_cons.mp h1 with e | h1
        · rw[e];simp
        · exact List.mem_cons_of_mem _ (List.mem_cons_of_mem _ h1)
      · rcases List.mem_cons.mp hq with e | hq
        · rw[e];exact h2 x (by simp)
        · rcases List.mem_cons.mp hq with e | hq
          · rw[e];simpa using c
          · exact h2 q (List.mem_cons_of_mem _ hq)
theorem IK(x:IS):∀l:List IS,∃m,nU (x::l) m
  | []=>⟨x,by simp,fun q hq=>by rw[show q=x by simpa using hq];exact qN x⟩
  | y::l=>by
    obtain⟨m,h1,h2⟩:=IK x l
    by_cases c:d7 m y=true
    · refine⟨y,by simp,fun q hq=>?_⟩;rcases List.mem_cons.mp hq with e | hq
      · rw[e];exact Dr (h2 x (by simp)) c
      · rcases List.mem_cons.mp hq with e | hq
        · rw[e];exact qN y
        · exact Dr (h2 q (List.mem_cons_of_mem _ hq)) c
    · refine⟨m,?_,fun q hq=>?_⟩
      · rcases List.mem_cons.mp h1 with e | h1
        · rw[e];simp
        · exact List.mem_cons_of_mem _ (List.mem_cons_of_mem _ h1)
      · rcases List.mem_cons.mp hq with e | hq
        · rw[e];exact h2 x (by simp)
        · rcases List.mem_cons.mp hq with e | hq
          · rw[e];simpa using c
          · exact h2 q (List.mem_cons_of_mem _ hq)
section
variable{lo hi:Int}{us:List Str}{ai:List Addr}{ts:List av}{af:List Addr}{fs:List bI}{f g:Str->Int}
theorem A1(hl:af.length=fs.length)(k:Str):∃m,iH ts lo (fs.zip af) k m/\m.1=gx ts fs lo k:=by
  obtain⟨m,h⟩:=IJ (lo,"") ((dH ts (fs.zip af) k).map fun p=>(p.1.lo,p.1.n));have h:iH ts lo (fs.zip af) k m:=h;exact⟨m,h,h.low hl⟩
theorem Qy(hl:af.length=fs.length)(k:Str):∃m,iN ts hi (fs.zip af) k m/\m.1=uS ts fs hi k:=by
  obtain⟨m,h⟩:=IK (hi,"") ((dH ts (fs.zip af) k).map fun p=>(p.1.hi,p.1.n));have h:iN ts hi (fs.zip af) k m:=h;exact⟨m,h,h.high hl⟩
theorem Qz(dW:∀t∈ts,t.a∈us/\t.b∈us)(hl:af.length=fs.length)(nr:cJ (aZ ts (ts.zip ai)) (zn ts (au us))){k:Str}(hk:k∈zn ts (au us)):fW (bu ts (ts.zip ai)) (iH ts lo (fs.zip af)) k (mC (sP ts (ts.zip ai)) (gx ts fs lo) (zn ts (au us)).length k):=
  Qp IF (qS dW) (by rw[←mY];exact nr) (fun k _=>A1 hl k) (fun k m m' h h'=>by rw[h.low hl,h'.low hl]) hk
theorem QA(dW:∀t∈ts,t.a∈us/\t.b∈us)(hl:af.length=fs.length)(nr:cJ (aZ ts (ts.zip ai)) (zn ts (au us))){k:Str}(hk:k∈zn ts (au us)):gJ (bu ts (ts.zip ai)) (iN ts hi (fs.zip af)) k (mX (sP ts (ts.zip ai)) (uS ts fs hi) (zn ts (au us)).length k):=
  Qq IF (qS dW) (by rw[←mY];exact nr) (fun k _=>Qy hl k) (fun k m m' h h'=>by rw[h.high hl,h'.high hl]) hk
theorem QB(dW:∀t∈ts,t.a∈us/\t.b∈us)(hf:∀k∈zn ts (au us),fW (bu ts (ts.zip ai)) (iH ts lo (fs.zip af)) k (f k))(hg:∀k∈zn ts (au us),gJ (bu ts (ts.zip ai)) (iN ts hi (fs.zip af)) k (g k))(no:jQ lo hi us ai ts af fs):∀k∈zn ts (au us),f k<=g k:=fun k hk=>by
  refine Int.not_lt.mp fun z=>?_
  obtain⟨k',dj,c,m,u,h,hl⟩:=(Qj (qS dW) hf hg).mp ⟨k,hk,z⟩;have:=no k' dj c m u h;omega
end
def qT(j:Int)(f:bI):bI:=⟨f.n,f.u,f.lo,if j=0 then f.hi else if j=1 then f.lo else f.lo+1⟩
theorem gF.DQ{K:PySem.W.Frag}{H:Hp}{p pm pu pt pf:Addr}{lo hi:Int}{us:List Str}{ts:List av}{fs:List bI}{ai af:List Addr}(h:gF K H p pm pu pt pf lo hi us ts fs ai af)(nd:us.Nodup)(ul:us.length<64)(tl:ts.length<=900)(ok:∀t∈ts,iM us t)(fu:∀f∈fs,f.u∈us)(fl:fs.length<=60):cU K H p pm pu pt pf lo hi us ai ts af fs:=
  ⟨⟨h.p,h.at'.u,h.at'.t,h.at'.tt,nd,ul,tl,ok⟩,h.at'.m,h.at'.f,h.at'.ft,fu,fl⟩
theorem IL{ln:Ln}{keys:List Str}(cl:∀k∈keys,∀l r,(l,r)∈ln k->l∈keys)(nr:cJ ln keys){x e:Str}(hx:x∈keys):∀(n m:Nat)(z:Str),keys.length-m<=n->eV ln x z->Rc ln z m e->∃w,yl ln keys (x,w)/\(w=e\/eV ln w e)
  | n,m,z,hn,hb,hr=>by
    have zk:z∈keys:=by obtain⟨j,_,h⟩:=hb;exact h.inKeys cl hx
    have sm:=A0 cl nr zk hr
    by_cases c:∃t,eV ln x t/\eV ln t z
    · obtain⟨t,h1,j,j1,h2⟩:=c;have tk:t∈keys:=by obtain⟨i,_,h⟩:=h1;exact h.inKeys cl hx
      have uU:=Io h2 hr;have WZ:=A0 cl nr tk uU
      match n,hn with
      | 0,hn=>omega
      | n+1,hn=>exact IL cl nr hx n (j+m) t (by omega) h1 uU
    · refine⟨z,⟨hx,?_,c⟩,?_⟩
      · obtain⟨l,r,hl,q⟩:=jx.mp hb;rcases q with rfl | q
        · exact⟨r,hl⟩
        · exact(c ⟨l,jx.mpr ⟨l,r,hl,.inl rfl⟩,q⟩).elim
      · cases m with
        | zero=>exact .inl hr.zero.symm
        | succ m=>exact .inr ⟨m+1,by omega,hr⟩
theorem QC{ln:Ln}{keys:List Str}(cl:∀k∈keys,∀l r,(l,r)∈ln k->l∈keys)(nr:cJ ln keys){x e:Str}(hx:x∈keys)(h:eV ln x e):∃w,yl ln keys (x,w)/\(w=e\/eV ln w e):=
  IL cl nr hx keys.length 0 e (by omega) h Rc.refl
theorem IM{ws:List Str}{c:Str}(h:ws[ws.length-1]? = some c):gC (ws.map V.str) (-1)=some (.str c):=by
  have hp:0<ws.length:=by have:=(List.getElem?_eq_some_iff.mp h).1;omega
  have e:(ws.map V.str)[if(0:Nat)=0 then(ws.map V.str).length-1 else 0-1]? = some (V.str c):=by rw[if_pos rfl,List.length_map,List.getElem?_map,h];rfl
  exact HL (i:=0) (by rw[List.length_map];exact hp) e
end Dm
namespace L2
open PySem PySem.Spec PyProof.Rows
end L2
namespace Dm
open PySem PySem.NumText L2
theorem QD{ts:List av}{fs:List bI}{lo:Int}{k:Str}{f:bI}:gx ts (fs++[f]) lo k=if aj ts f.u=k then mz (gx ts fs lo k) f.lo else gx ts fs lo k:=by
  unfold gx;rw[List.foldl_append];rfl
structure Dt(R:Rw)(keys:List Str)(f g h:Str->Int)(one:Str)(y:Int):Prop where
  bd:∀k∈keys,f k<=h k/\h k<=g k
  at_:h one=y
  ln:∀k l b,(l,b)∈R k->h l+bT b.1<=h k
theorem nD{R:Rw}{F F' G:Str->IS->Prop}{keys:List Str}{f g h:Str->Int}{one:Str}{y:Int}{lw:Str->Int}(cl:∀k l b,(l,b)∈R k->k∈keys/\l∈keys)(nr:cJ (jP R) keys)(ho:one∈keys)(hf:∀k∈keys,fW R F k (f k))(hg:∀k∈keys,gJ R G k (g k))(hh:∀k∈keys,fW R F' k (h k))(le:∀k∈keys,f k<=g k)(hy:f one<=y/\y<=g one)
    (hF:∀k,∃m,F k m/\m.1=lw k) (QE:∀k m,F k m->m.1=lw k) (QF:∀k,∃m,F' k m/\m.1=if one=k then mz (lw k) y else lw k) (yo:∀k m,F' k m->m.1=if one=k then mz (lw k) y else lw k):Dt R keys f g h one y:=by
  have IP:∀k∈keys,lw k<=f k:=fun k hk=>by
    obtain⟨m,h1,h2⟩:=hF k;have:m.1<=f k:=(hf k hk).2 _ (Up.bare h1);omega
  have IQ:∀k∈keys,lw k<=h k/\(one=k->y<=h k):=fun k hk=>by
    obtain⟨m,h1,h2⟩:=QF k;have h3:m.1<=h k:=(hh k hk).2 _ (Up.bare h1);unfold mz at h2;refine⟨?_,fun e=>?_⟩
    · split at h2
      · split at h2<;>omega
      · omega
    · rw[if_pos e] at h2;split at h2<;>omega
  have IT:∀k l b,(l,b)∈R k->h l+bT b.1<=h k:=fun k l b hb=>by
    obtain⟨⟨c,u,e⟩,_⟩:=hh l (cl _ _ _ hb).2;have:c.1+bT b.1<=h k:=(hh k (cl _ _ _ hb).1).2 _ (u.up hb);omega
  have QG:∀k l b,(l,b)∈R k->f l+bT b.1<=f k:=fun k l b hb=>by
    obtain⟨⟨c,u,e⟩,_⟩:=hf l (cl _ _ _ hb).2;have:c.1+bT b.1<=f k:=(hf k (cl _ _ _ hb).1).2 _ (u.up hb);omega
  have QH:∀k l b,(l,b)∈R k->g l+bT b.1<=g k:=fun k l b hb=>by
    obtain⟨⟨c,u,e⟩,_⟩:=hg k (cl _ _ _ hb).1;have:g l<=c.1-bT b.1:=(hg l (cl _ _ _ hb).2).2 _ (u.dn hb);omega
  refine⟨fun k hk=>⟨?_,?_⟩,?_,IT⟩
  · obtain⟨⟨c,u,e⟩,_⟩:=hf k hk;rw[←e];exact DJ (f:=h) (keys:=keys) (fun k m hm hk=>by rw[QE k m hm];exact(IQ k hk).1) cl IT hk u
  · obtain⟨⟨c,u,e⟩,_⟩:=hh k hk;rw[←e];refine DJ (f:=g) (keys:=keys) (fun k m hm hk=>?_) cl QH hk u;have h1:=yo k m hm;have h2:=IP k hk;have h3:=le k hk
    by_cases e:one=k
    · rw[if_pos e] at h1;unfold mz at h1;subst e;split at h1<;>omega
    · rw[if_neg e] at h1;omega
  · have ge:=(IQ one ho).2 rfl;obtain⟨⟨c,u,e⟩,_⟩:=hh one ho;have main:∀{k:Str}{c:bZ},Up R F' k c->k∈keys->c.1<=f k\/(k=one/\c.1<=y)\/∃n,1<=n/\Rc (jP R) k n one:=by
      intro k c u
      induction u with
      | @bare k m hm=>
        intro hk;have h1:=yo k m hm;have h2:=IP k hk
        by_cases e:one=k
        · rw[if_pos e] at h1;unfold mz at h1;refine .inr (.inl ⟨e.symm,?_⟩);subst e;show m.1<=y;split at h1<;>omega
        · rw[if_neg e] at h1;exact .inl (by show m.1<=f k;omega)
      | @up k l c b u hb ih=>
        intro hk;rcases ih (cl _ _ _ hb).2 with q | ⟨q,_⟩ | ⟨n,hn,q⟩
        · have:=QG k l b hb;exact .inl (by show c.1+bT b.1<=f k;omega)
        · subst q;exact .inr (.inr ⟨1,Nat.le_refl _,Rc.cons (qR hb) Rc.refl⟩)
        · exact .inr (.inr ⟨n+1,by omega,Rc.cons (qR hb) q⟩)
    rcases main u ho with q | ⟨_,q⟩ | ⟨n,hn,q⟩
    · omega
    · omega
    · exact absurd q (nr one ho n hn)
theorem IU(x:Str)(ks:List Str):uC (.str x) (ks.map V.str)=decide (x∈ks):=by
  unfold uC
  induction ks with
  | nil=>rfl
  | cons k r ih=>
    rw[List.map_cons,List.any_cons,ih];show((k == x)||decide (x∈r))=_
    by_cases h:k=x
    · subst h;simp
    · rw[beq_eq_false_iff_ne.mpr h,Bool.false_or];exact decide_eq_decide.mpr ⟨fun z=>List.mem_cons_of_mem _ z,fun z=>(List.mem_cons.mp z).resolve_left fun e=>h e.symm⟩
end Dm
namespace L2
open PySem PySem.Spec PyProof.Rows
structure b8(bm:List Value):Prop where
  v:bm.contains (.type "ValueError")=true
  b:bm.contains (.type "BaseException")=true
  a:bm.contains (.type "AttributeError")=false
  n:bm.contains (.type "NameError")=false
def gU(h:Heap)(C:Addr)(bm:List Value):Prop:=∃nm q N bs sX sn sub ab col dd k0 k1 k2 k3 k5,h.get? C=some (excClassObj nm q C N bs bm sX sn sub ab col dd k0 k1 k2 k3 k5 "ValueError.__new__")
theorem yp{C:Addr}{bm:List Value}{T:String}{b:Bool}(h:bm.contains (.type T)=b):(Value.ref C::bm).contains (.type T)=b:=by
  rw[List.contains_cons,h];rfl
section
variable{prog:Program}{w:World}{A:Around}{h:Heap}{g:Array GenState}{d:Drawn}{t:Nat}{os:OsState}{C:Addr}{bm:List Value}
theorem QI{R:Result->Shared->Prop}(U:b8 bm)(x:gU h C bm){us:List Value}(hz:us.length<=sizeLine)
    (k:R (.ok (.ret (.ref (h.objs.size+1)))) { heap:=(h.push { cls:=.type "tuple",data:=.seq us.toArray }).push { cls:=.ref C,data:=.fields #[.ref h.objs.size,.none,.none,.none,.bool false,.none] },gens:=g,drawn:=d,toks:=t,os:=os }) :
    codeAny (model prog w) A (.builtin "ValueError.__new__" ⟨.ref C::us,[]⟩) R { heap:=h,gens:=g,drawn:=d,toks:=t,os:=os }:=by
  obtain⟨a1,a2,a3,a4,a5,a6,a7,a8,a9,b1,b2,b3,b4,b5,b6,e⟩:=x;have F:=PySem.F.excBase_ValueError;have f1:=F.ends;have c1:=yp (C:=C) U.v;have c2:=yp (C:=C) U.a;have c3:=yp (C:=C) U.n;refine codeAny_builtinAt F.entry ?_;unfold Builtin.«BaseException.__new__»;refine PySem.wpAt_bind (show PySem.wpAt (model prog w) _ _ (stack >>= _) _ _ _ from PySem.wpAt_bind (PySem.wpAt_stack fun p below=>PySem.wpAt_of_wpAny ?_))
  wp_walk
  refine PySem.wpAt_of_wpAny ?_;rw[F.owner]
  repeat (first
    | with_reducible refine wpAny_madeHere_exc F.canon e ?_
    | with_reducible refine wpAny_loadPart_at e ?_
    | (with_reducible refine wpAny_isSubtype_exc e ?_
       first | rw[c1] | rw[c2] | rw[c3])
    | wp_step)
  show R _ _;rw[Heap.size_push];exact k
theorem QJ{M:Model}{E:Value->Shared->Prop}(U:b8 bm)(x:gU h C bm){us:List Value}{Q:Unit->Shared->Prop}(k:Q () { heap:=h,gens:=g,drawn:=d,toks:=t,os:=os }) :
    wpAny M A (checkBuiltinCall "ValueError.__new__" ⟨.ref C::us,[]⟩) Q E { heap:=h,gens:=g,drawn:=d,toks:=t,os:=os }:=by
  obtain⟨a1,a2,a3,a4,a5,a6,a7,a8,a9,b1,b2,b3,b4,b5,b6,e⟩:=x;exact wpAny_check_new_subU PySem.F.excBase_ValueError U.v .base e k
theorem QK{E:Value->Shared->Prop}{vI:Value}{us:List Value}{Q:Fin->Shared->Prop}(U:b8 bm)(x:gU h C bm)(hz:us.length<=sizeLine)
    (lk:PySem.W.Looks (model prog w) h (typeLookup (.ref C) "__init__") (some (vI))) (bd:∀self,PySem.W.Looks (model prog w) h (bindSpecial (vI) self) (vI,[self]))
    (k:∀h' e,h.objs.size<=e->Heap.MadeExcOf h h' e (.ref C) us->wpAny (model prog w) A (call (vI) (.ref e::us)) (fun r s'=>r = .none/\Q (.done (.ret (.ref e))) s') E { heap:=h',gens:=g,drawn:=d,toks:=t,os:=os }) :
    wpAny (model prog w) A (Builtin.«type.__call__» ⟨.ref C::us,[]⟩) Q E { heap:=h,gens:=g,drawn:=d,toks:=t,os:=os }:=by
  have x':=x;obtain⟨a1,a2,a3,a4,a5,a6,a7,a8,a9,b1,b2,b3,b4,b5,b6,e⟩:=x';have F:=PySem.F.excBase_ValueError
  repeat (first | with_reducible refine wpAny_loadPart_at e ?_ | with_reducible refine wpAny_madeBy_exc e ?_ | wp_step)
  refine codeAny_call_builtin_code (Code.quiet_builtin _ F.quiet) (QJ U x ?_);refine QI U x hz ?_;show wpAny (model prog w) _ _ _ _ _;have kp:∀b o,h.get? b=some o->((h.push { cls:=.type "tuple",data:=.seq us.toArray }).push { cls:=.ref C,data:=.fields #[.ref h.objs.size,.none,.none,.none,.bool false,.none] }).get? b=some o:=
    fun b o q=>Heap.get?_push_of_some _ (Heap.get?_push_of_some _ q)
  have sY:((h.push { cls:=.type "tuple",data:=.seq us.toArray }).push { cls:=.ref C,data:=.fields #[.ref h.objs.size,.none,.none,.none,.bool false,.none] }).get? (h.objs.size+1) =
      some { cls:=.ref C,data:=.fields #[.ref h.objs.size,.none,.none,.none,.bool false,.none] }:=by heap_get
  have ht:((h.push { cls:=.type "tuple",data:=.seq us.toArray }).push { cls:=.ref C,data:=.fields #[.ref h.objs.size,.none,.none,.none,.bool false,.none] }).get? h.objs.size =
      some { cls:=.type "tuple",data:=.seq us.toArray }:=Heap.get?_push_of_some _ (Heap.get?_push_at rfl rfl)
  have made:Heap.MadeExcOf h ((h.push { cls:=.type "tuple",data:=.seq us.toArray }).push { cls:=.ref C,data:=.fields #[.ref h.objs.size,.none,.none,.none,.bool false,.none] }) (h.objs.size+1) (.ref C) us:=
    ⟨kp,Heap.get?_none_of_le (Nat.le_succ _),h.objs.size,sY,Heap.get?_none_of_le (Nat.le_refl _),ht⟩
  have go:=k _ _ (Nat.le_succ _) made;have e1:=kp _ _ e;have IV:=lk.keeps kp;have IW:=fun self=>(bd self).keeps kp
  generalize (h.push { cls:=.type "tuple",data:=.seq us.toArray }).push { cls:=.ref C,data:=.fields #[.ref h.objs.size,.none,.none,.none,.bool false,.none] } = h1 at sY go e1 IV IW;have cC:(Value.ref C::bm).contains (.ref C)=true:=by simp
  unfold isInstance
  repeat (first | with_reducible refine wpAny_loadPart_at sY ?_ | (with_reducible refine wpAny_isSubtype_exc e1 ?_;rw[cC]) | wp_step)
  show wpAny (model prog w) _ (typeLookup (.ref C) _) _ _ _;refine IV.at (wpAny_holding (wpAny_bind ((IW _).at ?_)));refine wpAny_bind (wpAny_mono go (fun r s' hr=>?_) fun _ _ z=>z);obtain⟨rfl,q⟩:=hr
  wp_walk
  exact q
theorem IX{E:Value->Shared->Prop}{vI:Value}{us:List Value}{Q:Value->Shared->Prop}(U:b8 bm)(x:gU h C bm)(hz:us.length<=sizeLine)
    (lk:PySem.W.Looks (model prog w) h (typeLookup (.ref C) "__init__") (some (vI))) (bd:∀self,PySem.W.Looks (model prog w) h (bindSpecial (vI) self) (vI,[self]))
    (k:∀h' e,h.objs.size<=e->Heap.MadeExcOf h h' e (.ref C) us->wpAny (model prog w) (A.under (.builtin "type.__call__" ⟨.ref C::us,[]⟩)) (call (vI) (.ref e::us)) (fun r s'=>r = .none/\Q (.ref e) s') E { heap:=h',gens:=g,drawn:=d,toks:=t,os:=os }) :
    wpAny (model prog w) A (call (.ref C) us) Q E { heap:=h,gens:=g,drawn:=d,toks:=t,os:=os }:=by
  have x':=x;obtain⟨a1,a2,a3,a4,a5,a6,a7,a8,a9,b1,b2,b3,b4,b5,b6,e⟩:=x';have f1:=tc_lookup;have f2:=tc_bind (.ref C);have hT:({ heap:=h,gens:=g,drawn:=d,toks:=t,os:=os }:Shared).TypeIs (.ref C) "type":=⟨_,e,rfl⟩;refine wpAny_call (codeAny_of_tree (show wpAny (model prog w) _ (callAny (.ref C) _) _ _ _ from ?_))
  repeat (any_goals (first | assumption | with_reducible refine wpAny_loadPart_at e ?_ | wp_step))
  refine⟨rfl,codeAny_call_builtin_at (Code.quiet_builtin _ (by decide +kernel)) entry_typeCall (wpAny_check_type_call_sub e (QK U x hz lk bd fun h' e' hs hm=>?_))⟩;exact k h' e' hs hm
end
section
variable{prog:Program}{w:World}{A:Around}{E:Value->Shared->Prop}{s:Shared}{env:Env}{bm:List Value}
theorem IY{y:Sem Value}{Q:Flow->Shared->Prop}(U:b8 bm)(hh:A.handled=none)
    (k:wpAny (model prog w) A y (fun v s1=>∃e C oe vs,v = .ref e/\gU s1.heap C bm/\s1.heap.get? e=some oe/\oe.cls = .ref C/\oe.data = .fields vs/\vs[1]? = some .none/\E (.ref e) s1) E s) :
    wpAny (model prog w) A (raiseStmt env (some y) none) Q E s:=by
  unfold raiseStmt;refine wpAny_bind (wpAny_mono k (fun v s1 k1=>?_) fun _ _ z=>z);obtain⟨e,C,oe,vs,rfl,⟨a1,a2,a3,a4,a5,a6,a7,a8,a9,b1,b2,b3,b4,b5,b6,o⟩,he,hc,hd,h1,hE⟩:=k1;have cB:=yp (C:=C) U.b;obtain⟨hp,g,d,tk,os⟩:=s1
  repeat (first
    | (with_reducible refine wpAny_loadPart_at he ?_;rw[hc])
    | with_reducible refine wpAny_loadPart_at o ?_
    | (with_reducible refine wpAny_isSubtype_exc o ?_;rw[cB])
    | wp_step)
  rw[hd];refine wpAny_pure ?_;rw[h1];refine wpAny_pure ?_;rw[if_neg (by decide)];exact wpAny_pure (wpAny_raiseNew_none hh hE)
theorem QL{x:Str}{C:Addr}{vI:Value}{np aS pos:Pos}{a:PySem.Expr}{as:List PySem.Expr}{Q:Flow->Shared->Prop}(U:b8 bm)(hh:A.handled=none)
    (lS:starEach (a::as) env=(false,eval a env)::starEach as env) (gB:(backTo aS (starEach as env)).any (·.1)=false)
    (k:wpAny (model prog w) A (eval (.Name x np) env) (fun f s1=>f = .ref C/\wpAny (model prog w) A (spliced (backTo aS (starEach (a::as) env)))
      (fun us s2=>us.length<=sizeLine/\gU s2.heap C bm/\PySem.W.Looks (model prog w) s2.heap (typeLookup (.ref C) "__init__") (some (vI))/\(∀self,PySem.W.Looks (model prog w) s2.heap (bindSpecial (vI) self) (vI,[self]))/\
        ∀h' e,s2.heap.objs.size<=e->Heap.MadeExcOf s2.heap h' e (.ref C) us->wpAny (model prog w) (A.under (.builtin "type.__call__" ⟨.ref C::us,[]⟩)) (call (vI) (.ref e::us))
          (fun r s3=>r = .none/\∃oe vs,gU s3.heap C bm/\s3.heap.get? e=some oe/\oe.cls = .ref C/\oe.data = .fields vs/\vs[1]? = some .none/\E (.ref e) s3) E { s2 with heap:=h' }) E s1) E s) :
    wpAny (model prog w) A (exec (.Raise (some (.Call (.Name x np) (a::as) [] aS)) none pos) env) Q E s:=by
  rw[arm_exec_Raise];simp only[evalOpt,Option.map];refine wpAny_bind (wpAny_standAt (IY U hh (wpAny_bind (wpAny_mono (wpAny_Call_ofName (wpAny_mono k (fun f s1 k1=>?_) fun _ _ z=>z)) (fun v s3 k3=>wpAny_bind (wpAny_standAt (wpAny_pure k3))) fun _ _ z=>z))));obtain⟨rfl,k1⟩:=k1;unfold callWith;have any:(backTo aS (starEach (a::as) env)).any (·.1)=false:=by
    rw[lS];show(false||(backTo aS (starEach as env)).any (·.1))=false;rw[gB];rfl
  rw[lS] at k1 ⊢;refine wpAny_bind (wpAny_holding (Calls.evalArgs_plain (wpAny_mono k1 (fun us s2 k2=>wpAny_bind (wpAny_standAt ?_)) fun _ _ z=>z)));obtain⟨hz,xo,lk,bd,go⟩:=k2;obtain⟨hp,g,d,tk,os⟩:=s2;rw[lS] at any;simp only[any];have DR:=xo;obtain⟨a1,a2,a3,a4,a5,a6,a7,a8,a9,b1,b2,b3,b4,b5,b6,o⟩:=DR;refine wpAny_bind (wpAny_keeperOf_exc o ?_);refine wpAny_bind (IX U xo hz lk bd fun h' e hs hm=>wpAny_mono (go h' e hs hm) (fun r s3 q=>?_) fun _ _ z=>z);obtain⟨r0,oe,vs,q⟩:=q;exact⟨r0,wpAny_bind (wpAny_holding (wpAny_point (wpAny_pure ⟨e,C,oe,vs,rfl,q⟩)))⟩
end
theorem IZ{o:Obj}{vs:Array Value}(h:o.data = .fields vs)(f:Array Value->Array Value):Obj.mapFields f o = { o with data:=.fields (f vs) }:=by
  obtain⟨c,d,dt,sl⟩:=o;cases h;rfl
structure n8(fs:List Addr)(e T:Addr)(xs:List Addr)(oe:Obj)(vs:Array Value)(h h':Heap):Prop where
  keep:∀b o,b≠e->b ∉ fs->b ∉ xs->h.get? b=some o->h'.get? b=some o
  slot:∀b o,b∈fs->h.get? b=some o->∃sl,h'.get? b=some { o with slots:=sl }
  new:h.get? T=none
  exc:h'.get? e=some { oe with data:=.fields (vs.setIfInBounds 1 (.ref T)) }
  ent:∃oT ts,h'.get? T=some oT/\oT.data = .fields ts/\ts[3]? = some .none
section
variable{M:Model}{A:Around}{E:Value->Shared->Prop}{s:Shared}
theorem dX{base:Heap}{env:Env}{outer:List Env}{L e:Addr}{oe:Obj}{vs:Array Value}{head:Value}{nx:Bool}{Q:Unit->Shared->Prop}
    (eZ:A.frames=some (env::outer)) (hl:s.heap.FunFrames base (env::outer)) (hf:env.frame=some L) (he:s.heap.get? e=some oe) (hd:oe.data = .fields vs) (hz:1<vs.size)
    (k:∀h',n8 (fH (env::outer)) e s.heap.objs.size [] oe vs s.heap h'->Q () { s with heap:=h' }) :
    wpAny M A (do let a ←frameOf env;let pl ←entryPlaceOf L nx;let b ←EntryCells.newEntry head a .none (rawInt L) .none pl;setField (.ref e) 1 b) (fun _ s'=>wpAny M A (setFlight (.ref e) none) Q E s') E s:=by
  have nf:∀b∈fH (env::outer),∃o,s.heap.get? b=some o/\∀us,o.data≠.fields us:=fun b hb=>(hl.mem hb).2
  have ne:e ∉ fH (env::outer):=fun hm=>by
    obtain⟨o,ho,hn⟩:=nf e hm;rw[he] at ho;cases ho;exact hn vs hd
  refine wpAny_bind (wpAny_frameOf_fun eZ hl hf fun h1 s1=>?_);obtain⟨z1,k1,u1⟩:=s1;refine wpAny_bind (wpAny_entryPlaceOf fun pl gB=>?_);unfold EntryCells.newEntry newFields;refine wpAny_bind (wpAny_newObj_type ?_ (gB.sizeOk5 _ _ _ _ _));have e1:h1.get? e=some oe:=(k1 e ne).trans he;generalize hN:({ cls:=.type "traceback",dict:=none,data:=.fields ([head,.ref L,.none,rawInt L,.none]++(if pl.isEmpty then List.replicate 6 Value.none else pl)).toArray }:Obj)=N;have dN:N.data = .fields ([head,.ref L,.none,rawInt L,.none]++(if pl.isEmpty then List.replicate 6 Value.none else pl)).toArray:=by rw[←hN]
  generalize dW:([head,.ref L,.none,rawInt L,.none]++(if pl.isEmpty then List.replicate 6 Value.none else pl)).toArray=ts at dN;have zt:3<ts.size:=by rw[←dW];simp
  have fN:N.isFreed=false:=Obj.isFreed_of_fields dN;have e2:=Heap.get?_push_of_some (h:=h1) N e1;refine wpAny_setField e2 hd hz ?_;have Te:h1.objs.size≠e:=Nat.ne_of_gt (Heap.lt_size e1);have e3:=Heap.get?_update_self (Obj.mapFields (·.setIfInBounds 1 (Value.ref h1.objs.size))) e2 (Obj.isFreed_of_fields (Obj.data_mapFields hd _));rw[IZ hd] at e3;have t3:=(Heap.get?_update_other (h1.push N) (Obj.mapFields (·.setIfInBounds 1 (Value.ref h1.objs.size))) (Ne.symm Te)).trans (Heap.get?_push_size h1 fN);unfold setFlight;refine wpAny_bind (wpAny_field e3 rfl (x:=.ref h1.objs.size) (by simp[hz]) ?_);rw[if_pos (show(Value.ref h1.objs.size != Value.none)=true from by simp)];refine wpAny_setField t3 dN zt (k _ ?_);have t4:=Heap.get?_update_self (Obj.mapFields (·.setIfInBounds 3 ((none:Option Addr).elim Value.none fun f=>rawInt f))) t3 (Obj.isFreed_of_fields (Obj.data_mapFields dN _));have iX:∀b o,b≠e->h1.get? b=some o->(((h1.push N).update e (Obj.mapFields (·.setIfInBounds 1 (Value.ref h1.objs.size)))).update h1.objs.size (Obj.mapFields (·.setIfInBounds 3 ((none:Option Addr).elim Value.none fun f=>rawInt f)))).get? b=some o:=fun b o hb q=>by
    rw[Heap.get?_update_other _ _ (Nat.ne_of_gt (Heap.lt_size q)),Heap.get?_update_other _ _ (Ne.symm hb)];exact Heap.get?_push_of_some _ q
  refine⟨fun b o hb hn _ q=>iX b o hb ((k1 b hn).trans q),fun b o hb q=>?_,Heap.get?_none_of_le (Nat.le_refl _),?_,?_⟩
  · obtain⟨sl,q1⟩:=u1 b o q;exact⟨sl,iX b _ (fun z=>ne (z▸hb)) q1⟩
  · rw[Heap.get?_update_other _ _ Te,e3,z1]
  · rw[←z1];exact⟨_,_,t4,Obj.data_mapFields dN _,by simp[zt]⟩
theorem QM{base:Heap}{env:Env}{outer:List Env}{L e:Addr}{oe:Obj}{vs:Array Value}{Q:Unit->Shared->Prop}
    (eZ:A.frames=some (env::outer)) (hl:s.heap.FunFrames base (env::outer)) (hf:env.frame=some L) (he:s.heap.get? e=some oe) (hd:oe.data = .fields vs) (h1:vs[1]? = some .none)
    (k:∀h',n8 (fH (env::outer)) e s.heap.objs.size [] oe vs s.heap h'->Q () { s with heap:=h' }):wpAny M A (leaving env (.ref e)) Q E s:=by
  unfold leaving noteFrame;simp only[hf];refine wpAny_bind (wpAny_bind (wpAny_field he hd h1 ?_));rw[if_neg (by decide)];exact dX eZ hl hf he hd (Array.getElem?_eq_some_iff.mp h1).1 k
theorem QN{base:Heap}{env:Env}{outer:List Env}{L e T:Addr}{oe oT:Obj}{vs ts:Array Value}{Q:Unit->Shared->Prop}
    (eZ:A.frames=some (env::outer)) (hl:s.heap.FunFrames base (env::outer)) (hf:env.frame=some L) (he:s.heap.get? e=some oe) (hd:oe.data = .fields vs) (h1:vs[1]? = some (.ref T))
    (hT:s.heap.get? T=some oT) (dT:oT.data = .fields ts) (h3:ts[3]? = some .none) (ne:T≠e)
    (k:∀h',n8 (fH (env::outer)) e s.heap.objs.size [T] oe vs s.heap h'->Q () { s with heap:=h' }):wpAny M A (leaving env (.ref e)) Q E s:=by
  unfold leaving noteFrame;simp only[hf];refine wpAny_bind (wpAny_bind (wpAny_field he hd h1 ?_));rw[if_pos (show(Value.ref T != Value.none)=true from by simp)];refine wpAny_bind (wpAny_field hT dT h3 ?_);rw[if_neg (show ¬((Value.none == rawInt L)=true) from by simp[rawInt])];have z3:=(Array.getElem?_eq_some_iff.mp h3).1;refine wpAny_bind (wpAny_setField hT dT z3 ?_);have iX:∀b,b≠T->(s.heap.update T (Obj.mapFields (·.setIfInBounds 3 Value.none))).get? b=s.heap.get? b:=fun b hb=>Heap.get?_update_other _ _ (Ne.symm hb)
  have self:=Heap.get?_update_self (Obj.mapFields (·.setIfInBounds 3 Value.none)) hT (Obj.isFreed_of_fields (Obj.data_mapFields dT _));have nf:T ∉ fH (env::outer):=fun hm=>by
    obtain⟨_,o,ho,hn⟩:=hl.mem hm;rw[hT] at ho;cases ho;exact hn ts dT
  have sz:(s.heap.update T (Obj.mapFields (·.setIfInBounds 3 Value.none))).objs.size=s.heap.objs.size:=Heap.size_after_update ..;refine dX (s:={ s with heap:=s.heap.update T (Obj.mapFields (·.setIfInBounds 3 Value.none)) }) eZ (hl.of_keeps fun b o hb hn=>⟨o,(iX b fun z=>?_).trans hb,rfl⟩) hf ((iX e ne.symm).trans he) hd (Array.getElem?_eq_some_iff.mp h1).1 fun h' G=>?_
  · subst z;rw[hT] at hb;cases hb;exact hn ts dT
  · have e1:(s.heap.update T (Obj.mapFields (·.setIfInBounds 3 Value.none))).objs.size=s.heap.objs.size:=sz;have G:=G;dsimp only at G;rw[e1] at G;refine k h' ⟨fun b o hb hn hx q=>G.keep b o hb hn (by simp) ((iX b fun z=>hx (by simp[z])).trans q),fun b o hb q=>G.slot b o hb ((iX b fun z=>nf (z▸hb)).trans q),Heap.get?_none_of_le (Nat.le_refl _),G.exc,G.ent⟩
end
def I0(H:Hp)(h0 h:Heap)(e:Addr)(cls:Value)(dc:Option Addr):Prop:=
  ∃(oe:Obj)(vs:Array Value)(T:Addr)(oT:Obj)(ts:Array Value),h.get? e=some oe/\oe.cls=cls/\oe.dict=dc/\oe.data = .fields vs/\vs[1]? = some (.ref T)/\T≠e/\h.get? T=some oT/\oT.data = .fields ts/\ts[3]? = some .none/\
    H e=none/\H T=none/\h0.objs.size<=e/\h0.objs.size<=T
def QO(H:Hp)(h0 h:Heap)(e:Addr)(cls:Value)(dc:Option Addr):Prop:=
  ∃(oe:Obj)(vs:Array Value),h.get? e=some oe/\oe.cls=cls/\oe.dict=dc/\oe.data = .fields vs/\vs[1]? = some .none/\H e=none/\h0.objs.size<=e
def qb(P:Program)(w:World):ku:=fun outer H s E u s'=>∃(e:Addr)(cls:Value)(dc:Option Addr)(H':Hp),u = .ref e/\s'.os=s.os/\AllBare s'.gens/\Un (fH outer) [] H H' s.heap s'.heap/\fU P w H' s'.heap/\
  I0 H' s.heap s'.heap e cls dc/\E cls dc H'
def iI(X:Cx)(E:XK):Prop:=X.xe=(fun u s'=>wpAny (model X.prog X.w) X.A (leaving X.env u) (fun _ oN=>qb X.prog X.w X.outer X.jG X.bF E u oN) (fun u' oN=>qb X.prog X.w X.outer X.jG X.bF E u' oN) s')/\
  X.stack=X.env::X.outer/\X.env.frame=some X.env.locals/\X.ex = []
theorem aA{P:Program}{w:World}{K:PySem.W.Frag}{mg:Str->Option Value}{base:Heap}{N:List Str}{qual:Str}{scope:Scope}{f:Addr}{cd:Value}{A:Around}{outer:List Env}{s:Shared}{H:Hp}{E:XK} :
    iI (iS (qb P w) P w K mg base N qual scope f cd A outer s H E) E:=⟨rfl,rfl,rfl,rfl⟩
section
variable{X:Cx}{pins:List (Addr×Obj)}{σ:St}{H:Hp}{s:Shared}{E:XK}{e:Addr}{cls:Value}{dc:Option Addr}
theorem Ja{h':Heap}{T:Addr}{xs:List Addr}{oe:Obj}{vs:Array Value}(I:Inv X pins σ H s)(x:iI X E)(G:n8 (fH (X.env::X.outer)) e T xs oe vs s.heap h')(hc:oe.cls=cls)(m7:oe.dict=dc)(hz:1<vs.size)
    (He:H e=none) (nz:X.bF.heap.objs.size<=e) (Jb:∀b∈xs,H b=none/\X.bF.heap.objs.size<=b) (o4:T≠e) (hsz:s.heap.objs.size<=T) (hE:E cls dc H) :
    qb X.prog X.w X.outer X.jG X.bF E (.ref e) { s with heap:=h' }:=by
  obtain⟨x1,x2,x3,x4⟩:=x;have ne:X.bF.heap.get? e=none:=Heap.get?_none_of_le nz;have hx:∀b∈xs,H b=none/\X.bF.heap.get? b=none:=fun b hb=>⟨(Jb b hb).1,Heap.get?_none_of_le (Jb b hb).2⟩
  have nL:∀b o,X.bF.heap.get? b=some o->b≠X.env.locals:=fun b o q z=>absurd (Heap.lt_size q) (Nat.not_lt.mpr (z▸I.ok.above))
  have fr:∀b,b∈fH (X.env::X.outer)->b=X.env.locals\/b∈fH X.outer:=fun b hb=>by
    unfold fH at hb;rw[List.filterMap_cons,x3] at hb;exact List.mem_cons.mp hb
  have QS:∀b,b∈fH X.outer->b∈fH (X.env::X.outer):=fun b hb=>by
    unfold fH;rw[List.filterMap_cons,x3];exact List.mem_cons_of_mem _ hb
  have qc:∀b o,X.bF.heap.get? b=some o->b≠e/\b ∉ xs:=fun b o q=>⟨fun z=>(by rw[z,ne] at q;cases q),fun z=>(by rw[(hx b z).2] at q;cases q)⟩
  have HT:H T=none:=I.aI.fresh hsz;have sf:∀b∈fH (X.env::X.outer),H b=none:=by
    have:=I.gY;rw[x2] at this;exact this
  refine⟨e,cls,dc,H,rfl,I.os,I.bare,?_,?_,?_,hE⟩
  · refine⟨fun b o q n nf _=>?_,fun b o q n nf _=>?_,fun b o q n _=>I.base.free b o q n (by rw[x4];simp),fun b o q _=>?_,I.base.gO,I.base.gD,I.base.gP⟩
    · exact G.keep b o (qc b o q).1 (fun z=>(fr b z).elim (nL b o q) nf) (qc b o q).2 (I.base.keep b o q n nf (by rw[x4];simp))
    · obtain⟨sl,z⟩:=I.base.slot b o q n nf (by rw[x4];simp);obtain⟨rE,z'⟩:=G.slot b _ (QS b nf) z;exact⟨rE,z'⟩
    · obtain⟨o',z⟩:=I.base.there b o q (by rw[x4];simp)
      by_cases hb:b∈fH (X.env::X.outer)
      · obtain⟨sl,z'⟩:=G.slot b _ hb z;exact⟨_,z'⟩
      · exact⟨_,G.keep b _ (qc b o q).1 hb (qc b o q).2 z⟩
  · intro a o q;refine(I.aI a o q).eO (fun b u hb z=>?_) (fun _ z=>z) fun _ _ z=>z
    have Hb:H b≠none:=by
      rcases hb with z | z
      · rw[z,q];simp
      · rw[z];simp
    exact G.keep b u (fun z=>Hb (z▸He)) (fun z=>Hb (sf b z)) (fun z=>Hb (hx b z).1) z
  · obtain⟨oT,ts,t1,t2,t3⟩:=G.ent;refine⟨_,_,T,oT,ts,G.exc,hc,m7,rfl,by simp[hz],o4,t1,t2,t3,He,HT,nz,Nat.le_trans I.sz hsz⟩
theorem Jc(I:Inv X pins σ H s)(x:iI X E)(r:QO H X.bF.heap s.heap e cls dc)(hE:E cls dc H):X.xe (.ref e) s:=by
  obtain⟨oe,vs,he,hc,m7,hd,h1,He,ne⟩:=r;have x':=x;obtain⟨x1,x2,x3,x4⟩:=x';rw[x1];have fr:=I.ok.frames;have st:=I.stack;rw[x2] at fr st;exact QM fr st x3 he hd h1 fun h' G=>Ja I x G hc m7 (Array.getElem?_eq_some_iff.mp h1).1 He ne (fun b hb=>absurd hb (by simp)) (Nat.ne_of_gt (Heap.lt_size he)) (Nat.le_refl _) hE
theorem QT(I:Inv X pins σ H s)(x:iI X E)(r:I0 H X.bF.heap s.heap e cls dc)(hE:E cls dc H):X.xe (.ref e) s:=by
  obtain⟨oe,vs,T,oT,ts,he,hc,m7,hd,h1,o4,hT,dT,h3,He,HT,ne,nT⟩:=r;have x':=x;obtain⟨x1,x2,x3,x4⟩:=x';rw[x1];have fr:=I.ok.frames;have st:=I.stack;rw[x2] at fr st;refine QN fr st x3 he hd h1 hT dT h3 o4 fun h' G=>Ja I x G hc m7 (Array.getElem?_eq_some_iff.mp h1).1 He ne (fun b hb=>?_) (Nat.ne_of_gt (Heap.lt_size he)) (Nat.le_refl _) hE
  rw[List.mem_singleton] at hb;subst hb;exact⟨HT,nT⟩
theorem QU(x:iI X E):wg (qb X.prog X.w) X E:=by
  intro pins σ H s u s' I h;obtain⟨e,cls,dc,H',rfl,os,bare,un,aI,fl,hE⟩:=h;have I':=I.k6 os un aI bare (ch:=[]) (fun b z=>absurd z (by simp));obtain⟨oe,vs,T,oT,ts,he,hc,m7,hd,h1,o4,hT,dT,h3,He,HT,ne,nT⟩:=fl;exact QT I' x ⟨oe,vs,T,oT,ts,he,hc,m7,hd,h1,o4,hT,dT,h3,He,HT,Nat.le_trans I.sz ne,Nat.le_trans I.sz nT⟩ hE
theorem iI.own(x:iI X E):PassesOwn (model X.prog X.w) X.A X.env X.xe:=by
  rw[x.1];exact PassesOwn.leaving
end
def bX(P:Program)(w:World)(K:PySem.W.Frag)(mg:Str->Option Value)(base:Heap)(x:Str)(ps:List Str)(k:Nat)(sp:Sp):Prop:=
  ∃(f:Addr)(fd:FuncData),mg x=some (.ref f)/\PySem.W.keepIn K (.ref f)=true/\(∃oc od iT,K.lookup f=some ⟨oc,od,.func fd,iT⟩)/\(∀us:List Value,us.length=ps.length->bindArgs fd ⟨us,[]⟩=pure (ps.zip us))/\ir P w K mg base (qb P w) k f fd ps sp
section
variable{P:Program}{w:World}{K:PySem.W.Frag}{mg:Str->Option Value}{base:Heap}
theorem Df.gW{x:Str}{st:Stmt}{N ps:List Str}{k:Nat}{sp:Sp}(D:Df K mg x st ps)(S:ak N ps (zq st))(len:∀vs H Q E,sp vs H Q E->vs.length=ps.length)
    (body:∀(f:Addr)(aR:Value)(A:Around)(outer:List Env)(s:Shared)(H:Hp)(vs:List V)(Q:VK)(E:XK),bE k (A.deeper (envOfC x (zq st) s.heap.objs.size f aR))->sp vs H Q E->
      ∃t,jA (iS (qb P w) P w K mg base N x (zq st) f aR A outer s H E) (nF st) t/\t { nx:=fun _ H'=>Q .bO H',rt:=Q } (start N vs) H):bX P w K mg base x ps (k+1) sp:=by
  obtain⟨f,fd,F,a,b⟩:=D;obtain⟨oc,od,kV,doc,pm,an,aR,ct,iT,e,lk,jX⟩:=id F.ex;subst e;exact⟨f,_,a,F.kp,⟨oc,od,iT,lk⟩,b,FU lk jX S len (body f aR)⟩
theorem bX.good{x:Str}{ps:List Str}{k:Nat}{sp Jd:Sp}(F:bX P w K mg base x ps k sp)(h:∀vs H Q E,Jd vs H Q E->sp vs H Q (fun _ _ _=>False)):cD P w K mg base x ps k Jd:=by
  obtain⟨f,fd,a,kp,lk,b,G⟩:=F;refine⟨f,fd,a,kp,lk,b,fun vs H Q E q=>G.len _ _ _ _ (h _ _ _ _ q),fun A outer s H args us vs Q E hr he hb hv hs=>?_⟩;refine codeAny_mono (G.run A outer s H args us vs Q _ hr he hb hv (h _ _ _ _ hs)) fun r s' hq=>?_
  cases r with
  | ok fl=>
    cases fl with
    | ret u=>exact hq
    | next=>exact False.elim hq
    | brk=>exact False.elim hq
    | cont=>exact False.elim hq
  | error e=>
    obtain⟨_,_,_,_,_,_,_,_,_,_,z⟩:=hq;exact z.elim
end
section
variable{X:Cx}{k:Nat}{ps:List Str}{sp:Sp}{E:XK}{C:Addr}{m x:Str}{p pos apos:Pos}{o e:Expr}{es:List Expr}{t:TA}{ta:TE}
theorem jF(F:bX X.prog X.w X.K X.mg X.base x ps k sp)(xe:iI X E)(hr:bE k X.A)(hg:Gl X x)(ha:PA X (e::es) t)(gf:(x == ("__debug__" : Str))=false:=by decide)
    (he:starEach (e::es) X.env=(false,eval e X.env)::starEach es X.env:=by rfl) (gB:(backTo pos (starEach es X.env)).any (·.1)=false:=by rfl):PE X (.Call (.Name x p) (e::es) [] pos) (Ak sp [] E t):=by
  obtain⟨f,fd,a,kp,_,b,G⟩:=F;exact FJ G hr hg a kp (.all b) .nil (QU xe) ha gf he gB
end
section
variable{prog:Program}{w:World}{A:Around}{E:Value->Shared->Prop}{h:Heap}{g:Array GenState}{d:Drawn}{t:Nat}{os:OsState}{C:Addr}{bm:List Value}
theorem QV{M:Model}{Q:Unit->Shared->Prop}{e:Addr}{oe:Obj}{us:List Value}(U:b8 bm)(x:gU h C bm)(he:h.get? e=some oe)(hc:oe.cls = .ref C)(k:Q () { heap:=h,gens:=g,drawn:=d,toks:=t,os:=os }) :
    wpAny M A (checkBuiltinCall "ValueError.__init__" ⟨.ref e::us,[]⟩) Q E { heap:=h,gens:=g,drawn:=d,toks:=t,os:=os }:=by
  obtain⟨a1,a2,a3,a4,a5,a6,a7,a8,a9,b1,b2,b3,b4,b5,b6,o⟩:=x;have F:=PySem.F.excBase_ValueError;have c1:=yp (C:=C) U.v;have hs:=F.noStar;simp only[checkBuiltinCall,F.initKind,F.initSplit,F.initRow]
  repeat (first
    | (with_reducible refine wpAny_loadPart_at he ?_;rw[hc])
    | with_reducible refine wpAny_loadPart_at o ?_
    | (with_reducible refine wpAny_isSubtype_exc o ?_;rw[c1])
    | wp_step)
  refine wpAny_onRaise ?_;have st:∀(a b:String)(n:Nat),Bind.check ⟨.positional,"*","ValueError",.self,[⟨"args",.varPos,false⟩]⟩ a b n (List.map (fun x=>x.fst) ({ pos:=Value.ref e::us }:Args).kw)=pure ():=fun a b n=>check_star_args _ _ _ _ _ _
  rw[st];exact wpAny_pure k
theorem Je{Q:Value->Shared->Prop}{e t0:Addr}{oe:Obj}{vs:Array Value}{us:List Value}(U:b8 bm)(x:gU h C bm)(hz:us.length<=sizeLine)(he:h.get? e=some oe)(hc:oe.cls = .ref C)(hd:oe.data = .fields vs)(h0:vs[0]? = some (.ref t0))
    (k:∀h',(∀b o,b≠e->h.get? b=some o->h'.get? b=some o)->h'.get? e=some { oe with data:=.fields (vs.setIfInBounds 0 (.ref h.objs.size)) }->Q .none { heap:=h',gens:=g,drawn:=d,toks:=t,os:=os }) :
    wpAny (model prog w) A (call (.builtin "ValueError.__init__") (.ref e::us)) Q E { heap:=h,gens:=g,drawn:=d,toks:=t,os:=os }:=by
  have F:=PySem.F.excBase_ValueError;refine wpAny_call (codeAny_call_builtin F.init.plain F.initEntry (QV U x he hc ?_));unfold Builtin.«BaseException.__init__»
  wp_walk
  rw[hd];refine wpAny_pure ?_;rw[h0];refine wpAny_pure (wpAny_bind ?_);have uV:=Heap.get?_push_of_some (h:=h) { cls:=.type "tuple",data:=.seq us.toArray } he;have z0:=(Array.getElem?_eq_some_iff.mp h0).1;refine wpAny_setField uV hd z0 ?_;have e3:=Heap.get?_update_self (Obj.mapFields (·.setIfInBounds 0 (Value.ref h.objs.size))) uV (Obj.isFreed_of_fields (Obj.data_mapFields hd _));rw[IZ hd] at e3;have go:=k _ (fun b o hb q=>(Heap.get?_update_other _ _ (Ne.symm hb)).trans (Heap.get?_push_of_some _ q)) e3
  wp_walk
  exact go
end
def o5:List Value->Bool
  | [.type a,.type b,.type c,.type d]=>a == "ValueError" && (b == "Exception" && (c == "BaseException" && d == "object"))
  | .ref _::r=>o5 r
  | _=>false
theorem Jf:∀{l:List Value},o5 l=true->l = [.type "ValueError",.type "Exception",.type "BaseException",.type "object"]\/∃c r,l = .ref c::r/\o5 r=true
  | [.type a,.type b,.type c,.type d],e=>by
    simp only[o5,Bool.and_eq_true,beq_iff_eq] at e;obtain⟨rfl,rfl,rfl,rfl⟩:=e;exact .inl rfl
  | .ref c::r,e=>.inr ⟨c,r,rfl,by unfold o5 at e;exact e⟩
theorem Jg(self:Value):∀{l:List Value},o5 l=true->refuseLoop self "__setattr__" l=pure ()
  | [],e=>by cases e
  | v::r,e=>by
    rcases Jf e with h | ⟨c,r',h,e'⟩
    · rw[h];exact PySem.F.store_ValueError.passes self
    · cases h;rw[refuseLoop_ref];exact Jg self e'
theorem Jh:∀{l:List Value},o5 l=true->l.contains (.type "object")=true
  | [],e=>by cases e
  | v::r,e=>by
    rcases Jf e with h | ⟨c,r',h,e'⟩
    · rw[h];decide +kernel
    · cases h;rw[List.contains_cons,Jh e',Bool.or_true]
def DS(K:PySem.W.Frag)(C:Addr):Bool:=(PySem.W.clsIn K C).any fun cd=>o5 cd.mro
structure mD(K:PySem.W.Frag)(C:Addr):Prop where
  hd:PySem.W.hasDictIn K C=true
  po:DS K C=true
  sa:PySem.W.findIn K (.ref C) "__setattr__" = some (some (.builtin "object.__setattr__"))
section
variable{prog:Program}{w:World}{A:Around}{E:Value->Shared->Prop}{R:Result->Shared->Prop}{s:Shared}{K:PySem.W.Frag}{x C:Addr}{name:Str}{v:Value}
theorem QW{ox:Obj}{od:Option Obj}{tk:Tok}{r:Option Value}(X:K.In s.heap)(I:PySem.W.InstAt s.heap x ox C od)(hp:(PySem.W.clsIn K C).any (fun cd=>o5 cd.mro)=true)(ht:PySem.W.takerIn K C name=some r)
    (h:∀b,wpAny (model prog w) A.in1 (match r with | some a=>Builtin.ObjectAttr.setByDescriptor a (.ref x) v | none=>Builtin.ObjectAttr.storeInOwnDict (.ref x) (.ref C) (.str name tk) name v b)
      (fun fin s'=>match fin with | .done f=>R (.ok f) s' | .again c'=>c'.quiet=true/\codeAny (model prog w) A c' R s') (fun e s'=>R (.error e) s') s) :
    codeAny (model prog w) A (.call (.builtin "object.__setattr__") ⟨[.ref x,.str name tk,v],[]⟩) R s:=by
  have SF:=PySem.F.store_object;obtain⟨cd,hc,ho⟩:=PySem.W.any_some hp;have ne:cd.mro.isEmpty=false:=by cases q:cd.mro with | nil=>rw[q] at ho;cases ho | cons _ _=>rfl
  have sub:PySem.W.Looks (model prog w) s.heap (isInstance (.ref x) (.type "object")) true:=I.type.andThen (PySem.W.looks_mroIn X (by unfold PySem.W.mroIn;rw[hc,Option.bind_some,if_neg (by rw[ne];decide),Jh ho]));refine codeAny_call_builtin SF.slot.plain SF.entry (@PySem.W.check_slot (model prog w) _ _ s "object.__setattr__" "object" "__setattr__" (.ref x) [.str name tk,v] [] _ SF.kind SF.split sub (SF.args (.ref x) (.str name tk) v) ?_);obtain⟨attr,ha,hr⟩:=Option.bind_eq_some_iff.mp ht;have hm:PySem.W.Looks (model prog w) s.heap (mroOf (.ref C)) cd.mro:=(PySem.W.looks_clsIn X hc).andThen .now;have L3:PySem.W.Looks (model prog w) s.heap (Builtin.ObjectAttr.storeTaker? attr) r:=by
    cases attr with
    | none=>cases hr;exact .now
    | some a=>
      obtain⟨b,hb,rfl⟩:=Option.map_eq_some_iff.mp hr;refine(PySem.W.looks_takesIn X hb).andThen ?_;cases b<;>exact .now
  rw[PySem.W.osa_eq,refuse_eq];refine wpAny_bind (wpAny_bind (I.type.here (wpAny_bind (hm.here ?_))));rw[Jg _ ho];refine wpAny_pure (wpAny_bind (I.type.here (wpAny_bind ((PySem.W.looks_findIn X ha).here (wpAny_bind (L3.here ?_))))));exact h _
theorem DT{oe:Obj}{vs:Array Value}{Q:Unit->Shared->Prop}(X:K.In s.heap)(he:s.heap.get? x=some oe)(qF:oe.cls = .ref C)(m9:oe.dict=none)(DU:oe.data = .fields vs)(c:mD K C)(ht:PySem.W.takerIn K C name=some none)
    (h:∀h' tk,(∀b o,b≠x->s.heap.get? b=some o->h'.get? b=some o)->h'.get? x=some { oe with dict:=some s.heap.objs.size }->h'.Ns1 s.heap.objs.size (fun y=>if y=name then some v else none)->Q () { s with heap:=h',toks:=tk }) :
    wpAny (model prog w) A (setAttr (.ref x) name v) Q E s:=by
  have J:PySem.W.InstAt s.heap x oe C none:=⟨he,qF,by unfold PySem.W.notCls;rw[DU],by rw[m9];trivial⟩;refine PySem.W.set_plain X J c.sa (QW (s:={ s with toks:=s.toks+1 }) (r:=none) X J c.po ht fun b=>?_);obtain⟨cd,hc,qw⟩:=PySem.W.any_some c.hd;obtain⟨oc,od,W0,iT⟩:=oe;dsimp only at qF m9 DU;subst qF m9 DU;refine wpAny_bind (wpAny_pure (wpAny_bind (wpAny_bind (wpAny_loadPart he (wpAny_bind (PySem.W.Looks.here (s:={ s with toks:=s.toks+1 }) (PySem.W.looks_clsIn X hc) ?_))))));rw[qw];have qU:(s.heap.push { cls:=.type "dict",data:=.dict #[] }).get? x=some { cls:=Value.ref C,data:=Data.fields vs,slots:=iT }:=Heap.get?_push_of_some _ he;have Ji:x≠s.heap.objs.size:=Nat.ne_of_lt (Heap.lt_size he);rw[if_neg (by decide)];show wpAny (model prog w) _ (if(!true || !typeHasDict (Value.ref C))=true then pure none else _) _ _ _;rw[if_neg (by simp[typeHasDict])];refine wpAny_bind (wpAny_alloc' ?_);refine wpAny_bind (wpAny_update' qU ?_);refine wpAny_pure ?_;have QX:((s.heap.push { cls:=.type "dict",data:=.dict #[] }).update x fun o=>{ cls:=o.cls,dict:=some s.heap.objs.size,data:=o.data,slots:=o.slots }).get? s.heap.objs.size
      = some { cls:=.type "dict",data:=.dict #[] }:=
    (Heap.get?_update_ne _ _ _ _ Ji.symm).trans (Heap.get?_push_at rfl rfl)
  have QY:((s.heap.push { cls:=.type "dict",data:=.dict #[] }).update x fun o=>{ cls:=o.cls,dict:=some s.heap.objs.size,data:=o.data,slots:=o.slots }).Ns s.heap.objs.size (fun _=>none):=
    ⟨_,#[],_,QX,rfl,fun e he=>absurd he (by simp),fun _=>rfl⟩
  show wpAny _ _ (Builtin.ObjectAttr.storeInDict s.heap.objs.size (.str name s.toks) name v) _ _ _;unfold Builtin.ObjectAttr.storeInDict Builtin.ObjectAttr.newKeyGuard;refine wpAny_bind (wpAny_pure (wpAny_bind (wpAny_nsSet1 (Heap.Ns1.of_empty QY) fun h' uq hs=>?_)));obtain⟨oD,W2,W4,QZ,Q0,jR⟩:=uq.count (Within.cons name v Within.nil);refine wpAny_bind (wpAny_lookBehind QZ (by rw[Q0];exact pastItsLine_dict (Nat.le_trans jR (by rw[List.length_cons,List.length_nil,sizeLine_eq];omega))) ?_);refine wpAny_pure (h h' _ (fun b o hb q=>?_) ?_ uq)
  · exact(hs.2 b (Nat.ne_of_lt (Heap.lt_size q))).trans ((Heap.get?_update_ne _ _ _ _ hb).trans (Heap.get?_push_of_some _ q))
  · exact(hs.2 x Ji).trans (Heap.get?_update_self _ qU rfl)
end
def dJ(e C:Addr)(dc:Option Addr):HO:=.ext fun h=>∃oe vs t0,h.get? e=some oe/\oe.cls = .ref C/\oe.dict=dc/\oe.data = .fields vs/\vs[0]? = some (.ref t0)/\vs[1]? = some .none
section
variable{X:Cx}{pins:List (Addr×Obj)}{σ:St}{H:Hp}{s:Shared}{a C:Addr}{dc:Option Addr}{f:Str}{A:Around}{E:Value->Shared->Prop}
theorem DV{P:Program}{w:World}{h:Heap}{oe:Obj}{vs:Array Value}{t0:Addr}(h1:h.get? a=some oe)(h2:oe.cls = .ref C)(h3:oe.dict=dc)(h4:oe.data = .fields vs)(h5:vs[0]? = some (.ref t0))(h6:vs[1]? = some .none):aP P w H h a (dJ a C dc):=
  ⟨⟨oe,vs,t0,h1,h2,h3,h4,h5,h6⟩,⟨oe,h1⟩,fun g1 g2 ⟨DW,uW,Q2,q1,q2⟩ k=>⟨DW,uW,Q2,k _ q1,q2⟩⟩
theorem Q3{y:V}{u:Value}{Q:Unit->Shared->Prop}(I:Inv X pins σ H s)(e:H a=some (dJ a C none))(c:mD X.K C)(n:dB X.K C f)(ry:RelV y u)
    (h:∀d s',H d=none->Inv X pins σ (upd (upd H d (.xd [(f,y)])) a (dJ a C (some d))) s'->Q () s'):wpAny (model X.prog X.w) A (setAttr (.ref a) f u) Q E s:=by
  obtain⟨⟨oe,vs,t0,h1,h2,h3,h4,h5,h6⟩,_,_⟩:=(show aP X.prog X.w H s.heap a (dJ a C none) from I.aI a _ e);refine DT I.gQ h1 h2 h3 h4 c n.wc fun h' tk k hx Au=>?_
  have hd:=I.aI.fresh (Nat.le_refl s.heap.objs.size);have iA:s.heap.objs.size≠a:=Nat.ne_of_gt (Heap.lt_size h1);have fr:oe.isFreed=false:=Obj.isFreed_of_fields h4;have u1:(h'.update a fun _=>oe).get? a=some oe:=Heap.get?_update_self _ hx fr;have u2:∀b,b≠a->(h'.update a fun _=>oe).get? b=h'.get? b:=fun b hb=>Heap.get?_update_other _ _ (Ne.symm hb)
  have I1:=I.laid (a:=s.heap.objs.size) (o:=.xd [(f,y)]) (h':=h'.update a fun _=>oe) (t':=tk) (fun b o q=>by
    by_cases hb:b=a
    · subst hb;rw[h1] at q;cases q;exact u1
    · rw[u2 b hb];exact k b o hb q) (Nat.le_refl _) ⟨_,Au.at fun o q=>by rw[u2 _ iA];exact q,fun g=>by
        by_cases hg:g=f
        · rw[if_pos hg];subst hg;rw[List.lookup_cons,beq_self_eq_true];exact ry
        · rw[if_neg hg,List.lookup_cons,beq_eq_false_iff_ne.mpr hg];exact True.intro⟩
  have I2:=I1.write (x:=a) (e:=a) (o:=dJ a C (some s.heap.objs.size)) (h':=h') (t':=tk) (by rw[zr iA.symm,e];exact True.intro) (.inl rfl) (fun b o hb q=>by rw[u2 b hb] at q;exact q) ⟨_,hx⟩ (DV hx h2 rfl h4 h5 h6);exact h _ _ hd I2
end
structure qV(K:PySem.W.Frag)(D:Addr):Prop where
  rd:PySem.W.readsIn K D (.type "type")=true
  ga:PySem.W.specialIn K (.ref D) "__getattribute__" = some (some (.builtin "type.__getattribute__"))
  fc:PySem.W.findCls K (.ref D) (.type "type") "__init__" = some (.val (.builtin "ValueError.__init__"))
def i8(K:PySem.W.Frag)(C:Addr)(bm:List Value):Prop:=∃nm q N bs sX sn sub ab col dd k0 k1 k2 k3 k5,K.lookup C=some (excClassObj nm q C N bs bm sX sn sub ab col dd k0 k1 k2 k3 k5 "ValueError.__new__")
theorem i8.in{K:PySem.W.Frag}{C:Addr}{bm:List Value}{h:Heap}(x:i8 K C bm)(X:K.In h):gU h C bm:=by
  obtain⟨a1,a2,a3,a4,a5,a6,a7,a8,a9,b1,b2,b3,b4,b5,b6,e⟩:=x;exact⟨a1,a2,a3,a4,a5,a6,a7,a8,a9,b1,b2,b3,b4,b5,b6,X _ _ e⟩
def Q4(K:PySem.W.Frag)(t:TA):TE:=fun σ H Q=>t σ H fun xs H1=>∃a C dc bm rest,xs = .ref a::rest/\H1 a=some (dJ a C dc)/\i8 K C bm/\b8 bm/\rest.length<=sizeLine/\Q .bO H1
def Q5(K:PySem.W.Frag)(ta tv:TE)(f:Str):TS:=fun D σ H=>tv σ H fun y H1=>ta σ H1 fun x H2=>∃a C,x = .ref a/\H2 a=some (dJ a C none)/\mD K C/\dB K C f/\
  ∀d,H2 d=none->D.nx σ (upd (upd H2 d (.xd [(f,y)])) a (dJ a C (some d)))
theorem Q6{H:Hp}{a:Addr}{o:HO}(h:H a=some o):upd H a o=H:=by
  funext b;unfold upd
  by_cases e:b=a
  · rw[if_pos e,e,h]
  · rw[if_neg e]
section
variable{X:Cx}{o e value:Expr}{es:List Expr}{x f:Str}{p pos pos' apos:Pos}{ta tv:TE}{t:TA}{D:Addr}
theorem Jj(ha:PE X o ta)(hv:PE X value tv)(hs:swapsWith value (some (.Attribute o f pos')) pos.line X.env=pure false):PS X (.Assign [.Attribute o f pos'] value pos) (Q5 X.K ta tv f):=by
  intro pins s σ H D I h;refine plainObj_wpAny_Assign_Attribute (aX (hv pins s σ H _ I h) fun u s1 ⟨y,H1,I1,ry,q⟩=>aX (ha pins s1 σ H1 _ I1 q) fun ov s2 aE=>?_) hs;obtain⟨x,H2,I2,rx,a,C,ex,ea,c,n,q2⟩:=aE;subst ex;obtain rfl:ov=Value.ref a:=rx;exact Q3 I2 ea c n ry fun d s3 hd I3=>⟨σ,_,I3,q2 d hd⟩
theorem Q7{pins:List (Addr×Obj)}{s:Shared}{σ:St}{H:Hp}{a C:Addr}{dc:Option Addr}{bm:List Value}{us:List Value}{Q:VK}(I:Inv X pins σ H s)(e:H a=some (dJ a C dc))(xo:i8 X.K C bm)(U:b8 bm)(hz:us.length<=sizeLine)(q:Q .bO H) :
    wpAny (model X.prog X.w) X.A (call (.builtin "ValueError.__init__") (.ref a::us)) (EP X pins σ Q) X.xe s:=by
  obtain⟨⟨oe,vs,t0,h1,h2,h3,h4,h5,h6⟩,_,_⟩:=(show aP X.prog X.w H s.heap a (dJ a C dc) from I.aI a _ e);obtain⟨hp,g,d,tk,os⟩:=s;refine Je U (xo.in I.gQ) hz h1 h2 h4 h5 fun h' k hx=>?_
  have z0:=(Array.getElem?_eq_some_iff.mp h5).1;have I2:=I.write (x:=a) (e:=a) (o:=dJ a C dc) (h':=h') (t':=tk) (by rw[e];exact True.intro) (.inl rfl) (fun b o hb z=>k b o hb z) ⟨_,hx⟩ (DV (t0:=hp.objs.size) hx h2 h3 rfl (by simp[z0]) (by rw[Array.getElem?_setIfInBounds_ne (by decide)];exact h6));rw[Q6 e] at I2;exact⟨.bO,H,I2,rfl,q⟩
theorem Jk{pl:Sem Bool}(hg:Gl X x)(hm:X.mg x=some (.ref D))(b:qV X.K D)(ha:PA X (e::es) t)(gf:(x == ("__debug__" : Str))=false:=by decide)
    (lS:starEach (e::es) X.env=(false,eval e X.env)::starEach es X.env:=by rfl) (gB:(backTo pos (starEach es X.env)).any (·.1)=false:=by rfl)
    (ht:eval (.Call (.Attribute (.Name x p) "__init__" apos) (e::es) [] pos) X.env=(do
      let ov ←eval (.Name x p) X.env
      standAt apos.atName
      let (f,first) ←holding [ov] (getMethod ov "__init__" pl)
      callWith pos f first (backTo pos (starEach (e::es) X.env)) (backToKw pos (keywordEach [] X.env))):=by rfl) :
    PE X (.Call (.Attribute (.Name x p) "__init__" apos) (e::es) [] pos) (Q4 X.K t):=by
  intro pins s σ H Q I h;refine PySem.W.methodCall_KW (pl:=pl) (rG I hg hm ?_ gf) ht;refine PySem.W.method_cls I.gQ b.ga (PySem.W.cls_value I.gQ b.rd b.fc (by decide +kernel) ?_);have hA:=ha pos pins _ σ H _ (I.tok (s.toks+1)) h;rw[lS] at hA ⊢;refine Calls.callWith_builtin (by show(false||(backTo pos (starEach es X.env)).any (·.1))=false;rw[gB]<;>rfl) (Calls.evalArgs_plain ?_);refine aX hA fun us s2 aE=>?_
  obtain⟨vs,H2,I2,r2,a,C,dc,bm,rest,ev,ea,xo,U,hz,q⟩:=aE;subst ev;cases r2 with
  | cons r1 r2=>
    cases r1;exact Q7 I2 ea xo U (by rw[←r2.length];exact hz) q
end
def del(H:Hp)(e:Addr):Hp:=fun b=>if b=e then none else H b
theorem DX{H:Hp}{e:Addr}:del H e e=none:=by unfold del;rw[if_pos rfl]
theorem sZ{H:Hp}{e b:Addr}(h:b≠e):del H e b=H b:=by unfold del;rw[if_neg h]
structure Q8(K:PySem.W.Frag)(C f:Addr)(bm:List Value):Prop where
  obj:i8 K C bm
  un:b8 bm
  init:PySem.W.findIn K (.ref C) "__init__" = some (some (.ref f))
  fn:PySem.W.isFn K (.ref f)=true
section
variable{X:Cx}{pins:List (Addr×Obj)}{σ:St}{H:Hp}{s:Shared}
theorem Inv.drop{e:Addr}{φ:Heap->Prop}(I:Inv X pins σ H s)(he:H e=some (.ext φ)):Inv X pins σ (del H e) s:=by
  refine I.un (h':=s.heap) (t':=s.toks) ⟨fun _ _ q _ _ _=>q,fun b o q _ _ _=>⟨o.slots,q⟩,fun b o _ n _=>?_,fun b o q _=>⟨o,q⟩,fun b xs q=>?_,fun b o u q=>?_,fun b ps q=>⟨#[],?_⟩⟩ fun a o q=>?_
  · by_cases z:b=e
    · rw[z];exact DX
    · rw[sZ z];exact n
  · rw[sZ (fun z=>by rw[z,he] at q;cases q)];exact q
  · rw[sZ (fun z=>by rw[z,he] at q;cases q)];exact q
  · rw[sZ (fun z=>by rw[z,he] at q;cases q),Array.append_empty];exact q
  · have na:a≠e:=fun z=>by rw[z,DX] at q;cases q
    rw[sZ na] at q;refine(I.aI a o q).eO (fun _ _ _ z=>z) (fun b z=>?_) fun b xs z=>?_
    · rw[sZ (fun w=>by rw[w,he] at z;cases z)];exact z
    · rw[sZ (fun w=>by rw[w,he] at z;cases z)];exact z
end
def Jl(C:Addr)(sp:Sp)(j3:List V)(E E1:XK)(t:TA):TS:=fun _ σ H=>t σ H fun vs H1=>∀e,H1 e=none->sp (.ref e::(vs++j3)) (upd H1 e (dJ e C none)) (fun v H2=>v = .bO/\∃dc,H2 e=some (dJ e C dc)/\E (.ref C) dc (del H2 e)) E1
section
variable{X:Cx}{CX:ku}{k:Nat}{f C:Addr}{fd:FuncData}{ps:List Str}{sp:Sp}{j3:List V}{ds:List Value}{E E1:XK}{x:Str}{p pos aS:Pos}{e:Expr}{es:List Expr}{t:TA}{bm:List Value}
theorem Q9(M:Q8 X.K C f bm)(F:ir X.prog X.w X.K X.mg X.base CX k f fd ps sp)(hr:bE (k+1) X.A)(xe:iI X E)(hx:wg CX X E1)(hg:Gl X x)(hm:X.mg x=some (.ref C))(hb:Binds X.K fd ps ds)(hd:Vals j3 ds)(yq:ps.length<=1000)(ha:PA X (e::es) t)
    (gf:(x == ("__debug__" : Str))=false:=by decide) (he:starEach (e::es) X.env=(false,eval e X.env)::starEach es X.env:=by rfl) (gB:(backTo aS (starEach es X.env)).any (·.1)=false:=by rfl) :
    PS X (.Raise (some (.Call (.Name x p) (e::es) [] aS)) none pos) (Jl C sp j3 E E1 t):=by
  intro pins s σ H D I h;refine QL (vI:=.ref f) M.un hr.hd he gB (rG I hg hm ⟨rfl,aX (ha aS pins s σ H _ I h) fun us s2 aE=>?_⟩ gf);obtain⟨vs,H1,I1,r,q⟩:=aE;have fr:∀a,s2.heap.objs.size<=a->H1 a=none:=fun a h=>I1.aI.fresh h
  have q0:=q _ (fr _ (Nat.le_refl _));have l0:=F.len _ _ _ _ q0;rw[List.length_cons,List.length_append] at l0;have rl:=r.length;refine⟨by rw[sizeLine_eq];omega,M.obj.in I1.gQ,PySem.W.looks_findIn I1.gQ M.init,fun self=>PySem.W.bind_fn I1.gQ self (beq_iff_eq.mp M.fn),fun h' ex hs yr=>?_⟩;have hq:=q ex (fr ex hs);obtain⟨t0,h1,_,_⟩:=yr.there;have I2:=I1.laid (a:=ex) (o:=dJ ex C none) (h':=h') (t':=s2.toks) yr.keeps hs (DV h1 rfl rfl rfl rfl rfl);have r2:Vals (V.ref ex::(vs++j3)) (Value.ref ex::(us++ds)):=.cons rfl (r.append hd);have hl:(Value.ref ex::us++ds).length=ps.length:=by
    have e:=r2.length;rw[F.len _ _ _ _ hq] at e;exact e.symm
  refine wpAny_call (codeAny_mono (F.run _ X.stack _ _ ⟨Value.ref ex::us,[]⟩ (Value.ref ex::(us++ds)) _ _ E1 (hr.make C us []) (I2.rT.make C us []) (hb _ (Value.ref ex::us) I2.gQ hl) r2 hq) fun r s' yt=>?_);cases r with
  | error e=>exact hx pins σ _ _ e s' I2 yt
  | ok fl=>
    cases fl with
    | ret u=>
      obtain⟨v,H',I3,rv,ev,dc,Jm,hE⟩:=I2.after yt;subst ev;obtain⟨⟨oe,ws,t1,g1,g2,g3,g4,g5,g6⟩,_,_⟩:=(show aP X.prog X.w H' s'.heap ex (dJ ex C dc) from I3.aI ex _ Jm);have I4:=I3.drop Jm;exact⟨rv,oe,ws,M.obj.in I3.gQ,g1,g2,g4,g6,Jc I4 xe ⟨oe,ws,g1,g2,g3,g4,g6,DX,Nat.le_trans I1.sz hs⟩ hE⟩
    | next=>exact False.elim yt
    | brk=>exact False.elim yt
    | cont=>exact False.elim yt
end
section
variable{M:Model}{A:Around}{E:Value->Shared->Prop}{s:Shared}
theorem Ra{base:Heap}{env:Env}{outer:List Env}{L e T:Addr}{oe oT:Obj}{vs ts:Array Value}{Q:Unit->Shared->Prop}
    (eZ:A.frames=some (env::outer)) (hl:s.heap.FunFrames base (env::outer)) (hf:env.frame=some L) (he:s.heap.get? e=some oe) (hd:oe.data = .fields vs) (h1:vs[1]? = some (.ref T))
    (hT:s.heap.get? T=some oT) (dT:oT.data = .fields ts) (h3:ts[3]? = some .none) (ne:T≠e)
    (k:∀h',n8 (fH (env::outer)) e s.heap.objs.size [T] oe vs s.heap h'->Q () { s with heap:=h' }) :
    wpAny M A (noteFrame (.ref e) env) (fun _ s'=>wpAny M A (setFlight (.ref e) none) Q E s') E s:=by
  unfold noteFrame;simp only[hf];refine wpAny_bind (wpAny_field he hd h1 ?_);rw[if_pos (show(Value.ref T != Value.none)=true from by simp)];refine wpAny_bind (wpAny_field hT dT h3 ?_);rw[if_neg (show ¬((Value.none == rawInt L)=true) from by simp[rawInt])];have z3:=(Array.getElem?_eq_some_iff.mp h3).1;refine wpAny_bind (wpAny_setField hT dT z3 ?_);have iX:∀b,b≠T->(s.heap.update T (Obj.mapFields (·.setIfInBounds 3 Value.none))).get? b=s.heap.get? b:=fun b hb=>Heap.get?_update_other _ _ (Ne.symm hb)
  have self:=Heap.get?_update_self (Obj.mapFields (·.setIfInBounds 3 Value.none)) hT (Obj.isFreed_of_fields (Obj.data_mapFields dT _));have nf:T ∉ fH (env::outer):=fun hm=>by
    obtain⟨_,o,ho,hn⟩:=hl.mem hm;rw[hT] at ho;cases ho;exact hn ts dT
  have sz:(s.heap.update T (Obj.mapFields (·.setIfInBounds 3 Value.none))).objs.size=s.heap.objs.size:=Heap.size_after_update ..;refine dX (s:={ s with heap:=s.heap.update T (Obj.mapFields (·.setIfInBounds 3 Value.none)) }) eZ (hl.of_keeps fun b o hb hn=>⟨o,(iX b fun z=>?_).trans hb,rfl⟩) hf ((iX e ne.symm).trans he) hd (Array.getElem?_eq_some_iff.mp h1).1 fun h' G=>?_
  · subst z;rw[hT] at hb;cases hb;exact hn ts dT
  · have e1:(s.heap.update T (Obj.mapFields (·.setIfInBounds 3 Value.none))).objs.size=s.heap.objs.size:=sz;have G:=G;dsimp only at G;rw[e1] at G;refine k h' ⟨fun b o hb hn hx q=>G.keep b o hb hn (by simp) ((iX b fun z=>hx (by simp[z])).trans q),fun b o hb q=>G.slot b o hb ((iX b fun z=>nf (z▸hb)).trans q),Heap.get?_none_of_le (Nat.le_refl _),G.exc,G.ent⟩
end
def Met(X:Cx)(pins:List (Addr×Obj))(H:Hp)(h:Heap)(e:Addr)(cls:Value)(dc:Option Addr):Prop:=
  ∃(oe:Obj)(vs:Array Value)(T:Addr)(oT:Obj)(ts:Array Value),h.get? e=some oe/\oe.cls=cls/\oe.dict=dc/\oe.data = .fields vs/\vs[1]? = some (.ref T)/\T≠e/\h.get? T=some oT/\oT.data = .fields ts/\ts[3]? = some .none/\d8 X pins H e/\d8 X pins H T
section
variable{X:Cx}{pins:List (Addr×Obj)}{σ:St}{H:Hp}{s:Shared}{E:XK}
theorem Rb{Q:Unit->Shared->Prop}{E':Value->Shared->Prop}{u:Value}{s':Shared}(I:Inv X pins σ H s)(x2:X.stack=X.env::X.outer)(x3:X.env.frame=some X.env.locals)(h:qb X.prog X.w X.stack H s E u s')
    (k:∀e cls dc H' h',u = .ref e->Inv X pins σ H' { s' with heap:=h' }->Met X pins H' h' e cls dc->E cls dc H'->Q () { s' with heap:=h' }) :
    wpAny (model X.prog X.w) X.A (noteFrame u X.env) (fun _ s1=>wpAny (model X.prog X.w) X.A (setFlight u none) Q E' s1) E' s':=by
  obtain⟨e,cls,dc,H',rfl,os,bare,un,aI,fl,hE⟩:=h;have I':=I.k6 os un aI bare (ch:=[]) (fun b z=>absurd z (by simp));obtain⟨oe,vs,T,oT,ts,he,hc,m7,hd,h1,o4,hT,dT,h3,He,HT,ne,nT⟩:=fl;have fr:=I'.ok.frames;have st:=I'.stack;rw[x2] at fr st;refine Ra fr st x3 he hd h1 hT dT h3 o4 fun h' G=>?_
  have F1:d8 X pins H' e:=I.jh ne He;have F2:d8 X pins H' T:=I.jh nT HT;have sf:∀b∈fH (X.env::X.outer),H' b=none:=by
    have:=I'.gY;rw[x2] at this;exact this
  have U:Un (fH X.stack) [e,T] H' H' s'.heap h':=by
    rw[x2];refine⟨fun b o q n nf nx=>G.keep b o (fun z=>nx (by simp[z])) nf (fun z=>nx (by rw[List.mem_singleton.mp z];simp)) q,fun b o q n hb nx=>G.slot b o hb q,fun b o q n _=>n,fun b o q nx=>?_,fun _ _ z=>z,fun _ _ _ z=>z,fun _ ps z=>⟨#[],by rw[Array.append_empty];exact z⟩⟩
    by_cases hb:b∈fH (X.env::X.outer)
    · obtain⟨sl,z⟩:=G.slot b o hb q;exact⟨_,z⟩
    · exact⟨o,G.keep b o (fun z=>nx (by simp[z])) hb (fun z=>nx (by rw[List.mem_singleton.mp z];simp)) q⟩
  have sC:fU X.prog X.w H' h':=fun a o q=>by
    refine(aI a o q).eO (fun b u hb z=>?_) (fun _ z=>z) fun _ _ z=>z
    have Hb:H' b≠none:=by
      rcases hb with z | z
      · rw[z,q];simp
      · rw[z];simp
    exact G.keep b u (fun z=>Hb (z▸He)) (fun z=>Hb (sf b z)) (fun z=>Hb (by rw[List.mem_singleton.mp z];exact HT)) z
  have I2:Inv X pins σ H' { s' with heap:=h' }:=I'.k6 (s':={ s' with heap:=h' }) (ch:=[e,T]) rfl U sC I'.bare fun b hb=>by
    have F:d8 X pins H' b:=by
      rcases List.mem_cons.mp hb with z | z
      · rw[z];exact F1
      · rw[List.mem_singleton.mp z];exact F2
    exact⟨F.2.2.2.1,F.2.1,F.2.2.2.2.1,F.2.2.2.2.2⟩
  obtain⟨Rf,sJ,t1,t2,t3⟩:=G.ent;have Rg:s'.heap.objs.size≠e:=Nat.ne_of_gt (Heap.lt_size he);exact k e cls dc H' h' rfl I2 ⟨_,_,s'.heap.objs.size,Rf,sJ,G.exc,hc,m7,rfl,by simp[(Array.getElem?_eq_some_iff.mp h1).1],Rg,t1,t2,t3,F1,I'.jh (Nat.le_refl _) (aI.fresh (Nat.le_refl _))⟩ hE
end
structure kO(K:PySem.W.Frag)(D:Addr):Prop where
  nt:PySem.W.instIn K (.ref D) (.type "tuple")=some false
  ty:PySem.W.isClsIn K D=true
  ex:PySem.W.mroIn K D (.type "BaseException")=some true
section
variable{M:Model}{A:Around}{E:Value->Shared->Prop}{s:Shared}{K:PySem.W.Frag}{e C D:Addr}{oe:Obj}{b:Bool}
theorem Rh{Q:Bool->Shared->Prop}(X:K.In s.heap)(he:s.heap.get? e=some oe)(hc:oe.cls = .ref C)(cd:kO K D)(hs:PySem.W.mroIn K C (.ref D)=some b)(h:Q b s):wpAny M A (excMatches (.ref e) (.ref D)) Q E s:=by
  have L1:=PySem.W.looks_instIn (M:=M) X cd.nt;have L3:=PySem.W.looks_mroIn (M:=M) X cd.ex;have L4:=PySem.W.looks_mroIn (M:=M) X hs;have L5:PySem.W.Looks M s.heap (typeOf (.ref e)) (.ref C):=hc▸(PySem.W.Looks.ld he).andThen .now;unfold excMatches;refine wpAny_bind (L1.here ?_);dsimp only;rw[if_neg (by decide)];refine wpAny_bind (wpAny_pure ?_);simp only[List.forIn_cons,List.forIn_nil];have L6:PySem.W.Looks M s.heap (isExcClass (.ref D)) true:=by
    unfold isExcClass;refine PySem.W.Looks.andThen (a:=true) ?_ ?_
    · obtain⟨c,hc⟩:=Option.isSome_iff_exists.mp cd.ty;unfold PySem.W.clsIn at hc;split at hc
      · rename_i hk;exact(PySem.W.Looks.ld (part:=_) (X _ _ hk)).andThen .now
      · cases hc
    · exact L3
  refine wpAny_bind (wpAny_bind (wpAny_bind (L6.here ?_)));rw[if_neg (by decide)];refine wpAny_pure (wpAny_pure (wpAny_bind (L5.here (wpAny_bind (wpAny_bind (wpAny_bind (L4.here ?_)))))));cases b with
  | true=>rw[if_pos rfl];exact wpAny_pure (wpAny_pure (wpAny_pure h))
  | false=>rw[if_neg (by decide)];exact wpAny_pure (wpAny_pure (wpAny_pure h))
end
section
variable{X:Cx}{pins:List (Addr×Obj)}{σ:St}{H:Hp}{s:Shared}
theorem Inv.yu{a:Addr}{o:HO}(I:Inv X pins σ H s)(f:d8 X pins H a)(xe:X.ex = [])(ok:aP X.prog X.w (upd H a o) s.heap a o):Inv X pins σ (upd H a o) s:=by
  obtain⟨f1,f2,f3,f4,f5,f6⟩:=f;have f4:X.bF.heap.objs.size<=a:=f4.resolve_left (by rw[xe];simp);refine⟨I.ok,I.os,I.bare,⟨I.base.keep,I.base.slot,fun b ob q n hx=>?_,I.base.there,fun b xs q=>?_,fun b ob u q=>?_,fun b ps q=>?_⟩,I.loc,I.cell,?_,fun x c z=>?_,fun p hp=>?_,fun b ob q=>?_,I.len⟩
  · rw[zr (fun z=>absurd (Heap.lt_size q) (Nat.not_lt.mpr (by rw[z];exact f4)))];exact I.base.free b ob q n hx
  · have:=I.base.gO b xs q;rw[zr (fun z=>by rw[z,f1] at this;cases this)];exact this
  · have:=I.base.gD b ob u q;rw[zr (fun z=>by rw[z,f1] at this;cases this)];exact this
  · obtain⟨m,this⟩:=I.base.gP b ps q;refine⟨m,?_⟩;rw[zr (fun z=>by rw[z,f1] at this;cases this)];exact this
  · rw[zr f2.symm];exact I.free
  · rw[zr (f5 x c z)];exact I.cH x c z
  · obtain⟨q1,q2,q3,q4,q5⟩:=I.pin p hp;exact⟨q1,by rw[zr (f6 p hp)];exact q2,q3,q4,q5⟩
  · by_cases z:b=a
    · subst z;rw[zb] at q;cases q;exact ok
    · rw[zr z] at q;refine(I.aI b ob q).eO (fun _ _ _ z=>z) (fun c w=>?_) fun c xs w=>?_
      · rw[zr (fun z=>by rw[z,f1] at w;cases w)];exact w
      · rw[zr (fun z=>by rw[z,f1] at w;cases w)];exact w
theorem A2{M:Model}{A:Around}{E:Value->Shared->Prop}{i:Nat}{n:Str}{pos:Pos}{Q:Unit->Shared->Prop}(I:Inv X pins σ H s)(hN:X.N.Nodup)(hi:X.N[i]? = some n)(hl:X.env.scope.names.lookup n=some .local)
    (h:∀s',Inv X pins (σ.set i none) H s'->Q () s'):wpAny M A (do bindName X.env n .none;unbindBehindTheSuite X.env n pos) Q E s:=by
  have rF:(X.env.scope.kind == .class||(X.env.scope.kind == .module&&X.env.locals != X.env.globals))=false:=by rw[I.ok.kind];rfl
  refine wpAny_bind (wpAny_bindName (ur I hN hi (.inl hl) (v:=.bO) rfl (fun s1 I1=>?_) (.inr hl)));unfold unbindBehindTheSuite;refine wpAny_onRaise ?_;unfold unbindName;refine wpAny_bind (wpAny_point (wpAny_bind ?_));unfold deleteName;obtain⟨m,hn,jo⟩:=id I1.loc;have e8:X.env.kindOf n=some .local:=hl;simp only[e8,rF];rw[if_neg (by decide)];have Jo:i<(σ.set i (some V.bO)).length:=by rw[I1.len];exact(List.getElem?_eq_some_iff.mp hi).1
  obtain⟨u,ru,lu⟩:=jo i n .bO hi (by rw[List.getElem?_set_self (by simpa using Jo)]) (.inl hl);have mn:(m n).isSome=true:=by
    rcases lu with ⟨_,z⟩ | ⟨z,_⟩
    · rw[z];rfl
    · rw[e8] at z;rcases z with z | z<;>cases z
  refine wpAny_bind (wpAny_nsDel_keeps hn fun h2 v kG tD=>?_);rw[mn];simp only[if_true,Bool.not_true,Bool.false_eq_true,if_false];refine wpAny_pure (wpAny_point (h _ ?_));have nv:=I1.nv;obtain⟨oL,_,_,Fj,_⟩:=id hn;refine⟨I1.ok,I1.os,I1.bare,⟨fun b o e n hb hx=>?_,fun b o e n hb hx=>?_,I1.base.free,fun b o e hx=>?_,I1.base.gO,I1.base.gD,I1.base.gP⟩,⟨_,kG,fun j y v' e1 e2 e3=>?_⟩,fun y c e=>?_,I1.free,I1.cH,fun p hp=>?_,fun b ob e=>?_,by simpa using I.len⟩
  · exact(tD.2 b (Nat.ne_of_lt (Nat.lt_of_lt_of_le (Heap.lt_size e) I1.ok.above))).trans (I1.base.keep b o e n hb hx)
  · obtain⟨sl,e1⟩:=I1.base.slot b o e n hb hx;exact⟨sl,(tD.2 b (Nat.ne_of_lt (Nat.lt_of_lt_of_le (Heap.lt_size e) I1.ok.above))).trans e1⟩
  · obtain⟨o',e1⟩:=I1.base.there b o e hx;exact⟨o',(tD.2 b (Nat.ne_of_lt (Nat.lt_of_lt_of_le (Heap.lt_size e) I1.ok.above))).trans e1⟩
  · have hj:j≠i:=fun z=>by
      subst z;rw[List.getElem?_set_self (by simpa using Jo)] at e2;cases e2
    rw[List.getElem?_set_ne (Ne.symm hj)] at e2;obtain⟨u',r',q⟩:=jo j y v' e1 (by rw[List.getElem?_set_ne (Ne.symm hj)];exact e2) e3;refine⟨u',r',?_⟩;rcases q with ⟨k,z⟩ | ⟨k,c,z1,z2⟩
    · refine .inl ⟨k,?_⟩;have:y≠n:=fun z=>hj (BN hN e1 (z▸hi))
      simp[this,z]
    · exact .inr ⟨k,c,z1,z2.sameBut tD (nv y c z1)⟩
  · obtain⟨w',z⟩:=I1.cell y c e;exact⟨w',z.sameBut tD (nv y c e)⟩
  · obtain⟨e,n,ne,nf,d⟩:=I1.pin p hp;exact⟨(tD.2 p.1 ne).trans e,n,ne,nf,d⟩
  · refine(I1.aI b ob e).eO (fun c w' hc q=>(tD.2 c ?_).trans q) (fun _ q=>q) fun _ _ q=>q
    rintro rfl;rcases hc with rfl | hc
    · rw[I1.free] at e;cases e
    · rw[I1.free] at hc;cases hc
end
def Cx.lH(X:Cx)(pn:List (Addr×Obj))(xe:Value->Shared->Prop):Cx:={ X with pn:=pn,xe:=xe }
def Cx.ic(X:Cx)(v:Value)(xe:Value->Shared->Prop):Cx:={ X with A:=X.A.mark (some v),calm:=false,xe:=xe }
structure Jp(X:Cx):Prop where
  st:X.stack=X.env::X.outer
  fr:X.env.frame=some X.env.locals
  ex:X.ex = []
def Jq(X:Cx)(Es:St->XK):Prop:=∀(pins:List (Addr×Obj))(σ:St)(H:Hp)(s:Shared)(u:Value)(s':Shared),Inv X pins σ H s->qb X.prog X.w X.stack H s (Es σ) u s'->X.xe u s'
def c8(e C:Addr)(dc:Option Addr):HO:=.ext fun h=>∃oe vs,h.get? e=some oe/\oe.cls = .ref C/\oe.dict=dc/\oe.data = .fields vs
abbrev TH:=Ends->St->Addr->Option Addr->Hp->Prop
def PH(X:Cx)(hs:List ExceptHandler)(th:TH):Prop:=
  ∀(pins:List (Addr×Obj))(s:Shared)(σ:St)(H:Hp)(D:Ends)(e C:Addr)(dc:Option Addr),Inv X pins σ H s->Met X pins H s.heap e (.ref C) dc->th D σ C dc H->wpAny (model X.prog X.w) X.A (handleBy (.ref e) X.env hs) (SP X pins D) X.xe s
def Ri:TH:=fun _ _ _ _ _=>False
def Jr(i:Nat)(D:Ends):Ends:={ nx:=fun σ H=>D.nx (σ.set i none) H,rt:=D.rt,bk:=fun σ H=>D.bk (σ.set i none) H,ct:=fun σ H=>D.ct (σ.set i none) H }
def DY(K:PySem.W.Frag)(i:Nat)(Dc:Addr)(ts:TS)(A3:TH):TH:=fun D σ C dc H=>∃b,PySem.W.mroIn K C (.ref Dc)=some b/\
  if b=true then ∀e,H e=none->ts (Jr i D) (σ.set i (some (.ref e))) (upd H e (c8 e C dc)) else A3 D σ C dc H
def DZ(tb:(St->XK)->TS)(th:TH):TS:=fun D σ H=>tb (fun aq cls dc H'=>∃C,cls = .ref C/\th D aq C dc H') D σ H
def Rj(sp:Sp)(j3:List V)(Es:St->XK)(t:TA):TE:=fun σ H Q=>t σ H fun vs H1=>sp (vs++j3) H1 Q (Es σ)
section
variable{X:Cx}{pins:List (Addr×Obj)}{σ:St}{H:Hp}{s:Shared}
theorem Js{v:Value}{xe:Value->Shared->Prop}(I:Inv X pins σ H s):Inv (X.ic v xe) pins σ H s:=
  ⟨⟨I.ok.mod,I.ok.kind,I.ok.glob,I.ok.blt,I.ok.above,I.ok.inj,I.ok.has,I.ok.rD,(fun z=>absurd z Bool.false_ne_true),I.ok.frames,I.ok.uo,I.ok.zU,I.ok.bs,I.ok.nu,I.ok.kq,I.ok.lO,I.ok.f7,I.ok.pH⟩,
    I.os,I.bare,I.base,I.loc,I.cell,I.free,I.cH,I.pin,I.aI,I.len⟩
theorem A4{v:Value}{xe:Value->Shared->Prop}(ok:X.Ok)(I:Inv (X.ic v xe) pins σ H s):Inv X pins σ H s:=⟨ok,I.os,I.bare,I.base,I.loc,I.cell,I.free,I.cH,I.pin,I.aI,I.len⟩
theorem Rk{xe:Value->Shared->Prop}(I:Inv X pins σ H s):Inv (X.lH (X.pn++pins) xe) [] σ H s:=
  ⟨⟨I.ok.mod,I.ok.kind,I.ok.glob,I.ok.blt,I.ok.above,I.ok.inj,I.ok.has,I.ok.rD,I.ok.hd,I.ok.frames,I.ok.uo,I.ok.zU,I.ok.bs,I.ok.nu,I.ok.kq,I.ok.lO,I.ok.f7,I.ok.pH⟩,
    I.os,I.bare,I.base,I.loc,I.cell,I.free,I.cH,fun p hp=>I.pin p ((List.mem_append.mp hp).elim id fun z=>absurd z (by simp)),I.aI,I.len⟩
theorem yv{jH:List (Addr×Obj)}{xe:Value->Shared->Prop}(ok:X.Ok)(I:Inv (X.lH (X.pn++pins) xe) jH σ H s):Inv X pins σ H s:=
  ⟨ok,I.os,I.bare,I.base,I.loc,I.cell,I.free,I.cH,fun p hp=>I.pin p (List.mem_append_left _ hp),I.aI,I.len⟩
end
section
variable{X:Cx}{CX:ku}{k i:Nat}{f Dc:Addr}{ps:List Str}{sp:Sp}{x n:Str}{p pos iC:Pos}{e:Expr}{es:List Expr}{t:TA}{Es:St->XK}{yw:Stmt}{qW body:List Stmt}{h₀:ExceptHandler}{rest hs:List ExceptHandler}{ts:TS}{A3 th:TH}{tb:(St->XK)->TS}
theorem Rl(F:bX X.prog X.w X.K X.mg X.base x ps k sp)(xe:Jq X Es)(hr:bE k X.A)(hg:Gl X x)(ha:PA X (e::es) t)(gf:(x == ("__debug__" : Str))=false:=by decide)
    (he:starEach (e::es) X.env=(false,eval e X.env)::starEach es X.env:=by rfl) (gB:(backTo pos (starEach es X.env)).any (·.1)=false:=by rfl):PE X (.Call (.Name x p) (e::es) [] pos) (Rj sp [] Es t):=by
  obtain⟨f,fd,a,kp,_,b,G⟩:=F;intro pins s σ H Q I h;refine wpAny_Call_Name_kw (rG I hg a ?_ gf);refine PySem.W.callWith_K (h₀:=X.base) I.ok.mod.zT kp (aX (ha pos pins s σ H _ I h) fun us s1 ⟨vs,H1,I1,r,q⟩=>⟨I1.gQ,?_⟩) he gB;have r2:Vals (vs++[]) (us++[]):=r.append .nil;have hl:(us++[]).length=ps.length:=by rw[←r2.length];exact G.len _ _ _ _ q
  refine wpAny_call (codeAny_mono (G.run X.A X.stack s1 H1 ⟨us,[]⟩ (us++[]) (vs++[]) Q (Es σ) hr I1.rT ((Binds.all b) s1 us I1.gQ hl) r2 q) fun r s' hq=>?_);cases r with
  | error e=>exact xe pins σ H1 s1 e s' I1 hq
  | ok fl=>
    cases fl with
    | ret u=>exact I1.after hq
    | next=>exact False.elim hq
    | brk=>exact False.elim hq
    | cont=>exact False.elim hq
theorem Rm(x:Jp X)(hb:∀pn xe(Es:St->XK),Jq (X.lH pn xe) Es->jA (X.lH pn xe) body (tb Es))(hh:PH X (h₀::hs) th):PS X (.Try body (h₀::hs) [] [] pos) (DZ tb th):=by
  intro pins s σ H D I h;refine wpAny_Try_except ?_;refine wpAny_mono (hb (X.pn++pins) (fun e aK=>wpAny (model X.prog X.w) X.A (noteFrame e X.env) (fun _ eW=>wpAny (model X.prog X.w) X.A (setFlight e none) (fun _ iV=>wpAny (model X.prog X.w) X.A (handleBy e X.env (h₀::hs)) (SP X pins D) X.xe iV) X.xe eW) X.xe aK)
    (fun aq cls dc H'=>∃C,cls = .ref C/\th D aq C dc H') (fun jH aq H' s' u oN I' Ro=>?_) [] s σ H D (Rk I) h) (fun fl s1 q=>?_) fun _ _ z=>z
  · refine Rb (yv I.ok I') x.st x.fr Ro fun e cls dc H2 h' hu I2 met hE=>?_
    subst hu;obtain⟨C,rfl,Rp⟩:=hE;exact hh pins _ aq H2 D e C dc I2 met Rp
  · cases fl with
    | next=>
      obtain⟨aq,H',J,q⟩:=q;exact wpAny_execs_nil ⟨aq,H',yv I.ok J,q⟩
    | brk=>
      obtain⟨aq,H',J,q⟩:=q;exact⟨aq,H',yv I.ok J,q⟩
    | cont=>
      obtain⟨aq,H',J,q⟩:=q;exact⟨aq,H',yv I.ok J,q⟩
    | ret u=>
      obtain⟨v,aq,H',J,r,q⟩:=q;exact⟨v,aq,H',yv I.ok J,r,q⟩
theorem Rq:PH X [] Ri:=fun _ _ _ _ _ _ _ _ _ _ h=>h.elim
theorem Rr(xf:Jp X)(hg:Gl X x)(hm:X.mg x=some (.ref Dc))(cd:kO X.K Dc)(hN:X.N.Nodup)(hi:X.N[i]? = some n)(hl:X.env.scope.names.lookup n=some .local)
    (Rt:∀v xe,jA (X.ic v xe) (yw::qW) ts) (hr:PH X rest A3) (gf:(x == ("__debug__" : Str))=false:=by decide) :
    PH X (.ExceptHandler (some (.Name x p)) (some n) (yw::qW) iC::rest) (DY X.K i Dc ts A3):=by
  intro pins s σ H D e C dc I met h;obtain⟨oe,vs,T,oT,Ru,he,hc,m7,hd,h1,o4,hT,dT,h3,F1,F2⟩:=met;obtain⟨b,hb,h⟩:=h;refine wpAny_handleBy_cons (codeAny_handlers_test (rG (X:=X.ic (.ref e) X.xe) (Js I) hg hm ?_ gf)) (by intro q;cases q);refine Rh (K:=X.K) I.gQ he hc cd hb ?_;cases b with
  | false=>
    rw[if_neg (by decide)] at h;exact hr pins s σ H D e C dc I ⟨oe,vs,T,oT,Ru,he,hc,m7,hd,h1,o4,hT,dT,h3,F1,F2⟩ h
  | true=>
    rw[if_pos rfl] at h;refine codeAny_handlers_suite_as ?_;refine wpAny_setFlight_none he hd h1 hT dT (Array.getElem?_eq_some_iff.mp h3).1 ?_;have iX:∀b,b≠T->(s.heap.update T (Obj.mapFields (·.setIfInBounds 3 .none))).get? b=s.heap.get? b:=fun b hb=>Heap.get?_update_other _ _ (Ne.symm hb)
    have I1:Inv X pins σ H { s with heap:=s.heap.update T (Obj.mapFields (·.setIfInBounds 3 .none)) }:=I.lC (t':=s.toks) (ch:=[T]) (fun b o hb q=>by rw[iX b (fun z=>hb (by simp[z]))];exact q) fun b hb=>by rw[List.mem_singleton.mp hb];exact F2
    have A5:=(iX e o4.symm).trans he;have I2:=I1.yu (a:=e) (o:=c8 e C dc) F1 xf.ex ⟨⟨oe,vs,A5,hc,m7,hd⟩,⟨oe,A5⟩,fun g1 g2 ⟨DW,uW,q1,q2⟩ kk=>⟨DW,uW,kk _ q1,q2⟩⟩;refine ur I2 hN hi (.inl hl) (v:=.ref e) rfl (fun s2 I3=>?_) (.inr hl);refine aX (Rt (.ref e) _ pins s2 _ _ (Jr i D) (Js I3) (h e F1.1)) fun fl s3 q=>?_
    cases fl with
    | next=>
      obtain⟨aq,H',J,q⟩:=q;exact A2 (A4 I.ok J) hN hi hl fun s5 J5=>⟨_,H',J5,q⟩
    | brk=>
      obtain⟨aq,H',J,q⟩:=q;exact A2 (A4 I.ok J) hN hi hl fun s5 J5=>⟨_,H',J5,q⟩
    | cont=>
      obtain⟨aq,H',J,q⟩:=q;exact A2 (A4 I.ok J) hN hi hl fun s5 J5=>⟨_,H',J5,q⟩
    | ret u=>
      obtain⟨v,aq,H',J,r,q⟩:=q;exact A2 (A4 I.ok J) hN hi hl fun s5 J5=>⟨v,_,H',J5,r,q⟩
end
end L2
namespace L2
def tE(K:PySem.W.Frag)(C:PySem.Addr):Prop:=∃bm,i8 K C bm/\b8 bm
end L2
namespace L2
open PySem
def A6(K:PySem.W.Frag)(C:Addr):Bool:=match K.lookup C with
  | some ⟨.type t,_,.cls cd,sl⟩=>t == "type" && ((match cd.mro with | .ref c::bm=>c == C&&(bm.contains (.type "ValueError")&&(bm.contains (.type "BaseException")&&(!bm.contains (.type "AttributeError") && !bm.contains (.type "NameError")))) | _=>false)&&(!cd.hasDel &&
      (match sl.toList with | [_,_,_,_,some (.builtin i),_]=>i == "ValueError.__new__" | _=>false)))
  | _=>false
theorem Rx{K:PySem.W.Frag}{C:Addr}(h:A6 K C=true):tE K C:=by
  unfold A6 at h;split at h
  · rename_i t dd cd sl hk;rw[Bool.and_eq_true,Bool.and_eq_true,Bool.and_eq_true] at h;obtain⟨h1,h2,h3,h4⟩:=h;split at h2
    · rename_i c bm hm;split at h4
      · rename_i k0 k1 k2 k3 i k5 hs;simp only[Bool.and_eq_true,beq_iff_eq,Bool.not_eq_true'] at h1 h2 h3 h4;obtain⟨rfl,a1,a2,a3,a4⟩:=h2;subst h1 h4;refine⟨bm,⟨cd.name,cd.qualname,cd.ns,cd.bases,cd.hasDict,cd.slotNames,cd.subclasses,cd.abstract,cd.collection,dd,k0,k1,k2,k3,k5,?_⟩,⟨a1,a2,a3,a4⟩⟩;rw[hk];obtain⟨x1,x2,x3,x4,x5,x6,x7,x8,x9,y1,y2⟩:=cd;dsimp only at hm h3;subst hm h3;obtain⟨l⟩:=sl;dsimp only at hs;subst hs;rfl
      · cases h4
    · cases h2
  · cases h
end L2
namespace L2
open PySem PySem.Spec PyProof.Rows
structure fX(K:PySem.W.Frag)(C:Addr):Prop where
  ga:PySem.W.findIn K (.ref C) "__getattribute__" = some (some (.builtin "BaseException.__getattribute__"))
  gn:PySem.W.findIn K (.ref C) "__getattr__" = some none
  bx:PySem.W.mroIn K C (.type "BaseException")=some true
  hd:PySem.W.hasDictIn K C=true
section
variable{prog:Program}{w:World}{A:Around}{E:Value->Shared->Prop}{s:Shared}{K:PySem.W.Frag}{x C:Addr}{ox:Obj}{od:Option Obj}{name:Str}{v:Value}{expr:Bool}{Q:Value->Shared->Prop}
theorem Ry{Qf:Prop}(X:K.In s.heap)(I:PySem.W.InstAt s.heap x ox C od)(g:fX K C)
    (h:wpAny (model prog w) A.in1 (Builtin.«object.__getattribute__» ⟨[.ref x,.str name s.toks],[]⟩)
      (fun fin s'=>match fin with | .done (.ret v)=>wpAny (model prog w) A (handedOut v) Q E s' | _=>False) (fun _ _=>False) { s with toks:=s.toks+1 }) :
    wpAny (model prog w) A (getAttr (.ref x) name expr) Q E s:=by
  have FB:=PySem.F.attrBase_ValueError;refine wpAny_bind (wpAny_mkText (wpAny_holding (wpAny_bind (I.type _ _ _ _ (fun _ _ e=>e) (wpAny_bind (PySem.W.looks_findIn X g.ga _ _ _ _ (fun _ _ e=>e) ?_))))));dsimp only;rw[show(onTheHeap (Value.ref C)&&Value.builtin "BaseException.__getattribute__" == Value.builtin "object.__getattribute__")=false from by rw[show(Value.builtin "BaseException.__getattribute__" == Value.builtin "object.__getattribute__")=false from by decide +kernel,Bool.and_false],if_neg (by decide)];refine wpAny_bind (PySem.W.looks_hook (mc:=.ref C) X (r:=none) (by rw[if_pos (show onTheHeap (Value.ref C)=true from rfl)];exact g.gn) _ _ _ _ (fun _ _ e=>e) (wpAny_bind (wpAny_attempt (wpAny_holding ?_))));unfold callGetattribute;rw[show(expr&&onTheHeap (Value.builtin "BaseException.__getattribute__"))=false from by cases expr<;>rfl,if_neg (by decide)];unfold boundAndCalled;rw[FB.ga.bind];refine wpAny_bind (wpAny_pure ?_);show wpAny _ _ (call (.builtin "BaseException.__getattribute__") [.ref x,.str name s.toks]) _ _ _;refine wpAny_call ?_;refine codeAny_call_builtin FB.ga.plain PySem.F.entry_bexc_ga ?_;refine @PySem.W.check_slot (model prog w) _ _ { s with toks:=s.toks+1 } "BaseException.__getattribute__" "BaseException" "__getattribute__" (.ref x) [.str name s.toks] [] _ (by decide +kernel) (by decide +kernel) (I.type.andThen (PySem.W.looks_mroIn X g.bx)) (PySem.F.args_bexc_ga (.ref x) (.str name s.toks)) ?_;refine wpAny_mono h (fun fin s' z=>?_) fun _ _ z=>z.elim
  rcases fin with (_ | _ | _ | _) | _<;>first | exact z | exact z.elim
theorem Rz(X:K.In s.heap)(I:PySem.W.InstAt s.heap x ox C od)(g:fX K C)
    (hf:PySem.W.findObj K C od name=some (.value v)) (hh:PySem.W.handedIn v=true) (h:Q v { s with toks:=s.toks+1 }):wpAny (model prog w) A (getAttr (.ref x) name expr) Q E s:=by
  refine Ry (Qf:=True) X I g ?_;obtain⟨W6,g,d,t,os⟩:=s;have L0:=I.type (M:=model prog w);have L1:=PySem.W.looks_find (M:=model prog w) X I hf;unfold Builtin.«object.__getattribute__»;refine wpAny_bind (wpAny_pure (wpAny_bind (wpAny_pure (wpAny_bind (L0.at (wpAny_bind (L1.at ?_)))))));refine wpAny_pure ?_;show wpAny _ _ (handedOut v) _ _ _;rw[PySem.W.handedOut_of hh];exact wpAny_pure h
end
def Jt(K:PySem.W.Frag)(ta:TE)(f:Str):TE:=fun σ H Q=>ta σ H fun x H1=>∃a C d fs v,x = .ref a/\H1 a=some (c8 a C (some d))/\H1 d=some (.xd fs)/\fX K C/\dB K C f/\fs.lookup f=some v/\Q v H1
section
variable{X:Cx}{pins:List (Addr×Obj)}{σ:St}{H:Hp}{s:Shared}{a C d:Addr}{fs:List (Str×V)}{f:Str}{v:V}{A:Around}{E:Value->Shared->Prop}
theorem RA{b:Bool}{Q:Value->Shared->Prop}(I:Inv X pins σ H s)(e:H a=some (c8 a C (some d)))(ed:H d=some (.xd fs))(c:fX X.K C)(n:dB X.K C f)(l:fs.lookup f=some v)
    (h:∀u s',Inv X pins σ H s'->RelV v u->Q u s'):wpAny (model X.prog X.w) A (getAttr (.ref a) f b) Q E s:=by
  obtain⟨⟨oe,vs,h1,h2,h3,h4⟩,_,_⟩:=(show aP X.prog X.w H s.heap a (c8 a C (some d)) from I.aI a _ e);obtain⟨mA,ns,r⟩:=(show aP X.prog X.w H s.heap d (.xd fs) from I.aI d _ ed);obtain⟨u,hu,ru⟩:=fG.some_of (v:=v) (o:=mA f) (by rw[←l];exact r f);obtain⟨od,ho,hl⟩:=FH ns;have J:PySem.W.InstAt s.heap a oe C (some od):=⟨h1,h2,by unfold PySem.W.notCls;rw[h4],by rw[h3];exact ho⟩;exact Rz I.gQ J c (PySem.W.findObj_own c.hd n rfl (by rw[hl,hu])) (Mq ru) (h u _ (I.tok _) ru)
end
section
variable{X:Cx}{e:Expr}{f:Str}{pos:Pos}{ta:TE}
theorem RB(he:PE X e ta)(hb:attributeBase e f X.env (eval e X.env)=eval e X.env):PE X (.Attribute e f pos) (Jt X.K ta f):=by
  intro pins s σ H Q I h;refine Mr hb (aX (he pins s σ H _ I h) fun u s1 aE=>?_);obtain⟨x,H1,I1,rx,a,C,d,fs,v,ex,ea,ed,c,n,l,q⟩:=aE;subst ex;obtain rfl:u=Value.ref a:=rx;exact RA I1 ea ed c n l fun u' s2 I2 ru=>⟨v,H1,I2,ru,q⟩
end
structure i6(K:PySem.W.Frag)(C:Addr):Prop where
  ha:PySem.W.findIn K (.ref C) "__class__" = some (some (.builtin "object.__class__"))
  hn:PySem.W.specialIn K (.builtin "object.__class__") "__get__" = some (some (.builtin "getset_descriptor.__get__"))
  Ju:PySem.W.takesIn K (.builtin "object.__class__")=some true
  hm:PySem.W.mroIn K C (.type "object")=some true
end L2
namespace L2
open PySem
def qd(C:Addr)(o:Obj):Bool:=(match o with
  | ⟨.type t,_,.cls cd,sl⟩=>t == "type" && ((match cd.mro with | .ref c::bm=>c == C&&(bm.contains (.type "ValueError")&&(bm.contains (.type "BaseException")&&(!bm.contains (.type "AttributeError") && !bm.contains (.type "NameError")))) | _=>false)&&(!cd.hasDel &&
      (match sl.toList with | [_,_,_,_,some (.builtin i),_]=>i == "ValueError.__new__" | _=>false)))
  | _=>false)&&(match o.data with | .cls cd=>o5 cd.mro | _=>false)
theorem Jv{K:PySem.W.Frag}{C:Addr}{c0:Value}{dd:Option Addr}{cd:ClassData}{sl:Array (Option Value)}(l:K.lookup C=some ⟨c0,dd,.cls cd,sl⟩)(h:qd C ⟨c0,dd,.cls cd,sl⟩=true):A6 K C=true/\DS K C=true:=by
  unfold qd at h;rw[Bool.and_eq_true] at h;refine⟨?_,?_⟩
  · unfold A6;rw[l];cases c0<;>first | exact h.1 | (have:=h.1;cases this)
  · unfold DS PySem.W.clsIn;rw[l];exact h.2
theorem lI{K:PySem.W.Frag}{C:Addr}{c0:Value}{dd:Option Addr}{cd:ClassData}{sl:Array (Option Value)}(l:K.lookup C=some ⟨c0,dd,.cls cd,sl⟩)(h:qd C ⟨c0,dd,.cls cd,sl⟩=true)(h1:PySem.W.hasDictIn K C=true)
    (h2:PySem.W.findIn K (.ref C) "__setattr__" = some (some (.builtin "object.__setattr__"))):mD K C:=⟨h1,(Jv l h).2,h2⟩
theorem kP{K:PySem.W.Frag}{C:Addr}{c0:Value}{dd:Option Addr}{cd:ClassData}{sl:Array (Option Value)}(l:K.lookup C=some ⟨c0,dd,.cls cd,sl⟩)(h:qd C ⟨c0,dd,.cls cd,sl⟩=true):tE K C:=Rx (Jv l h).1
end L2
namespace L2
open PySem PySem.Spec PyProof.Rows
section
variable{X:Cx}{k:Nat}{C:Addr}{ps:List Str}{sp:Sp}{E:XK}{x:Str}{p pos aS:Pos}{e:Expr}{es:List Expr}{t:TA}
theorem Jw(M:pV X.prog X.w X.K X.mg X.base C "__init__" ps k sp)(xo:tE X.K C)(hr:bE (k+1) X.A)(xe:iI X E)(hg:Gl X x)(hm:X.mg x=some (.ref C))(yq:ps.length<=1000)(ha:PA X (e::es) t)
    (gf:(x == ("__debug__" : Str))=false:=by decide) (he:starEach (e::es) X.env=(false,eval e X.env)::starEach es X.env:=by rfl) (gB:(backTo aS (starEach es X.env)).any (·.1)=false:=by rfl) :
    PS X (.Raise (some (.Call (.Name x p) (e::es) [] aS)) none pos) (Jl C sp [] E (fun _ _ _=>False) t):=by
  obtain⟨f,fd,m,b,F⟩:=M;obtain⟨bm,xo,U⟩:=xo;exact Q9 ⟨xo,U,m.at_,m.fn⟩ F hr xe (fun _ _ _ _ _ _ _ z=>z.elim) hg hm (.all b) .nil yq ha gf he gB
end
theorem Jx{X:Cx}{e:Expr}{f:Str}{pos:Pos}{ta:TE}(K:PySem.W.Frag)(h:X.K=K)(he:PE X e ta)(hb:attributeBase e f X.env (eval e X.env)=eval e X.env):PE X (.Attribute e f pos) (Jt K ta f):=h▸RB he hb
section
variable{prog:Program}{w:World}{A:Around}{E:Value->Shared->Prop}{s:Shared}{env:Env}{bm:List Value}
theorem RC{x:Str}{C:Addr}{vI:Value}{np aS pos:Pos}{Q:Flow->Shared->Prop}(U:b8 bm)(hh:A.handled=none)
    (k:wpAny (model prog w) A (eval (.Name x np) env) (fun f s2=>f = .ref C/\gU s2.heap C bm/\PySem.W.Looks (model prog w) s2.heap (typeLookup (.ref C) "__init__") (some vI)/\(∀self,PySem.W.Looks (model prog w) s2.heap (bindSpecial vI self) (vI,[self]))/\
        ∀h' e,s2.heap.objs.size<=e->Heap.MadeExcOf s2.heap h' e (.ref C) []->wpAny (model prog w) (A.under (.builtin "type.__call__" ⟨[.ref C],[]⟩)) (call vI [.ref e])
          (fun r s3=>r = .none/\∃oe vs,gU s3.heap C bm/\s3.heap.get? e=some oe/\oe.cls = .ref C/\oe.data = .fields vs/\vs[1]? = some .none/\E (.ref e) s3) E { s2 with heap:=h' }) E s) :
    wpAny (model prog w) A (exec (.Raise (some (.Call (.Name x np) [] [] aS)) none pos) env) Q E s:=by
  rw[arm_exec_Raise];simp only[evalOpt,Option.map];refine wpAny_bind (wpAny_standAt (IY U hh (wpAny_bind (wpAny_mono (wpAny_Call_ofName (wpAny_mono k (fun f s2 k2=>?_) fun _ _ z=>z)) (fun v s3 k3=>wpAny_bind (wpAny_standAt (wpAny_pure k3))) fun _ _ z=>z))));obtain⟨rfl,xo,lk,bd,go⟩:=k2;unfold callWith;refine wpAny_bind (wpAny_holding (PySem.evalArgs_none (wpAny_bind (wpAny_standAt ?_))));obtain⟨hp,g,d,tk,os⟩:=s2;have any:(backTo aS (starEach [] env)).any (·.1)=false:=rfl;simp only[any];have DR:=xo;obtain⟨a1,a2,a3,a4,a5,a6,a7,a8,a9,b1,b2,b3,b4,b5,b6,o⟩:=DR;refine wpAny_bind (wpAny_keeperOf_exc o ?_);refine wpAny_bind (IX (us:=[]) U xo (Nat.zero_le _) lk bd fun h' e hs hm=>wpAny_mono (go h' e hs hm) (fun r s3 q=>?_) fun _ _ z=>z);obtain⟨r0,oe,vs,q⟩:=q;exact⟨r0,wpAny_bind (wpAny_holding (wpAny_point (wpAny_pure ⟨e,C,oe,vs,rfl,q⟩)))⟩
end
def RD(C:Addr)(E:XK):TS:=fun _ _ H=>E (.ref C) none H
section
variable{X:Cx}{k:Nat}{C:Addr}{E:XK}{x:Str}{p pos aS:Pos}
theorem Jy(xo:tE X.K C)(hi:PySem.W.findIn X.K (.ref C) "__init__" = some (some (.builtin "ValueError.__init__")))(hr:bE k X.A)(xe:iI X E)(hg:Gl X x)(hm:X.mg x=some (.ref C))(gf:(x == ("__debug__" : Str))=false:=by decide) :
    PS X (.Raise (some (.Call (.Name x p) [] [] aS)) none pos) (RD C E):=by
  obtain⟨bm,xo,U⟩:=xo;intro pins s σ H D I h;have F:=PySem.F.excBase_ValueError;refine RC (vI:=.builtin "ValueError.__init__") U hr.hd (rG I hg hm ⟨rfl,xo.in I.gQ,PySem.W.looks_findIn I.gQ hi,fun self=>PySem.W.Looks.of_pure (F.init.bind self),fun h' e hs yr=>?_⟩ gf);obtain⟨t0,h1,_,_⟩:=yr.there;have I2:Inv X pins σ H { s with heap:=h' }:=I.kept (t':=s.toks) yr.keeps;have Fp:d8 X pins H e:=I.jh hs (I.aI.fresh hs);obtain⟨hp,g,d,tk,os⟩:=s;refine Je (us:=[]) U (xo.in I2.gQ) (Nat.zero_le _) h1 rfl rfl rfl fun RE kk hx=>?_
  have I3:Inv X pins σ H { heap:=RE,gens:=g,drawn:=d,toks:=tk,os:=os }:=I2.lC (t':=tk) (ch:=[e]) (fun b o hb q=>kk b o (fun z=>hb (by simp[z])) q) fun b hb=>by rw[List.mem_singleton.mp hb];exact Fp
  exact⟨rfl,_,_,xo.in I3.gQ,hx,rfl,rfl,rfl,Jc I3 xe ⟨_,_,hx,rfl,rfl,rfl,rfl,Fp.1,Nat.le_trans I.sz hs⟩ h⟩
end
section
variable{prog:Program}{w:World}{A:Around}{E:Value->Shared->Prop}{s:Shared}{K:PySem.W.Frag}{x C:Addr}{ox:Obj}{od:Option Obj}{name:Str}{v:Value}{fill expr:Bool}{tk:Tok}
theorem Jz{Q:Value->Shared->Prop}(X:K.In s.heap)(I:PySem.W.InstAt s.heap x ox C od)(g:fX K C)
    (h:wpAny (model prog w) A.in1 (Builtin.«object.__getattribute__» ⟨[.ref x,.str name tk],[]⟩)
      (fun fin s'=>match fin with | .done (.ret v)=>wpAny (model prog w) A (handedOut v) Q E s' | _=>False) (fun _ _=>False) s) :
    wpAny (model prog w) A (getAttrBy (.ref x) (.str name tk) fill expr) Q E s:=by
  have FB:=PySem.F.attrBase_ValueError;unfold getAttrBy;refine wpAny_holding (wpAny_bind (I.type _ _ _ _ (fun _ _ e=>e) (wpAny_bind (PySem.W.looks_findIn X g.ga _ _ _ _ (fun _ _ e=>e) ?_))));dsimp only;rw[show(onTheHeap (Value.ref C)&&Value.builtin "BaseException.__getattribute__" == Value.builtin "object.__getattribute__")=false from by rw[show(Value.builtin "BaseException.__getattribute__" == Value.builtin "object.__getattribute__")=false from by decide +kernel,Bool.and_false],if_neg (by decide)];refine wpAny_bind (PySem.W.looks_hook (mc:=.ref C) X (r:=none) (by rw[if_pos (show onTheHeap (Value.ref C)=true from rfl)];exact g.gn) _ _ _ _ (fun _ _ e=>e) (wpAny_bind (wpAny_attempt (wpAny_holding ?_))));unfold callGetattribute;rw[show(expr&&onTheHeap (Value.builtin "BaseException.__getattribute__"))=false from by cases expr<;>rfl,if_neg (by decide)];unfold boundAndCalled;rw[FB.ga.bind];refine wpAny_bind (wpAny_pure ?_);show wpAny _ _ (call (.builtin "BaseException.__getattribute__") [.ref x,.str name tk]) _ _ _;refine wpAny_call ?_;refine codeAny_call_builtin FB.ga.plain PySem.F.entry_bexc_ga ?_;refine @PySem.W.check_slot (model prog w) _ _ s "BaseException.__getattribute__" "BaseException" "__getattribute__" (.ref x) [.str name tk] [] _ (by decide +kernel) (by decide +kernel) (I.type.andThen (PySem.W.looks_mroIn X g.bx)) (PySem.F.args_bexc_ga (.ref x) (.str name tk)) ?_;refine wpAny_mono h (fun fin s' z=>?_) fun _ _ z=>z.elim
  rcases fin with (_ | _ | _ | _) | _<;>first | exact z | exact z.elim
theorem RG{Q:Option Value->Shared->Prop}(X:K.In s.heap){od:Obj}(I:PySem.W.InstAt s.heap x ox C (some od))(g:fX K C)(i:i6 K C)(h:Q (some (.ref C)) { s with toks:=s.toks+1 }):wpAny (model prog w) A (getAttr? (.ref x) "__class__") Q E s:=by
  have hf:PySem.W.findObj K C (some od) "__class__" = some (.bind (.builtin "getset_descriptor.__get__") (.builtin "object.__class__")):=PySem.W.findObj_data (by obtain⟨cd,hc,_⟩:=PySem.W.any_some g.hd;rw[hc];rfl) i.ha i.hn i.Ju;refine wpAny_bind (wpAny_mkText (wpAny_bind (wpAny_attempt (Jz (s:={ s with toks:=s.toks+1 }) X I g ?_))));have L0:=I.type (M:=model prog w);have L1:=PySem.W.looks_find (M:=model prog w) X I hf;unfold Builtin.«object.__getattribute__»;refine wpAny_bind (wpAny_pure (wpAny_bind (wpAny_pure (wpAny_bind (L0 _ _ _ _ (fun _ _ e=>e) (wpAny_bind (L1 _ _ _ _ (fun _ _ e=>e) ?_)))))));show wpAny (model prog w) A.in1 (holding [.builtin "object.__class__"] (call (.builtin "getset_descriptor.__get__") [.builtin "object.__class__",.ref x,.ref C]) >>= ret) _ _ _;refine wpAny_bind (wpAny_holding (wpAny_call (PySem.W.class_get (s:={ s with toks:=s.toks+1 }) X I i.hm ?_)));exact wpAny_pure (PySem.W.handed_on rfl (wpAny_pure h))
theorem RH{od:Obj}(g:fX K C)(i:i6 K C):PySem.W.KitX K (.ref x) (.ref C) (fun h=>PySem.W.InstAt h x ox C (some od)) where
  ty:=fun _ _ _ I=>I.type
  it:=fun _ _ X _=>by
    obtain⟨D0,jR,_⟩:=PySem.W.any_some g.hd;unfold PySem.W.clsIn at jR;split at jR
    · rename_i c' d' D5 rE ho;intro A' Q' E' s' k q;unfold isType loadHead;exact wpAny_bind (wpAny_loadPart (k _ _ (X _ _ ho)) (wpAny_pure q))
    · cases jR
  ne:=fun h tp dd its n sl X D6=>by
    obtain⟨D0,jR,_⟩:=PySem.W.any_some g.hd;refine Bool.eq_false_iff.mpr fun q=>?_
    have e:C=tp:=Value.ref.inj (beq_iff_eq.mp q);subst e;unfold PySem.W.clsIn at jR;split at jR
    · rename_i c' d' D5 rE ho;have z:=(X _ _ ho).symm.trans D6;cases z
    · cases jR
  ca:=fun X I k=>RG X I g i k
end
section
variable{X:Cx}
theorem RI{pins:List (Addr×Obj)}{σ:St}{H:Hp}{s:Shared}{a C d:Addr}{fs:List (Str×V)}{c:Value}{b:Bool}{Q:VK}(I:Inv X pins σ H s)(ea:H a=some (c8 a C (some d)))(ed:H d=some (.xd fs))(g:fX X.K C)(i:i6 X.K C)(e:PySem.W.kitOne X.K (.ref C) c=some b)(q:Q (.bl b) H) :
    wpAny (model X.prog X.w) X.A (call (.builtin "isinstance") [.ref a,c]) (EP X pins σ Q) X.xe s:=by
  obtain⟨⟨oe,vs,h1,h2,h3,h4⟩,_,_⟩:=(show aP X.prog X.w H s.heap a (c8 a C (some d)) from I.aI a _ ea);obtain⟨mA,ns,r⟩:=(show aP X.prog X.w H s.heap d (.xd fs) from I.aI d _ ed);obtain⟨od,ho,hl⟩:=FH ns;have J:PySem.W.InstAt s.heap a oe C (some od):=⟨h1,h2,by unfold PySem.W.notCls;rw[h4],by rw[h3];exact ho⟩;exact PySem.W.kia_one (RH g i) I.gQ J e (fun z=>nomatch z) fun tk=>⟨.bl b,H,I.tok tk,rfl,q⟩
end
open Sem (wp)
namespace Rv
theorem slot_next:Slot "list_reverseiterator" "__next__" "list_reverseiterator.__next__":=
  .of (owner:="list_reverseiterator") (n:="__next__") (by rw[typeLookup_type,builtinLookup_eq_fast];kernel_rfl) (by decide +kernel) (by decide +kernel) (by decide +kernel)
    (by first | exact .inl (by decide +kernel) | exact .inr (by decide +kernel)) (by rw[isSubtype_type];kernel_rfl)
theorem i9:Slot "list_reverseiterator" "__iter__" "list_reverseiterator.__iter__":=
  .of (owner:="list_reverseiterator") (n:="__iter__") (by rw[typeLookup_type,builtinLookup_eq_fast];kernel_rfl) (by decide +kernel) (by decide +kernel) (by decide +kernel)
    (by first | exact .inl (by decide +kernel) | exact .inr (by decide +kernel)) (by rw[isSubtype_type];kernel_rfl)
theorem entry_next:entryFor table "list_reverseiterator.__next__" = some Builtin.«list_reverseiterator.__next__»:=entryFor_of_tree (by kernel_rfl)
theorem kT:entryFor table "list_reverseiterator.__iter__" = some Builtin.«dict_keyiterator.__iter__»:=
  entryFor_alias (id':="dict_keyiterator.__iter__") (by kernel_rfl) (by first | rfl | decide +kernel | (unfold String.splitOn;simp +decide [String.splitOnAux])) (by decide +kernel) (by kernel_rfl)
theorem owner:Manifest.owners.lookup (String.ofList ['r','o','t','a','r','e','t','i','e','s','r','e','v','e','r','_','t','s','i','l'].reverse)=some Manifest.sig_list_reverseiterator:=by kernel_rfl
theorem args_next(a:Value):argsOk "list_reverseiterator.__next__" ⟨[a],[]⟩:=by
  unfold argsOk;rw[signature?_of (id:="list_reverseiterator.__next__") (n:="__txen__".toList) (o:="rotaretiesrever_tsil".toList) (by kernel_rfl) owner]
  kernel_rfl
theorem mE(a:Value):argsOk "list_reverseiterator.__iter__" ⟨[a],[]⟩:=by
  unfold argsOk;rw[signature?_of (id:="list_reverseiterator.__iter__") (n:="__reti__".toList) (o:="rotaretiesrever_tsil".toList) (by kernel_rfl) owner]
  kernel_rfl
theorem mro_reversed:mroOf (.type "reversed")=pure [.type "reversed",.type "object"]:=by rw[mroOf_type];kernel_rfl
theorem RJ:typeLookup (.type "reversed") "__new__" = pure (some (.builtin "reversed.__new__")):=by rw[typeLookup_type,builtinLookup_eq_fast];kernel_rfl
theorem made:Bind.madeBy (.type "reversed")=pure (some "reversed.__new__"):=madeBy_type mro_reversed RJ (by decide +kernel)
theorem typeCall(a:Value):checkTypeCall "reversed" ⟨[a],[]⟩=pure ():=by kernel_rfl
theorem qe(a:Value):checkBuiltinCall "reversed.__new__" ⟨[.type "reversed",a],[]⟩=pure ():=by kernel_rfl
theorem dX:entryFor table "reversed.__new__" = some Builtin.«reversed.__new__»:=entryFor_of_tree (by kernel_rfl)
theorem tF:isSubtype (.type "list_reverseiterator") (.type "reversed")=pure false:=by rw[isSubtype_type];kernel_rfl
theorem sub_self:isSubtype (.type "reversed") (.type "reversed")=pure true:=by rw[isSubtype_type];kernel_rfl
theorem n9:isSubtype (.type "dict") (.type "dict")=pure true:=by rw[isSubtype_type];kernel_rfl
end Rv
def ff(h:Heap)(it l:Addr)(j:Int):Prop:=∃o,h.get? it=some o/\o.cls = .type "list_reverseiterator"/\o.data = .fields #[.ref l,.int j 0]
theorem ff.typeIs{s:Shared}{it l:Addr}{j:Int}(x:ff s.heap it l j):s.TypeIs (.ref it) "list_reverseiterator":=let ⟨o,ho,hc,_⟩:=x;⟨o,ho,hc⟩
theorem ff.at{h h':Heap}{it l:Addr}{j:Int}(x:ff h it l j)(e:∀o,h.get? it=some o->h'.get? it=some o):ff h' it l j:=let ⟨o,ho,r⟩:=x;⟨o,e _ ho,r⟩
section
variable{prog:Program}{w:World}{A:Around}{E:Value->Shared->Prop}{s:Shared}
theorem JA{it l:Addr}{j:Int}{Q:Value->Shared->Prop}(hit:ff s.heap it l j)(h:Q (.ref it) s):wpAny (model prog w) A (pyIter (.ref it)) Q E s:=by
  refine wpAny_pyIter_slot hit.typeIs Rv.i9 (wpAny_call_entry Rv.i9 hit.typeIs Rv.kT ?_ (Rv.mE _));show wpAny _ _ (ret (.ref it)) _ _ s;exact wpAny_pure ⟨_,rfl,"list_reverseiterator",_,hit.typeIs,Rv.slot_next.lookup,h⟩
theorem RK{it l:Addr}{j:Nat}{items:Array Value}{x:Value}{Q:Option Value->Shared->Prop}(hit:ff s.heap it l (j:Int))(hl:s.heap.IsList l items)(hx:items[j]? = some x)
    (hQ:∀h',ff h' it l ((j:Int)-1)->Heap.SameBut it s.heap h'->Q (some x) { s with heap:=h' }):wpAny (model prog w) A (pyNext (.ref it)) Q E s:=by
  obtain⟨o,ho,hc,hd⟩:=id hit;obtain⟨ol,RL,_,nl,RM⟩:=hl;unfold pyNext;refine wpAny_bind (wpAny_attempt (wpAny_callSpecial?_slot (name:=Str.ofString "__next__") hit.typeIs Rv.slot_next (wpAny_call_entry Rv.slot_next hit.typeIs Rv.entry_next ?_ (Rv.args_next _))));show wpAny _ _ (field (.ref it) 1 >>= _) _ _ s;refine wpAny_bind (wpAny_field ho hd (x:=.int j 0) rfl ?_);show wpAny _ _ (if(j:Int)<0 then _ else _) _ _ s;rw[if_neg (by omega)];show wpAny _ _ (field (.ref it) 0 >>= _) _ _ s;refine wpAny_bind (wpAny_field ho hd (x:=.ref l) rfl ?_);refine wpAny_bind (wpAny_seqItems RL RM ?_);simp only[Int.toNat_natCast,hx];refine wpAny_bind (wpAny_setField ho hd (by simp) (wpAny_pure ⟨x,rfl,wpAny_pure (hQ _ ?_ (Heap.SameBut.update ..))⟩));exact⟨_,Heap.get?_update_self _ ho (Obj.isFreed_of_fields (Obj.data_mapFields hd _)),(Obj.cls_mapFields ..).trans hc,by rw[Obj.data_mapFields hd];simp[rawInt]⟩
theorem RN{it l:Addr}{j:Int}{Q:Option Value->Shared->Prop}(hh:A.handled=none)(hit:ff s.heap it l j)(hj:j<0)
    (hQ:∀h',(∀b o,s.heap.get? b=some o->h'.get? b=some o)->Q none { s with heap:=h' }):wpAny (model prog w) A (pyNext (.ref it)) Q E s:=by
  obtain⟨o,ho,hc,hd⟩:=id hit;unfold pyNext;refine wpAny_bind (wpAny_attempt (wpAny_callSpecial?_slot (name:=Str.ofString "__next__") hit.typeIs Rv.slot_next (wpAny_call_entry Rv.slot_next hit.typeIs Rv.entry_next ?_ (Rv.args_next _))));show wpAny _ _ (field (.ref it) 1 >>= _) _ _ s;refine wpAny_bind (wpAny_field ho hd (x:=.int j 0) rfl ?_);show wpAny _ _ (if j<0 then _ else _) _ _ s;rw[if_pos hj];refine wpAny_bind (wpAny_rule (wpAny_bind ?_));show wpAny _ _ (newExc (.type "StopIteration") [] >>= _) _ _ _;refine wpAny_bind ?_;simp only[newExc,newTuple];refine wpAny_bind (wpAny_newObj_type ?_ (by size_fits));refine wpAny_bind (m:=firstArgMember _ _) (wpAny_of_eq (a:=Value.none) (by first | rfl | (simp only[firstArgMember];rfl)) ?_);refine wpAny_newObj_type ?_ (by size_fits);simp only[raiseNew];refine wpAny_bind (wpAny_handled ?_);rw[show A.in1.handled=none from hh];refine wpAny_bind (wpAny_pure (wpAny_throw ?_));refine wpAny_bind (wpAny_isInstance (T:="StopIteration") (b:=true) ⟨_,Heap.get?_push_size _ rfl,rfl⟩ isSubtype_stop ?_);exact wpAny_pure (hQ _ fun b o e=>Heap.get?_push_of_some _ (Heap.get?_push_of_some _ e))
end
def uX(K:PySem.W.Frag)(a:Addr)(xs:List V):It:=
  ⟨fun i H=>ao K H a xs/\i<xs.length,fun i H x H'=>H'=H/\xs.reverse[i]? = some x,fun i _=>xs.length<=i⟩
theorem RO{P:Program}{w:World}{K:PySem.W.Frag}{tg:Expr}(a it:Addr)(xs:List V):Turn P w K tg (uX K a xs) [it] it (fun i h=>ff h it a ((xs.length:Int)-1-i)) where
  mem:=by simp
  obj:=fun i h st b hb=>by
    have e:b=it:=by simpa using hb
    subst e;obtain⟨o,e,c,d⟩:=st;exact⟨o,e,fun v z=>by rw[d] at z;cases z⟩
  keep:=fun i h h' st k=>st.at fun o e=>k it (by simp) o e
  item:=by
    intro X hP hw hK hc i pins s σ H E I hf st hg;subst hP hw hK;obtain⟨hq,hi⟩:=hg;obtain⟨its,rv,p,hz⟩:=I.list hq;have hx:xs[xs.length-1-i]? = some (xs[xs.length-1-i]'(by omega)):=List.getElem?_eq_getElem _;obtain⟨u,hu,ru⟩:=rv.get hx;obtain⟨f0,f1,f2,f3,f4,f5⟩:=hf it (by simp);have ej:(xs.length:Int)-1-i=((xs.length-1-i:Nat):Int):=by omega
    rw[ej] at st;refine RK st p.isList (x:=u) (by simpa using hu) fun h' jI sb=>?_
    have I1:Inv X pins σ H { s with heap:=h' }:=I.turned (t':=s.toks) (fun b o hb e=>(sb.2 b hb).trans e) f0 f1 f3 f4 f5;obtain⟨o,e,c,d⟩:=id jI;refine⟨u,rfl,Ab (s:={ s with heap:=h' }) e c d (by decide) ⟨_,H,I1,ru,⟨rfl,?_⟩,?_,fun b hb=>(hf b hb).1⟩⟩
    · rw[List.getElem?_reverse hi];exact hx
    · show ff h' it a ((xs.length:Int)-1-(i+1:Nat));have:(xs.length:Int)-1-(i+1:Nat)=((xs.length-1-i:Nat):Int)-1:=by omega
      rw[this];exact jI
  done:=by
    intro X hP hw hK hc i pins s σ H E I hf st hg;subst hP hw hK;have hg:xs.length<=i:=hg;exact RN (I.ok.hd hc) st (by omega) fun h' eb=>⟨rfl,I.kept (t':=s.toks) eb⟩
  self:=fun _ _ _ _ _ st h=>JA st h
def uY(l:Addr)(n:Nat):Obj:={ cls:=.type "list_reverseiterator",data:=.fields #[.ref l,rawInt ((n:Int)-1)] }
theorem RP(l:Addr)(items:Array Value) :
    Meets (Builtin.«list.__reversed__» ⟨[.ref l],[]⟩) (fun _ R s=>s.heap.IsList l items/\R (.ok (.ret (.ref s.heap.objs.size))) { s with heap:=s.heap.push (uY l items.size) }):=
  .of_wp fun prog w A R s h=>by
    obtain⟨hl,h⟩:=h;obtain⟨o,ho,hc,n,hd⟩:=hl
    wp_walk
    rw[hd]
    wp_walk
    exact⟨_,rfl,h⟩
theorem RQ(l:Addr)(items:Array Value) :
    Meets (Builtin.«reversed.__new__» ⟨[.type "reversed",.ref l],[]⟩) (fun _ R s=>s.heap.IsList l items/\R (.ok (.ret (.ref s.heap.objs.size))) { s with heap:=s.heap.push (uY l items.size) }):=
  .of_wp fun prog w A R s h=>by
    obtain⟨hl,h⟩:=h;have hT:=hl.typeIs;have hk:=F.slot_list_reversed.lookup;have hb:=F.slot_list_reversed.bind (.ref l);have sub:=Rv.sub_self
    wp_walk
    refine codeAny_mono (codeAny_call_builtin F.slot_list_reversed.plain F.entry_list_reversed (F.slot_list_reversed.check _ _ _ _ _ _ _ _ hT (F.args_list_reversed_1 _) (RP l items prog w A.in1
      (wants (fun v s1=>v = .ref s.heap.objs.size/\s1 = { s with heap:=s.heap.push (uY l items.size) }) (fun e s'=>R (.error e) s')) s ⟨hl,rfl,rfl⟩))) fun r s1 hr=>?_
    cases r with
    | error e=>exact hr
    | ok fl=>
      cases fl with
      | ret obj=>
        obtain⟨rfl,rfl⟩:=hr;exact wpAny_pure ⟨_,rfl,h⟩
      | _=>exact hr.elim
section
variable{prog:Program}{w:World}{A:Around}{E:Value->Shared->Prop}{s:Shared}
theorem RS{l:Addr}{items:Array Value}{Q:Value->Shared->Prop}(hl:s.heap.IsList l items)
    (h:Q (.ref s.heap.objs.size) { s with heap:=s.heap.push (uY l items.size) }):wpAny (model prog w) A (call (.type "reversed") [.ref l]) Q E s:=by
  have W7:=Rv.typeCall (.ref l);have JB:=Rv.made;have RT:=Rv.mro_reversed;refine wpAny_call (codeAny_of_tree ?_);show wpAny (model prog w) _ (callAny (.type "reversed") _) _ _ _;refine wpAny_pure ⟨Code.quiet_builtin _ (by decide +kernel),codeAny_builtin F.entry_type_call ?_⟩;rw[Around.under_plain (weight_type_call_type "reversed" [.ref l] []) (units_type_call_type "reversed" [.ref l] [])];have h1:(Value.type "reversed" == Value.type "type")=false:=by decide +kernel
  have h2:((Manifest.find? "reversed").bind (·.mro.findSome? fun t=>(Manifest.find? t).bind fun b=>if b.noNew then some true else if b.attrs.any (·.1 == "__new__") then some false else none)).getD false=false:=by decide +kernel
  repeat (any_goals first | wp_step | assumption)
  refine codeAny_mono (codeAny_call_builtin (by decide +kernel) Rv.dX (wpAny_of_eq (Rv.qe _) (RQ l items prog w A.in1
    (wants (fun obj s1=>obj = .ref s.heap.objs.size/\s1 = { s with heap:=s.heap.push (uY l items.size) }) E) s ⟨hl,rfl,rfl⟩))) fun r s1 hr=>?_
  cases r with
  | error e=>exact hr
  | ok fl=>
    cases fl with
    | ret obj=>
      obtain⟨rfl,rfl⟩:=hr;have hT:({ s with heap:=s.heap.push (uY l items.size) }:Shared).TypeIs (.ref s.heap.objs.size) "list_reverseiterator":=⟨_,Heap.get?_push_size _ rfl,rfl⟩;have RU:=Rv.tF
      repeat (any_goals first | wp_step | assumption)
    | _=>exact hr.elim
end
def yx(K:PySem.W.Frag)(te:TE):TI:=fun σ H R=>te σ H fun x H1=>∃l xs,x = .ref l/\ao K H1 l xs/\R (uX K l xs) H1
section
variable{X:Cx}{tg:Expr}
theorem RV{e:Expr}{te:TE}{p pos:Pos}(hg:Gl X "reversed")(hm:X.mg "reversed" = none)(he:PE X e te)(hs:starEach [e] X.env = [(false,eval e X.env)]:=by rfl) :
    PI X tg (.Call (.Name "reversed" p) [e] [] pos) (yx X.K te):=by
  intro pins s σ H R I h;refine Call_ (vJ I hg hm boot_reversed (PyProof.Rows.callWith_type1 (aX (za he zf hs pos pins s σ H (fun vs H1=>match vs with | [x]=>∃l xs,x = .ref l/\ao X.K H1 l xs/\R (uX X.K l xs) H1 | _=>False) I h) fun us s1 aE=>?_) (by rw[hs];rfl) rfl));obtain⟨vs,H1,I1,r1,q1⟩:=aE
  match vs,q1 with
  | [x],q1=>
    obtain⟨l,xs,rfl,hl,q⟩:=q1;obtain⟨u,rfl,ru⟩:=j0 r1;cases ru;obtain⟨its,rv,pl,hz⟩:=I1.list hl;have hn:=rv.length;refine RS pl.isList (JA (j:=(its.toArray.size:Int)-1) ⟨_,Heap.get?_push_size _ rfl,rfl,rfl⟩ ?_);refine⟨s1.heap.objs.size,[s1.heap.objs.size],_,_,H1,rfl,I1.kept (t':=s1.toks) fun b o e=>Heap.get?_push_of_some _ e,RO l _ xs,⟨_,Heap.get?_push_size _ rfl,rfl,?_⟩,fun b hb=>?_,q⟩
    · show Data.fields #[.ref l,rawInt ((its.toArray.size:Int)-1)] = .fields #[.ref l,.int ((xs.length:Int)-1-(0:Nat)) 0];rw[List.size_toArray,hn];simp[rawInt]
    · have e:b=s1.heap.objs.size:=by simpa using hb
      subst e;exact I1.jh (Nat.le_refl _) (I1.aI.fresh (Nat.le_refl _))
theorem RW{e:Expr}{te:TE}{p pos:Pos}(K:PySem.W.Frag)(h:X.K=K)(hg:Gl X "reversed")(hm:X.mg "reversed" = none)(he:PE X e te)(hs:starEach [e] X.env = [(false,eval e X.env)]:=by rfl) :
    PI X tg (.Call (.Name "reversed" p) [e] [] pos) (yx K te):=h▸RV hg hm he hs
theorem RX{K:PySem.W.Frag}{a:Addr}{xs:List V}{g:TG}{tb:TS}{D:Ends}{σ:St}{H:Hp}(Pv:Nat->St->Hp->Prop)(h0:Pv 0 σ H)(hl:∀i σ H,i<=xs.length->Pv i σ H->ao K H a xs)
    (hs:∀i x σ H,xs.reverse[i]? = some x->Pv i σ H->g x σ H fun iR H2=>tb { D with nx:=Pv (i+1),ct:=Pv (i+1),bk:=D.nx } iR H2) (hd:∀σ H,Pv xs.length σ H->D.nx σ H) :
    ∃W:Nat->Nat->St->Hp->Prop,(∃m,W 0 m σ H)/\∀i m σ H,W i m σ H->
      ((uX K a xs).stop i H/\D.nx σ H)\/((uX K a xs).go i H/\∃N:St->Hp->Prop,(∀aq H',N aq H'->∃m',m'<m/\W (i+1) m' aq H')/\∀x H',(uX K a xs).mP i H x H'->g x σ H' fun iR H2=>tb { D with nx:=N,ct:=N,bk:=D.nx } iR H2):=by
  refine⟨fun i m σ H=>m=xs.length-i/\i<=xs.length/\Pv i σ H,⟨xs.length,by simp,Nat.zero_le _,h0⟩,?_⟩;rintro i m σ H ⟨rfl,hi,p⟩;have q:=hl i σ H hi p
  by_cases bC:i<xs.length
  · refine .inr ⟨⟨q,bC⟩,Pv (i+1),fun aq H' p'=>⟨xs.length-(i+1),by omega,rfl,bC,p'⟩,fun x H' y=>?_⟩;obtain⟨e,y⟩:=y;subst e;exact hs i x σ _ y p
  · have e:i=xs.length:=by omega
    subst e;exact .inl ⟨Nat.le_refl _,hd σ H p⟩
end
theorem RY(a b:Addr)(ha:(a == sysModules)=false)(hb:(b == sysModules)=false)(es:Array DictEntry)(ep pJ:Nat) :
    Meets (Builtin.«dict.__ne__» ⟨[.ref a,.ref b],[]⟩) (fun _ R s=>gm s.heap a es ep/\gm s.heap b #[] pJ/\R (.ok (.ret (.bool (!decide (es.size=0))))) s):=
  .of_wp fun prog w A R s h=>by
    obtain⟨h1,h2,h⟩:=h;have t1:=h1.typeIs;have t2:=h2.typeIs;obtain⟨o1,g1,c1,d1⟩:=h1;obtain⟨o2,g2,c2,d2⟩:=h2;have sub:=Rv.n9
    wp_walk
    rw[d1];refine wpAny_pure ?_;show wpAny _ _ (dictEntries b >>= _) _ _ _;refine wpAny_bind (wpAny_dictEntries g2 d2 ?_)
    by_cases e:es.size=0
    · rw[if_neg (by rw[e];simp)];rw[decide_eq_true e] at h;have e':es = #[]:=Array.eq_empty_of_size_eq_zero e;subst e';refine wpAny_bind (wpAny_dictEpoch g1 d1 ?_);simp
      wp_walk
      exact⟨_,rfl,h⟩
    · rw[if_pos (by simp[e])];rw[decide_eq_false e] at h;refine wpAny_bind (wpAny_rule (wpAny_pure ?_));exact wpAny_pure ⟨_,rfl,h⟩
section
variable{X:Cx}
theorem RZ(hu:X.A.units+9<cLine):fk X (compareOp .NotEq) (fun x y H Q=>∃p q kvs,x = .ref p/\y = .ref q/\Rd H p (.dK kvs)/\H q=some (.dK [])/\Q (.bl (!decide (kvs = []))) H):=by
  intro pins s σ H x y v u Q I rx ry h;obtain⟨p,q,kvs,rfl,rfl,hp,hq,k⟩:=h;cases rx;cases ry;obtain⟨z,hs,vs,rel,o,es,ep,e,ex,dt,kk,pr,nd⟩:=oO I.aI hp;obtain⟨z',qE,uW,D7,o',qx,pJ,e',BI,R1,W8,R3,W9⟩:=oO I.aI (.inl hq);have l1:kvs.length=vs.length:=Paired.length rel;have l2:es.size=vs.length:=by rw[←pr.length];simp
  have l3 : [].length=uW.length:=Paired.length D7;have l4:qx.size=uW.length:=by rw[←R3.length];simp
  have e0:qx = #[]:=Array.eq_empty_of_size_eq_zero (by rw[l4,←l3];rfl);subst e0;refine richCompare_meets_room (op:=.NotEq) ⟨o,e,ex.1⟩ ⟨o',e',BI.1⟩ PySem.F.slot_dict_ne PySem.F.entry_dict_ne (PySem.F.args_dict_ne_2 _ _) (RY p q hs qE es ep pJ) ⟨⟨o,e,ex,dt⟩,⟨o',e',BI,R1⟩,?_⟩ (by omega);refine⟨(fun x=>nomatch x),.bl (!decide (kvs = [])),H,I,?_,k⟩;show Value.bool _=Value.bool _
  congr 2
  exact decide_eq_decide.mpr ⟨fun z=>List.eq_nil_of_length_eq_zero (by omega),fun z=>by rw[z] at l1;simp at l1;omega⟩
end
theorem fE{K:PySem.W.Frag}{C D:Addr}{b:Bool}{cd:ClassData}(h1:PySem.W.clsIn K D=some cd)(h2:PySem.W.typeIn K (.ref D)=some (.type "type"))(h3:PySem.W.subIn K (.ref C) (.ref D)=some b)(h4:(Value.ref C == Value.ref D)=true->b=true):PySem.W.kitOne K (.ref C) (.ref D)=some b:=by
  unfold PySem.W.kitOne;split
  · rename_i h;rw[h4 h]
  · unfold PySem.W.kitCls;dsimp only;rw[h1,h2,h3];rfl
section
variable{prog:Program}{w:World}{A:Around}{E:Value->Shared->Prop}{s:Shared}{K:PySem.W.Frag}{x C:Addr}{ox:Obj}{name:Str}{v:Value}
theorem R4{od:Option Obj}{a g:Value}(hc:(PySem.W.clsIn K C).isSome=true)(ha:PySem.W.findIn K (.ref C) name=some (some a))(hg:PySem.W.specialIn K a "__get__" = some (some g))(ht:PySem.W.takesIn K a=some true):PySem.W.findObj K C od name=some (.bind g a):=by
  obtain⟨cd,hc⟩:=Option.isSome_iff_exists.mp hc;unfold PySem.W.findObj;rw[hc,Option.bind_some,ha,Option.bind_some];simp[hg,ht]
theorem R5{Q:Option Value->Shared->Prop}(X:K.In s.heap){od:Option Obj}(I:PySem.W.InstAt s.heap x ox C od)(g:fX K C)(i:i6 K C)(h:Q (some (.ref C)) { s with toks:=s.toks+1 }):wpAny (model prog w) A (getAttr? (.ref x) "__class__") Q E s:=by
  have hf:PySem.W.findObj K C od "__class__" = some (.bind (.builtin "getset_descriptor.__get__") (.builtin "object.__class__")):=R4 (by obtain⟨cd,hc,_⟩:=PySem.W.any_some g.hd;rw[hc];rfl) i.ha i.hn i.Ju;refine wpAny_bind (wpAny_mkText (wpAny_bind (wpAny_attempt (Jz (s:={ s with toks:=s.toks+1 }) X I g ?_))));have L0:=I.type (M:=model prog w);have L1:=PySem.W.looks_find (M:=model prog w) X I hf;unfold Builtin.«object.__getattribute__»;refine wpAny_bind (wpAny_pure (wpAny_bind (wpAny_pure (wpAny_bind (L0 _ _ _ _ (fun _ _ e=>e) (wpAny_bind (L1 _ _ _ _ (fun _ _ e=>e) ?_)))))));show wpAny (model prog w) A.in1 (holding [.builtin "object.__class__"] (call (.builtin "getset_descriptor.__get__") [.builtin "object.__class__",.ref x,.ref C]) >>= ret) _ _ _;refine wpAny_bind (wpAny_holding (wpAny_call (PySem.W.class_get (s:={ s with toks:=s.toks+1 }) X I i.hm ?_)));exact wpAny_pure (PySem.W.handed_on rfl (wpAny_pure h))
theorem R6{od:Option Obj}(g:fX K C)(i:i6 K C):PySem.W.KitX K (.ref x) (.ref C) (fun h=>PySem.W.InstAt h x ox C od) where
  ty:=fun _ _ _ I=>I.type
  it:=fun _ _ X _=>by
    obtain⟨D0,jR,_⟩:=PySem.W.any_some g.hd;unfold PySem.W.clsIn at jR;split at jR
    · rename_i c' d' D5 rE ho;intro A' Q' E' s' k q;unfold isType loadHead;exact wpAny_bind (wpAny_loadPart (k _ _ (X _ _ ho)) (wpAny_pure q))
    · cases jR
  ne:=fun h tp dd its n sl X D6=>by
    obtain⟨D0,jR,_⟩:=PySem.W.any_some g.hd;refine Bool.eq_false_iff.mpr fun q=>?_
    have e:C=tp:=Value.ref.inj (beq_iff_eq.mp q);subst e;unfold PySem.W.clsIn at jR;split at jR
    · rename_i c' d' D5 rE ho;have z:=(X _ _ ho).symm.trans D6;cases z
    · cases jR
  ca:=fun X I k=>R5 X I g i k
end
section
variable{X:Cx}
theorem R7{pins:List (Addr×Obj)}{σ:St}{H:Hp}{s:Shared}{a C:Addr}{c:Value}{b:Bool}{Q:VK}(I:Inv X pins σ H s)(ea:H a=some (c8 a C none))(g:fX X.K C)(i:i6 X.K C)(e:PySem.W.kitOne X.K (.ref C) c=some b)(q:Q (.bl b) H) :
    wpAny (model X.prog X.w) X.A (call (.builtin "isinstance") [.ref a,c]) (EP X pins σ Q) X.xe s:=by
  obtain⟨⟨oe,vs,h1,h2,h3,h4⟩,_,_⟩:=(show aP X.prog X.w H s.heap a (c8 a C none) from I.aI a _ ea);have J:PySem.W.InstAt s.heap a oe C none:=⟨h1,h2,by unfold PySem.W.notCls;rw[h4],by rw[h3];trivial⟩;exact PySem.W.kia_one (R6 g i) I.gQ J e (fun z=>nomatch z) fun tk=>⟨.bl b,H,I.tok tk,rfl,q⟩
end
section
variable{X:Cx}
theorem JC(K:PySem.W.Frag)(hK:X.K=K):fk X (binaryOp .Add) (fun x y H Q=>∃l b xs zs,x = .ref l/\y = .ref b/\ao K H l xs/\ao K H b zs/\xs.length+zs.length<=sizeLine/\∀p,H p=none->Q (.ref p) (upd H p (.lst (xs++zs)))):=by
  subst hK;intro pins s σ H x y v u Q I rx ry h;obtain⟨l,b,xs,zs,rfl,rfl,hH,hB,hz,q⟩:=h;cases rx;cases ry;obtain⟨its,r,hl,z⟩:=I.list hH;obtain⟨bV,r2,iL,z2⟩:=I.list hB;have e1:=r.length;have e2:=r2.length;obtain⟨⟨cls,dd,data,sl⟩,ho,hc,n,hd⟩:=hl.isList;obtain⟨⟨Cb,Al,data2,Am⟩,rW,rX,n2,hd2⟩:=iL.isList;simp only at hc hd rX hd2;subst hc hd rX hd2;have e:its.toArray++bV.toArray=(its++bV).toArray:=by simp
  refine concat_meets ⟨_,ho,rfl⟩ ⟨_,rW,rfl⟩ noFill_list_add seq_list_add PySem.F.slot_list_add PySem.F.entry_list_add (PySem.F.args_list_add_2 _ _) (list_addW l b its.toArray bV.toArray n n2 dd Al sl Am (by rw[List.size_toArray,List.size_toArray];omega)) ⟨ho,rW,?_⟩;rw[e];exact⟨.ref _,_,I.se (t':=s.toks) (r.append r2) (by rw[List.length_append];omega),rfl,q _ I.fresh⟩
end
section
variable{P:Program}{w:World}{K:PySem.W.Frag}{mg:Str->Option Value}{base:Heap}
theorem cD.x{x:Str}{ps:List Str}{k:Nat}{sp:Sp}(F:cD P w K mg base x ps k sp):bX P w K mg base x ps k sp:=by
  obtain⟨f,fd,a,kp,lk,b,F⟩:=F;refine⟨f,fd,a,kp,lk,b,F.len,fun A outer s H args us vs Q E hr he hb hv hs=>?_⟩;refine codeAny_mono (F.run A outer s H args us vs Q E hr he hb hv hs) fun r s' hq=>?_
  cases r with
  | ok fl=>
    cases fl with
    | ret u=>exact hq
    | next=>exact False.elim hq
    | brk=>exact False.elim hq
    | cont=>exact False.elim hq
  | error e=>exact False.elim hq
theorem bX.or{x:Str}{ps:List Str}{k:Nat}{JD JE:Sp}(F:bX P w K mg base x ps k JD)(G:bX P w K mg base x ps k JE):bX P w K mg base x ps k (fun vs H Q E=>JD vs H Q E\/JE vs H Q E):=by
  obtain⟨f,fd,a,kp,⟨oc,od,iT,lk⟩,b,F⟩:=F;obtain⟨f',NR,a',xm,⟨NS,NT,CL,Az⟩,b',G⟩:=G;have e:f=f':=Value.ref.inj (Option.some.inj (a.symm.trans a'));subst e;have e2:=Option.some.inj (lk.symm.trans Az);injection e2 with _ _ h _
  injection h with h
  subst h;refine⟨f,fd,a,kp,⟨oc,od,iT,lk⟩,b,fun vs H Q E h=>h.elim (F.len vs H Q E) (G.len vs H Q E),fun A outer s H args us vs Q E hr he hb hv hs=>?_⟩;rcases hs with hs | hs
  · exact F.run A outer s H args us vs Q E hr he hb hv hs
  · exact G.run A outer s H args us vs Q E hr he hb hv hs
end
section
variable{X:Cx}
theorem A7(K:PySem.W.Frag)(h:X.K=K):ji X (.builtin "isinstance") (fun xs H Q=>∃a C dc D b,xs = [.ref a,.ref D]/\H a=some (c8 a C dc)/\(∀d,dc=some d->∃fs,H d=some (.xd fs))/\fX K C/\i6 K C/\PySem.W.kitOne K (.ref C) (.ref D)=some b/\Q (.bl b) H):=by
  subst h;intro pins s σ H xs us Q I r h;obtain⟨a,C,dc,D,b,rfl,ea,hd,g,i,e,q⟩:=h;obtain⟨u,w',rfl,ru,fj⟩:=vZ r;cases ru;cases fj;cases dc with
  | none=>exact R7 I ea g i e q
  | some d=>
    obtain⟨fs,ed⟩:=hd d rfl;exact RI I ea ed g i e q
end
section
variable{X:Cx}{pos:Pos}
theorem sset{i:Nat}{x:Str}{e:Expr}{te:TE}{pos':Pos}(hN:X.N.Nodup)(he:PE X e te)(hi:X.N[i]? = some x:=by rfl)(hx:Loc X.env.scope x:=by first | exact Or.inl rfl | exact Or.inr rfl)(hs:swapsWith e (some (.Name x pos')) pos.line X.env=pure false:=by rfl)(hf:X.fn x=true\/X.env.scope.names.lookup x=some .local:=by first | exact .inl rfl | exact .inr rfl | assumption):PS X (.Assign [.Name x pos'] e pos) (rK te (zx i)):=LX hN hi hx he hs hf
theorem cL{i:Nat}{x:Str}(hN:X.N.Nodup)(hi:X.N[i]? = some x:=by rfl)(hx:Loc X.env.scope x:=by first | exact Or.inl rfl | exact Or.inr rfl)(hf:X.fn x=true\/X.env.scope.names.lookup x=some .local:=by first | exact .inl rfl | exact .inr rfl | assumption):PG X (.Name x pos) (zx i):=ig hN hi hx hf
theorem ay{a b:Expr}{ta tb:TE}{r:R2}(hr:r8 X r)(ha:PE X a ta)(hb:PE X b tb)(hs:Gb b:=by exact fun _ _=>rfl):PE X (.Subscript a b pos) (uy r ta tb):=MM hr ha hb hs
end
section
variable{X:Cx}{x:Str}{ps:List Str}{k:Nat}{sp:Sp}{e:Expr}{es:List Expr}{t:TA}{p pos:Pos}
theorem aH(F:cD X.prog X.w X.K X.mg X.base x ps k sp)(ha:PA X (e::es) t)(hr:bE k X.A:=by exact bE.mono (by assumption) (by decide))(hg:Gl X x:=by rfl)(gf:(x == ("__debug__" : Str))=false:=by decide)
    (he:starEach (e::es) X.env=(false,eval e X.env)::starEach es X.env:=by rfl) (gB:(backTo pos (starEach es X.env)).any (·.1)=false:=by rfl):PE X (.Call (.Name x p) (e::es) [] pos) (Ak sp [] E0 t):=NQ F hr hg ha gf he gB
end
theorem cM{N P:List Str}{sc:Scope}(h1:sc.kind = .function:=by rfl)(h2:sc.isCoroutine=false:=by rfl)(h3:sc.isGenerator=false:=by rfl)(h4:N.Nodup:=by decide +kernel)(h5:N.take P.length=P:=by rfl)(h6:∀x∈P,sc.names.lookup x=some .local\/sc.names.lookup x=some .cell:=by decide +kernel)(h7:∀y∈sc.names,y.2≠.free:=by decide +kernel):ak N P sc:=⟨h1,h2,h3,h4,h5,h6,h7⟩
end L2
namespace LK48
open PySem L2 Dm PySem.NumText
def top(i:Nat):Stmt:=PySem.Challenge.pw_digmatrix_k48_refused_alike.main.body.getD i (.Pass ⟨0,0,0,0⟩)
structure Tx(K:PySem.W.Frag)(mg:Str->Option Value)(w:World)(zj:Addr)(zm:Addr)(zg:Addr)(zp:Addr):Prop where
 D8:mg "DigError" = some (.ref zj)
 R8:kO K zj
 JF:qV K zj
 D9:mg "Round" = some (.ref zm)
 R9:mD K zm
 JG:tE K zm
 A8:fX K zm
 Ea:i6 K zm
 Sa:xG K zm "Round.__init__" "__init__" (Aw (top 2) 0) ["self","ties"]
 JH:dB K zm "ties"
 Eb:mg "NoDating" = some (.ref zg)
 Sb:mD K zg
 JI:tE K zg
 A9:fX K zg
 Ec:i6 K zg
 Sd:xG K zg "NoDating.__init__" "__init__" (Aw (top 3) 0) ["self","row"]
 JJ:dB K zg "row"
 JK:mg "NoYear" = some (.ref zp)
 JL:tE K zp
 JM:fX K zp
 JN:i6 K zp
 JO:PySem.W.findIn K (.ref zp) "__init__" = some (some (.builtin "ValueError.__init__"))
 Se:PySem.W.mroIn K zm (.ref zj)=some true
 Sf:PySem.W.mroIn K zg (.ref zj)=some true
 Sg:PySem.W.mroIn K zp (.ref zj)=some true
 Sh:PySem.W.kitOne K (.ref zm) (.ref zm)=some true
 JP:PySem.W.kitOne K (.ref zm) (.ref zg)=some false
 JQ:PySem.W.kitOne K (.ref zg) (.ref zm)=some false
 Si:PySem.W.kitOne K (.ref zg) (.ref zg)=some true
 Sj:PySem.W.kitOne K (.ref zp) (.ref zm)=some false
 Sk:PySem.W.kitOne K (.ref zp) (.ref zg)=some false
 Sl:Df K mg "one_names" (top 6) ["units","ties"]
 Sm:Df K mg "join_ones" (top 7) ["names","first","second"]
 Sn:Df K mg "ones" (top 8) ["units","ties"]
 So:Df K mg "ties_beneath" (top 9) ["telling"]
 Sq:Df K mg "shortest_round" (top 11) ["telling"]
 Ss:Df K mg "round_through" (top 12) ["start","beneath"]
 JR:Df K mg "refuse_round" (top 13) ["telling"]
 JS:Df K mg "order" (top 14) ["telling"]
 Su:Df K mg "least_free" (top 15) ["beneath","placed"]
 Sv:Df K mg "rests_on" (top 16) ["lowers","placed"]
 Sw:Df K mg "gap_of" (top 18) ["tie"]
 Sx:Df K mg "finds_within" (top 19) ["telling"]
 Sy:Df K mg "floors" (top 20) ["telling"]
 Sz:Df K mg "ceilings" (top 21) ["telling"]
 SA:Df K mg "bare_chains" (top 22) ["bounds"]
 SD:Df K mg "led_up" (top 23) ["chain","tie"]
 SE:Df K mg "one_tie_longer" (top 24) ["beneath","chains"]
 SG:Df K mg "impossible_row" (top 25) ["telling"]
 SH:Df K mg "refuse_undated" (top 26) ["telling"]
 SJ:Df K mg "chains_up" (top 28) ["telling"]
 SK:Df K mg "chains_down" (top 29) ["telling"]
 SM:Df K mg "led_down" (top 30) ["chain","tie"]
 JT:Df K mg "reasons" (top 31) ["telling","name"]
 JU:Df K mg "all_beneath" (top 33) ["telling"]
 JV:Df K mg "drawn" (top 34) ["telling"]
 SN:Df K mg "lies_between" (top 35) ["depths","upper","lower"]
 JW:Df K mg "walk" (top 36) ["telling","upper","lower"]
 SO:Df K mg "step_towards" (top 37) ["end","name","pairs","depths"]
 JX:Df K mg "levels" (top 39) ["telling"]
 SQ:Df K mg "spans" (top 41) ["telling"]
 JY:Df K mg "dating" (top 42) ["telling","name","year"]
 SR:Df K mg "_law_cell_at" (top 44) ["_law_script","_law_k"]
 SV:Df K mg "_law_part" (top 45) ["_law_cell","_law_k","_law_many"]
 SW:Df K mg "_law_names" (top 46) ["_law_one","_law_other"]
 SX:Df K mg "_law_number" (top 47) ["_law_cell"]
 SY:Df K mg "_law_tie" (top 48) ["_law_names_here","_law_places","_law_many","_law_cell","_law_around"]
 S0:Df K mg "_law_ties" (top 49) ["_law_names_here","_law_places","_law_many","_law_cells","_law_around"]
 S1:Df K mg "_law_frame" (top 50) ["_law_cell"]
 S2:Df K mg "_law_finds" (top 51) ["_law_names_here","_law_many","_law_frame_here","_law_cells"]
 S3:Df K mg "_law_telling" (top 52) ["_law_script","_law_around"]
 S4:Df K mg "_law_copy" (top 53) ["_law_telling_here"]
 S5:Df K mg "_law_ones" (top 54) ["_law_telling_here"]
 S6:Df K mg "_law_narrow" (top 56) ["_law_telling_here","_law_cell"]
 S7:Df K mg "_law_ask" (top 57) ["_law_way","_law_telling_here","_law_name","_law_other"]
 S8:Df K mg "_law_word" (top 58) ["_law_way","_law_telling_here","_law_name","_law_other"]
 S9:Df K mg "_law_is_round" (top 59) ["_law_telling_here","_law_ring","_law_many"]
 Tc:Df K mg "law" (top 60) ["_law_script"]
 min:mg "min" = none
 list:mg "list" = none
 sorted:mg "sorted" = none
 all:mg "all" = none
 reversed:mg "reversed" = none
 any:mg "any" = none
 range:mg "range" = none
 len:mg "len" = none
 max:mg "max" = none
 isinstance:mg "isinstance" = none
theorem Tx.ex{K:PySem.W.Frag}{mg:Str->Option Value}{w:World}{zj:Addr}{zm:Addr}{zg:Addr}{zp:Addr}(T:Tx K mg w zj zm zg zp):∃zj,∃zm,∃zg,∃zp,Tx K mg w zj zm zg zp:=⟨_,_,_,_,T⟩
theorem cN:ak ["units","ties","names","unit","tie"] ["units","ties"] (zq (top 6)):=cM
theorem d9:ak ["names","first","second","least","unit"] ["names","first","second"] (zq (top 7)):=cM
theorem ie:ak ["units","ties","names","members","unit"] ["units","ties"] (zq (top 8)):=cM
theorem bw:ak ["telling","names","beneath","members","tie"] ["telling"] (zq (top 9)):=cM
theorem aM:ak ["telling","beneath","shortest","name","ties"] ["telling"] (zq (top 11)):=cM
theorem aF:ak ["start","beneath","met","ways","longer","name","ties","lower","tie"] ["start","beneath"] (zq (top 12)):=cM
theorem bM:ak ["telling","ties"] ["telling"] (zq (top 13)):=cM
theorem dY:ak ["telling","beneath","placed"] ["telling"] (zq (top 14)):=cM
theorem fR:ak ["beneath","placed","free"] ["beneath","placed"] (zq (top 15)):=cM
theorem Td:ak ["lowers","placed"] ["lowers","placed"] (zq (top 16)):=cM
theorem Tf:ak ["tie"] ["tie"] (zq (top 18)):=cM
theorem bz:ak ["telling","names","within","members","find"] ["telling"] (zq (top 19)):=cM
theorem fF:ak ["telling","within","starts","name"] ["telling"] (zq (top 20)):=cM
theorem dw:ak ["telling","within","ends","name"] ["telling"] (zq (top 21)):=cM
theorem cV:ak ["bounds","chains","name"] ["bounds"] (zq (top 22)):=cM
theorem Tg:ak ["chain","tie"] ["chain","tie"] (zq (top 23)):=cM
theorem aN:ak ["beneath","chains","longer","name","lower","tie","chain"] ["beneath","chains"] (zq (top 24)):=cM
theorem aO:ak ["telling","beneath","ends","chains","name"] ["telling"] (zq (top 25)):=cM
theorem dz:ak ["telling","row"] ["telling"] (zq (top 26)):=cM
theorem bq:ak ["telling","beneath","chains","name","lower","tie","chain"] ["telling"] (zq (top 28)):=cM
theorem aQ:ak ["telling","beneath","chains","name","lower","tie","chain"] ["telling"] (zq (top 29)):=cM
theorem Th:ak ["chain","tie"] ["chain","tie"] (zq (top 30)):=cM
theorem bG:ak ["telling","name","one","up","down"] ["telling","name"] (zq (top 31)):=cM
theorem az:ak ["telling","straight","depths","name","lower","tie"] ["telling"] (zq (top 33)):=cM
theorem aY:ak ["telling","straight","depths","pairs","name","lower","tie"] ["telling"] (zq (top 34)):=cM
theorem Ti:ak ["depths","upper","lower"] ["depths","upper","lower"] (zq (top 35)):=cM
theorem bN:ak ["telling","upper","lower","names","depths","end","pairs","path"] ["telling","upper","lower"] (zq (top 36)):=cM
theorem eK:ak ["end","name","pairs","depths","steps"] ["end","name","pairs","depths"] (zq (top 37)):=cM
theorem aW:ak ["telling","beneath","numbers","rows","name","number"] ["telling"] (zq (top 39)):=cM
theorem iJ:ak ["telling","ups","downs"] ["telling"] (zq (top 41)):=cM
theorem bU:ak ["telling","name","year","one","finds","chains"] ["telling","name","year"] (zq (top 42)):=cM
theorem Tj:ak ["_law_script","_law_k"] ["_law_script","_law_k"] (zq (top 44)):=cM
theorem Tn:ak ["_law_cell","_law_k","_law_many"] ["_law_cell","_law_k","_law_many"] (zq (top 45)):=cM
theorem aD:ak ["_law_one","_law_other","_law_signs","_law_size","_law_at","_law_turned","_law_names_here","_law_k","_law_name","_law_j","_law_number_here"] ["_law_one","_law_other"] (zq (top 46)):=cM
theorem fh:ak ["_law_cell","_law_some"] ["_law_cell"] (zq (top 47)):=cM
theorem bH:ak ["_law_names_here","_law_places","_law_many","_law_cell","_law_around","_law_a","_law_b","_law_kind"] ["_law_names_here","_law_places","_law_many","_law_cell","_law_around"] (zq (top 48)):=cM
theorem cO:ak ["_law_names_here","_law_places","_law_many","_law_cells","_law_around","_law_ties_here","_law_cell","_law_tie_here"] ["_law_names_here","_law_places","_law_many","_law_cells","_law_around"] (zq (top 49)):=cM
theorem fS:ak ["_law_cell","_law_first"] ["_law_cell"] (zq (top 50)):=cM
theorem bA:ak ["_law_names_here","_law_many","_law_frame_here","_law_cells","_law_finds_here","_law_k","_law_cell","_law_low","_law_high"] ["_law_names_here","_law_many","_law_frame_here","_law_cells"] (zq (top 51)):=cM
theorem aL:ak ["_law_script","_law_around","_law_names_here","_law_places","_law_many","_law_frame_here","_law_turn","_law_units","_law_ties_here"] ["_law_script","_law_around"] (zq (top 52)):=cM
theorem To:ak ["_law_telling_here"] ["_law_telling_here"] (zq (top 53)):=cM
theorem bJ:ak ["_law_telling_here","_law_label","_law_name","_law_k","_law_tie_here","_law_least"] ["_law_telling_here"] (zq (top 54)):=cM
theorem bY:ak ["_law_telling_here","_law_cell","_law_finds_here","_law_find","_law_far"] ["_law_telling_here","_law_cell"] (zq (top 56)):=cM
theorem Tp:ak ["_law_way","_law_telling_here","_law_name","_law_other"] ["_law_way","_law_telling_here","_law_name","_law_other"] (zq (top 57)):=cM
theorem br:ak ["_law_way","_law_telling_here","_law_name","_law_other","_law_found","e"] ["_law_way","_law_telling_here","_law_name","_law_other"] (zq (top 58)):=cM
theorem cj:ak ["_law_telling_here","_law_ring","_law_many","_law_label","_law_k"] ["_law_telling_here","_law_ring","_law_many"] (zq (top 59)):=cM
theorem ee:ak ["_law_script","_law_telling_here","_law_name","_law_other","_law_many","_law_handed","_law_words","_law_alike"] ["_law_script"] (zq (top 60)):=cM
theorem Tq:ak ["self","ties"] ["self","ties"] (zq (Aw (top 2) 0)):=cM
theorem Tt:ak ["self","row"] ["self","row"] (zq (Aw (top 3) 0)):=cM
section
variable{P:Program}{w:World}{K:PySem.W.Frag}{mg:Str->Option Value}{base:Heap}{zj:Addr}{zm:Addr}{zg:Addr}{zp:Addr}
local macro_rules | `(tactic| walk_at "rd")=>`(tactic| repeat (first | refine⟨_,rfl,?_⟩ | refine⟨_,_,rfl,rfl,?_⟩ | refine⟨_,_,_,rfl,?_⟩))
local macro_rules | `(tactic| walk_at "rd")=>`(tactic| repeat (first | refine⟨_,rfl,?_⟩ | refine⟨_,_,rfl,rfl,?_⟩ | refine⟨_,_,_,rfl,?_⟩))
def Tu:Sp:=fun vs H Q _=>∃(a:Addr)(ns:List Int)(i:Int),vs = [.ref a,.int i]/\ao K H a (ns.map V.int)/\0<=i/\Q (.int (g8 ns i)) H
theorem o6(T:Tx K mg w zj zm zg zp):cD P w K mg base "_law_cell_at" ["_law_script","_law_k"] 1 (Tu (K:=K)):=by
 refine T.SR.has Tj (fun vs H Q E h=>?_) (fun f aR A outer s H vs Q E hr h=>?_)
 ·obtain⟨a,ns,i,rfl,_⟩:=h;rfl
 ·obtain⟨a,ns,i,rfl,ha,h0,k⟩:=h;refine⟨_,(zc (cR (cE uz (pv 1) (fJ (lA K rfl) (by rfl) T.len boot_len (za (pv 0) zf)) (bW _)) (zi (zz (ay (dS K rfl) (pv 0) (pv 1)))) cX)
   (zi (zz zh))),?_⟩
  refine⟨_,rfl,_,rfl,a,_,rfl,.inl ha,_,_,rfl,rfl,_,rfl,?_⟩;refine aT (fun c=>?_) (fun c=>?_)
  ·have c:=of_decide_eq_true c;rw[List.length_map] at c;have hi:i.toNat<ns.length:=by omega
   refine⟨_,rfl,_,rfl,a,_,i,.int (g8 ns i),rfl,rfl,ha,?_,k⟩;have e:g8 ns i=ns[i.toNat]:=by unfold g8;rw[List.getD_eq_getElem?_getD,List.getElem?_eq_getElem hi];rfl
   have:=iU (xs:=ns.map V.int) (j:=i.toNat) (v:=.int (g8 ns i)) (by rw[e];simp[hi]);rw[Int.toNat_of_nonneg h0] at this;exact this
  ·have c:¬i<((ns.map V.int).length:Int):=fun z=>c (decide_eq_true z)
   rw[List.length_map] at c;have e:g8 ns i=0:=by unfold g8;rw[List.getD_eq_getElem?_getD,List.getElem?_eq_none (by omega)];rfl
   rw[e] at k;exact k
def Tv:Sp:=fun vs H Q _=>∃c k m:Int,vs = [.int c,.int k,.int m]/\0<m/\Q (.int (pt c k m)) H
theorem zy(T:Tx K mg w zj zm zg zp):cD P w K mg base "_law_part" ["_law_cell","_law_k","_law_many"] 1 Tv:=by
 refine T.SV.has Tn (fun vs H Q E h=>?_) (fun f aR A outer s H vs Q E hr h=>?_)
 ·obtain⟨c,i,m,rfl,_⟩:=h;rfl
 ·obtain⟨c,i,m,rfl,hm,k⟩:=h;refine⟨_,(zi (zz (c9 rS (c9 rS (c9 Ag (c9 rS (c9 Ag (c9 jJ (c9 rS (pv 0) zh) zh) (c9 jJ zh (c9 Ag zh (pv 1)))) zh) (c9 jJ (pv 1) zh)) zh) (pv 2)))),?_⟩;have b1:=Int.emod_nonneg c (show(99991:Int)≠0 by decide);have b2:=Int.emod_lt_of_pos c (show(0:Int)<99991 by decide);have b3:=Int.emod_nonneg ((c%99991+17) * (48271+7919 * i)) (show(65537:Int)≠0 by decide);have b4:=Int.emod_lt_of_pos ((c%99991+17) * (48271+7919 * i)) (show(0:Int)<65537 by decide)
  walk_at "rd"
  refine⟨(by decide:(0:Int)<99991),?_⟩
  walk_at "rd"
  refine⟨.inl ⟨by decide,by decide⟩,?_⟩
  walk_at "rd"
  refine⟨.inl ⟨by omega,by omega⟩,?_⟩
  walk_at "rd"
  refine⟨(by decide:(0:Int)<65537),?_⟩
  walk_at "rd"
  refine⟨.inl ⟨by omega,by omega⟩,?_⟩
  walk_at "rd"
  refine⟨(by decide:(0:Int)<8191),?_⟩
  walk_at "rd"
  exact⟨hm,k⟩
theorem Tw:vW 10 56:=⟨by decide,by decide,by decide⟩
theorem JZ:(0:Int)<10 ^ (56:Int).toNat:=by decide
theorem J0(z:Int)(one at':Int)(k j:Nat)(h:z=nM one at' k j):gC bS.cps.toList (z%37)=some (j8 one at' k j):=by
 obtain⟨h0,h1⟩:=lZ z;subst h;have:=iU (xs:=co bS) (j:=(nM one at' k j%37).toNat) (v:=j8 one at' k j) (by unfold j8;rw[List.getD_eq_getElem?_getD,List.getElem?_eq_getElem h1];rfl);rw[Int.toNat_of_nonneg h0] at this;exact this
def Tz:Sp:=fun vs H Q _=>∃one other:Int,vs = [.int one,.int other]/\∀(p:Addr)(xs:List Str)(H':Hp),xs.length=8->xs.Nodup->(∀x∈xs,lY x=true)->H p=none->H' p=some (.lst (xs.map V.str))->ah H H'->Q (.ref p) H'
set_option maxHeartbeats 4000000 in
theorem TF(T:Tx K mg w zj zm zg zp):cD P w K mg base "_law_names" ["_law_one","_law_other"] 2 Tz:=by
 refine T.SW.has aD (fun vs H Q E h=>?_) (fun f aR A outer s H vs Q E hr h=>?_)
 ·obtain⟨one,other,rfl,_⟩:=h;rfl
 ·obtain⟨one,other,rfl,k⟩:=h;refine⟨_,(zc (sset (i:=2) aD.nd eE)
   (zc (sset (i:=3) aD.nd (c9 jJ zh (aH (zy T) (za (pv 0) (za zh (za zh zf))))))
   (zc (sset (i:=4) aD.nd (aH (zy T) (za (pv 1) (za zh (za (pv 3) zf)))))
   (zc (sset (i:=5) aD.nd (aH (zy T) (za (pv 1) (za zh (za zh zf)))))
   (zc (sset (i:=6) aD.nd (cI zf))
   (zc (dZ PassesOwn.never rfl (rN (by rfl) T.range (za zh zf)) (cL (i:=7) aD.nd) (zc (sset (i:=8) aD.nd eE)
    (zc (dZ PassesOwn.never rfl (rN (by rfl) T.range (za zh zf)) (cL (i:=9) aD.nd) (zc (sset (i:=10) aD.nd (aH (zy T) (za (pv 0) (za (c9 jJ (pv 9) zh) (za zh zf)))))
     (zc (cR (PW.pt (pM (cE fZ (pv 9) (pv 4) (bW _)) (pL (cE fZ (pv 5) zh (bW _))))) (zi (sset (i:=10) aD.nd (c9 jJ (pv 10) (pv 7)))) cX)
     (zi (sset (i:=8) aD.nd (c9 Mp (pv 8) (ay MP (pv 2) (c9 rS (pv 10) zh))))))))
    (zi (cR (cE fZ (pv 5) zh (bW _)) (zi (gA (jM K rfl PySem.F.plainAttrs_list PySem.F.slot_list_append PySem.F.type_list_append j4 (pv 6) (za (lT GI (pv 8) nC (kC (pv 3))) zf)))) (zi (gA (jM K rfl PySem.F.plainAttrs_list PySem.F.slot_list_append PySem.F.type_list_append j4 (pv 6) (za (lT GI (pv 8) nC (kC (c9 jJ zh (c9 rS (c9 jJ (pv 3) (pv 7)) zh)))) zf)))))))))
   (zi (zz (pv 6))))))))),?_⟩
  walk_at "rd"
  refine⟨by decide,?_⟩
  walk_at "rd"
  obtain⟨s1,s2⟩:=eU one 0 12 (by decide);have hs:∃size:Nat,1+pt one 0 12=(size:Int)/\1<=size/\size<=12:=⟨(1+pt one 0 12).toNat,by omega,by omega,by omega⟩;obtain⟨size,es,z1,z2⟩:=hs;rw[es];refine⟨by omega,?_⟩;obtain⟨a1,a2⟩:=eU other 1 (size:Int) (by omega);generalize pt other 1 (size:Int)=at' at a1 a2
  walk_at "rd"
  refine⟨by decide,?_⟩;generalize pt other 20 2=tu;refine⟨by decide,fun p hp=>?_⟩;refine⟨8,rfl,by decide,by decide,vS (lo:=0) (n:=8) (fun i σ H'=>∃v7 v8 v9 v10,σ = [some (.int one),some (.int other),some (.str bS),some (.int size),some (.int at'),some (.int tu),some (.ref p),v7,v8,v9,v10]/\ah H H'/\
   H' p=some (.lst (((List.range i).map (oW one at' (decide (tu=0)) size)).map V.str))) ⟨none,none,none,none,(by rw[←es];rfl),ah.new hp,zb⟩ ?_ ?_⟩
  ·rintro i σ H1 hi ⟨v7,v8,v9,v10,rfl,q1,q2⟩;simp only[Int.zero_add];refine⟨12,rfl,by decide,by decide,vS (lo:=0) (n:=12) (fun j σ H2=>∃v9 v10,σ = [some (.int one),some (.int other),some (.str bS),some (.int size),some (.int at'),some (.int tu),some (.ref p),some (.int i),some (.str (jq ((List.range j).map (j8 one at' (if decide (tu=0)=true then i else 0))))),v9,v10]/\H2=H1)
    ⟨v9,v10,by rw[Ol];rfl,rfl⟩ ?_ ?_⟩
   ·rintro j σ H2 hj ⟨v9,v10,rfl,rfl⟩;simp only[Int.zero_add]
    walk_at "rd"
    refine⟨by decide,?_⟩
    try dsimp only[zx]
    refine iz (decide ((j:Int)=at'/\tu=0)) (fun Q' hQ=>?_) (aT (fun c=>?_) (fun c=>?_))
    ·refine⟨_,rfl,_,rfl,rfl,_,rfl,?_⟩;refine aT (fun c=>?_) (fun c=>?_)
     ·have c:(j:Int)=at':=V.int.inj (of_decide_eq_true c);refine⟨_,rfl,rfl,_,rfl,?_⟩;have e:decide (V.int tu=V.int 0)=decide ((j:Int)=at'/\tu=0):=decide_eq_decide.mpr ⟨fun z=>⟨c,V.int.inj z⟩,fun z=>by rw[z.2]⟩;rw[e];exact hQ
     ·rw[decide_eq_false (fun z=>c (decide_eq_true (congrArg V.int z.1)))] at hQ;exact hQ
    all_goals
     walk_at "rd"
     refine⟨(by decide:(0:Int)<37),bS,_,j8 one at' (if decide (tu=0)=true then i else 0) j,rfl,rfl,by decide,?_,?_⟩
    ·refine J0 _ one at' _ j ?_;obtain⟨c1,c2⟩:=of_decide_eq_true c;unfold nM;rw[if_pos c1,if_pos (decide_eq_true c2)]
    ·refine⟨_,_,rfl,rfl,?_,some (.int j),some (.int (pt one ((j:Int)+2) 37+i)),?_,rfl⟩
     ·rw[AJ,List.length_map,List.length_range];exact Nat.le_trans (show j+1<=100 by omega) (by decide)
     ·rw[show(⟨#[j8 one at' (if decide (tu=0)=true then i else 0) j]⟩:Str)=jq [j8 one at' (if decide (tu=0)=true then i else 0) j] from rfl,G6,List.range_succ,List.map_append];rfl
    ·refine J0 _ one at' _ j ?_;have c:¬((j:Int)=at'/\tu=0):=fun z=>c (decide_eq_true z)
     unfold nM
     by_cases c1:(j:Int)=at'
     ·rw[if_pos c1,if_neg (fun z=>c ⟨c1,of_decide_eq_true z⟩)];simp
     ·rw[if_neg c1]
    ·refine⟨_,_,rfl,rfl,?_,some (.int j),some (.int (pt one ((j:Int)+2) 37)),?_,rfl⟩
     ·rw[AJ,List.length_map,List.length_range];exact Nat.le_trans (show j+1<=100 by omega) (by decide)
     ·rw[show(⟨#[j8 one at' (if decide (tu=0)=true then i else 0) j]⟩:Str)=jq [j8 one at' (if decide (tu=0)=true then i else 0) j] from rfl,G6,List.range_succ,List.map_append];rfl
   ·rintro σ H2 ⟨v9,v10,rfl,rfl⟩;have hlen:((jq (j9 one at' (if decide (tu=0)=true then i else 0) 12)).length:Nat)=12:=by rw[AJ,uL]
    have yy:∀x:Str,x=oW one at' (decide (tu=0)) size i->((List.range i).map (oW one at' (decide (tu=0)) size)).map V.str++[V.str x]=((List.range (i+1)).map (oW one at' (decide (tu=0)) size)).map V.str:=fun x e=>by
     rw[List.range_succ,List.map_append,List.map_append,e];rfl
    have oh:(((List.range i).map (oW one at' (decide (tu=0)) size)).map V.str).length<sizeLine:=by
     rw[List.length_map,List.length_map,List.length_range];exact fP (by omega)
    refine⟨_,rfl,rfl,_,rfl,?_⟩;refine aT (fun c=>?_) (fun c=>?_)
    ·have c:tu=0:=V.int.inj (of_decide_eq_true c);refine⟨_,rfl,.inl ⟨rfl,_,ao.of q2⟩,_,rfl,_,rfl,_,rfl,_,rfl,(by show(jq (j9 one at' (if decide (tu=0)=true then i else 0) 12)).length<=sizeLine;rw[hlen];decide),p,_,_,rfl,rfl,q2,oh,?_⟩;refine⟨_,_,_,_,rfl,q1.upd hp,?_⟩;rw[zb]
     congr 2
     refine yy _ ?_;show Txt.slice (jq (j9 one at' (if decide (tu=0)=true then i else 0) 12)) none (some (size:Int))=_;rw[G7 _ _ (by omega) (by rw[uL];omega)];unfold oW;rw[decide_eq_true c];rfl
    ·have c:¬tu=0:=fun z=>c (decide_eq_true (congrArg V.int z))
     refine⟨_,rfl,.inl ⟨rfl,_,ao.of q2⟩,_,rfl,?_⟩
     walk_at "rd"
     refine⟨(by decide:(0:Int)<12),?_⟩;refine⟨_,_,rfl,rfl,_,rfl,_,rfl,(by show(jq (j9 one at' (if decide (tu=0)=true then i else 0) 12)).length<=sizeLine;rw[hlen];decide),p,_,_,rfl,rfl,q2,oh,?_⟩;refine⟨_,_,_,_,rfl,q1.upd hp,?_⟩;rw[zb]
     congr 2
     refine yy _ ?_;show Txt.slice (jq (j9 one at' (if decide (tu=0)=true then i else 0) 12)) none (some (1+((size:Int)+(i:Int))%12))=_;have e:1+((size:Int)+(i:Int))%12=((1+(size+i)%12:Nat):Int):=by omega
     rw[e,G7 _ _ (by omega) (by rw[uL];omega)];unfold oW;rw[decide_eq_false c];rfl
  ·rintro σ H1 ⟨v7,v8,v9,v10,rfl,q1,q2⟩;obtain⟨n1,n2,n3⟩:=OD (one:=one) (tu:=decide (tu=0)) a1 a2 z1 z2;exact⟨_,rfl,k p _ H1 n3 n1 n2 hp q2 q1⟩
def TJ:Sp:=fun vs H Q _=>∃c:Int,vs = [.int c]/\∀(z:Int)(H':Hp),0<=z->z<10 ^ 56->ah H H'->Q (.int z) H'
set_option maxHeartbeats 4000000 in
theorem yz(T:Tx K mg w zj zm zg zp):cD P w K mg base "_law_number" ["_law_cell"] 2 TJ:=by
 refine T.SX.has fh (fun vs H Q E h=>?_) (fun f aR A outer s H vs Q E hr h=>?_)
 ·obtain⟨c,rfl,_⟩:=h;rfl
 ·obtain⟨c,rfl,k⟩:=h;refine⟨_,(zc (sset (i:=1) fh.nd (cI (za (c9 rS (pv 0) (c9 Mi zh zh)) (za (aH (zy T) (za (pv 0) (za zh (za zh zf)))) (za (aH (zy T) (za (pv 0) (za zh (za zh zf)))) zf)))))
   (zi (zz (ay (dS K rfl) (pv 1) (aH (zy T) (za (pv 0) (za zh (za zh zf)))))))),?_⟩
  walk_at "rd"
  refine⟨Tw,?_⟩
  walk_at "rd"
  refine⟨JZ,?_⟩
  walk_at "rd"
  refine⟨by decide,?_⟩
  walk_at "rd"
  refine⟨by decide,(by show 3<=sizeLine;decide),fun p1 gH=>?_⟩
  walk_at "rd"
  refine⟨by decide,?_⟩;obtain⟨b1,b2⟩:=eU c 62 3 (by decide);obtain⟨d1,d2⟩:=eU c 60 7 (by decide);obtain⟨d3,d4⟩:=eU c 61 2000 (by decide);have d5:=Int.emod_nonneg c (show(10 ^ (56:Int).toNat:Int)≠0 by decide);have d6:=Int.emod_lt_of_pos c JZ;have TL:(10:Int) ^ (56:Int).toNat=10 ^ 56:=rfl;rw[TL] at d5 d6;have h4:pt c 62 3=0\/pt c 62 3=1\/pt c 62 3=2:=by omega
  rcases h4 with h4 | h4 | h4
  all_goals
   rw[h4];refine⟨p1,_,_,_,rfl,rfl,ao.of zb,rfl,k _ _ ?_ ?_ (ah.new gH)⟩
  ·exact d5
  ·exact d6
  ·exact d1
  ·omega
  ·exact d3
  ·omega
def yC:List V:=[.str "over",.str "cuts",.str "fills",.str "after",.str "after",.str "same",.str "over"]
theorem TM{i:Int}(h0:0<=i)(h1:i<7):∃kd:Str,gC yC i=some (.str kd)/\(kd = "after"\/kd∈uM):=by
 have h:i=0\/i=1\/i=2\/i=3\/i=4\/i=5\/i=6:=by omega
 rcases h with rfl | rfl | rfl | rfl | rfl | rfl | rfl
 ·exact⟨_,rfl,.inr (by decide +kernel)⟩
 ·exact⟨_,rfl,.inr (by decide +kernel)⟩
 ·exact⟨_,rfl,.inr (by decide +kernel)⟩
 ·exact⟨_,rfl,.inl rfl⟩
 ·exact⟨_,rfl,.inl rfl⟩
 ·exact⟨_,rfl,.inr (by decide +kernel)⟩
 ·exact⟨_,rfl,.inr (by decide +kernel)⟩
theorem TN:(Str.ofString "same" : Str)∈uM:=by decide +kernel
theorem TQ:(Str.ofString "over" : Str)∈uM:=by decide +kernel
theorem TR:¬(Str.ofString "over" : Str)=bK:=by decide +kernel
def Down(pl:Str->Int)(t:av):Prop:=(t.k=bK->pl t.a=pl t.b)/\(¬t.k=bK->pl t.b<pl t.a)
theorem yD{ps:List Int}{i:Nat}(h:i<ps.length):gC (ps.map V.int) (i:Int)=some (.int ps[i]):=iU (by simp[h])
theorem Ba{xs:List Str}{i:Nat}(h:i<xs.length):gC (xs.map V.str) (i:Int)=some (.str xs[i]):=iU (by simp[h])
def TU:Sp:=fun vs H Q _=>∃(pn pp:Addr)(xs:List Str)(ps:List Int)(m:Nat)(c:Int)(ar:Bool),vs = [.ref pn,.ref pp,.int m,.int c,.bl ar]/\ao K H pn (xs.map V.str)/\ao K H pp (ps.map V.int)/\
 xs.length=8/\xs.Nodup/\ps.length=8/\1<=m/\m<=8/\∀(p:Addr)(t:av)(H':Hp),iM (xs.take m) t->(ar=false->Down (oX xs ps) t)->H p=none->H' p=some (.tup (bg t))->ah H H'->Q (.ref p) H'
set_option maxHeartbeats 8000000 in
theorem TV(T:Tx K mg w zj zm zg zp):cD P w K mg base "_law_tie" ["_law_names_here","_law_places","_law_many","_law_cell","_law_around"] 3 (TU (K:=K)):=by
 refine T.SY.has bH (fun vs H Q E h=>?_) (fun f aR A outer s H vs Q E hr h=>?_)
 ·obtain⟨pn,pp,xs,ps,m,c,ar,rfl,_⟩:=h;rfl
 ·obtain⟨pn,pp,xs,ps,m,c,ar,rfl,hn,hp,lx,nd,lp,m1,m8,k⟩:=h;refine⟨_,(zc (sset (i:=5) bH.nd (aH (zy T) (za (pv 3) (za zh (za (pv 2) zf)))))
   (zc (sset (i:=6) bH.nd (aH (zy T) (za (pv 3) (za zh (za (pv 2) zf)))))
   (zc (sset (i:=7) bH.nd (ay (dS K rfl) (cI (za eE (za eE (za eE (za eE (za eE (za eE (za eE zf)))))))) (aH (zy T) (za (pv 3) (za zh (za zh zf))))))
   (zc (cR (PW.pt (pM (pN (oK (pv 4))) (pL (cE uz (ay (dS K rfl) (pv 1) (pv 5)) (ay (dS K rfl) (pv 1) (pv 6)) (bW _))))) (zi (LY (i:=5) (j:=6) rfl bH.nd rfl rfl (by decide) rfl rfl (za (pv 6) (za (pv 5) zf)) rfl)) cX)
   (zc (cR (PW.pt (pM (pN (oK (pv 4))) (pL (cE fZ (ay (dS K rfl) (pv 1) (pv 5)) (ay (dS K rfl) (pv 1) (pv 6)) (bW _))))) (zi (sset (i:=7) bH.nd eE)) (zi (cR (PW.pt (pM (pN (oK (pv 4))) (pL (cE fZ (pv 7) eE (bW _))))) (zi (sset (i:=7) bH.nd eE)) cX)))
   (zc (cR (cE fZ (pv 7) eE (bW _)) (zi (zz (eS (za (pv 7) (za (ay (dS K rfl) (pv 0) (pv 5)) (za (ay (dS K rfl) (pv 0) (pv 6)) (za (ay (dS K rfl) (cI (za (aH (zy T) (za (pv 3) (za zh (za zh zf)))) (za (aH (yz T) (za (pv 3) zf)) zf))) (aH (zy T) (za (pv 3) (za zh (za zh zf))))) zf))))))) cX)
   (zi (zz (eS (za (pv 7) (za (ay (dS K rfl) (pv 0) (pv 5)) (za (ay (dS K rfl) (pv 0) (pv 6)) zf)))))))))))),?_⟩
  have hm:(0:Int)<(m:Int):=by omega
  refine⟨_,rfl,_,rfl,_,_,_,rfl,hm,?_⟩;obtain⟨a0,ea,la⟩:∃a:Nat,pt c 30 m=(a:Int)/\a<m:=⟨(pt c 30 m).toNat,by have:=eU c 30 m hm;omega,by have:=eU c 30 m hm;omega⟩;rw[ea]
  try dsimp only[zx]
  refine⟨_,rfl,_,rfl,_,_,_,rfl,hm,?_⟩;obtain⟨b0,eb,lb⟩:∃a:Nat,pt c 31 m=(a:Int)/\a<m:=⟨(pt c 31 m).toNat,by have:=eU c 31 m hm;omega,by have:=eU c 31 m hm;omega⟩;rw[eb]
  try dsimp only[zx]
  refine⟨(by show 7<=sizeLine;decide),fun p1 gH=>?_⟩;refine⟨_,rfl,_,_,_,rfl,by decide,?_⟩;obtain⟨kd,ek,hk⟩:=TM (eU c 33 7 (by decide)).1 (eU c 33 7 (by decide)).2;have s1:ah H (upd H p1 (.lst yC)):=ah.new gH;refine⟨p1,yC,_,_,rfl,rfl,ao.of zb,ek,?_⟩
  try dsimp only[zx]
  show rJ _ _ _ _ (upd H p1 (.lst yC));generalize upd H p1 (.lst yC)=H1 at s1;have pa:=yD (ps:=ps) (i:=a0) (by omega);have pb:=yD (ps:=ps) (i:=b0) (by omega);refine HP (fun aq=>∃a b:Nat,aq = [some (.ref pn),some (.ref pp),some (.int m),some (.int c),some (.bl ar),some (.int a),some (.int b),some (.str kd)]/\a<m/\b<m/\(ar=false->∀(h1:a<ps.length)(h2:b<ps.length),ps[b]<=ps[a]))
   (!ar&&decide (ps[a0]<ps[b0])) (fun Q' hQ=>?_) (fun e=>⟨_,⟨b0,a0,rfl,lb,la,fun ea h1 h2=>by rw[ea] at e;have:=of_decide_eq_true e;omega⟩,fun h=>⟨_,rfl,_,rfl,_,_,rfl,h⟩⟩)
   (fun e=>⟨_,⟨a0,b0,rfl,la,lb,fun ea h1 h2=>by rw[ea] at e;have:=of_decide_eq_false e;omega⟩,fun h=>h⟩) ?_
  ·refine⟨_,rfl,ar,rfl,?_⟩;cases ar with
   | true=>exact cT hQ
   | false=>
    refine dD ?_;exact⟨_,rfl,_,rfl,pp,_,_,_,rfl,rfl,s1.seq hp,pa,_,rfl,_,rfl,pp,_,_,_,rfl,rfl,s1.seq hp,pb,_,_,rfl,rfl,_,rfl,hQ⟩
  clear pa pb la lb ea eb;rintro aq ⟨a,b,rfl,Bb,Xa,bC⟩;have pa:=yD (ps:=ps) (i:=a) (by omega);have pb:=yD (ps:=ps) (i:=b) (by omega);have xa:=Ba (xs:=xs) (i:=a) (by omega);have xb:=Ba (xs:=xs) (i:=b) (by omega);have hle:ar=false->ps[b]<=ps[a]:=fun e=>bC e _ _
  have ma:xs[a]∈xs.take m:=List.mem_take_iff_getElem.mpr ⟨a,by omega,rfl⟩;have mb:xs[b]∈xs.take m:=List.mem_take_iff_getElem.mpr ⟨b,by omega,rfl⟩;have la:=HA (xs:=xs) (ps:=ps) nd (i:=a) (x:=xs[a]) (p:=ps[a]) (List.getElem?_eq_getElem _) (List.getElem?_eq_getElem _);have lb:=HA (xs:=xs) (ps:=ps) nd (i:=b) (x:=xs[b]) (p:=ps[b]) (List.getElem?_eq_getElem _) (List.getElem?_eq_getElem _);dsimp only;refine HP (fun aq=>∃mF:Str,aq = [some (.ref pn),some (.ref pp),some (.int m),some (.int c),some (.bl ar),some (.int a),some (.int b),some (.str mF)]/\(mF = "after"\/mF∈uM)/\(ar=false->(mF=bK->ps[a]=ps[b])/\(¬mF=bK->ps[b]<ps[a])))
   (!ar&&decide (ps[a]=ps[b])) (fun Q' hQ=>?_) (fun e=>?_) (fun e=>?_) ?_
  ·refine⟨_,rfl,ar,rfl,?_⟩;cases ar with
   | true=>exact cT hQ
   | false=>
    refine dD ?_;refine⟨_,rfl,_,rfl,pp,_,_,_,rfl,rfl,s1.seq hp,pa,_,rfl,_,rfl,pp,_,_,_,rfl,rfl,s1.seq hp,pb,rfl,_,rfl,?_⟩;have e:decide (V.int ps[a]=V.int ps[b])=decide (ps[a]=ps[b]):=decide_eq_decide.mpr ⟨V.int.inj,congrArg V.int⟩;rw[e];exact hQ
  ·exact⟨_,⟨"same",rfl,.inr TN,fun ea=>⟨fun _=>by rw[ea] at e;exact of_decide_eq_true e,fun z=>absurd rfl z⟩⟩,fun h=>h⟩
  ·have c1:ar=false->¬ps[a]=ps[b]:=fun ea z=>by rw[ea] at e;exact of_decide_eq_false e z
   have qX:∀Q':Bool->Hp->Prop,Q' (!ar&&decide (kd=bK)) H1->vK (vL (tB (pK 4))) (BZ (uy Fy (pK 7) (tC (V.str (Str.ofString "same"))))) [some (.ref pn),some (.ref pp),some (.int m),some (.int c),some (.bl ar),some (.int a),some (.int b),some (.str kd)] H1 Q':=fun Q' hQ=>by
    refine⟨_,rfl,ar,rfl,?_⟩;cases ar with
    | true=>exact cT hQ
    | false=>
     refine dD ?_;refine⟨_,rfl,rfl,_,rfl,?_⟩;have e:decide (V.str kd=V.str "same")=decide (kd=bK):=decide_eq_decide.mpr ⟨V.str.inj,congrArg V.str⟩;rw[e];exact hQ
   by_cases c2:(!ar&&decide (kd=bK))=true
   ·refine⟨_,⟨"over",rfl,.inr TQ,fun ea=>⟨fun z=>absurd z TR,fun _=>by have:=hle ea;have:=c1 ea;omega⟩⟩,fun h=>iz (!ar&&decide (kd=bK)) qX ?_⟩;rw[c2];exact dD h
   ·refine⟨_,⟨kd,rfl,hk,fun ea=>⟨fun z=>absurd (by rw[ea];exact decide_eq_true z) c2,fun _=>by have:=hle ea;have:=c1 ea;omega⟩⟩,fun h=>iz (!ar&&decide (kd=bK)) qX ?_⟩;rw[Bool.eq_false_iff.mpr c2];exact cT h
  clear hk ek;rintro aq ⟨mF,rfl,dj,m9⟩;have fin:∀g,e7 (xs.take m) (bg ⟨mF,xs[a],xs[b],g⟩)->iM (xs.take m) ⟨mF,xs[a],xs[b],g⟩/\(ar=false->Down (oX xs ps) ⟨mF,xs[a],xs[b],g⟩):=fun g h3=>
   ⟨⟨h3,ma,mb⟩,fun e=>⟨fun z=>by show oX xs ps xs[a]=oX xs ps xs[b];rw[la,lb];exact(m9 e).1 z,fun z=>by show oX xs ps xs[b]<oX xs ps xs[a];rw[la,lb];exact(m9 e).2 z⟩⟩
  refine⟨_,rfl,rfl,_,rfl,?_⟩;refine aT (fun c3=>?_) (fun c3=>?_)
  ·have c3:mF = "after":=V.str.inj (of_decide_eq_true c3);refine⟨_,rfl,_,rfl,_,rfl,pn,_,_,_,rfl,rfl,s1.seq hn,xa,_,rfl,_,rfl,pn,_,_,_,rfl,rfl,s1.seq hn,xb,?_⟩;refine⟨_,rfl,_,_,_,rfl,by decide,?_⟩;refine⟨_,rfl,c,rfl,fun z H2 z0 z1 s2=>?_⟩;refine⟨(by show 2<=sizeLine;decide),fun p2 jk=>?_⟩;have s3:=ah.new (o:=.lst [.int (pt c 34 5),.int z]) jk;refine⟨_,rfl,_,_,_,rfl,by decide,?_⟩;obtain⟨d1,d2⟩:=eU c 34 5 (by decide);obtain⟨v,hv,qf⟩:=xK (u:=.int (pt c 34 5)) (v:=.int z) (eU c 35 2 (by decide)).1 (eU c 35 2 (by decide)).2;obtain⟨g,rfl,g0,g1⟩:∃g:Int,v = .int g/\0<=g/\nN g:=by
    rcases qf with rfl | rfl
    ·exact⟨_,rfl,d1,by unfold nN;omega⟩
    ·exact⟨_,rfl,z0,by unfold nN;omega⟩
   refine⟨p2,_,_,_,rfl,rfl,ao.of zb,hv,(by show 4<=sizeLine;decide),fun p3 o7=>?_⟩;have tok:e7 (xs.take m) (bg ⟨mF,xs[a],xs[b],some g⟩):=by rw[c3];exact .after ma mb g0 g1
   obtain⟨f1,f2⟩:=fin (some g) tok;exact k p3 _ _ f1 f2 (s1.free (s2.free (s3.free o7))) zb (s1.trans (s2.trans (s3.trans (ah.new o7))))
  ·have c3:¬mF = "after":=fun z=>c3 (decide_eq_true (congrArg V.str z))
   refine⟨_,rfl,_,rfl,_,rfl,pn,_,_,_,rfl,rfl,s1.seq hn,xa,_,rfl,_,rfl,pn,_,_,_,rfl,rfl,s1.seq hn,xb,(by show 3<=sizeLine;decide),fun p3 o7=>?_⟩;have tok:e7 (xs.take m) (bg ⟨mF,xs[a],xs[b],none⟩):=.plain (dj.resolve_left c3) ma mb;obtain⟨f1,f2⟩:=fin none tok;exact k p3 _ _ f1 f2 (s1.free o7) zb (s1.trans (ah.new o7))
def TX:Sp:=fun vs H Q _=>∃(pn pp pc:Addr)(xs:List Str)(ps:List Int)(m:Nat)(cs:List Int)(ar:Bool),vs = [.ref pn,.ref pp,.int m,.ref pc,.bl ar]/\ao K H pn (xs.map V.str)/\ao K H pp (ps.map V.int)/\ao K H pc (cs.map V.int)/\
 xs.length=8/\xs.Nodup/\(∀x∈xs,lY x=true)/\ps.length=8/\m<=8/\cs.length<=100/\∀(p:Addr)(ai:List Addr)(ts:List av)(H':Hp),(∀t∈ts,iM (xs.take m) t)->(ar=false->∀t∈ts,Down (oX xs ps) t)->ts.Nodup->ts.length<=cs.length->
  H p=none->H' p=some (.lst (ai.map V.ref))->aV H' ai (ts.map bg)->ah H H'->Q (.ref p) H'
set_option maxHeartbeats 8000000 in
theorem TY(T:Tx K mg w zj zm zg zp):cD P w K mg base "_law_ties" ["_law_names_here","_law_places","_law_many","_law_cells","_law_around"] 4 (TX (K:=K)):=by
 refine T.S0.has cO (fun vs H Q E h=>?_) (fun f aR A outer s H vs Q E hr h=>?_)
 ·obtain⟨pn,pp,pc,xs,ps,m,cs,ar,rfl,_⟩:=h;rfl
 ·obtain⟨pn,pp,pc,xs,ps,m,cs,ar,rfl,hn,hp,hc,lx,nd,nm,lp,m8,lc,k⟩:=h;refine⟨_,(zc (sset (i:=5) cO.nd (cI zf))
   (zc (dZ PassesOwn.never rfl (eF K rfl (pv 3)) (cL (i:=6) cO.nd) (zi (cR (cE uA (pv 2) zh (bW _)) (zc (sset (i:=7) cO.nd (aH (TV T) (za (pv 0) (za (pv 1) (za (pv 2) (za (pv 6) (za (pv 4) zf)))))))
     (zi (cR (cE (GP K rfl (xB hr)) (pv 7) (pv 5) (by with_unfolding_all rfl)) (zi (gA (jM K rfl PySem.F.plainAttrs_list PySem.F.slot_list_append PySem.F.type_list_append j4 (pv 5) (za (pv 7) zf)))) cX))) cX)))
   (zi (zz (pv 5))))),?_⟩
  refine⟨by decide,fun p qg=>?_⟩;have J1:∀x∈xs.take m,lY x=true:=fun x hx=>nm x (List.mem_of_mem_take hx)
  refine⟨_,rfl,pc,rfl,⟨_,(ah.new qg).seq hc⟩,iK (xs:=cs.map V.int) (fun i σ H'=>∃v6 v7 ai ts,σ = [some (.ref pn),some (.ref pp),some (.int m),some (.ref pc),some (.bl ar),some (.ref p),v6,v7]/\ah H H'/\H' p=some (.lst (ai.map V.ref))/\aV H' ai (ts.map bg)/\
   (∀t∈ts,iM (xs.take m) t)/\(ar=false->∀t∈ts,Down (oX xs ps) t)/\ts.Nodup/\ts.length<=i)
   ⟨none,none,[],[],rfl,ah.new qg,zb,.nil,by simp,by simp,by simp,Nat.le_refl _⟩ (fun i σ H' _ h=>by obtain⟨_,_,_,_,_,q,_⟩:=h;exact q.seq hc) ?_ ?_⟩
  ·rintro i x σ H1 hx ⟨v6,v7,ai,ts,rfl,q,gH,tp,aI,m9,qJ,bC⟩;have hi:=eT hx;rw[List.length_map] at hi;have hlen:ai.length=ts.length:=by have:=tp.len;rw[List.length_map] at this;exact this
   obtain⟨c,rfl⟩:∃z,x=V.int z:=by
    rw[List.getElem?_map] at hx;cases e:cs[i]? with
    | none=>rw[e] at hx;cases hx
    | some z=>rw[e] at hx;exact⟨z,(Option.some.inj hx).symm⟩
   try dsimp only[zx]
   refine⟨_,rfl,_,_,rfl,rfl,_,rfl,?_⟩;refine aT (fun c1=>?_) (fun c1=>?_)
   ·have c1:=of_decide_eq_true c1;refine⟨_,rfl,_,rfl,_,rfl,_,rfl,_,rfl,pn,pp,xs,ps,m,c,ar,rfl,q.seq hn,q.seq hp,lx,nd,lp,by omega,m8,fun p4 t H4 tok dn Xb e4 s4=>?_⟩;have q4:=q.trans s4;have Bc:=tp.same s4;have jS:=s4 _ _ gH;have hw:∀vs∈ts.map bg,∀v∈vs,Wd v:=fun vs hv=>by
     obtain⟨u,hu,rfl⟩:=List.mem_map.mp hv;exact((aI u hu).ok.words J1).1
    try dsimp only[zx]
    refine⟨_,rfl,_,rfl,p,_,_,rfl,.inl (ao.of jS),Bc.Hf (n:=7) hw e4 (tok.ok.words J1).1,_,rfl,?_⟩;rw[if_pos rfl,Bc.xH];refine aT (fun c3=>?_) (fun c3=>?_)
    ·have c3:bg t ∉ ts.map bg:=by simpa using c3
     refine⟨_,rfl,.inl ⟨rfl,_,ao.of jS⟩,_,rfl,p,_,_,rfl,rfl,jS,by rw[List.length_map];exact fP (by omega),?_⟩;refine⟨_,_,ai++[p4],ts++[t],rfl,q4.upd qg,?_,?_,?_,?_,?_,?_⟩
     ·rw[zb,List.map_append];rfl
     ·rw[List.map_append];exact aV.snoc (Bc.eO (kg jS)) (kg jS _ _ e4)
     ·intro u hu;rcases List.mem_append.mp hu with hu | hu
      ·exact aI u hu
      ·have:u=t:=by simpa using hu
       subst this;exact tok
     ·intro e u hu;rcases List.mem_append.mp hu with hu | hu
      ·exact m9 e u hu
      ·have:u=t:=by simpa using hu
       subst this;exact dn e
     ·rw[List.nodup_append];refine⟨qJ,by simp,fun a ha b hb e=>?_⟩;simp at hb;subst hb;subst e;exact c3 (List.mem_map.mpr ⟨a,ha,rfl⟩)
     ·rw[List.length_append];exact Nat.succ_le_succ bC
    ·exact⟨_,_,ai,ts,rfl,q4,jS,Bc,aI,m9,qJ,by omega⟩
   ·exact⟨_,_,ai,ts,rfl,q,gH,tp,aI,m9,qJ,by omega⟩
  ·rintro σ H1 ⟨v6,v7,ai,ts,rfl,q,gH,tp,aI,m9,qJ,bC⟩;rw[List.length_map] at bC;exact⟨_,rfl,k p ai ts _ aI m9 qJ bC qg gH tp q⟩
def TZ:Sp:=fun vs H Q _=>∃c:Int,vs = [.int c]/\∀(p:Addr)(lo hi:Int)(H':Hp),lo<=hi->lo.natAbs<10 ^ 56->nN hi->H p=none->H' p=some (.tup [.int lo,.int hi])->ah H H'->Q (.ref p) H'
set_option maxHeartbeats 4000000 in
theorem T3(T:Tx K mg w zj zm zg zp):cD P w K mg base "_law_frame" ["_law_cell"] 3 TZ:=by
 refine T.S1.has fS (fun vs H Q E h=>?_) (fun f aR A outer s H vs Q E hr h=>?_)
 ·obtain⟨c,rfl,_⟩:=h;rfl
 ·obtain⟨c,rfl,k⟩:=h;refine⟨_,(zc (sset (i:=1) fS.nd (c9 Ag (aH (yz T) (za (pv 0) zf)) (ay (dS K rfl) (cI (za zh (za (vU vX zh) zf))) (aH (zy T) (za (pv 0) (za zh (za zh zf)))))))
   (zi (zz (eS (za (pv 1) (za (c9 jJ (pv 1) (ay (dS K rfl) (cI (za (aH (zy T) (za (pv 0) (za zh (za zh zf)))) (za (aH (yz T) (za (c9 jJ (pv 0) zh) zf)) zf))) (aH (zy T) (za (pv 0) (za zh (za zh zf)))))) zf)))))),?_⟩
  refine⟨_,rfl,c,rfl,fun z H1 z0 z1 s1=>?_⟩;refine⟨_,rfl,(by show 2<=sizeLine;decide),fun p1 gH=>?_⟩;refine⟨_,rfl,_,_,_,rfl,by decide,?_⟩;obtain⟨v,hv,qf⟩:=xK (u:=.int 1) (v:=.int (-1)) (eU c 50 2 (by decide)).1 (eU c 50 2 (by decide)).2;obtain⟨j,rfl,hj⟩:∃j:Int,v = .int j/\(j=1\/j = -1):=by
   rcases qf with rfl | rfl
   ·exact⟨_,rfl,.inl rfl⟩
   ·exact⟨_,rfl,.inr rfl⟩
  refine⟨p1,_,_,_,rfl,rfl,ao.of zb,hv,?_⟩;refine⟨_,_,rfl,rfl,.inr (by rcases hj with rfl | rfl<;>exact⟨by decide,by decide⟩),?_⟩;have s2:=s1.trans (ah.new (o:=.lst [.int 1,.int (-1)]) gH)
  try dsimp only[zx]
  obtain⟨lo,T4⟩:∃lo,lo=z * j:=⟨_,rfl⟩;rw[←T4];have Be:lo.natAbs<10 ^ 56:=by rcases hj with rfl | rfl<;>omega
  refine⟨_,rfl,_,rfl,_,rfl,_,_,_,rfl,by decide,?_⟩;refine⟨_,rfl,_,_,rfl,rfl,_,rfl,fun y H2 y0 y1 s3=>?_⟩;refine⟨(by show 2<=sizeLine;decide),fun p2 jk=>?_⟩;have s4:=ah.new (o:=.lst [.int (pt c 51 12),.int y]) jk;refine⟨_,rfl,_,_,_,rfl,by decide,?_⟩;obtain⟨d1,d2⟩:=eU c 51 12 (by decide);obtain⟨v,hv,qf⟩:=xK (u:=.int (pt c 51 12)) (v:=.int y) (eU c 52 2 (by decide)).1 (eU c 52 2 (by decide)).2;obtain⟨g,rfl,g0,g1⟩:∃g:Int,v = .int g/\0<=g/\g<10 ^ 56:=by
   rcases qf with rfl | rfl
   ·exact⟨_,rfl,d1,by omega⟩
   ·exact⟨_,rfl,y0,y1⟩
  refine⟨p2,_,_,_,rfl,rfl,ao.of zb,hv,_,_,rfl,rfl,(by show 2<=sizeLine;decide),fun p3 o7=>?_⟩;refine k p3 lo (lo+g) _ (by omega) Be (by unfold nN;omega) (s2.free (s3.free (s4.free o7))) zb (s2.trans (s3.trans (s4.trans (ah.new o7))))
def T5:Sp:=fun vs H Q _=>∃(pn pm pc:Addr)(xs:List Str)(m:Nat)(lo hi:Int)(cs:List Int),vs = [.ref pn,.int m,.ref pm,.ref pc]/\ao K H pn (xs.map V.str)/\aG K H pm [.int lo,.int hi]/\ao K H pc (cs.map V.int)/\
 xs.length=8/\xs.Nodup/\(∀x∈xs,lY x=true)/\m<=8/\cs.length<=6/\lo.natAbs<10 ^ 56/\∀(p:Addr)(ai:List Addr)(fs:List bI)(H':Hp),(∀f∈fs,nP (xs.take m) f)->(fs.map bI.n).Nodup->fs.length<=cs.length->
  H p=none->H' p=some (.lst (ai.map V.ref))->aV H' ai (fs.map dU)->ah H H'->Q (.ref p) H'
set_option maxHeartbeats 8000000 in
theorem T6(T:Tx K mg w zj zm zg zp):cD P w K mg base "_law_finds" ["_law_names_here","_law_many","_law_frame_here","_law_cells"] 3 (T5 (K:=K)):=by
 refine T.S2.has bA (fun vs H Q E h=>?_) (fun f aR A outer s H vs Q E hr h=>?_)
 ·obtain⟨pn,pm,pc,xs,m,lo,hi,cs,rfl,_⟩:=h;rfl
 ·obtain⟨pn,pm,pc,xs,m,lo,hi,cs,rfl,hn,hm,hc,lx,nd,nm,m8,lc,Be,k⟩:=h;refine⟨_,(zc (sset (i:=4) bA.nd (cI zf))
   (zc (dZ PassesOwn.never rfl (rN (by rfl) T.range (za (fJ (lA K rfl) (by rfl) T.len boot_len (za (pv 3) zf)) zf)) (cL (i:=5) bA.nd) (zc (sset (i:=6) bA.nd (ay (dS K rfl) (pv 3) (pv 5)))
    (zi (cR (cE uA (pv 1) zh (bW _)) (zc (sset (i:=7) bA.nd (c9 jJ (ay (zo K rfl) (pv 2) zh) (ay (dS K rfl) (cI (za (c9 Af (aH (zy T) (za (pv 6) (za zh (za zh zf)))) zh) (za (aH (yz T) (za (pv 6) zf)) zf))) (aH (zy T) (za (pv 6) (za zh (za zh zf)))))))
     (zc (sset (i:=8) bA.nd (c9 jJ (pv 7) (ay (dS K rfl) (cI (za (aH (zy T) (za (pv 6) (za zh (za zh zf)))) (za (aH (yz T) (za (c9 jJ (pv 6) zh) zf)) zf))) (aH (zy T) (za (pv 6) (za zh (za zh zf)))))))
     (zi (gA (jM K rfl PySem.F.plainAttrs_list PySem.F.slot_list_append PySem.F.type_list_append j4 (pv 4) (za (eS (za (ay (dS K rfl) (pv 0) (pv 5)) (za (ay (dS K rfl) (pv 0) (aH (zy T) (za (pv 6) (za zh (za (pv 1) zf))))) (za (pv 7) (za (pv 8) zf))))) zf)))))) cX))))
   (zi (zz (pv 4))))),?_⟩
  refine⟨by decide,fun p qg=>?_⟩;have J2:(cs.map V.int).length=cs.length:=List.length_map _;refine⟨_,rfl,pc,_,rfl,.inl ((ah.new qg).seq hc),((cs.map V.int).length:Int),rfl,by omega,by omega,vS (lo:=0) (n:=(cs.map V.int).length) (fun i σ H'=>∃v5 v6 v7 v8 ai fs,σ = [some (.ref pn),some (.int m),some (.ref pm),some (.ref pc),some (.ref p),v5,v6,v7,v8]/\ah H H'/\H' p=some (.lst (ai.map V.ref))/\aV H' ai (fs.map dU)/\
   (∀f∈fs,nP (xs.take m) f)/\fs.map bI.n=xs.take fs.length/\fs.length<=i/\(1<=m->fs.length=i))
   ⟨none,none,none,none,[],[],rfl,ah.new qg,zb,.nil,by simp,by simp,Nat.le_refl _,fun _=>rfl⟩ ?_ ?_⟩
  ·rintro i σ H1 hi ⟨v5,v6,v7,v8,ai,fs,rfl,q,gH,tp,aI,jc,bC,hle⟩;rw[J2] at hi;have hlen:ai.length=fs.length:=by have:=tp.len;rw[List.length_map] at this;exact this
   have ec:=yD (ps:=cs) (i:=i) hi;rw[←Int.zero_add (i:Int)] at ec
   try dsimp only[zx]
   refine⟨_,rfl,_,rfl,pc,_,_,_,rfl,rfl,q.seq hc,ec,?_⟩
   try dsimp only[zx]
   generalize cs[i]=c;refine⟨_,rfl,_,_,rfl,rfl,_,rfl,?_⟩;refine aT (fun c1=>?_) (fun c1=>?_)
   ·have c1:=of_decide_eq_true c1;have Ed:(0:Int)<(m:Int):=by omega
    refine⟨_,rfl,pm,_,_,_,rfl,rfl,q.tup hm,lB,?_⟩;refine⟨_,rfl,_,_,_,rfl,by decide,_,_,rfl,rfl,?_⟩;refine⟨_,rfl,c,rfl,fun z H2 z0 z1 s2=>?_⟩;refine⟨(by show 2<=sizeLine;decide),fun p2 jk=>?_⟩;have s3:=ah.new (o:=.lst [.int (pt c 41 12-3),.int z]) jk;refine⟨_,rfl,_,_,_,rfl,by decide,?_⟩;obtain⟨d1,d2⟩:=eU c 41 12 (by decide);obtain⟨v,hv,qf⟩:=xK (u:=.int (pt c 41 12-3)) (v:=.int z) (eU c 42 2 (by decide)).1 (eU c 42 2 (by decide)).2;obtain⟨g,rfl,g0,g1⟩:∃g:Int,v = .int g/\-3<=g/\g<10 ^ 56:=by
     rcases qf with rfl | rfl
     ·exact⟨_,rfl,by omega,by omega⟩
     ·exact⟨_,rfl,by omega,z1⟩
    refine⟨p2,_,_,_,rfl,rfl,ao.of zb,hv,_,_,rfl,rfl,?_⟩;have q3:=q.trans (s2.trans s3);have t3:=s2.trans s3
    try dsimp only[zx]
    obtain⟨low,Ef⟩:∃low,low=lo+g:=⟨_,rfl⟩;rw[←Ef];refine⟨_,rfl,_,rfl,_,_,_,rfl,by decide,?_⟩;refine⟨_,rfl,_,_,rfl,rfl,_,rfl,fun y H4 y0 y1 s4=>?_⟩;refine⟨(by show 2<=sizeLine;decide),fun p5 yE=>?_⟩;have s5:=ah.new (o:=.lst [.int (pt c 43 12),.int y]) yE;refine⟨_,rfl,_,_,_,rfl,by decide,?_⟩;obtain⟨d3,d4⟩:=eU c 43 12 (by decide);obtain⟨v,hv,qf⟩:=xK (u:=.int (pt c 43 12)) (v:=.int y) (eU c 44 2 (by decide)).1 (eU c 44 2 (by decide)).2;obtain⟨g',rfl,Xc,Xd⟩:∃g:Int,v = .int g/\0<=g/\g<10 ^ 56:=by
     rcases qf with rfl | rfl
     ·exact⟨_,rfl,d3,by omega⟩
     ·exact⟨_,rfl,y0,y1⟩
    refine⟨p5,_,_,_,rfl,rfl,ao.of zb,hv,_,_,rfl,rfl,?_⟩;have t5:=t3.trans (s4.trans s5);have q5:=q.trans t5
    try dsimp only[zx]
    have J3:i<xs.length:=by omega
    have en:=Ba (xs:=xs) (i:=i) J3;rw[←Int.zero_add (i:Int)] at en;obtain⟨b,eb,lb⟩:∃a:Nat,pt c 40 m=(a:Int)/\a<m:=⟨(pt c 40 m).toNat,by have:=eU c 40 m Ed;omega,by have:=eU c 40 m Ed;omega⟩;have eu:=Ba (xs:=xs) (i:=b) (by omega);have qh:=t5 _ _ gH;refine⟨_,rfl,.inl ⟨rfl,_,ao.of qh⟩,_,rfl,_,rfl,pn,_,_,_,rfl,rfl,q5.seq hn,en,_,rfl,_,rfl,_,rfl,_,_,_,rfl,Ed,?_⟩;rw[eb];refine⟨pn,_,_,_,rfl,rfl,q5.seq hn,eu,_,rfl,_,rfl,(by show 4<=sizeLine;decide),fun p6 uZ=>?_⟩;have s6:=ah.new (o:=.tup (dU ⟨xs[i],xs[b],low,low+g'⟩)) uZ;refine⟨p,_,_,rfl,rfl,s6 _ _ qh,by rw[List.length_map];exact fP (by omega),?_⟩;have J4:=hle (by omega);refine⟨_,_,_,_,ai++[p6],fs++[⟨xs[i],xs[b],low,low+g'⟩],rfl,(q5.trans s6).upd qg,?_,?_,?_,?_,?_,?_⟩
    ·rw[zb,List.map_append];rfl
    ·rw[List.map_append];exact aV.snoc (((tp.same t5).same s6).eO (kg (s6 _ _ qh))) (kg (s6 _ _ qh) _ _ zb)
    ·intro f hf;rcases List.mem_append.mp hf with hf | hf
     ·exact aI f hf
     ·have:f=⟨xs[i],xs[b],low,low+g'⟩:=by simpa using hf
      subst this;refine⟨nm _ (List.getElem_mem _),List.mem_take_iff_getElem.mpr ⟨b,by omega,rfl⟩,?_,?_,?_⟩
      ·show low<=low+g';omega
      ·show low.natAbs<10 ^ 60;omega
      ·show(low+g').natAbs<10 ^ 60;omega
    ·rw[List.map_append,List.length_append,jc,J4];show xs.take i++[xs[i]]=xs.take (i+1);rw[List.take_add_one,List.getElem?_eq_getElem J3];rfl
    ·rw[List.length_append];exact Nat.succ_le_succ bC
    ·intro _;rw[List.length_append,J4];rfl
   ·have c1:¬(0:Int)<(m:Int):=fun z=>c1 (decide_eq_true z)
    exact⟨_,_,_,_,ai,fs,rfl,q,gH,tp,aI,jc,by omega,fun z=>by omega⟩
  ·rintro σ H1 ⟨v5,v6,v7,v8,ai,fs,rfl,q,gH,tp,aI,jc,bC,hle⟩;rw[J2] at bC;exact⟨_,rfl,k p ai fs _ aI (by rw[jc];exact nd.sublist (List.take_sublist _ _)) bC qg gH tp q⟩
def yF(c:Int):V->V
 | .int z=>.int (pt c (70+z) 6)
 | _=>.bO
def T8:Sp:=fun vs H Q _=>∃(a:Addr)(ns:List Int)(ar:Bool),vs = [.ref a,.bl ar]/\ao K H a (ns.map V.int)/\ns.length<=63/\
 ∀(p pm pu pt pf:Addr)(lo hi:Int)(us:List Str)(ts:List av)(fs:List bI)(at' af:List Addr)(H':Hp),AO lo hi us ts fs->(ar=false->∃pl:Str->Int,∀t∈ts,Down pl t)->
  H' p=some (.tup [.ref pm,.ref pu,.ref pt,.ref pf])->gF K H' p pm pu pt pf lo hi us ts fs at' af->ah H H'->Q (.ref p) H'
set_option maxHeartbeats 8000000 in
theorem T9(T:Tx K mg w zj zm zg zp):cD P w K mg base "_law_telling" ["_law_script","_law_around"] 5 (T8 (K:=K)):=by
 refine T.S3.has aL (fun vs H Q E h=>?_) (fun f aR A outer s H vs Q E hr h=>?_)
 ·obtain⟨a,ns,ar,rfl,_⟩:=h;rfl
 ·obtain⟨a,ns,ar,rfl,ha,hl,k⟩:=h;refine⟨_,(zc (sset (i:=2) aL.nd (aH (TF T) (za (aH (o6 T) (za (pv 0) (za zh zf))) (za (aH (o6 T) (za (pv 0) (za zh zf))) zf))))
   (zc (w9 (i:=3) (own:=["_law_k"]) (cap:=["_law_script"]) (ix:=[0]) (gE:=zq (top 52)) rfl aL.nd rfl rfl rfl ⟨rfl,by decide +kernel,by decide +kernel,by decide +kernel,by decide +kernel⟩ rfl (rN (by rfl) T.range (za zh zf)) (fun _ _ _ _=>ig (i:=0) (show List.Nodup (["_law_k","_law_script"]:List Str) by decide +kernel) rfl (Or.inl rfl)) (fun _ _ _ _=>j5) (fun _ _ _ _=>(aH (zy T) (za (aH (o6 T) (za (pv 1) (za zh zf))) (za (c9 jJ zh (pv 0)) (za zh zf))))))
   (zc (sset (i:=4) aL.nd (aH (zy T) (za (aH (o6 T) (za (pv 0) (za zh zf))) (za zh (za zh zf)))))
   (zc (sset (i:=5) aL.nd (aH (T3 T) (za (aH (o6 T) (za (pv 0) (za zh zf))) zf)))
   (zc (sset (i:=6) aL.nd (aH (zy T) (za (aH (o6 T) (za (pv 0) (za zh zf))) (za zh (za zh zf)))))
   (zc (w9 (i:=7) (own:=["_law_name"]) (cap:=["_law_names_here","_law_many"]) (ix:=[2,4]) (gE:=zq (top 52)) rfl aL.nd rfl rfl rfl ⟨rfl,by decide +kernel,by decide +kernel,by decide +kernel,by decide +kernel⟩ rfl (eF K rfl (c9 sq (lT (sF K rfl) (pv 2) (kC (pv 6)) nC) (lT (sF K rfl) (pv 2) nC (kC (pv 6))))) (fun _ _ _ _=>ig (i:=0) (show List.Nodup (["_law_name","_law_names_here","_law_many"]:List Str) by decide +kernel) rfl (Or.inl rfl)) (fun _ _ _ _=>Cy (cE (GO K rfl) (pv 0) (lT (sF K rfl) (pv 1) nC (kC (pv 2))) (by with_unfolding_all rfl))) (fun _ _ _ _=>(pv 0)))
   (zc (sset (i:=8) aL.nd (aH (TY T) (za (pv 2) (za (pv 3) (za (pv 4) (za (lT (sF K rfl) (pv 0) (kC zh) (kC zh)) (za (pv 1) zf)))))))
   (zi (zz (eS (za (pv 5) (za (pv 7) (za (pv 8) (za (aH (T6 T) (za (pv 2) (za (pv 4) (za (pv 5) (za (lT (sF K rfl) (pv 0) (kC zh) (kC zh)) zf))))) zf)))))))))))))),?_⟩
  refine⟨_,rfl,a,ns,_,rfl,ha,by decide,_,rfl,a,ns,_,rfl,ha,by decide,_,_,rfl,fun pn xs H1 x1 x2 x3 tG hn s1=>?_⟩
  try dsimp only[zx]
  refine⟨8,rfl,by decide,by decide,fun D hD=>?_⟩;have sD:∀ys,ah H1 (upd H1 D (.lst ys)):=fun ys=>ah.new hD
  refine NN (GG (lo:=0) (n:=8)) (fun _=>true) (yF (g8 ns 2)) (fun _=>trivial) (by decide) (fun v hv ys Q' q=>q) (fun v hv _ ys Q' q=>?_) ?_
  ·obtain⟨z,hz,rfl⟩:=List.mem_map.mp hv;exact⟨_,rfl,a,ns,_,rfl,(s1.trans (sD ys)).seq ha,by decide,_,rfl,_,_,rfl,rfl,_,_,_,rfl,by decide,q⟩
  have Ua:((((List.range 8).map fun i=>V.int (0+(i:Nat))).filter fun _=>true).map (yF (g8 ns 2)))=((List.range 8).map fun i=>pt (g8 ns 2) (70+(0+(i:Nat))) 6).map V.int:=by
   rw[List.filter_eq_self.mpr (fun _ _=>rfl),List.map_map,List.map_map];rfl
  rw[Ua];have J6:((List.range 8).map fun i=>pt (g8 ns 2) (70+(0+(i:Nat))) 6).length=8:=by simp
  generalize ((List.range 8).map fun i=>pt (g8 ns 2) (70+(0+(i:Nat))) 6)=ps at J6;have s2:ah H1 (upd H1 D (.lst (ps.map V.int))):=sD _;have eD:upd H1 D (.lst (ps.map V.int)) D=some (.lst (ps.map V.int)):=zb;generalize upd H1 D (.lst (ps.map V.int))=H2 at s2 eD;have q2:=s1.trans s2
  try dsimp only[zx]
  refine⟨_,rfl,a,ns,_,rfl,q2.seq ha,by decide,_,_,_,rfl,by decide,?_⟩;obtain⟨m,em,lm⟩:∃m:Nat,pt (g8 ns 3) 0 9=(m:Int)/\m<=8:=⟨(pt (g8 ns 3) 0 9).toNat,by have:=eU (g8 ns 3) 0 9 (by decide);omega,by have:=eU (g8 ns 3) 0 9 (by decide);omega⟩;rw[em]
  try dsimp only[zx]
  refine⟨_,rfl,a,ns,_,rfl,q2.seq ha,by decide,_,rfl,fun pm lo hi H3 Ub Be HB Xe yG s3=>?_⟩;have q3:=q2.trans s3
  try dsimp only[zx]
  refine⟨_,rfl,a,ns,_,rfl,q3.seq ha,by decide,_,_,_,rfl,by decide,?_⟩;obtain⟨tu,et,lt⟩:∃m:Nat,pt (g8 ns 3) 1 8=(m:Int)/\m<8:=⟨(pt (g8 ns 3) 1 8).toNat,by have:=eU (g8 ns 3) 1 8 (by decide);omega,by have:=eU (g8 ns 3) 1 8 (by decide);omega⟩;rw[et]
  try dsimp only[zx]
  have o8:=s3 _ _ (s2 _ _ hn);have Bg:(xs.map V.str).length=8:=by rw[List.length_map,x1]
  refine⟨_,rfl,_,rfl,_,rfl,pn,_,rfl,ao.of o8,fun p1 gH=>?_⟩;rw[OF (by omega) (by rw[Bg];omega)];have t1:=ah.new (o:=.lst ((xs.map V.str).drop (tu:Int).toNat)) gH;refine⟨_,rfl,_,rfl,_,rfl,pn,_,rfl,ao.of (t1 _ _ o8),fun p2 jk=>?_⟩;rw[Hj (by omega) (by rw[Bg];omega)];have t2:=ah.new (o:=.lst ((xs.map V.str).take (tu:Int).toNat)) jk;refine⟨p1,p2,_,_,rfl,rfl,t2 _ _ zb,zb,(by rw[List.length_drop,List.length_take,Bg];exact jC (by omega)),fun p3 o7=>?_⟩;have Eg:(xs.map V.str).drop (tu:Int).toNat++(xs.map V.str).take (tu:Int).toNat=(xs.drop tu++xs.take tu).map V.str:=by
   rw[Int.toNat_natCast,←List.map_drop,←List.map_take,←List.map_append]
  rw[Eg];have t3:=ah.new (o:=.lst ((xs.drop tu++xs.take tu).map V.str)) o7;have Eh:(xs.drop tu++xs.take tu).length=8:=by rw[List.length_append,List.length_drop,List.length_take];omega
  refine⟨p3,rfl,⟨_,ao.of zb⟩,fun D2 Ei=>?_⟩;have tH:=t1.trans (t2.trans t3);have e3:upd (upd (upd H3 p1 (.lst ((xs.map V.str).drop (tu:Int).toNat))) p2 (.lst ((xs.map V.str).take (tu:Int).toNat))) p3 (.lst ((xs.drop tu++xs.take tu).map V.str)) p3=some (.lst ((xs.drop tu++xs.take tu).map V.str)):=zb;generalize upd (upd (upd H3 p1 (.lst ((xs.map V.str).drop (tu:Int).toNat))) p2 (.lst ((xs.map V.str).take (tu:Int).toNat))) p3 (.lst ((xs.drop tu++xs.take tu).map V.str))=H4 at tH e3 Ei;have Ej:=tH _ _ o8;refine mS (oR (K:=K) (a:=p3) (xs:=(xs.drop tu++xs.take tu).map V.str)) (fun i aq ys H'=>∃w0,aq = [w0,some (.ref pn),some (.int m)]/\ys=(((xs.drop tu++xs.take tu).take i).filter fun x=>decide (x∈xs.take m)).map V.str/\ah H4 H'/\H' D2=some (.lst ys))
   ⟨none,rfl,by simp,ah.new Ei,zb⟩ (fun i aq ys H' h=>?_) (by rw[List.length_map,Eh];decide) ?_ ?_
  ·obtain⟨_,_,rfl,q,hd⟩:=h;refine⟨ao.of (q _ _ e3),hd,?_⟩;rw[List.length_map];exact Nat.le_trans (List.length_filter_le _ _) (by rw[List.length_take];omega)
  ·rintro i v aq ys H' hx ⟨w0,rfl,rfl,q,hd⟩;rw[List.getElem?_map] at hx;cases ex:(xs.drop tu++xs.take tu)[i]? with
   | none=>rw[ex] at hx;cases hx
   | some x=>
    rw[ex] at hx;cases hx;have dR:=eT ex
    try dsimp only[zx]
    refine⟨_,rfl,_,rfl,_,rfl,_,rfl,pn,_,rfl,ao.of (q _ _ Ej),fun p6 uZ=>?_⟩;rw[Hj (by omega) (by rw[Bg];omega),Int.toNat_natCast,←List.map_take];have t6:=ah.new (o:=.lst ((xs.take m).map V.str)) uZ;refine⟨p6,_,rfl,.inl (ao.of zb),rfl,?_⟩;refine⟨by rw[List.all_map];exact List.all_eq_true.mpr fun _ _=>rfl,_,rfl,?_⟩;rw[if_neg Bool.false_ne_true,IU];have fQ:=t6 _ _ hd;refine aT (fun c=>?_) (fun c=>?_)
    ·refine⟨_,rfl,fQ,jD (by rw[List.length_map];exact dR) ⟨_,rfl,?_,(q.trans t6).upd Ei,zb⟩⟩;rw[List.take_add_one,ex,List.filter_append,List.map_append];simp[of_decide_eq_true c]
    ·refine⟨fQ,jD (by rw[List.length_map];exact dR) ⟨_,rfl,?_,q.trans t6,fQ⟩⟩;have c:¬x∈xs.take m:=fun z=>c (decide_eq_true z)
     rw[List.take_add_one,ex,List.filter_append,List.map_append];simp[c]
  rintro aq ys H5 ⟨w0,rfl,rfl,t5,hd⟩;rw[List.length_map,List.take_length] at hd;obtain⟨Ek,qi⟩:=OE (xs:=xs) x2 tu m;generalize ((xs.drop tu++xs.take tu).filter fun x=>decide (x∈xs.take m))=us at hd Ek qi;have ul:us.length<=8:=by
   have:=lD Ek (us:=xs.take m) fun x hx=>(qi x).mp hx
   rw[List.length_take] at this;omega
  have J7:=tH.trans t5;have q5:=q3.trans J7
  try dsimp only[zx]
  obtain⟨cs,ec,lc⟩:=Hh ns (some 6) (some 22);have Uc:cs.length<=16:=by
   have e2:=congrArg List.length ec;rw[List.length_map] at e2;rw[←e2];unfold fK HT.bR;rw[List.length_take];simp;omega
  refine⟨_,rfl,_,rfl,_,rfl,_,rfl,_,rfl,_,rfl,a,_,rfl,q5.seq ha,fun pc qa=>?_⟩;rw[ec];have s6:=ah.new (o:=.lst (cs.map V.int)) qa;have El:=J7.trans s6;refine⟨_,rfl,pn,D,pc,xs,ps,m,cs,ar,rfl,ao.of (El _ _ o8),ao.of (El _ _ (s3 _ _ eD)),ao.of zb,x1,x2,x3,J6,lm,by omega,fun kj ai ts H7 tok dn qJ tl Xf Ud tt s7=>?_⟩;have Em:=El.trans s7;have q7:=q3.trans Em
  try dsimp only[zx]
  obtain⟨En,J8,Xg⟩:=Hh ns (some 22) (some 28);have Ue:En.length<=6:=by
   have e2:=congrArg List.length J8;rw[List.length_map] at e2;rw[←e2];unfold fK HT.bR;rw[List.length_take];simp;omega
  refine⟨_,rfl,_,rfl,_,rfl,_,rfl,_,rfl,_,rfl,_,rfl,_,rfl,_,rfl,a,_,rfl,q7.seq ha,fun Ug Eo=>?_⟩;rw[J8];have s8:=ah.new (o:=.lst (En.map V.int)) Eo;have J9:=Em.trans s8;refine⟨pn,pm,Ug,xs,m,lo,hi,En,rfl,ao.of (J9 _ _ o8),aG.of (J9 _ _ yG),ao.of zb,x1,x2,x3,lm,Ue,Be,fun pf af fs H9 uP HC fl Xh yH ft s9=>?_⟩;refine⟨(by show 4<=sizeLine;decide),fun p hp=>?_⟩;have wZ:=ah.new (o:=.tup [.ref pm,.ref D2,.ref kj,.ref pf]) hp;have yI:=s8.trans (s9.trans wZ);have sub:∀x∈xs.take m,x∈us:=fun x hx=>(qi x).mpr hx
  have dat:AO lo hi us ts fs:=⟨Ub,by unfold nN;omega,HB,Ek,fun x hx=>x3 x (List.mem_of_mem_take ((qi x).mp hx)),ul,fun t ht=>(tok t ht).mono sub,qJ,by omega,fun f hf=>(uP f hf).mono sub,HC,by omega⟩;refine k p pm D2 kj pf lo hi us ts fs ai af _ dat (fun e=>⟨_,dn e⟩) zb ⟨aG.of zb,aG.of (yI _ _ (Em _ _ yG)),ao.of (yI _ _ (s7 _ _ (s6 _ _ hd))),ao.of (yI _ _ Ud),tt.same yI,ao.of (wZ _ _ yH),ft.same wZ⟩ (q7.trans yI)
def Uh:Sp:=fun vs H Q _=>∃(p pm pu pt pf:Addr)(lo hi:Int)(us:List Str)(ts:List av)(fs:List bI)(at' af:List Addr),vs = [.ref p]/\gF K H p pm pu pt pf lo hi us ts fs at' af/\
 ∀(p' Bh kj u0:Addr)(H':Hp),H' p'=some (.tup [.ref pm,.ref Bh,.ref kj,.ref u0])->gF K H' p' pm Bh kj u0 lo hi us ts fs at' af->ah H H'->Q (.ref p') H'
set_option maxHeartbeats 4000000 in
theorem Ka(T:Tx K mg w zj zm zg zp):cD P w K mg base "_law_copy" ["_law_telling_here"] 1 (Uh (K:=K)):=by
 refine T.S4.has To (fun vs H Q E h=>?_) (fun f aR A outer s H vs Q E hr h=>?_)
 ·obtain⟨p,pm,pu,pt,pf,lo,hi,us,ts,fs,at',af,rfl,_⟩:=h;rfl
 ·obtain⟨p,pm,pu,pt,pf,lo,hi,us,ts,fs,at',af,rfl,h,k⟩:=h;refine⟨_,(zi (zz (eS (za (ay (zo K rfl) (pv 0) zh) (za (pO (xA K rfl) (by rfl) T.list PyProof.Rows.boot_list (za (ay (zo K rfl) (pv 0) zh) zf)) (za (pO (xA K rfl) (by rfl) T.list PyProof.Rows.boot_list (za (ay (zo K rfl) (pv 0) zh) zf)) (za (pO (xA K rfl) (by rfl) T.list PyProof.Rows.boot_list (za (ay (zo K rfl) (pv 0) zh) zf)) zf))))))),?_⟩;refine⟨_,rfl,p,_,_,_,rfl,rfl,h.p,rfl,?_⟩;refine⟨_,rfl,p,_,_,_,rfl,rfl,h.p,rfl,pu,_,rfl,.inl h.at'.u,fun b1 jy=>?_⟩;have t1:=ah.new (o:=.lst (us.map V.str)) jy;have h1:=h.same t1;refine⟨_,rfl,p,_,_,_,rfl,rfl,h1.p,rfl,pt,_,rfl,.inl h1.at'.t,fun b2 Ep=>?_⟩;have t2:=ah.new (o:=.lst (at'.map V.ref)) Ep;have h2:=h1.same t2;refine⟨_,rfl,p,_,_,_,rfl,rfl,h2.p,rfl,pf,_,rfl,.inl h2.at'.f,fun b3 Bj=>?_⟩;have t3:=ah.new (o:=.lst (af.map V.ref)) Bj;refine⟨(by show 4<=sizeLine;decide),fun ph Ui=>?_⟩;have t4:=ah.new (o:=.tup [.ref pm,.ref b1,.ref b2,.ref b3]) Ui;have q:=t1.trans (t2.trans (t3.trans t4));have hq:=h.same q;exact k ph b1 b2 b3 _ zb ⟨aG.of zb,hq.at'.m,ao.of (t4 _ _ (t3 _ _ (t2 _ _ zb))),ao.of (t4 _ _ (t3 _ _ zb)),hq.at'.tt,ao.of (t4 _ _ zb),hq.at'.ft⟩ q
def Uj:Sp:=fun vs H Q _=>∃(pd:Addr)(us:List Str)(aJ:Str->Str)(f s:Str),vs = [.ref pd,.str f,.str s]/\H pd=some (.dK (dN us aJ))/\us.Nodup/\us.length<=1000/\
 ∀H':Hp,H' pd=some (.dK (dN us (jn aJ f s)))->(∀b o,b≠pd->H b=some o->H' b=some o)->Q .bO H'
set_option maxHeartbeats 4000000 in
theorem Uk(T:Tx K mg w zj zm zg zp):cD P w K mg base "join_ones" ["names","first","second"] 1 Uj:=by
 refine T.Sm.has d9 (fun vs H Q E h=>?_) (fun f aR A outer s H vs Q E hr h=>?_)
 ·obtain⟨pd,us,aJ,f,s,rfl,_⟩:=h;rfl
 ·obtain⟨pd,us,aJ,f,s',rfl,hd,nd,hl,k⟩:=h;have hu:=fm hr;refine⟨_,(zc (sset (i:=3) d9.nd (fJ (HN rfl) (by rfl) T.min PyProof.Rows.boot_min (za (pv 1) (za (pv 2) zf))))
   (zi (dZ PassesOwn.never rfl (eF K rfl (pO (CS rfl) (by rfl) T.list PyProof.Rows.boot_list (za (pv 0) zf))) (cL (i:=4) d9.nd) (zi (cR (cE (GO K rfl) (zw hu (pv 0) (pv 4) (fun _ _=>rfl)) (eS (za (pv 1) (za (pv 2) zf))) (by with_unfolding_all rfl)) (zi (g7 hu (pv 0) (pv 4) (pv 3) rfl)) cX))))),?_⟩
  refine⟨_,rfl,_,rfl,_,_,rfl,?_⟩;refine⟨_,rfl,pd,_,rfl,hd,fun l jo=>?_⟩;rw[Ov];have qK:pd≠l:=zv hd jo;refine⟨l,rfl,⟨_,ao.of zb⟩,iK (xs:=us.map V.str) (fun i σ H'=>∃v4,σ = [some (.ref pd),some (.str f),some (.str s'),some (.str (gp f s')),v4]/\(∀b o,b≠pd->H b=some o->H' b=some o)/\H' l=some (.lst (us.map V.str))/\
   H' pd=some (.dK (dN us fun x=>if x∈us.take i then jn aJ f s' x else aJ x)))
   ⟨none,rfl,fun b o _ e=>ah.new jo _ _ e,zb,?_⟩ (fun i σ H' _ h=>by obtain⟨_,_,_,q,_⟩:=h;exact ao.of q) ?_ ?_⟩
  ·rw[zr qK,hd,uN (f:=fun x=>if x∈us.take 0 then jn aJ f s' x else aJ x) (g:=aJ) fun x _=>by simp]
  ·rintro i x σ H1 hx ⟨v4,rfl,kp,jv,iD⟩;rw[List.getElem?_map] at hx;cases eu:us[i]? with
   | none=>rw[eu] at hx;cases hx
   | some u=>
    rw[eu] at hx;cases hx;have bL:u∈us:=List.mem_of_getElem? eu;have hi:=eT eu;have eZ:u ∉ us.take i:=by
     have:=mT nd i hi;rw[show us[i]=u from(List.getElem?_eq_some_iff.mp eu).2] at this;exact this
    have hg:=aU.k (k:=Sum.inr u) iD;rw[kh bL,if_neg eZ] at hg;dsimp only[zx];refine qG (decide (aJ u=f\/aJ u=s')) (fun Q' hQ=>?_) (fun H2 t2=>?_)
    ·refine⟨_,rfl,_,rfl,pd,_,rfl,hg,_,rfl,_,rfl,(by show 2<=sizeLine;decide),fun p hp=>?_⟩;refine⟨p,_,rfl,.inr (aG.of zb),rfl,rfl,_,rfl,?_⟩;have e:uC (.str (aJ u)) [.str f,.str s']=decide (aJ u=f\/aJ u=s'):=by
      rw[show([.str f,.str s']:List V) = [f,s'].map V.str from rfl,IU];apply decide_eq_decide.mpr;simp
     show Q' (uC (.str (aJ u)) [.str f,.str s']) _;rw[e];exact hQ _ (ah.new hp)
    ·have hd2:=t2 _ _ iD;have Kc:∀b o,b≠pd->H b=some o->H2 b=some o:=fun b o n e=>t2 _ _ (kp b o n e)
     refine aT (fun c=>?_) (fun c=>?_)
     ·have c:=of_decide_eq_true c;refine⟨_,rfl,_,rfl,_,rfl,pd,_,rfl,cG.k (k:=Sum.inr u) hd2 (by rw[xR];exact fP hl),?_⟩;refine⟨_,rfl,fun b o n e=>by rw[zr n];exact Kc b o n e,?_,?_⟩
      ·rw[zr qK.symm];exact t2 _ _ jv
      ·rw[zb,C4 bL]
       congr 2
       refine uN fun z hz=>?_
       have ht:z∈us.take (i+1)↔z∈us.take i\/z=u:=by
        rw[List.take_add_one,eu];simp
       by_cases e:z=u
       ·subst e;rw[if_pos rfl,if_pos (ht.mpr (.inr rfl))];exact(if_pos c).symm
       ·rw[if_neg e]
        by_cases e2:z∈us.take i
        ·rw[if_pos e2,if_pos (ht.mpr (.inl e2))]
        ·rw[if_neg e2,if_neg (fun q=>(ht.mp q).elim e2 e)]
     ·have c:¬(aJ u=f\/aJ u=s'):=fun z=>c (decide_eq_true z)
      refine⟨_,rfl,Kc,t2 _ _ jv,?_⟩;rw[hd2]
      congr 2
      refine uN fun z hz=>?_
      have ht:z∈us.take (i+1)↔z∈us.take i\/z=u:=by
       rw[List.take_add_one,eu];simp
      by_cases e:z=u
      ·subst e;rw[if_neg eZ,if_pos (ht.mpr (.inr rfl))];exact(if_neg c).symm
      ·by_cases e2:z∈us.take i
       ·rw[if_pos e2,if_pos (ht.mpr (.inl e2))]
       ·rw[if_neg e2,if_neg (fun q=>(ht.mp q).elim e2 e)]
  ·rintro σ H1 ⟨v4,rfl,kp,jv,iD⟩;refine k _ ?_ kp;rw[iD,List.length_map,List.take_length]
   congr 2
   exact uN fun z hz=>if_pos hz
def Ul:Sp:=fun vs H Q _=>∃(pu pt:Addr)(us:List Str)(ai:List Addr)(ts:List av),vs = [.ref pu,.ref pt]/\ao K H pu (us.map V.str)/\ao K H pt (ai.map V.ref)/\aV H ai (ts.map bg)/\
 us.Nodup/\us.length<=1000/\(∀t∈ts,t.a∈us/\t.b∈us)/\
 ∀(pd:Addr)(H':Hp),H pd=none->H' pd=some (.dK (dN us (aj ts)))->ah H H'->Q (.ref pd) H'
set_option maxHeartbeats 4000000 in
theorem qj(T:Tx K mg w zj zm zg zp):cD P w K mg base "one_names" ["units","ties"] 2 (Ul (K:=K)):=by
 refine T.Sl.has cN (fun vs H Q E h=>?_) (fun f aR A outer s H vs Q E hr h=>?_)
 ·obtain⟨pu,pt,us,ai,ts,rfl,_⟩:=h;rfl
 ·obtain⟨pu,pt,us,ai,ts,rfl,jT,gT,tp,nd,hl,dW,k⟩:=h;have hu:=fm hr;refine⟨_,(zc (sset (i:=2) cN.nd jm)
   (zc (dZ PassesOwn.never rfl (eF K rfl (pv 0)) (cL (i:=3) cN.nd) (zi (g7 hu (pv 2) (pv 3) (pv 3) rfl)))
   (zc (dZ PassesOwn.never rfl (eF K rfl (pv 1)) (cL (i:=4) cN.nd) (zi (cR (cE fZ (ay (zo K rfl) (pv 4) zh) eE (bW _)) (zi (gA (aH (Uk T) (za (pv 2) (za (zw hu (pv 2) (ay (zo K rfl) (pv 4) zh) (fun _ _=>rfl)) (za (zw hu (pv 2) (ay (zo K rfl) (pv 4) zh) (fun _ _=>rfl)) zf)))))) cX)))
   (zi (zz (pv 2)))))),?_⟩
  have hlen:ai.length=ts.length:=by have:=tp.len;rw[List.length_map] at this;exact this
  refine fun pd cP=>?_
  have s0:=ah.new (o:=.dK []) cP;refine⟨_,rfl,pu,rfl,⟨_,s0.seq jT⟩,iK (xs:=us.map V.str) (fun i σ H'=>∃v3,σ = [some (.ref pu),some (.ref pt),some (.ref pd),v3,none]/\ah H H'/\H' pd=some (.dK (dN (us.take i) id)))
   ⟨none,rfl,s0,zb⟩ (fun i σ H' _ h=>by obtain⟨_,_,q,_⟩:=h;exact q.seq jT) ?_ ?_⟩
  ·rintro i x σ H1 hx ⟨v3,rfl,q,hd⟩;rw[List.getElem?_map] at hx;cases eu:us[i]? with
   | none=>rw[eu] at hx;cases hx
   | some u=>
    rw[eu] at hx;cases hx;have hi:=eT eu;have eZ:u ∉ us.take i:=by
     have:=mT nd i hi;rw[show us[i]=u from(List.getElem?_eq_some_iff.mp eu).2] at this;exact this
    dsimp only[zx];refine⟨_,rfl,_,rfl,_,rfl,pd,_,rfl,cG.k (k:=Sum.inr u) hd (by rw[xR,List.length_take];exact fP (by omega)),?_⟩;refine⟨_,rfl,q.upd cP,?_⟩;rw[zb,List.take_add_one,eu]
    congr 2
    exact Hs eZ
  ·rintro σ H1 ⟨v3,rfl,q,hd⟩;rw[List.length_map,List.take_length] at hd;refine⟨_,rfl,pt,rfl,⟨_,q.seq gT⟩,iK (xs:=ai.map V.ref) (fun i σ H'=>∃v4,σ = [some (.ref pu),some (.ref pt),some (.ref pd),v3,v4]/\ah H H'/\H' pd=some (.dK (dN us (aj (ts.take i)))))
    ⟨none,rfl,q,hd⟩ (fun i σ H' _ h=>by obtain⟨_,_,q,_⟩:=h;exact q.seq gT) ?_ ?_⟩
   ·rintro i x σ H2 hx ⟨v4,rfl,q2,hd2⟩;obtain⟨r,t,rfl,ht,_,hr⟩:=xJ tp hx;have uU:=q2 _ _ hr;have fB:=dW t (List.mem_of_getElem? ht);dsimp only[zx];refine⟨_,rfl,r,_,_,_,rfl,rfl,aG.of uU,xM t,rfl,_,rfl,?_⟩;refine aT (fun c=>?_) (fun c=>?_)
    ·have c:t.k=bK:=V.str.inj (of_decide_eq_true c);have g1:=aU.k (k:=Sum.inr t.a) hd2;have g2:=aU.k (k:=Sum.inr t.b) hd2;rw[kh fB.1] at g1;rw[kh fB.2] at g2;refine⟨_,rfl,_,rfl,_,rfl,r,_,_,_,rfl,rfl,aG.of uU,xN t,pd,_,rfl,g1,_,rfl,_,rfl,r,_,_,_,rfl,rfl,aG.of uU,xO t,pd,_,rfl,g2,?_⟩;refine⟨pd,us,_,_,_,rfl,hd2,nd,hl,fun H3 cQ kp=>?_⟩;refine⟨_,rfl,fun b o e=>kp b o (zv e cP) (q2 b o e),?_⟩;rw[cQ,Hq ht];unfold pW;rw[if_pos c]
    ·have c:¬t.k=bK:=fun z=>c (decide_eq_true (congrArg V.str z))
     refine⟨_,rfl,q2,?_⟩;rw[hd2,Hq ht];unfold pW;rw[if_neg c]
   ·rintro σ H2 ⟨v4,rfl,q2,hd2⟩;rw[List.length_map,hlen,List.take_length] at hd2;exact⟨_,rfl,k pd _ cP hd2 q2⟩
abbrev yJ(H:Hp):List Addr->List (List Str)->Prop:=Paired fun a g=>H a=some (.lst (g.map V.str))
theorem Kd{H:Hp}{ad:Str->Addr}{g:Str->List Str}:∀{ks:List Str},(∀k∈ks,H (ad k)=some (.lst ((g k).map V.str)))->yJ H (ks.map ad) (ks.map g)
 | [],_=>.nil
 | k::r,h=>.cons (h k (by simp)) (Kd fun z hz=>h z (List.mem_cons_of_mem _ hz))
def Um:Sp:=fun vs H Q _=>∃(pu pt:Addr)(us:List Str)(ai:List Addr)(ts:List av),vs = [.ref pu,.ref pt]/\ao K H pu (us.map V.str)/\ao K H pt (ai.map V.ref)/\aV H ai (ts.map bg)/\
 us.Nodup/\us.length<64/\(∀t∈ts,t.a∈us/\t.b∈us)/\
 ∀(p:Addr)(as:List Addr)(H':Hp),H p=none->(∀a∈as,H a=none)->p ∉ as->as.Nodup->H' p=some (.lst (as.map V.ref))->yJ H' as (mU us ts)->ah H H'->Q (.ref p) H'
set_option maxHeartbeats 8000000 in
theorem Ke(T:Tx K mg w zj zm zg zp):cD P w K mg base "ones" ["units","ties"] 3 (Um (K:=K)):=by
 refine T.Sn.has ie (fun vs H Q E h=>?_) (fun f aR A outer s H vs Q E hr h=>?_)
 ·obtain⟨pu,pt,us,ai,ts,rfl,_⟩:=h;rfl
 ·obtain⟨pu,pt,us,ai,ts,rfl,jT,gT,tp,nd,hl,dW,k⟩:=h;have hu:=fm hr;refine⟨_,(zc (sset (i:=2) ie.nd (aH (qj T) (za (pv 0) (za (pv 1) zf))))
   (zc (sset (i:=3) ie.nd jm)
   (zc (dZ PassesOwn.never rfl (eF K rfl (fJ (Dk (K:=K) rfl) (by rfl) T.sorted PyProof.Rows.boot_sorted (za (pv 0) zf))) (cL (i:=4) ie.nd) (zi (gA (jM K rfl PySem.F.plainAttrs_list PySem.F.slot_list_append PySem.F.type_list_append j4 (OY (pv 3) (zw hu (pv 2) (pv 4) (fun _ _=>rfl)) (cI zf) ⟨rfl,rfl,rfl,rfl⟩) (za (pv 4) zf)))))
   (zi (zz (pO (N9 rfl) (by rfl) T.list PyProof.Rows.boot_list (za (N2 K rfl PySem.F.plainAttrs_dict PySem.F.slot_dict_values PySem.F.type_dict_values N8 (pv 3)) zf))))))),?_⟩
  refine⟨_,rfl,_,rfl,pu,pt,us,ai,ts,rfl,jT,gT,tp,nd,by omega,dW,fun pn H1 tG hn s1=>?_⟩
  try dsimp only[zx]
  refine fun pd cP=>?_
  have s2:=ah.new (o:=.dK []) cP;refine⟨_,rfl,pu,us,rfl,(s1.trans s2).seq jT,hl,fun l ms jo pm rs=>?_⟩;have em:=C7 pm rs;subst em;have s3:=ah.new (o:=.lst ((au us).map V.str)) jo;have jz:H pd=none:=s1.free cP;have fl:H l=none:=(s1.trans s2).free jo;have n1:pd≠l:=zv zb jo;have n2:pn≠pd:=zv hn cP;have n3:pn≠l:=zv (s2 _ _ hn) jo;refine⟨l,rfl,⟨_,ao.of zb⟩,iK (xs:=(au us).map V.str) (fun i σ H'=>∃v4 ad,σ = [some (.ref pu),some (.ref pt),some (.ref pn),some (.ref pd),v4]/\ah H H'/\H' l=some (.lst ((au us).map V.str))/\H' pn=some (.dK (dN us (aj ts)))/\
   H' pd=some (.dK (dV (zn ts ((au us).take i)) fun k=>.ref (ad k)))/\(∀k∈zn ts ((au us).take i),H' (ad k)=some (.lst ((jE ts ((au us).take i) k).map V.str))/\H (ad k)=none/\ad k≠pd/\ad k≠l/\ad k≠pn)/\
   (∀k∈zn ts ((au us).take i),∀k'∈zn ts ((au us).take i),ad k=ad k'->k=k'))
   ⟨none,fun _=>0,rfl,s1.trans (s2.trans s3),zb,s3 _ _ (s2 _ _ hn),s3 _ _ zb,(fun k hk=>by simp[zn] at hk),fun k hk=>by simp[zn] at hk⟩ (fun i σ H' _ h=>by obtain⟨_,_,_,_,q,_⟩:=h;exact ao.of q) ?_ ?_⟩
  ·rintro i v σ H2 hx ⟨v4,ad,rfl,q,iL,kG,hd2,oj,qY⟩;rw[List.getElem?_map] at hx;cases eu:(au us)[i]? with
   | none=>rw[eu] at hx;cases hx
   | some u=>
    rw[eu] at hx;cases hx;have bL:u∈us:=gq.mp (List.mem_of_getElem? eu);have hi:=eT eu;have Xi:(zn ts ((au us).take i)).length<=63:=by
     have h1:(zn ts ((au us).take i)).length<=((au us).take i).length:=List.length_filter_le _ _;have h2:((au us).take i).length<=(au us).length:=by rw[List.length_take];omega
     rw[C9] at h2;omega
    have Uo:∀k,(jE ts ((au us).take i) k).length<=63:=fun k=>by
     have h1:(jE ts ((au us).take i) k).length<=((au us).take i).length:=List.length_filter_le _ _;have h2:((au us).take i).length<=(au us).length:=by rw[List.length_take];omega
     rw[C9] at h2;omega
    have g:=aU.k (k:=Sum.inr u) kG;rw[kh bL] at g;obtain⟨Er,Et⟩:=OB (ts:=ts) nd eu
    try dsimp only[zx]
    refine⟨_,rfl,pd,rfl,.inl ⟨_,.inl hd2⟩,_,rfl,_,rfl,pn,_,rfl,g,by decide,fun q0 aE=>?_⟩;have t0:=ah.new (o:=.lst []) aE;have cQ:=t0 _ _ hd2;have nq:pd≠q0:=zv hd2 aE;refine⟨_,Sum.inr (aj ts u),cQ,rfl,by rw[fL];exact fP (by omega),fun v hv=>?_,fun hv=>?_⟩
    ·have gR:aj ts u∈zn ts ((au us).take i):=Decidable.byContradiction fun z=>by rw[sN z] at hv;cases hv
     rw[jt gR] at hv;cases hv;obtain⟨h1,h2,h3,h4,h5⟩:=oj _ gR;have iA:¬aj ts u=u:=fun e=>by rw[e] at gR;exact Er gR
     have qL:=t0 _ _ h1;refine⟨.inl ⟨rfl,_,ao.of qL⟩,_,rfl,ad (aj ts u),_,_,rfl,rfl,qL,by rw[List.length_map];exact fP (by have:=Uo (aj ts u);omega),?_⟩;have ks:zn ts ((au us).take (i+1))=zn ts ((au us).take i):=by rw[Hv eu,if_neg iA,List.append_nil]
     refine⟨_,ad,rfl,(q.trans t0).upd h2,?_,?_,?_,?_,?_⟩
     ·rw[zr (Ne.symm h4)];exact t0 _ _ iL
     ·rw[zr (Ne.symm h5)];exact t0 _ _ kG
     ·rw[zr (Ne.symm h3),ks];exact cQ
     ·rw[ks];intro k hk;obtain⟨b1,b2,b3,b4,b5⟩:=oj k hk;refine⟨?_,b2,b3,b4,b5⟩;rw[Dd eu]
      by_cases e:aj ts u=k
      ·subst e;rw[if_pos rfl,zb,List.map_append];rfl
      ·rw[if_neg e,List.append_nil,zr (fun z=>e (qY _ gR _ hk z.symm))];exact t0 _ _ b1
     ·rw[ks];exact qY
    ·have gR:aj ts u ∉ zn ts ((au us).take i):=fun z=>by rw[jt z] at hv;cases hv
     have he:aj ts u=u:=Decidable.byContradiction fun z=>gR (Oz nd dW eu z)
     rw[he];rw[he] at gR;have e3:upd (upd H2 q0 (.lst [])) pd (.dK (putK (dV (zn ts ((au us).take i)) fun k=>.ref (ad k)) (Sum.inr u) (.ref q0))) q0=some (.lst []):=by rw[zr (Ne.symm nq),zb]
     refine⟨.inl ⟨rfl,_,ao.of e3⟩,_,rfl,q0,_,_,rfl,rfl,e3,by decide,?_⟩;have ks:zn ts ((au us).take (i+1))=zn ts ((au us).take i)++[u]:=by rw[Hv eu,if_pos he]
     have nl:l≠q0:=zv iL aE;have nn:pn≠q0:=zv kG aE;have qZ:H q0=none:=q.free aE;refine⟨_,fun z=>if z=u then q0 else ad z,rfl,((q.trans t0).upd jz).upd qZ,?_,?_,?_,?_,?_⟩
     ·rw[zr nl,zr (Ne.symm n1)];exact t0 _ _ iL
     ·rw[zr nn,zr n2];exact t0 _ _ kG
     ·rw[zr nq,zb,oV gR,ks]
      congr 2
      refine l9 fun z hz=>?_
      dsimp only
      by_cases e:z=u
      ·rw[if_pos e,if_pos e]
      ·rw[if_neg e,if_neg e]
     ·rw[ks];intro k hk;dsimp only
      by_cases e:k=u
      ·subst e;rw[if_pos rfl];refine⟨?_,qZ,Ne.symm nq,Ne.symm nl,Ne.symm nn⟩;rw[zb,Dd eu,if_pos he,Et he];rfl
      ·rw[if_neg e];have dj:k∈zn ts ((au us).take i):=by
        rcases List.mem_append.mp hk with h | h
        ·exact h
        ·exact absurd (by simpa using h) e
       obtain⟨b1,b2,b3,b4,b5⟩:=oj k dj;refine⟨?_,b2,b3,b4,b5⟩;have nk:ad k≠q0:=zv b1 aE;rw[zr nk,zr b3,Dd eu,if_neg (fun z=>e (z.symm.trans he)),List.append_nil];exact t0 _ _ b1
     ·rw[ks];intro k hk k' dj z;dsimp only at z;have lJ:∀z,z∈zn ts ((au us).take i)++[u]->z≠u->z∈zn ts ((au us).take i):=fun z hz e=>by
       rcases List.mem_append.mp hz with h | h
       ·exact h
       ·exact absurd (by simpa using h) e
      by_cases e:k=u
      ·by_cases e':k'=u
       ·rw[e,e']
       ·rw[if_pos e,if_neg e'] at z;have:=(oj k' (lJ _ dj e')).1;exact absurd z.symm (zv this aE)
      ·by_cases e':k'=u
       ·rw[if_neg e,if_pos e'] at z;have:=(oj k (lJ _ hk e)).1;exact absurd z (zv this aE)
       ·rw[if_neg e,if_neg e'] at z;exact qY k (lJ _ hk e) k' (lJ _ dj e') z
  ·rintro σ H2 ⟨v4,ad,rfl,q,iL,kG,hd2,oj,qY⟩;rw[List.length_map,List.take_length] at hd2 oj qY;refine⟨_,rfl,.inr (.inr (.inl ⟨rfl,.inl ⟨_,hd2⟩⟩)),pd,_,rfl,rfl,hd2,fun pv Bl=>?_⟩;have s3:=ah.new (o:=AH pv pd) Bl;refine⟨pv,pd,_,rfl,zb,s3 _ _ hd2,fun pf yH=>?_⟩;rw[Ox];have em:(zn ts (au us)).map (fun k=>V.ref (ad k))=((zn ts (au us)).map ad).map V.ref:=by rw[List.map_map];rfl
   rw[em];have s4:=ah.new (o:=.lst (((zn ts (au us)).map ad).map V.ref)) yH;have q4:=s3.trans s4;have knd:(zn ts (au us)).Nodup:=(C8 nd).sublist (List.filter_sublist ..);refine k pf ((zn ts (au us)).map ad) _ (q.free (s3.free yH)) (fun a ha=>?_) (fun z=>?_) ?_ zb (Kd fun x hx=>q4 _ _ (oj x hx).1) (q.trans q4)
   ·obtain⟨x,hx,rfl⟩:=List.mem_map.mp ha;exact(oj x hx).2.1
   ·obtain⟨x,hx,e⟩:=List.mem_map.mp z;have:=s3 _ _ (oj x hx).1;rw[e,yH] at this;cases this
   ·clear oj hd2 s4 q4 em;generalize zn ts (au us)=ks at qY knd
    induction ks with
    | nil=>exact List.nodup_nil
    | cons x r ih=>
     rw[List.nodup_cons] at knd;rw[List.map_cons,List.nodup_cons];refine⟨fun z=>?_,ih (fun a ha b hb=>qY a (List.mem_cons_of_mem _ ha) b (List.mem_cons_of_mem _ hb)) knd.2⟩;obtain⟨y,hy,e⟩:=List.mem_map.mp z;have:=qY y (List.mem_cons_of_mem _ hy) x (by simp) e;subst this;exact knd.1 hy
def Uq:Sp:=fun vs H Q _=>∃(p pu pt:Addr)(x y:V)(us:List Str)(ai:List Addr)(ts:List av),vs = [.ref p]/\iB K H p pu pt x y us ai ts/\
 ∀(pd:Addr)(ob:Obj)(ad:Str->Addr)(bs:Str->List Addr)(H':Hp),ah H H'->H pd=none->Bn H' pd ob (zn ts (au us)) (aZ ts (ts.zip ai)) ad bs->Q (.ref pd) H'
set_option maxHeartbeats 8000000 in
theorem ng(T:Tx K mg w zj zm zg zp):cD P w K mg base "ties_beneath" ["telling"] 4 (Uq (K:=K)):=by
 refine T.So.has bw (fun vs H Q E h=>?_) (fun f aR A outer s H vs Q E hr h=>?_)
 ·obtain⟨p,pu,pt,x,y,us,ai,ts,rfl,_⟩:=h;rfl
 ·obtain⟨p,pu,pt,x,y,us,ai,ts,rfl,hT,k⟩:=h;have hu:=fm hr;refine⟨_,(zc (sset (i:=1) bw.nd (aH (qj T) (za (ay (zo K rfl) (pv 0) zh) (za (ay (zo K rfl) (pv 0) zh) zf))))
   (zc (sset (i:=2) bw.nd jm)
   (zc (dZ PassesOwn.never rfl (eF K rfl (aH (Ke T) (za (ay (zo K rfl) (pv 0) zh) (za (ay (zo K rfl) (pv 0) zh) zf)))) (cL (i:=3) bw.nd) (zi (g7 hu (pv 2) (ay (dS K rfl) (pv 3) zh) (cI zf) rfl)))
   (zc (dZ PassesOwn.never rfl (eF K rfl (ay (zo K rfl) (pv 0) zh)) (cL (i:=4) bw.nd) (zi (cR (cE Ah (ay (zo K rfl) (pv 4) zh) eE (bW _)) (zi (gA (jM K rfl PySem.F.plainAttrs_list PySem.F.slot_list_append PySem.F.type_list_append j4 (zw hu (pv 2) (zw hu (pv 1) (ay (zo K rfl) (pv 4) zh) (fun _ _=>rfl)) (fun _ _=>rfl)) (za (eS (za (zw hu (pv 1) (ay (zo K rfl) (pv 4) zh) (fun _ _=>rfl)) (za (pv 4) zf))) zf)))) cX)))
   (zi (qM (zz (pv 2)))))))),?_⟩
  have dW:=hT.ends;obtain⟨hp,jT,gT,tp,nd,hl,tl,_⟩:=hT;have hlen:ai.length=ts.length:=by have:=tp.len;rw[List.length_map] at this;exact this
  refine⟨_,rfl,p,_,_,_,rfl,rfl,hp,rfl,_,rfl,p,_,_,_,rfl,rfl,hp,rfl,pu,pt,us,ai,ts,rfl,jT,gT,tp,nd,by omega,dW,fun pn H1 tG hn s1=>?_⟩
  try dsimp only[zx]
  refine fun pd cP=>?_
  have s2:=ah.new (o:=.dK []) cP;have q2:=s1.trans s2;refine⟨_,rfl,p,_,_,_,rfl,rfl,q2.tup hp,rfl,_,rfl,p,_,_,_,rfl,rfl,q2.tup hp,rfl,pu,pt,us,ai,ts,rfl,q2.seq jT,q2.seq gT,tp.same q2,nd,hl,dW,fun po as H3 tK Ur yK Eu mG yL s3=>?_⟩;have o8:=s3 _ _ (s2 _ _ hn);have cQ:=s3 _ _ (zb (H:=H1) (a:=pd) (o:=.dK []));have q3:=q2.trans s3;have jz:H pd=none:=s1.free cP;have Bm:pn≠pd:=zv hn cP;have lk:as.length=(zn ts (au us)).length:=by have:=Paired.length yL;unfold mU at this;rw[List.length_map] at this;exact this
  have tM:(zn ts (au us)).length<=63:=by
   have:=Dh (us:=us) (ts:=ts) nd;unfold mU at this;rw[List.length_map] at this;omega
  have hz:∀{i:Nat}{t:av}{r:Addr},ts[i]? = some t->ai[i]? = some r->(ts.zip ai)[i]? = some (t,r):=fun h1 h2=>List.getElem?_zip_eq_some.mpr ⟨h1,h2⟩
  generalize ek:zn ts (au us)=keys at lk tM k;have knd:keys.Nodup:=ek▸nO nd;have Ew:mU us ts=keys.map (jE ts (au us)):=by unfold mU;rw[ek]
  refine⟨po,rfl,⟨_,ao.of mG⟩,iK (xs:=as.map V.ref) (fun i σ H'=>∃(v3:Option V)(ad:Str->Addr),σ = [some (.ref p),some (.ref pn),some (.ref pd),v3,none]/\(∀b o,b≠pd->H3 b=some o->H' b=some o)/\
   H' pd=some (.dK (dV (keys.take i) fun k=>.ref (ad k)))/\(∀k∈keys.take i,H' (ad k)=some (.lst [])/\H3 (ad k)=none)/\(∀k∈keys.take i,∀k'∈keys.take i,ad k=ad k'->k=k'))
   ⟨none,fun _=>0,rfl,fun b o _ e=>e,cQ,(fun k hk=>by simp at hk),fun k hk=>by simp at hk⟩ (fun i σ H' _ h=>by obtain⟨_,_,_,q,_⟩:=h;exact ao.of (q _ _ (jW mG cQ (by simp)) mG)) ?_ ?_⟩
  ·rintro i v σ H4 hx ⟨v3,ad,rfl,kp,fT,fO,inj⟩;obtain⟨r,g,rfl,hg,u9,hr⟩:=mV yL hx;rw[Ew,List.getElem?_map] at hg;cases eu:keys[i]? with
   | none=>rw[eu] at hg;cases hg
   | some u=>
    rw[eu] at hg;cases hg;have bL:u∈keys:=List.mem_of_getElem? eu;have hi:=eT eu;have eZ:u ∉ keys.take i:=by
     have:=mT knd i hi;rw[show keys[i]=u from(List.getElem?_eq_some_iff.mp eu).2] at this;exact this
    obtain⟨gr,Ex⟩:=Hy (us:=us) (ts:=ts) nd (k:=u) (ek▸bL);rw[Ex] at hr;have tN:=kp _ _ (jW hr cQ (by simp)) hr
    try dsimp only[zx]
    refine⟨by decide,fun q0 aE=>?_⟩;have t0:=ah.new (o:=.lst []) aE;have dO:=t0 _ _ fT;have nq:pd≠q0:=zv fT aE;refine⟨_,rfl,_,rfl,r,_,_,_,rfl,rfl,ao.of (t0 _ _ tN),lB,pd,_,rfl,cG.k (k:=Sum.inr u) dO (by rw[fL,List.length_take];exact fP (by omega)),?_⟩;have fq:H3 q0=none:=by
     cases e:H3 q0 with
     | none=>rfl
     | some o=>rw[kp _ _ (Ne.symm nq) e] at aE;cases aE
    refine⟨_,fun z=>if z=u then q0 else ad z,rfl,fun b o n e=>by rw[zr n];exact t0 _ _ (kp b o n e),?_,?_,?_⟩
    ·rw[zb,oV eZ,List.take_add_one,eu]
     congr 2
     refine l9 fun z hz=>?_
     dsimp only
     by_cases e:z=u
     ·rw[if_pos e,if_pos e]
     ·rw[if_neg e,if_neg e]
    ·intro k hk;rw[List.take_add_one,eu,List.mem_append] at hk;dsimp only
     by_cases e:k=u
     ·rw[if_pos e];exact⟨by rw[zr (Ne.symm nq),zb],fq⟩
     ·rw[if_neg e];have dj:k∈keys.take i:=hk.elim id fun z=>absurd (by simpa using z) e
      obtain⟨h1,h2⟩:=fO k dj;refine⟨?_,h2⟩;rw[zr (fun z=>by rw[z,fT] at h1;cases h1)];exact t0 _ _ h1
    ·intro k hk k' dj e;rw[List.take_add_one,eu,List.mem_append] at hk dj;dsimp only at e
     by_cases c1:k=u<;>by_cases c2:k'=u
     ·rw[c1,c2]
     ·rw[if_pos c1,if_neg c2] at e;have h2:=(fO k' (dj.elim id fun z=>absurd (by simpa using z) c2)).1;rw[←e,aE] at h2;cases h2
     ·rw[if_neg c1,if_pos c2] at e;have h2:=(fO k (hk.elim id fun z=>absurd (by simpa using z) c1)).1;rw[e,aE] at h2;cases h2
     ·rw[if_neg c1,if_neg c2] at e;exact inj k (hk.elim id fun z=>absurd (by simpa using z) c1) k' (dj.elim id fun z=>absurd (by simpa using z) c2) e
  ·rintro σ H4 ⟨v3,ad,rfl,kp,fT,fO,inj⟩;rw[List.length_map,lk,List.take_length] at fT fO inj;have qk:∀{H':Hp},(∀b o,b≠pd->H3 b=some o->H' b=some o)->ah H H':=fun xm b o e=>xm b o (zv e jz) (q3 _ _ e)
   have q4:=qk kp;refine⟨_,rfl,p,_,_,_,rfl,rfl,q4.tup hp,rfl,pt,rfl,⟨_,q4.seq gT⟩,iK (xs:=ai.map V.ref) (fun i σ H'=>∃(v4:Option V)(bs:Str->List Addr),σ = [some (.ref p),some (.ref pn),some (.ref pd),v3,v4]/\(∀b o,b≠pd->H3 b=some o->H' b=some o)/\
    H' pd=some (.dK (dV keys fun k=>.ref (ad k)))/\∀k∈keys,H' (ad k)=some (.lst ((bs k).map V.ref))/\Paired (fun b(p:Str×Addr)=>H' b=some (.tup [.str p.1,.ref p.2])) (bs k) (aZ ts ((ts.zip ai).take i) k))
    ⟨none,fun _=>[],rfl,kp,fT,fun k hk=>⟨(fO k hk).1,.nil⟩⟩ (fun i σ H' _ h=>by obtain⟨_,_,_,q,_⟩:=h;exact(qk q).seq gT) ?_ ?_⟩
   ·rintro i x σ H5 hx ⟨v4,bs,rfl,gX,dO,i7⟩;obtain⟨r,t,rfl,ht,u9,hr⟩:=xJ tp hx;have q5:=qk gX;have o9:=q5 _ _ hr;have fB:=dW t (List.mem_of_getElem? ht);have hit:=eT ht;have Bo:=hz ht u9
    try dsimp only[zx]
    refine⟨_,rfl,r,_,_,_,rfl,rfl,aG.of o9,xM t,rfl,_,rfl,?_⟩;refine aT (fun c=>?_) (fun c=>?_)
    ·have c:t.k≠bK:=by
      intro z;simp[z,bK] at c
     have g1:=aU.k (k:=Sum.inr t.a) (gX _ _ Bm o8);have g2:=aU.k (k:=Sum.inr t.b) (gX _ _ Bm o8);rw[kh fB.1] at g1;rw[kh fB.2] at g2;have ql:aj ts t.a∈keys:=ek▸qI dW fB.1;have g3:=aU.k (k:=Sum.inr (aj ts t.a)) dO;rw[jt ql] at g3;obtain⟨jy,Ep⟩:=i7 _ ql;refine⟨_,rfl,_,rfl,_,rfl,r,_,_,_,rfl,rfl,aG.of o9,xN t,pn,_,rfl,g1,pd,_,rfl,g3,?_⟩;refine⟨.inl ⟨rfl,_,ao.of jy⟩,_,rfl,_,rfl,r,_,_,_,rfl,rfl,aG.of o9,xO t,pn,_,rfl,g2,_,rfl,(by show 2<=sizeLine;decide),fun b0 kU=>?_⟩;have t0:=ah.new (o:=.tup [.str (aj ts t.b),.ref r]) kU;have tO:=t0 _ _ jy;have lb:(bs (aj ts t.a)).length<=900:=by
      have h1:=Paired.length Ep;have h2:=AQ (ts:=ts) (z:=(ts.zip ai).take i) (k:=aj ts t.a);rw[List.length_take,List.length_zip] at h2;omega
     refine⟨ad (aj ts t.a),_,_,rfl,rfl,tO,by rw[List.length_map];exact fP (by omega),?_⟩;have st:∀b vs,H5 b=some (.tup vs)->upd (upd H5 b0 (.tup [.str (aj ts t.b),.ref r])) (ad (aj ts t.a)) (.lst ((bs (aj ts t.a)).map V.ref++[.ref b0])) b=some (.tup vs):=fun b vs e=>kg tO _ _ (t0 _ _ e)
     refine⟨_,fun z=>if z=aj ts t.a then bs z++[b0] else bs z,rfl,fun b o n e=>?_,?_,fun k hk=>?_⟩
     ·rw[zr (fun z=>by rw[z,(fO _ ql).2] at e;cases e)];exact t0 _ _ (gX b o n e)
     ·rw[zr (fun z=>by rw[←z,dO] at jy;cases jy)];exact t0 _ _ dO
     ·obtain⟨b1,b2⟩:=i7 k hk;have Kf:=Paired.cW b2 fun b p e=>st b _ e
      rw[HD Bo];dsimp only
      by_cases e:k=aj ts t.a
      ·subst e;rw[if_pos rfl,if_pos ⟨c,rfl⟩];refine⟨by rw[zb,List.map_append];rfl,Paired.snoc Kf ?_⟩;exact kg tO _ _ zb
      ·rw[if_neg e,if_neg (fun z=>e z.2.symm),List.append_nil];refine⟨?_,Kf⟩;rw[zr (fun z=>e (inj _ hk _ ql z))];exact t0 _ _ b1
    ·have c:t.k=bK:=by
      simpa[bK] using c
     refine⟨_,bs,rfl,gX,dO,fun k hk=>?_⟩;rw[HD Bo,if_neg (fun z=>z.1 c),List.append_nil];exact i7 k hk
   ·rintro σ H5 ⟨v4,bs,rfl,gX,dO,i7⟩;rw[List.length_map] at i7;have ez:(ts.zip ai).take ai.length=ts.zip ai:=List.take_of_length_le (by rw[List.length_zip];omega);rw[ez] at i7;refine .inr ⟨pd,_,dO,fun ob=>⟨_,rfl,k pd ob ad bs _ ?_ jz ⟨zb,fun k hk=>?_,fun k hk=>?_⟩⟩⟩
    ·exact(qk gX).upd jz
    ·obtain⟨b1,b2⟩:=i7 k hk;rw[zr (fun z=>by rw[z,dO] at b1;cases b1)];exact b1
    ·obtain⟨b1,b2⟩:=i7 k hk;refine Paired.cW b2 fun b p e=>?_
     rw[zr (fun z=>by rw[z,dO] at e;cases e)];exact e
def Us:Sp:=fun vs H Q _=>∃(s:Str)(pd:Addr)(ob:Obj)(keys:List Str)(ln:Ln)(ad:Str->Addr)(bs:Str->List Addr),vs = [.str s,.ref pd]/\Bn H pd ob keys ln ad bs/\s∈keys/\
 (∀k∈keys,∀l r,(l,r)∈ln k->l∈keys)/\keys.length<=63/\∀(p:Addr)(rs:List Addr)(H':Hp),ah H H'->H p=none->H' p=some (.lst (rs.map V.ref))->rs.length<=64->HF ln s rs->Q (.ref p) H'
set_option maxHeartbeats 8000000 in
theorem Ut(T:Tx K mg w zj zm zg zp):cD P w K mg base "round_through" ["start","beneath"] 1 Us:=by
 refine T.Ss.has aF (fun vs H Q E h=>?_) (fun f aR A outer s H vs Q E hr h=>?_)
 ·obtain⟨s',pd,ob,keys,ln,ad,bs,rfl,_⟩:=h;rfl
 ·obtain⟨s',pd,ob,keys,ln,ad,bs,rfl,hB,hs,hc,hk,k⟩:=h;have hu:=fm hr;refine⟨_,(zc (sset (i:=2) aF.nd jm)
   (zc (sset (i:=3) aF.nd (cI (za (eS (za (pv 0) (za (cI zf) zf))) zf)))
   (zc (uv PassesOwn.never (cE (zev K rfl (gk hr)) (pv 3) (cI zf) (bW _)) (zc (sset (i:=4) aF.nd (cI zf))
    (zc (dZ PassesOwn.never rfl (eF K rfl (pv 3)) (mR K rfl rfl (gZ (cL (i:=5) aF.nd) (gZ (cL (i:=6) aF.nd) mO))) (zi (dZ PassesOwn.never rfl (eF K rfl (zw hu (pv 1) (pv 5) (fun _ _=>rfl))) (mR K rfl rfl (gZ (cL (i:=7) aF.nd) (gZ (cL (i:=8) aF.nd) mO))) (zc (cR (cE fZ (pv 7) (pv 0) (bW _)) (zi (zz (c9 sq (pv 6) (cI (za (pv 8) zf))))) cX)
      (zi (cR (qA (wK hu (pv 7) (pv 2))) (zc (g7 hu (pv 2) (pv 7) lP rfl)
       (zi (gA (jM K rfl PySem.F.plainAttrs_list PySem.F.slot_list_append PySem.F.type_list_append j4 (pv 4) (za (eS (za (pv 7) (za (c9 sq (pv 6) (cI (za (pv 8) zf))) zf))) zf))))) cX))))))
    (zi (sset (i:=3) aF.nd (pv 4))))))
   (zi (zz (cI zf)))))),?_⟩
  refine fun pm yG=>?_
  have s0:=ah.new (o:=.dK []) yG
  try dsimp only[zx]
  refine⟨_,rfl,by decide,fun l0 nh=>?_⟩;have s1:=ah.new (o:=.lst []) nh;refine⟨(by show 2<=sizeLine;decide),fun b0 kU=>?_⟩;have s2:=ah.new (o:=.tup [.str s',.ref l0]) kU;refine⟨(by show 1<=sizeLine;decide),fun pw Uu=>?_⟩;have s3:=ah.new (o:=.lst [.ref b0]) Uu;have q3:=s0.trans (s1.trans (s2.trans s3));have oU:=s3 _ _ (s2 _ _ (s1 _ _ (zb (H:=H) (a:=pm) (o:=.dK []))));have Ey:=s3 _ _ (s2 _ _ (zb (H:=upd H pm (.dK [])) (a:=l0) (o:=.lst [])));have Bj:=s3 _ _ (zb (H:=upd (upd H pm (.dK [])) l0 (.lst [])) (a:=b0) (o:=.tup [.str s',.ref l0]));have Kg:=zb (H:=upd (upd (upd H pm (.dK [])) l0 (.lst [])) b0 (.tup [.str s',.ref l0])) (a:=pw) (o:=.lst [.ref b0]);generalize upd (upd (upd (upd H pm (.dK [])) l0 (.lst [])) b0 (.tup [.str s',.ref l0])) pw (.lst [.ref b0])=H3 at q3 oU Ey Bj Kg;refine⟨fun m σ H'=>∃(v4 v5 v6 v7 v8:Option V)(pw:Addr)(wl:List Addr)(es:List (Str×List Addr))(d:Nat)(M:List Str),σ = [some (.str s'),some (.ref pd),some (.ref pm),some (.ref pw),v4,v5,v6,v7,v8]/\ah H H'/\H' pm=some (.dK (dV M eG))/\
   H' pw=some (.lst (wl.map V.ref))/\Paired (HE H') wl es/\(∀e∈es,Wk ln s' e.2 e.1/\e.2.length=d/\e.1∈keys)/\M.Nodup/\(∀v∈M,v∈keys)/\Bf ln s' d M (es.map Prod.fst)/\(es≠[]->d<=M.length)/\
   m=2 * (keys.length-M.length)+(if es = [] then 0 else 1),⟨_,none,none,none,none,none,pw,[b0],[(s',[])],0,[],rfl,q3,oU,Kg,.cons ⟨l0,Bj,Ey⟩ .nil,?_,by simp,by simp,Bf.zero,fun _=>Nat.le_refl _,rfl⟩,?_⟩
  ·intro e he;have:e=(s',[]):=by simpa using he
   subst this;exact⟨.nil,rfl,hs⟩
  rintro m σ H4 ⟨v4,v5,v6,v7,v8,pw,wl,es,d,M,rfl,q4,Uv,Kh,Kl,Uw,pq,tP,bf,Ux,rfl⟩;have lM:M.length<=63:=by have:=lD pq tP;omega
  refine⟨_,rfl,by decide,fun le hle=>?_⟩;have t5:=ah.new (o:=.lst []) hle;refine⟨pw,le,_,rfl,rfl,bP.lX (ao.of (t5 _ _ Kh)) (ao.of zb),_,rfl,?_⟩;have lw:wl.length=es.length:=Paired.length Kl;have q5:=q4.trans t5;have vd:=t5 _ _ Uv;have Bp:=t5 _ _ Kh;have Km:Paired (HE (upd H4 le (.lst []))) wl es:=Paired.cW Kl fun _ _ ⟨q,h1,h2⟩=>⟨q,t5 _ _ h1,t5 _ _ h2⟩
  have Uy:=t5;generalize upd H4 le (.lst [])=H5 at q5 vd Bp Km Uy;refine aT (fun c=>?_) (fun c=>?_)
  ·have Bq:es≠[]:=fun z=>by
    subst z;have:wl = []:=List.length_eq_zero_iff.mp (by simpa using lw);subst this;simp at c
   have dM:=Ux Bq;refine⟨fun aq H'=>∃m',m'<2 * (keys.length-M.length)+(if es = [] then 0 else 1)/\_,fun aq H' h=>h,?_⟩
   try dsimp only[zx]
   refine⟨by decide,fun pl gB=>?_⟩;have t6:=ah.new (o:=.lst []) gB;have qK:pl≠pm:=Ne.symm (zv vd gB);have Uz:pw≠pm:=jW Bp vd (by simp);have Bk:∀{H':Hp},(∀b o,b≠pm->H5 b=some o->H' b=some o)->ah H H':=fun kp b o e=>kp b o (zv e yG) (q5 _ _ e)
   refine⟨_,rfl,pw,rfl,⟨_,ao.of (t6 _ _ Bp)⟩,iK (xs:=wl.map V.ref) (fun i σ H'=>∃(v5 v6 v7 v8:Option V)(ml:List Addr)(fs:List (Str×List Addr)),σ = [some (.str s'),some (.ref pd),some (.ref pm),some (.ref pw),some (.ref pl),v5,v6,v7,v8]/\
    nQ H5 H' pm pl ln s' keys M d ml fs/\∀u∈(es.take i).map Prod.fst,∀v r,(v,r)∈ln u->v≠s'/\v∈M++fs.map Prod.fst)
    ⟨v5,v6,v7,v8,[],[],rfl,⟨fun b o _ e=>t6 _ _ e,?_,zb,.nil,(fun e he=>(List.not_mem_nil he).elim),by simpa using pq⟩,fun u hu=>by simp at hu⟩ (fun i σ H' _ h=>by obtain⟨_,_,_,_,_,_,_,g,_⟩:=h;exact ao.of (g.kp _ _ Uz Bp)) ?_ ?_⟩
   ·rw[List.map_nil,List.append_nil];exact t6 _ _ vd
   ·rintro i x σ H6 hx ⟨u5,u6,u7,u8,ml,fs,rfl,g,cond⟩;obtain⟨b,e,rfl,he,Xj,q,hb,hq⟩:=mV Km hx;have Xk:=eT he;have UA:e∈es:=List.mem_of_getElem? he;obtain⟨wk,Ez,ek⟩:=Uw e UA;have nb:b≠pm:=jW hb vd (by simp);have nq:q≠pm:=jW hq vd (by simp);refine⟨b,_,rfl,aG.of (g.kp _ _ nb hb),rfl,_,_,rfl,_,_,rfl,rfl,?_⟩;have B6:=hB.same (Bk g.kp);refine⟨_,rfl,_,rfl,pd,_,rfl,B6.get ek,ad e.1,rfl,⟨_,ao.of (B6.l _ ek)⟩,iK (xs:=(bs e.1).map V.ref) (fun j σ H'=>∃(v7 v8:Option V)(ml:List Addr)(fs:List (Str×List Addr)),σ = [some (.str s'),some (.ref pd),some (.ref pm),some (.ref pw),some (.ref pl),some (.str e.1),some (.ref q),v7,v8]/\
     nQ H5 H' pm pl ln s' keys M d ml fs/\(∀u∈(es.take i).map Prod.fst,∀v r,(v,r)∈ln u->v≠s'/\v∈M++fs.map Prod.fst)/\∀p∈(ln e.1).take j,p.1≠s'/\p.1∈M++fs.map Prod.fst)
     ⟨u7,u8,ml,fs,rfl,g,cond,by simp⟩ (fun j σ H' _ h=>by obtain⟨_,_,_,_,_,g,_⟩:=h;exact ao.of ((hB.same (Bk g.kp)).l _ ek)) ?_ ?_⟩
    ·rintro j x σ H7 hx ⟨u7,u8,ml,fs,rfl,g,cond,jd⟩;have B7:=hB.same (Bk g.kp);obtain⟨b',⟨l,r⟩,rfl,je,Kn,UB⟩:=mV (B7.e _ ek) hx;have vf:(l,r)∈ln e.1:=List.mem_of_getElem? je;have e8:l∈keys:=hc _ ek l r vf;refine⟨b',_,rfl,aG.of UB,rfl,_,_,rfl,_,_,rfl,rfl,?_⟩;have jU:=g.kp _ _ nq hq;have Ko:(M++fs.map Prod.fst).length<=63:=by
      have:=lD g.nd (us:=keys) fun v hv=>(List.mem_append.mp hv).elim (tP v) fun z=>by
       obtain⟨e',h1,rfl⟩:=List.mem_map.mp z;exact(g.ok e' h1).2.2
      omega
     try dsimp only[zx]
     refine⟨_,rfl,_,rfl,rfl,_,rfl,?_⟩;refine aT (fun c1=>?_) (fun c1=>?_)
     ·have c1:l=s':=V.str.inj (of_decide_eq_true c1);refine⟨_,rfl,_,rfl,(by show 1<=sizeLine;decide),fun p1 gH=>?_⟩;have w1:=ah.new (o:=.lst [.ref r]) gH;refine⟨q,p1,_,_,rfl,rfl,w1 _ _ jU,zb,by rw[List.length_map];exact jC (by show e.2.length+1<=1000;omega),fun p2 jk=>?_⟩;have w2:=ah.new (o:=.lst (e.2.map V.ref++[.ref r])) jk;have q7:ah H _:=(Bk g.kp).trans (w1.trans w2);refine k p2 (e.2++[r]) _ q7 (((Bk g.kp).trans w1).free jk) (by rw[zb,List.map_append];rfl) (by rw[List.length_append];show e.2.length+1<=64;omega) (.inr ⟨by simp,c1▸wk.snoc vf,fun j h1 h2=>bf.no j h1 ?_⟩);rw[List.length_append] at h2;have h2:j<e.2.length+1:=h2;omega
     ·have c1:¬l=s':=fun z=>c1 (decide_eq_true (congrArg V.str z))
      have g1:=aU.k (k:=Sum.inr l) g.m;refine⟨_,rfl,_,rfl,pm,_,rfl,g1,_,rfl,?_⟩;refine aT (fun c2=>?_) (fun c2=>?_)
      ·have hv:l ∉ M++fs.map Prod.fst:=fun z=>by
        rw[jt z] at c2;cases c2
       refine⟨_,rfl,_,rfl,pm,_,rfl,cG.k (k:=Sum.inr l) g.m (by rw[fL];exact fP (by omega)),?_⟩;rw[Dj hv];have EA:upd H7 pm (.dK (dV (M++fs.map Prod.fst++[l]) eG)) pl=some (.lst (ml.map V.ref)):=by rw[zr qK];exact g.l
       have vg:upd H7 pm (.dK (dV (M++fs.map Prod.fst++[l]) eG)) q=some (.lst (e.2.map V.ref)):=by rw[zr nq];exact jU
       try dsimp only[zx]
       refine⟨_,rfl,.inl ⟨rfl,_,ao.of EA⟩,_,rfl,_,rfl,_,rfl,(by show 1<=sizeLine;decide),fun p1 gH=>?_⟩;have w1:=ah.new (o:=.lst [.ref r]) gH;refine⟨q,p1,_,_,rfl,rfl,w1 _ _ vg,zb,by rw[List.length_map];exact jC (by show e.2.length+1<=1000;omega),fun p2 jk=>?_⟩;have w2:=ah.new (o:=.lst (e.2.map V.ref++[.ref r])) jk;refine⟨(by show 2<=sizeLine;decide),fun b9 UC=>?_⟩;have w3:=ah.new (o:=.tup [.str l,.ref p2]) UC;have w:=w1.trans (w2.trans w3);have UD:ml.length<=63:=by
        have h1:ml.length=fs.length:=Paired.length g.w;rw[List.length_append,List.length_map] at Ko;omega
       refine⟨pl,_,_,rfl,rfl,w _ _ EA,by rw[List.length_map];exact fP (by omega),?_⟩;have g':=g.add gB qK hv w (rs:=e.2++[r]) (q:=p2) (b:=b9) (by rw[List.map_append];exact w3 _ _ zb) (Ne.symm (zv (w1 _ _ EA) jk)) zb ⟨wk.snoc vf,by rw[List.length_append,Ez];rfl,e8⟩;have mm:∀v,v∈M++fs.map Prod.fst->v∈M++(fs++[(l,e.2++[r])]).map Prod.fst:=fun v h=>by
        rw[List.map_append,←List.append_assoc];exact List.mem_append_left _ h
       refine⟨_,_,_,_,rfl,g',fun u hu v r' h=>⟨(cond u hu v r' h).1,mm _ (cond u hu v r' h).2⟩,Hi je (fun p hp=>⟨(jd p hp).1,mm _ (jd p hp).2⟩) ⟨c1,?_⟩⟩;rw[List.map_append,←List.append_assoc];simp
      ·have hv:l∈M++fs.map Prod.fst:=Decidable.byContradiction fun z=>by
        rw[sN z] at c2;exact c2 rfl
       exact⟨_,_,ml,fs,rfl,g,cond,Hi je jd ⟨c1,hv⟩⟩
    ·rintro σ H7 ⟨u7,u8,ml,fs,rfl,g,cond,jd⟩;have B7:=hB.same (Bk g.kp);have lb:(bs e.1).length=(ln e.1).length:=Paired.length (B7.e _ ek);rw[List.length_map,lb,List.take_length] at jd;refine⟨_,_,_,_,ml,fs,rfl,g,fun u hu v r h=>?_⟩;rw[List.map_take,List.take_add_one,List.getElem?_map,he,List.mem_append] at hu;rcases hu with hu | hu
     ·exact cond u (by rw[List.map_take];exact hu) v r h
     ·have:u=e.1:=by simpa using hu
      subst this;exact jd (v,r) h
   ·rintro σ H6 ⟨u5,u6,u7,u8,ml,fs,rfl,g,cond⟩;rw[List.length_map,lw,List.take_length] at cond;refine⟨_,rfl,?_⟩
    try dsimp only[zx]
    have yM:∀v∈M++fs.map Prod.fst,v∈keys:=fun v hv=>(List.mem_append.mp hv).elim (tP v) fun z=>by
     obtain⟨e',h1,rfl⟩:=List.mem_map.mp z;exact(g.ok e' h1).2.2
    have lN:=lD g.nd yM;refine⟨_,?_,_,_,_,_,_,pl,ml,fs,d+1,M++fs.map Prod.fst,rfl,Bk g.kp,g.m,g.l,Paired.cW g.w fun _ _ ⟨q,_,h1,h2⟩=>⟨q,h1,h2⟩,g.ok,g.nd,yM,bf.succ (fun v hv=>?_) cond,fun hf=>?_,rfl⟩
    ·rw[if_neg Bq,List.length_append,List.length_map] at *;cases fs with
     | nil=>simp
     | cons a r=>
      rw[if_neg (by simp)];simp only[List.length_cons] at *;omega
    ·obtain⟨e',h1,rfl⟩:=List.mem_map.mp hv;exact⟨e'.2,(g.ok e' h1).1,(g.ok e' h1).2.1⟩
    ·rw[List.length_append,List.length_map];have:=List.length_pos_iff.mpr hf;omega
  ·have Bq:es = []:=by
    have:wl = []:=by simpa using c
    subst this;exact List.length_eq_zero_iff.mp lw.symm
   subst Bq;refine⟨by decide,fun p hp=>?_⟩;exact k p [] _ (q5.trans (ah.new hp)) (q5.free hp) zb (by simp) (.inl ⟨rfl,bf.done⟩)
def UE:Sp:=fun vs H Q _=>∃(p pu pt:Addr)(x y:V)(us:List Str)(ai:List Addr)(ts:List av),vs = [.ref p]/\iB K H p pu pt x y us ai ts/\
 ∀(q:Addr)(rs:List Addr)(H':Hp),ah H H'->H q=none->H' q=some (.lst (rs.map V.ref))->rs.length<=64->ia (aZ ts (ts.zip ai)) (zn ts (au us)) rs->Q (.ref q) H'
set_option maxHeartbeats 8000000 in
theorem EB(T:Tx K mg w zj zm zg zp):cD P w K mg base "shortest_round" ["telling"] 5 (UE (K:=K)):=by
 refine T.Sq.has aM (fun vs H Q E h=>?_) (fun f aR A outer s H vs Q E hr h=>?_)
 ·obtain⟨p,pu,pt,x,y,us,ai,ts,rfl,_⟩:=h;rfl
 ·obtain⟨p,pu,pt,x,y,us,ai,ts,rfl,hT,k⟩:=h;refine⟨_,(zc (sset (i:=1) aM.nd (aH (ng T) (za (pv 0) zf)))
   (zc (sset (i:=2) aM.nd (cI zf))
   (zc (dZ PassesOwn.never rfl (mj (pv 1)) (cL (i:=3) aM.nd) (zc (sset (i:=4) aM.nd (aH (Ut T) (za (pv 3) (za (pv 1) zf))))
    (zi (cR (PW.pt (pM (cE (zev K rfl (gk hr)) (pv 4) (cI zf) (bW _)) (pL (PW.pt (vM (cE (sG K rfl (gk hr)) (pv 2) (cI zf) (bW _)) (zZ (cE uz (fJ (lA K rfl) (by rfl) T.len boot_len (za (pv 4) zf)) (fJ (lA K rfl) (by rfl) T.len boot_len (za (pv 2) zf)) (bW _)))))))) (zi (sset (i:=2) aM.nd (pv 4))) cX))))
   (zi (zz (pv 2)))))),?_⟩
  have dW:=hT.ends;refine⟨_,rfl,p,pu,pt,x,y,us,ai,ts,rfl,hT,fun pd ob ad bs H1 s1 jz hB=>?_⟩;have cl:=xV (us:=us) (ts:=ts) (ai:=ai) dW;have lk:=hT.gv;generalize zn ts (au us)=keys at hB cl lk k;generalize aZ ts (ts.zip ai)=ln at hB cl k
  try dsimp only[zx]
  refine⟨by decide,fun ps yq=>?_⟩;have s2:=ah.new (o:=.lst []) yq;refine⟨_,rfl,pd,ob,_,rfl,s2 _ _ hB.d,sR (fun i σ H'=>∃(v3 v4:Option V)(ps:Addr)(rs:List Addr),σ = [some (.ref p),some (.ref pd),some (.ref ps),v3,v4]/\ah H1 H'/\H ps=none/\H' ps=some (.lst (rs.map V.ref))/\rs.length<=64/\ia ln (keys.take i) rs)
   ⟨none,none,ps,[],rfl,s2,s1.free yq,zb,by simp,by simpa using ia.nil⟩ (fun i σ H' _ h=>by obtain⟨_,_,_,_,_,q,_⟩:=h;exact q _ _ hB.d) ?_ ?_⟩
  ·rintro i kk vv σ H3 hx ⟨v3,v4,ps,rs,rfl,q3,yN,tQ,lr,hR⟩;obtain⟨u,hu,rfl,_⟩:=sO hx;have bQ:u∈keys:=List.mem_of_getElem? hu
   try dsimp only[zx]
   refine⟨_,rfl,_,rfl,u,pd,ob,keys,ln,ad,bs,rfl,hB.same q3,bQ,cl,lk,fun pr xs H4 s4 EC qo lx hS=>?_⟩;have q4:=q3.trans s4;have tR:=s4 _ _ tQ
   try dsimp only[zx]
   refine qG (decide (xs≠[]/\(rs = []\/xs.length<rs.length))) (fun Q' hQ=>?_) (fun H5 t5=>?_)
   ·refine⟨_,rfl,by decide,fun e1 A5=>?_⟩;have w1:=ah.new (o:=.lst []) A5;refine⟨pr,e1,_,rfl,rfl,bP.lX (ao.of (w1 _ _ qo)) (ao.of zb),_,rfl,?_⟩;refine aT (fun c=>?_) (fun c=>?_)
    ·have c:xs≠[]:=by simpa using c
     refine⟨_,rfl,by decide,fun e2 uV=>?_⟩;have w2:=ah.new (o:=.lst []) uV;have yO:=w1.trans w2;refine⟨ps,e2,_,rfl,rfl,bP.lX (ao.of (yO _ _ tR)) (ao.of zb),_,rfl,?_⟩;refine aT (fun c2=>?_) (fun c2=>?_)
     ·have c2:rs = []:=by simpa using c2
      rw[show true=decide (xs≠[]/\(rs = []\/xs.length<rs.length)) from(decide_eq_true ⟨c,.inl c2⟩).symm];exact hQ _ yO
     ·have c2:¬rs = []:=by simpa using c2
      refine⟨_,rfl,pr,_,rfl,.inl (ao.of (yO _ _ qo)),_,rfl,ps,_,rfl,.inl (ao.of (yO _ _ tR)),_,_,rfl,rfl,_,rfl,?_⟩;have:decide (((xs.map V.ref).length:Int)<((rs.map V.ref).length:Int))=decide (xs≠[]/\(rs = []\/xs.length<rs.length)):=by
       rw[List.length_map,List.length_map];apply decide_eq_decide.mpr;constructor
       ·intro z;exact⟨c,.inr (by omega)⟩
       ·rintro⟨_,z | z⟩
        ·exact absurd z c2
        ·omega
      rw[←this] at hQ;exact hQ _ yO
    ·have c:xs = []:=by simpa using c
     rw[show false=decide (xs≠[]/\(rs = []\/xs.length<rs.length)) from(decide_eq_false fun z=>z.1 c).symm];exact hQ _ w1
   ·have:=hR.step hS;rw[show keys.take i++[u]=keys.take (i+1) by rw[List.take_add_one,hu];rfl] at this;refine aT (fun c=>?_) (fun c=>?_)
    ·have c:=of_decide_eq_true c;rw[if_pos c] at this;exact⟨_,rfl,_,_,pr,xs,rfl,q4.trans t5,(s1.trans q3).free EC,t5 _ _ qo,lx,this⟩
    ·have c:¬(xs≠[]/\(rs = []\/xs.length<rs.length)):=fun z=>c (decide_eq_true z)
     rw[if_neg c] at this;exact⟨_,_,ps,rs,rfl,q4.trans t5,yN,t5 _ _ tR,lr,this⟩
  ·rintro σ H3 ⟨v3,v4,ps,rs,rfl,q3,yN,tQ,lr,hR⟩;rw[fL,List.take_length] at hR;exact⟨_,rfl,k ps rs _ (s1.trans q3) yN tQ lr hR⟩
theorem UG{α:Type}(f:α->Bool)(l:List α):(l.map f).all id=l.all f:=by rw[List.all_map];rfl
def UH:Sp:=fun vs H Q _=>∃(pl pp:Addr)(bs:List Addr)(L:List (Str×Addr))(M:List Str),vs = [.ref pl,.ref pp]/\ao K H pl (bs.map V.ref)/\Paired (fun b(p:Str×Addr)=>H b=some (.tup [.str p.1,.ref p.2])) bs L/\H pp=some (.dK (dV M eG))/\L.length<=900/\
 ∀H',ah H H'->Q (.bl (mW M L)) H'
set_option maxHeartbeats 4000000 in
theorem UI(T:Tx K mg w zj zm zg zp):cD P w K mg base "rests_on" ["lowers","placed"] 1 (UH (K:=K)):=by
 refine T.Sv.has Td (fun vs H Q E h=>?_) (fun f aR A outer s H vs Q E hr h=>?_)
 ·obtain⟨pl,pp,bs,L,M,rfl,_⟩:=h;rfl
 ·obtain⟨pl,pp,bs,L,M,rfl,hl,pr,hm,lL,k⟩:=h;have hu:=fm hr;refine⟨_,(zi (zz (fJ (N1 K rfl rfl) (by rfl) T.all PyProof.Rows.boot_all (za (ly (own:=["lower","tie"]) (cap:=["placed"]) (ix:=[1]) (gE:=zq (top 16)) rfl ⟨rfl,by decide +kernel,by decide +kernel,by decide +kernel,by decide +kernel⟩ rfl (eF K rfl (pv 0)) (fun _ _ _ _=>mR (n:=2) K rfl rfl (gZ (ig (i:=0) (show List.Nodup (["lower","tie","placed"]:List Str) by decide +kernel) rfl (Or.inl rfl)) (gZ (ig (i:=1) (show List.Nodup (["lower","tie","placed"]:List Str) by decide +kernel) rfl (Or.inl rfl)) mO))) (fun _ _ _ _=>j5) (fun _ _ _ _=>(Fq (As hu (pv 0) (pv 2))))) zf)))),?_⟩;have lb:bs.length=L.length:=Paired.length pr;refine⟨_,rfl,pl,rfl,⟨_,hl⟩,fun D hD=>?_⟩;refine mS (oR (K:=K) (a:=pl) (xs:=bs.map V.ref)) (fun i aq ys H'=>∃w0 w1,aq = [w0,w1,some (.ref pp)]/\ys=((L.take i).map fun p=>decide (p.1∈M)).map V.bl/\ah H H'/\H' D=some (.lst ys))
   ⟨none,none,rfl,by simp,ah.new hD,zb⟩ (fun i aq ys H' h=>?_) (by rw[List.length_map];exact jC (by omega)) ?_ ?_
  ·obtain⟨_,_,_,rfl,q,hd⟩:=h;refine⟨q.seq hl,hd,?_⟩;rw[List.length_map,List.length_map,List.length_take];omega
  ·rintro i v aq ys H' hx ⟨w0,w1,rfl,rfl,q,hd⟩;obtain⟨b,⟨l,r⟩,rfl,je,_,hb⟩:=mV pr hx;have dR:=eT hx;refine⟨b,_,rfl,aG.of (q _ _ hb),rfl,_,_,rfl,_,_,rfl,rfl,?_⟩
   try dsimp only[zx]
   unfold gS;dsimp only;rw[if_pos rfl];have g:=aU.k (k:=Sum.inr l) (q _ _ hm);refine⟨_,rfl,_,rfl,pp,_,rfl,g,hd,jD dR ⟨_,_,rfl,?_,q.upd hD,zb⟩⟩;rw[List.take_add_one,je,List.map_append,List.map_append]
   congr 1
   show[V.bl (cF (dV M eG) (Sum.inr l)).isSome] = [V.bl (decide (l∈M))]
   by_cases c:l∈M
   ·rw[jt c,decide_eq_true c];rfl
   ·rw[sN c,decide_eq_false c];rfl
  rintro aq ys H1 ⟨w0,w1,rfl,rfl,q,hd⟩;rw[List.length_map,lb,List.take_length] at hd;refine⟨D,_,rfl,ao.of hd,?_⟩;rw[UG];exact k _ q
def UJ:Sp:=fun vs H Q _=>∃(pd pp:Addr)(ob:Obj)(keys:List Str)(ln:Ln)(ad:Str->Addr)(bs:Str->List Addr)(M:List Str)(u:Str)(r:List Str),vs = [.ref pd,.ref pp]/\Bn H pd ob keys ln ad bs/\H pp=some (.dK (dV M eG))/\keys.length<=63/\(∀k∈keys,(ln k).length<=900)/\
 mh ln keys M=u::r/\∀H',ah H H'->Q (.str u) H'
set_option maxHeartbeats 4000000 in
theorem Kp(T:Tx K mg w zj zm zg zp):cD P w K mg base "least_free" ["beneath","placed"] 2 UJ:=by
 refine T.Su.has fR (fun vs H Q E h=>?_) (fun f aR A outer s H vs Q E hr h=>?_)
 ·obtain⟨pd,pp,ob,keys,ln,ad,bs,M,u,r,rfl,_⟩:=h;rfl
 ·obtain⟨pd,pp,ob,keys,ln,ad,bs,M,u,r,rfl,hB,hm,lk,ll,hf,k⟩:=h;have hu:=fm hr;refine⟨_,(zc (w9 (i:=2) (own:=["name"]) (cap:=["placed","beneath"]) (ix:=[1,0]) (gE:=zq (top 15)) rfl fR.nd rfl rfl rfl ⟨rfl,by decide +kernel,by decide +kernel,by decide +kernel,by decide +kernel⟩ rfl (mj (pv 0)) (fun _ _ _ _=>ig (i:=0) (show List.Nodup (["name","placed","beneath"]:List Str) by decide +kernel) rfl (Or.inl rfl)) (fun _ _ _ _=>Cy (PW.pt (pM (qA (wK hu (pv 0) (pv 1))) (pL (oK (aH (UI T) (za (zw hu (pv 2) (pv 0) (fun _ _=>rfl)) (za (pv 1) zf)))))))) (fun _ _ _ _=>(pv 0)))
   (zi (zz (ay (dS K rfl) (pv 2) zh)))),?_⟩
  refine⟨_,rfl,pd,ob,_,rfl,hB.d,fun D hD=>?_⟩;refine mS (AW (a:=pd) (ob:=ob) (kvs:=dV keys fun k=>.ref (ad k))) (fun i aq ys H'=>∃w0,aq = [w0,some (.ref pp),some (.ref pd)]/\ys=((keys.take i).filter fun x=>decide (x ∉ M)&&mW M (ln x)).map V.str/\ah H H'/\H' D=some (.lst ys))
   ⟨none,rfl,by simp,ah.new hD,zb⟩ (fun i aq ys H' h=>?_) (by rw[List.length_map,fL];exact jC (by omega)) ?_ ?_
  ·obtain⟨_,_,rfl,q,hd⟩:=h;refine⟨q _ _ hB.d,hd,?_⟩;rw[List.length_map];exact Nat.le_trans (List.length_filter_le _ _) (by rw[List.length_take];omega)
  ·rintro i v aq ys H1 hx ⟨w0,rfl,rfl,q,hd⟩;have dR:=eT hx;rw[xT,List.getElem?_map] at hx;cases eu:keys[i]? with
   | none=>rw[eu] at hx;cases hx
   | some z=>
    rw[eu] at hx;cases hx;have hz:z∈keys:=List.mem_of_getElem? eu;have B1:=hB.same q;have g:=aU.k (k:=Sum.inr z) (q _ _ hm);have no:∀(H2:Hp),ah H1 H2->(decide (z ∉ M)&&mW M (ln z))=false->∃yP,[some (V.str z),some (V.ref pp),some (V.ref pd)] = [yP,some (.ref pp),some (.ref pd)]/\((keys.take i).filter fun x=>decide (x ∉ M)&&mW M (ln x)).map V.str=((keys.take (i+1)).filter fun x=>decide (x ∉ M)&&mW M (ln x)).map V.str/\ah H H2/\H2 D=some (.lst (((keys.take i).filter fun x=>decide (x ∉ M)&&mW M (ln x)).map V.str)):=fun H2 t e=>by
     refine⟨_,rfl,?_,q.trans t,t _ _ hd⟩;rw[List.take_add_one,eu,List.filter_append,List.map_append];have:(some z).toList.filter (fun x=>decide (x ∉ M)&&mW M (ln x)) = []:=by
      show[z].filter _ = [];rw[List.filter_cons_of_neg (by rw[e];exact Bool.false_ne_true)];rfl
     rw[this,List.map_nil,List.append_nil]
    try dsimp only[zx]
    refine⟨_,rfl,_,rfl,pp,_,rfl,g,_,rfl,?_⟩;refine aT (fun c=>?_) (fun c=>?_)
    ·have c1:z ∉ M:=fun y=>by rw[jt y] at c;cases c
     refine⟨_,rfl,_,rfl,pd,_,rfl,B1.get hz,_,rfl,ad z,pp,bs z,ln z,M,rfl,ao.of (B1.l z hz),B1.e z hz,q _ _ hm,ll z hz,fun H2 t2=>⟨_,rfl,?_⟩⟩;refine aT (fun c2=>?_) (fun c2=>?_)
     ·refine⟨_,rfl,t2 _ _ hd,jD dR ⟨_,rfl,?_,(q.trans t2).upd hD,zb⟩⟩;rw[List.take_add_one,eu,List.filter_append,List.map_append]
      congr 1
      have:(some z).toList.filter (fun x=>decide (x ∉ M)&&mW M (ln x)) = [z]:=by
       show[z].filter _ = [z];rw[List.filter_cons_of_pos (by rw[decide_eq_true c1,c2];rfl)];rfl
      rw[this];rfl
     ·have c2:mW M (ln z)=false:=by simpa using c2
      exact⟨t2 _ _ hd,jD dR (no H2 t2 (by rw[c2,Bool.and_false]))⟩
    ·have c1:z∈M:=Decidable.byContradiction fun y=>by
      rw[sN y] at c;exact c rfl
     refine⟨hd,jD dR (no H1 (ah.refl _) ?_)⟩;rw[show decide (z ∉ M)=false from decide_eq_false (fun y=>y c1),Bool.false_and]
  rintro aq ys H1 ⟨w0,rfl,rfl,q,hd⟩;rw[List.length_map,fL,List.take_length] at hd;have hd:H1 D=some (.lst ((mh ln keys M).map V.str)):=hd;rw[hf] at hd
  try dsimp only[zx]
  exact⟨_,rfl,D,_,_,_,rfl,rfl,ao.of hd,lB,k _ q⟩
def UK:Sp:=fun vs H Q _=>∃(p pu pt:Addr)(x y:V)(us:List Str)(ai:List Addr)(ts:List av),vs = [.ref p]/\iB K H p pu pt x y us ai ts/\cJ (aZ ts (ts.zip ai)) (zn ts (au us))/\∀H',ah H H'->Q .bO H'
theorem UL(T:Tx K mg w zj zm zg zp):cD P w K mg base "refuse_round" ["telling"] 6 (UK (K:=K)):=by
 refine T.JR.has bM (fun vs H Q E h=>?_) (fun f aR A outer s H vs Q E hr h=>?_)
 ·obtain⟨p,pu,pt,x,y,us,ai,ts,rfl,_⟩:=h;rfl
 ·obtain⟨p,pu,pt,x,y,us,ai,ts,rfl,hT,nr,k⟩:=h;refine⟨_,(zc (sset (i:=1) bM.nd (aH (EB T) (za (pv 0) zf)))
   (zi (cR (cE (zev K rfl (gk hr)) (pv 1) (cI zf) (bW _)) (zi LU) cX))),?_⟩
  refine⟨_,rfl,p,pu,pt,x,y,us,ai,ts,rfl,hT,fun q rs H1 s1 fq hq lr R=>?_⟩;have e:rs = []:=Decidable.byContradiction fun z=>by
   obtain⟨s',hs,j,hj,r⟩:=R.dg.mp z;exact nr s' hs j hj r
  subst e
  try dsimp only[zx]
  refine⟨_,rfl,by decide,fun e he=>?_⟩;have s2:=ah.new (o:=.lst []) he;refine⟨q,e,_,rfl,rfl,bP.lX (ao.of (s2 _ _ hq)) (ao.of zb),_,rfl,cT ?_⟩;exact k _ (s1.trans s2)
def Kq:Sp:=fun vs H Q _=>∃(p pu pt:Addr)(x y:V)(us:List Str)(ai:List Addr)(ts:List av),vs = [.ref p]/\iB K H p pu pt x y us ai ts/\cJ (aZ ts (ts.zip ai)) (zn ts (au us))/\
 ∀(q:Addr)(os:List Str)(H':Hp),ah H H'->H q=none->H' q=some (.lst (os.map V.str))->Ord (aZ ts (ts.zip ai)) (zn ts (au us)) os->os.Perm (zn ts (au us))->Q (.ref q) H'
set_option maxHeartbeats 4000000 in
theorem vh(T:Tx K mg w zj zm zg zp):cD P w K mg base "order" ["telling"] 7 (Kq (K:=K)):=by
 refine T.JS.has dY (fun vs H Q E h=>?_) (fun f aR A outer s H vs Q E hr h=>?_)
 ·obtain⟨p,pu,pt,x,y,us,ai,ts,rfl,_⟩:=h;rfl
 ·obtain⟨p,pu,pt,x,y,us,ai,ts,rfl,hT,nr,k⟩:=h;have hu:=fm hr;refine⟨_,(zc (gA (aH (UL T) (za (pv 0) zf)))
   (zc (sset (i:=1) dY.nd (aH (ng T) (za (pv 0) zf)))
   (zc (sset (i:=2) dY.nd jm)
   (zc (uv PassesOwn.never (cE uz (fJ Gw (by rfl) T.len boot_len (za (pv 2) zf)) (fJ HQ (by rfl) T.len boot_len (za (pv 1) zf)) (bW _)) (zi (g7 hu (pv 2) (aH (Kp T) (za (pv 1) (za (pv 2) zf))) lP rfl)))
   (zi (zz (pO (CS rfl) (by rfl) T.list PyProof.Rows.boot_list (za (pv 2) zf)))))))),?_⟩
  refine⟨_,rfl,p,pu,pt,x,y,us,ai,ts,rfl,hT,nr,fun H1 s1=>?_⟩;refine⟨_,rfl,p,pu,pt,x,y,us,ai,ts,rfl,hT.same s1,fun pd ob ad bs H2 s2 jz hB=>?_⟩;have cl:=xV (us:=us) (ts:=ts) (ai:=ai) hT.ends;have lk:=hT.gv;have kn:=nO (ts:=ts) hT.nd;have kl:=Hx (ts:=ts) hT.nd;have ll:∀k∈zn ts (au us),(aZ ts (ts.zip ai) k).length<=900:=fun k _=>by
   have h1:=AQ (ts:=ts) (z:=ts.zip ai) (k:=k);have h2:=hT.tl;rw[List.length_zip] at h1;omega
  generalize zn ts (au us)=keys at hB cl lk k nr kn kl ll;generalize aZ ts (ts.zip ai)=ln at hB cl k nr ll;have q2:=s1.trans s2
  try dsimp only[zx]
  refine fun pp tS=>?_
  have s3:=ah.new (o:=.dK []) tS;refine⟨fun m σ H'=>∃os,σ = [some (.ref p),some (.ref pd),some (.ref pp)]/\ah H2 H'/\H' pp=some (.dK (dV os eG))/\Ord ln keys os/\m=keys.length-os.length,⟨_,[],rfl,s3,zb,Ord.nil,rfl⟩,?_⟩;rintro m σ H4 ⟨os,rfl,q4,jS,O,rfl⟩;have B4:=hB.same q4;have lo:=lD O.nd O.sub;refine⟨_,rfl,pp,_,rfl,jS,_,rfl,pd,_,rfl,.inr ⟨_,B4.d⟩,_,_,rfl,rfl,_,rfl,?_⟩;rw[fL,fL];refine aT (fun c=>?_) (fun c=>?_)
  ·have c:=of_decide_eq_true c;have hx:∃x∈keys,x ∉ os:=Classical.byContradiction fun hn=>by
    have:=lD (us:=os) kn fun x hx=>Decidable.byContradiction fun z=>hn ⟨x,hx,z⟩
    omega
   obtain⟨u,r,bL⟩:∃u r,mh ln keys os=u::r:=by
    cases e:mh ln keys os with
    | nil=>exact absurd e (OS cl nr hx)
    | cons u r=>exact⟨u,r,rfl⟩
   obtain⟨m1,m2,m3⟩:=fD.mp (show u∈mh ln keys os by rw[bL];simp);refine⟨fun aq H'=>∃m',m'<keys.length-os.length/\_,fun aq H' h=>h,?_⟩;refine⟨_,rfl,_,rfl,_,rfl,pd,pp,ob,keys,ln,ad,bs,os,u,r,rfl,B4,jS,lk,ll,bL,fun H5 s5=>?_⟩;refine⟨pp,_,rfl,cG.k (k:=Sum.inr u) (s5 _ _ jS) (by rw[fL];exact fP (by omega)),?_⟩;rw[Dj m2];refine⟨_,?_,os++[u],rfl,(q4.trans s5).upd tS,zb,O.snoc kl bL,rfl⟩;rw[List.length_append];show keys.length-(os.length+1)<_;omega
  ·have c:¬((os.length:Int)<(keys.length:Int)):=fun z=>c (decide_eq_true z)
   have e:os.length=keys.length:=by omega
   refine⟨_,rfl,pp,_,rfl,jS,fun q hq=>?_⟩;rw[xT];exact k q os _ (q2.trans (q4.trans (ah.new hq))) ((q2.trans q4).free hq) zb O (O.perm kn e)
def Kr:Sp:=fun vs H Q _=>∃(p pu pt:Addr)(x y:V)(us:List Str)(ai:List Addr)(ts:List av),vs = [.ref p]/\iB K H p pu pt x y us ai ts/\cJ (aZ ts (ts.zip ai)) (zn ts (au us))/\
 ∀(q:Addr)(cs:List Addr)(lv:Str->Nat)(H':Hp),ah H H'->H q=none->H' q=some (.lst (cs.map V.ref))->cs.length<=63->cs.Nodup->(∀c∈cs,H c=none/\c≠q)->
  (∀(j:Nat)c,cs[j]? = some c->H' c=some (.lst (((zn ts (au us)).filter (fM lv j)).map V.str)))->Lv (aZ ts (ts.zip ai)) (zn ts (au us)) lv cs.length->Q (.ref q) H'
set_option maxHeartbeats 8000000 in
theorem Ks(T:Tx K mg w zj zm zg zp):cD P w K mg base "levels" ["telling"] 8 (Kr (K:=K)):=by
 refine T.JX.has aW (fun vs H Q E h=>?_) (fun f aR A outer s H vs Q E hr h=>?_)
 ·obtain⟨p,pu,pt,x,y,us,ai,ts,rfl,_⟩:=h;rfl
 ·obtain⟨p,pu,pt,x,y,us,ai,ts,rfl,hT,nr,k⟩:=h;have hu:=fm hr;refine⟨_,(zc (sset (i:=1) aW.nd (aH (ng T) (za (pv 0) zf)))
   (zc (sset (i:=2) aW.nd jm)
   (zc (sset (i:=3) aW.nd (cI zf))
   (zc (dZ PassesOwn.never rfl (eF K rfl (aH (vh T) (za (pv 0) zf))) (cL (i:=4) aW.nd) (zc (sset (i:=5) aW.nd (HS K rfl 0 rfl (by rfl) T.max (ly (own:=["lower","tie"]) (cap:=["numbers"]) (ix:=[2]) (gE:=zq (top 39)) rfl ⟨rfl,by decide +kernel,by decide +kernel,by decide +kernel,by decide +kernel⟩ rfl (eF K rfl (zw hu (pv 1) (pv 4) (fun _ _=>rfl))) (fun _ _ _ _=>mR (n:=2) K rfl rfl (gZ (ig (i:=0) (show List.Nodup (["lower","tie","numbers"]:List Str) by decide +kernel) rfl (Or.inl rfl)) (gZ (ig (i:=1) (show List.Nodup (["lower","tie","numbers"]:List Str) by decide +kernel) rfl (Or.inl rfl)) mO))) (fun _ _ _ _=>j5) (fun _ _ _ _=>(c9 jJ (zw hu (pv 2) (pv 0) (fun _ _=>rfl)) zh)))))
    (zc (g7 hu (pv 2) (pv 4) (pv 5) rfl)
    (zc (cR (cE fZ (pv 5) (fJ (lA K rfl) (by rfl) T.len boot_len (za (pv 3) zf)) (bW _)) (zi (gA (jM K rfl PySem.F.plainAttrs_list PySem.F.slot_list_append PySem.F.type_list_append j4 (pv 3) (za (cI zf) zf)))) cX)
    (zi (gA (jM K rfl PySem.F.plainAttrs_list PySem.F.slot_list_append PySem.F.type_list_append j4 (ay (dS K rfl) (pv 3) (pv 5)) (za (pv 4) zf))))))))
   (zi (zz (ly (own:=["row"]) (cap:=[]) (ix:=[]) (gE:=zq (top 39)) rfl ⟨rfl,by decide +kernel,by decide +kernel,by decide +kernel,by decide +kernel⟩ rfl (eF K rfl (pv 3)) (fun _ _ _ _=>ig (i:=0) (show List.Nodup (["row"]:List Str) by decide +kernel) rfl (Or.inl rfl)) (fun _ _ _ _=>j5) (fun _ _ _ _=>(fJ (Dk (K:=K) rfl) (by rfl) T.sorted PyProof.Rows.boot_sorted (za (pv 0) zf)))))))))),?_⟩
  refine⟨_,rfl,p,pu,pt,x,y,us,ai,ts,rfl,hT,fun pd ob ad bs H1 s1 jz hB=>?_⟩;have lk:=hT.gv;have kn:=nO (ts:=ts) hT.nd;have kl:=Hx (ts:=ts) hT.nd;have ll:∀k∈zn ts (au us),(aZ ts (ts.zip ai) k).length<=900:=fun k _=>by
   have h1:=AQ (ts:=ts) (z:=ts.zip ai) (k:=k);have h2:=hT.tl;rw[List.length_zip] at h1;omega
  try dsimp only[zx]
  refine fun pn Ku=>?_
  have s2:=ah.new (o:=.dK []) Ku
  try dsimp only[zx]
  refine⟨by decide,fun pr qo=>?_⟩;have s3:=ah.new (o:=.lst []) qo;have q3:=s1.trans (s2.trans s3);have EC:H1 pr=none:=s2.free qo;have Kv:pn≠pr:=zv zb qo;refine⟨_,rfl,p,pu,pt,x,y,us,ai,ts,rfl,hT.same q3,nr,fun q os H4 s4 fq hq O pm=>?_⟩;have Ej:=s4 _ _ (s3 _ _ (zb (H:=H1) (a:=pn) (o:=.dK [])));have tN:=s4 _ _ (zb (H:=upd H1 pn (.dK [])) (a:=pr) (o:=.lst []));have UM:pn≠q:=zv (s3 _ _ zb) fq;have UN:pr≠q:=zv zb fq;have Xl:H1 q=none:=(s2.trans s3).free fq;have lo:os.length<=63:=by rw[pm.length_eq];exact lk
  generalize zn ts (au us)=keys at hB lk k nr kn kl ll O pm;generalize aZ ts (ts.zip ai)=ln at hB k nr ll O;refine⟨q,rfl,⟨_,ao.of hq⟩,iK (xs:=os.map V.str) (fun i σ H'=>∃(v4 v5:Option V)(cs:List Addr)(lv:Str->Nat),σ = [some (.ref p),some (.ref pd),some (.ref pn),some (.ref pr),v4,v5]/\ah H1 H'/\H' q=some (.lst (os.map V.str))/\
   H' pn=some (.dK (dV (os.take i) fun x=>.int (lv x)))/\H' pr=some (.lst (cs.map V.ref))/\cs.length<=i/\cs.Nodup/\(∀c∈cs,H1 c=none/\c≠pn/\c≠pr/\c≠q)/\
   (∀(j:Nat)c,cs[j]? = some c->H' c=some (.lst (((os.take i).filter (fM lv j)).map V.str)))/\Lv ln (os.take i) lv cs.length)
   ⟨none,none,[],fun _=>0,rfl,s2.trans (s3.trans s4),hq,Ej,tN,Nat.le_refl _,by simp,by simp,by simp,Lv.nil⟩ (fun i σ H' _ h=>by obtain⟨_,_,_,_,_,_,q,_⟩:=h;exact ao.of q) ?_ ?_⟩
  ·rintro i v σ H5 hx ⟨v4,v5,cs,lv,rfl,q5,yQ,ED,o9,cl,cn,cf,ch,L⟩;rw[List.getElem?_map] at hx;cases eu:os[i]? with
   | none=>rw[eu] at hx;cases hx
   | some u=>
    rw[eu] at hx;cases hx;have bL:u∈keys:=O.sub u (List.mem_of_getElem? eu);have om:=O.low i u eu;have hi:=eT eu;have EE:u ∉ os.take i:=fun z=>by
     have nd:=O.nd;rw[←List.take_append_drop i os,List.nodup_append] at nd;refine nd.2.2 u z u ?_ rfl;obtain⟨hi,e⟩:=List.getElem?_eq_some_iff.mp eu;rw[←e];exact List.mem_drop_iff_getElem.mpr ⟨0,by omega,by simp⟩
    have tk:os.take (i+1)=os.take i++[u]:=by rw[List.take_add_one,eu];rfl
    have lt:(os.take i).length<=63:=by rw[List.length_take];omega
    have B5:=hB.same q5;have lb:(bs u).length=(ln u).length:=Paired.length (B5.e u bL);have lu:=ll u bL
    try dsimp only[zx]
    refine⟨_,rfl,_,rfl,pd,_,rfl,B5.get bL,ad u,rfl,⟨_,ao.of (B5.l u bL)⟩,fun D hD=>?_⟩;refine mS (oR (K:=K) (a:=ad u) (xs:=(bs u).map V.ref)) (fun i' aq ys H'=>∃w0 w1,aq = [w0,w1,some (.ref pn)]/\ys=(mq lv ((ln u).take i')).map V.int/\ah H5 H'/\H' D=some (.lst ys))
     ⟨none,none,rfl,by simp[mq],ah.new hD,zb⟩ (fun i' aq ys H' h=>?_) (by rw[List.length_map];exact jC (by omega)) ?_ ?_
    ·obtain⟨_,_,_,rfl,q,hd⟩:=h;refine⟨ao.of (q _ _ (B5.l u bL)),hd,?_⟩;unfold mq;rw[List.length_map,List.length_map,List.length_take];omega
    ·rintro i' v aq ys H' hx ⟨w0,w1,rfl,rfl,q,hd⟩;obtain⟨b,⟨l,r⟩,rfl,je,_,hb⟩:=mV (B5.e u bL) hx;have dR:=eT hx;have hl:l∈os.take i:=om l r (List.mem_of_getElem? je);refine⟨b,_,rfl,aG.of (q _ _ hb),rfl,_,_,rfl,_,_,rfl,rfl,?_⟩
     try dsimp only[zx]
     unfold gS;dsimp only;rw[if_pos rfl];have g:=aU.k (k:=Sum.inr l) (q _ _ ED);rw[jt hl] at g;refine⟨_,rfl,_,rfl,pn,_,rfl,g,_,_,rfl,rfl,hd,jD dR ⟨_,_,rfl,?_,q.upd hD,zb⟩⟩;rw[List.take_add_one,je];unfold mq;rw[List.map_append,List.map_append];rfl
    rintro aq ys H6 ⟨w0,w1,rfl,rfl,t6,fQ⟩;rw[List.length_map,lb,List.take_length] at fQ;refine⟨D,_,rfl,ao.of fQ,fun m hm=>?_⟩;obtain⟨k',rfl,hk⟩:=L.next om hm;have L':=L.step EE om hm hk;have CB:=t6 _ _ ED;have UO:=t6 _ _ o9
    try dsimp only[zx]
    refine⟨_,rfl,_,rfl,_,rfl,pn,_,rfl,cG.k (k:=Sum.inr u) CB (by rw[fL];exact fP (by omega)),?_⟩;rw[oV EE];have ed:dV (os.take i++[u]) (fun z=>if z=u then V.int (k':Int) else V.int (lv z))=dV (os.take (i+1)) fun x=>V.int (jw lv u k' x):=by
     rw[tk];refine l9 fun z _=>?_
     unfold jw;split<;>rfl
    rw[ed];have q7:ah H1 (upd H6 pn (.dK (dV (os.take (i+1)) fun x=>V.int (jw lv u k' x)))):=(q5.trans t6).upd Ku;have jU:upd H6 pn (.dK (dV (os.take (i+1)) fun x=>V.int (jw lv u k' x))) q=some (.lst (os.map V.str)):=by rw[zr (Ne.symm UM)];exact t6 _ _ yQ
    have vm:upd H6 pn (.dK (dV (os.take (i+1)) fun x=>V.int (jw lv u k' x))) pr=some (.lst (cs.map V.ref)):=by rw[zr (Ne.symm Kv)];exact UO
    have Br:upd H6 pn (.dK (dV (os.take (i+1)) fun x=>V.int (jw lv u k' x))) pn=some (.dK (dV (os.take (i+1)) fun x=>V.int (jw lv u k' x))):=zb;have Bs:∀(j:Nat)c,cs[j]? = some c->upd H6 pn (.dK (dV (os.take (i+1)) fun x=>V.int (jw lv u k' x))) c=some (.lst (((os.take i).filter (fM lv j)).map V.str)):=fun j c e=>by
     rw[zr (cf c (List.mem_of_getElem? e)).2.1];exact t6 _ _ (ch j c e)
    generalize upd H6 pn (.dK (dV (os.take (i+1)) fun x=>V.int (jw lv u k' x)))=H7 at q7 jU vm Br Bs
    try dsimp only
    unfold rJ;refine Pf (fun aq H'=>∃(ni:List Addr),aq = [some (.ref p),some (.ref pd),some (.ref pn),some (.ref pr),some (.str u),some (.int k')]/\ah H1 H'/\H' q=some (.lst (os.map V.str))/\
      H' pn=some (.dK (dV (os.take (i+1)) fun x=>V.int (jw lv u k' x)))/\H' pr=some (.lst (ni.map V.ref))/\ni.length<=i+1/\ni.Nodup/\(∀c∈ni,H1 c=none/\c≠pn/\c≠pr/\c≠q)/\
      (∀(j:Nat)c,ni[j]? = some c->H' c=some (.lst (((os.take i).filter (fM lv j)).map V.str)))/\k'<ni.length/\ni.length=if k'=cs.length then cs.length+1 else cs.length) (decide (k'=cs.length)) (fun Q' hQ=>?_) (fun e hn=>?_) (fun e hn=>?_) ?_
    ·refine⟨_,rfl,_,rfl,pr,_,rfl,.inl (ao.of vm),rfl,_,rfl,?_⟩;have e:decide (V.int (k':Int)=V.int ((cs.map V.ref).length:Int))=decide (k'=cs.length):=by
      rw[decide_eq_decide,List.length_map];constructor
      ·intro z;injection z with z;omega
      ·intro z;rw[z]
     rw[e];exact hQ
    ·have e:=of_decide_eq_true e;refine⟨_,rfl,.inl ⟨rfl,_,ao.of vm⟩,by decide,fun q0 aE=>?_⟩;have t0:=ah.new (o:=.lst []) aE;refine⟨pr,_,_,rfl,rfl,t0 _ _ vm,by rw[List.length_map];exact fP (by omega),?_⟩;have qZ:H1 q0=none:=q7.free aE;have UP:H1 pr=none:=EC;have mp:=List.map_append (f:=V.ref) (l₁:=cs) (l₂:=[q0]);have pA:pr≠q0:=zv vm aE;refine hn _ _ ⟨cs++[q0],rfl,(q7.trans t0).upd UP,?_,?_,by rw[zb,mp];rfl,by rw[List.length_append];show cs.length+1<=_;omega,?_,fun c hc=>?_,fun j c hc=>?_,by rw[List.length_append];show _<cs.length+1;omega,by rw[if_pos e,List.length_append];rfl⟩
     ·rw[zr (Ne.symm UN)];exact t0 _ _ jU
     ·rw[zr Kv];exact t0 _ _ Br
     ·rw[List.nodup_append];refine⟨cn,by simp,fun a ha b hb z=>?_⟩;have hb:b=q0:=by simpa using hb
      subst hb;subst z;obtain⟨j,hj⟩:=List.mem_iff_getElem?.mp ha;have:=Bs j _ hj;rw[aE] at this;cases this
     ·rcases List.mem_append.mp hc with hc | hc
      ·exact cf c hc
      ·have hc:c=q0:=by simpa using hc
       subst hc;exact⟨qZ,Ne.symm (zv Br aE),Ne.symm pA,Ne.symm (zv jU aE)⟩
     ·by_cases hj:j<cs.length
      ·rw[List.getElem?_append_left hj] at hc;rw[zr (cf c (List.mem_of_getElem? hc)).2.2.1];exact t0 _ _ (Bs j c hc)
      ·rw[List.getElem?_append_right (by omega)] at hc;have EF:j=cs.length:=by
        have:=eT hc;have:j-cs.length<1:=this;omega
       subst EF;simp at hc;subst hc;rw[zr (Ne.symm pA),zb,L.pY (Nat.le_refl _)];rfl
    ·have e:=of_decide_eq_false e;exact hn _ _ ⟨cs,rfl,q7,jU,Br,vm,by omega,cn,cf,Bs,by omega,by rw[if_neg e]⟩
    ·rintro aq H8 ⟨ni,rfl,q8,vg,UQ,Kw,UR,Ky,Kz,KA,kc,ec⟩;have dj:ni[k']? = some ni[k']:=List.getElem?_eq_getElem kc;have hc:=KA k' _ dj;generalize ni[k']=c at dj hc;have Bt:=Kz c (List.mem_of_getElem? dj);refine⟨_,rfl,_,rfl,pr,_,_,.ref c,rfl,rfl,ao.of Kw,iU (by rw[List.getElem?_map,dj];rfl),.inl ⟨rfl,_,ao.of hc⟩,_,rfl,c,_,_,rfl,rfl,hc,?_,?_⟩
     ·rw[List.length_map];exact fP (by have:=List.length_filter_le (fM lv k') (os.take i);omega)
     refine⟨_,_,ni,jw lv u k',rfl,q8.upd Bt.1,?_,?_,?_,UR,Ky,Kz,fun j d hd=>?_,?_⟩
     ·rw[zr (Ne.symm Bt.2.2.2)];exact vg
     ·rw[zr (Ne.symm Bt.2.1)];exact UQ
     ·rw[zr (Ne.symm Bt.2.2.1)];exact Kw
     ·rw[tk,Pc EE]
      by_cases e:k'=j
      ·subst e;rw[dj] at hd;cases hd;rw[zb,if_pos rfl,List.map_append];rfl
      ·rw[if_neg e,List.append_nil,zr (fun z=>e (Pe Ky dj (by rw[←z];exact hd)))];exact KA j d hd
     ·rw[tk,ec];exact L'
  ·rintro σ H5 ⟨v4,v5,cs,lv,rfl,q5,yQ,ED,o9,cl,cn,cf,ch,L⟩;rw[List.length_map,List.take_length] at ch L;rw[List.length_map] at cl;have Lk:=L.mem fun x=>pm.mem_iff
   try dsimp only[zx]
   refine⟨_,rfl,pr,rfl,⟨_,ao.of o9⟩,fun D hD=>?_⟩;refine mS (oR (K:=K) (a:=pr) (xs:=cs.map V.ref)) (fun i' aq ys H'=>∃(w0:Option V)(ds:List Addr),aq = [w0]/\ys=ds.map V.ref/\ds.length=i'/\ah H5 H'/\H' D=some (.lst ys)/\ds.Nodup/\(∀d∈ds,H5 d=none/\d≠D)/\∀(j:Nat)d,ds[j]? = some d->H' d=some (.lst ((keys.filter (fM lv j)).map V.str)))
    ⟨none,[],rfl,rfl,rfl,ah.new hD,zb,by simp,by simp,by simp⟩ (fun i' aq ys H' h=>?_) (by rw[List.length_map];exact jC (by omega)) ?_ ?_
   ·obtain⟨_,_,_,rfl,dl,q,hd,_⟩:=h;refine⟨ao.of (q _ _ o9),hd,?_⟩;rw[List.length_map];omega
   ·rintro i' v aq ys H6 hx ⟨w0,ds,rfl,rfl,dl,q,hd,dn,df,dh⟩;have dR:=eT hx;rw[List.getElem?_map] at hx;cases ec:cs[i']? with
    | none=>rw[ec] at hx;cases hx
    | some c=>
     rw[ec] at hx;cases hx;have hc:=q _ _ (ch i' c ec)
     try dsimp only[zx]
     unfold gS;dsimp only;rw[if_pos rfl];refine⟨_,rfl,c,os.filter (fM lv i'),rfl,ao.of hc,by have:=List.length_filter_le (fM lv i') os;omega,fun d ms qw EG rs=>?_⟩;have em:=C7 EG rs;subst em;rw[Pd pm kl];have t1:=ah.new (o:=.lst ((keys.filter (fM lv i')).map V.str)) qw;have nd:D≠d:=zv hd qw;refine⟨t1 _ _ hd,jD dR ⟨_,ds++[d],rfl,by rw[List.map_append];rfl,by rw[List.length_append];show ds.length+1=_;omega,(q.trans t1).upd hD,by rw[zb],?_,fun b hb=>?_,fun j b hb=>?_⟩⟩
     ·rw[List.nodup_append];refine⟨dn,by simp,fun a ha b hb z=>?_⟩;have hb:b=d:=by simpa using hb
      subst hb;subst z;obtain⟨j,hj⟩:=List.mem_iff_getElem?.mp ha;have:=dh j _ hj;rw[qw] at this;cases this
     ·rcases List.mem_append.mp hb with hb | hb
      ·exact df b hb
      ·have hb:b=d:=by simpa using hb
       subst hb;exact⟨q.free qw,Ne.symm nd⟩
     ·by_cases hj:j<ds.length
      ·rw[List.getElem?_append_left hj] at hb;rw[zr (df b (List.mem_of_getElem? hb)).2];exact t1 _ _ (dh j b hb)
      ·rw[List.getElem?_append_right (by omega)] at hb;have EF:j=ds.length:=by
        have:=eT hb;have:j-ds.length<1:=this;omega
       subst EF;simp at hb;subst hb;rw[zr (Ne.symm nd),zb,dl]
   rintro aq ys H6 ⟨w0,ds,rfl,rfl,dl,q,hd,dn,df,dh⟩;rw[List.length_map] at dl;have f5:=s1.trans q5;refine k D ds lv H6 (f5.trans q) (f5.free hD) hd (by omega) dn (fun c hc=>⟨f5.free (df c hc).1,(df c hc).2⟩) dh ?_;rw[dl];exact Lk
def KC:Sp:=fun vs H Q _=>∃(p pu pt:Addr)(x y:V)(us:List Str)(ai:List Addr)(ts:List av),vs = [.ref p]/\iB K H p pu pt x y us ai ts/\cJ (aZ ts (ts.zip ai)) (zn ts (au us))/\
 ∀(pd:Addr)(ob:Obj)(os:List Str)(bD:Str->List Str)(ad:Str->Addr)(obs:Str->Obj)(H':Hp),ah H H'->H pd=none->Dp H' pd ob os bD ad obs->os.Perm (zn ts (au us))->(∀k∈zn ts (au us),(bD k).Nodup/\∀y,y∈bD k↔eV (aZ ts (ts.zip ai)) k y)->Q (.ref pd) H'
set_option maxHeartbeats 8000000 in
theorem EH(T:Tx K mg w zj zm zg zp):cD P w K mg base "all_beneath" ["telling"] 8 (KC (K:=K)):=by
 refine T.JU.has az (fun vs H Q E h=>?_) (fun f aR A outer s H vs Q E hr h=>?_)
 ·obtain⟨p,pu,pt,x,y,us,ai,ts,rfl,_⟩:=h;rfl
 ·obtain⟨p,pu,pt,x,y,us,ai,ts,rfl,hT,nr,k⟩:=h;have hu:=fm hr;refine⟨_,(zc (sset (i:=1) az.nd (aH (ng T) (za (pv 0) zf)))
   (zc (sset (i:=2) az.nd jm)
   (zc (dZ PassesOwn.never rfl (eF K rfl (aH (vh T) (za (pv 0) zf))) (cL (i:=3) az.nd) (zc (g7 hu (pv 2) (pv 3) jm rfl)
    (zi (dZ PassesOwn.never rfl (eF K rfl (zw hu (pv 1) (pv 3) (fun _ _=>rfl))) (mR K rfl rfl (gZ (cL (i:=4) az.nd) (gZ (cL (i:=5) az.nd) mO))) (zc (g7 hu (zw hu (pv 2) (pv 3) (fun _ _=>rfl)) (pv 4) lP rfl)
     (zi (gA (jM K rfl PySem.F.plainAttrs_dict PySem.F.slot_dict_update PySem.F.type_dict_update Ih (zw hu (pv 2) (pv 3) (fun _ _=>rfl)) (za (zw hu (pv 2) (pv 4) (fun _ _=>rfl)) zf)))))))))
   (zi (Ii (zz (pv 2))))))),?_⟩
  refine⟨_,rfl,p,pu,pt,x,y,us,ai,ts,rfl,hT,fun ps KD aB bB H1 s1 yN hB=>?_⟩;have lk:=hT.gv;have kn:=nO (ts:=ts) hT.nd;have cl:=xV (us:=us) (ts:=ts) (ai:=ai) hT.ends;have ll:∀k,(aZ ts (ts.zip ai) k).length<=900:=fun k=>by
   have h1:=AQ (ts:=ts) (z:=ts.zip ai) (k:=k);have h2:=hT.tl;rw[List.length_zip] at h1;omega
  try dsimp only[zx]
  refine fun pd cP=>?_
  have s2:=ah.new (o:=.dK []) cP;refine⟨_,rfl,p,pu,pt,x,y,us,ai,ts,rfl,hT.same (s1.trans s2),nr,fun q os H3 s3 fq hq O pm=>?_⟩;have cQ:=s3 _ _ (zb (H:=H1) (a:=pd) (o:=.dK []));have nq:pd≠q:=zv zb fq;have lo:os.length<=63:=by rw[pm.length_eq];exact lk
  generalize zn ts (au us)=keys at hB lk k nr kn cl O pm;generalize aZ ts (ts.zip ai)=ln at hB k nr cl ll O;have pB:∀z,z∈os↔z∈keys:=fun z=>pm.mem_iff
  refine⟨q,rfl,⟨_,ao.of hq⟩,iK (xs:=os.map V.str) (fun i σ H'=>∃(v3 v4 v5:Option V)(bD:Str->List Str)(ad:Str->Addr),σ = [some (.ref p),some (.ref ps),some (.ref pd),v3,v4,v5]/\ah H1 H'/\H' q=some (.lst (os.map V.str))/\
    H' pd=some (.dK (dV (os.take i) fun k=>.ref (ad k)))/\(∀k∈os.take i,H' (ad k)=some (.dK (dV (bD k) eG))/\H1 (ad k)=none/\ad k≠pd/\ad k≠q/\(bD k).Nodup/\∀y,y∈bD k↔eV ln k y)/\(∀k∈os.take i,∀k'∈os.take i,ad k=ad k'->k=k'))
   ⟨none,none,none,fun _=>[],fun _=>0,rfl,s2.trans s3,hq,cQ,(fun k hk=>by simp at hk),fun k hk=>by simp at hk⟩ (fun i σ H' _ h=>by obtain⟨_,_,_,_,_,_,_,q,_⟩:=h;exact ao.of q) ?_ ?_⟩
  ·rintro i v σ H4 hx ⟨v3,v4,v5,bD,ad,rfl,q4,qp,fT,fO,inj⟩;rw[List.getElem?_map] at hx;cases eu:os[i]? with
   | none=>rw[eu] at hx;cases hx
   | some u=>
    rw[eu] at hx;cases hx;have bQ:u∈keys:=(pB u).mp (List.mem_of_getElem? eu);have hi:=eT eu;have om:=O.low i u eu;have eZ:u ∉ os.take i:=by
     have:=mT O.nd i hi;rw[show os[i]=u from(List.getElem?_eq_some_iff.mp eu).2] at this;exact this
    have tk:os.take (i+1)=os.take i++[u]:=by rw[List.take_add_one,eu];rfl
    have lt:(os.take i).length<=63:=by rw[List.length_take];omega
    try dsimp only[zx]
    refine fun q0 aE=>?_
    have t0:=ah.new (o:=.dK []) aE;have dO:=t0 _ _ fT;refine⟨_,rfl,_,rfl,pd,_,rfl,cG.k (k:=Sum.inr u) dO (by rw[fL];exact fP (by omega)),?_⟩;rw[oV eZ];have Bu:q0≠pd:=Ne.symm (zv fT aE);have EI:q0≠q:=Ne.symm (zv qp aE);have qZ:H1 q0=none:=q4.free aE;have yR:∀k∈os.take i,ad k≠q0:=fun k hk=>zv (fO k hk).1 aE
    have ed:dV (os.take i++[u]) (fun z=>if z=u then V.ref q0 else V.ref (ad z))=dV (os.take (i+1)) fun z=>V.ref (if z=u then q0 else ad z):=by
     rw[tk];refine l9 fun z _=>?_
     split<;>rfl
    rw[ed];have q6:ah H1 (upd (upd H4 q0 (.dK [])) pd (.dK (dV (os.take (i+1)) fun z=>V.ref (if z=u then q0 else ad z)))):=(q4.trans t0).upd cP;have fQ:upd (upd H4 q0 (.dK [])) pd (.dK (dV (os.take (i+1)) fun z=>V.ref (if z=u then q0 else ad z))) pd=some (.dK (dV (os.take (i+1)) fun z=>V.ref (if z=u then q0 else ad z))):=zb;have KG:upd (upd H4 q0 (.dK [])) pd (.dK (dV (os.take (i+1)) fun z=>V.ref (if z=u then q0 else ad z))) q=some (.lst (os.map V.str)):=by rw[zr (Ne.symm nq)];exact t0 _ _ qp
    have vn:upd (upd H4 q0 (.dK [])) pd (.dK (dV (os.take (i+1)) fun z=>V.ref (if z=u then q0 else ad z))) q0=some (.dK (dV [] eG)):=by rw[zr Bu,zb];rfl
    have kW:∀k∈os.take i,upd (upd H4 q0 (.dK [])) pd (.dK (dV (os.take (i+1)) fun z=>V.ref (if z=u then q0 else ad z))) (ad k)=some (.dK (dV (bD k) eG)):=fun k hk=>by rw[zr (fO k hk).2.2.1];exact t0 _ _ (fO k hk).1
    generalize upd (upd H4 q0 (.dK [])) pd (.dK (dV (os.take (i+1)) fun z=>V.ref (if z=u then q0 else ad z)))=H6 at q6 fQ KG vn kW;have B6:=hB.same q6;have bL:u∈os.take (i+1):=by rw[tk];simp
    refine⟨_,rfl,_,rfl,ps,_,rfl,B6.get bQ,aB u,rfl,⟨_,ao.of (B6.l u bQ)⟩,iK (xs:=(bB u).map V.ref) (fun i' σ H'=>∃(v4 v5:Option V)(M:List Str),σ = [some (.ref p),some (.ref ps),some (.ref pd),some (.str u),v4,v5]/\ah H1 H'/\H' q=some (.lst (os.map V.str))/\H' pd=some (.dK (dV (os.take (i+1)) fun z=>V.ref (if z=u then q0 else ad z)))/\
      (∀k∈os.take i,H' (ad k)=some (.dK (dV (bD k) eG)))/\H' q0=some (.dK (dV M eG))/\M.Nodup/\∀y,y∈M↔∃l r,(l,r)∈(ln u).take i'/\(l=y\/eV ln l y))
     ⟨_,_,[],rfl,q6,KG,fQ,kW,vn,by simp,by simp⟩ (fun i' σ H' _ h=>by obtain⟨_,_,_,_,q,_⟩:=h;exact ao.of (q _ _ (hB.l u bQ))) ?_ ?_⟩
    ·rintro i' v σ H7 hx ⟨v4,v5,M,rfl,q7,jU,gM,oq,EJ,Mn,Mm⟩;obtain⟨b,⟨l,r⟩,rfl,je,_,hb⟩:=mV (hB.same q7 |>.e u bQ) hx;have EK:(l,r)∈ln u:=List.mem_of_getElem? je;have hl:l∈os.take i:=om l r EK;have lu:l≠u:=fun z=>eZ (z▸hl)
     obtain⟨_,jv,iL,Ey,US,vf⟩:=fO l hl;have EL:∀y∈M,y∈keys:=fun y hy=>by
      obtain⟨l',r',h1,h2⟩:=(Mm y).mp hy;have jo:=cl u bQ l' r' (List.mem_of_mem_take h1);rcases h2 with rfl | ⟨j,_,h2⟩
      ·exact jo
      ·exact h2.inKeys cl jo
     have lM:M.length<=63:=Nat.le_trans (lD Mn EL) lk;have e8:l∈keys:=cl u bQ l r EK;have Xm:(bD l).length<=63:=Nat.le_trans (lD US fun y hy=>by
      obtain⟨j,_,h2⟩:=(vf y).mp hy;exact h2.inKeys cl e8) lk
     have g1:=aU.k (k:=Sum.inr u) gM;rw[jt bL,if_pos rfl] at g1;refine⟨b,_,rfl,aG.of hb,rfl,_,_,rfl,_,_,rfl,rfl,?_⟩
     try dsimp only[zx]
     refine⟨_,rfl,_,rfl,pd,_,rfl,g1,_,rfl,q0,_,rfl,cG.k (k:=Sum.inr l) EJ (by rw[fL];exact fP (by omega)),?_⟩;rw[Iu];have q8:=q7.upd (o:=.dK (dV (c7 M l) eG)) qZ;have vg:upd H7 q0 (.dK (dV (c7 M l) eG)) q=some (.lst (os.map V.str)):=by rw[zr (Ne.symm EI)];exact jU
     have vo:upd H7 q0 (.dK (dV (c7 M l) eG)) pd=some (.dK (dV (os.take (i+1)) fun z=>V.ref (if z=u then q0 else ad z))):=by rw[zr (Ne.symm Bu)];exact gM
     have yS:∀k∈os.take i,upd H7 q0 (.dK (dV (c7 M l) eG)) (ad k)=some (.dK (dV (bD k) eG)):=fun k hk=>by rw[zr (yR k hk)];exact oq k hk
     have EM:upd H7 q0 (.dK (dV (c7 M l) eG)) q0=some (.dK (dV (c7 M l) eG)):=zb;generalize upd H7 q0 (.dK (dV (c7 M l) eG))=H8 at q8 vg vo yS EM;have g2:=aU.k (k:=Sum.inr u) vo;rw[jt bL,if_pos rfl] at g2;have g3:=aU.k (k:=Sum.inr l) vo;rw[jt (show l∈os.take (i+1) by rw[tk];exact List.mem_append_left _ hl),if_neg lu] at g3;have lp:(c7 M l).length<=64:=by
      unfold c7;split
      ·omega
      ·rw[List.length_append];show M.length+1<=64;omega
     refine⟨_,rfl,_,rfl,pd,_,rfl,g2,.inr (.inr (.inl ⟨rfl,.inl ⟨_,EM⟩⟩)),_,rfl,_,rfl,pd,_,rfl,g3,q0,ad l,_,_,rfl,rfl,Ne.symm (yR l hl),EM,.inl (yS l hl),by rw[fL,fL];omega,?_⟩;rw[Iv];refine⟨_,_,uT (c7 M l) (bD l),rfl,q8.upd qZ,by rw[zr (Ne.symm EI)];exact vg,by rw[zr (Ne.symm Bu)];exact vo,fun k hk=>by rw[zr (yR k hk)];exact yS k hk,zb,Ir (DH Mn),fun y=>?_⟩;rw[Iq,DG,Mm,vf,List.take_add_one,je];constructor
     ·rintro((⟨l',r',h1,h2⟩ | rfl) | h)
      ·exact⟨l',r',List.mem_append_left _ h1,h2⟩
      ·exact⟨y,r,List.mem_append_right _ (by simp),.inl rfl⟩
      ·exact⟨l,r,List.mem_append_right _ (by simp),.inr h⟩
     ·rintro⟨l',r',h1,h2⟩;rcases List.mem_append.mp h1 with h1 | h1
      ·exact .inl (.inl ⟨l',r',h1,h2⟩)
      ·have h1:(l',r')=(l,r):=by simpa using h1
       cases h1;rcases h2 with rfl | h2
       ·exact .inl (.inr rfl)
       ·exact .inr h2
    ·rintro σ H7 ⟨v4,v5,M,rfl,q7,jU,gM,oq,EJ,Mn,Mm⟩;have lb:(bB u).length=(ln u).length:=Paired.length (hB.e u bQ);rw[List.length_map,lb,List.take_length] at Mm;refine⟨_,_,_,fun z=>if z=u then M else bD z,fun z=>if z=u then q0 else ad z,rfl,q7,jU,gM,fun k hk=>?_,fun k hk k' dj e=>?_⟩
     ·rw[tk,List.mem_append] at hk;dsimp only
      by_cases c:k=u
      ·rw[if_pos c,if_pos c];refine⟨EJ,qZ,Bu,EI,Mn,fun y=>?_⟩;rw[Mm,c];exact jx.symm
      ·rw[if_neg c,if_neg c];have dj:k∈os.take i:=hk.elim id fun z=>absurd (by simpa using z) c
       obtain⟨_,h2⟩:=fO k dj;exact⟨oq k dj,h2⟩
     ·rw[tk,List.mem_append] at hk dj;dsimp only at e
      by_cases c1:k=u<;>by_cases c2:k'=u
      ·rw[c1,c2]
      ·rw[if_pos c1,if_neg c2] at e;exact absurd e.symm (yR k' (dj.elim id fun z=>absurd (by simpa using z) c2))
      ·rw[if_neg c1,if_pos c2] at e;exact absurd e (yR k (hk.elim id fun z=>absurd (by simpa using z) c1))
      ·rw[if_neg c1,if_neg c2] at e;exact inj k (hk.elim id fun z=>absurd (by simpa using z) c1) k' (dj.elim id fun z=>absurd (by simpa using z) c2) e
  ·rintro σ H4 ⟨v3,v4,v5,bD,ad,rfl,q4,qp,fT,fO,inj⟩;rw[List.length_map,List.take_length] at fT fO inj;refine Iz (ad:=ad) (f:=fun k=>dV (bD k) eG) os H4 (fun k hk=>(fO k hk).1) inj O.nd fun H5 obs h1 h2=>?_
   have dO:H5 pd=some (.dK (dV os fun k=>.ref (ad k))):=by rw[h2 pd fun k hk=>Ne.symm (fO k hk).2.2.1];exact fT
   have q5:ah H1 H5:=fun b o e=>by
    rw[h2 b fun k hk z=>by rw[z,(fO k hk).2.1] at e;cases e];exact q4 b o e
   refine .eB pd _ dO fun ob=>.go ⟨_,rfl,k pd ob os bD ad obs _ ((s1.trans q5).upd (s1.free cP)) (s1.free cP) ⟨zb,fun z hz=>?_⟩ pm fun z hz=>?_⟩
   ·rw[zr (fO z hz).2.2.1];exact h1 z hz
   ·exact(fO z ((pB z).mpr hz)).2.2.2.2
def UT:Sp:=fun vs H Q _=>∃(pd:Addr)(ob:Obj)(os:List Str)(bD:Str->List Str)(ad:Str->Addr)(obs:Str->Obj)(u l:Str),vs = [.ref pd,.str u,.str l]/\Dp H pd ob os bD ad obs/\u∈os/\(∀t∈bD u,t∈os)/\(bD u).length<=63/\
 ∀H',ah H H'->Q (.bl ((bD u).any fun t=>decide (l∈bD t))) H'
set_option maxHeartbeats 8000000 in
theorem KH(T:Tx K mg w zj zm zg zp):cD P w K mg base "lies_between" ["depths","upper","lower"] 1 UT:=by
 refine T.SN.has Ti (fun vs H Q E h=>?_) (fun f aR A outer s H vs Q E hr h=>?_)
 ·obtain⟨pd,ob,os,bD,ad,obs,u,l,rfl,_⟩:=h;rfl
 ·obtain⟨pd,ob,os,bD,ad,obs,u,l,rfl,hD,bL,cl,lb,k⟩:=h;have hu:=fm hr;refine⟨_,(zi (zz (fJ (P9 K rfl rfl) (by rfl) T.any PyProof.Rows.boot_any (za (ly (own:=["third"]) (cap:=["lower","depths"]) (ix:=[2,0]) (gE:=zq (top 35)) rfl ⟨rfl,by decide +kernel,by decide +kernel,by decide +kernel,by decide +kernel⟩ rfl (mj (zw hu (pv 0) (pv 1) (fun _ _=>rfl))) (fun _ _ _ _=>ig (i:=0) (show List.Nodup (["third","lower","depths"]:List Str) by decide +kernel) rfl (Or.inl rfl)) (fun _ _ _ _=>j5) (fun _ _ _ _=>(Fq (As hu (pv 1) (zw hu (pv 2) (pv 0) (fun _ _=>rfl)))))) zf)))),?_⟩;refine⟨_,rfl,_,rfl,pd,_,rfl,iY hD.d bL,ad u,obs u,_,rfl,hD.e u bL,fun D rj=>?_⟩;refine mS (AW (a:=ad u) (ob:=obs u) (kvs:=dV (bD u) eG)) (fun i aq ys H'=>∃w0,aq = [w0,some (.str l),some (.ref pd)]/\ys=(((bD u).take i).map fun t=>decide (l∈bD t)).map V.bl/\ah H H'/\H' D=some (.lst ys))
   ⟨none,rfl,by simp,ah.new rj,zb⟩ (fun i aq ys H' h=>?_) (by rw[List.length_map,fL];exact jC (by omega)) ?_ ?_
  ·obtain⟨_,_,rfl,q,hd⟩:=h;refine⟨q _ _ (hD.e u bL),hd,?_⟩;rw[List.length_map,List.length_map,List.length_take];omega
  ·rintro i v aq ys H' hx ⟨w0,rfl,rfl,q,hd⟩;have dR:=eT hx;rw[xT,List.getElem?_map] at hx;cases et:(bD u)[i]? with
   | none=>rw[et] at hx;cases hx
   | some t=>
    rw[et] at hx;cases hx;have ht:=cl t (List.mem_of_getElem? et);have D':=hD.same q
    try dsimp only[zx]
    unfold gS;dsimp only;rw[if_pos rfl];refine⟨_,rfl,_,rfl,_,rfl,pd,_,rfl,iY D'.d ht,ad t,_,rfl,DI (D'.e t ht) l,hd,jD dR ⟨_,rfl,?_,q.upd rj,zb⟩⟩;rw[List.take_add_one,et,List.map_append,List.map_append]
    congr 1
    show[V.bl (if l∈bD t then some (V.bl true) else none).isSome] = [V.bl (decide (l∈bD t))]
    by_cases c:l∈bD t
    ·rw[if_pos c,decide_eq_true c];rfl
    ·rw[if_neg c,decide_eq_false c];rfl
  rintro aq ys H1 ⟨w0,rfl,rfl,q,hd⟩;rw[List.length_map,fL,List.take_length] at hd;refine⟨D,_,rfl,ao.of hd,?_⟩;rw[List.any_map];exact k _ q
def KI:Sp:=fun vs H Q _=>∃(p pu pt:Addr)(x y:V)(us:List Str)(ai:List Addr)(ts:List av),vs = [.ref p]/\iB K H p pu pt x y us ai ts/\ts.length<=60/\cJ (aZ ts (ts.zip ai)) (zn ts (au us))/\
 ∀(D:Addr)(bs:List Addr)(qs:List SS)(H':Hp),ah H H'->H D=none->H' D=some (.lst (bs.map V.ref))->Paired (fun a(p:SS)=>H' a=some (.tup [.str p.1,.str p.2])) bs qs->qs.Pairwise (fun a b=>gy a b=true)->qs.length<64->(∀p,p∈qs↔yl (aZ ts (ts.zip ai)) (zn ts (au us)) p)->Q (.ref D) H'
set_option maxHeartbeats 8000000 in
theorem EN(T:Tx K mg w zj zm zg zp):cD P w K mg base "drawn" ["telling"] 9 (KI (K:=K)):=by
 refine T.JV.has aY (fun vs H Q E h=>?_) (fun f aR A outer s H vs Q E hr h=>?_)
 ·obtain⟨p,pu,pt,x,y,us,ai,ts,rfl,_⟩:=h;rfl
 ·obtain⟨p,pu,pt,x,y,us,ai,ts,rfl,hT,pC,nr,k⟩:=h;have hu:=fm hr;refine⟨_,(zc (sset (i:=1) aY.nd (aH (ng T) (za (pv 0) zf)))
   (zc (sset (i:=2) aY.nd (aH (EH T) (za (pv 0) zf)))
   (zc (sset (i:=3) aY.nd Gm)
   (zc (dZ PassesOwn.never rfl (mj (pv 1)) (cL (i:=4) aY.nd) (zi (dZ PassesOwn.never rfl (eF K rfl (zw hu (pv 1) (pv 4) (fun _ _=>rfl))) (mR K rfl rfl (gZ (cL (i:=5) aY.nd) (gZ (cL (i:=6) aY.nd) mO))) (zi (cR (pN (oK (aH (KH T) (za (pv 2) (za (pv 4) (za (pv 5) zf)))))) (zi (g7 hu (pv 3) (eS (za (pv 4) (za (pv 5) zf))) lP rfl)) cX)))))
   (zi (zz (fJ (Ij (K:=K) rfl rfl) (by rfl) T.sorted PyProof.Rows.boot_sorted (za (pv 3) zf)))))))),?_⟩
  refine⟨_,rfl,p,pu,pt,x,y,us,ai,ts,rfl,hT,fun ps KD aB bB H1 s1 yN hB=>?_⟩;have lk:=hT.gv;have kn:=nO (ts:=ts) hT.nd;have cl:=xV (us:=us) (ts:=ts) (ai:=ai) hT.ends;have EO:=fun(a b:Str)=>OP (ts:=ts) (ai:=ai) hT.len (x:=a) (y:=b)
  have UU:(kJ ts).length<=60:=by
   have:(kJ ts).length<=ts.length:=by unfold kJ;rw[List.length_map];exact List.length_filter_le _ _
   omega
  try dsimp only[zx]
  refine⟨_,rfl,p,pu,pt,x,y,us,ai,ts,rfl,hT.same s1,nr,fun pd ob os bD ad obs H2 s2 jz hD pm gz=>?_⟩;generalize zn ts (au us)=keys at hB lk k nr kn cl pm gz;generalize aZ ts (ts.zip ai)=ln at hB k nr cl gz EO;generalize kJ ts=UW at EO UU;have pB:∀z,z∈os↔z∈keys:=fun z=>pm.mem_iff
  have qq:∀u∈keys,∀t∈bD u,t∈keys:=fun u hu t ht=>by
   obtain⟨j,_,h⟩:=((gz u hu).2 t).mp ht;exact h.inKeys cl hu
  have UX:∀u∈keys,∀l,((bD u).any fun t=>decide (l∈bD t))=true↔∃t,eV ln u t/\eV ln t l:=fun u hu l=>by
   rw[List.any_eq_true];constructor
   ·rintro⟨t,h1,h2⟩;exact⟨t,((gz u hu).2 t).mp h1,((gz t (qq u hu t h1)).2 l).mp (of_decide_eq_true h2)⟩
   ·rintro⟨t,h1,h2⟩;have qL:=((gz u hu).2 t).mpr h1;exact⟨t,qL,decide_eq_true (((gz t (qq u hu t qL)).2 l).mpr h2)⟩
  try dsimp only[zx]
  refine fun pp tS=>?_
  have s3:=ah.new (o:=.dT []) tS;have B2:=hB.same s2;have bound:∀qs:List SS,qs.Nodup->(∀q∈qs,∃r,(q.2,r)∈ln q.1)->qs.length<=60:=fun qs n h=>by
   have:=Iw (us:=UW) n fun q hq=>(EO q.1 q.2).mpr (h q hq)
   omega
  refine⟨_,rfl,ps,KD,_,rfl,s3 _ _ B2.d,sR (fun i σ H'=>∃(v4 v5 v6:Option V)(qs:List SS),σ = [some (.ref p),some (.ref ps),some (.ref pd),some (.ref pp),v4,v5,v6]/\ah H2 H'/\H' pp=some (.dT (dP qs))/\qs.Nodup/\∀q:SS,q∈qs↔q.1∈keys.take i/\(∃r,(q.2,r)∈ln q.1)/\¬∃t,eV ln q.1 t/\eV ln t q.2)
   ⟨none,none,none,[],rfl,s3,zb,by simp,by simp⟩ (fun i σ H' _ h=>by obtain⟨_,_,_,_,_,q,_⟩:=h;exact q _ _ B2.d) ?_ ?_⟩
  ·rintro i kk vv σ H4 hx ⟨v4,v5,v6,qs,rfl,q4,jS,qn,qm⟩;obtain⟨u,bL,rfl,_⟩:=sO hx;have bQ:u∈keys:=List.mem_of_getElem? bL;have eZ:u ∉ keys.take i:=by
    have hi:=eT bL;have:=mT kn i hi;rw[show keys[i]=u from(List.getElem?_eq_some_iff.mp bL).2] at this;exact this
   have B4:=B2.same q4
   try dsimp only[zx]
   refine⟨_,rfl,_,rfl,ps,_,rfl,B4.get bQ,aB u,rfl,⟨_,ao.of (B4.l u bQ)⟩,iK (xs:=(bB u).map V.ref) (fun i' σ H'=>∃(v5 v6:Option V)(qs:List SS),σ = [some (.ref p),some (.ref ps),some (.ref pd),some (.ref pp),some (.str u),v5,v6]/\ah H2 H'/\H' pp=some (.dT (dP qs))/\qs.Nodup/\
     ∀q:SS,q∈qs↔(q.1∈keys.take i/\(∃r,(q.2,r)∈ln q.1)/\¬∃t,eV ln q.1 t/\eV ln t q.2)\/(q.1=u/\(∃r,(q.2,r)∈(ln u).take i')/\¬∃t,eV ln q.1 t/\eV ln t q.2))
    ⟨_,_,qs,rfl,q4,jS,qn,fun q=>by rw[qm];simp⟩ (fun i' σ H' _ h=>by obtain⟨_,_,_,_,q,_⟩:=h;exact ao.of ((B2.same q).l u bQ)) ?_ ?_⟩
   ·clear qn qm jS;rintro i' v σ H5 hx ⟨v5,v6,qs,rfl,q5,yE,qn,qm⟩;obtain⟨b,⟨l,r⟩,rfl,je,_,hb⟩:=mV ((B2.same q5).e u bQ) hx;have EK:(l,r)∈ln u:=List.mem_of_getElem? je;have UY:∀q∈qs,∃r,(q.2,r)∈ln q.1:=fun q hq=>by
     rcases (qm q).mp hq with ⟨_,h,_⟩ | ⟨e,⟨r,h⟩,_⟩
     ·exact h
     ·exact⟨r,by rw[e];exact List.mem_of_mem_take h⟩
    have lq:=bound qs qn UY;refine⟨b,_,rfl,aG.of hb,rfl,_,_,rfl,_,_,rfl,rfl,?_⟩
    try dsimp only[zx]
    have rm:∀q:SS,(q.1=u/\(∃r,(q.2,r)∈(ln u).take (i'+1))/\¬∃t,eV ln q.1 t/\eV ln t q.2)↔(q.1=u/\(∃r,(q.2,r)∈(ln u).take i')/\¬∃t,eV ln q.1 t/\eV ln t q.2)\/(q=(u,l)/\¬∃t,eV ln u t/\eV ln t l):=fun q=>by
     rw[List.take_add_one,je];constructor
     ·rintro⟨e,⟨r',h⟩,n⟩;rcases List.mem_append.mp h with h | h
      ·exact .inl ⟨e,⟨r',h⟩,n⟩
      ·have h:(q.2,r')=(l,r):=by simpa using h
       have h:=(Prod.mk.inj h).1;refine .inr ⟨Prod.ext e h,?_⟩;rw[←e,←h];exact n
     ·rintro(⟨e,⟨r',h⟩,n⟩ | ⟨rfl,n⟩)
      ·exact⟨e,⟨r',List.mem_append_left _ h⟩,n⟩
      ·exact⟨rfl,⟨r,List.mem_append_right _ (by simp)⟩,n⟩
    have KJ:=UX u bQ l;refine qG (!((bD u).any fun t=>decide (l∈bD t))) (fun Q' hQ=>?_) (fun H6 s6=>?_)
    ·refine⟨_,rfl,_,rfl,_,rfl,pd,ob,os,bD,ad,obs,u,l,rfl,hD.same q5,(pB u).mpr bQ,fun t ht=>(pB t).mpr (qq u bQ t ht),Nat.le_trans (lD (gz u bQ).1 (qq u bQ)) lk,fun H6 s6=>⟨_,rfl,?_⟩⟩;exact hQ _ s6
    ·have q6:=q5.trans s6;have uZ:=s6 _ _ yE;refine aT (fun c=>?_) (fun c=>?_)
     ·have nb:¬∃t,eV ln u t/\eV ln t l:=fun z=>by rw[KJ.mpr z] at c;cases c
      refine⟨_,rfl,_,rfl,_,rfl,(by show 2<=sizeLine;decide),fun b0 kU=>?_⟩;have t0:=ah.new (o:=.tup [.str u,.str l]) kU;refine⟨pp,_,rfl,cG.t (k:=[Sum.inr u,Sum.inr l]) (t0 _ _ uZ) zb (by unfold dP;rw[List.length_map];exact fP (by omega)),?_⟩;rw[Qd (p:=(u,l))];refine⟨_,_,c7 qs (u,l),rfl,(q6.trans t0).upd tS,zb,DH qn,fun q=>?_⟩;rw[DG,qm,rm];constructor
      ·rintro((h | h) | rfl)
       ·exact .inl h
       ·exact .inr (.inl h)
       ·exact .inr (.inr ⟨rfl,nb⟩)
      ·rintro(h | h | ⟨rfl,_⟩)
       ·exact .inl (.inl h)
       ·exact .inl (.inr h)
       ·exact .inr rfl
     ·have yb:∃t,eV ln u t/\eV ln t l:=KJ.mp (by simpa using c);refine⟨_,_,qs,rfl,q6,uZ,qn,fun q=>?_⟩;rw[qm,rm];constructor
      ·rintro(h | h)
       ·exact .inl h
       ·exact .inr (.inl h)
      ·rintro(h | h | ⟨_,n⟩)
       ·exact .inl h
       ·exact .inr h
       ·exact absurd yb n
   ·clear qn qm jS;rintro σ H5 ⟨v5,v6,qs,rfl,q5,yE,qn,qm⟩;have lb:(bB u).length=(ln u).length:=Paired.length (hB.e u bQ);rw[List.length_map,lb,List.take_length] at qm;refine⟨_,_,_,qs,rfl,q5,yE,qn,fun q=>?_⟩;rw[qm,List.take_add_one,bL];constructor
    ·rintro(⟨h1,h2⟩ | ⟨h1,h2⟩)
     ·exact⟨List.mem_append_left _ h1,h2⟩
     ·exact⟨List.mem_append_right _ (by rw[h1];simp),by rw[←h1] at h2;exact h2⟩
    ·rintro⟨h1,h2⟩;rcases List.mem_append.mp h1 with h1 | h1
     ·exact .inl ⟨h1,h2⟩
     ·have h1:q.1=u:=by simpa using h1
      exact .inr ⟨h1,by rw[←h1];exact h2⟩
  ·rintro σ H4 ⟨v4,v5,v6,qs,rfl,q4,jS,qn,qm⟩;rw[fL,List.take_length] at qm;have lq:=bound qs qn fun q hq=>((qm q).mp hq).2.1
   refine⟨_,rfl,pp,_,qs,rfl,.inl jS,Qc qs,qn,by omega,fun D bs rs rj pb KL up=>?_⟩;have t5:=ah.new (o:=.lst (bs.map V.ref)) rj;have q3:=s1.trans (s2.trans q4);refine k D bs rs _ (q3.trans t5) (q3.free rj) zb (Paired.cW pb fun a z e=>t5 _ _ e) up (by rw[KL.length_eq];omega) fun z=>?_
   rw[KL.mem_iff,qm];rfl
def UZ:Sp:=fun vs H Q _=>∃(e u z:Str)(pp pd:Addr)(bs:List Addr)(qs:List SS)(ob:Obj)(os:List Str)(bD:Str->List Str)(ad:Str->Addr)(obs:Str->Obj),vs = [.str e,.str u,.ref pp,.ref pd]/\H pp=some (.lst (bs.map V.ref))/\Paired (fun a(p:SS)=>H a=some (.tup [.str p.1,.str p.2])) bs qs/\qs.length<64/\Dp H pd ob os bD ad obs/\(∀q∈qs,q.2∈os)/\
 (u,z)∈qs/\(z=e\/e∈bD z)/\∀(w:Str)(H':Hp),ah H H'->(u,w)∈qs->(w=e\/e∈bD w)->Q (.str w) H'
set_option maxHeartbeats 8000000 in
theorem KN(T:Tx K mg w zj zm zg zp):cD P w K mg base "step_towards" ["end","name","pairs","depths"] 1 UZ:=by
 refine T.SO.has eK (fun vs H Q E h=>?_) (fun f aR A outer s H vs Q E hr h=>?_)
 ·obtain⟨e,u,z,pp,pd,bs,qs,ob,os,bD,ad,obs,rfl,_⟩:=h;rfl
 ·obtain⟨e,u,z,pp,pd,bs,qs,ob,os,bD,ad,obs,rfl,hp,tb,lq,hD,rY,U1,U3,k⟩:=h;have hu:=fm hr;refine⟨_,(zc (w9 (i:=4) (own:=["pair"]) (cap:=["name","end","depths"]) (ix:=[1,0,3]) (gE:=zq (top 37)) rfl eK.nd rfl rfl rfl ⟨rfl,by decide +kernel,by decide +kernel,by decide +kernel,by decide +kernel⟩ rfl (eF K rfl (pv 2)) (fun _ _ _ _=>ig (i:=0) (show List.Nodup (["pair","name","end","depths"]:List Str) by decide +kernel) rfl (Or.inl rfl)) (fun _ _ _ _=>Cy (PW.pt (pM (cE fZ (ay (zo K rfl) (pv 0) zh) (pv 1) (bW _)) (pL (PW.pt (vM (cE fZ (ay (zo K rfl) (pv 0) zh) (pv 2) (bW _)) (zZ (qA (As hu (pv 2) (zw hu (pv 3) (ay (zo K rfl) (pv 0) zh) (fun _ _=>rfl))))))))))) (fun _ _ _ _=>(ay (zo K rfl) (pv 0) zh)))
   (zi (zz (ay (dS K rfl) (pv 4) zh)))),?_⟩
  have lb:bs.length=qs.length:=Paired.length tb;refine⟨_,rfl,pp,rfl,⟨_,ao.of hp⟩,fun D rj=>?_⟩;refine mS (oR (K:=K) (a:=pp) (xs:=bs.map V.ref)) (fun i aq ys H'=>∃w0,aq = [w0,some (.str u),some (.str e),some (.ref pd)]/\ys=((qs.take i).filter fun q=>decide (q.1=u)&&(decide (q.2=e)||decide (e∈bD q.2))).map (fun q=>V.str q.2)/\ah H H'/\H' D=some (.lst ys))
   ⟨none,rfl,by simp,ah.new rj,zb⟩ (fun i aq ys H' h=>?_) (by rw[List.length_map];exact jC (by omega)) ?_ ?_
  ·obtain⟨_,_,rfl,q,hd⟩:=h;refine⟨ao.of (q _ _ hp),hd,?_⟩;rw[List.length_map];exact Nat.le_trans (List.length_filter_le _ _) (by rw[List.length_take];omega)
  ·rintro i v aq ys H' hx ⟨w0,rfl,rfl,q,hd⟩;have dR:=eT hx;obtain⟨c,⟨q1,q2⟩,rfl,hq,_,hc⟩:=mV tb hx;have oJ:=q _ _ hc;have D':=hD.same q;have ho:=rY _ (List.mem_of_getElem? hq);have no:(decide (q1=u)&&(decide (q2=e)||decide (e∈bD q2)))=false->∃yP,[some (V.ref c),some (V.str u),some (V.str e),some (V.ref pd)] = [yP,some (.str u),some (.str e),some (.ref pd)]/\((qs.take i).filter fun q=>decide (q.1=u)&&(decide (q.2=e)||decide (e∈bD q.2))).map (fun q=>V.str q.2)=((qs.take (i+1)).filter fun q=>decide (q.1=u)&&(decide (q.2=e)||decide (e∈bD q.2))).map (fun q=>V.str q.2)/\ah H H'/\H' D=some (.lst (((qs.take i).filter fun q=>decide (q.1=u)&&(decide (q.2=e)||decide (e∈bD q.2))).map (fun q=>V.str q.2))):=fun h=>by
    refine⟨_,rfl,?_,q,hd⟩;rw[List.take_add_one,hq,List.filter_append,List.map_append];have:(some (q1,q2)).toList.filter (fun q:SS=>decide (q.1=u)&&(decide (q.2=e)||decide (e∈bD q.2))) = []:=by
     show[(q1,q2)].filter _ = [];rw[List.filter_cons_of_neg (by dsimp only;rw[h];exact Bool.false_ne_true)];rfl
    rw[this,List.map_nil,List.append_nil]
   have yes:(decide (q1=u)&&(decide (q2=e)||decide (e∈bD q2)))=true->∃yP,[some (V.ref c),some (V.str u),some (V.str e),some (V.ref pd)] = [yP,some (.str u),some (.str e),some (.ref pd)]/\((qs.take i).filter fun q=>decide (q.1=u)&&(decide (q.2=e)||decide (e∈bD q.2))).map (fun q=>V.str q.2)++[V.str q2]=((qs.take (i+1)).filter fun q=>decide (q.1=u)&&(decide (q.2=e)||decide (e∈bD q.2))).map (fun q=>V.str q.2)/\ah H (upd H' D (.lst (((qs.take i).filter fun q=>decide (q.1=u)&&(decide (q.2=e)||decide (e∈bD q.2))).map (fun q=>V.str q.2)++[V.str q2])))/\upd H' D (.lst (((qs.take i).filter fun q=>decide (q.1=u)&&(decide (q.2=e)||decide (e∈bD q.2))).map (fun q=>V.str q.2)++[V.str q2])) D=some (.lst (((qs.take i).filter fun q=>decide (q.1=u)&&(decide (q.2=e)||decide (e∈bD q.2))).map (fun q=>V.str q.2)++[V.str q2])):=fun h=>by
    refine⟨_,rfl,?_,q.upd rj,zb⟩;rw[List.take_add_one,hq,List.filter_append,List.map_append];have:(some (q1,q2)).toList.filter (fun q:SS=>decide (q.1=u)&&(decide (q.2=e)||decide (e∈bD q.2))) = [(q1,q2)]:=by
     show[(q1,q2)].filter _ = [(q1,q2)];rw[List.filter_cons_of_pos (by dsimp only;exact h)];rfl
    rw[this];rfl
   try dsimp only[zx]
   refine⟨_,rfl,c,_,_,_,rfl,rfl,aG.of oJ,rfl,_,rfl,rfl,_,rfl,?_⟩;refine aT (fun c1=>?_) (fun c1=>?_)
   ·have c1:q1=u:=V.str.inj (of_decide_eq_true c1);refine⟨_,rfl,c,_,_,_,rfl,rfl,aG.of oJ,rfl,_,rfl,rfl,_,rfl,?_⟩;refine aT (fun c2=>?_) (fun c2=>?_)
    ·have c2:q2=e:=V.str.inj (of_decide_eq_true c2);exact⟨_,rfl,c,_,_,_,rfl,rfl,aG.of oJ,rfl,hd,jD dR (yes (by rw[decide_eq_true c1,decide_eq_true c2];rfl))⟩
    ·have c2:¬q2=e:=fun w=>c2 (decide_eq_true (congrArg V.str w))
     refine⟨_,rfl,_,rfl,_,rfl,c,_,_,_,rfl,rfl,aG.of oJ,rfl,pd,_,rfl,iY D'.d ho,ad q2,_,rfl,DI (D'.e q2 ho) e,_,rfl,?_⟩;refine aT (fun c3=>?_) (fun c3=>?_)
     ·have c3:e∈bD q2:=Decidable.byContradiction fun w=>by rw[if_neg w] at c3;cases c3
      exact⟨_,rfl,c,_,_,_,rfl,rfl,aG.of oJ,rfl,hd,jD dR (yes (by rw[decide_eq_true c1,decide_eq_true c3,Bool.or_true];rfl))⟩
     ·have c3:e ∉ bD q2:=fun w=>by rw[if_pos w] at c3;exact c3 rfl
      exact⟨hd,jD dR (no (by rw[decide_eq_true c1,decide_eq_false c2,decide_eq_false c3];rfl))⟩
   ·have c1:¬q1=u:=fun w=>c1 (decide_eq_true (congrArg V.str w))
    exact⟨hd,jD dR (no (by rw[decide_eq_false c1];rfl))⟩
  rintro aq ys H1 ⟨w0,rfl,rfl,q,hd⟩;rw[List.length_map,lb,List.take_length] at hd;have mem:∀w∈qs.filter (fun q=>decide (q.1=u)&&(decide (q.2=e)||decide (e∈bD q.2))),(u,w.2)∈qs/\(w.2=e\/e∈bD w.2):=fun w hw=>by
   obtain⟨h1,h2⟩:=List.mem_filter.mp hw;rw[Bool.and_eq_true,Bool.or_eq_true,decide_eq_true_iff,decide_eq_true_iff,decide_eq_true_iff] at h2;refine⟨?_,h2.2⟩;rw[←h2.1];exact h1
  have ne:qs.filter (fun q=>decide (q.1=u)&&(decide (q.2=e)||decide (e∈bD q.2)))≠[]:=by
   refine List.ne_nil_of_mem (a:=(u,z)) (List.mem_filter.mpr ⟨U1,?_⟩);rw[Bool.and_eq_true,Bool.or_eq_true,decide_eq_true_iff,decide_eq_true_iff,decide_eq_true_iff];exact⟨rfl,U3⟩
  generalize qs.filter (fun q=>decide (q.1=u)&&(decide (q.2=e)||decide (e∈bD q.2)))=fl at hd mem ne;cases fl with
  | nil=>exact absurd rfl ne
  | cons w r=>
   obtain⟨m1,m2⟩:=mem w (by simp)
   try dsimp only[zx]
   exact⟨_,rfl,D,_,_,_,rfl,rfl,ao.of hd,lB,k w.2 _ q m1 m2⟩
def KO:Sp:=fun vs H Q _=>∃(p pu pt:Addr)(x y:V)(us:List Str)(ai:List Addr)(ts:List av)(a b:Str),vs = [.ref p,.str a,.str b]/\iB K H p pu pt x y us ai ts/\ts.length<=60/\cJ (aZ ts (ts.zip ai)) (zn ts (au us))/\a∈us/\b∈us/\
 ∀(q:Addr)(ws:List Str)(H':Hp),ah H H'->H q=none->H' q=some (.lst (ws.map V.str))->ws.length<=64->(eV (aZ ts (ts.zip ai)) (aj ts a) (aj ts b)->2<=ws.length/\ws[0]? = some (aj ts a)/\ws[ws.length-1]? = some (aj ts b)/\∀(i:Nat)c d,ws[i]? = some c->ws[i+1]? = some d->yl (aZ ts (ts.zip ai)) (zn ts (au us)) (c,d))->
  (¬eV (aZ ts (ts.zip ai)) (aj ts a) (aj ts b)->ws = [])->Q (.ref q) H'
set_option maxHeartbeats 8000000 in
theorem U4(T:Tx K mg w zj zm zg zp):cD P w K mg base "walk" ["telling","upper","lower"] 10 (KO (K:=K)):=by
 refine T.JW.has bN (fun vs H Q E h=>?_) (fun f aR A outer s H vs Q E hr h=>?_)
 ·obtain⟨p,pu,pt,x,y,us,ai,ts,a,b,rfl,_⟩:=h;rfl
 ·obtain⟨p,pu,pt,x,y,us,ai,ts,a,b,rfl,hT,pC,nr,ha,hb,k⟩:=h;have hu:=fm hr;refine⟨_,(zc (sset (i:=3) bN.nd (aH (qj T) (za (ay (zo K rfl) (pv 0) zh) (za (ay (zo K rfl) (pv 0) zh) zf))))
   (zc (sset (i:=4) bN.nd (aH (EH T) (za (pv 0) zf)))
   (zc (sset (i:=5) bN.nd (zw hu (pv 3) (pv 2) (fun _ _=>rfl)))
   (zc (cR (qA (wK hu (pv 5) (zw hu (pv 4) (zw hu (pv 3) (pv 1) (fun _ _=>rfl)) (fun _ _=>rfl)))) (zi (zz (cI zf))) cX)
   (zc (sset (i:=6) bN.nd (aH (EN T) (za (pv 0) zf)))
   (zc (sset (i:=7) bN.nd (cI (za (zw hu (pv 3) (pv 1) (fun _ _=>rfl)) zf)))
   (zc (uv PassesOwn.never (cE Ah (ay (dS K rfl) (pv 7) (vU vX zh)) (pv 5) (bW _)) (zi (gA (jM K rfl PySem.F.plainAttrs_list PySem.F.slot_list_append PySem.F.type_list_append j4 (pv 7) (za (aH (KN T) (za (pv 5) (za (ay (dS K rfl) (pv 7) (vU vX zh)) (za (pv 6) (za (pv 4) zf))))) zf)))))
   (zi (zz (pv 7)))))))))),?_⟩
  have dW:=hT.ends;have lk:=hT.gv;have cl:=xV (us:=us) (ts:=ts) (ai:=ai) dW;have qt:=qI dW ha;have KP:=qI dW hb;have T0:=hT;obtain⟨hp,jT,gT,tp,nd,hl,tl,_⟩:=hT;refine⟨_,rfl,p,_,_,_,rfl,rfl,hp,rfl,_,rfl,p,_,_,_,rfl,rfl,hp,rfl,pu,pt,us,ai,ts,rfl,jT,gT,tp,nd,by omega,dW,fun pn H1 tG hn s1=>?_⟩
  try dsimp only[zx]
  refine⟨_,rfl,p,pu,pt,x,y,us,ai,ts,rfl,T0.same s1,nr,fun pd ob os bD ad obs H2 s2 jz hD pm gz=>?_⟩;have kG:=s2 _ _ hn;have gb:=aU.k (k:=Sum.inr b) kG;rw[kh hb] at gb;have ga:=aU.k (k:=Sum.inr a) kG;rw[kh ha] at ga;have pB:∀z,z∈os↔z∈zn ts (au us):=fun z=>pm.mem_iff
  have q2:=s1.trans s2
  try dsimp only[zx]
  refine⟨_,rfl,_,rfl,pn,_,rfl,gb,?_⟩
  try dsimp only[zx]
  refine iz (!decide (aj ts b∈bD (aj ts a))) (fun Q' hQ=>?_) ?_
  ·refine⟨_,rfl,_,rfl,_,rfl,_,rfl,pn,_,rfl,ga,pd,_,rfl,iY hD.d ((pB _).mpr qt),ad (aj ts a),_,rfl,DI (hD.e _ ((pB _).mpr qt)) (aj ts b),_,rfl,?_⟩
   by_cases c:aj ts b∈bD (aj ts a)
   ·rw[decide_eq_true c] at hQ;rw[if_pos c];exact hQ
   ·rw[decide_eq_false c] at hQ;rw[if_neg c];exact hQ
  have ou:=(gz _ qt).2 (aj ts b);refine aT (fun c=>?_) (fun c=>?_)
  ·have c:aj ts b ∉ bD (aj ts a):=fun w=>by rw[decide_eq_true w] at c;cases c
   refine⟨by decide,fun q hq=>?_⟩;exact k q [] _ (q2.trans (ah.new hq)) (q2.free hq) zb (by simp) (fun h=>absurd (ou.mpr h) c) fun _=>rfl
  have fB:eV (aZ ts (ts.zip ai)) (aj ts a) (aj ts b):=ou.mp (by simpa using c);unfold jY;dsimp only;refine⟨_,rfl,p,pu,pt,x,y,us,ai,ts,rfl,T0.same q2,pC,nr,fun pp bs qs H3 s3 Xn tS tb up lq dq=>?_⟩;have ER:=aU.k (k:=Sum.inr a) (s3 _ _ kG);rw[kh ha] at ER;generalize hA:aj ts a=A' at qt fB ou ga ER k;generalize hB:aj ts b=B' at KP fB ou gb k;generalize zn ts (au us)=keys at lk nr cl qt KP gz pm pB dq k;generalize aZ ts (ts.zip ai)=ln at nr cl fB ou gz dq k;have D3:=hD.same s3;have q3:=q2.trans s3
  try dsimp only[zx]
  refine⟨_,rfl,_,rfl,pn,_,rfl,ER,by show 1<=sizeLine;decide,fun q hq=>?_⟩;have s4:=ah.new (o:=.lst [.str A']) hq;refine⟨fun m σ H'=>∃(ws:List Str)(c:Str),σ = [some (.ref p),some (.str a),some (.str b),some (.ref pn),some (.ref pd),some (.str B'),some (.ref pp),some (.ref q)]/\ah H3 H'/\H' q=some (.lst (ws.map V.str))/\1<=ws.length/\ws[0]? = some A'/\ws[ws.length-1]? = some c/\Rc ln A' (ws.length-1) c/\(c=B'\/eV ln c B')/\(∀(i:Nat)d e,ws[i]? = some d->ws[i+1]? = some e->yl ln keys (d,e))/\m=keys.length-ws.length,⟨_,[A'],A',rfl,s4,zb,by simp,rfl,rfl,Rc.refl,.inr fB,fun i d e e1 e2=>by simp at e2,rfl⟩,?_⟩;rintro m σ H4 ⟨ws,c,rfl,q4,qp,w1,w0,wl,wr,wb,wd,rfl⟩;have ck:=wr.inKeys cl qt;have short:=A0 cl nr qt wr;refine⟨_,rfl,_,rfl,q,_,_,.str c,rfl,rfl,ao.of qp,IM wl,_,rfl,rfl,_,rfl,?_⟩;refine aT (fun cc=>?_) (fun cc=>?_)
  ·have cc:c≠B':=fun w=>by rw[w] at cc;simp at cc
   have cb:eV ln c B':=wb.resolve_left cc;obtain⟨z,zd,ze⟩:=QC cl nr ck cb;have D4:=D3.same q4;have zk:∀w∈qs,w.2∈os:=fun w hw=>by
    obtain⟨h1,⟨r,h2⟩,_⟩:=(dq w).mp hw;exact(pB _).mpr (cl _ h1 _ r h2)
   refine⟨fun aq H'=>∃m',m'<keys.length-ws.length/\_,fun aq H' h=>h,?_⟩;refine⟨_,rfl,.inl ⟨rfl,_,ao.of qp⟩,_,rfl,_,rfl,_,rfl,q,_,_,.str c,rfl,rfl,ao.of qp,IM wl,_,rfl,_,rfl,B',c,z,pp,pd,bs,qs,ob,os,bD,ad,obs,rfl,q4 _ _ tS,Paired.cW tb fun a p e=>q4 _ _ e,lq,D4,zk,(dq _).mpr zd,?_,fun w H5 s5 KQ U7=>?_⟩
   ·rcases ze with h | h
    ·exact .inl h
    ·obtain⟨h1,⟨r,h2⟩,_⟩:=zd;exact .inr (((gz z (cl _ h1 _ r h2)).2 B').mpr h)
   have U8:=(dq _).mp KQ;obtain⟨h1,⟨r,h2⟩,h3⟩:=U8;have h2:(w,r)∈ln c:=h2;have wk:w∈keys:=cl _ h1 _ r h2;have fj:Rc ln A' (ws.length-1+1) w:=wr.step h2;have ES:=A0 cl nr qt fj;refine⟨q,_,_,rfl,rfl,s5 _ _ qp,by rw[List.length_map];exact fP (by omega),?_⟩;have ll:(ws++[w]).length=ws.length+1:=by rw[List.length_append];rfl
   refine⟨_,?_,ws++[w],w,rfl,(q4.trans s5).upd hq,by rw[zb,List.map_append];rfl,by omega,?_,?_,?_,?_,?_,rfl⟩
   ·rw[ll];omega
   ·rw[List.getElem?_append_left (by omega)];exact w0
   ·rw[ll,Nat.add_sub_cancel,List.getElem?_append_right (Nat.le_refl _)];simp
   ·rw[ll,Nat.add_sub_cancel];rw[show ws.length-1+1=ws.length by omega] at fj;exact fj
   ·rcases U7 with h | h
    ·exact .inl h
    ·exact .inr (((gz w wk).2 B').mp h)
   ·intro i d e e1 e2;have hi:=eT e2;rw[ll] at hi;rw[List.getElem?_append_left (by omega)] at e1
    by_cases ci:i+1<ws.length
    ·rw[List.getElem?_append_left ci] at e2;exact wd i d e e1 e2
    ·have ei:i=ws.length-1:=by omega
     subst ei;rw[wl] at e1;cases e1;rw[show ws.length-1+1=ws.length by omega,List.getElem?_append_right (Nat.le_refl _)] at e2;simp at e2;subst e2;exact(dq _).mp KQ
  ·have cc:c=B':=by
    have:=cc;simp at this;exact this
   subst cc;refine⟨_,rfl,k q ws _ (q3.trans q4) (q3.free hq) qp (by omega) (fun _=>⟨?_,w0,wl,wd⟩) fun n=>absurd fB n⟩;refine Decidable.byContradiction fun n=>?_
   have e1:ws.length=1:=by omega
   rw[e1] at wl wr;have:=wr.zero;subst this;obtain⟨j,j1,h⟩:=fB;exact nr _ qt j j1 h
def U9:Sp:=fun vs H Q _=>∃(r:Addr)(t:av)(us:List Str),vs = [.ref r]/\H r=some (.tup (bg t))/\iM us t/\∀H',ah H H'->Q (.int (bT t)) H'
theorem KR(T:Tx K mg w zj zm zg zp):cD P w K mg base "gap_of" ["tie"] 1 U9:=by
 refine T.Sw.has Tf (fun vs H Q E h=>?_) (fun f aR A outer s H vs Q E hr h=>?_)
 ·obtain⟨r,t,us,rfl,_⟩:=h;rfl
 ·obtain⟨r,t,us,rfl,hr,tok,k⟩:=h;refine⟨_,(zi (zz (LQ (cE fZ (ay (zo K rfl) (pv 0) zh) eE (bW _)) (ay (zo K rfl) (pv 0) zh) zh))),?_⟩;refine⟨_,rfl,r,_,_,_,rfl,rfl,aG.of hr,xM t,rfl,_,rfl,?_⟩;refine aT (fun c=>?_) (fun c=>?_)
  ·have c:t.k=AS:=V.str.inj (of_decide_eq_true c);exact⟨_,rfl,r,_,_,_,rfl,rfl,aG.of hr,tok.after c,k _ (ah.refl _)⟩
  ·have c:¬t.k=AS:=fun z=>c (decide_eq_true (congrArg V.str z))
   have:=k _ (ah.refl H);rw[tok.plain c] at this;exact this
def Va:Sp:=fun vs H Q _=>∃(p pm pu pt pf:Addr)(lo hi:Int)(us:List Str)(ai:List Addr)(ts:List av)(af:List Addr)(fs:List bI),vs = [.ref p]/\cU K H p pm pu pt pf lo hi us ai ts af fs/\
 ∀(pd:Addr)(ob:Obj)(ad:Str->Addr)(H':Hp),ah H H'->H pd=none->Fw H' pd ob (zn ts (au us)) (dH ts (fs.zip af)) ad->Q (.ref pd) H'
set_option maxHeartbeats 8000000 in
theorem KS(T:Tx K mg w zj zm zg zp):cD P w K mg base "finds_within" ["telling"] 4 (Va (K:=K)):=by
 refine T.Sx.has bz (fun vs H Q E h=>?_) (fun f aR A outer s H vs Q E hr h=>?_)
 ·obtain⟨p,pm,pu,pt,pf,lo,hi,us,ai,ts,af,fs,rfl,_⟩:=h;rfl
 ·obtain⟨p,pm,pu,pt,pf,lo,hi,us,ai,ts,af,fs,rfl,hF,k⟩:=h;have hu:=fm hr;refine⟨_,(zc (sset (i:=1) bz.nd (aH (qj T) (za (ay (zo K rfl) (pv 0) zh) (za (ay (zo K rfl) (pv 0) zh) zf))))
   (zc (sset (i:=2) bz.nd jm)
   (zc (dZ PassesOwn.never rfl (eF K rfl (aH (Ke T) (za (ay (zo K rfl) (pv 0) zh) (za (ay (zo K rfl) (pv 0) zh) zf)))) (cL (i:=3) bz.nd) (zi (g7 hu (pv 2) (ay (dS K rfl) (pv 3) zh) (cI zf) rfl)))
   (zc (dZ PassesOwn.never rfl (eF K rfl (ay (zo K rfl) (pv 0) zh)) (cL (i:=4) bz.nd) (zi (gA (jM K rfl PySem.F.plainAttrs_list PySem.F.slot_list_append PySem.F.type_list_append j4 (zw hu (pv 2) (zw hu (pv 1) (ay (zo K rfl) (pv 4) zh) (fun _ _=>rfl)) (fun _ _=>rfl)) (za (pv 4) zf)))))
   (zi (qM (zz (pv 2)))))))),?_⟩
  have dW:=hF.cz.ends;have Xo:=hF.mw;have yT:=hF.fl;have Vb:=hF.fu;have KU:=hF.f;have tT:=hF.ft;obtain⟨hp,jT,gT,tp,nd,hl,tl,_⟩:=hF.cz;have hlen:ai.length=ts.length:=by have:=tp.len;rw[List.length_map] at this;exact this
  refine⟨_,rfl,p,_,_,_,rfl,rfl,hp,rfl,_,rfl,p,_,_,_,rfl,rfl,hp,rfl,pu,pt,us,ai,ts,rfl,jT,gT,tp,nd,by omega,dW,fun pn H1 tG hn s1=>?_⟩
  try dsimp only[zx]
  refine fun pd cP=>?_
  have s2:=ah.new (o:=.dK []) cP;have q2:=s1.trans s2;refine⟨_,rfl,p,_,_,_,rfl,rfl,q2.tup hp,rfl,_,rfl,p,_,_,_,rfl,rfl,q2.tup hp,rfl,pu,pt,us,ai,ts,rfl,q2.seq jT,q2.seq gT,tp.same q2,nd,hl,dW,fun po as H3 tK Ur yK Eu mG yL s3=>?_⟩;have o8:=s3 _ _ (s2 _ _ hn);have cQ:=s3 _ _ (zb (H:=H1) (a:=pd) (o:=.dK []));have q3:=q2.trans s3;have jz:H pd=none:=s1.free cP;have Bm:pn≠pd:=zv hn cP;have lk:as.length=(zn ts (au us)).length:=by have:=Paired.length yL;unfold mU at this;rw[List.length_map] at this;exact this
  have tM:(zn ts (au us)).length<=63:=by
   have:=Dh (us:=us) (ts:=ts) nd;unfold mU at this;rw[List.length_map] at this;omega
  have hz:∀{i:Nat}{f:bI}{r:Addr},fs[i]? = some f->af[i]? = some r->(fs.zip af)[i]? = some (f,r):=fun h1 h2=>List.getElem?_zip_eq_some.mpr ⟨h1,h2⟩
  generalize ek:zn ts (au us)=keys at lk tM k;have knd:keys.Nodup:=ek▸nO nd;have Ew:mU us ts=keys.map (jE ts (au us)):=by unfold mU;rw[ek]
  refine⟨po,rfl,⟨_,ao.of mG⟩,iK (xs:=as.map V.ref) (fun i σ H'=>∃(v3:Option V)(ad:Str->Addr),σ = [some (.ref p),some (.ref pn),some (.ref pd),v3,none]/\(∀b o,b≠pd->H3 b=some o->H' b=some o)/\
   H' pd=some (.dK (dV (keys.take i) fun k=>.ref (ad k)))/\(∀k∈keys.take i,H' (ad k)=some (.lst [])/\H3 (ad k)=none)/\(∀k∈keys.take i,∀k'∈keys.take i,ad k=ad k'->k=k'))
   ⟨none,fun _=>0,rfl,fun b o _ e=>e,cQ,(fun k hk=>by simp at hk),fun k hk=>by simp at hk⟩ (fun i σ H' _ h=>by obtain⟨_,_,_,q,_⟩:=h;exact ao.of (q _ _ (jW mG cQ (by simp)) mG)) ?_ ?_⟩
  ·rintro i v σ H4 hx ⟨v3,ad,rfl,kp,fT,fO,inj⟩;obtain⟨r,g,rfl,hg,u9,hr⟩:=mV yL hx;rw[Ew,List.getElem?_map] at hg;cases eu:keys[i]? with
   | none=>rw[eu] at hg;cases hg
   | some u=>
    rw[eu] at hg;cases hg;have bL:u∈keys:=List.mem_of_getElem? eu;have hi:=eT eu;have eZ:u ∉ keys.take i:=by
     have:=mT knd i hi;rw[show keys[i]=u from(List.getElem?_eq_some_iff.mp eu).2] at this;exact this
    obtain⟨gr,Ex⟩:=Hy (us:=us) (ts:=ts) nd (k:=u) (ek▸bL);rw[Ex] at hr;have tN:=kp _ _ (jW hr cQ (by simp)) hr
    try dsimp only[zx]
    refine⟨by decide,fun q0 aE=>?_⟩;have t0:=ah.new (o:=.lst []) aE;have dO:=t0 _ _ fT;have nq:pd≠q0:=zv fT aE;refine⟨_,rfl,_,rfl,r,_,_,_,rfl,rfl,ao.of (t0 _ _ tN),lB,pd,_,rfl,cG.k (k:=Sum.inr u) dO (by rw[fL,List.length_take];exact fP (by omega)),?_⟩;have fq:H3 q0=none:=by
     cases e:H3 q0 with
     | none=>rfl
     | some o=>rw[kp _ _ (Ne.symm nq) e] at aE;cases aE
    refine⟨_,fun z=>if z=u then q0 else ad z,rfl,fun b o n e=>by rw[zr n];exact t0 _ _ (kp b o n e),?_,?_,?_⟩
    ·rw[zb,oV eZ,List.take_add_one,eu]
     congr 2
     refine l9 fun z hz=>?_
     dsimp only
     by_cases e:z=u
     ·rw[if_pos e,if_pos e]
     ·rw[if_neg e,if_neg e]
    ·intro k hk;rw[List.take_add_one,eu,List.mem_append] at hk;dsimp only
     by_cases e:k=u
     ·rw[if_pos e];exact⟨by rw[zr (Ne.symm nq),zb],fq⟩
     ·rw[if_neg e];have dj:k∈keys.take i:=hk.elim id fun z=>absurd (by simpa using z) e
      obtain⟨h1,h2⟩:=fO k dj;refine⟨?_,h2⟩;rw[zr (fun z=>by rw[z,fT] at h1;cases h1)];exact t0 _ _ h1
    ·intro k hk k' dj e;rw[List.take_add_one,eu,List.mem_append] at hk dj;dsimp only at e
     by_cases c1:k=u<;>by_cases c2:k'=u
     ·rw[c1,c2]
     ·rw[if_pos c1,if_neg c2] at e;have h2:=(fO k' (dj.elim id fun z=>absurd (by simpa using z) c2)).1;rw[←e,aE] at h2;cases h2
     ·rw[if_neg c1,if_pos c2] at e;have h2:=(fO k (hk.elim id fun z=>absurd (by simpa using z) c1)).1;rw[e,aE] at h2;cases h2
     ·rw[if_neg c1,if_neg c2] at e;exact inj k (hk.elim id fun z=>absurd (by simpa using z) c1) k' (dj.elim id fun z=>absurd (by simpa using z) c2) e
  ·rintro σ H4 ⟨v3,ad,rfl,kp,fT,fO,inj⟩;rw[List.length_map,lk,List.take_length] at fT fO inj;have qk:∀{H':Hp},(∀b o,b≠pd->H3 b=some o->H' b=some o)->ah H H':=fun xm b o e=>xm b o (zv e jz) (q3 _ _ e)
   have q4:=qk kp;refine⟨_,rfl,p,_,_,_,rfl,rfl,q4.tup hp,rfl,pf,rfl,⟨_,q4.seq KU⟩,iK (xs:=af.map V.ref) (fun i σ H'=>∃(v4:Option V),σ = [some (.ref p),some (.ref pn),some (.ref pd),v3,v4]/\(∀b o,b≠pd->H3 b=some o->H' b=some o)/\
    H' pd=some (.dK (dV keys fun k=>.ref (ad k)))/\∀k∈keys,H' (ad k)=some (.lst ((dH ts ((fs.zip af).take i) k).map fun p=>V.ref p.2)))
    ⟨none,rfl,kp,fT,fun k hk=>by rw[List.take_zero];exact(fO k hk).1⟩ (fun i σ H' _ h=>by obtain⟨_,_,q,_⟩:=h;exact(qk q).seq KU) ?_ ?_⟩
   ·rintro i x σ H5 hx ⟨v4,rfl,gX,dO,i7⟩;obtain⟨r,f,rfl,hf,u9,hr⟩:=xJ tT hx;have q5:=qk gX;have o9:=q5 _ _ hr;have fB:=Vb f (List.mem_of_getElem? hf);have hit:=eT hf;have Bo:=hz hf u9;have g1:=aU.k (k:=Sum.inr f.u) (gX _ _ Bm o8);rw[kh fB] at g1;have ql:aj ts f.u∈keys:=ek▸qI dW fB;have g3:=aU.k (k:=Sum.inr (aj ts f.u)) dO;rw[jt ql] at g3;have jy:=i7 _ ql;have lb:(dH ts ((fs.zip af).take i) (aj ts f.u)).length<=60:=by
     have h2:=Dv (ts:=ts) (z:=(fs.zip af).take i) (k:=aj ts f.u);rw[List.length_take,List.length_zip] at h2;omega
    try dsimp only[zx]
    refine⟨_,rfl,_,rfl,_,rfl,r,_,_,_,rfl,rfl,aG.of o9,HV f,pn,_,rfl,g1,pd,_,rfl,g3,?_⟩;refine⟨.inl ⟨rfl,_,ao.of jy⟩,_,rfl,ad (aj ts f.u),_,_,rfl,rfl,jy,by rw[List.length_map];exact fP (by omega),?_⟩;refine⟨_,rfl,fun b o n e=>?_,?_,fun k hk=>?_⟩
    ·rw[zr (fun z=>by rw[z,(fO _ ql).2] at e;cases e)];exact gX b o n e
    ·rw[zr (fun z=>by rw[←z,dO] at jy;cases jy)];exact dO
    ·rw[Px Bo]
     by_cases e:aj ts f.u=k
     ·subst e;rw[if_pos rfl,zb,List.map_append];rfl
     ·rw[if_neg e,List.append_nil,zr (fun z=>e (inj _ ql _ hk z.symm))];exact i7 k hk
   ·rintro σ H5 ⟨v4,rfl,gX,dO,i7⟩;rw[List.length_map] at i7;have ez:(fs.zip af).take af.length=fs.zip af:=List.take_of_length_le (by rw[List.length_zip];omega);rw[ez] at i7;refine .inr ⟨pd,_,dO,fun ob=>⟨_,rfl,k pd ob ad _ ?_ jz ⟨zb,fun k hk=>?_⟩⟩⟩
    ·exact(qk gX).upd jz
    ·have b1:=i7 k hk;rw[zr (fun z=>by rw[z,dO] at b1;cases b1)];exact b1
def Vc:Sp:=fun vs H Q _=>∃(p pm pu pt pf:Addr)(lo hi:Int)(us:List Str)(ai:List Addr)(ts:List av)(af:List Addr)(fs:List bI),vs = [.ref p]/\cU K H p pm pu pt pf lo hi us ai ts af fs/\
 ∀(pd:Addr)(ob:Obj)(v:Str->IS)(ad:Str->Addr)(H':Hp),ah H H'->H pd=none->Bd H' pd ob (zn ts (au us)) v ad->(∀k∈zn ts (au us),nS (qO lo (dH ts (fs.zip af) k)) (v k))->Q (.ref pd) H'
set_option maxHeartbeats 8000000 in
theorem KW(T:Tx K mg w zj zm zg zp):cD P w K mg base "floors" ["telling"] 5 (Vc (K:=K)):=by
 refine T.Sy.has fF (fun vs H Q E h=>?_) (fun f aR A outer s H vs Q E hr h=>?_)
 ·obtain⟨p,pm,pu,pt,pf,lo,hi,us,ai,ts,af,fs,rfl,_⟩:=h;rfl
 ·obtain⟨p,pm,pu,pt,pf,lo,hi,us,ai,ts,af,fs,rfl,hF,k⟩:=h;have hu:=fm hr;refine⟨_,(zc (sset (i:=1) fF.nd (aH (KS T) (za (pv 0) zf)))
   (zc (sset (i:=2) fF.nd jm)
   (zc (dZ PassesOwn.never rfl (mj (pv 1)) (cL (i:=3) fF.nd) (zi (g7 hu (pv 2) (pv 3) (fJ (Pp (K:=K) rfl rfl hu) (by rfl) T.max PyProof.Rows.boot_max (za (c9 sq (cI (za (eS (za (ay (zo K rfl) (ay (zo K rfl) (pv 0) zh) zh) (za eE zf))) zf)) (ly (own:=["find"]) (cap:=[]) (ix:=[]) (gE:=zq (top 20)) rfl ⟨rfl,by decide +kernel,by decide +kernel,by decide +kernel,by decide +kernel⟩ rfl (eF K rfl (zw hu (pv 1) (pv 3) (fun _ _=>rfl))) (fun _ _ _ _=>ig (i:=0) (show List.Nodup (["find"]:List Str) by decide +kernel) rfl (Or.inl rfl)) (fun _ _ _ _=>j5) (fun _ _ _ _=>(eS (za (ay (zo K rfl) (pv 0) zh) (za (ay (zo K rfl) (pv 0) zh) zf)))))) zf)) rfl)))
   (zi (qM (zz (pv 2))))))),?_⟩
  have nd:=hF.cz.nd;have lk:=hF.cz.gv;have yT:=hF.fl;have tT:=hF.ft;refine⟨_,rfl,p,pm,pu,pt,pf,lo,hi,us,ai,ts,af,fs,rfl,hF,fun pw ow aw H1 s1 Vd hW=>?_⟩;have knd:=nO (ts:=ts) nd;have yU:∀k,(dH ts (fs.zip af) k).length<=60:=fun k=>by
   have h2:=Dv (ts:=ts) (z:=fs.zip af) (k:=k);rw[List.length_zip] at h2;omega
  have yV:∀k,∀q∈dH ts (fs.zip af) k,H q.2=some (.tup (dU q.1)):=fun k q hq=>by
   have:=(List.mem_filter.mp hq).1;obtain⟨i,hi⟩:=List.mem_iff_getElem?.mp this;obtain⟨h1,h2⟩:=List.getElem?_zip_eq_some.mp hi;exact oZ tT h2 (by rw[List.getElem?_map,h1];rfl)
  generalize zn ts (au us)=keys at hW lk k knd;generalize dH ts (fs.zip af)=fw at hW k yU yV
  try dsimp only[zx]
  refine fun pd cP=>?_
  have s2:=ah.new (o:=.dK []) cP;refine⟨_,rfl,pw,ow,_,rfl,s2 _ _ hW.d,sR (fun i σ H'=>∃(v3:Option V)(v:Str->IS)(ad:Str->Addr),σ = [some (.ref p),some (.ref pw),some (.ref pd),v3]/\ah H1 H'/\H' pd=some (.dK (dV (keys.take i) fun k=>.ref (ad k)))/\
    ∀k∈keys.take i,H' (ad k)=some (.tup [.int (v k).1,.str (v k).2])/\nS (qO lo (fw k)) (v k))
   ⟨none,fun _=>(0,""),fun _=>0,rfl,s2,zb,fun k hk=>by simp at hk⟩ (fun i σ H' _ h=>by obtain⟨_,_,_,_,q,_⟩:=h;exact q _ _ hW.d) ?_ ?_⟩
  ·rintro i kk vv σ H3 hx ⟨v3,v,ad,rfl,q3,cQ,iO⟩;obtain⟨u,bL,rfl,_⟩:=sO hx;have bQ:u∈keys:=List.mem_of_getElem? bL;have F3:=hF.same (s1.trans q3);have W3:=hW.same q3
   try dsimp only[zx]
   refine⟨_,rfl,p,_,_,_,rfl,rfl,F3.cz.p,rfl,pm,_,_,_,rfl,rfl,F3.m,rfl,(by show 2<=sizeLine;decide),fun b0 kU=>?_⟩;have t1:=ah.new (o:=.tup [.int lo,.str ""]) kU;refine⟨by show 1<=sizeLine;decide,fun l0 nh=>?_⟩;have t2:=ah.new (o:=.lst [.ref b0]) nh;have q5:=q3.trans (t1.trans t2);have i7:=t2 _ _ (zb (H:=H3) (a:=b0) (o:=.tup [.int lo,.str ""]));have yW:upd (upd H3 b0 (.tup [.int lo,.str ""])) l0 (.lst [.ref b0]) l0=some (.lst [.ref b0]):=zb;have yX:=t1.trans t2;generalize upd (upd H3 b0 (.tup [.int lo,.str ""])) l0 (.lst [.ref b0])=H5 at q5 i7 yW t2 yX;have W5:=hW.same q5;have lL:=yU u;have tL:=yV u;have tU:=W5.l u bQ;generalize eL:fw u=L at lL tL tU;refine⟨_,rfl,_,rfl,pw,_,rfl,iY W5.d bQ,aw u,rfl,⟨_,ao.of tU⟩,fun D hD=>?_⟩;refine mS (oR (K:=K) (a:=aw u) (xs:=L.map fun p=>V.ref p.2)) (fun i' aq ys H'=>∃(w0:Option V)(bs:List Addr),aq = [w0]/\ys=bs.map V.ref/\Paired (fun a(p:IS)=>H' a=some (.tup [.int p.1,.str p.2])) bs ((L.take i').map fun p=>(p.1.lo,p.1.n))/\ah H5 H'/\H' D=some (.lst ys))
    ⟨none,[],rfl,rfl,.nil,ah.new hD,zb⟩ (fun i' aq ys H' h=>?_) (by rw[List.length_map];exact jC (by omega)) ?_ ?_
   ·obtain⟨_,bs,_,rfl,pb,q,hd⟩:=h;refine⟨ao.of (q _ _ tU),hd,?_⟩;have:=Paired.length pb;rw[List.length_map,List.length_take] at this;rw[List.length_map];omega
   ·rintro i' v' aq ys H' hx ⟨w0,bs,rfl,rfl,pb,q,hd⟩;have dR:=eT hx;rw[List.getElem?_map] at hx;cases ef:L[i']? with
    | none=>rw[ef] at hx;cases hx
    | some f=>
     rw[ef] at hx;cases hx;have hf:=q _ _ (q5 _ _ (s1 _ _ (tL f (List.mem_of_getElem? ef))))
     try dsimp only[zx]
     unfold gS;dsimp only;rw[if_pos rfl];refine⟨_,rfl,f.2,_,_,_,rfl,rfl,aG.of hf,Du f.1,_,rfl,f.2,_,_,_,rfl,rfl,aG.of hf,Ds f.1,(by show 2<=sizeLine;decide),fun b1 jy=>?_⟩;have w1:=ah.new (o:=.tup [.int f.1.lo,.str f.1.n]) jy;have iD:=w1 _ _ hd;refine⟨iD,jD dR ⟨_,bs++[b1],rfl,by rw[List.map_append];rfl,?_,(q.trans w1).upd hD,zb⟩⟩;rw[List.take_add_one,ef,List.map_append];exact Paired.snoc (Paired.cW pb fun a z e=>kg iD _ _ (w1 _ _ e)) (kg iD _ _ zb)
   rintro aq ys H6 ⟨w0,bs,rfl,rfl,pb,t6,fQ⟩;rw[List.length_map,List.take_length] at pb;have lb:=Paired.length pb;rw[List.length_map] at lb;have ET:=t6 _ _ yW;refine⟨l0,D,_,_,rfl,rfl,ET,fQ,by rw[List.length_map];exact jC (show 1+_<=1000 by omega),fun l hl=>?_⟩;have t7:=ah.new (o:=.lst ([V.ref b0]++bs.map V.ref)) hl;have pr:Paired (fun a(p:IS)=>H6 a=some (.tup [.int p.1,.str p.2])) (b0::bs) (qO lo L):=.cons (t6 _ _ i7) pb;have yY:=Paired.cW pr fun a z e=>t7 _ _ e
   refine⟨l,b0::bs,qO lo L,rfl,ao.of zb,Paired.cW yY fun a z e=>aG.of e,by unfold qO;simp,fun j a m ha hm tV=>?_⟩;have Bb:=oZ yY ha hm;have q7:=q5.trans (t6.trans t7);have yZ:=yX.trans (t6.trans t7);have gM:=yZ _ _ cQ;have eZ:u ∉ keys.take i:=by
    have hi:=eT bL;have:=mT knd i hi;rw[show keys[i]=u from(List.getElem?_eq_some_iff.mp bL).2] at this;exact this
   refine⟨_,rfl,_,rfl,pd,_,rfl,cG.k (k:=Sum.inr u) gM (by rw[fL,List.length_take];exact fP (by omega)),?_⟩;have qX:∀b vs,upd H6 l (.lst ([V.ref b0]++bs.map V.ref)) b=some (.tup vs)->upd (upd H6 l (.lst ([V.ref b0]++bs.map V.ref))) pd (.dK (putK (dV (keys.take i) fun k=>.ref (ad k)) (Sum.inr u) (.ref a))) b=some (.tup vs):=fun b vs e=>by
    rw[zr (jW e gM (by intro z;cases z))];exact e
   refine⟨_,fun z=>if z=u then m else v z,fun z=>if z=u then a else ad z,rfl,q7.upd cP,?_,fun k hk=>?_⟩
   ·rw[zb,oV eZ,List.take_add_one,bL]
    congr 2
    refine l9 fun z hz=>?_
    try dsimp only
    by_cases e:z=u
    ·rw[if_pos e,if_pos e]
    ·rw[if_neg e,if_neg e]
   ·rw[List.take_add_one,bL,List.mem_append] at hk
    try dsimp only
    by_cases e:k=u
    ·rw[if_pos e,if_pos e];refine⟨qX _ _ Bb,?_⟩;rw[e,eL];exact⟨List.mem_of_getElem? hm,tV⟩
    ·rw[if_neg e,if_neg e];obtain⟨h1,h2⟩:=iO k (hk.elim id fun z=>absurd (by simpa using z) e);exact⟨qX _ _ (yZ _ _ h1),h2⟩
  ·rintro σ H3 ⟨v3,v,ad,rfl,q3,cQ,iO⟩;rw[fL,List.take_length] at cQ iO;refine .inr ⟨pd,_,cQ,fun ob=>⟨_,rfl,k pd ob v ad _ ((s1.trans q3).upd (s1.free cP)) (s1.free cP) ⟨zb,fun k hk=>?_⟩ fun k hk=>(iO k hk).2⟩⟩;have b1:=(iO k hk).1;rw[zr (fun z=>by rw[z,cQ] at b1;cases b1)];exact b1
def Ve:Sp:=fun vs H Q _=>∃(p pm pu pt pf:Addr)(lo hi:Int)(us:List Str)(ai:List Addr)(ts:List av)(af:List Addr)(fs:List bI),vs = [.ref p]/\cU K H p pm pu pt pf lo hi us ai ts af fs/\
 ∀(pd:Addr)(ob:Obj)(v:Str->IS)(ad:Str->Addr)(H':Hp),ah H H'->H pd=none->Bd H' pd ob (zn ts (au us)) v ad->(∀k∈zn ts (au us),nU (qP hi (dH ts (fs.zip af) k)) (v k))->Q (.ref pd) H'
set_option maxHeartbeats 8000000 in
theorem KY(T:Tx K mg w zj zm zg zp):cD P w K mg base "ceilings" ["telling"] 5 (Ve (K:=K)):=by
 refine T.Sz.has dw (fun vs H Q E h=>?_) (fun f aR A outer s H vs Q E hr h=>?_)
 ·obtain⟨p,pm,pu,pt,pf,lo,hi,us,ai,ts,af,fs,rfl,_⟩:=h;rfl
 ·obtain⟨p,pm,pu,pt,pf,lo,hi,us,ai,ts,af,fs,rfl,hF,k⟩:=h;have hu:=fm hr;refine⟨_,(zc (sset (i:=1) dw.nd (aH (KS T) (za (pv 0) zf)))
   (zc (sset (i:=2) dw.nd jm)
   (zc (dZ PassesOwn.never rfl (mj (pv 1)) (cL (i:=3) dw.nd) (zi (g7 hu (pv 2) (pv 3) (fJ (Pw (K:=K) rfl rfl hu) (by rfl) T.min PyProof.Rows.boot_min (za (c9 sq (cI (za (eS (za (ay (zo K rfl) (ay (zo K rfl) (pv 0) zh) zh) (za eE zf))) zf)) (ly (own:=["find"]) (cap:=[]) (ix:=[]) (gE:=zq (top 21)) rfl ⟨rfl,by decide +kernel,by decide +kernel,by decide +kernel,by decide +kernel⟩ rfl (eF K rfl (zw hu (pv 1) (pv 3) (fun _ _=>rfl))) (fun _ _ _ _=>ig (i:=0) (show List.Nodup (["find"]:List Str) by decide +kernel) rfl (Or.inl rfl)) (fun _ _ _ _=>j5) (fun _ _ _ _=>(eS (za (ay (zo K rfl) (pv 0) zh) (za (ay (zo K rfl) (pv 0) zh) zf)))))) zf)) rfl)))
   (zi (qM (zz (pv 2))))))),?_⟩
  have nd:=hF.cz.nd;have lk:=hF.cz.gv;have yT:=hF.fl;have tT:=hF.ft;refine⟨_,rfl,p,pm,pu,pt,pf,lo,hi,us,ai,ts,af,fs,rfl,hF,fun pw ow aw H1 s1 Vd hW=>?_⟩;have knd:=nO (ts:=ts) nd;have yU:∀k,(dH ts (fs.zip af) k).length<=60:=fun k=>by
   have h2:=Dv (ts:=ts) (z:=fs.zip af) (k:=k);rw[List.length_zip] at h2;omega
  have yV:∀k,∀q∈dH ts (fs.zip af) k,H q.2=some (.tup (dU q.1)):=fun k q hq=>by
   have:=(List.mem_filter.mp hq).1;obtain⟨i,hi⟩:=List.mem_iff_getElem?.mp this;obtain⟨h1,h2⟩:=List.getElem?_zip_eq_some.mp hi;exact oZ tT h2 (by rw[List.getElem?_map,h1];rfl)
  generalize zn ts (au us)=keys at hW lk k knd;generalize dH ts (fs.zip af)=fw at hW k yU yV
  try dsimp only[zx]
  refine fun pd cP=>?_
  have s2:=ah.new (o:=.dK []) cP;refine⟨_,rfl,pw,ow,_,rfl,s2 _ _ hW.d,sR (fun i σ H'=>∃(v3:Option V)(v:Str->IS)(ad:Str->Addr),σ = [some (.ref p),some (.ref pw),some (.ref pd),v3]/\ah H1 H'/\H' pd=some (.dK (dV (keys.take i) fun k=>.ref (ad k)))/\
    ∀k∈keys.take i,H' (ad k)=some (.tup [.int (v k).1,.str (v k).2])/\nU (qP hi (fw k)) (v k))
   ⟨none,fun _=>(0,""),fun _=>0,rfl,s2,zb,fun k hk=>by simp at hk⟩ (fun i σ H' _ h=>by obtain⟨_,_,_,_,q,_⟩:=h;exact q _ _ hW.d) ?_ ?_⟩
  ·rintro i kk vv σ H3 hx ⟨v3,v,ad,rfl,q3,cQ,iO⟩;obtain⟨u,bL,rfl,_⟩:=sO hx;have bQ:u∈keys:=List.mem_of_getElem? bL;have F3:=hF.same (s1.trans q3);have W3:=hW.same q3
   try dsimp only[zx]
   refine⟨_,rfl,p,_,_,_,rfl,rfl,F3.cz.p,rfl,pm,_,_,_,rfl,rfl,F3.m,rfl,(by show 2<=sizeLine;decide),fun b0 kU=>?_⟩;have t1:=ah.new (o:=.tup [.int hi,.str ""]) kU;refine⟨by show 1<=sizeLine;decide,fun l0 nh=>?_⟩;have t2:=ah.new (o:=.lst [.ref b0]) nh;have q5:=q3.trans (t1.trans t2);have i7:=t2 _ _ (zb (H:=H3) (a:=b0) (o:=.tup [.int hi,.str ""]));have yW:upd (upd H3 b0 (.tup [.int hi,.str ""])) l0 (.lst [.ref b0]) l0=some (.lst [.ref b0]):=zb;have yX:=t1.trans t2;generalize upd (upd H3 b0 (.tup [.int hi,.str ""])) l0 (.lst [.ref b0])=H5 at q5 i7 yW t2 yX;have W5:=hW.same q5;have lL:=yU u;have tL:=yV u;have tU:=W5.l u bQ;generalize eL:fw u=L at lL tL tU;refine⟨_,rfl,_,rfl,pw,_,rfl,iY W5.d bQ,aw u,rfl,⟨_,ao.of tU⟩,fun D hD=>?_⟩;refine mS (oR (K:=K) (a:=aw u) (xs:=L.map fun p=>V.ref p.2)) (fun i' aq ys H'=>∃(w0:Option V)(bs:List Addr),aq = [w0]/\ys=bs.map V.ref/\Paired (fun a(p:IS)=>H' a=some (.tup [.int p.1,.str p.2])) bs ((L.take i').map fun p=>(p.1.hi,p.1.n))/\ah H5 H'/\H' D=some (.lst ys))
    ⟨none,[],rfl,rfl,.nil,ah.new hD,zb⟩ (fun i' aq ys H' h=>?_) (by rw[List.length_map];exact jC (by omega)) ?_ ?_
   ·obtain⟨_,bs,_,rfl,pb,q,hd⟩:=h;refine⟨ao.of (q _ _ tU),hd,?_⟩;have:=Paired.length pb;rw[List.length_map,List.length_take] at this;rw[List.length_map];omega
   ·rintro i' v' aq ys H' hx ⟨w0,bs,rfl,rfl,pb,q,hd⟩;have dR:=eT hx;rw[List.getElem?_map] at hx;cases ef:L[i']? with
    | none=>rw[ef] at hx;cases hx
    | some f=>
     rw[ef] at hx;cases hx;have hf:=q _ _ (q5 _ _ (s1 _ _ (tL f (List.mem_of_getElem? ef))))
     try dsimp only[zx]
     unfold gS;dsimp only;rw[if_pos rfl];refine⟨_,rfl,f.2,_,_,_,rfl,rfl,aG.of hf,HW f.1,_,rfl,f.2,_,_,_,rfl,rfl,aG.of hf,Ds f.1,(by show 2<=sizeLine;decide),fun b1 jy=>?_⟩;have w1:=ah.new (o:=.tup [.int f.1.hi,.str f.1.n]) jy;have iD:=w1 _ _ hd;refine⟨iD,jD dR ⟨_,bs++[b1],rfl,by rw[List.map_append];rfl,?_,(q.trans w1).upd hD,zb⟩⟩;rw[List.take_add_one,ef,List.map_append];exact Paired.snoc (Paired.cW pb fun a z e=>kg iD _ _ (w1 _ _ e)) (kg iD _ _ zb)
   rintro aq ys H6 ⟨w0,bs,rfl,rfl,pb,t6,fQ⟩;rw[List.length_map,List.take_length] at pb;have lb:=Paired.length pb;rw[List.length_map] at lb;have ET:=t6 _ _ yW;refine⟨l0,D,_,_,rfl,rfl,ET,fQ,by rw[List.length_map];exact jC (show 1+_<=1000 by omega),fun l hl=>?_⟩;have t7:=ah.new (o:=.lst ([V.ref b0]++bs.map V.ref)) hl;have pr:Paired (fun a(p:IS)=>H6 a=some (.tup [.int p.1,.str p.2])) (b0::bs) (qP hi L):=.cons (t6 _ _ i7) pb;have yY:=Paired.cW pr fun a z e=>t7 _ _ e
   refine⟨l,b0::bs,qP hi L,rfl,ao.of zb,Paired.cW yY fun a z e=>aG.of e,by unfold qP;simp,fun j a m ha hm tV=>?_⟩;have Bb:=oZ yY ha hm;have q7:=q5.trans (t6.trans t7);have yZ:=yX.trans (t6.trans t7);have gM:=yZ _ _ cQ;have eZ:u ∉ keys.take i:=by
    have hi:=eT bL;have:=mT knd i hi;rw[show keys[i]=u from(List.getElem?_eq_some_iff.mp bL).2] at this;exact this
   refine⟨_,rfl,_,rfl,pd,_,rfl,cG.k (k:=Sum.inr u) gM (by rw[fL,List.length_take];exact fP (by omega)),?_⟩;have qX:∀b vs,upd H6 l (.lst ([V.ref b0]++bs.map V.ref)) b=some (.tup vs)->upd (upd H6 l (.lst ([V.ref b0]++bs.map V.ref))) pd (.dK (putK (dV (keys.take i) fun k=>.ref (ad k)) (Sum.inr u) (.ref a))) b=some (.tup vs):=fun b vs e=>by
    rw[zr (jW e gM (by intro z;cases z))];exact e
   refine⟨_,fun z=>if z=u then m else v z,fun z=>if z=u then a else ad z,rfl,q7.upd cP,?_,fun k hk=>?_⟩
   ·rw[zb,oV eZ,List.take_add_one,bL]
    congr 2
    refine l9 fun z hz=>?_
    try dsimp only
    by_cases e:z=u
    ·rw[if_pos e,if_pos e]
    ·rw[if_neg e,if_neg e]
   ·rw[List.take_add_one,bL,List.mem_append] at hk
    try dsimp only
    by_cases e:k=u
    ·rw[if_pos e,if_pos e];refine⟨qX _ _ Bb,?_⟩;rw[e,eL];exact⟨List.mem_of_getElem? hm,tV⟩
    ·rw[if_neg e,if_neg e];obtain⟨h1,h2⟩:=iO k (hk.elim id fun z=>absurd (by simpa using z) e);exact⟨qX _ _ (yZ _ _ h1),h2⟩
  ·rintro σ H3 ⟨v3,v,ad,rfl,q3,cQ,iO⟩;rw[fL,List.take_length] at cQ iO;refine .inr ⟨pd,_,cQ,fun ob=>⟨_,rfl,k pd ob v ad _ ((s1.trans q3).upd (s1.free cP)) (s1.free cP) ⟨zb,fun k hk=>?_⟩ fun k hk=>(iO k hk).2⟩⟩;have b1:=(iO k hk).1;rw[zr (fun z=>by rw[z,cQ] at b1;cases b1)];exact b1
theorem Vf{H H':Hp}{a:Addr}{xs:List V}(e:ah H H')(h:aG K H a xs):aG K H' a xs:=by
 rcases h with (h | ⟨o,h⟩) | h
 ·exact .inl (.inl (e _ _ h))
 ·exact .inl (.inr ⟨o,e _ _ h⟩)
 ·exact .inr h
def Vg(C:Addr):Sp:=fun vs H Q _=>∃(e p:Addr)(xs:List V),vs = [.ref e,.ref p]/\H e=some (dJ e C none)/\ao K H p xs/\xs.length<=1000/\
 ∀(q d:Addr),q≠e->d≠e->H q=none->H d=none->d≠q->Q .bO (upd (upd (upd H q (.lst xs)) d (.xd [("ties",.ref q)])) e (dJ e C (some d)))
set_option maxHeartbeats 8000000 in
theorem Vh(T:Tx K mg w zj zm zg zp):pV P w K mg base zm "__init__" ["self","ties"] 1 (Vg (K:=K) zm):=by
 refine T.Sa.has Tq (fun vs H Q E h=>?_) (fun f aR A outer s H vs Q E hr h=>?_)
 ·obtain⟨e,p,xs,rfl,_⟩:=h;rfl
 ·obtain⟨e,p,xs,rfl,he,hp,hl,k⟩:=h;refine⟨_,(zc (gA (Jk (by rfl) T.D8 T.JF (za (pv 0) (za eE zf))))
   (zi (Jj (pv 0) (pO (xA K rfl) (by rfl) T.list PyProof.Rows.boot_list (za (pv 1) zf)) rfl))),?_⟩
  obtain⟨bm,xo,U⟩:=T.JG;refine⟨_,rfl,e,zm,none,bm,_,rfl,he,xo,U,(by show 1<=sizeLine;decide),?_⟩;refine⟨_,rfl,p,xs,rfl,.inl hp,fun q hq=>?_⟩;have ne:q≠e:=fun z=>by rw[z,he] at hq;cases hq
  refine⟨_,rfl,e,zm,rfl,by rw[zr ne.symm];exact he,T.R9,T.JH,fun d hd=>?_⟩;have nd:d≠q:=fun z=>by rw[z,zb] at hd;cases hd
  rw[zr nd] at hd;exact k q d ne (fun z=>by rw[z,he] at hd;cases hd) hq hd nd
def Vi(C:Addr):Sp:=fun vs H Q _=>∃(e p p1:Addr)(x0 x2:V)(xs:List V),vs = [.ref e,.ref p]/\H e=some (dJ e C none)/\aG K H p [x0,.ref p1,x2]/\ao K H p1 xs/\xs.length<=1000/\
 ∀(q r d:Addr),q≠e->r≠e->d≠e->H q=none->H r=none->H d=none->r≠q->d≠q->d≠r->Q .bO (upd (upd (upd (upd H q (.lst xs)) r (.tup [x0,.ref q,x2])) d (.xd [("row",.ref r)])) e (dJ e C (some d)))
set_option maxHeartbeats 8000000 in
theorem Vj(T:Tx K mg w zj zm zg zp):pV P w K mg base zg "__init__" ["self","row"] 1 (Vi (K:=K) zg):=by
 refine T.Sd.has Tt (fun vs H Q E h=>?_) (fun f aR A outer s H vs Q E hr h=>?_)
 ·obtain⟨e,p,p1,x0,x2,xs,rfl,_⟩:=h;rfl
 ·obtain⟨e,p,p1,x0,x2,xs,rfl,he,hp,gH,hl,k⟩:=h;refine⟨_,(zc (gA (Jk (by rfl) T.D8 T.JF (za (pv 0) (za eE zf))))
   (zi (Jj (pv 0) (eS (za (ay (zo K rfl) (pv 1) zh) (za (pO (xA K rfl) (by rfl) T.list PyProof.Rows.boot_list (za (ay (zo K rfl) (pv 1) zh) zf)) (za (ay (zo K rfl) (pv 1) zh) zf)))) rfl))),?_⟩
  obtain⟨bm,xo,U⟩:=T.JI;refine⟨_,rfl,e,zg,none,bm,_,rfl,he,xo,U,(by show 1<=sizeLine;decide),?_⟩
  try dsimp only
  refine⟨_,rfl,p,_,_,x0,rfl,rfl,hp,rfl,_,rfl,p,_,_,.ref p1,rfl,rfl,hp,rfl,p1,xs,rfl,.inl gH,fun q hq=>?_⟩;have t1:=ah.new (o:=.lst xs) hq;refine⟨_,rfl,p,_,_,x2,rfl,rfl,Vf t1 hp,rfl,(by show 3<=sizeLine;decide),fun r hr=>?_⟩;have ne:q≠e:=fun z=>by rw[z,he] at hq;cases hq
  have nr:r≠q:=fun z=>by rw[z,zb] at hr;cases hr
  rw[zr nr] at hr;have KZ:r≠e:=fun z=>by rw[z,he] at hr;cases hr
  refine⟨_,rfl,e,zg,rfl,by rw[zr KZ.symm,zr ne.symm];exact he,T.Sb,T.JJ,fun d hd=>?_⟩;have d1:d≠r:=fun z=>by rw[z,zb] at hd;cases hd
  rw[zr d1] at hd;have d2:d≠q:=fun z=>by rw[z,zb] at hd;cases hd
  rw[zr d2] at hd;exact k q r d ne KZ (fun z=>by rw[z,he] at hd;cases hd) hq hr hd nr d2 d1
def Vk:Sp:=fun vs H Q _=>∃(pb:Addr)(ob:Obj)(keys:List Str)(v:Str->IS)(ab:Str->Addr)(fz:Bool),vs = [.ref pb]/\Bd H pb ob keys v ab/\keys.Nodup/\keys.length<=63/\
 ∀(pd:Addr)(o:Obj)(ad:Str->Addr)(H':Hp),ah H H'->H pd=none->H' pd=some (Qs fz o keys ad)->(∀k∈keys,bh H H' (ad k) ((v k).1,(v k).2,[]))->Q (.ref pd) H'
set_option maxHeartbeats 8000000 in
theorem EU(T:Tx K mg w zj zm zg zp):cD P w K mg base "bare_chains" ["bounds"] 1 Vk:=by
 refine T.SA.has cV (fun vs H Q E h=>?_) (fun f aR A outer s H vs Q E hr h=>?_)
 ·obtain⟨pb,ob,keys,v,ab,fz,rfl,_⟩:=h;rfl
 ·obtain⟨pb,ob,keys,v,ab,fz,rfl,hB,knd,lk,k⟩:=h;have hu:=fm hr;refine⟨_,(zc (sset (i:=1) cV.nd jm)
   (zc (dZ PassesOwn.never rfl (mj (pv 0)) (cL (i:=2) cV.nd) (zi (g7 hu (pv 1) (pv 2) (c9 (NY K rfl) (zw hu (pv 0) (pv 2) (fun _ _=>rfl)) (eS (za (cI zf) zf))) rfl)))
   (zi (qM (zz (pv 1)))))),?_⟩
  try dsimp only[zx]
  refine fun pd cP=>?_
  have s1:=ah.new (o:=.dK []) cP;refine⟨_,rfl,pb,ob,_,rfl,s1 _ _ hB.d,sR (fun i σ H'=>∃(v2:Option V)(ad:Str->Addr),σ = [some (.ref pb),some (.ref pd),v2]/\ah H H'/\H' pd=some (.dK (dV (keys.take i) fun k=>.ref (ad k)))/\∀k∈keys.take i,bh H H' (ad k) ((v k).1,(v k).2,[]))
   ⟨none,fun _=>0,rfl,s1,zb,fun k hk=>by simp at hk⟩ (fun i σ H' _ h=>by obtain⟨_,_,_,q,_⟩:=h;exact q _ _ hB.d) ?_ ?_⟩
  ·rintro i kk vv σ H3 hx ⟨v2,ad,rfl,q3,cQ,iO⟩;obtain⟨u,bL,rfl,_⟩:=sO hx;have bQ:u∈keys:=List.mem_of_getElem? bL;have B3:=hB.same q3
   try dsimp only[zx]
   refine⟨_,rfl,_,rfl,pb,_,rfl,iY B3.d bQ,by show 0<=sizeLine;decide,fun l0 nh=>?_⟩;have t1:=ah.new (o:=.lst []) nh;refine⟨by show 1<=sizeLine;decide,fun b0 kU=>?_⟩;have t2:=ah.new (o:=.tup [.ref l0]) kU;refine⟨ab u,b0,_,_,rfl,rfl,aG.of (t2 _ _ (t1 _ _ (B3.e u bQ))),aG.of zb,by simp,by show 3<=sizeLine;decide,fun z=>by simp at z,fun _ p hp=>?_⟩;have t3:=ah.new (o:=.tup [.int (v u).1,.str (v u).2,.ref l0]) hp;have EV:=t1.trans (t2.trans t3);have fQ:=EV _ _ cQ;have eZ:u ∉ keys.take i:=by
    have hi:=eT bL;have:=mT knd i hi;rw[show keys[i]=u from(List.getElem?_eq_some_iff.mp bL).2] at this;exact this
   have hc:bh H (upd (upd (upd H3 l0 (.lst [])) b0 (.tup [.ref l0])) p (.tup [.int (v u).1,.str (v u).2,.ref l0])) p ((v u).1,(v u).2,[]):=⟨l0,zb,t3 _ _ (t2 _ _ zb),q3.free nh⟩;refine⟨_,rfl,_,rfl,pd,_,rfl,cG.k (k:=Sum.inr u) fQ (by rw[fL,List.length_take];exact fP (by omega)),?_⟩;refine⟨_,fun z=>if z=u then p else ad z,rfl,(q3.trans EV).upd cP,?_,fun k hk=>?_⟩
   ·rw[zb,oV eZ,List.take_add_one,bL]
    congr 2
    refine l9 fun z hz=>?_
    try dsimp only
    by_cases e:z=u
    ·rw[if_pos e,if_pos e]
    ·rw[if_neg e,if_neg e]
   ·rw[List.take_add_one,bL,List.mem_append] at hk
    try dsimp only
    by_cases e:k=u
    ·rw[if_pos e,e];exact hc.put fQ
    ·rw[if_neg e];exact((iO k (hk.elim id fun z=>absurd (by simpa using z) e)).same EV).put fQ
  ·rintro σ H3 ⟨v2,ad,rfl,q3,cQ,iO⟩;rw[fL,List.take_length] at cQ iO;cases fz with
   | false=>exact .inl ⟨_,rfl,k pd ob ad _ q3 cP cQ iO⟩
   | true=>exact .inr ⟨pd,_,cQ,fun tW=>⟨_,rfl,k pd tW ad _ (q3.upd cP) cP zb fun k hk=>(iO k hk).put cQ⟩⟩
def Vl:Sp:=fun vs H Q _=>∃(a r:Addr)(c:bZ)(t:av)(us:List Str),vs = [.ref a,.ref r]/\bh (fun _=>none) H a c/\H r=some (.tup (bg t))/\iM us t/\c.2.2.length<=900/\
 ∀(q:Addr)(H':Hp),ah H H'->H q=none->bh H H' q (c.1+bT t,c.2.1,c.2.2++[(t,r)])->Q (.ref q) H'
set_option maxHeartbeats 4000000 in
theorem K0(T:Tx K mg w zj zm zg zp):cD P w K mg base "led_up" ["chain","tie"] 2 Vl:=by
 refine T.SD.has Tg (fun vs H Q E h=>?_) (fun f aR A outer s H vs Q E hr h=>?_)
 ·obtain⟨a,r,c,t,us,rfl,_⟩:=h;rfl
 ·obtain⟨a,r,c,t,us,rfl,⟨l,ha,hl,_⟩,nj,tok,lc,k⟩:=h;refine⟨_,(zi (zz (eS (za (c9 jJ (ay (zo K rfl) (pv 0) zh) (aH (KR T) (za (pv 1) zf))) (za (ay (zo K rfl) (pv 0) zh) (za (c9 sq (ay (zo K rfl) (pv 0) zh) (cI (za (pv 1) zf))) zf)))))),?_⟩;refine⟨_,rfl,a,_,_,_,rfl,rfl,aG.of ha,rfl,_,rfl,r,t,us,rfl,nj,tok,fun H1 s1=>?_⟩;refine⟨_,_,rfl,rfl,_,rfl,a,_,_,_,rfl,rfl,aG.of (s1 _ _ ha),rfl,_,rfl,a,_,_,_,rfl,rfl,aG.of (s1 _ _ ha),rfl,_,rfl,by show 1<=sizeLine;decide,fun l1 jv=>?_⟩;have t1:=ah.new (o:=.lst [.ref r]) jv;refine⟨l,l1,_,_,rfl,rfl,t1 _ _ (s1 _ _ hl),zb,by rw[List.length_map];exact jC (show _+1<=1000 by omega),fun l2 iL=>?_⟩;have t2:=ah.new (o:=.lst (c.2.2.map (fun p=>V.ref p.2)++[.ref r])) iL;refine⟨by show 3<=sizeLine;decide,fun b hb=>?_⟩;have t3:=ah.new (o:=.tup [.int (c.1+bT t),.str c.2.1,.ref l2]) hb;refine k b _ (s1.trans (t1.trans (t2.trans t3))) ((s1.trans (t1.trans t2)).free hb) ⟨l2,zb,?_,(s1.trans t1).free iL⟩;rw[t3 _ _ zb,List.map_append];rfl
def Vm:Sp:=fun vs H Q _=>∃(a r:Addr)(c:bZ)(t:av)(us:List Str),vs = [.ref a,.ref r]/\bh (fun _=>none) H a c/\H r=some (.tup (bg t))/\iM us t/\c.2.2.length<=900/\
 ∀(q:Addr)(H':Hp),ah H H'->H q=none->bh H H' q (c.1-bT t,c.2.1,(t,r)::c.2.2)->Q (.ref q) H'
set_option maxHeartbeats 4000000 in
theorem Vn(T:Tx K mg w zj zm zg zp):cD P w K mg base "led_down" ["chain","tie"] 2 Vm:=by
 refine T.SM.has Th (fun vs H Q E h=>?_) (fun f aR A outer s H vs Q E hr h=>?_)
 ·obtain⟨a,r,c,t,us,rfl,_⟩:=h;rfl
 ·obtain⟨a,r,c,t,us,rfl,⟨l,ha,hl,_⟩,nj,tok,lc,k⟩:=h;refine⟨_,(zi (zz (eS (za (c9 Af (ay (zo K rfl) (pv 0) zh) (aH (KR T) (za (pv 1) zf))) (za (ay (zo K rfl) (pv 0) zh) (za (c9 sq (cI (za (pv 1) zf)) (ay (zo K rfl) (pv 0) zh)) zf)))))),?_⟩;refine⟨_,rfl,a,_,_,_,rfl,rfl,aG.of ha,rfl,_,rfl,r,t,us,rfl,nj,tok,fun H1 s1=>?_⟩;refine⟨_,_,rfl,rfl,_,rfl,a,_,_,_,rfl,rfl,aG.of (s1 _ _ ha),rfl,_,rfl,by show 1<=sizeLine;decide,fun l1 jv=>?_⟩;have t1:=ah.new (o:=.lst [.ref r]) jv;refine⟨_,rfl,a,_,_,_,rfl,rfl,aG.of (t1 _ _ (s1 _ _ ha)),rfl,?_⟩;refine⟨l1,l,_,_,rfl,rfl,zb,t1 _ _ (s1 _ _ hl),by rw[List.length_map];exact jC (show 1+_<=1000 by omega),fun l2 iL=>?_⟩;have t2:=ah.new (o:=.lst ([V.ref r]++c.2.2.map (fun p=>V.ref p.2))) iL;refine⟨by show 3<=sizeLine;decide,fun b hb=>?_⟩;have t3:=ah.new (o:=.tup [.int (c.1-bT t),.str c.2.1,.ref l2]) hb;refine k b _ (s1.trans (t1.trans (t2.trans t3))) ((s1.trans (t1.trans t2)).free hb) ⟨l2,zb,?_,(s1.trans t1).free iL⟩;rw[t3 _ _ zb];rfl
def Vo:Sp:=fun vs H Q _=>∃(pb pc:Addr)(ob oc:Obj)(keys:List Str)(R:Rw)(pD:Str->Addr)(bs:Str->List Addr)(M:List Str)(v:Str->bZ)(adc:Str->Addr),vs = [.ref pb,.ref pc]/\Bn H pb ob keys (jP R) pD bs/\
 H pc=some (.eB oc (.dK (dV M fun k=>.ref (adc k))))/\(∀k∈M,bh (fun _=>none) H (adc k) (v k))/\(∀k l b,(l,b)∈R k->H b.2=some (.tup (bg b.1))/\∃us,iM us b.1)/\keys.Nodup/\keys.length<=63/\(∀k,(R k).length<=900)/\(∀k∈M,(v k).2.2.length<=900)/\
 ∀(pd:Addr)(o:Obj)(M':List Str)(v':Str->bZ)(ad:Str->Addr)(H':Hp),ah H H'->H pd=none->H' pd=some (.eB o (.dK (dV M' fun k=>.ref (ad k))))->(∀k∈M',bh H H' (ad k) (v' k))->M'.Nodup->(∀k∈M',k∈keys)->(∀k∈keys,i0 R M v k (R k) (k∈M') (v' k))->Q (.ref pd) H'
set_option maxHeartbeats 16000000 in
theorem Vp(T:Tx K mg w zj zm zg zp):cD P w K mg base "one_tie_longer" ["beneath","chains"] 3 Vo:=by
 refine T.SE.has aN (fun vs H Q E h=>?_) (fun f aR A outer s H vs Q E hr h=>?_)
 ·obtain⟨pb,pc,ob,oc,keys,R,pD,bs,M,v,adc,rfl,_⟩:=h;rfl
 ·obtain⟨pb,pc,ob,oc,keys,R,pD,bs,M,v,adc,rfl,hB,hC,hM,hR,knd,lk,lR,lM,k⟩:=h;have hu:=fm hr;refine⟨_,(zc (sset (i:=2) aN.nd jm)
   (zc (dZ PassesOwn.never rfl (mj (pv 0)) (cL (i:=3) aN.nd) (zi (dZ PassesOwn.never rfl (eF K rfl (zw hu (pv 0) (pv 3) (fun _ _=>rfl))) (mR K rfl rfl (gZ (cL (i:=4) aN.nd) (gZ (cL (i:=5) aN.nd) mO))) (zi (cR (qA (As hu (pv 4) (pv 1))) (zc (sset (i:=6) aN.nd (aH (K0 T) (za (zw hu (pv 1) (pv 4) (fun _ _=>rfl)) (za (pv 5) zf))))
      (zi (cR (PW.pt (vM (qA (wK hu (pv 3) (pv 2))) (zZ (cE uA (ay (zo K rfl) (pv 6) zh) (ay (zo K rfl) (zw hu (pv 2) (pv 3) (fun _ _=>rfl)) zh) (bW _))))) (zi (g7 hu (pv 2) (pv 3) (pv 6) rfl)) cX))) cX)))))
   (zi (qM (zz (pv 2)))))),?_⟩
  try dsimp only[zx]
  refine fun pd cP=>?_
  have s1:=ah.new (o:=.dK []) cP;refine⟨_,rfl,pb,ob,_,rfl,s1 _ _ hB.d,sR (fun i σ H'=>∃(v3 v4 v5 v6:Option V)(M':List Str)(v':Str->bZ)(ad:Str->Addr),σ = [some (.ref pb),some (.ref pc),some (.ref pd),v3,v4,v5,v6]/\ah H H'/\H' pd=some (.dK (dV M' fun k=>.ref (ad k)))/\(∀k∈M',bh H H' (ad k) (v' k))/\M'.Nodup/\(∀k∈M',k∈keys.take i)/\∀k∈keys.take i,i0 R M v k (R k) (k∈M') (v' k))
   ⟨none,none,none,none,[],fun _=>(0,"",[]),fun _=>0,rfl,s1,zb,fun k hk=>by simp at hk,List.nodup_nil,fun k hk=>by simp at hk,fun k hk=>by simp at hk⟩ (fun i σ H' _ h=>by obtain⟨_,_,_,_,_,_,_,_,q,_⟩:=h;exact q _ _ hB.d) ?_ ?_⟩
  ·rintro i kk vv σ H3 hx ⟨v3,v4,v5,v6,M',v',ad,rfl,q3,cQ,iO,Bv,vp,y9⟩;obtain⟨u,bL,rfl,_⟩:=sO hx;have bQ:u∈keys:=List.mem_of_getElem? bL;have B3:=hB.same q3;have zA:(bs u).length=(R u).length:=(Paired.length (hB.e u bQ)).trans DO;have eZ:u ∉ keys.take i:=by
    have hi:=eT bL;have:=mT knd i hi;rw[show keys[i]=u from(List.getElem?_eq_some_iff.mp bL).2] at this;exact this
   have tk:keys.take (i+1)=keys.take i++[u]:=by rw[List.take_add_one,bL];rfl
   try dsimp only[zx]
   refine⟨_,rfl,_,rfl,pb,_,rfl,B3.get bQ,pD u,rfl,⟨_,ao.of (B3.l u bQ)⟩,iK (xs:=(bs u).map V.ref) (fun j σ H'=>∃(v4 v5 v6:Option V)(M':List Str)(v':Str->bZ)(ad:Str->Addr),σ = [some (.ref pb),some (.ref pc),some (.ref pd),some (.str u),v4,v5,v6]/\ah H H'/\H' pd=some (.dK (dV M' fun k=>.ref (ad k)))/\(∀k∈M',bh H H' (ad k) (v' k))/\M'.Nodup/\(∀k∈M',k∈keys.take i++[u])/\
     (∀k∈keys.take i,i0 R M v k (R k) (k∈M') (v' k))/\i0 R M v u ((R u).take j) (u∈M') (v' u))
    ⟨v4,v5,v6,M',v',ad,rfl,q3,cQ,iO,Bv,fun k hk=>List.mem_append_left _ (vp k hk),y9,i0.nil fun z=>eZ (vp u z)⟩ (fun j σ H' _ h=>by obtain⟨_,_,_,_,_,_,_,q,_⟩:=h;exact ao.of ((hB.same q).l u bQ)) ?_ ?_⟩
   ·clear iO Bv vp y9 cQ q3 B3;rintro j x σ H4 hx ⟨v4,v5,v6,M',v',ad,rfl,q4,fT,fO,pq,tX,vq,vt⟩;have B4:=hB.same q4;obtain⟨b,⟨l,r⟩,rfl,je,_,hb⟩:=mV (B4.e u bQ) hx;obtain⟨t,ht⟩:=DN je;have kX:(l,(t,r))∈R u:=List.mem_of_getElem? ht;obtain⟨zB,us,tok⟩:=hR u l (t,r) kX;have rt:(R u).take (j+1)=(R u).take j++[(l,(t,r))]:=by rw[List.take_add_one,ht];rfl
    have mH:=q4 _ _ hC;refine⟨b,_,rfl,aG.of hb,rfl,_,_,rfl,_,_,rfl,rfl,?_⟩
    try dsimp only[zx]
    refine iz (decide (l∈M)) (fun Q' hQ=>?_) ?_
    ·by_cases c:l∈M
     ·refine⟨_,rfl,_,rfl,pc,_,rfl,iY mH c,?_⟩;rw[decide_eq_true c] at hQ;exact⟨_,rfl,hQ⟩
     ·refine⟨_,rfl,_,rfl,pc,none,rfl,Qt mH c,?_⟩;rw[decide_eq_false c] at hQ;exact⟨_,rfl,hQ⟩
    refine aT (fun c=>?_) (fun c=>?_)
    ·have c:=of_decide_eq_true c;refine⟨_,rfl,_,rfl,pc,_,rfl,iY mH c,_,rfl,adc l,r,v l,t,us,rfl,(hM l c).same q4,q4 _ _ zB,tok,lM l c,fun q H5 s5 fq hq=>?_⟩;have q5:=q4.trans s5;have dO:=s5 _ _ fT;have yQ:bh H H5 q ((v l).1+bT t,(v l).2.1,(v l).2.2++[(t,r)]):=hq.old q4;have mJ:∀k∈M',bh H H5 (ad k) (v' k):=fun k hk=>(fO k hk).same s5
     try dsimp only[zx]
     refine iz (decide (u ∉ M'\/(v' u).1<(v l).1+bT t)) (fun Q' hQ=>?_) ?_
     ·by_cases c2:u∈M'
      ·have g:=aU.k (k:=Sum.inr u) dO;rw[jt c2] at g;obtain⟨lq,h1,_⟩:=yQ;obtain⟨lu,h2,_⟩:=mJ u c2;refine⟨_,rfl,_,rfl,pd,_,rfl,g,_,rfl,cT ⟨_,rfl,q,_,_,_,rfl,rfl,aG.of h1,rfl,_,rfl,_,rfl,pd,_,rfl,g,ad u,_,_,_,rfl,rfl,aG.of h2,rfl,_,_,rfl,rfl,_,rfl,?_⟩⟩;rw[show decide (u ∉ M'\/(v' u).1<(v l).1+bT t)=decide ((v l).1+bT t > (v' u).1) from decide_eq_decide.mpr ⟨fun z=>z.elim (fun z=>absurd c2 z) id,fun z=>.inr z⟩] at hQ;exact hQ
      ·have g:=aU.k (k:=Sum.inr u) dO;rw[sN c2] at g;refine⟨_,rfl,_,rfl,pd,_,rfl,g,_,rfl,dD ?_⟩;rw[decide_eq_true (Or.inl c2)] at hQ;exact hQ
     refine aT (fun c2=>?_) (fun c2=>?_)
     ·have c2:=of_decide_eq_true c2;have Xp:M'.length<=63:=by
       have:=lD (us:=keys) pq fun k hk=>by
        rcases List.mem_append.mp (tX k hk) with z | z
        ·exact List.mem_of_mem_take z
        ·rw[show k=u by simpa using z];exact bQ
       omega
      refine⟨_,rfl,_,rfl,_,rfl,pd,_,rfl,cG.k (k:=Sum.inr u) dO (by rw[fL];exact fP (by omega)),?_⟩;have Xq:∀k,k≠u->(if k=u then q else ad k)=ad k:=fun k n=>if_neg n
      have ek:∀(L:List Str),(dV L fun z=>if z=u then V.ref q else V.ref (ad z))=dV L fun k=>V.ref (if k=u then q else ad k):=fun L=>l9 fun z _=>by split<;>rfl
      have kW:∀(kv:List (Key×V)),∀k,(k=u\/k∈M')->bh H (upd H5 pd (.dK kv)) (if k=u then q else ad k) (if k=u then((v l).1+bT t,(v l).2.1,(v l).2.2++[(t,r)]) else v' k):=fun kv k hk=>by
       by_cases e:k=u
       ·rw[if_pos e,if_pos e];exact yQ.put dO
       ·rw[if_neg e,if_neg e];exact(mJ k (hk.resolve_left e)).put dO
      have K1:∀(hs:Prop),hs->i0 R M v u ((R u).take (j+1)) hs (if u=u then((v l).1+bT t,(v l).2.1,(v l).2.2++[(t,r)]) else v' u):=fun hs hh=>by
       rw[if_pos rfl,rt];exact vt.take c hh (fun z=>c2.elim (fun y=>absurd z y) id) rfl
      by_cases c3:u∈M'
      ·rw[AN c3,ek];refine⟨_,_,_,M',fun k=>if k=u then((v l).1+bT t,(v l).2.1,(v l).2.2++[(t,r)]) else v' k,fun k=>if k=u then q else ad k,rfl,q5.upd cP,zb,fun k hk=>kW _ k (.inr hk),pq,tX,fun k hk=>?_,K1 _ c3⟩;exact(vq k hk).congr Iff.rfl (by dsimp only;rw[if_neg (fun z=>eZ (z▸hk):¬k=u)])
      ·rw[oV c3,ek];refine⟨_,_,_,M'++[u],fun k=>if k=u then((v l).1+bT t,(v l).2.1,(v l).2.2++[(t,r)]) else v' k,fun k=>if k=u then q else ad k,rfl,q5.upd cP,zb,fun k hk=>kW _ k ?_,?_,fun k hk=>?_,fun k hk=>?_,K1 _ (by simp)⟩
       ·rcases ki hk with z | z
        ·exact .inr z
        ·exact .inl z
       ·rw[List.nodup_append];refine⟨pq,by simp,fun a ha b hb e=>?_⟩;have hb:b=u:=by simpa using hb
        exact c3 (hb▸e▸ha)
       ·rcases ki hk with z | z
        ·exact tX k z
        ·rw[z];simp
       ·have ne:k≠u:=fun z=>eZ (z▸hk)
        refine(vq k hk).congr ⟨fun z=>List.mem_append_left _ z,fun z=>?_⟩ (by dsimp only;rw[if_neg ne]);rcases ki z with z | z
        ·exact z
        ·exact absurd z ne
     ·have c2:¬(u ∉ M'\/(v' u).1<(v l).1+bT t):=fun z=>c2 (decide_eq_true z)
      have c3:u∈M':=Decidable.byContradiction fun z=>c2 (.inl z)
      refine⟨_,_,_,M',v',ad,rfl,q5,dO,mJ,pq,tX,vq,?_⟩;rw[rt];exact vt.eO c3 (by have:¬((v' u).1<(v l).1+bT t):=fun z=>c2 (.inr z);show(v l).1+bT t<=_;omega)
    ·have c:l ∉ M:=fun z=>c (decide_eq_true z)
     refine⟨_,_,_,M',v',ad,rfl,q4,fT,fO,pq,tX,vq,?_⟩;rw[rt];exact vt.skip c
   ·rintro σ H4 ⟨v4,v5,v6,M',v',ad,rfl,q4,fT,fO,pq,tX,vq,vt⟩;rw[List.length_map,zA,List.take_length] at vt;refine⟨_,_,_,_,M',v',ad,rfl,q4,fT,fO,pq,by rw[tk];exact tX,fun k hk=>?_⟩;rw[tk] at hk;rcases ki hk with z | z
    ·exact vq k z
    ·rw[z];exact vt
  ·rintro σ H3 ⟨v3,v4,v5,v6,M',v',ad,rfl,q3,cQ,iO,Bv,vp,y9⟩;rw[fL,List.take_length] at vp y9;exact .inr ⟨pd,_,cQ,fun tW=>⟨_,rfl,k pd tW M' v' ad _ (q3.upd cP) cP zb (fun k hk=>(iO k hk).put cQ) Bv vp y9⟩⟩
def Vq:Sp:=fun vs H Q _=>∃(p pm pu pt pf:Addr)(lo hi:Int)(us:List Str)(ai:List Addr)(ts:List av)(af:List Addr)(fs:List bI),vs = [.ref p]/\cU K H p pm pu pt pf lo hi us ai ts af fs/\cJ (aZ ts (ts.zip ai)) (zn ts (au us))/\
 (∀H',ah H H'->jQ lo hi us ai ts af fs->Q .bO H')/\∀(q:Addr)(c:bZ)(w:Str)(H':Hp),ah H H'->ym H' q c w->mZ lo hi us ai ts af fs c w->Q (.ref q) H'
set_option maxHeartbeats 16000000 in
theorem Vr(T:Tx K mg w zj zm zg zp):cD P w K mg base "impossible_row" ["telling"] 6 (Vq (K:=K)):=by
 refine T.SG.has aO (fun vs H Q E h=>?_) (fun f aR A outer s H vs Q E hr h=>?_)
 ·obtain⟨p,pm,pu,pt,pf,lo,hi,us,ai,ts,af,fs,rfl,_⟩:=h;rfl
 ·obtain⟨p,pm,pu,pt,pf,lo,hi,us,ai,ts,af,fs,rfl,hF,nr,kN,kR⟩:=h;have hu:=fm hr;refine⟨_,(zc (sset (i:=1) aO.nd (aH (ng T) (za (pv 0) zf)))
   (zc (sset (i:=2) aO.nd (aH (KY T) (za (pv 0) zf)))
   (zc (sset (i:=3) aO.nd (aH (EU T) (za (aH (KW T) (za (pv 0) zf)) zf)))
   (zc (uv PassesOwn.never (cE (RZ (gk hr)) (pv 3) jm (bW _)) (zc (dZ PassesOwn.never rfl (mj (pv 3)) (cL (i:=4) aO.nd) (zi (cR (cE uA (ay (zo K rfl) (zw hu (pv 3) (pv 4) (fun _ _=>rfl)) zh) (ay (zo K rfl) (zw hu (pv 2) (pv 4) (fun _ _=>rfl)) zh) (bW _)) (zi (zz (eS (za (ay (zo K rfl) (zw hu (pv 3) (pv 4) (fun _ _=>rfl)) zh) (za (ay (zo K rfl) (zw hu (pv 3) (pv 4) (fun _ _=>rfl)) zh) (za (ay (zo K rfl) (zw hu (pv 2) (pv 4) (fun _ _=>rfl)) zh) zf)))))) cX)))
    (zi (sset (i:=3) aO.nd (aH (Vp T) (za (pv 1) (za (pv 3) zf)))))))
   (zi (zz LK)))))),?_⟩
  have knd:=nO (ts:=ts) hF.cz.nd;have lk:=hF.cz.gv;have lf:=hF.mw;have cl:=qS (ai:=ai) hF.cz.ends;have lR:∀k,(bu ts (ts.zip ai) k).length<=900:=fun k=>by
   have h1:=Qu (ts:=ts) (z:=ts.zip ai) (k:=k);have h2:=hF.cz.tl;rw[List.length_zip] at h1;omega
  have hR:∀k l b,(l,b)∈bu ts (ts.zip ai) k->H b.2=some (.tup (bg b.1))/\iM us b.1:=fun k l b h=>DM hF.cz h
  have uF:∀k m m',iH ts lo (fs.zip af) k m->iH ts lo (fs.zip af) k m'->m.1=m'.1:=fun k m m' h h'=>by rw[h.low lf,h'.low lf]
  have uG:∀k m m',iN ts hi (fs.zip af) k m->iN ts hi (fs.zip af) k m'->m.1=m'.1:=fun k m m' h h'=>by rw[h.high lf,h'.high lf]
  rw[mY] at nr;refine⟨_,rfl,p,pu,pt,_,_,us,ai,ts,rfl,hF.cz,fun pb ob pD bs H1 s1 zC hB=>?_⟩;rw[mY] at hB
  try dsimp only[zx]
  refine⟨_,rfl,p,pm,pu,pt,pf,lo,hi,us,ai,ts,af,fs,rfl,hF.same s1,fun pe oe ve ae H2 s2 Xr hE Bw=>?_⟩
  try dsimp only[zx]
  refine⟨_,rfl,p,pm,pu,pt,pf,lo,hi,us,ai,ts,af,fs,rfl,hF.same (s1.trans s2),fun pl ol vl al H3 s3 K2 hL mK=>?_⟩;refine⟨pl,ol,_,vl,al,true,rfl,hL,knd,lk,fun pc oc adc H4 s4 zD hC tY=>?_⟩;have hC:H4 pc=some (.eB oc (.dK (dV (zn ts (au us)) fun k=>.ref (adc k)))):=hC;have Vs:=s3.trans s4;have K3:=s2.trans Vs;have tZ:=s1.trans K3;have Bw:∀k∈zn ts (au us),iN ts hi (fs.zip af) k (ve k):=Bw;have mK:∀k∈zn ts (au us),iH ts lo (fs.zip af) k (vl k):=mK;unfold jQ at kN;unfold mZ at kR;generalize zn ts (au us)=keys at *;generalize bu ts (ts.zip ai)=R at *;generalize iH ts lo (fs.zip af)=F at *;generalize iN ts hi (fs.zip af)=G at *;have R0:iZ R F keys 0 keys (fun k=>((vl k).1,(vl k).2,[])):=iZ.zero knd (fun k hk=>⟨rfl,mK k hk⟩) uF
  try dsimp only[zx]
  refine⟨fun m σ H'=>∃(n:Nat)(pc:Addr)(oc:Obj)(M:List Str)(v:Str->bZ)(adc:Str->Addr)(v4:Option V),σ = [some (.ref p),some (.ref pb),some (.ref pe),some (.ref pc),v4]/\ah H4 H'/\H' pc=some (.eB oc (.dK (dV M fun k=>.ref (adc k))))/\(∀k∈M,bh (fun _=>none) H' (adc k) (v k))/\iZ R F keys n M v/\
    (∀k∈keys,∀c m,Up R F k c->G k m->c.2.2.length<n->c.1<=m.1)/\m=keys.length-n,
   ⟨_,0,pc,oc,keys,_,adc,none,rfl,ah.refl _,hC,fun k hk=>(tY k hk).any,R0,fun k hk c m _ _ z=>absurd z (Nat.not_lt_zero _),rfl⟩,?_⟩
  rintro m σ H5 ⟨n,pc,oc,M,v,adc,v4,rfl,q5,K4,K5,Rn,sm,rfl⟩;refine⟨_,rfl,fun e he=>?_⟩;have t6:=ah.new (o:=.dK []) he;have q6:=q5.trans t6;have vz:=t6 _ _ K4;refine⟨pc,e,_,rfl,rfl,.inr ⟨oc,vz⟩,zb,_,rfl,?_⟩;have vn:∀k∈M,bh (fun _=>none) (upd H5 e (.dK [])) (adc k) (v k):=fun k hk=>(K5 k hk).same t6
  clear K4 K5;generalize upd H5 e (.dK [])=H6 at q6 vz vn t6;refine aT (fun c=>?_) (fun c=>?_)
  ·have ne:M≠[]:=fun z=>by rw[z] at c;simp[dV] at c
   obtain⟨k0,EW⟩:=List.exists_mem_of_ne_nil _ ne;have hn:n<keys.length:=by
    have:=(Rn.is k0 EW).1.short cl nr (Rn.sub k0 EW);rw[(Rn.is k0 EW).2] at this;exact this
   refine⟨fun aq H'=>∃m',m'<keys.length-n/\_,fun aq H' h=>h,?_⟩;refine⟨_,rfl,pc,oc,_,rfl,vz,sR (fun i σ H'=>∃(v4:Option V),σ = [some (.ref p),some (.ref pb),some (.ref pe),some (.ref pc),v4]/\ah H6 H'/\∀k∈M.take i,(v k).1<=(ve k).1)
    ⟨_,rfl,ah.refl _,fun k hk=>by simp at hk⟩ (fun i σ H' _ h=>by obtain⟨_,_,q,_⟩:=h;exact q _ _ vz) ?_ ?_⟩
   ·rintro i kk vv σ H7 hx ⟨v4,rfl,q7,Bx⟩;obtain⟨u,bL,rfl,_⟩:=sO hx;have ud:u∈M:=List.mem_of_getElem? bL;have bQ:u∈keys:=Rn.sub u ud;have E7:=hE.same (s3.trans (s4.trans (q6.trans q7)));obtain⟨l,h1,h2,_⟩:=(vn u ud).same q7;have zE:=q7 _ _ vz
    try dsimp only[zx]
    refine⟨_,rfl,_,rfl,pc,_,rfl,iY zE ud,adc u,_,_,_,rfl,rfl,aG.of h1,rfl,_,rfl,_,rfl,pe,_,rfl,iY E7.d bQ,ae u,_,_,_,rfl,rfl,aG.of (E7.e u bQ),rfl,_,_,rfl,rfl,_,rfl,?_⟩;refine aT (fun c2=>?_) (fun c2=>?_)
    ·have c2:(ve u).1<(v u).1:=of_decide_eq_true c2;refine⟨_,rfl,_,rfl,pc,_,rfl,iY zE ud,adc u,_,_,_,rfl,rfl,aG.of h1,rfl,_,rfl,_,rfl,pc,_,rfl,iY zE ud,adc u,_,_,_,rfl,rfl,aG.of h1,rfl,_,rfl,_,rfl,pe,_,rfl,iY E7.d bQ,ae u,_,_,_,rfl,rfl,aG.of (E7.e u bQ),rfl,by show 3<=sizeLine;decide,fun q hq=>?_⟩;have t8:=ah.new (o:=.tup [.str (v u).2.1,.ref l,.str (ve u).2]) hq;refine kR q (v u) (ve u).2 _ (tZ.trans (q6.trans (q7.trans t8))) ⟨l,zb,t8 _ _ h2⟩ ⟨u,ve u,bQ,(Rn.is u ud).1,Bw u bQ,rfl,c2,fun k' dj c' m' u' g' lt=>sm k' dj c' m' u' g' ?_⟩;rw[(Rn.is u ud).2] at lt;exact lt
    ·have c2:¬((v u).1 > (ve u).1):=fun z=>c2 (decide_eq_true z)
     refine⟨_,rfl,q7,fun k hk=>?_⟩;rw[List.take_add_one,bL] at hk;rcases ki hk with z | z
     ·exact Bx k z
     ·rw[z];omega
   ·rintro σ H7 ⟨v4,rfl,q7,Bx⟩;rw[fL,List.take_length] at Bx;have EX:=q6.trans q7;have B7:=hB.same (K3.trans EX);have zE:=q7 _ _ vz;refine⟨_,rfl,_,rfl,pb,pc,ob,oc,keys,R,pD,bs,M,v,adc,rfl,B7,zE,fun k hk=>(vn k hk).same q7,fun k l b h=>⟨EX _ _ (tZ _ _ (hR k l b h).1),us,(hR k l b h).2⟩,knd,lk,lR,fun k hk=>by
     have:=(Rn.is k hk).1.short cl nr (Rn.sub k hk);omega,fun pd o M' v' ad H8 s8 jz vo yS Vt Vu Vv=>?_⟩
    refine⟨keys.length-(n+1),by omega,n+1,pd,o,M',v',ad,_,rfl,EX.trans s8,vo,fun k hk=>(yS k hk).any,Rn.next cl Vt Vu Vv,fun k hk c m u g lt=>?_,rfl⟩
    by_cases e:c.2.2.length=n
    ·obtain⟨h1,h2⟩:=Rn.all k hk c u e;have h3:=Bx k h1;rw[uG k m (ve k) g (Bw k hk)];omega
    ·exact sm k hk c m u g (by omega)
  ·have e:M = []:=by
    cases M with
    | nil=>rfl
    | cons a b=>simp[dV] at c
   subst e;have st:=Rn.stop cl;exact kN _ (tZ.trans q6) fun k hk c m u g=>sm k hk c m u g (st k hk c u)
def Vw:Sp:=fun vs H Q _=>∃(p pm pu pt pf:Addr)(lo hi:Int)(us:List Str)(ai:List Addr)(ts:List av)(af:List Addr)(fs:List bI),vs = [.ref p]/\cU K H p pm pu pt pf lo hi us ai ts af fs/\cJ (aZ ts (ts.zip ai)) (zn ts (au us))/\
 ∀(pd:Addr)(o:Obj)(v:Str->bZ)(ad:Str->Addr)(H':Hp),ah H H'->H pd=none->H' pd=some (.eB o (.dK (dV (zn ts (au us)) fun k=>.ref (ad k))))->(∀k∈zn ts (au us),bh H H' (ad k) (v k))->
  (∀k∈zn ts (au us),Up (bu ts (ts.zip ai)) (iH ts lo (fs.zip af)) k (v k)/\fW (bu ts (ts.zip ai)) (iH ts lo (fs.zip af)) k (v k).1)->Q (.ref pd) H'
set_option maxHeartbeats 16000000 in
theorem ue(T:Tx K mg w zj zm zg zp):cD P w K mg base "chains_up" ["telling"] 8 (Vw (K:=K)):=by
 refine T.SJ.has bq (fun vs H Q E h=>?_) (fun f aR A outer s H vs Q E hr h=>?_)
 ·obtain⟨p,pm,pu,pt,pf,lo,hi,us,ai,ts,af,fs,rfl,_⟩:=h;rfl
 ·obtain⟨p,pm,pu,pt,pf,lo,hi,us,ai,ts,af,fs,rfl,hF,pA,k⟩:=h;have hu:=fm hr;refine⟨_,(zc (sset (i:=1) bq.nd (aH (ng T) (za (pv 0) zf)))
   (zc (sset (i:=2) bq.nd (aH (EU T) (za (aH (KW T) (za (pv 0) zf)) zf)))
   (zc (dZ PassesOwn.never rfl (eF K rfl (aH (vh T) (za (pv 0) zf))) (cL (i:=3) bq.nd) (zi (dZ PassesOwn.never rfl (eF K rfl (zw hu (pv 1) (pv 3) (fun _ _=>rfl))) (mR K rfl rfl (gZ (cL (i:=4) bq.nd) (gZ (cL (i:=5) bq.nd) mO))) (zc (sset (i:=6) bq.nd (aH (K0 T) (za (zw hu (pv 2) (pv 4) (fun _ _=>rfl)) (za (pv 5) zf))))
     (zi (cR (cE uA (ay (zo K rfl) (pv 6) zh) (ay (zo K rfl) (zw hu (pv 2) (pv 3) (fun _ _=>rfl)) zh) (bW _)) (zi (g7 hu (pv 2) (pv 3) (pv 6) rfl)) cX))))))
   (zi (qM (zz (pv 2))))))),?_⟩
  have knd:=nO (ts:=ts) hF.cz.nd;have lk:=hF.cz.gv;have lf:=hF.mw;have cl:=qS (ai:=ai) hF.cz.ends;have hR:∀k l b,(l,b)∈bu ts (ts.zip ai) k->H b.2=some (.tup (bg b.1))/\iM us b.1:=fun k l b h=>DM hF.cz h
  have uF:∀k m m',iH ts lo (fs.zip af) k m->iH ts lo (fs.zip af) k m'->m.1=m'.1:=fun k m m' h h'=>by rw[h.low lf,h'.low lf]
  have nr:=pA;rw[mY] at nr;refine⟨_,rfl,p,pu,pt,_,_,us,ai,ts,rfl,hF.cz,fun pb ob pD bs H1 s1 zC hB=>?_⟩;rw[mY] at hB
  try dsimp only[zx]
  refine⟨_,rfl,p,pm,pu,pt,pf,lo,hi,us,ai,ts,af,fs,rfl,hF.same s1,fun pl ol vl al H2 s2 K2 hL mK=>?_⟩;refine⟨pl,ol,_,vl,al,false,rfl,hL,knd,lk,fun pc oc adc H3 s3 zD hC tY=>?_⟩;have hC:H3 pc=some (.dK (dV (zn ts (au us)) fun k=>.ref (adc k))):=hC;have zF:=s2.trans s3;have zG:=s1.trans zF
  try dsimp only[zx]
  refine⟨_,rfl,p,pu,pt,_,_,us,ai,ts,rfl,(hF.same zG).cz,pA,fun po os H4 s4 tK mG O EY=>?_⟩;have qu:=hB.same (zF.trans s4);have mH:=s4 _ _ hC;have tZ:=zG.trans s4;have kY:H pc=none:=(s1.trans s2).free zD;have yK:po≠pc:=fun z=>by rw[z,hC] at tK;cases tK
  have uf:∀k∈zn ts (au us),bh H H4 (adc k) ((vl k).1,(vl k).2,[]):=fun k hk=>((tY k hk).same s4).old (s1.trans s2)
  have mK:∀k∈zn ts (au us),iH ts lo (fs.zip af) k (vl k):=mK;rw[mY] at O;clear pA hB hC tY;generalize zn ts (au us)=keys at *;generalize bu ts (ts.zip ai)=R at *;generalize iH ts lo (fs.zip af)=F at *;have U0:iF R F keys [] (fun k=>((vl k).1,(vl k).2,[])):=⟨fun k hk=>Up.bare (mK k hk),fun k hk m hm=>Int.le_of_eq (uF k m (vl k) hm (mK k hk)),fun k hk=>by simp at hk⟩;have hh:∀{H':Hp},(∀b o,b≠pc->H4 b=some o->H' b=some o)->ah H H':=fun kp b o e=>kp b o (zv e kY) (tZ _ _ e)
  refine⟨po,rfl,⟨_,ao.of mG⟩,iK (xs:=os.map V.str) (fun i σ H'=>∃(v3 v4 v5 v6:Option V)(v:Str->bZ)(ad:Str->Addr),σ = [some (.ref p),some (.ref pb),some (.ref pc),v3,v4,v5,v6]/\(∀b o,b≠pc->H4 b=some o->H' b=some o)/\H' pc=some (.dK (dV keys fun k=>.ref (ad k)))/\(∀k∈keys,bh H H' (ad k) (v k))/\iF R F keys (os.take i) v)
   ⟨none,none,none,none,_,adc,rfl,fun b o _ e=>e,mH,uf,by simpa using U0⟩ (fun i σ H' _ h=>by obtain⟨_,_,_,_,_,_,_,q,_⟩:=h;exact ao.of (q _ _ yK mG)) ?_ ?_⟩
  ·rintro i x σ H5 hx ⟨v3,v4,v5,v6,v,ad,rfl,gX,dO,mJ,U5⟩;rw[List.getElem?_map] at hx;cases eu:os[i]? with
   | none=>rw[eu] at hx;cases hx
   | some u=>
    rw[eu] at hx;cases hx;have bQ:u∈keys:=O.sub u (List.mem_of_getElem? eu);obtain⟨fr,K6,low⟩:=II O eu;have B5:=qu.keep mH gX;have zA:(bs u).length=(R u).length:=(Paired.length (qu.e u bQ)).trans DO;have tk:os.take (i+1)=os.take i++[u]:=by rw[List.take_add_one,eu];rfl
    try dsimp only[zx]
    refine⟨_,rfl,_,rfl,pb,_,rfl,B5.get bQ,pD u,rfl,⟨_,ao.of (B5.l u bQ)⟩,iK (xs:=(bs u).map V.ref) (fun j σ H'=>∃(v4 v5 v6:Option V)(v:Str->bZ)(ad:Str->Addr),σ = [some (.ref p),some (.ref pb),some (.ref pc),some (.str u),v4,v5,v6]/\(∀b o,b≠pc->H4 b=some o->H' b=some o)/\H' pc=some (.dK (dV keys fun k=>.ref (ad k)))/\(∀k∈keys,bh H H' (ad k) (v k))/\iF R F keys (os.take i) v/\∀l b,(l,b)∈(R u).take j->(v l).1+bT b.1<=(v u).1)
     ⟨v4,v5,v6,v,ad,rfl,gX,dO,mJ,U5,fun l b h=>by simp at h⟩ (fun j σ H' _ h=>by obtain⟨_,_,_,_,_,_,q,_⟩:=h;exact ao.of ((qu.keep mH q).l u bQ)) ?_ ?_⟩
    ·clear mJ dO U5 B5 gX;rintro j x σ H6 hx ⟨v4,v5,v6,v,ad,rfl,oz,fQ,kW,U6,oA⟩;have B6:=qu.keep mH oz;have q6:ah H H6:=hh oz;obtain⟨b,⟨l,r⟩,rfl,je,_,hb⟩:=mV (B6.e u bQ) hx;obtain⟨t,ht⟩:=DN je;have kX:(l,(t,r))∈R u:=List.mem_of_getElem? ht;obtain⟨zB,tok⟩:=hR u l (t,r) kX;have e8:l∈keys:=(cl _ _ _ kX).2;have nl:l≠u:=K6 l r (qR kX);have rt:(R u).take (j+1)=(R u).take j++[(l,(t,r))]:=by rw[List.take_add_one,ht];rfl
     refine⟨b,_,rfl,aG.of hb,rfl,_,_,rfl,_,_,rfl,rfl,?_⟩
     try dsimp only[zx]
     have gl:=aU.k (k:=Sum.inr l) fQ;rw[jt e8] at gl;have lv:(v l).2.2.length<=900:=by
      have:=(U6.is l e8).short cl nr e8;omega
     refine⟨_,rfl,_,rfl,pc,_,rfl,gl,_,rfl,ad l,r,v l,t,us,rfl,(kW l e8).any,q6 _ _ zB,tok,lv,fun q H7 s7 fq hq=>?_⟩;have gM:=s7 _ _ fQ;have zH:∀b o,b≠pc->H4 b=some o->H7 b=some o:=fun b o n e=>s7 _ _ (oz b o n e)
     have oq:∀k∈keys,bh H H7 (ad k) (v k):=fun k hk=>(kW k hk).same s7
     have jU:=hq.old q6;have gu:=aU.k (k:=Sum.inr u) gM;rw[jt bQ] at gu;obtain⟨lq,h1,_⟩:=id jU;obtain⟨lu,h2,_⟩:=oq u bQ
     try dsimp only[zx]
     refine⟨_,rfl,q,_,_,_,rfl,rfl,aG.of h1,rfl,_,rfl,_,rfl,pc,_,rfl,gu,ad u,_,_,_,rfl,rfl,aG.of h2,rfl,_,_,rfl,rfl,_,rfl,?_⟩;refine aT (fun c=>?_) (fun c=>?_)
     ·have c:(v u).1<(v l).1+bT t:=of_decide_eq_true c;refine⟨_,rfl,_,rfl,_,rfl,pc,_,rfl,cG.k (k:=Sum.inr u) gM (by rw[fL];exact fP (by omega)),?_⟩;rw[AN bQ,show(dV keys fun z=>if z=u then V.ref q else V.ref (ad z))=dV keys fun k=>V.ref (if k=u then q else ad k) from l9 fun z _=>by split<;>rfl];refine⟨_,_,_,fun k=>if k=u then((v l).1+bT t,(v l).2.1,(v l).2.2++[(t,r)]) else v k,fun k=>if k=u then q else ad k,rfl,fun b o n e=>by rw[zr n];exact zH b o n e,zb,fun k hk=>?_,U6.set fr (fun k hk l b hb=>low k hk l b.2 (qR hb)) ((U6.is l e8).up kX) (Int.le_of_lt c),fun l' b' h'=>?_⟩
      ·dsimp only
       by_cases e:k=u
       ·rw[if_pos e,if_pos e];exact jU.put gM
       ·rw[if_neg e,if_neg e];exact(oq k hk).put gM
      ·dsimp only;rw[if_pos rfl];show _<=(v l).1+bT t;rw[rt] at h';rcases ki h' with z | z
       ·rw[if_neg (K6 l' b'.2 (qR (List.mem_of_mem_take z)))];have:=oA l' b' z;omega
       ·cases z;rw[if_neg nl];exact Int.le_refl _
     ·have c:¬((v l).1+bT t > (v u).1):=fun z=>c (decide_eq_true z)
      refine⟨_,_,_,v,ad,rfl,zH,gM,oq,U6,fun l' b' h'=>?_⟩;rw[rt] at h';rcases ki h' with z | z
      ·exact oA l' b' z
      ·cases z;show(v l).1+bT t<=_;omega
    ·rintro σ H6 ⟨v4,v5,v6,v,ad,rfl,oz,fQ,kW,U6,oA⟩;rw[List.length_map,zA,List.take_length] at oA;exact⟨_,_,_,_,v,ad,rfl,oz,fQ,kW,by rw[tk];exact U6.snoc oA⟩
  ·rintro σ H5 ⟨v3,v4,v5,v6,v,ad,rfl,gX,dO,mJ,U5⟩;rw[List.length_map,List.take_length] at U5;have all:∀k∈keys,k∈os:=fun k hk=>EY.mem_iff.mpr hk
   exact .inr ⟨pc,_,dO,fun tW=>⟨_,rfl,k pc tW v ad _ ((hh gX).upd kY) kY zb (fun k hk=>(mJ k hk).put dO) fun k hk=>⟨U5.is k hk,U5.lo cl all hk⟩⟩⟩
def Vx:Sp:=fun vs H Q _=>∃(p pm pu pt pf:Addr)(lo hi:Int)(us:List Str)(ai:List Addr)(ts:List av)(af:List Addr)(fs:List bI),vs = [.ref p]/\cU K H p pm pu pt pf lo hi us ai ts af fs/\cJ (aZ ts (ts.zip ai)) (zn ts (au us))/\
 ∀(pd:Addr)(o:Obj)(v:Str->bZ)(ad:Str->Addr)(H':Hp),ah H H'->H pd=none->H' pd=some (.eB o (.dK (dV (zn ts (au us)) fun k=>.ref (ad k))))->(∀k∈zn ts (au us),bh H H' (ad k) (v k))->
  (∀k∈zn ts (au us),Dn (bu ts (ts.zip ai)) (iN ts hi (fs.zip af)) k (v k)/\gJ (bu ts (ts.zip ai)) (iN ts hi (fs.zip af)) k (v k).1)->Q (.ref pd) H'
set_option maxHeartbeats 16000000 in
theorem zI(T:Tx K mg w zj zm zg zp):cD P w K mg base "chains_down" ["telling"] 8 (Vx (K:=K)):=by
 refine T.SK.has aQ (fun vs H Q E h=>?_) (fun f aR A outer s H vs Q E hr h=>?_)
 ·obtain⟨p,pm,pu,pt,pf,lo,hi,us,ai,ts,af,fs,rfl,_⟩:=h;rfl
 ·obtain⟨p,pm,pu,pt,pf,lo,hi,us,ai,ts,af,fs,rfl,hF,pA,k⟩:=h;have hu:=fm hr;refine⟨_,(zc (sset (i:=1) aQ.nd (aH (ng T) (za (pv 0) zf)))
   (zc (sset (i:=2) aQ.nd (aH (EU T) (za (aH (KY T) (za (pv 0) zf)) zf)))
   (zc (dZ PassesOwn.never rfl (RW K rfl (by rfl) T.reversed (aH (vh T) (za (pv 0) zf))) (cL (i:=3) aQ.nd) (zi (dZ PassesOwn.never rfl (eF K rfl (zw hu (pv 1) (pv 3) (fun _ _=>rfl))) (mR K rfl rfl (gZ (cL (i:=4) aQ.nd) (gZ (cL (i:=5) aQ.nd) mO))) (zc (sset (i:=6) aQ.nd (aH (Vn T) (za (zw hu (pv 2) (pv 3) (fun _ _=>rfl)) (za (pv 5) zf))))
     (zi (cR (cE uz (ay (zo K rfl) (pv 6) zh) (ay (zo K rfl) (zw hu (pv 2) (pv 4) (fun _ _=>rfl)) zh) (bW _)) (zi (g7 hu (pv 2) (pv 4) (pv 6) rfl)) cX))))))
   (zi (qM (zz (pv 2))))))),?_⟩
  have knd:=nO (ts:=ts) hF.cz.nd;have lk:=hF.cz.gv;have lf:=hF.mw;have cl:=qS (ai:=ai) hF.cz.ends;have hR:∀k l b,(l,b)∈bu ts (ts.zip ai) k->H b.2=some (.tup (bg b.1))/\iM us b.1:=fun k l b h=>DM hF.cz h
  have uF:∀k m m',iN ts hi (fs.zip af) k m->iN ts hi (fs.zip af) k m'->m.1=m'.1:=fun k m m' h h'=>by rw[h.high lf,h'.high lf]
  have nr:=pA;rw[mY] at nr;refine⟨_,rfl,p,pu,pt,_,_,us,ai,ts,rfl,hF.cz,fun pb ob pD bs H1 s1 zC hB=>?_⟩;rw[mY] at hB
  try dsimp only[zx]
  refine⟨_,rfl,p,pm,pu,pt,pf,lo,hi,us,ai,ts,af,fs,rfl,hF.same s1,fun pl ol vl al H2 s2 K2 hL mK=>?_⟩;refine⟨pl,ol,_,vl,al,false,rfl,hL,knd,lk,fun pc oc adc H3 s3 zD hC tY=>?_⟩;have hC:H3 pc=some (.dK (dV (zn ts (au us)) fun k=>.ref (adc k))):=hC;have zF:=s2.trans s3;have zG:=s1.trans zF
  try dsimp only[zx]
  refine⟨_,rfl,p,pu,pt,_,_,us,ai,ts,rfl,(hF.same zG).cz,pA,fun po os H4 s4 tK mG O EY=>?_⟩;have qu:=hB.same (zF.trans s4);have mH:=s4 _ _ hC;have tZ:=zG.trans s4;have kY:H pc=none:=(s1.trans s2).free zD;have yK:po≠pc:=fun z=>by rw[z,hC] at tK;cases tK
  have uf:∀k∈zn ts (au us),bh H H4 (adc k) ((vl k).1,(vl k).2,[]):=fun k hk=>((tY k hk).same s4).old (s1.trans s2)
  have mK:∀k∈zn ts (au us),iN ts hi (fs.zip af) k (vl k):=mK;rw[mY] at O;clear pA hB hC tY;generalize zn ts (au us)=keys at *;generalize bu ts (ts.zip ai)=R at *;generalize iN ts hi (fs.zip af)=F at *;have U0:iG R F keys [] (fun k=>((vl k).1,(vl k).2,[])):=⟨fun k hk=>Dn.bare (mK k hk),fun k hk m hm=>Int.le_of_eq (uF k m (vl k) hm (mK k hk)).symm,fun k hk=>by simp at hk⟩;have hh:∀{H':Hp},(∀b o,b≠pc->H4 b=some o->H' b=some o)->ah H H':=fun kp b o e=>kp b o (zv e kY) (tZ _ _ e)
  refine⟨po,os.map V.str,rfl,ao.of mG,RX (xs:=os.map V.str) (fun i σ H'=>∃(v3 v4 v5 v6:Option V)(v:Str->bZ)(ad:Str->Addr),σ = [some (.ref p),some (.ref pb),some (.ref pc),v3,v4,v5,v6]/\(∀b o,b≠pc->H4 b=some o->H' b=some o)/\H' pc=some (.dK (dV keys fun k=>.ref (ad k)))/\(∀k∈keys,bh H H' (ad k) (v k))/\iG R F keys (os.reverse.take i) v)
   ⟨none,none,none,none,_,adc,rfl,fun b o _ e=>e,mH,uf,by simpa using U0⟩ (fun i σ H' _ h=>by obtain⟨_,_,_,_,_,_,_,q,_⟩:=h;exact ao.of (q _ _ yK mG)) ?_ ?_⟩
  ·rintro i x σ H5 hx ⟨v3,v4,v5,v6,v,ad,rfl,gX,dO,mJ,U5⟩;rw[←List.map_reverse,List.getElem?_map] at hx;cases eu:os.reverse[i]? with
   | none=>rw[eu] at hx;cases hx
   | some u=>
    rw[eu] at hx;cases hx;have bQ:u∈keys:=O.sub u (List.mem_reverse.mp (List.mem_of_getElem? eu));obtain⟨fr,low⟩:=Qv O eu;have B5:=qu.keep mH gX;have zA:(bs u).length=(R u).length:=(Paired.length (qu.e u bQ)).trans DO;have tk:os.reverse.take (i+1)=os.reverse.take i++[u]:=by rw[List.take_add_one,eu];rfl
    try dsimp only[zx]
    refine⟨_,rfl,_,rfl,pb,_,rfl,B5.get bQ,pD u,rfl,⟨_,ao.of (B5.l u bQ)⟩,iK (xs:=(bs u).map V.ref) (fun j σ H'=>∃(v4 v5 v6:Option V)(v:Str->bZ)(ad:Str->Addr),σ = [some (.ref p),some (.ref pb),some (.ref pc),some (.str u),v4,v5,v6]/\(∀b o,b≠pc->H4 b=some o->H' b=some o)/\H' pc=some (.dK (dV keys fun k=>.ref (ad k)))/\(∀k∈keys,bh H H' (ad k) (v k))/\iG R F keys (os.reverse.take i) v/\∀l b,(l,b)∈(R u).take j->(v l).1<=(v u).1-bT b.1)
     ⟨v4,v5,v6,v,ad,rfl,gX,dO,mJ,U5,fun l b h=>by simp at h⟩ (fun j σ H' _ h=>by obtain⟨_,_,_,_,_,_,q,_⟩:=h;exact ao.of ((qu.keep mH q).l u bQ)) ?_ ?_⟩
    ·clear mJ dO U5 B5 gX;rintro j x σ H6 hx ⟨v4,v5,v6,v,ad,rfl,oz,fQ,kW,U6,oA⟩;have B6:=qu.keep mH oz;have q6:ah H H6:=hh oz;obtain⟨b,⟨l,r⟩,rfl,je,_,hb⟩:=mV (B6.e u bQ) hx;obtain⟨t,ht⟩:=DN je;have kX:(l,(t,r))∈R u:=List.mem_of_getElem? ht;obtain⟨zB,tok⟩:=hR u l (t,r) kX;have e8:l∈keys:=(cl _ _ _ kX).2;obtain⟨Vy,nl⟩:=low l r (qR kX);have rt:(R u).take (j+1)=(R u).take j++[(l,(t,r))]:=by rw[List.take_add_one,ht];rfl
     refine⟨b,_,rfl,aG.of hb,rfl,_,_,rfl,_,_,rfl,rfl,?_⟩
     try dsimp only[zx]
     have gu:=aU.k (k:=Sum.inr u) fQ;rw[jt bQ] at gu;have lv:(v u).2.2.length<=900:=by
      have:=(U6.is u bQ).short cl nr bQ;omega
     refine⟨_,rfl,_,rfl,pc,_,rfl,gu,_,rfl,ad u,r,v u,t,us,rfl,(kW u bQ).any,q6 _ _ zB,tok,lv,fun q H7 s7 fq hq=>?_⟩;have gM:=s7 _ _ fQ;have zH:∀b o,b≠pc->H4 b=some o->H7 b=some o:=fun b o n e=>s7 _ _ (oz b o n e)
     have oq:∀k∈keys,bh H H7 (ad k) (v k):=fun k hk=>(kW k hk).same s7
     have jU:=hq.old q6;have gl:=aU.k (k:=Sum.inr l) gM;rw[jt e8] at gl;obtain⟨lq,h1,_⟩:=id jU;obtain⟨lu,h2,_⟩:=oq l e8
     try dsimp only[zx]
     refine⟨_,rfl,q,_,_,_,rfl,rfl,aG.of h1,rfl,_,rfl,_,rfl,pc,_,rfl,gl,ad l,_,_,_,rfl,rfl,aG.of h2,rfl,_,_,rfl,rfl,_,rfl,?_⟩;refine aT (fun c=>?_) (fun c=>?_)
     ·have c:(v u).1-bT t<(v l).1:=of_decide_eq_true c;refine⟨_,rfl,_,rfl,_,rfl,pc,_,rfl,cG.k (k:=Sum.inr l) gM (by rw[fL];exact fP (by omega)),?_⟩;rw[AN e8,show(dV keys fun z=>if z=l then V.ref q else V.ref (ad z))=dV keys fun k=>V.ref (if k=l then q else ad k) from l9 fun z _=>by split<;>rfl];refine⟨_,_,_,fun k=>if k=l then((v u).1-bT t,(v u).2.1,(t,r)::(v u).2.2) else v k,fun k=>if k=l then q else ad k,rfl,fun b o n e=>by rw[zr n];exact zH b o n e,zb,fun k hk=>?_,U6.set Vy ((U6.is u bQ).dn kX) (Int.le_of_lt c),fun l' b' h'=>?_⟩
      ·dsimp only
       by_cases e:k=l
       ·rw[if_pos e,if_pos e];exact jU.put gM
       ·rw[if_neg e,if_neg e];exact(oq k hk).put gM
      ·dsimp only;rw[if_neg (Ne.symm nl)];rw[rt] at h';rcases ki h' with z | z
       ·have h8:=oA l' b' z
        by_cases e:l'=l
        ·rw[if_pos e];rw[e] at h8;show(v u).1-bT t<=_;omega
        ·rw[if_neg e];exact h8
       ·cases z;rw[if_pos rfl];exact Int.le_refl _
     ·have c:¬((v u).1-bT t<(v l).1):=fun z=>c (decide_eq_true z)
      refine⟨_,_,_,v,ad,rfl,zH,gM,oq,U6,fun l' b' h'=>?_⟩;rw[rt] at h';rcases ki h' with z | z
      ·exact oA l' b' z
      ·cases z;show(v l).1<=(v u).1-bT t;omega
    ·rintro σ H6 ⟨v4,v5,v6,v,ad,rfl,oz,fQ,kW,U6,oA⟩;rw[List.length_map,zA,List.take_length] at oA;exact⟨_,_,_,_,v,ad,rfl,oz,fQ,kW,by rw[tk];exact U6.snoc oA⟩
  ·rintro σ H5 ⟨v3,v4,v5,v6,v,ad,rfl,gX,dO,mJ,U5⟩;rw[List.length_map,←List.length_reverse (as:=os),List.take_length] at U5;have all:∀k∈keys,k∈os.reverse:=fun k hk=>List.mem_reverse.mpr (EY.mem_iff.mpr hk)
   exact .inr ⟨pc,_,dO,fun tW=>⟨_,rfl,k pc tW v ad _ ((hh gX).upd kY) kY zb (fun k hk=>(mJ k hk).put dO) fun k hk=>⟨U5.is k hk,U5.hi cl all hk⟩⟩⟩
theorem K7{H H':Hp}{e:Addr}(he:H e=none)(s:∀b o,b≠e->H b=some o->H' b=some o):ah H (del H' e):=fun b o h=>by
 have n:=zv h he;unfold del;rw[if_neg n];exact s b o n h
def Vz(C:Addr):Sp:=fun vs H Q E=>∃(p pu pt:Addr)(x y:V)(us:List Str)(ai:List Addr)(ts:List av),vs = [.ref p]/\iB K H p pu pt x y us ai ts/\(cJ (aZ ts (ts.zip ai)) (zn ts (au us))->∀H',ah H H'->Q .bO H')/\
 ∀(d q:Addr)(rs:List Addr)(H':Hp),ah H H'->H' d=some (.xd [("ties",.ref q)])->H' q=some (.lst (rs.map V.ref))->rs≠[]->rs.length<=64->ia (aZ ts (ts.zip ai)) (zn ts (au us)) rs->E (.ref C) (some d) H'
set_option maxHeartbeats 8000000 in
theorem K8(T:Tx K mg w zj zm zg zp):bX P w K mg base "refuse_round" ["telling"] 6 (Vz (K:=K) zm):=by
 refine T.JR.gW bM (fun vs H Q E h=>?_) (fun f aR A outer s H vs Q E hr h=>?_)
 ·obtain⟨p,pu,pt,x,y,us,ai,ts,rfl,_⟩:=h;rfl
 ·obtain⟨p,pu,pt,x,y,us,ai,ts,rfl,hT,kQ,kE⟩:=h;refine⟨_,(zc (sset (i:=1) bM.nd (aH (EB T) (za (pv 0) zf)))
   (zi (cR (cE (zev K rfl (gk hr)) (pv 1) (cI zf) (bW _)) (zi (Jw (Vh T) T.JG (hr.mono (by decide)) aA (by rfl) T.D9 (by decide) (za (pv 1) zf))) cX))),?_⟩
  refine⟨_,rfl,p,pu,pt,x,y,us,ai,ts,rfl,hT,fun q rs H1 s1 fq hq lr R=>?_⟩
  try dsimp only[zx]
  refine⟨_,rfl,by decide,fun e he=>?_⟩;have s2:=ah.new (o:=.lst []) he;refine⟨q,e,_,rfl,rfl,bP.lX (ao.of (s2 _ _ hq)) (ao.of zb),_,rfl,?_⟩;refine aT (fun c=>?_) (fun c=>?_)
  ·have c:rs≠[]:=fun z=>by rw[z] at c;simp at c
   have oh:=s2 _ _ hq;have q2:=s1.trans s2;generalize upd H1 e (.lst [])=H2 at oh q2;refine⟨_,rfl,fun o ho=>?_⟩;have t3:=ah.new (o:=dJ o zm none) ho;refine⟨o,q,_,rfl,zb,ao.of (t3 _ _ oh),by rw[List.length_map];omega,fun q' d n1 n2 f1 f2 n3=>?_⟩;refine⟨rfl,some d,zb,?_⟩;rw[zr n1] at f1;rw[zr n2] at f2;refine kE d q' rs _ (q2.trans (K7 ho fun b o' n h=>?_)) ?_ ?_ c lr R
   ·rw[zr n,zr (zv h f2),zr (zv h f1),zr n];exact h
   ·unfold del;rw[if_neg n2,zr n2,zb]
   ·unfold del;rw[if_neg n1,zr n1,zr (Ne.symm n3),zb]
  ·have c:rs = []:=by simpa using c
   refine kQ (fun s hs j hj r=>?_) _ (s1.trans s2);exact(R.dg.mpr ⟨s,hs,j,hj,r⟩) c
def VA(C:Addr):Sp:=fun vs H Q E=>∃(p pm pu pt pf:Addr)(lo hi:Int)(us:List Str)(ai:List Addr)(ts:List av)(af:List Addr)(fs:List bI),vs = [.ref p]/\cU K H p pm pu pt pf lo hi us ai ts af fs/\cJ (aZ ts (ts.zip ai)) (zn ts (au us))/\
 (∀H',ah H H'->jQ lo hi us ai ts af fs->Q .bO H')/\∀(d r:Addr)(c:bZ)(w:Str)(H':Hp),ah H H'->H' d=some (.xd [("row",.ref r)])->ym H' r c w->mZ lo hi us ai ts af fs c w->E (.ref C) (some d) H'
def VB(C1 C:Addr):Sp:=fun vs H Q E=>∃(p pm pu pt pf:Addr)(lo hi:Int)(us:List Str)(ai:List Addr)(ts:List av)(af:List Addr)(fs:List bI),vs = [.ref p]/\cU K H p pm pu pt pf lo hi us ai ts af fs/\(cJ (aZ ts (ts.zip ai)) (zn ts (au us))->∀H',ah H H'->jQ lo hi us ai ts af fs->Q .bO H')/\
 (∀(d q:Addr)(rs:List Addr)(H':Hp),ah H H'->H' d=some (.xd [("ties",.ref q)])->H' q=some (.lst (rs.map V.ref))->rs≠[]->rs.length<=64->ia (aZ ts (ts.zip ai)) (zn ts (au us)) rs->E (.ref C1) (some d) H')/\
 (cJ (aZ ts (ts.zip ai)) (zn ts (au us))->∀(d r:Addr)(c:bZ)(w:Str)(H':Hp),ah H H'->H' d=some (.xd [("row",.ref r)])->ym H' r c w->mZ lo hi us ai ts af fs c w->E (.ref C) (some d) H')
set_option maxHeartbeats 8000000 in
theorem zJ(T:Tx K mg w zj zm zg zp):bX P w K mg base "refuse_undated" ["telling"] 7 (VB (K:=K) zm zg):=by
 refine T.SH.gW dz (fun vs H Q E h=>?_) (fun f aR A outer s H vs Q E hr h=>?_)
 ·obtain⟨p,pm,pu,pt,pf,lo,hi,us,ai,ts,af,fs,rfl,_⟩:=h;rfl
 ·obtain⟨p,pm,pu,pt,pf,lo,hi,us,ai,ts,af,fs,rfl,hF,kN,ko,kR⟩:=h;refine⟨_,(zc (gA (jF (K8 T) aA (hr.mono (by decide)) (by rfl) (za (pv 0) zf)))
   (zc (sset (i:=1) dz.nd (aH (Vr T) (za (pv 0) zf)))
   (zi (cR (qA (LM (pv 1))) (zi (Jw (Vj T) T.JI (hr.mono (by decide)) aA (by rfl) T.Eb (by decide) (za (pv 1) zf))) cX)))),?_⟩
  refine⟨_,rfl,p,pu,pt,_,_,us,ai,ts,rfl,hF.cz,fun nr H1 s1=>?_,ko⟩
  try dsimp only[zx]
  refine⟨_,rfl,p,pm,pu,pt,pf,lo,hi,us,ai,ts,af,fs,rfl,hF.same s1,nr,fun H2 s2 no=>?_,fun q c w H2 s2 ra ri=>?_⟩
  ·try dsimp only[zx]
   refine⟨_,rfl,_,rfl,cT ?_⟩;exact kN nr _ (s1.trans s2) no
  ·try dsimp only[zx]
   refine⟨_,rfl,_,rfl,dD ?_⟩;obtain⟨l,h1,h2⟩:=ra;refine⟨_,rfl,fun e he=>?_⟩;have t3:=ah.new (o:=dJ e zg none) he;have lc:c.2.2.length<=900:=by
    obtain⟨k,m,hk,u,_⟩:=ri;have zK:=nr;rw[mY] at zK;have:=u.short (qS (ai:=ai) hF.cz.ends) zK hk;have:=hF.cz.gv;omega
   refine⟨e,q,l,.str c.2.1,.str w,_,rfl,zb,aG.of (t3 _ _ h1),ao.of (t3 _ _ h2),by rw[List.length_map];omega,fun q' r d n1 n2 n3 fq fr fd n4 n5 n6=>?_⟩;refine⟨rfl,some d,zb,?_⟩;rw[zr n1] at fq;rw[zr n2] at fr;rw[zr n3] at fd;refine kR nr d r c w _ (s1.trans (s2.trans (K7 he fun b o n h=>?_))) ?_ ⟨q',?_,?_⟩ ri
   ·rw[zr n,zr (zv h fd),zr (zv h fr),zr (zv h fq),zr n];exact h
   ·unfold del;rw[if_neg n3,zr n3,zb]
   ·unfold del;rw[if_neg n2,zr n2,zr (Ne.symm n6),zb]
   ·unfold del;rw[if_neg n1,zr n1,zr (Ne.symm n5),zr (Ne.symm n4),zb]
theorem By{us:List Str}{ts:List av}{ai rs:List Addr}(nr:cJ (aZ ts (ts.zip ai)) (zn ts (au us)))(hn:rs≠[])(R:ia (aZ ts (ts.zip ai)) (zn ts (au us)) rs):False:=by
 obtain⟨s,hs,j,hj,r⟩:=R.dg.mp hn;exact nr s hs j hj r
theorem VC(T:Tx K mg w zj zm zg zp):cD P w K mg base "refuse_undated" ["telling"] 7 (fun vs H Q _=>VA (K:=K) zg vs H Q (fun _ _ _=>False)):=(zJ T).good fun vs H Q E h=>by
 obtain⟨p,pm,pu,pt,pf,lo,hi,us,ai,ts,af,fs,e,hF,nr,kN,kR⟩:=h;exact⟨p,pm,pu,pt,pf,lo,hi,us,ai,ts,af,fs,e,hF,fun _=>kN,fun d q rs H' _ _ _ hn _ R=>By nr hn R,fun _=>kR⟩
def VD(H:Hp)(q:Addr)(keys:List Str)(f g:Str->Int):Prop:=∃as:List Addr,H q=some (.lst (as.map V.ref))/\Paired (fun a k=>H a=some (.tup [.str k,.int (f k),.int (g k)])) as keys
def VE(C1 C:Addr):Sp:=fun vs H Q E=>∃(p pm pu pt pf:Addr)(lo hi:Int)(us:List Str)(ai:List Addr)(ts:List av)(af:List Addr)(fs:List bI),vs = [.ref p]/\cU K H p pm pu pt pf lo hi us ai ts af fs/\
 (cJ (aZ ts (ts.zip ai)) (zn ts (au us))->∀(q:Addr)(f g:Str->Int)(H':Hp),ah H H'->H q=none->VD H' q (zn ts (au us)) f g->(∀k∈zn ts (au us),fW (bu ts (ts.zip ai)) (iH ts lo (fs.zip af)) k (f k))->(∀k∈zn ts (au us),gJ (bu ts (ts.zip ai)) (iN ts hi (fs.zip af)) k (g k))->jQ lo hi us ai ts af fs->Q (.ref q) H')/\
 (∀(d q:Addr)(rs:List Addr)(H':Hp),ah H H'->H' d=some (.xd [("ties",.ref q)])->H' q=some (.lst (rs.map V.ref))->rs≠[]->rs.length<=64->ia (aZ ts (ts.zip ai)) (zn ts (au us)) rs->E (.ref C1) (some d) H')/\
 (cJ (aZ ts (ts.zip ai)) (zn ts (au us))->∀(d r:Addr)(c:bZ)(w:Str)(H':Hp),ah H H'->H' d=some (.xd [("row",.ref r)])->ym H' r c w->mZ lo hi us ai ts af fs c w->E (.ref C) (some d) H')
set_option maxHeartbeats 8000000 in
theorem K9(T:Tx K mg w zj zm zg zp):bX P w K mg base "spans" ["telling"] 9 (VE (K:=K) zm zg):=by
 refine T.SQ.gW iJ (fun vs H Q E h=>?_) (fun f aR A outer s H vs Q E hr h=>?_)
 ·obtain⟨p,pm,pu,pt,pf,lo,hi,us,ai,ts,af,fs,rfl,_⟩:=h;rfl
 ·obtain⟨p,pm,pu,pt,pf,lo,hi,us,ai,ts,af,fs,rfl,hF,kN,ko,kR⟩:=h;have hu:=fm hr;refine⟨_,(zc (gA (jF (zJ T) aA (hr.mono (by decide)) (by rfl) (za (pv 0) zf)))
   (zc (sset (i:=1) iJ.nd (aH (ue T) (za (pv 0) zf)))
   (zc (sset (i:=2) iJ.nd (aH (zI T) (za (pv 0) zf)))
   (zi (zz (ly (own:=["name"]) (cap:=["ups","downs"]) (ix:=[1,2]) (gE:=zq (top 41)) rfl ⟨rfl,by decide +kernel,by decide +kernel,by decide +kernel,by decide +kernel⟩ rfl (mj (pv 1)) (fun _ _ _ _=>ig (i:=0) (show List.Nodup (["name","ups","downs"]:List Str) by decide +kernel) rfl (Or.inl rfl)) (fun _ _ _ _=>j5) (fun _ _ _ _=>(eS (za (pv 0) (za (ay (zo K rfl) (zw hu (pv 1) (pv 0) (fun _ _=>rfl)) zh) (za (ay (zo K rfl) (zw hu (pv 2) (pv 0) (fun _ _=>rfl)) zh) zf))))))))))),?_⟩
  have lk:=hF.cz.gv;refine⟨_,rfl,p,pm,pu,pt,pf,lo,hi,us,ai,ts,af,fs,rfl,hF,fun nr H1 s1 no=>?_,ko,kR⟩
  try dsimp only[zx]
  refine⟨_,rfl,p,pm,pu,pt,pf,lo,hi,us,ai,ts,af,fs,rfl,hF.same s1,nr,fun pa oa va aa H2 s2 La zL pZ ua=>?_⟩
  try dsimp only[zx]
  refine⟨_,rfl,p,pm,pu,pt,pf,lo,hi,us,ai,ts,af,fs,rfl,hF.same (s1.trans s2),nr,fun pb ob vb ab H3 s3 zC qv p7 ub=>?_⟩;have q3:=s1.trans (s2.trans s3);have ug:=s3 _ _ zL;have EZ:∀k∈zn ts (au us),bh H1 H3 (aa k) (va k):=fun k hk=>(pZ k hk).same s3
  have VF:=fun q H' s f h=>kN nr q (fun k=>(va k).1) (fun k=>(vb k).1) H' s f h (fun k hk=>(ua k hk).2) (fun k hk=>(ub k hk).2) no
  clear ua ub kN ko kR;generalize zn ts (au us)=keys at *
  try dsimp only[zx]
  refine⟨_,rfl,pa,oa,_,rfl,ug,fun D hD=>?_⟩;refine mS (AW (a:=pa) (ob:=oa) (kvs:=dV keys fun k=>.ref (aa k))) (fun i aq ys H'=>∃(w0:Option V)(as:List Addr),aq = [w0,some (.ref pa),some (.ref pb)]/\ys=as.map V.ref/\Paired (fun a k=>H' a=some (.tup [.str k,.int (va k).1,.int (vb k).1])) as (keys.take i)/\ah H3 H'/\H' D=some (.lst ys))
   ⟨none,[],rfl,rfl,.nil,ah.new hD,zb⟩ (fun i aq ys H' h=>?_) (by rw[List.length_map,fL];exact jC (by omega)) ?_ ?_
  ·obtain⟨_,as,_,rfl,E2,q,hd⟩:=h;refine⟨q _ _ ug,hd,?_⟩;have:=Paired.length E2;rw[List.length_take] at this;rw[List.length_map];omega
  ·rintro i x aq ys H4 hx ⟨w0,as,rfl,rfl,pr,q4,fT⟩;have dR:=eT hx;rw[xT,List.getElem?_map] at hx;cases eu:keys[i]? with
   | none=>rw[eu] at hx;cases hx
   | some u=>
    rw[eu] at hx;cases hx;have bL:u∈keys:=List.mem_of_getElem? eu;obtain⟨la,h1,_⟩:=(EZ u bL).same q4;obtain⟨lb,h2,_⟩:=(p7 u bL).same q4
    try dsimp only[zx]
    unfold gS;dsimp only;rw[if_pos rfl];refine⟨_,rfl,_,rfl,_,rfl,pa,_,rfl,iY (q4 _ _ ug) bL,aa u,_,_,_,rfl,rfl,aG.of h1,rfl,_,rfl,_,rfl,pb,_,rfl,iY (q4 _ _ qv) bL,ab u,_,_,_,rfl,rfl,aG.of h2,rfl,(by show 3<=sizeLine;decide),fun b1 jy=>?_⟩;have w1:=ah.new (o:=.tup [.str u,.int (va u).1,.int (vb u).1]) jy;have iD:=w1 _ _ fT;refine⟨iD,jD dR ⟨_,as++[b1],rfl,by rw[List.map_append];rfl,?_,(q4.trans w1).upd hD,zb⟩⟩;rw[List.take_add_one,eu];exact Paired.snoc (Paired.cW pr fun a z e=>kg iD _ _ (w1 _ _ e)) (kg iD _ _ zb)
  rintro aq ys H4 ⟨w0,as,rfl,rfl,pr,q4,fT⟩;rw[List.length_map,fL,List.take_length] at pr;exact VF D _ (q3.trans q4) (q3.free hD) ⟨as,fT,pr⟩
def vA(C:Addr)(H:Hp)(E:XK)(us:List Str)(ai:List Addr)(ts:List av):Prop:=∀(d q:Addr)(rs:List Addr)(H':Hp),ah H H'->H' d=some (.xd [("ties",.ref q)])->H' q=some (.lst (rs.map V.ref))->rs≠[]->rs.length<=64->ia (aZ ts (ts.zip ai)) (zn ts (au us)) rs->E (.ref C) (some d) H'
theorem vA.same{C:Addr}{H H':Hp}{E:XK}{us:List Str}{ai:List Addr}{ts:List av}(h:vA C H E us ai ts)(s:ah H H'):vA C H' E us ai ts:=fun d q rs H2 s2=>h d q rs H2 (s.trans s2)
def pF(C:Addr)(more:List V->Prop):Sp:=fun vs H Q E=>∃(p pu pt:Addr)(x y:V)(us:List Str)(ai:List Addr)(ts:List av)(rest:List V),vs = .ref p::rest/\more rest/\iB K H p pu pt x y us ai ts/\¬cJ (aZ ts (ts.zip ai)) (zn ts (au us))/\vA C H E us ai ts
theorem VG(T:Tx K mg w zj zm zg zp):bX P w K mg base "order" ["telling"] 7 (pF (K:=K) zm fun r=>r = []):=by
 refine T.JS.gW dY (fun vs H Q E h=>?_) (fun f aR A outer s H vs Q E hr h=>?_)
 ·obtain⟨p,pu,pt,x,y,us,ai,ts,rest,rfl,rfl,_⟩:=h;rfl
 ·obtain⟨p,pu,pt,x,y,us,ai,ts,rest,rfl,rfl,hT,nn,kE⟩:=h;have hu:=fm hr;refine⟨_,(zc (gA (jF (K8 T) aA (hr.mono (by decide)) (by rfl) (za (pv 0) zf)))
   (zc (sset (i:=1) dY.nd (aH (ng T) (za (pv 0) zf)))
   (zc (sset (i:=2) dY.nd jm)
   (zc (uv aA.own (cE uz (fJ Gw (by rfl) T.len boot_len (za (pv 2) zf)) (fJ HQ (by rfl) T.len boot_len (za (pv 1) zf)) (bW _)) (zi (g7 hu (pv 2) (aH (Kp T) (za (pv 1) (za (pv 2) zf))) lP rfl)))
   (zi (zz (pO (CS rfl) (by rfl) T.list PyProof.Rows.boot_list (za (pv 2) zf)))))))),?_⟩
  exact⟨_,rfl,p,pu,pt,x,y,us,ai,ts,rfl,hT,fun nr=>absurd nr nn,kE⟩
theorem E3(T:Tx K mg w zj zm zg zp):bX P w K mg base "order" ["telling"] 7 (fun vs H Q E=>Kq (K:=K) vs H Q E\/pF (K:=K) zm (fun r=>r = []) vs H Q E):=(vh T).x.or (VG T)
theorem VH(T:Tx K mg w zj zm zg zp):bX P w K mg base "all_beneath" ["telling"] 8 (pF (K:=K) zm fun r=>r = []):=by
 refine T.JU.gW az (fun vs H Q E h=>?_) (fun f aR A outer s H vs Q E hr h=>?_)
 ·obtain⟨p,pu,pt,x,y,us,ai,ts,rest,rfl,rfl,_⟩:=h;rfl
 ·obtain⟨p,pu,pt,x,y,us,ai,ts,rest,rfl,rfl,hT,nn,kE⟩:=h;have hu:=fm hr;refine⟨_,(zc (sset (i:=1) az.nd (aH (ng T) (za (pv 0) zf)))
   (zc (sset (i:=2) az.nd jm)
   (zc (dZ aA.own rfl (eF K rfl (jF (E3 T) aA (hr.mono (by decide)) (by rfl) (za (pv 0) zf))) (cL (i:=3) az.nd) (zc (g7 hu (pv 2) (pv 3) jm rfl)
    (zi (dZ aA.own rfl (eF K rfl (zw hu (pv 1) (pv 3) (fun _ _=>rfl))) (mR K rfl rfl (gZ (cL (i:=4) az.nd) (gZ (cL (i:=5) az.nd) mO))) (zc (g7 hu (zw hu (pv 2) (pv 3) (fun _ _=>rfl)) (pv 4) lP rfl)
     (zi (gA (jM K rfl PySem.F.plainAttrs_dict PySem.F.slot_dict_update PySem.F.type_dict_update Ih (zw hu (pv 2) (pv 3) (fun _ _=>rfl)) (za (zw hu (pv 2) (pv 4) (fun _ _=>rfl)) zf)))))))))
   (zi (Ii (zz (pv 2))))))),?_⟩
  refine⟨_,rfl,p,pu,pt,x,y,us,ai,ts,rfl,hT,fun pd ob ad bs H1 s1 jz hB=>?_⟩
  try dsimp only[zx]
  refine fun pe E4=>?_
  have s2:=ah.new (o:=.dK []) E4
  try dsimp only[zx]
  exact⟨_,rfl,.inr ⟨p,pu,pt,x,y,us,ai,ts,[],rfl,rfl,hT.same (s1.trans s2),nn,kE.same (s1.trans s2)⟩⟩
theorem Lb(T:Tx K mg w zj zm zg zp):bX P w K mg base "all_beneath" ["telling"] 8 (fun vs H Q E=>KC (K:=K) vs H Q E\/pF (K:=K) zm (fun r=>r = []) vs H Q E):=(EH T).x.or (VH T)
theorem VI(T:Tx K mg w zj zm zg zp):bX P w K mg base "drawn" ["telling"] 9 (pF (K:=K) zm fun r=>r = []):=by
 refine T.JV.gW aY (fun vs H Q E h=>?_) (fun f aR A outer s H vs Q E hr h=>?_)
 ·obtain⟨p,pu,pt,x,y,us,ai,ts,rest,rfl,rfl,_⟩:=h;rfl
 ·obtain⟨p,pu,pt,x,y,us,ai,ts,rest,rfl,rfl,hT,nn,kE⟩:=h;have hu:=fm hr;refine⟨_,(zc (sset (i:=1) aY.nd (aH (ng T) (za (pv 0) zf)))
   (zc (sset (i:=2) aY.nd (jF (Lb T) aA (hr.mono (by decide)) (by rfl) (za (pv 0) zf)))
   (zc (sset (i:=3) aY.nd Gm)
   (zc (dZ aA.own rfl (mj (pv 1)) (cL (i:=4) aY.nd) (zi (dZ aA.own rfl (eF K rfl (zw hu (pv 1) (pv 4) (fun _ _=>rfl))) (mR K rfl rfl (gZ (cL (i:=5) aY.nd) (gZ (cL (i:=6) aY.nd) mO))) (zi (cR (pN (oK (aH (KH T) (za (pv 2) (za (pv 4) (za (pv 5) zf)))))) (zi (g7 hu (pv 3) (eS (za (pv 4) (za (pv 5) zf))) lP rfl)) cX)))))
   (zi (zz (fJ (Ij (K:=K) rfl rfl) (by rfl) T.sorted PyProof.Rows.boot_sorted (za (pv 3) zf)))))))),?_⟩
  refine⟨_,rfl,p,pu,pt,x,y,us,ai,ts,rfl,hT,fun pd ob ad bs H1 s1 jz hB=>?_⟩
  try dsimp only[zx]
  exact⟨_,rfl,.inr ⟨p,pu,pt,x,y,us,ai,ts,[],rfl,rfl,hT.same s1,nn,kE.same s1⟩⟩
theorem Lc(T:Tx K mg w zj zm zg zp):bX P w K mg base "drawn" ["telling"] 9 (fun vs H Q E=>KI (K:=K) vs H Q E\/pF (K:=K) zm (fun r=>r = []) vs H Q E):=(EN T).x.or (VI T)
theorem VJ(T:Tx K mg w zj zm zg zp):bX P w K mg base "walk" ["telling","upper","lower"] 10 (pF (K:=K) zm fun r=>∃a b:Str,r = [.str a,.str b]):=by
 refine T.JW.gW bN (fun vs H Q E h=>?_) (fun f aR A outer s H vs Q E hr h=>?_)
 ·obtain⟨p,pu,pt,x,y,us,ai,ts,rest,rfl,⟨a,b,rfl⟩,_⟩:=h;rfl
 ·obtain⟨p,pu,pt,x,y,us,ai,ts,rest,rfl,⟨a,b,rfl⟩,hT,nn,kE⟩:=h;have hu:=fm hr;refine⟨_,(zc (sset (i:=3) bN.nd (aH (qj T) (za (ay (zo K rfl) (pv 0) zh) (za (ay (zo K rfl) (pv 0) zh) zf))))
   (zc (sset (i:=4) bN.nd (jF (Lb T) aA (hr.mono (by decide)) (by rfl) (za (pv 0) zf)))
   (zc (sset (i:=5) bN.nd (zw hu (pv 3) (pv 2) (fun _ _=>rfl)))
   (zc (cR (qA (wK hu (pv 5) (zw hu (pv 4) (zw hu (pv 3) (pv 1) (fun _ _=>rfl)) (fun _ _=>rfl)))) (zi (zz (cI zf))) cX)
   (zc (sset (i:=6) bN.nd (jF (Lc T) aA (hr.mono (by decide)) (by rfl) (za (pv 0) zf)))
   (zc (sset (i:=7) bN.nd (cI (za (zw hu (pv 3) (pv 1) (fun _ _=>rfl)) zf)))
   (zc (uv aA.own (cE Ah (ay (dS K rfl) (pv 7) (vU vX zh)) (pv 5) (bW _)) (zi (gA (jM K rfl PySem.F.plainAttrs_list PySem.F.slot_list_append PySem.F.type_list_append j4 (pv 7) (za (aH (KN T) (za (pv 5) (za (ay (dS K rfl) (pv 7) (vU vX zh)) (za (pv 6) (za (pv 4) zf))))) zf)))))
   (zi (zz (pv 7)))))))))),?_⟩
  refine⟨_,rfl,p,_,_,_,rfl,rfl,hT.p,rfl,_,rfl,p,_,_,_,rfl,rfl,hT.p,rfl,pu,pt,us,ai,ts,rfl,hT.u,hT.t,hT.tt,hT.nd,by have:=hT.ul;omega,hT.ends,fun pn H1 tG hn s1=>?_⟩
  try dsimp only[zx]
  exact⟨_,rfl,.inr ⟨p,pu,pt,x,y,us,ai,ts,[],rfl,rfl,hT.same s1,nn,kE.same s1⟩⟩
theorem VL(T:Tx K mg w zj zm zg zp):bX P w K mg base "walk" ["telling","upper","lower"] 10 (fun vs H Q E=>KO (K:=K) vs H Q E\/pF (K:=K) zm (fun r=>∃a b:Str,r = [.str a,.str b]) vs H Q E):=(U4 T).x.or (VJ T)
theorem VM(T:Tx K mg w zj zm zg zp):bX P w K mg base "levels" ["telling"] 8 (pF (K:=K) zm fun r=>r = []):=by
 refine T.JX.gW aW (fun vs H Q E h=>?_) (fun f aR A outer s H vs Q E hr h=>?_)
 ·obtain⟨p,pu,pt,x,y,us,ai,ts,rest,rfl,rfl,_⟩:=h;rfl
 ·obtain⟨p,pu,pt,x,y,us,ai,ts,rest,rfl,rfl,hT,nn,kE⟩:=h;have hu:=fm hr;refine⟨_,(zc (sset (i:=1) aW.nd (aH (ng T) (za (pv 0) zf)))
   (zc (sset (i:=2) aW.nd jm)
   (zc (sset (i:=3) aW.nd (cI zf))
   (zc (dZ aA.own rfl (eF K rfl (jF (E3 T) aA (hr.mono (by decide)) (by rfl) (za (pv 0) zf))) (cL (i:=4) aW.nd) (zc (sset (i:=5) aW.nd (HS K rfl 0 rfl (by rfl) T.max (ly (own:=["lower","tie"]) (cap:=["numbers"]) (ix:=[2]) (gE:=zq (top 39)) rfl ⟨rfl,by decide +kernel,by decide +kernel,by decide +kernel,by decide +kernel⟩ rfl (eF K rfl (zw hu (pv 1) (pv 4) (fun _ _=>rfl))) (fun _ _ _ _=>mR (n:=2) K rfl rfl (gZ (ig (i:=0) (show List.Nodup (["lower","tie","numbers"]:List Str) by decide +kernel) rfl (Or.inl rfl)) (gZ (ig (i:=1) (show List.Nodup (["lower","tie","numbers"]:List Str) by decide +kernel) rfl (Or.inl rfl)) mO))) (fun _ _ _ _=>j5) (fun _ _ _ _=>(c9 jJ (zw hu (pv 2) (pv 0) (fun _ _=>rfl)) zh)))))
    (zc (g7 hu (pv 2) (pv 4) (pv 5) rfl)
    (zc (cR (cE fZ (pv 5) (fJ (lA K rfl) (by rfl) T.len boot_len (za (pv 3) zf)) (bW _)) (zi (gA (jM K rfl PySem.F.plainAttrs_list PySem.F.slot_list_append PySem.F.type_list_append j4 (pv 3) (za (cI zf) zf)))) cX)
    (zi (gA (jM K rfl PySem.F.plainAttrs_list PySem.F.slot_list_append PySem.F.type_list_append j4 (ay (dS K rfl) (pv 3) (pv 5)) (za (pv 4) zf))))))))
   (zi (zz (ly (own:=["row"]) (cap:=[]) (ix:=[]) (gE:=zq (top 39)) rfl ⟨rfl,by decide +kernel,by decide +kernel,by decide +kernel,by decide +kernel⟩ rfl (eF K rfl (pv 3)) (fun _ _ _ _=>ig (i:=0) (show List.Nodup (["row"]:List Str) by decide +kernel) rfl (Or.inl rfl)) (fun _ _ _ _=>j5) (fun _ _ _ _=>(fJ (Dk (K:=K) rfl) (by rfl) T.sorted PyProof.Rows.boot_sorted (za (pv 0) zf)))))))))),?_⟩
  refine⟨_,rfl,p,pu,pt,x,y,us,ai,ts,rfl,hT,fun pd ob ad bs H1 s1 jz hB=>?_⟩
  try dsimp only[zx]
  refine fun pe E4=>?_
  have s2:=ah.new (o:=.dK []) E4
  try dsimp only[zx]
  refine⟨by decide,fun pr qo=>?_⟩;have s3:=ah.new (o:=.lst []) qo;have q3:=s1.trans (s2.trans s3)
  try dsimp only[zx]
  exact⟨_,rfl,.inr ⟨p,pu,pt,x,y,us,ai,ts,[],rfl,rfl,hT.same q3,nn,kE.same q3⟩⟩
theorem VN(T:Tx K mg w zj zm zg zp):bX P w K mg base "levels" ["telling"] 8 (fun vs H Q E=>Kr (K:=K) vs H Q E\/pF (K:=K) zm (fun r=>r = []) vs H Q E):=(Ks T).x.or (VM T)
def E5(H0 H:Hp)(r la lb:Addr)(cu cd:bZ):Prop:=∃a b,H r=some (.tup [.ref a,.ref b])/\H a=some (.tup [.str cu.2.1,.ref la])/\H b=some (.tup [.str cd.2.1,.ref lb])/\H la=some (.lst (cu.2.2.map fun p=>V.ref p.2))/\H lb=some (.lst (cd.2.2.map fun p=>V.ref p.2))/\H0 la=none/\H0 lb=none/\la≠lb
def Ld:Sp:=fun vs H Q _=>∃(p pm pu pt pf:Addr)(lo hi:Int)(us:List Str)(ai:List Addr)(ts:List av)(af:List Addr)(fs:List bI)(nm:Str),vs = [.ref p,.str nm]/\cU K H p pm pu pt pf lo hi us ai ts af fs/\cJ (aZ ts (ts.zip ai)) (zn ts (au us))/\jQ lo hi us ai ts af fs/\nm∈us/\
 ∀(r la lb:Addr)(cu cd:bZ)(H':Hp),ah H H'->E5 H H' r la lb cu cd->Up (bu ts (ts.zip ai)) (iH ts lo (fs.zip af)) (aj ts nm) cu->fW (bu ts (ts.zip ai)) (iH ts lo (fs.zip af)) (aj ts nm) cu.1->Dn (bu ts (ts.zip ai)) (iN ts hi (fs.zip af)) (aj ts nm) cd->gJ (bu ts (ts.zip ai)) (iN ts hi (fs.zip af)) (aj ts nm) cd.1->Q (.ref r) H'
set_option maxHeartbeats 8000000 in
theorem VO(T:Tx K mg w zj zm zg zp):cD P w K mg base "reasons" ["telling","name"] 9 (Ld (K:=K)):=by
 refine T.JT.has bG (fun vs H Q E h=>?_) (fun f aR A outer s H vs Q E hr h=>?_)
 ·obtain⟨p,pm,pu,pt,pf,lo,hi,us,ai,ts,af,fs,nm,rfl,_⟩:=h;rfl
 ·obtain⟨p,pm,pu,pt,pf,lo,hi,us,ai,ts,af,fs,nm,rfl,hF,nr,no,jc,k⟩:=h;have hu:=fm hr;refine⟨_,(zc (gA (aH (VC T) (za (pv 0) zf)))
   (zc (sset (i:=2) bG.nd (zw hu (aH (qj T) (za (ay (zo K rfl) (pv 0) zh) (za (ay (zo K rfl) (pv 0) zh) zf))) (pv 1) (fun _ _=>rfl)))
   (zc (sset (i:=3) bG.nd (zw hu (aH (ue T) (za (pv 0) zf)) (pv 2) (fun _ _=>rfl)))
   (zc (sset (i:=4) bG.nd (zw hu (aH (zI T) (za (pv 0) zf)) (pv 2) (fun _ _=>rfl)))
   (zi (zz (eS (za (lT (AE K rfl) (pv 3) (kC zh) nC) (za (lT (AE K rfl) (pv 4) (kC zh) nC) zf))))))))),?_⟩
  have dW:=hF.cz.ends;have e8:=Dw (ts:=ts) dW jc;refine⟨_,rfl,p,pm,pu,pt,pf,lo,hi,us,ai,ts,af,fs,rfl,hF,nr,fun H1 s1 _=>?_,fun d r c w H1 s1 _ _ ri=>?_⟩
  ·have F1:=hF.same s1;have T1:=F1.cz
   try dsimp only[zx]
   refine⟨_,rfl,p,_,_,_,rfl,rfl,T1.p,rfl,_,rfl,p,_,_,_,rfl,rfl,T1.p,rfl,pu,pt,us,ai,ts,rfl,T1.u,T1.t,T1.tt,T1.nd,by have:=T1.ul;omega,dW,fun pn H2 tG hn s2=>?_⟩;have g1:=aU.k (k:=Sum.inr nm) hn;rw[kh jc] at g1;refine⟨_,rfl,pn,_,rfl,g1,?_⟩
   try dsimp only[zx]
   refine⟨_,rfl,p,pm,pu,pt,pf,lo,hi,us,ai,ts,af,fs,rfl,F1.same s2,nr,fun pa oa va aa H3 s3 La zL pZ ua=>?_⟩;refine⟨_,rfl,pa,_,rfl,iY zL e8,?_⟩
   try dsimp only[zx]
   have q3:=s1.trans (s2.trans s3);refine⟨_,rfl,p,pm,pu,pt,pf,lo,hi,us,ai,ts,af,fs,rfl,hF.same q3,nr,fun pb ob vb ab H4 s4 zC qv p7 ub=>?_⟩;refine⟨_,rfl,pb,_,rfl,iY qv e8,?_⟩;obtain⟨la,a1,a2,a3⟩:=pZ _ e8;obtain⟨lb,b1,b2,b3⟩:=p7 _ e8;have VP:=s4 _ _ a1;have VQ:=s4 _ _ a2;have VR:la≠lb:=zv a2 b3
   try dsimp only[zx]
   refine⟨_,rfl,1,rfl,aa (aj ts nm),_,rfl,aG.of VP,by show ¬(HT.bR 3 0 (some 1)=0/\HT.bR 3 3 none=3);decide,fun c1 VS=>?_⟩;have t1:=ah.new (o:=.tup [.str (va (aj ts nm)).2.1,.ref la]) VS;refine⟨_,rfl,1,rfl,ab (aj ts nm),_,rfl,aG.of (t1 _ _ b1),by show ¬(HT.bR 3 0 (some 1)=0/\HT.bR 3 3 none=3);decide,fun c2 rX=>?_⟩;have t2:=ah.new (o:=.tup [.str (vb (aj ts nm)).2.1,.ref lb]) rX;refine⟨by show 2<=sizeLine;decide,fun r nj=>?_⟩;have t3:=ah.new (o:=.tup [.ref c1,.ref c2]) nj;have vB:=t1.trans (t2.trans t3);refine k r la lb (va (aj ts nm)) (vb (aj ts nm)) _ (q3.trans (s4.trans vB)) ⟨c1,c2,zb,t3 _ _ (t2 _ _ zb),t3 _ _ zb,vB _ _ VQ,vB _ _ b2,(s1.trans s2).free a3,q3.free b3,VR⟩ (ua _ e8).1 (ua _ e8).2 (ub _ e8).1 (ub _ e8).2
  ·obtain⟨kk,m,hk,u,g,_,hl,_⟩:=ri;have:=no kk hk c m u g;omega
def Le(C:Addr)(H:Hp)(E:XK)(lo hi:Int)(us:List Str)(ai:List Addr)(ts:List av)(af:List Addr)(fs:List bI):Prop:=∀(d r:Addr)(c:bZ)(w:Str)(H':Hp),ah H H'->H' d=some (.xd [("row",.ref r)])->ym H' r c w->mZ lo hi us ai ts af fs c w->E (.ref C) (some d) H'
def BA(C1 C:Addr)(more:List V->Prop):Sp:=fun vs H Q E=>∃(p pm pu pt pf:Addr)(lo hi:Int)(us:List Str)(ai:List Addr)(ts:List av)(af:List Addr)(fs:List bI)(rest:List V),vs = .ref p::rest/\more rest/\cU K H p pm pu pt pf lo hi us ai ts af fs/\¬(cJ (aZ ts (ts.zip ai)) (zn ts (au us))/\jQ lo hi us ai ts af fs)/\vA C1 H E us ai ts/\(cJ (aZ ts (ts.zip ai)) (zn ts (au us))->Le C H E lo hi us ai ts af fs)
theorem VT(T:Tx K mg w zj zm zg zp):bX P w K mg base "reasons" ["telling","name"] 9 (BA (K:=K) zm zg fun r=>∃a:Str,r = [.str a]):=by
 refine T.JT.gW bG (fun vs H Q E h=>?_) (fun f aR A outer s H vs Q E hr h=>?_)
 ·obtain⟨p,pm,pu,pt,pf,lo,hi,us,ai,ts,af,fs,rest,rfl,⟨a,rfl⟩,_⟩:=h;rfl
 ·obtain⟨p,pm,pu,pt,pf,lo,hi,us,ai,ts,af,fs,rest,rfl,⟨a,rfl⟩,hF,nn,ko,kR⟩:=h;have hu:=fm hr;refine⟨_,(zc (gA (jF (zJ T) aA (hr.mono (by decide)) (by rfl) (za (pv 0) zf)))
   (zc (sset (i:=2) bG.nd (zw hu (aH (qj T) (za (ay (zo K rfl) (pv 0) zh) (za (ay (zo K rfl) (pv 0) zh) zf))) (pv 1) (fun _ _=>rfl)))
   (zc (sset (i:=3) bG.nd (zw hu (aH (ue T) (za (pv 0) zf)) (pv 2) (fun _ _=>rfl)))
   (zc (sset (i:=4) bG.nd (zw hu (aH (zI T) (za (pv 0) zf)) (pv 2) (fun _ _=>rfl)))
   (zi (zz (eS (za (lT (AE K rfl) (pv 3) (kC zh) nC) (za (lT (AE K rfl) (pv 4) (kC zh) nC) zf))))))))),?_⟩
  exact⟨_,rfl,p,pm,pu,pt,pf,lo,hi,us,ai,ts,af,fs,rfl,hF,fun nr _ _ no=>absurd ⟨nr,no⟩ nn,ko,kR⟩
theorem VU(T:Tx K mg w zj zm zg zp):bX P w K mg base "reasons" ["telling","name"] 9 (fun vs H Q E=>Ld (K:=K) vs H Q E\/BA (K:=K) zm zg (fun r=>∃a:Str,r = [.str a]) vs H Q E):=(VO T).x.or (VT T)
def Lf(C:Addr):Sp:=fun vs H Q E=>∃(p pm pu pt pf:Addr)(lo hi:Int)(us:List Str)(ai:List Addr)(ts:List av)(af:List Addr)(fs:List bI)(nm:Str)(y:Int)(f g:Str->Int),vs = [.ref p,.str nm,.int y]/\cU K H p pm pu pt pf lo hi us ai ts af fs/\cJ (aZ ts (ts.zip ai)) (zn ts (au us))/\jQ lo hi us ai ts af fs/\nm∈us/\fs.length<=59/\
 (∀k∈zn ts (au us),fW (bu ts (ts.zip ai)) (iH ts lo (fs.zip af)) k (f k))/\(∀k∈zn ts (au us),gJ (bu ts (ts.zip ai)) (iN ts hi (fs.zip af)) k (g k))/\
 (f (aj ts nm)<=y->y<=g (aj ts nm)->∀(q:Addr)(as:List Addr)(h:Str->Int)(H':Hp),ah H H'->H q=none->H' q=some (.lst (as.map V.ref))->Paired (fun a k=>H' a=some (.tup [.str k,.int (h k)])) as (zn ts (au us))->Dt (bu ts (ts.zip ai)) (zn ts (au us)) f g h (aj ts nm) y->Q (.ref q) H')/\
 (¬(f (aj ts nm)<=y/\y<=g (aj ts nm))->∀H',ah H H'->E (.ref C) none H')
set_option maxHeartbeats 16000000 in
theorem VV(T:Tx K mg w zj zm zg zp):bX P w K mg base "dating" ["telling","name","year"] 9 (Lf (K:=K) zp):=by
 refine T.JY.gW bU (fun vs H Q E h=>?_) (fun f aR A outer s H vs Q E hr h=>?_)
 ·obtain⟨p,pm,pu,pt,pf,lo,hi,us,ai,ts,af,fs,nm,y,f,g,rfl,_⟩:=h;rfl
 ·obtain⟨p,pm,pu,pt,pf,lo,hi,us,ai,ts,af,fs,nm,y,f,g,rfl,hF,nr,no,jc,fl,hf,hg,kQ,kE⟩:=h;have hu:=fm hr;refine⟨_,(zc (gA (jF (zJ T) aA (hr.mono (by decide)) (by rfl) (za (pv 0) zf)))
   (zc (sset (i:=3) bU.nd (zw hu (aH (qj T) (za (ay (zo K rfl) (pv 0) zh) (za (ay (zo K rfl) (pv 0) zh) zf))) (pv 1) (fun _ _=>rfl)))
   (zc (cR (pN (FG Ai Ai (ay (zo K rfl) (zw hu (aH (ue T) (za (pv 0) zf)) (pv 3) (fun _ _=>rfl)) zh) (pv 2) (ay (zo K rfl) (zw hu (aH (zI T) (za (pv 0) zf)) (pv 3) (fun _ _=>rfl)) zh))) (zi (Jy T.JL T.JO hr aA (by rfl) T.JK)) cX)
   (zc (sset (i:=4) bU.nd (c9 (JC K rfl) (ay (zo K rfl) (pv 0) zh) (cI (za (eS (za eE (za (pv 1) (za (pv 2) (za (pv 2) zf))))) zf))))
   (zc (sset (i:=5) bU.nd (aH (ue T) (za (eS (za (ay (zo K rfl) (pv 0) zh) (za (ay (zo K rfl) (pv 0) zh) (za (ay (zo K rfl) (pv 0) zh) (za (pv 4) zf))))) zf)))
   (zi (zz (ly (own:=["each"]) (cap:=["chains"]) (ix:=[5]) (gE:=zq (top 42)) rfl ⟨rfl,by decide +kernel,by decide +kernel,by decide +kernel,by decide +kernel⟩ rfl (mj (pv 5)) (fun _ _ _ _=>ig (i:=0) (show List.Nodup (["each","chains"]:List Str) by decide +kernel) rfl (Or.inl rfl)) (fun _ _ _ _=>j5) (fun _ _ _ _=>(eS (za (pv 0) (za (ay (zo K rfl) (zw hu (pv 1) (pv 0) (fun _ _=>rfl)) zh) zf)))))))))))),?_⟩
  have dW:=hF.cz.ends;have e8:=Dw (ts:=ts) dW jc;have lk:=hF.cz.gv;refine⟨_,rfl,p,pm,pu,pt,pf,lo,hi,us,ai,ts,af,fs,rfl,hF,fun _ H1 s1 _=>?_,fun d q rs H1 s1 _ _ hn _ R=>(By nr hn R).elim,fun _ d r c w H1 s1 _ _ ri=>?_⟩
  ·have F1:=hF.same s1;have T1:=F1.cz
   try dsimp only[zx]
   refine⟨_,rfl,p,_,_,_,rfl,rfl,T1.p,rfl,_,rfl,p,_,_,_,rfl,rfl,T1.p,rfl,pu,pt,us,ai,ts,rfl,T1.u,T1.t,T1.tt,T1.nd,by have:=T1.ul;omega,dW,fun pn H2 tG hn s2=>?_⟩;have g1:=aU.k (k:=Sum.inr nm) hn;rw[kh jc] at g1;refine⟨_,rfl,pn,_,rfl,g1,?_⟩;have q2:=s1.trans s2
   try dsimp only[zx]
   refine qG (!(decide (f (aj ts nm)<=y)&&decide (y<=g (aj ts nm)))) (fun Q' hQ=>?_) (fun H5 s5=>?_)
   ·refine⟨_,rfl,p,pm,pu,pt,pf,lo,hi,us,ai,ts,af,fs,rfl,hF.same q2,nr,fun pa oa va aa H3 s3 La zL pZ ua=>?_⟩;obtain⟨la,a1,_⟩:=pZ _ e8;have eu:=(hf _ e8).uniq (ua _ e8).2;refine⟨_,rfl,pa,_,rfl,iY zL e8,aa (aj ts nm),_,_,_,rfl,rfl,aG.of a1,rfl,_,rfl,_,_,rfl,rfl,_,rfl,?_⟩;rw[←eu];refine aT (fun c=>?_) (fun c=>?_)
    ·rw[c,Bool.true_and] at hQ;refine⟨_,rfl,p,pm,pu,pt,pf,lo,hi,us,ai,ts,af,fs,rfl,hF.same (q2.trans s3),nr,fun pb ob vb ab H4 s4 zC qv p7 ub=>?_⟩;obtain⟨lb,b1,_⟩:=p7 _ e8;have ed:=(hg _ e8).uniq (ub _ e8).2;refine⟨_,rfl,pb,_,rfl,iY qv e8,ab (aj ts nm),_,_,_,rfl,rfl,aG.of b1,rfl,_,_,rfl,rfl,_,rfl,?_⟩;rw[←ed];exact hQ _ (s3.trans s4)
    ·have c:decide (f (aj ts nm)<=y)=false:=by simpa using c
     rw[c,Bool.false_and] at hQ;exact⟨_,rfl,hQ _ s3⟩
   have q5:=q2.trans s5;refine aT (fun c=>?_) (fun c=>?_)
   ·refine kE (fun z=>?_) _ q5;rw[decide_eq_true z.1,decide_eq_true z.2] at c;cases c
   ·have c:f (aj ts nm)<=y/\y<=g (aj ts nm):=by simpa using c
    have F5:=hF.same q5
    try unfold jY
    try dsimp only
    refine⟨_,rfl,p,_,_,_,rfl,rfl,F5.cz.p,rfl,_,rfl,_,rfl,_,rfl,(by show 4<=sizeLine;decide),fun b0 kU=>?_⟩;have t1:=ah.new (o:=.tup (dU ⟨"",nm,y,y⟩)) kU;refine⟨by show 1<=sizeLine;decide,fun l0 nh=>?_⟩;have t2:=ah.new (o:=.lst [.ref b0]) nh;have Lg:=t1.trans t2;have F6:=F5.same Lg;have E6:=t2 _ _ (zb (H:=H5) (a:=b0) (o:=.tup (dU ⟨"",nm,y,y⟩)));have lf:=hF.mw;refine⟨pf,l0,_,_,rfl,rfl,F6.f,ao.of zb,by rw[List.length_map];exact jC (show _+1<=1000 by omega),fun l1 jv=>?_⟩;have t3:=ah.new (o:=.lst (af.map V.ref++[.ref b0])) jv;have vB:=Lg.trans t3;have F7:=F5.same vB
    try dsimp only[zx]
    refine⟨_,rfl,p,_,_,_,rfl,rfl,F7.cz.p,rfl,_,rfl,p,_,_,_,rfl,rfl,F7.cz.p,rfl,_,rfl,p,_,_,_,rfl,rfl,F7.cz.p,rfl,_,rfl,(by show 4<=sizeLine;decide),fun p2 jk=>?_⟩;have t4:=ah.new (o:=.tup [.ref pm,.ref pu,.ref pt,.ref l1]) jk;have Lh:=vB.trans t4;have F8:=F5.same Lh;have q8:=q5.trans Lh;have G8:cU K (upd (upd (upd (upd H5 b0 (.tup (dU ⟨"",nm,y,y⟩))) l0 (.lst [.ref b0])) l1 (.lst (af.map V.ref++[.ref b0]))) p2 (.tup [.ref pm,.ref pu,.ref pt,.ref l1])) p2 pm pu pt l1 lo hi us ai ts (af++[b0]) (fs++[⟨"",nm,y,y⟩]):=by
     refine⟨⟨aG.of zb,F8.cz.u,F8.cz.t,F8.cz.tt,F8.cz.nd,F8.cz.ul,F8.cz.tl,F8.cz.ok⟩,F8.m,ao.of ?_,?_,fun f hf=>?_,by rw[List.length_append];show _+1<=60;omega⟩
     ·rw[List.map_append];exact t4 _ _ zb
     ·rw[List.map_append];exact aV.snoc F8.ft (t4 _ _ (t3 _ _ E6))
     ·rcases ki hf with z | z
      ·exact hF.fu f z
      ·rw[z];exact jc
    refine⟨p2,pm,pu,pt,l1,lo,hi,us,ai,ts,af++[b0],fs++[(⟨"",nm,y,y⟩:bI)],rfl,G8,nr,fun pc oc vc ac H9 s9 zD qa zW uc=>?_⟩;have q9:=q8.trans s9;have Li:(af++[b0]).length=(fs++[(⟨"",nm,y,y⟩:bI)]).length:=by rw[List.length_append,List.length_append,lf];rfl
    have Lj:∀k,gx ts (fs++[(⟨"",nm,y,y⟩:bI)]) lo k=if aj ts nm=k then mz (gx ts fs lo k) y else gx ts fs lo k:=fun k=>QD
    have zK:=nr;rw[mY] at zK;have D:Dt (bu ts (ts.zip ai)) (zn ts (au us)) f g (fun k=>(vc k).1) (aj ts nm) y:=nD (qS dW) zK e8 hf hg (fun k hk=>(uc k hk).2) (QB dW hf hg no) c (fun k=>A1 lf k) (fun k m hm=>hm.low lf) (fun k=>by rw[←Lj];exact A1 Li k) (fun k m hm=>by rw[←Lj];exact hm.low Li);have VW:=kQ c.1 c.2;clear uc kQ kE;generalize zn ts (au us)=keys at *
    try dsimp only[zx]
    refine⟨_,rfl,pc,oc,_,rfl,qa,fun D hD=>?_⟩;refine mS (AW (a:=pc) (ob:=oc) (kvs:=dV keys fun k=>.ref (ac k))) (fun i aq ys H'=>∃(w0:Option V)(as:List Addr),aq = [w0,some (.ref pc)]/\ys=as.map V.ref/\Paired (fun a k=>H' a=some (.tup [.str k,.int (vc k).1])) as (keys.take i)/\ah H9 H'/\H' D=some (.lst ys))
     ⟨none,[],rfl,rfl,.nil,ah.new hD,zb⟩ (fun i aq ys H' h=>?_) (by rw[List.length_map,fL];exact jC (by omega)) ?_ ?_
    ·obtain⟨_,as,_,rfl,E2,q,hd⟩:=h;refine⟨q _ _ qa,hd,?_⟩;have:=Paired.length E2;rw[List.length_take] at this;rw[List.length_map];omega
    ·rintro i x aq ys Ay hx ⟨w0,as,rfl,rfl,pr,zM,uh⟩;have dR:=eT hx;rw[xT,List.getElem?_map] at hx;cases eu:keys[i]? with
     | none=>rw[eu] at hx;cases hx
     | some u=>
      rw[eu] at hx;cases hx;have bL:u∈keys:=List.mem_of_getElem? eu;obtain⟨lc,h1,_⟩:=(zW u bL).same zM
      try dsimp only[zx]
      unfold gS;dsimp only;rw[if_pos rfl];refine⟨_,rfl,_,rfl,_,rfl,pc,_,rfl,iY (zM _ _ qa) bL,ac u,_,_,_,rfl,rfl,aG.of h1,rfl,(by show 2<=sizeLine;decide),fun b1 jy=>?_⟩;have w1:=ah.new (o:=.tup [.str u,.int (vc u).1]) jy;have iD:=w1 _ _ uh;refine⟨iD,jD dR ⟨_,as++[b1],rfl,by rw[List.map_append];rfl,?_,(zM.trans w1).upd hD,zb⟩⟩;rw[List.take_add_one,eu];exact Paired.snoc (Paired.cW pr fun a z e=>kg iD _ _ (w1 _ _ e)) (kg iD _ _ zb)
    rintro aq ys Ay ⟨w0,as,rfl,rfl,pr,zM,uh⟩;rw[List.length_map,fL,List.take_length] at pr;exact VW D as (fun k=>(vc k).1) _ (q9.trans zM) (q9.free hD) uh pr (by assumption)
  ·obtain⟨kk,m,hk,u,gg,_,hl,_⟩:=ri;have:=no kk hk c m u gg;omega
theorem VX(T:Tx K mg w zj zm zg zp):bX P w K mg base "dating" ["telling","name","year"] 9 (BA (K:=K) zm zg fun r=>∃(a:Str)(y:Int),r = [.str a,.int y]):=by
 refine T.JY.gW bU (fun vs H Q E h=>?_) (fun f aR A outer s H vs Q E hr h=>?_)
 ·obtain⟨p,pm,pu,pt,pf,lo,hi,us,ai,ts,af,fs,rest,rfl,⟨a,y,rfl⟩,_⟩:=h;rfl
 ·obtain⟨p,pm,pu,pt,pf,lo,hi,us,ai,ts,af,fs,rest,rfl,⟨a,y,rfl⟩,hF,nn,ko,kR⟩:=h;have hu:=fm hr;refine⟨_,(zc (gA (jF (zJ T) aA (hr.mono (by decide)) (by rfl) (za (pv 0) zf)))
   (zc (sset (i:=3) bU.nd (zw hu (aH (qj T) (za (ay (zo K rfl) (pv 0) zh) (za (ay (zo K rfl) (pv 0) zh) zf))) (pv 1) (fun _ _=>rfl)))
   (zc (cR (pN (FG Ai Ai (ay (zo K rfl) (zw hu (aH (ue T) (za (pv 0) zf)) (pv 3) (fun _ _=>rfl)) zh) (pv 2) (ay (zo K rfl) (zw hu (aH (zI T) (za (pv 0) zf)) (pv 3) (fun _ _=>rfl)) zh))) (zi (Jy T.JL T.JO hr aA (by rfl) T.JK)) cX)
   (zc (sset (i:=4) bU.nd (c9 (JC K rfl) (ay (zo K rfl) (pv 0) zh) (cI (za (eS (za eE (za (pv 1) (za (pv 2) (za (pv 2) zf))))) zf))))
   (zc (sset (i:=5) bU.nd (aH (ue T) (za (eS (za (ay (zo K rfl) (pv 0) zh) (za (ay (zo K rfl) (pv 0) zh) (za (ay (zo K rfl) (pv 0) zh) (za (pv 4) zf))))) zf)))
   (zi (zz (ly (own:=["each"]) (cap:=["chains"]) (ix:=[5]) (gE:=zq (top 42)) rfl ⟨rfl,by decide +kernel,by decide +kernel,by decide +kernel,by decide +kernel⟩ rfl (mj (pv 5)) (fun _ _ _ _=>ig (i:=0) (show List.Nodup (["each","chains"]:List Str) by decide +kernel) rfl (Or.inl rfl)) (fun _ _ _ _=>j5) (fun _ _ _ _=>(eS (za (pv 0) (za (ay (zo K rfl) (zw hu (pv 1) (pv 0) (fun _ _=>rfl)) zh) zf)))))))))))),?_⟩
  exact⟨_,rfl,p,pm,pu,pt,pf,lo,hi,us,ai,ts,af,fs,rfl,hF,fun nr _ _ no=>absurd ⟨nr,no⟩ nn,ko,kR⟩
theorem VY(T:Tx K mg w zj zm zg zp):bX P w K mg base "dating" ["telling","name","year"] 9 (fun vs H Q E=>Lf (K:=K) zp vs H Q E\/BA (K:=K) zm zg (fun r=>∃(a:Str)(y:Int),r = [.str a,.int y]) vs H Q E):=(VV T).or (VX T)
def VZ:Sp:=fun vs H Q _=>∃(p pu pt:Addr)(x y:V)(us:List Str)(ai:List Addr)(ts:List av),vs = [.ref p]/\iB K H p pu pt x y us ai ts/\
 ∀(pd:Addr)(H':Hp),ah H H'->H pd=none->H' pd=some (.dK (dN us (aj ts)))->Q (.ref pd) H'
set_option maxHeartbeats 8000000 in
theorem V0(T:Tx K mg w zj zm zg zp):cD P w K mg base "_law_ones" ["_law_telling_here"] 1 (VZ (K:=K)):=by
 refine T.S5.has bJ (fun vs H Q E h=>?_) (fun f aR A outer s H vs Q E hr h=>?_)
 ·obtain⟨p,pu,pt,x,y,us,ai,ts,rfl,_⟩:=h;rfl
 ·obtain⟨p,pu,pt,x,y,us,ai,ts,rfl,hT,k⟩:=h;have hu:=fm hr;refine⟨_,(zc (sset (i:=1) bJ.nd jm)
   (zc (dZ PassesOwn.never rfl (eF K rfl (ay (zo K rfl) (pv 0) zh)) (cL (i:=2) bJ.nd) (zi (g7 hu (pv 1) (pv 2) (pv 2) rfl)))
   (zc (dZ PassesOwn.never rfl (rN (by rfl) T.range (za (fJ (lA K rfl) (by rfl) T.len boot_len (za (ay (zo K rfl) (pv 0) zh) zf)) zf)) (cL (i:=3) bJ.nd) (zi (dZ PassesOwn.never rfl (eF K rfl (ay (zo K rfl) (pv 0) zh)) (cL (i:=4) bJ.nd) (zi (cR (cE fZ (ay (zo K rfl) (pv 4) zh) eE (bW _)) (zc (sset (i:=5) bJ.nd (fJ (HN rfl) (by rfl) T.min PyProof.Rows.boot_min (za (zw hu (pv 1) (ay (zo K rfl) (pv 4) zh) (fun _ _=>rfl)) (za (zw hu (pv 1) (ay (zo K rfl) (pv 4) zh) (fun _ _=>rfl)) zf))))
      (zc (g7 hu (pv 1) (ay (zo K rfl) (pv 4) zh) (pv 5) rfl)
      (zi (g7 hu (pv 1) (ay (zo K rfl) (pv 4) zh) (pv 5) rfl)))) cX)))))
   (zi (zz (pv 1)))))),?_⟩
  have dW:=hT.ends;have hlen:=hT.len;obtain⟨hp,jT,gT,tp,nd,hl,tl,_⟩:=hT;refine fun pd cP=>?_
  have s0:=ah.new (o:=.dK []) cP;refine⟨_,rfl,p,_,_,_,rfl,rfl,s0.tup hp,rfl,pu,rfl,⟨_,s0.seq jT⟩,iK (xs:=us.map V.str) (fun i σ H'=>∃v2,σ = [some (.ref p),some (.ref pd),v2,none,none,none]/\ah H H'/\H' pd=some (.dK (dN (us.take i) id)))
   ⟨none,rfl,s0,zb⟩ (fun i σ H' _ h=>by obtain⟨_,_,q,_⟩:=h;exact q.seq jT) ?_ ?_⟩
  ·rintro i x σ H1 hx ⟨v2,rfl,q,hd⟩;rw[List.getElem?_map] at hx;cases eu:us[i]? with
   | none=>rw[eu] at hx;cases hx
   | some u=>
    rw[eu] at hx;cases hx;have hi:=eT eu;have eZ:u ∉ us.take i:=by
     have:=mT nd i hi;rw[show us[i]=u from(List.getElem?_eq_some_iff.mp eu).2] at this;exact this
    dsimp only[zx];refine⟨_,rfl,_,rfl,_,rfl,pd,_,rfl,cG.k (k:=Sum.inr u) hd (by rw[xR,List.length_take];exact fP (by omega)),?_⟩;refine⟨_,rfl,q.upd cP,?_⟩;rw[zb,List.take_add_one,eu]
    congr 2
    exact Hs eZ
  ·rintro σ H1 ⟨v2,rfl,q,hd⟩;have lu:(us.map V.str).length=us.length:=List.length_map _;rw[lu,List.take_length] at hd;refine⟨_,rfl,p,_,_,_,rfl,rfl,q.tup hp,rfl,pu,_,rfl,.inl (q.seq jT),((us.map V.str).length:Int),rfl,by omega,by omega,vS (lo:=0) (n:=(us.map V.str).length) (fun n σ H'=>∃v3 v4 v5,σ = [some (.ref p),some (.ref pd),v2,v3,v4,v5]/\ah H H'/\H' pd=some (.dK (dN us (cK ts n))))
    ⟨none,none,none,rfl,q,hd⟩ ?_ ?_⟩
   ·rintro n σ H2 hn ⟨v3,v4,v5,rfl,q2,hd2⟩;refine⟨_,rfl,p,_,_,_,rfl,rfl,q2.tup hp,rfl,pt,rfl,⟨_,q2.seq gT⟩,iK (xs:=ai.map V.ref) (fun i σ H'=>∃v4 v5,σ = [some (.ref p),some (.ref pd),v2,some (.int (0+(n:Int))),v4,v5]/\ah H H'/\H' pd=some (.dK (dN us (ju (ts.take i) (cK ts n)))))
     ⟨v4,v5,rfl,q2,hd2⟩ (fun i σ H' _ h=>by obtain⟨_,_,_,q,_⟩:=h;exact q.seq gT) ?_ ?_⟩
    ·rintro i x σ H3 hx ⟨v4,v5,rfl,q3,cQ⟩;obtain⟨r,t,rfl,ht,_,hr⟩:=xJ tp hx;have oB:=q3 _ _ hr;have fB:=dW t (List.mem_of_getElem? ht)
     try dsimp only[zx]
     refine⟨_,rfl,r,_,_,_,rfl,rfl,aG.of oB,xM t,rfl,_,rfl,?_⟩;refine aT (fun c=>?_) (fun c=>?_)
     ·have c:t.k=bK:=V.str.inj (of_decide_eq_true c);have g1:=aU.k (k:=Sum.inr t.a) cQ;have g2:=aU.k (k:=Sum.inr t.b) cQ;rw[kh fB.1] at g1;rw[kh fB.2] at g2;refine⟨_,rfl,_,rfl,r,_,_,_,rfl,rfl,aG.of oB,xN t,pd,_,rfl,g1,_,rfl,_,rfl,r,_,_,_,rfl,rfl,aG.of oB,xO t,pd,_,rfl,g2,_,_,rfl,?_⟩
      try dsimp only[zx]
      refine⟨_,rfl,_,rfl,_,rfl,r,_,_,_,rfl,rfl,aG.of oB,xN t,pd,_,rfl,cG.k (k:=Sum.inr t.a) cQ (by rw[xR];exact fP (by omega)),?_⟩;rw[C4 fB.1];have nr:r≠pd:=fun z=>by rw[z,cQ] at oB;cases oB
      have tN:upd H3 pd (.dK (dN us fun z=>if z=t.a then gp (ju (ts.take i) (cK ts n) t.a) (ju (ts.take i) (cK ts n) t.b) else ju (ts.take i) (cK ts n) z)) r=some (.tup (bg t)):=by rw[zr nr];exact oB
      refine⟨_,rfl,_,rfl,_,rfl,r,_,_,_,rfl,rfl,aG.of tN,xO t,pd,_,rfl,cG.k (k:=Sum.inr t.b) zb (by rw[xR];exact fP (by omega)),?_⟩;rw[C4 fB.2];refine⟨_,_,rfl,(q3.upd cP).upd cP,?_⟩;rw[zb,HG ht]
      congr 2
      refine uN fun z _=>?_
      have el:gG (ju (ts.take i) (cK ts n)) t z=if z=t.a\/z=t.b then gp (ju (ts.take i) (cK ts n) t.a) (ju (ts.take i) (cK ts n) t.b) else ju (ts.take i) (cK ts n) z:=by
       unfold gG;rw[if_pos c]
      rw[el]
      by_cases e1:z=t.b
      ·rw[if_pos e1,if_pos (Or.inr e1:z=t.a\/z=t.b)];rfl
      ·rw[if_neg e1]
       by_cases e2:z=t.a
       ·rw[if_pos e2,if_pos (Or.inl e2:z=t.a\/z=t.b)];rfl
       ·rw[if_neg e2,if_neg (fun q:z=t.a\/z=t.b=>q.elim e2 e1)]
     ·have c:¬t.k=bK:=fun z=>c (decide_eq_true (congrArg V.str z))
      refine⟨_,_,rfl,q3,?_⟩;rw[cQ,HG ht];unfold gG;rw[if_neg c]
    ·rintro σ H3 ⟨v4,v5,rfl,q3,cQ⟩;rw[List.length_map,hlen,List.take_length] at cQ;exact⟨_,_,_,rfl,q3,cQ⟩
   ·rintro σ H2 ⟨v3,v4,v5,rfl,q2,hd2⟩;refine⟨_,rfl,k pd _ q2 cP ?_⟩;rw[hd2,lu,uN (ON dW)]
def V1:Sp:=fun vs H Q _=>∃(p pm pu pt pf:Addr)(lo hi:Int)(us:List Str)(ts:List av)(fs:List bI)(at' af:List Addr)(c:Int),vs = [.ref p,.int c]/\gF K H p pm pu pt pf lo hi us ts fs at' af/\fs.length<=60/\
 ∀(p' u0:Addr)(j:Int)(V2:List Addr)(H':Hp),j=0\/j=1->ah H H'->gF K H' p' pm pu pt u0 lo hi us ts (fs.map (qT j)) at' V2->Q (.ref p') H'
set_option maxHeartbeats 8000000 in
theorem V3(T:Tx K mg w zj zm zg zp):cD P w K mg base "_law_narrow" ["_law_telling_here","_law_cell"] 2 (V1 (K:=K)):=by
 refine T.S6.has bY (fun vs H Q E h=>?_) (fun f aR A outer s H vs Q E hr h=>?_)
 ·obtain⟨p,pm,pu,Ll,pf,lo,hi,us,ts,fs,at',af,c,rfl,_⟩:=h;rfl
 ·obtain⟨p,pm,pu,Ll,pf,lo,hi,us,ts,fs,at',af,c,rfl,hA,Ko,k⟩:=h;refine⟨_,(zc (sset (i:=2) bY.nd (cI zf))
   (zc (dZ PassesOwn.never rfl (eF K rfl (ay (zo K rfl) (pv 0) zh)) (cL (i:=3) bY.nd) (zc (sset (i:=4) bY.nd (ay (dS K rfl) (cI (za (ay (zo K rfl) (pv 3) zh) (za (ay (zo K rfl) (pv 3) zh) zf))) (aH (zy T) (za (pv 1) (za zh (za zh zf))))))
    (zi (gA (jM K rfl PySem.F.plainAttrs_list PySem.F.slot_list_append PySem.F.type_list_append j4 (pv 2) (za (eS (za (ay (zo K rfl) (pv 3) zh) (za (ay (zo K rfl) (pv 3) zh) (za (ay (zo K rfl) (pv 3) zh) (za (pv 4) zf))))) zf))))))
   (zi (zz (eS (za (ay (zo K rfl) (pv 0) zh) (za (ay (zo K rfl) (pv 0) zh) (za (ay (zo K rfl) (pv 0) zh) (za (pv 2) zf))))))))),?_⟩
  have tT:=hA.at'.ft;have lf:af.length=fs.length:=by have:=tT.len;rw[List.length_map] at this;exact this
  try dsimp only[zx]
  refine⟨by show 0<=sizeLine;decide,fun D hD=>?_⟩;have s1:=ah.new (o:=.lst []) hD;have zN:=hA.same s1
  try dsimp only[zx]
  refine⟨_,rfl,p,_,_,_,rfl,rfl,zN.p,rfl,pf,rfl,⟨_,zN.at'.f⟩,iK (xs:=af.map V.ref) (fun i σ H'=>∃(v3 v4:Option V)(bs:List Addr),σ = [some (.ref p),some (.int c),some (.ref D),v3,v4]/\ah H H'/\H' D=some (.lst (bs.map V.ref))/\aV H' bs (((fs.take i).map (qT (pt c 92 2))).map dU))
   ⟨none,none,[],rfl,s1,zb,.nil⟩ (fun i σ H' _ h=>by obtain⟨_,_,_,_,q,_⟩:=h;exact(hA.same q).at'.f) ?_ ?_⟩
  ·rintro i x σ H2 hx ⟨v3,v4,bs,rfl,q2,hd2,zO⟩;obtain⟨r,f,rfl,hf,u9,nj⟩:=xJ (hA.same q2).at'.ft hx;have hi:=eT hf;have lb:bs.length<=60:=by have:=zO.len;rw[List.length_map,List.length_map,List.length_take] at this;omega
   have b3:=eU c 92 2 (by decide)
   try dsimp only[zx]
   refine⟨_,rfl,r,_,_,_,rfl,rfl,aG.of nj,HW f,_,rfl,r,_,_,_,rfl,rfl,aG.of nj,Du f,(by show 2<=sizeLine;decide),fun l0 nh=>?_⟩;have t0:=ah.new (o:=.lst [.int f.hi,.int f.lo]) nh;have V4:gC [V.int f.hi,V.int f.lo] (pt c 92 2)=some (.int (qT (pt c 92 2) f).hi):=by
    have h3:pt c 92 2=0\/pt c 92 2=1:=by omega
    rcases h3 with h3 | h3<;>rw[h3]<;>rfl
   refine⟨_,rfl,c,92,2,rfl,by decide,l0,_,_,_,rfl,rfl,ao.of zb,V4,?_⟩;have oB:=t0 _ _ nj
   try dsimp only[zx]
   refine⟨_,rfl,.inl ⟨rfl,_,ao.of (t0 _ _ hd2)⟩,?_⟩;refine⟨_,rfl,r,_,_,_,rfl,rfl,aG.of oB,Ds f,_,rfl,r,_,_,_,rfl,rfl,aG.of oB,HV f,_,rfl,r,_,_,_,rfl,rfl,aG.of oB,Du f,_,rfl,(by show 4<=sizeLine;decide),fun b hb=>?_⟩;have t1:=ah.new (o:=.tup (dU (qT (pt c 92 2) f))) hb;have fT:=t1 _ _ (t0 _ _ hd2);refine⟨D,_,_,rfl,rfl,fT,by rw[List.length_map];exact fP (by omega),?_⟩;refine⟨_,_,bs++[b],rfl,(q2.trans (t0.trans t1)).upd hD,by rw[zb,List.map_append];rfl,?_⟩;rw[List.take_add_one,hf,List.map_append,List.map_append];exact Paired.snoc (Paired.cW zO fun a z e=>kg fT _ _ (t1 _ _ (t0 _ _ e))) (kg fT _ _ zb)
  ·rintro σ H2 ⟨v3,v4,bs,rfl,q2,hd2,zO⟩;rw[List.length_map,lf,List.take_length] at zO;have oE:=hA.same q2;refine⟨_,rfl,p,_,_,_,rfl,rfl,oE.p,rfl,_,rfl,p,_,_,_,rfl,rfl,oE.p,rfl,_,rfl,p,_,_,_,rfl,rfl,oE.p,rfl,_,rfl,(by show 4<=sizeLine;decide),fun p' V5=>?_⟩;have t3:=ah.new (o:=.tup [.ref pm,.ref pu,.ref Ll,.ref D]) V5;have BB:=oE.same t3;exact k p' D (pt c 92 2) bs _ (by have:=eU c 92 2 (by decide);omega) (q2.trans t3) ⟨aG.of zb,BB.at'.m,BB.at'.u,BB.at'.t,BB.at'.tt,ao.of (t3 _ _ hd2),zO.same t3⟩
def V6:Sp:=fun vs H Q _=>∃(p pu pt pf:Addr)(x y:V)(us:List Str)(ai rs:List Addr)(ts:List av)(ws:Nat->Str),vs = [.ref p,.ref pf,.int (rs.length:Int)]/\iB K H p pu pt x y us ai ts/\(∀vs∈ts.map bg,∀v∈vs,Wd v)/\
 H pf=some (.lst (rs.map V.ref))/\rs≠[]/\rs.length<=1000/\sQ ts ai rs ws/\∀(H':Hp),ah H H'->Q (.bl true) H'
set_option maxHeartbeats 8000000 in
theorem V7(T:Tx K mg w zj zm zg zp):cD P w K mg base "_law_is_round" ["_law_telling_here","_law_ring","_law_many"] 2 (V6 (K:=K)):=by
 refine T.S9.has cj (fun vs H Q E h=>?_) (fun f aR A outer s H vs Q E hr h=>?_)
 ·obtain⟨p,pu,pt,pf,x,y,us,ai,rs,ts,ws,rfl,_⟩:=h;rfl
 ·obtain⟨p,pu,pt,pf,x,y,us,ai,rs,ts,ws,rfl,hT,hw,V8,iA,lr,R,k⟩:=h;have hu:=fm hr;refine⟨_,(zc (sset (i:=3) cj.nd (aH (V0 T) (za (pv 0) zf)))
   (zc (dZ PassesOwn.never rfl (rN (by rfl) T.range (za (fJ (lA K rfl) (by rfl) T.len boot_len (za (pv 1) zf)) zf)) (cL (i:=4) cj.nd) (zi (cR (PW.pt (vM (cE (GP K rfl (xB hr)) (ay (dS K rfl) (pv 1) (pv 4)) (ay (zo K rfl) (pv 0) zh) (by with_unfolding_all rfl)) (vM (cE fZ (ay (zo K rfl) (ay (dS K rfl) (pv 1) (pv 4)) zh) eE (bW _)) (zZ (cE Ah (zw hu (pv 3) (ay (zo K rfl) (ay (dS K rfl) (pv 1) (pv 4)) zh) (fun _ _=>rfl)) (zw hu (pv 3) (ay (zo K rfl) (ay (dS K rfl) (pv 1) (c9 Af (pv 4) zh)) zh) (fun _ _=>rfl)) (bW _)))))) (zi (zz lP)) cX)))
   (zi (zz (k7 fZ (fJ (lA K rfl) (by rfl) T.len boot_len (za (pv 1) zf)) (pv 2) (bW _)))))),?_⟩
  have hf:ao K H pf (rs.map V.ref):=ao.of V8;refine⟨_,rfl,p,pu,pt,x,y,us,ai,ts,rfl,hT,fun pd H1 s1 jz hd=>?_⟩;have BC:(rs.map V.ref).length=rs.length:=List.length_map _
  try dsimp only[zx]
  refine⟨_,rfl,pf,_,rfl,.inl (s1.seq hf),((rs.map V.ref).length:Int),rfl,by omega,by omega,vS (lo:=0) (n:=(rs.map V.ref).length) (fun n σ H'=>∃(v3:Option V),σ = [some (.ref p),some (.ref pf),some (.int (rs.length:Int)),some (.ref pd),v3]/\ah H1 H')
   ⟨none,rfl,(ah.refl _)⟩ ?_ ?_⟩
  ·rintro n σ H2 hn ⟨v3,rfl,q2⟩;have q:=s1.trans q2;have T2:=hT.same q;rw[BC] at hn;have er:rs[n]? = some rs[n]:=List.getElem?_eq_getElem hn;obtain⟨t,hz,hk,ha,hb⟩:=R.at' n _ er;obtain⟨hr,Xs,kX⟩:=T2.tt.nR hz;have Bl:(if n=0 then rs.length-1 else n-1)<rs.length:=by split<;>omega
   obtain⟨t',V9,dj,Xu,Kn⟩:=R.at' (if n=0 then rs.length-1 else n-1) _ (List.getElem?_eq_getElem Bl);obtain⟨nj,Wa,E8⟩:=T2.tt.nR V9;have Wb:aj ts t.a=aj ts t'.b:=by
    rw[ha,Kn]
    by_cases c:n=0
    ·rw[if_pos c,c,R.cl]
     congr 1
     omega
    ·rw[if_neg c]
     congr 1
     omega
   have tok:=hT.ok t kX;have E9:=hT.ok t' E8;have g1:=aU.k (k:=Sum.inr t.a) (q2 _ _ hd);have g2:=aU.k (k:=Sum.inr t'.b) (q2 _ _ hd);rw[kh tok.a] at g1;rw[kh E9.b] at g2;have BD:gC (rs.map V.ref) (0+(n:Int))=some (.ref rs[n]):=by
    rw[Int.zero_add];exact iU (by rw[List.getElem?_map,er];rfl)
   have at2:gC (rs.map V.ref) (0+(n:Int)-1)=some (.ref rs[if n=0 then rs.length-1 else n-1]):=by
    refine HL (by rw[BC];exact hn) ?_;rw[BC,List.getElem?_map,List.getElem?_eq_getElem Bl];rfl
   generalize rs[if n=0 then rs.length-1 else n-1]=r' at nj at2;generalize rs[n]=r at hr BD
   try dsimp only[zx]
   refine qG false (fun Q' hQ=>?_) (fun H3 s3=>cT ⟨_,rfl,q2.trans s3⟩);refine⟨_,rfl,_,rfl,pf,_,_,_,rfl,rfl,q.seq hf,BD,_,rfl,p,_,_,_,rfl,rfl,T2.p,rfl,pt,_,_,rfl,.inl T2.t,T2.tt.Hf (n:=7) hw hr (hw _ (List.mem_map.mpr ⟨t,kX,rfl⟩)),_,rfl,?_⟩;rw[if_pos rfl,T2.tt.xH,decide_eq_true (List.mem_map.mpr ⟨t,kX,rfl⟩)];refine cT ?_;refine⟨_,rfl,_,rfl,pf,_,_,_,rfl,rfl,q.seq hf,BD,r,_,_,_,rfl,rfl,aG.of hr,xM t,rfl,_,rfl,?_⟩;rw[show decide (V.str t.k=V.str (Str.ofString "same"))=false from decide_eq_false fun z=>hk (V.str.inj z)];refine cT ?_;refine⟨_,rfl,_,rfl,_,rfl,pf,_,_,_,rfl,rfl,q.seq hf,BD,r,_,_,_,rfl,rfl,aG.of hr,xN t,pd,_,rfl,g1,_,rfl,_,rfl,_,rfl,_,_,rfl,rfl,pf,_,_,_,rfl,rfl,q.seq hf,at2,r',_,_,_,rfl,rfl,aG.of nj,xO t',pd,_,rfl,g2,rfl,_,rfl,?_⟩;rw[Wb,decide_eq_true rfl];exact hQ _ (ah.refl _)
  ·rintro σ H2 ⟨v3,rfl,q2⟩;have q:=s1.trans q2;refine⟨_,rfl,pf,_,rfl,.inl (q.seq hf),_,rfl,rfl,?_⟩;rw[BC,decide_eq_true rfl];exact k _ q
def Wc(CR CN CY:Addr):Sp:=fun vs H Q E=>∃(p pm pu pt pf:Addr)(lo hi:Int)(us:List Str)(ai:List Addr)(ts:List av)(af:List Addr)(fs:List bI)(nm ot:Str)(w:Int),vs = [.int w,.ref p,.str nm,.str ot]/\cU K H p pm pu pt pf lo hi us ai ts af fs/\ts.length<=60/\nm∈us/\ot∈us/\fs.length<=59/\0<=w/\w<=6/\
 (cJ (aZ ts (ts.zip ai)) (zn ts (au us))->(w<=3\/((w=4\/w=6)/\jQ lo hi us ai ts af fs))->∀v H',ah H H'->Q v H')/\vA CR H E us ai ts/\(cJ (aZ ts (ts.zip ai)) (zn ts (au us))->4<=w->Le CN H E lo hi us ai ts af fs)/\
 (cJ (aZ ts (ts.zip ai)) (zn ts (au us))->jQ lo hi us ai ts af fs->w=5->∀H',ah H H'->E (.ref CY) none H')
theorem We{lo:Int}{ai:List Addr}{ts:List av}{af:List Addr}{fs:List bI}{k:Str}{m:Int}(hl:af.length=fs.length)(h:fW (bu ts (ts.zip ai)) (iH ts lo (fs.zip af)) k m):lo<=m:=by
 obtain⟨b,hb,e⟩:=A1 (ts:=ts) (lo:=lo) hl k;have h1:=h.2 _ (Up.bare hb);have h2:=(lG (ts:=ts) (fs:=fs) (lo:=lo) (k:=k) (y:=gx ts fs lo k)).mp (Int.le_refl _);have h3:b.1<=m:=h1;omega
set_option maxHeartbeats 16000000 in
theorem Wf(T:Tx K mg w zj zm zg zp):bX P w K mg base "_law_ask" ["_law_way","_law_telling_here","_law_name","_law_other"] 11 (Wc (K:=K) zm zg zp):=by
 refine T.S7.gW Tp (fun vs H Q E h=>?_) (fun f aR A outer s H vs Q E hr h=>?_)
 ·obtain⟨p,pm,pu,pt,pf,lo,hi,us,ai,ts,af,fs,nm,ot,w,rfl,_⟩:=h;rfl
 ·obtain⟨p,pm,pu,pt,pf,lo,hi,us,ai,ts,af,fs,nm,ot,w,rfl,hF,pC,jc,zP,Fb,w0,w6,kQ,ko,Fc,Wg⟩:=h;refine⟨_,(zc (cR (cE fZ (pv 0) zh (bW _)) (zi (zz (jF (E3 T) aA (hr.mono (by decide)) (by rfl) (za (pv 1) zf)))) cX)
   (zc (cR (cE fZ (pv 0) zh (bW _)) (zi (zz (jF (Lc T) aA (hr.mono (by decide)) (by rfl) (za (pv 1) zf)))) cX)
   (zc (cR (cE fZ (pv 0) zh (bW _)) (zi (zz (jF (VL T) aA (hr.mono (by decide)) (by rfl) (za (pv 1) (za (pv 2) (za (pv 3) zf)))))) cX)
   (zc (cR (cE fZ (pv 0) zh (bW _)) (zi (zz (jF (VN T) aA (hr.mono (by decide)) (by rfl) (za (pv 1) zf)))) cX)
   (zc (cR (cE fZ (pv 0) zh (bW _)) (zi (zz (jF (K9 T) aA (hr.mono (by decide)) (by rfl) (za (pv 1) zf)))) cX)
   (zc (cR (cE fZ (pv 0) zh (bW _)) (zi (zz (jF (VY T) aA (hr.mono (by decide)) (by rfl) (za (pv 1) (za (pv 2) (za (c9 Af (ay (zo K rfl) (ay (zo K rfl) (pv 1) zh) zh) zh) zf)))))) cX)
   (zi (zz (jF (VU T) aA (hr.mono (by decide)) (by rfl) (za (pv 1) (za (pv 2) zf))))))))))),?_⟩
  have hT:=hF.cz;refine iz (decide (V.int w=V.int 0)) (fun Q' q=>⟨_,rfl,rfl,_,rfl,q⟩) ?_;refine aT (fun c=>?_) (fun c0=>?_)
  ·have c:=V.int.inj (of_decide_eq_true c);refine⟨_,rfl,?_⟩
   by_cases nr:cJ (aZ ts (ts.zip ai)) (zn ts (au us))
   ·exact .inl ⟨p,pu,pt,_,_,us,ai,ts,rfl,hT,nr,fun q os H' s _ _ _ _=>kQ nr (.inl (by omega)) _ _ s⟩
   ·exact .inr ⟨p,pu,pt,_,_,us,ai,ts,[],rfl,rfl,hT,nr,ko⟩
  try unfold jY
  try dsimp only
  refine iz (decide (V.int w=V.int 1)) (fun Q' q=>⟨_,rfl,rfl,_,rfl,q⟩) ?_;refine aT (fun c=>?_) (fun c1=>?_)
  ·have c:=V.int.inj (of_decide_eq_true c);refine⟨_,rfl,?_⟩
   by_cases nr:cJ (aZ ts (ts.zip ai)) (zn ts (au us))
   ·exact .inl ⟨p,pu,pt,_,_,us,ai,ts,rfl,hT,pC,nr,fun D bs qs H' s _ _ _ _ _ _=>kQ nr (.inl (by omega)) _ _ s⟩
   ·exact .inr ⟨p,pu,pt,_,_,us,ai,ts,[],rfl,rfl,hT,nr,ko⟩
  try unfold jY
  try dsimp only
  refine iz (decide (V.int w=V.int 2)) (fun Q' q=>⟨_,rfl,rfl,_,rfl,q⟩) ?_;refine aT (fun c=>?_) (fun c2=>?_)
  ·have c:=V.int.inj (of_decide_eq_true c);refine⟨_,rfl,_,rfl,_,rfl,?_⟩
   by_cases nr:cJ (aZ ts (ts.zip ai)) (zn ts (au us))
   ·exact .inl ⟨p,pu,pt,_,_,us,ai,ts,nm,ot,rfl,hT,pC,nr,jc,zP,fun q ws H' s _ _ _ _ _=>kQ nr (.inl (by omega)) _ _ s⟩
   ·exact .inr ⟨p,pu,pt,_,_,us,ai,ts,_,rfl,⟨nm,ot,rfl⟩,hT,nr,ko⟩
  try unfold jY
  try dsimp only
  refine iz (decide (V.int w=V.int 3)) (fun Q' q=>⟨_,rfl,rfl,_,rfl,q⟩) ?_;refine aT (fun c=>?_) (fun c3=>?_)
  ·have c:=V.int.inj (of_decide_eq_true c);refine⟨_,rfl,?_⟩
   by_cases nr:cJ (aZ ts (ts.zip ai)) (zn ts (au us))
   ·exact .inl ⟨p,pu,pt,_,_,us,ai,ts,rfl,hT,nr,fun q cs lv H' s _ _ _ _ _ _ _=>kQ nr (.inl (by omega)) _ _ s⟩
   ·exact .inr ⟨p,pu,pt,_,_,us,ai,ts,[],rfl,rfl,hT,nr,ko⟩
  try unfold jY
  try dsimp only
  refine iz (decide (V.int w=V.int 4)) (fun Q' q=>⟨_,rfl,rfl,_,rfl,q⟩) ?_;refine aT (fun c=>?_) (fun c4=>?_)
  ·have c:=V.int.inj (of_decide_eq_true c);exact⟨_,rfl,p,pm,pu,pt,pf,lo,hi,us,ai,ts,af,fs,rfl,hF,fun nr q f g H' s _ _ _ _ no=>kQ nr (.inr ⟨.inl c,no⟩) _ _ s,ko,fun nr=>Fc nr (by omega)⟩
  try unfold jY
  try dsimp only
  have c0:w≠0:=fun z=>c0 (decide_eq_true (by rw[z]))
  have c1:w≠1:=fun z=>c1 (decide_eq_true (by rw[z]))
  have c2:w≠2:=fun z=>c2 (decide_eq_true (by rw[z]))
  have c3:w≠3:=fun z=>c3 (decide_eq_true (by rw[z]))
  have c4:w≠4:=fun z=>c4 (decide_eq_true (by rw[z]))
  refine iz (decide (V.int w=V.int 5)) (fun Q' q=>⟨_,rfl,rfl,_,rfl,q⟩) ?_;refine aT (fun c=>?_) (fun c5=>?_)
  ·have c:=V.int.inj (of_decide_eq_true c);refine⟨_,rfl,_,rfl,_,rfl,p,_,_,_,rfl,rfl,hT.p,rfl,pm,_,_,_,rfl,rfl,hF.m,rfl,_,_,rfl,rfl,?_⟩
   by_cases nr:cJ (aZ ts (ts.zip ai)) (zn ts (au us))/\jQ lo hi us ai ts af fs
   ·have hl:=hF.mw;have Cs:=fun k(hk:k∈zn ts (au us))=>Qz (lo:=lo) (fs:=fs) (af:=af) (ai:=ai) hT.ends hl nr.1 hk
    have Wh:=fun k(hk:k∈zn ts (au us))=>QA (hi:=hi) (fs:=fs) (af:=af) (ai:=ai) hT.ends hl nr.1 hk
    have low:=We hl (Cs _ (Dw (ts:=ts) hT.ends jc));exact .inl ⟨p,pm,pu,pt,pf,lo,hi,us,ai,ts,af,fs,nm,lo-1,_,_,rfl,hF,nr.1,nr.2,jc,Fb,Cs,Wh,fun z=>absurd z (by omega),fun _ H' s=>Wg nr.1 nr.2 c H' s⟩
   ·exact .inr ⟨p,pm,pu,pt,pf,lo,hi,us,ai,ts,af,fs,_,rfl,⟨nm,lo-1,rfl⟩,hF,nr,ko,fun nr=>Fc nr (by omega)⟩
  try unfold jY
  try dsimp only
  have c5:w≠5:=fun z=>c5 (decide_eq_true (by rw[z]))
  refine⟨_,rfl,_,rfl,?_⟩
  by_cases nr:cJ (aZ ts (ts.zip ai)) (zn ts (au us))/\jQ lo hi us ai ts af fs
  ·exact .inl ⟨p,pm,pu,pt,pf,lo,hi,us,ai,ts,af,fs,nm,rfl,hF,nr.1,nr.2,jc,fun r la lb cu cd H' s _ _ _ _ _=>kQ nr.1 (.inr ⟨.inr (by omega),nr.2⟩) _ _ s⟩
  ·exact .inr ⟨p,pm,pu,pt,pf,lo,hi,us,ai,ts,af,fs,_,rfl,⟨nm,rfl⟩,hF,nr,ko,fun nr=>Fc nr (by omega)⟩
def cy(H:Hp)(q:Addr)(w:Int)(lo hi:Int)(us:List Str)(ai:List Addr)(ts:List av)(af:List Addr)(fs:List bI):Prop:=
 (¬cJ (aZ ts (ts.zip ai)) (zn ts (au us))/\∃l rs,H q=some (.tup [.str (Str.ofString "round"),.ref l])/\H l=some (.lst (rs.map V.ref))/\rs≠[]/\rs.length<=64/\ia (aZ ts (ts.zip ai)) (zn ts (au us)) rs)\/
 (cJ (aZ ts (ts.zip ai)) (zn ts (au us))/\(w<=3\/((w=4\/w=6)/\jQ lo hi us ai ts af fs))/\∃v,H q=some (.tup [.str (Str.ofString "told"),v]))\/
 (cJ (aZ ts (ts.zip ai)) (zn ts (au us))/\4<=w/\∃l c e,H q=some (.tup [.str (Str.ofString "row"),.ref l])/\H l=some (.lst ((c.2.2:List Tr).map fun p=>V.ref p.2))/\mZ lo hi us ai ts af fs c e)\/
 (cJ (aZ ts (ts.zip ai)) (zn ts (au us))/\jQ lo hi us ai ts af fs/\w=5/\∃l,H q=some (.tup [.str (Str.ofString "other"),.ref l]))
theorem cy.same{H H':Hp}{q:Addr}{w lo hi:Int}{us:List Str}{ai:List Addr}{ts:List av}{af:List Addr}{fs:List bI}(h:cy H q w lo hi us ai ts af fs)(s:ah H H'):cy H' q w lo hi us ai ts af fs:=by
 rcases h with ⟨a,l,rs,h1,h2,h3⟩ | ⟨a,b,v,h⟩ | ⟨a,b,l,c,e,h1,h2,h3⟩ | ⟨a,b,c,l,h⟩
 ·exact .inl ⟨a,l,rs,s _ _ h1,s _ _ h2,h3⟩
 ·exact .inr (.inl ⟨a,b,v,s _ _ h⟩)
 ·exact .inr (.inr (.inl ⟨a,b,l,c,e,s _ _ h1,s _ _ h2,h3⟩))
 ·exact .inr (.inr (.inr ⟨a,b,c,l,s _ _ h⟩))
def Wi:Sp:=fun vs H Q _=>∃(p pm pu pt pf:Addr)(lo hi:Int)(us:List Str)(ai:List Addr)(ts:List av)(af:List Addr)(fs:List bI)(nm ot:Str)(w:Int),vs = [.int w,.ref p,.str nm,.str ot]/\cU K H p pm pu pt pf lo hi us ai ts af fs/\ts.length<=60/\nm∈us/\ot∈us/\fs.length<=59/\0<=w/\w<=6/\
 ∀(q:Addr)(H':Hp),ah H H'->cy H' q w lo hi us ai ts af fs->Q (.ref q) H'
set_option maxHeartbeats 16000000 in
theorem Wj(T:Tx K mg w zj zm zg zp):cD P w K mg base "_law_word" ["_law_way","_law_telling_here","_law_name","_law_other"] 12 (Wi (K:=K)):=by
 refine T.S8.has br (fun vs H Q E h=>?_) (fun f aR A outer s H vs Q E hr h=>?_)
 ·obtain⟨p,pm,pu,pt,pf,lo,hi,us,ai,ts,af,fs,nm,ot,w,rfl,_⟩:=h;rfl
 ·obtain⟨p,pm,pu,pt,pf,lo,hi,us,ai,ts,af,fs,nm,ot,w,rfl,hF,pC,jc,zP,Fb,w0,w6,k⟩:=h;refine⟨_,(zc (sset (i:=4) br.nd (eS zf))
   (zc (Rm ⟨rfl,rfl,rfl⟩ (fun pn xe Es pt=>(zi (sset (i:=4) br.nd (eS (za eE (za (Rl (Wf T) pt (hr.mono (by decide)) (by rfl) (za (pv 0) (za (pv 1) (za (pv 2) (za (pv 3) zf))))) zf)))))) (Rr (i:=5) ⟨rfl,rfl,rfl⟩ (by rfl) T.D8 T.R8 br.nd rfl rfl (fun _ _=>(zc (sset (i:=4) br.nd (eS (za eE (za (cI zf) zf))))
    (zc (cR (PW.pt (pM (oK (fJ (A7 K rfl) (by rfl) T.isinstance PyProof.Rows.boot_isinstance (za (pv 5) (za (zX (v:=.ref zm) (by rfl) T.D9 rfl) zf)))) (pL (pN (oK (fJ (A7 K rfl) (by rfl) T.isinstance PyProof.Rows.boot_isinstance (za (pv 5) (za (zX (v:=.ref zg) (by rfl) T.Eb rfl) zf)))))))) (zi (sset (i:=4) br.nd (eS (za eE (za (Jx K rfl (pv 5) rfl) zf))))) cX)
    (zi (cR (PW.pt (pM (oK (fJ (A7 K rfl) (by rfl) T.isinstance PyProof.Rows.boot_isinstance (za (pv 5) (za (zX (v:=.ref zg) (by rfl) T.Eb rfl) zf)))) (pL (pN (oK (fJ (A7 K rfl) (by rfl) T.isinstance PyProof.Rows.boot_isinstance (za (pv 5) (za (zX (v:=.ref zm) (by rfl) T.D9 rfl) zf)))))))) (zi (sset (i:=4) br.nd (eS (za eE (za (ay (zo K rfl) (Jx K rfl (pv 5) rfl) zh) zf))))) cX))))) Rq))
   (zi (zz (pv 4))))),?_⟩
  refine⟨by show 0<=sizeLine;decide,fun b0 kU=>?_⟩;have t0:=ah.new (o:=.tup []) kU;have F0:=hF.same t0;generalize upd H b0 (.tup [])=H0 at t0 F0;refine⟨_,rfl,_,rfl,_,rfl,_,rfl,p,pm,pu,pt,pf,lo,hi,us,ai,ts,af,fs,nm,ot,w,rfl,F0,pC,jc,zP,Fb,w0,w6,fun nr hw v H1 s1=>?_,fun d q rs H1 s1 hd hq iA lr R=>?_,fun nr hw d r c e H1 s1 hd ra ri=>?_,fun nr no hw H1 s1=>?_⟩
  ·refine⟨by show 2<=sizeLine;decide,fun q hq=>?_⟩;exact⟨_,rfl,k q _ (t0.trans (s1.trans (ah.new hq))) (.inr (.inl ⟨nr,hw,v,zb⟩))⟩
  ·refine⟨zm,rfl,true,T.Se,?_⟩;rw[if_pos rfl];intro e he;have t2:=ah.new (o:=c8 e zm (some d)) he;have he:upd H1 e (c8 e zm (some d)) e=some (c8 e zm (some d)):=zb;have hd:=t2 _ _ hd;have hq:=t2 _ _ hq;generalize upd H1 e (c8 e zm (some d))=H2 at t2 he hd hq;refine⟨by show 0<=sizeLine;decide,fun l hl=>⟨by show 2<=sizeLine;decide,fun q0 aE=>?_⟩⟩;have t3:=(ah.new (o:=.lst []) hl).trans (ah.new (o:=.tup [.str (Str.ofString "other"),.ref l]) aE);have he:=t3 _ _ he;have hd:=t3 _ _ hd;have hq:=t3 _ _ hq;generalize upd (upd H2 l (.lst [])) q0 (.tup [.str (Str.ofString "other"),.ref l])=H3 at t3 he hd hq
   try dsimp only[zx]
   have S:=t0.trans (s1.trans (t2.trans t3));refine iz true (fun Q' hQ=>⟨_,rfl,e,zm,some d,zm,true,rfl,he,fun d' h=>(by cases h;exact⟨_,hd⟩),T.A8,T.Ea,T.Sh,_,rfl,dD ⟨_,rfl,e,zm,some d,zg,false,rfl,he,fun d' h=>(by cases h;exact⟨_,hd⟩),T.A8,T.Ea,T.JP,_,rfl,hQ⟩⟩) (dD ?_);refine⟨_,rfl,e,zm,d,_,_,rfl,he,hd,T.A8,T.JH,rfl,by show 2<=sizeLine;decide,fun q2 oh=>?_⟩;have t4:=ah.new (o:=.tup [.str (Str.ofString "round"),.ref q]) oh;have he:=t4 _ _ he;have hd:=t4 _ _ hd
   try dsimp only[zx]
   refine iz false (fun Q' hQ=>⟨_,rfl,e,zm,some d,zg,false,rfl,he,fun d' h=>(by cases h;exact⟨_,hd⟩),T.A8,T.Ea,T.JP,_,rfl,cT hQ⟩) (cT ?_);refine⟨_,rfl,k q2 _ (S.trans t4) (.inl ⟨fun nr=>By nr iA R,q,rs,zb,t4 _ _ hq,iA,lr,R⟩)⟩
  ·refine⟨zg,rfl,true,T.Sf,?_⟩;rw[if_pos rfl];intro e' he;obtain⟨lr,h1,h2⟩:=ra;have t2:=ah.new (o:=c8 e' zg (some d)) he;have he:upd H1 e' (c8 e' zg (some d)) e'=some (c8 e' zg (some d)):=zb;have hd:=t2 _ _ hd;have h1:=t2 _ _ h1;have h2:=t2 _ _ h2;generalize upd H1 e' (c8 e' zg (some d))=H2 at t2 he hd h1 h2;refine⟨by show 0<=sizeLine;decide,fun l hl=>⟨by show 2<=sizeLine;decide,fun q0 aE=>?_⟩⟩;have t3:=(ah.new (o:=.lst []) hl).trans (ah.new (o:=.tup [.str (Str.ofString "other"),.ref l]) aE);have he:=t3 _ _ he;have hd:=t3 _ _ hd;have h1:=t3 _ _ h1;have h2:=t3 _ _ h2;generalize upd (upd H2 l (.lst [])) q0 (.tup [.str (Str.ofString "other"),.ref l])=H3 at t3 he hd h1 h2
   try dsimp only[zx]
   have S:=t0.trans (s1.trans (t2.trans t3));refine iz false (fun Q' hQ=>⟨_,rfl,e',zg,some d,zm,false,rfl,he,fun d' h=>(by cases h;exact⟨_,hd⟩),T.A9,T.Ec,T.JQ,_,rfl,cT hQ⟩) (cT ?_)
   try unfold jY
   try dsimp only
   refine iz true (fun Q' hQ=>⟨_,rfl,e',zg,some d,zg,true,rfl,he,fun d' h=>(by cases h;exact⟨_,hd⟩),T.A9,T.Ec,T.Si,_,rfl,dD ⟨_,rfl,e',zg,some d,zm,false,rfl,he,fun d' h=>(by cases h;exact⟨_,hd⟩),T.A9,T.Ec,T.JQ,_,rfl,hQ⟩⟩) (dD ?_);refine⟨_,rfl,e',zg,d,_,_,rfl,he,hd,T.A9,T.JJ,rfl,r,_,_,_,rfl,rfl,aG.of h1,iU (j:=1) rfl,by show 2<=sizeLine;decide,fun q2 oh=>?_⟩;have t4:=ah.new (o:=.tup [.str (Str.ofString "row"),.ref lr]) oh
   try dsimp only[zx]
   refine⟨_,rfl,k q2 _ (S.trans t4) (.inr (.inr (.inl ⟨nr,hw,lr,c,e,zb,t4 _ _ h2,ri⟩)))⟩
  ·refine⟨zp,rfl,true,T.Sg,?_⟩;rw[if_pos rfl];intro e he;have t2:=ah.new (o:=c8 e zp none) he;have he:upd H1 e (c8 e zp none) e=some (c8 e zp none):=zb;generalize upd H1 e (c8 e zp none)=H2 at t2 he;refine⟨by show 0<=sizeLine;decide,fun l hl=>⟨by show 2<=sizeLine;decide,fun q0 aE=>?_⟩⟩;have t3:=(ah.new (o:=.lst []) hl).trans (ah.new (o:=.tup [.str (Str.ofString "other"),.ref l]) aE);have he:=t3 _ _ he;have e0:upd (upd H2 l (.lst [])) q0 (.tup [.str (Str.ofString "other"),.ref l]) q0=some (.tup [.str (Str.ofString "other"),.ref l]):=zb;generalize upd (upd H2 l (.lst [])) q0 (.tup [.str (Str.ofString "other"),.ref l])=H3 at t3 he e0
   try dsimp only[zx]
   have S:=t0.trans (s1.trans (t2.trans t3));refine iz false (fun Q' hQ=>⟨_,rfl,e,zp,none,zm,false,rfl,he,(fun d' h=>nomatch h),T.JM,T.JN,T.Sj,_,rfl,cT hQ⟩) (cT ?_)
   try unfold jY
   try dsimp only
   refine iz false (fun Q' hQ=>⟨_,rfl,e,zp,none,zg,false,rfl,he,(fun d' h=>nomatch h),T.JM,T.JN,T.Sk,_,rfl,cT hQ⟩) (cT ?_);exact⟨_,rfl,k q0 _ S (.inr (.inr (.inr ⟨nr,no,hw,l,e0⟩)))⟩
theorem Wl{ln:Ln}:cJ ln []:=fun s h=>(List.not_mem_nil h).elim
def Wm:Sp:=fun vs H Q _=>∃(p pm pu pt pf:Addr)(lo hi:Int)(us:List Str)(ai:List Addr)(ts:List av)(af:List Addr)(fs:List bI),vs = [.ref p]/\cU K H p pm pu pt pf lo hi us ai ts af fs/\zn ts (au us) = []/\∀(q:Addr)(H':Hp),ah H H'->H' q=some (.lst [])->Q (.ref q) H'
theorem Wn(T:Tx K mg w zj zm zg zp):cD P w K mg base "spans" ["telling"] 9 (Wm (K:=K)):=(K9 T).good fun vs H Q E h=>by
 obtain⟨p,pm,pu,pt,pf,lo,hi,us,ai,ts,af,fs,e,hF,ke,k⟩:=h;refine⟨p,pm,pu,pt,pf,lo,hi,us,ai,ts,af,fs,e,hF,fun _ q f g H' s _ sp _ _ _=>?_,fun d q rs H' _ _ _ hn _ R=>?_,fun _ d r c w H' _ _ _ ri=>?_⟩
 ·obtain⟨as,h1,h2⟩:=sp;rw[ke] at h2;cases h2;exact k q H' s h1
 ·rw[ke] at R;exact(R.dg.mp hn).elim fun s h=>(List.not_mem_nil h.1).elim
 ·obtain⟨k',m,hk,_⟩:=ri;rw[ke] at hk;exact(List.not_mem_nil hk).elim
theorem BE{H:Hp}{a b:Addr}{n:Nat}(ha:H a=some (.lst []))(hb:H b=some (.lst [])):bP K H (n+1) (.ref a) (.ref b) true:=by
 have:=bP.lst (n:=n) (K:=K) (fun _=>true) (ao.of ha) (ao.of hb) rfl (fun i x y h=>by cases h);rw[List.all_eq_true.mpr fun _ _=>rfl] at this;exact this
theorem bP.rq{K:PySem.W.Frag}{H:Hp}{n:Nat}{a b:Addr}{xs ys:List V}(hx:ao K H a xs)(hy:ao K H b ys)(hl:xs.length=ys.length)(h:∀(i:Nat)x y,xs[i]? = some x->ys[i]? = some y->bP K H n x y true):bP K H (n+1) (.ref a) (.ref b) true:=by
 have:=bP.lst (n:=n) (fun _=>true) hx hy hl h;rw[List.all_eq_true.mpr fun _ _=>rfl] at this;exact this
theorem Lm{H:Hp}{n:Nat}{as bs:List Addr}{fC:List (List V)}(ta:aV H as fC)(tb:aV H bs fC)(hw:∀vs∈fC,∀v∈vs,Wd v):∀(i:Nat)x y,(as.map V.ref)[i]? = some x->(bs.map V.ref)[i]? = some y->bP K H (n+1) x y true:=by
 intro i x y ex ey;rw[List.getElem?_map] at ex ey;cases ea:as[i]? with
 | none=>rw[ea] at ex;cases ex
 | some a=>
  cases eb:bs[i]? with
  | none=>rw[eb] at ey;cases ey
  | some b=>
   rw[ea] at ex;rw[eb] at ey;cases ex;cases ey;obtain⟨ws,e1,h1⟩:=ta.at ea;obtain⟨Xv,e2,h2⟩:=tb.at eb;rw[e1] at e2;cases e2;have fl:∀v∈ws,jj v=true:=fun v hv=>(hw ws (List.mem_of_getElem? e1) v hv).flat
   have:=bP.nI (n:=n) (aG.of (K:=K) h1) (aG.of h2) fl fl
   rwa [CO fl] at this
theorem Wo{H:Hp}{p pm pu pt pf p' EG Bh kj u0:Addr}{lo hi:Int}{us:List Str}{ts:List av}{fs:List bI}{at' af bt bf:List Addr}(A:gF K H p pm pu pt pf lo hi us ts fs at' af)(B:gF K H p' EG Bh kj u0 lo hi us ts fs bt bf)(ht:∀vs∈ts.map bg,∀v∈vs,Wd v)(hf:∀vs∈fs.map dU,∀v∈vs,Wd v):bP K H 8 (.ref p) (.ref p') true:=by
 refine bP.xy (n:=7) A.p B.p rfl (fun i x y ex ey=>?_)
 match i,ex,ey with
 | 0,ex,ey=>
  cases ex;cases ey;have fl:∀v∈([V.int lo,V.int hi]:List V),jj v=true:=by simp[jj]
  have:=bP.nI (n:=6) A.at'.m B.at'.m fl fl
  rwa [CO fl] at this
 | 1,ex,ey=>
  cases ex;cases ey;refine bP.nJ (n:=6) A.at'.u B.at'.u fun x hx=>?_
  obtain⟨z,_,rfl⟩:=List.mem_map.mp hx;have:=bP.flat (K:=K) (H:=H) (n:=6) (x:=.str z) (y:=.str z) rfl rfl
  rwa [xq rfl] at this
 | 2,ex,ey=>
  cases ex;cases ey;exact bP.rq (n:=6) A.at'.t B.at'.t (by rw[List.length_map,List.length_map,A.at'.tt.len,B.at'.tt.len]) (Lm A.at'.tt B.at'.tt ht)
 | 3,ex,ey=>
  cases ex;cases ey;exact bP.rq (n:=6) A.at'.f B.at'.f (by rw[List.length_map,List.length_map,A.at'.ft.len,B.at'.ft.len]) (Lm A.at'.ft B.at'.ft hf)
 | i+4,ex,ey=>cases ex
def zQ:Nat:=14
def oF:Sp:=fun vs H Q _=>∃(a:Addr)(ns:List Int),vs = [.ref a]/\ao K H a (ns.map V.int)/\ns.length<=63/\∀H',Q (.bl true) H'
theorem Wq{ts:List av}:zn ts (au []) = []:=rfl
theorem Lo{us:List Str}{i:Int}(h0:0<=i)(h1:i<(us.length:Int)):∃x∈us,gC (us.map V.str) i=some (.str x):=by
 have hi:i.toNat<us.length:=by omega
 refine⟨us[i.toNat],List.getElem_mem hi,?_⟩;have:=iU (xs:=us.map V.str) (j:=i.toNat) (v:=.str us[i.toNat]) (by simp[hi]);rw[Int.toNat_of_nonneg h0] at this;exact this
def Words(H:Hp)(qs:List Addr)(lo hi:Int)(us:List Str)(ai:List Addr)(ts:List av)(af:List Addr)(fs:List bI):Prop:=∀(j:Nat)q,qs[j]? = some q->cy H q (j:Int) lo hi us ai ts af fs
theorem Words.same{H H':Hp}{qs:List Addr}{lo hi:Int}{us:List Str}{ai:List Addr}{ts:List av}{af:List Addr}{fs:List bI}(h:Words H qs lo hi us ai ts af fs)(s:ah H H'):Words H' qs lo hi us ai ts af fs:=fun j q e=>(h j q e).same s
theorem Wr{us:List Str}{f:bI}{j:Int}(h:nP us f)(hj:j=0\/j=1):nP us (qT j f):=by
 rcases hj with rfl | rfl
 ·exact⟨h.n,h.u,h.le,h.lo,h.hi⟩
 ·exact⟨h.n,h.u,Int.le_refl _,h.lo,h.lo⟩
theorem Lp{lo hi:Int}{us:List Str}{ai:List Addr}{ts:List av}{af:List Addr}{fs:List bI}{c:bZ}{w:Str}(no:jQ lo hi us ai ts af fs)(ri:mZ lo hi us ai ts af fs c w):False:=by
 obtain⟨k,m,hk,u,g,_,hl,_⟩:=ri;have:=no k hk c m u g;omega
theorem Ws{lo hi:Int}{us:List Str}{ai:List Addr}{ts:List av}{af:List Addr}{fs:List bI}{c c':bZ}{w w':Str}(h:mZ lo hi us ai ts af fs c w)(h':mZ lo hi us ai ts af fs c' w'):c.2.2.length=c'.2.2.length:=by
 obtain⟨k,m,hk,u,g,_,hl,mn⟩:=h;obtain⟨k',m',dj,u',g',_,jo,Wt⟩:=h';rcases Nat.lt_trichotomy c.2.2.length c'.2.2.length with z | z | z
 ·have:=Wt k hk c m u g z;omega
 ·exact z
 ·have:=mn k' dj c' m' u' g' z;omega
theorem Wu{R:Rw}{F:Str->IS->Prop}{k:Str}{c:bZ}(h:Up R F k c):∀b∈c.2.2,∃k l,(l,b)∈R k:=by
 induction h with
 | bare h=>intro b hb;exact(List.not_mem_nil hb).elim
 | up u h ih=>
  intro b hb;rcases List.mem_append.mp hb with hb | hb
  ·exact ih b hb
  ·rw[List.mem_singleton.mp hb];exact⟨_,_,h⟩
theorem cy.two{H:Hp}{q:Addr}{w lo hi:Int}{us:List Str}{ai:List Addr}{ts:List av}{af:List Addr}{fs:List bI}(h:cy H q w lo hi us ai ts af fs):∃x v,H q=some (.tup [x,v]):=by
 rcases h with ⟨a,l,rs,h1,h2,h3⟩ | ⟨a,b,v,h⟩ | ⟨a,b,l,c,e,h1,h2,h3⟩ | ⟨a,b,c,l,h⟩
 ·exact⟨_,_,h1⟩
 ·exact⟨_,_,h⟩
 ·exact⟨_,_,h1⟩
 ·exact⟨_,_,h⟩
theorem cy.put{H:Hp}{q D:Addr}{qs:List Addr}{o:HO}{w lo hi:Int}{us:List Str}{ai:List Addr}{ts:List av}{af:List Addr}{fs:List bI}(h:cy H q w lo hi us ai ts af fs)(T:aV H ai (ts.map bg))(hD:H D=some (.lst (qs.map V.ref)))(two:∀q∈qs,∃x v,H q=some (.tup [x,v]))(iA:4<=w->qs≠[]):cy (upd H D o) q w lo hi us ai ts af fs:=by
 have tup:∀{q:Addr}{xs:List V},H q=some (.tup xs)->upd H D o q=some (.tup xs):=fun{q xs}e=>by
  rw[zr (fun z=>by rw[z,hD] at e;cases e)];exact e
 have no:∀{r:Addr}{t:av},(t,r)∈ts.zip ai->r∈qs->False:=fun{r t}hz hr=>by
  obtain⟨x,v,e⟩:=two r hr;rw[(T.nR hz).1] at e;unfold bg at e;cases e
 rcases h with ⟨a,l,rs,h1,h2,h3,h4,h5⟩ | ⟨a,b,v,h⟩ | ⟨a,b,l,c,e,h1,h2,h3⟩ | ⟨a,b,c,l,h⟩
 ·refine .inl ⟨a,l,rs,tup h1,?_,h3,h4,h5⟩;rw[zr (fun z=>?_)]
  ·exact h2
  ·rw[z,hD] at h2;have e:qs=rs:=by
    have:=HO.lst.inj (Option.some.inj h2);exact(List.map_inj_right (fun _ _ e=>V.ref.inj e)).mp this
   obtain⟨vs,rt⟩:=h5.pX;cases rs with
   | nil=>exact h3 rfl
   | cons x r=>
    obtain⟨t,hz,_⟩:=rt.at' 0 x rfl;exact no hz (by rw[e];exact List.mem_cons_self ..)
 ·exact .inr (.inl ⟨a,b,v,tup h⟩)
 ·refine .inr (.inr (.inl ⟨a,b,l,c,e,tup h1,?_,h3⟩));rw[zr (fun z=>?_)]
  ·exact h2
  ·rw[z,hD] at h2;have e2:qs=c.2.2.map (·.2):=by
    have:=HO.lst.inj (Option.some.inj h2);rw[show(fun p:Tr=>V.ref p.2)=V.ref ∘ (fun p:Tr=>p.2) from rfl,←List.map_map] at this;exact(List.map_inj_right (fun _ _ e=>V.ref.inj e)).mp this
   obtain⟨k,m,hk,u,_⟩:=h3;cases qs with
   | nil=>exact iA b rfl
   | cons x r=>
    have hx:x∈c.2.2.map (·.2):=by rw[←e2];exact List.mem_cons_self ..
    obtain⟨bb,hb,ex⟩:=List.mem_map.mp hx;obtain⟨k',l',hr⟩:=Wu u bb hb;exact no (t:=bb.1) (r:=bb.2) (iE.mp hr).1 (by rw[ex];exact List.mem_cons_self ..)
 ·exact .inr (.inr (.inr ⟨a,b,c,l,tup h⟩))
set_option maxHeartbeats 16000000 in
theorem zR(T:Tx K mg w zj zm zg zp):cD P w K mg base "law" ["_law_script"] zQ (oF (K:=K)):=by
 refine T.Tc.has ee (fun vs H Q E h=>?_) (fun f aR A outer s H vs Q E hr h=>?_)
 ·obtain⟨a,ns,rfl,_⟩:=h;rfl
 ·obtain⟨a,ns,rfl,ha,hl,k⟩:=h;refine⟨_,(zc (sset (i:=1) ee.nd (aH (T9 T) (za (pv 0) (za (k7 fZ (aH (zy T) (za (aH (o6 T) (za (pv 0) (za zh zf))) (za zh (za zh zf)))) zh (bW _)) zf))))
   (zc (sset (i:=1) ee.nd (aH (V3 T) (za (pv 1) (za (aH (o6 T) (za (pv 0) (za zh zf))) zf))))
   (zc (cR (cE (sG K rfl (gk hr)) (ay (zo K rfl) (pv 1) zh) (cI zf) (bW _)) (zi (zz (rH (k7 (sG K rfl (gk hr)) (aH (vh T) (za (pv 1) zf)) (cI zf) (bW _)) (rH (k7 (sG K rfl (gk hr)) (aH (Wn T) (za (pv 1) zf)) (cI zf) (bW _)) (rH (k7 (sG K rfl (gk hr)) (aH (EN T) (za (pv 1) zf)) (cI zf) (bW _)) (Aa (k7 (sG K rfl (gk hr)) (aH (Ks T) (za (pv 1) zf)) (cI zf) (bW _)))))))) cX)
   (zc (sset (i:=2) ee.nd (ay (dS K rfl) (ay (zo K rfl) (pv 1) zh) (aH (zy T) (za (aH (o6 T) (za (pv 0) (za zh zf))) (za zh (za (fJ (lA K rfl) (by rfl) T.len boot_len (za (ay (zo K rfl) (pv 1) zh) zf)) zf))))))
   (zc (sset (i:=3) ee.nd (ay (dS K rfl) (ay (zo K rfl) (pv 1) zh) (aH (zy T) (za (aH (o6 T) (za (pv 0) (za zh zf))) (za zh (za (fJ (lA K rfl) (by rfl) T.len boot_len (za (ay (zo K rfl) (pv 1) zh) zf)) zf))))))
   (zc (sset (i:=4) ee.nd (fJ (lA K rfl) (by rfl) T.len boot_len (za (aH (EB T) (za (aH (Ka T) (za (pv 1) zf)) zf)) zf)))
   (zc (sset (i:=5) ee.nd (aH (Ka T) (za (pv 1) zf)))
   (zc (sset (i:=6) ee.nd (ly (own:=["_law_way"]) (cap:=["_law_handed","_law_name","_law_other"]) (ix:=[5,2,3]) (gE:=zq (top 60)) rfl ⟨rfl,by decide +kernel,by decide +kernel,by decide +kernel,by decide +kernel⟩ rfl (rN (by rfl) T.range (za zh zf)) (fun _ _ _ _=>ig (i:=0) (show List.Nodup (["_law_way","_law_handed","_law_name","_law_other"]:List Str) by decide +kernel) rfl (Or.inl rfl)) (fun _ _ _ _=>j5) (fun _ _ _ _=>(aH (Wj T) (za (pv 0) (za (pv 1) (za (pv 2) (za (pv 3) zf))))))))
   (zc (cR (cE (zev K rfl (gk hr)) (pv 5) (pv 1) (bW _)) (zi (zz lP)) cX)
   (zc (cR (cE uA (pv 4) zh (bW _)) (zi (zz (k7 (NZ K rfl) lP (ly (own:=["_law_one"]) (cap:=["_law_telling_here","_law_many"]) (ix:=[1,4]) (gE:=zq (top 60)) rfl ⟨rfl,by decide +kernel,by decide +kernel,by decide +kernel,by decide +kernel⟩ rfl (eF K rfl (pv 6)) (fun _ _ _ _=>ig (i:=0) (show List.Nodup (["_law_one","_law_telling_here","_law_many"]:List Str) by decide +kernel) rfl (Or.inl rfl)) (fun _ _ _ _=>j5) (fun _ _ _ _=>(rH (k7 fZ (ay (zo K rfl) (pv 0) zh) eE (bW _)) (Aa (aH (V7 T) (za (pv 1) (za (ay (zo K rfl) (pv 0) zh) (za (pv 2) zf)))))))) (by with_unfolding_all rfl)))) cX)
   (zc (cR (cE (zev K rfl (gk hr)) (ly (own:=["_law_one"]) (cap:=[]) (ix:=[]) (gE:=zq (top 60)) rfl ⟨rfl,by decide +kernel,by decide +kernel,by decide +kernel,by decide +kernel⟩ rfl (eF K rfl (lT (sF K rfl) (pv 6) nC (kC zh))) (fun _ _ _ _=>ig (i:=0) (show List.Nodup (["_law_one"]:List Str) by decide +kernel) rfl (Or.inl rfl)) (fun _ _ _ _=>j5) (fun _ _ _ _=>(ay (zo K rfl) (pv 0) zh))) (cI (za eE (za eE (za eE (za eE zf))))) (bW _)) (zi (zz lP)) cX)
   (zc (cR (cE fZ (ay (zo K rfl) (ay (dS K rfl) (pv 6) zh) zh) eE (bW _)) (zc (w9 (i:=7) (own:=["_law_one"]) (cap:=["_law_words"]) (ix:=[6]) (gE:=zq (top 60)) rfl ee.nd rfl rfl rfl ⟨rfl,by decide +kernel,by decide +kernel,by decide +kernel,by decide +kernel⟩ rfl (eF K rfl (lT (sF K rfl) (pv 6) (kC zh) nC)) (fun _ _ _ _=>ig (i:=0) (show List.Nodup (["_law_one","_law_words"]:List Str) by decide +kernel) rfl (Or.inl rfl)) (fun _ _ _ _=>j5) (fun _ _ _ _=>(rH (k7 fZ (ay (zo K rfl) (pv 0) zh) eE (bW _)) (Aa (k7 fZ (fJ (lA K rfl) (by rfl) T.len boot_len (za (ay (zo K rfl) (pv 0) zh) zf)) (fJ (lA K rfl) (by rfl) T.len boot_len (za (ay (zo K rfl) (ay (dS K rfl) (pv 1) zh) zh) zf)) (bW _))))))
    (zi (zz (k7 (sG K rfl (gk hr)) (pv 7) (cI (za lP (za lP zf))) (bW _))))) cX)
   (zi (zz (rH (k7 fZ (ay (zo K rfl) (ay (dS K rfl) (pv 6) zh) zh) eE (bW _)) (rH (k7 fZ (ay (zo K rfl) (ay (dS K rfl) (pv 6) zh) zh) eE (bW _)) (Aa (k7 fZ (ay (zo K rfl) (ay (dS K rfl) (pv 6) zh) zh) eE (bW _))))))))))))))))))),?_⟩
  rw[show L2.start (["_law_script","_law_telling_here","_law_name","_law_other","_law_many","_law_handed","_law_words","_law_alike"]:List Str) [V.ref a] = [some (V.ref a),none,none,none,none,none,none,none] from rfl];refine⟨_,rfl,_,rfl,a,ns,_,rfl,ha,by decide,_,_,_,rfl,by decide,?_⟩;refine⟨rfl,a,ns,_,rfl,ha,hl,fun p0 pm pu kj Wv lo hi us ts BF at' Ww H1 dat _ hp Lq s1=>?_⟩
  try dsimp only[zx,List.set]
  have f6:=dat.fl;refine⟨_,rfl,_,rfl,a,ns,_,rfl,s1.seq ha,by decide,p0,pm,pu,kj,Wv,lo,hi,us,ts,BF,at',Ww,_,rfl,Lq,by omega,fun p pf j af H2 hj s2 hA=>?_⟩
  try dsimp only[zx,List.set]
  have uP:∀f∈BF.map (qT j),nP us f:=fun f hf=>by
   obtain⟨g,hg,rfl⟩:=List.mem_map.mp hf;exact Wr (dat.uP g hg) hj
  have fl:(BF.map (qT j)).length<=6:=by rw[List.length_map];exact f6
  have ha:=(s1.trans s2).seq ha;generalize BF.map (qT j)=fs at *;have hw:=dat.tw;have Wx:∀vs∈fs.map dU,∀v∈vs,Wd v:=fun vs hv=>by
   obtain⟨f,hf,rfl⟩:=List.mem_map.mp hv;exact(uP f hf).words dat.nm
  have tg:∀{H:Hp}{p pu pt pf:Addr},gF K H p pm pu pt pf lo hi us ts fs at' af->cU K H p pm pu pt pf lo hi us at' ts af fs:=fun h=>h.DQ dat.nd (by have:=dat.ul;omega) (by have:=dat.tl;omega) dat.tok (fun f hf=>(uP f hf).u) (by omega)
  have pC:ts.length<=60:=by have:=dat.tl;omega
  clear hp Lq s2 s1 hj;refine qG (decide (us.map V.str = [])) (fun Q' hQ=>?_) (fun H3 s3=>?_)
  ·refine⟨_,rfl,p,_,_,_,rfl,rfl,hA.p,rfl,by show 0<=sizeLine;decide,fun e he=>?_⟩;exact⟨pu,e,_,rfl,rfl,bP.lX ((ah.new he).seq hA.at'.u) (ao.of zb),_,rfl,hQ _ (ah.new he)⟩
  have hA:=hA.same s3;have ha:=s3.seq ha;clear s3;refine aT (fun c=>?_) (fun c=>?_)
  ·have c:=List.map_eq_nil_iff.mp (of_decide_eq_true c);subst c;have F:=tg hA;have ke:zn ts (au []) = []:=Wq;have nr:cJ (aZ ts (ts.zip at')) (zn ts (au [])):=by rw[ke];exact Wl
   refine⟨_,rfl,p,pu,kj,_,_,[],at',ts,rfl,F.cz,nr,fun q os H4 s4 _ hq _ pr=>?_⟩;rw[ke] at pr;have eo:=pr.eq_nil;subst eo;refine⟨by show 0<=sizeLine;decide,fun e he=>?_⟩;have t4:=ah.new (o:=.lst []) he;refine⟨q,e,true,rfl,rfl,BE (t4 _ _ hq) zb,_,rfl,dD ?_⟩;have q4:=s4.trans t4;refine⟨_,rfl,p,pm,pu,kj,pf,lo,hi,[],at',ts,af,fs,rfl,F.same q4,ke,fun q2 H5 s5 oh=>?_⟩;refine⟨by show 0<=sizeLine;decide,fun e2 uV=>?_⟩;have t5:=ah.new (o:=.lst []) uV;refine⟨q2,e2,true,rfl,rfl,BE (t5 _ _ oh) zb,_,rfl,dD ?_⟩;have q5:=q4.trans (s5.trans t5);refine⟨_,rfl,p,pu,kj,_,_,[],at',ts,rfl,(F.same q5).cz,pC,nr,fun D bs qs H6 s6 _ hD pb _ _ dr=>?_⟩;have eq:qs = []:=by
    cases qs with
    | nil=>rfl
    | cons x r=>
     have:=(dr x).mp (List.mem_cons_self ..);rw[ke] at this;exact(List.not_mem_nil this.1).elim
   subst eq;cases pb;refine⟨by show 0<=sizeLine;decide,fun e3 Wy=>?_⟩;have t6:=ah.new (o:=.lst []) Wy;refine⟨D,e3,true,rfl,rfl,BE (t6 _ _ hD) zb,_,rfl,dD ?_⟩;have q6:=q5.trans (s6.trans t6);refine⟨_,rfl,p,pu,kj,_,_,[],at',ts,rfl,(F.same q6).cz,nr,fun q3 cs lv H7 s7 _ Wz _ _ _ _ L=>?_⟩;have ec:cs = []:=by
    rw[ke] at L;cases cs with
    | nil=>rfl
    | cons x r=>
     obtain⟨y,hy,_⟩:=L.all 0 (by rw[List.length_cons];omega);exact(List.not_mem_nil hy).elim
   subst ec;refine⟨by show 0<=sizeLine;decide,fun e4 WA=>?_⟩;have t7:=ah.new (o:=.lst []) WA;exact⟨q3,e4,true,rfl,rfl,BE (t7 _ _ Wz) zb,k _⟩
  have WB:us≠[]:=fun z=>c (decide_eq_true (by rw[z];rfl))
  have mL:(0:Int)<(us.length:Int):=by have:=List.length_pos_iff.mpr WB;omega
  try unfold jY
  try dsimp only
  obtain⟨nm,jc,WC⟩:=Lo (us:=us) (eU (g8 ns 28) 90 _ mL).1 (eU (g8 ns 28) 90 _ mL).2;obtain⟨ot,zP,WD⟩:=Lo (us:=us) (eU (g8 ns 28) 91 _ mL).1 (eU (g8 ns 28) 91 _ mL).2;refine⟨_,rfl,p,_,_,_,rfl,rfl,hA.p,rfl,_,rfl,a,ns,_,rfl,ha,by decide,_,rfl,p,_,_,_,rfl,rfl,hA.p,rfl,pu,_,rfl,.inl hA.at'.u,?_⟩;rw[List.length_map];refine⟨_,_,_,rfl,mL,pu,_,_,_,rfl,rfl,hA.at'.u,WC,?_⟩
  try dsimp only[zx,List.set]
  refine⟨_,rfl,p,_,_,_,rfl,rfl,hA.p,rfl,_,rfl,a,ns,_,rfl,ha,by decide,_,rfl,p,_,_,_,rfl,rfl,hA.p,rfl,pu,_,rfl,.inl hA.at'.u,?_⟩;rw[List.length_map];refine⟨_,_,_,rfl,mL,pu,_,_,_,rfl,rfl,hA.at'.u,WD,?_⟩
  try dsimp only[zx,List.set]
  refine⟨_,rfl,p,pm,pu,kj,pf,lo,hi,us,ts,fs,at',af,rfl,hA,fun p1 WE WG Xw H4 gH zN s4=>?_⟩;refine⟨p1,WE,WG,_,_,us,at',ts,rfl,(tg zN).cz,fun q rs H5 s5 _ hq lr R=>?_⟩;refine⟨q,_,rfl,.inl (ao.of hq),?_⟩;rw[List.length_map]
  try dsimp only[zx,List.set]
  have Fd:=hA.same (s4.trans s5);refine⟨_,rfl,p,pm,pu,kj,pf,lo,hi,us,ts,fs,at',af,rfl,Fd,fun p2 WH vQ WI H6 jk oE s6=>?_⟩
  try dsimp only[zx,List.set]
  have Lr:=Fd.same s6;clear hq gH zN Fd s4 s5 hA s6 ha jk;refine⟨7,rfl,by decide,by decide,fun D hD=>?_⟩;refine mS (GG (lo:=0) (n:=((7:Int)).toNat)) (fun i aq ys H'=>∃v0 qs,aq = [v0,some (.ref p2),some (.str nm),some (.str ot)]/\ys=List.map V.ref qs/\qs.length=i/\Words H' qs lo hi us at' ts af fs/\ah H6 H'/\H' D=some (.lst ys))
   ⟨none,[],rfl,rfl,rfl,(fun j q e=>by cases e),ah.new hD,zb⟩ (fun i aq ys H' h=>?_) (by show 7<=sizeLine;decide) ?_ ?_
  ·obtain⟨_,qs,_,rfl,l,_,_,hd⟩:=h;exact⟨trivial,hd,by rw[List.length_map,l];exact Nat.le_refl _⟩
  ·rintro i v aq ys H' hx ⟨v0,qs,rfl,rfl,l,ws,q',hd⟩;have dR:=eT hx;rw[List.length_map,List.length_range] at dR;have hx:v = .int (i:Int):=by
    rw[List.getElem?_map,List.getElem?_range dR] at hx;cases hx;show V.int (0+(i:Int))=_;rw[Int.zero_add]
   subst hx;have Xx:i<7:=dR;unfold zx gS;dsimp only[List.set];refine dD ?_;refine⟨_,rfl,_,rfl,_,rfl,_,rfl,p2,pm,WH,vQ,WI,lo,hi,us,at',ts,af,fs,nm,ot,(i:Int),rfl,(tg oE).same q',pC,jc,zP,by omega,by omega,by omega,fun q1 H7 s7 wi=>?_⟩;have gM:=s7 _ _ hd;refine⟨gM,jD (by rw[List.length_map,List.length_range];exact dR) ⟨_,qs++[q1],rfl,by rw[List.map_append];rfl,by rw[List.length_append,l];rfl,fun j q e=>?_,(q'.trans s7).upd hD,zb⟩⟩;have T7:=((tg oE).same (q'.trans s7)).cz.tt;have two:∀q∈qs,∃x v,H7 q=some (.tup [x,v]):=fun q hq=>by
    obtain⟨j,hj⟩:=List.mem_iff_getElem?.mp hq;exact((ws j q hj).same s7).two
   by_cases hj:j<qs.length
   ·rw[List.getElem?_append_left hj] at e;exact((ws j q e).same s7).put T7 gM two (fun _ z=>by rw[z] at hj;cases hj)
   ·have ej:j=qs.length:=by
     have:=eT e;rw[List.length_append] at this;have:j<qs.length+1:=this;omega
    subst ej;rw[List.getElem?_append_right (Nat.le_refl _),Nat.sub_self] at e;cases e;rw[l];exact wi.put T7 gM two (fun h4 z=>by rw[z] at l;have:i=0:=l.symm;omega)
  rintro aq ys H7 ⟨v0,qs,rfl,rfl,l7,ws,s7,hd⟩;rw[List.length_map,List.length_range] at l7;have l7:qs.length=7:=l7;have oE:=oE.same s7;have hA:=Lr.same s7;clear Lr s7 hD
  try dsimp only[zx,List.set]
  refine qG false (fun Q' hQ=>⟨_,rfl,_,rfl,p2,p,true,rfl,rfl,Wo oE hA hw Wx,_,rfl,hQ _ (ah.refl _)⟩) (fun H8 s8=>cT ?_);have ws:=ws.same s8;have hd:=s8 _ _ hd;have hA:=hA.same s8;clear s8 oE
  try unfold jY
  try dsimp only
  obtain⟨q0,q1,q2,q3,q4,q5,q6,rfl⟩:∃q0 q1 q2 q3 q4 q5 q6,qs = [q0,q1,q2,q3,q4,q5,q6]:=by
   match qs,l7 with
   | [q0,q1,q2,q3,q4,q5,q6],_=>exact⟨_,_,_,_,_,_,_,rfl⟩
  have w0:=ws 0 _ rfl;have w1:=ws 1 _ rfl;have w2:=ws 2 _ rfl;have w3:=ws 3 _ rfl;have w4:=ws 4 _ rfl;have w5:=ws 5 _ rfl;have w6:=ws 6 _ rfl;refine iz (decide ((0:Int)<(rs.length:Int))) (fun Q' hQ=>⟨_,rfl,_,_,rfl,rfl,_,rfl,hQ⟩) ?_;refine aT (fun c=>?_) (fun c=>?_)
  ·have c:=of_decide_eq_true c;have WJ:rs≠[]:=fun z=>by rw[z] at c;exact absurd c (by decide)
   have nn:¬cJ (aZ ts (ts.zip at')) (zn ts (au us)):=fun nr=>By nr WJ R
   have rd:∀q∈[q0,q1,q2,q3,q4,q5,q6],∃l xs,H8 q=some (.tup [.str (Str.ofString "round"),.ref l])/\H8 l=some (.lst (xs.map V.ref))/\xs≠[]/\xs.length<=64/\ia (aZ ts (ts.zip at')) (zn ts (au us)) xs:=fun q hq=>by
    obtain⟨j,hj⟩:=List.mem_iff_getElem?.mp hq;rcases ws j q hj with ⟨_,z⟩ | ⟨nr,_⟩ | ⟨nr,_⟩ | ⟨nr,_⟩
    ·exact z
    ·exact absurd nr nn
    ·exact absurd nr nn
    ·exact absurd nr nn
   refine⟨_,rfl,D,rfl,⟨_,ao.of hd⟩,fun E' hE=>?_⟩;refine CP (oR (K:=K) (a:=D) (xs:=[q0,q1,q2,q3,q4,q5,q6].map V.ref)) (fun _=>.bl true) hE (fun H' s=>ao.of (s _ _ hd)) (by show 7<=sizeLine;decide) (fun v hv H' Q' s hQ=>?_) (fun H9 s9 h9=>?_)
   ·obtain⟨q,hm,rfl⟩:=List.mem_map.mp hv;obtain⟨l,xs,h1,h2,h3,h4,h5⟩:=rd q hm;obtain⟨vs,rt⟩:=h5.pX;refine⟨_,rfl,q,_,_,_,rfl,rfl,aG.of (s _ _ h1),lB,rfl,_,rfl,?_⟩;rw[decide_eq_true rfl];refine dD ⟨_,rfl,_,rfl,q,_,_,_,rfl,rfl,aG.of (s _ _ h1),iU (j:=1) rfl,_,rfl,p,pu,kj,l,_,_,us,at',xs,ts,vs,?_,((tg hA).same s).cz,hw,s _ _ h2,h3,by omega,rt,fun AB s'=>hQ _ s'⟩;rw[R.len h5];rfl
   ·refine⟨E',_,rfl,.inl (ao.of h9),rfl,rfl,?_⟩;exact k _
  have Fe:rs = []:=by
   cases rs with
   | nil=>rfl
   | cons x r=>exact absurd (decide_eq_true (by rw[List.length_cons];omega)) c
  have nr:cJ (aZ ts (ts.zip at')) (zn ts (au us)):=by
   rcases R with ⟨_,h⟩ | ⟨e,_⟩
   ·exact h
   ·exact absurd Fe e
  have told:∀{q:Addr}{w:Int},w<=3->cy H8 q w lo hi us at' ts af fs->∃v,H8 q=some (.tup [.str (Str.ofString "told"),v]):=fun{q w}hw h=>by
   rcases h with ⟨nn,_⟩ | ⟨_,_,z⟩ | ⟨_,z,_⟩ | ⟨_,_,z,_⟩
   ·exact absurd nr nn
   ·exact z
   ·omega
   ·omega
  obtain⟨y0,h0⟩:=told (by decide) w0;obtain⟨y1,h1⟩:=told (by decide) w1;obtain⟨y2,h2⟩:=told (by decide) w2;obtain⟨y3,h3⟩:=told (by decide) w3
  try unfold jY
  try dsimp only
  refine qG false (fun Q' hQ=>?_) (fun H9 s9=>cT ?_)
  ·refine⟨_,rfl,_,rfl,D,_,rfl,ao.of hd,fun p9 Ff=>?_⟩;rw[show fK ([q0,q1,q2,q3,q4,q5,q6].map V.ref) none (some 4) = [q0,q1,q2,q3].map V.ref from rfl];have t9:=ah.new (o:=.lst ([q0,q1,q2,q3].map V.ref)) Ff;have e9:upd H8 p9 (.lst ([q0,q1,q2,q3].map V.ref)) p9=some (.lst ([q0,q1,q2,q3].map V.ref)):=zb;generalize upd H8 p9 (.lst ([q0,q1,q2,q3].map V.ref))=H9 at t9 e9;refine⟨p9,rfl,⟨_,ao.of e9⟩,fun E' hE=>?_⟩;refine CP (oR (K:=K) (a:=p9) (xs:=[q0,q1,q2,q3].map V.ref)) (fun _=>.str (Str.ofString "told")) hE (fun H' s=>ao.of (s _ _ e9)) (by show 4<=sizeLine;decide) (fun v hv H' Q' s hQ=>?_) (fun Ha sa ea=>?_)
   ·obtain⟨q,hm,rfl⟩:=List.mem_map.mp hv;have:∃y,H8 q=some (.tup [.str (Str.ofString "told"),y]):=by
     simp only[List.mem_cons,List.not_mem_nil,or_false] at hm;rcases hm with rfl | rfl | rfl | rfl
     ·exact⟨_,h0⟩
     ·exact⟨_,h1⟩
     ·exact⟨_,h2⟩
     ·exact⟨_,h3⟩
    obtain⟨y,hy⟩:=this;exact⟨_,rfl,q,_,_,_,rfl,rfl,aG.of (s _ _ (t9 _ _ hy)),lB,hQ _ (ah.refl _)⟩
   ·refine⟨by show 4<=sizeLine;decide,fun pb qv=>?_⟩;have tb:=ah.new (o:=.lst [.str (Str.ofString "told"),.str (Str.ofString "told"),.str (Str.ofString "told"),.str (Str.ofString "told")]) qv;refine⟨E',pb,true,rfl,rfl,?_,_,rfl,hQ _ (t9.trans (sa.trans tb))⟩;refine bP.nJ (n:=7) (ao.of (tb _ _ ea)) (ao.of zb) fun x hx=>?_
    simp only[List.map_cons,List.map_nil,List.mem_cons,List.not_mem_nil,or_false] at hx;have ex:x = .str (Str.ofString "told"):=by rcases hx with rfl | rfl | rfl | rfl<;>rfl
    subst ex;have:=bP.flat (K:=K) (H:=upd Ha pb (.lst [.str (Str.ofString "told"),.str (Str.ofString "told"),.str (Str.ofString "told"),.str (Str.ofString "told")])) (n:=7) (x:=.str (Str.ofString "told")) (y:=.str (Str.ofString "told")) rfl rfl
    rwa [xq rfl] at this
  try unfold jY
  try dsimp only
  have hd:=s9 _ _ hd;have w4:=w4.same s9;have w5:=w5.same s9;have w6:=w6.same s9
  by_cases no:jQ lo hi us at' ts af fs
  ·have Ls:∀{q:Addr}{w:Int},w=4\/w=6->cy H9 q w lo hi us at' ts af fs->∃v,H9 q=some (.tup [.str (Str.ofString "told"),v]):=fun{q w}hw h=>by
    rcases h with ⟨nn,_⟩ | ⟨_,_,z⟩ | ⟨_,_,_,_,_,_,_,ri⟩ | ⟨_,_,z,_⟩
    ·exact absurd nr nn
    ·exact z
    ·exact(Lp no ri).elim
    ·omega
   obtain⟨y4,h4⟩:=Ls (.inl rfl) w4;obtain⟨y6,h6⟩:=Ls (.inr rfl) w6;obtain⟨l5,h5⟩:∃l,H9 q5=some (.tup [.str (Str.ofString "other"),.ref l]):=by
    rcases w5 with ⟨nn,_⟩ | ⟨_,z,_⟩ | ⟨_,_,_,_,_,_,_,ri⟩ | ⟨_,_,_,z⟩
    ·exact absurd nr nn
    ·omega
    ·exact(Lp no ri).elim
    ·exact z
   refine iz false (fun Q' hQ=>⟨_,rfl,D,_,_,_,rfl,rfl,ao.of hd,iU (j:=4) rfl,q4,_,_,_,rfl,rfl,aG.of h4,lB,rfl,_,rfl,by rw[decide_eq_false (fun z=>absurd (V.str.inj z) (by decide +kernel))];exact hQ⟩) (cT ?_)
   try unfold jY
   try dsimp only
   refine⟨_,rfl,D,_,_,_,rfl,rfl,ao.of hd,iU (j:=4) rfl,q4,_,_,_,rfl,rfl,aG.of h4,lB,rfl,_,rfl,?_⟩;rw[decide_eq_true rfl];refine dD ⟨_,rfl,D,_,_,_,rfl,rfl,ao.of hd,iU (j:=5) rfl,q5,_,_,_,rfl,rfl,aG.of h5,lB,rfl,_,rfl,?_⟩;rw[decide_eq_true rfl];refine dD ⟨_,rfl,D,_,_,_,rfl,rfl,ao.of hd,iU (j:=6) rfl,q6,_,_,_,rfl,rfl,aG.of h6,lB,rfl,?_⟩;rw[decide_eq_true rfl];exact k _
  ·have fj:∀{q:Addr}{w:Int},4<=w->cy H9 q w lo hi us at' ts af fs->∃l c e,H9 q=some (.tup [.str (Str.ofString "row"),.ref l])/\H9 l=some (.lst ((c.2.2:List Tr).map fun p=>V.ref p.2))/\mZ lo hi us at' ts af fs c e:=fun{q w}hw h=>by
    rcases h with ⟨nn,_⟩ | ⟨_,z,_⟩ | ⟨_,_,z⟩ | ⟨_,z,_⟩
    ·exact absurd nr nn
    ·rcases z with z | z
     ·omega
     ·exact absurd z.2 no
    ·exact z
    ·exact absurd z no
   obtain⟨l4,c4,x4,a4,b4,r4⟩:=fj (by decide) w4;obtain⟨l5,c5,x5,a5,b5,r5⟩:=fj (by decide) w5;obtain⟨l6,c6,x6,a6,b6,r6⟩:=fj (by decide) w6;refine iz true (fun Q' hQ=>⟨_,rfl,D,_,_,_,rfl,rfl,ao.of hd,iU (j:=4) rfl,q4,_,_,_,rfl,rfl,aG.of a4,lB,rfl,_,rfl,by rw[decide_eq_true rfl];exact hQ⟩) (dD ?_);refine⟨_,rfl,_,rfl,D,_,rfl,ao.of hd,fun p9 Ff=>?_⟩;rw[show fK ([q0,q1,q2,q3,q4,q5,q6].map V.ref) (some 5) none = [q5,q6].map V.ref from rfl];have t9:=ah.new (o:=.lst ([q5,q6].map V.ref)) Ff;have e9:upd H9 p9 (.lst ([q5,q6].map V.ref)) p9=some (.lst ([q5,q6].map V.ref)):=zb;generalize upd H9 p9 (.lst ([q5,q6].map V.ref))=Ha at t9 e9;refine⟨p9,rfl,⟨_,ao.of e9⟩,fun E' hE=>?_⟩;refine CP (oR (K:=K) (a:=p9) (xs:=[q5,q6].map V.ref)) (fun _=>.bl true) hE (fun H' s=>ao.of (s _ _ e9)) (by show 2<=sizeLine;decide) (fun v hv H' Q' s hQ=>?_) (fun Hb sb eb=>?_)
   ·obtain⟨q,hm,rfl⟩:=List.mem_map.mp hv;have s:=t9.trans s;have:∃l c x,H9 q=some (.tup [.str (Str.ofString "row"),.ref l])/\H9 l=some (.lst ((c.2.2:List Tr).map fun p=>V.ref p.2))/\mZ lo hi us at' ts af fs c x:=by
     simp only[List.mem_cons,List.not_mem_nil,or_false] at hm;rcases hm with rfl | rfl
     ·exact⟨l5,c5,x5,a5,b5,r5⟩
     ·exact⟨l6,c6,x6,a6,b6,r6⟩
    obtain⟨l,c,x,a,b,r⟩:=this;refine⟨_,rfl,q,_,_,_,rfl,rfl,aG.of (s _ _ a),lB,rfl,_,rfl,?_⟩;rw[decide_eq_true rfl];refine dD ⟨_,rfl,q,_,_,_,rfl,rfl,aG.of (s _ _ a),iU (j:=1) rfl,l,_,rfl,.inl (ao.of (s _ _ b)),_,rfl,D,_,_,_,rfl,rfl,ao.of (s _ _ hd),iU (j:=4) rfl,q4,_,_,_,rfl,rfl,aG.of (s _ _ a4),iU (j:=1) rfl,l4,_,rfl,.inl (ao.of (s _ _ b4)),rfl,?_⟩;rw[List.length_map,List.length_map,Ws r r4,decide_eq_true rfl];exact hQ _ (ah.refl _)
   ·try dsimp only[zx,List.set]
    refine⟨_,rfl,by show 2<=sizeLine;decide,fun pb qv=>?_⟩;have tb:=ah.new (o:=.lst [.bl true,.bl true]) qv;refine⟨E',pb,true,rfl,rfl,?_,k _⟩;refine bP.nJ (n:=7) (ao.of (tb _ _ eb)) (ao.of zb) fun x hx=>?_
    simp only[List.map_cons,List.map_nil,List.mem_cons,List.not_mem_nil,or_false] at hx;have ex:x = .bl true:=by rcases hx with rfl | rfl<;>rfl
    subst ex;have:=bP.flat (K:=K) (H:=upd Hb pb (.lst [.bl true,.bl true])) (n:=7) (x:=.bl true) (y:=.bl true) rfl rfl
    rwa [xq rfl] at this
end
end LK48
open PySem PySem.W PyProof.Rows
set_option maxRecDepth 100000 in
set_option maxHeartbeats 0 in
theorem PySem.Challenge.cw_digmatrix_k48_refused_alike_holds : PySem.Challenge.rw_digmatrix_k48_refused_alike.Holds := by
 w_on;o_law;k_head;(case hw=>w_witness2)
 k_fill
 refine L2.nH (l:=PySem.Challenge.rw_digmatrix_k48_refused_alike) (k:=LK48.zQ) (x:="_law_script") (sp:=fun K=>LK48.oF (K:=K)) rfl rfl ⟨rfl,by decide,by decide⟩ (fun w h Y=>PySem.W.kIn_of Y) (fun K H a ns hl hS=>⟨a,ns,rfl,hS,hl,fun _=>rfl⟩) ?F
 case F=>
  intro w mg h KX G
  have T:∃zj,∃zm,∃zg,∃zp,LK48.Tx (L2.Gu KX) mg w zj zm zg zp:=by
   dsimp only[L2.Gu]
   refine' LK48.Tx.ex ⟨?z0,?z1,?z2,?z3,?z4,?z5,?z6,?z7,?z8,?z9,?z10,?z11,?z12,?z13,?z14,?z15,?z16,?z17,?z18,?z19,?z20,?z21,?z22,?z23,?z24,?z25,?z26,?z27,?z28,?z29,?z30,?z31,?z32,?z33,?z34,?z35,?z36,?z37,?z38,?z39,?z40,?z41,?z42,?z43,?z44,?z45,?z46,?z47,?z48,?z49,?z50,?z51,?z52,?z53,?z54,?z55,?z56,?z57,?z58,?z59,?z60,?z61,?z62,?z63,?z64,?z65,?z66,?z67,?z68,?z69,?z70,?z71,?z72,?z73,?z74,?z75,?z76,?z77,?z78,?z79,?z80,?z81,?z82,?z83,?z84,?z85,?z86,?z87⟩
   case z0=>refine' L2.gj KX G ?_<;>try k_is
   case z1=>refine' ⟨?_,?_,?_⟩<;>try k_is
   case z2=>refine' ⟨?_,?_,?_⟩<;>try k_is
   case z3=>refine' L2.gj KX G ?_<;>try k_is
   case z4=>refine' L2.lI ?x4 ?y4 ?u4 ?v4;(case x4=>k_is);(case y4=>rfl);(case u4=>k_is);(case v4=>k_is)
   case z5=>refine' L2.kP ?x5 ?y5;(case x5=>k_is);(case y5=>rfl)
   case z6=>refine' ⟨?_,?_,?_,?_⟩<;>try k_is
   case z7=>refine' ⟨?_,?_,?_,?_⟩<;>try k_is
   case z8=>refine' L2.nK (fun _ _ _ _ _ _=>L2.fV fun _ _=>rfl) ?_ ?_ ?_ ?_ ?_<;>try k_is
   case z9=>(unfold L2.dB;k_is)
   case z10=>refine' L2.gj KX G ?_<;>try k_is
   case z11=>refine' L2.lI ?x11 ?y11 ?u11 ?v11;(case x11=>k_is);(case y11=>rfl);(case u11=>k_is);(case v11=>k_is)
   case z12=>refine' L2.kP ?x12 ?y12;(case x12=>k_is);(case y12=>rfl)
   case z13=>refine' ⟨?_,?_,?_,?_⟩<;>try k_is
   case z14=>refine' ⟨?_,?_,?_,?_⟩<;>try k_is
   case z15=>refine' L2.nK (fun _ _ _ _ _ _=>L2.fV fun _ _=>rfl) ?_ ?_ ?_ ?_ ?_<;>try k_is
   case z16=>(unfold L2.dB;k_is)
   case z17=>refine' L2.gj KX G ?_<;>try k_is
   case z18=>refine' L2.kP ?x18 ?y18;(case x18=>k_is);(case y18=>rfl)
   case z19=>refine' ⟨?_,?_,?_,?_⟩<;>try k_is
   case z20=>refine' ⟨?_,?_,?_,?_⟩<;>try k_is
   case z21=>k_is
   case z22=>k_is
   case z23=>k_is
   case z24=>k_is
   case z25=>refine' L2.fE ?x25 ?y25 ?u25 ?v25;(case x25=>k_is);(case y25=>k_is);(case u25=>k_is);(case v25=>first | exact fun _=>rfl | exact fun h=>absurd h (by decide))
   case z26=>refine' L2.fE ?x26 ?y26 ?u26 ?v26;(case x26=>k_is);(case y26=>k_is);(case u26=>k_is);(case v26=>first | exact fun _=>rfl | exact fun h=>absurd h (by decide))
   case z27=>refine' L2.fE ?x27 ?y27 ?u27 ?v27;(case x27=>k_is);(case y27=>k_is);(case u27=>k_is);(case v27=>first | exact fun _=>rfl | exact fun h=>absurd h (by decide))
   case z28=>refine' L2.fE ?x28 ?y28 ?u28 ?v28;(case x28=>k_is);(case y28=>k_is);(case u28=>k_is);(case v28=>first | exact fun _=>rfl | exact fun h=>absurd h (by decide))
   case z29=>refine' L2.fE ?x29 ?y29 ?u29 ?v29;(case x29=>k_is);(case y29=>k_is);(case u29=>k_is);(case v29=>first | exact fun _=>rfl | exact fun h=>absurd h (by decide))
   case z30=>refine' L2.fE ?x30 ?y30 ?u30 ?v30;(case x30=>k_is);(case y30=>k_is);(case u30=>k_is);(case v30=>first | exact fun _=>rfl | exact fun h=>absurd h (by decide))
   case z31=>refine' L2.aC KX G (fun _ _ _ _ _ _=>L2.fV fun _ _=>rfl) ?_ ?_ ?_ ?_<;>try k_is
   case z32=>refine' L2.aC KX G (fun _ _ _ _ _ _=>L2.lW fun _ _ _=>rfl) ?_ ?_ ?_ ?_<;>try k_is
   case z33=>refine' L2.aC KX G (fun _ _ _ _ _ _=>L2.fV fun _ _=>rfl) ?_ ?_ ?_ ?_<;>try k_is
   case z34=>refine' L2.aC KX G (fun _ _ _ _ _ _=>L2.cY fun _=>rfl) ?_ ?_ ?_ ?_<;>try k_is
   case z35=>refine' L2.aC KX G (fun _ _ _ _ _ _=>L2.cY fun _=>rfl) ?_ ?_ ?_ ?_<;>try k_is
   case z36=>refine' L2.aC KX G (fun _ _ _ _ _ _=>L2.fV fun _ _=>rfl) ?_ ?_ ?_ ?_<;>try k_is
   case z37=>refine' L2.aC KX G (fun _ _ _ _ _ _=>L2.cY fun _=>rfl) ?_ ?_ ?_ ?_<;>try k_is
   case z38=>refine' L2.aC KX G (fun _ _ _ _ _ _=>L2.cY fun _=>rfl) ?_ ?_ ?_ ?_<;>try k_is
   case z39=>refine' L2.aC KX G (fun _ _ _ _ _ _=>L2.fV fun _ _=>rfl) ?_ ?_ ?_ ?_<;>try k_is
   case z40=>refine' L2.aC KX G (fun _ _ _ _ _ _=>L2.fV fun _ _=>rfl) ?_ ?_ ?_ ?_<;>try k_is
   case z41=>refine' L2.aC KX G (fun _ _ _ _ _ _=>L2.cY fun _=>rfl) ?_ ?_ ?_ ?_<;>try k_is
   case z42=>refine' L2.aC KX G (fun _ _ _ _ _ _=>L2.cY fun _=>rfl) ?_ ?_ ?_ ?_<;>try k_is
   case z43=>refine' L2.aC KX G (fun _ _ _ _ _ _=>L2.cY fun _=>rfl) ?_ ?_ ?_ ?_<;>try k_is
   case z44=>refine' L2.aC KX G (fun _ _ _ _ _ _=>L2.cY fun _=>rfl) ?_ ?_ ?_ ?_<;>try k_is
   case z45=>refine' L2.aC KX G (fun _ _ _ _ _ _=>L2.cY fun _=>rfl) ?_ ?_ ?_ ?_<;>try k_is
   case z46=>refine' L2.aC KX G (fun _ _ _ _ _ _=>L2.fV fun _ _=>rfl) ?_ ?_ ?_ ?_<;>try k_is
   case z47=>refine' L2.aC KX G (fun _ _ _ _ _ _=>L2.fV fun _ _=>rfl) ?_ ?_ ?_ ?_<;>try k_is
   case z48=>refine' L2.aC KX G (fun _ _ _ _ _ _=>L2.cY fun _=>rfl) ?_ ?_ ?_ ?_<;>try k_is
   case z49=>refine' L2.aC KX G (fun _ _ _ _ _ _=>L2.cY fun _=>rfl) ?_ ?_ ?_ ?_<;>try k_is
   case z50=>refine' L2.aC KX G (fun _ _ _ _ _ _=>L2.cY fun _=>rfl) ?_ ?_ ?_ ?_<;>try k_is
   case z51=>refine' L2.aC KX G (fun _ _ _ _ _ _=>L2.cY fun _=>rfl) ?_ ?_ ?_ ?_<;>try k_is
   case z52=>refine' L2.aC KX G (fun _ _ _ _ _ _=>L2.fV fun _ _=>rfl) ?_ ?_ ?_ ?_<;>try k_is
   case z53=>refine' L2.aC KX G (fun _ _ _ _ _ _=>L2.fV fun _ _=>rfl) ?_ ?_ ?_ ?_<;>try k_is
   case z54=>refine' L2.aC KX G (fun _ _ _ _ _ _=>L2.cY fun _=>rfl) ?_ ?_ ?_ ?_<;>try k_is
   case z55=>refine' L2.aC KX G (fun _ _ _ _ _ _=>L2.cY fun _=>rfl) ?_ ?_ ?_ ?_<;>try k_is
   case z56=>refine' L2.aC KX G (fun _ _ _ _ _ _=>L2.lW fun _ _ _=>rfl) ?_ ?_ ?_ ?_<;>try k_is
   case z57=>refine' L2.aC KX G (fun _ _ _ _ _ _=>L2.lW fun _ _ _=>rfl) ?_ ?_ ?_ ?_<;>try k_is
   case z58=>refine' L2.aC KX G (fun _ _ _ _ _ _=>L2.pT fun _ _ _ _=>rfl) ?_ ?_ ?_ ?_<;>try k_is
   case z59=>refine' L2.aC KX G (fun _ _ _ _ _ _=>L2.cY fun _=>rfl) ?_ ?_ ?_ ?_<;>try k_is
   case z60=>refine' L2.aC KX G (fun _ _ _ _ _ _=>L2.cY fun _=>rfl) ?_ ?_ ?_ ?_<;>try k_is
   case z61=>refine' L2.aC KX G (fun _ _ _ _ _ _=>L2.lW fun _ _ _=>rfl) ?_ ?_ ?_ ?_<;>try k_is
   case z62=>refine' L2.aC KX G (fun _ _ _ _ _ _=>L2.fV fun _ _=>rfl) ?_ ?_ ?_ ?_<;>try k_is
   case z63=>refine' L2.aC KX G (fun _ _ _ _ _ _=>L2.lW fun _ _ _=>rfl) ?_ ?_ ?_ ?_<;>try k_is
   case z64=>refine' L2.aC KX G (fun _ _ _ _ _ _=>L2.fV fun _ _=>rfl) ?_ ?_ ?_ ?_<;>try k_is
   case z65=>refine' L2.aC KX G (fun _ _ _ _ _ _=>L2.cY fun _=>rfl) ?_ ?_ ?_ ?_<;>try k_is
   case z66=>refine' L2.aC KX G (fun _ _ _ _ _ _=>L2.xj fun _ _ _ _ _=>rfl) ?_ ?_ ?_ ?_<;>try k_is
   case z67=>refine' L2.aC KX G (fun _ _ _ _ _ _=>L2.xj fun _ _ _ _ _=>rfl) ?_ ?_ ?_ ?_<;>try k_is
   case z68=>refine' L2.aC KX G (fun _ _ _ _ _ _=>L2.cY fun _=>rfl) ?_ ?_ ?_ ?_<;>try k_is
   case z69=>refine' L2.aC KX G (fun _ _ _ _ _ _=>L2.pT fun _ _ _ _=>rfl) ?_ ?_ ?_ ?_<;>try k_is
   case z70=>refine' L2.aC KX G (fun _ _ _ _ _ _=>L2.fV fun _ _=>rfl) ?_ ?_ ?_ ?_<;>try k_is
   case z71=>refine' L2.aC KX G (fun _ _ _ _ _ _=>L2.cY fun _=>rfl) ?_ ?_ ?_ ?_<;>try k_is
   case z72=>refine' L2.aC KX G (fun _ _ _ _ _ _=>L2.cY fun _=>rfl) ?_ ?_ ?_ ?_<;>try k_is
   case z73=>refine' L2.aC KX G (fun _ _ _ _ _ _=>L2.fV fun _ _=>rfl) ?_ ?_ ?_ ?_<;>try k_is
   case z74=>refine' L2.aC KX G (fun _ _ _ _ _ _=>L2.pT fun _ _ _ _=>rfl) ?_ ?_ ?_ ?_<;>try k_is
   case z75=>refine' L2.aC KX G (fun _ _ _ _ _ _=>L2.pT fun _ _ _ _=>rfl) ?_ ?_ ?_ ?_<;>try k_is
   case z76=>refine' L2.aC KX G (fun _ _ _ _ _ _=>L2.lW fun _ _ _=>rfl) ?_ ?_ ?_ ?_<;>try k_is
   case z77=>refine' L2.aC KX G (fun _ _ _ _ _ _=>L2.cY fun _=>rfl) ?_ ?_ ?_ ?_<;>try k_is
   case z78=>refine' L2.dF KX G ?_;k_is
   case z79=>refine' L2.dF KX G ?_;k_is
   case z80=>refine' L2.dF KX G ?_;k_is
   case z81=>refine' L2.dF KX G ?_;k_is
   case z82=>refine' L2.dF KX G ?_;k_is
   case z83=>refine' L2.dF KX G ?_;k_is
   case z84=>refine' L2.dF KX G ?_;k_is
   case z85=>refine' L2.dF KX G ?_;k_is
   case z86=>refine' L2.dF KX G ?_;k_is
   case z87=>refine' L2.dF KX G ?_;k_is
  obtain⟨_,_,_,_,T⟩:=T
  exact fun base _ _=>LK48.zR T
#print axioms PySem.Challenge.cw_digmatrix_k48_refused_alike_holds
