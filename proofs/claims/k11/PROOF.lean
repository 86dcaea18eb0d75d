import PyProof.Rows.All
import Wide.All
import OpenK.AllK
import Wide.FinOn
import Lean
import PyProof.EqAt
import PyProof.EqKinds
import PyProof.TupleCall
import PyProof.ExcClass2
import PyProof.NsCount
import PyProof.StationsW
import PyProof.PassesOwn
import PyProof.Commute
import PyProof.RulesAs
import PyProof.NsDelKeeps
import KE.KTryMore
import PyProof.AttrMissHeap
import PyProof.Walks
import PyProof.ListNew
import KE.KDictOf
import PyProof.FactsAll.NoneType_1
import PyProof.FactsAll.list_3
import PyProof.ZipIter
import PyProof.Rows.ZipGen
import PyProof.Rows.StrNews2
import PyProof.CallStr
import KE.KDictLaws
import KE.KRevIter
import PyProof.StrLawsTight
import PySem.Challenge.RW_mustmay_k11_plans_read
set_option Elab.async false
set_option linter.all false
set_option maxRecDepth 100000
noncomputable section
open PySem.W (Frag findIn mg_of nsIn keepIn mg_none_of)
set_option maxHeartbeats 0 in
theorem h_said:PySem.Challenge.rw_mustmay_k11_plans_read.wellSaid=true:=by kernel_rfl
set_option maxHeartbeats 0 in
theorem h_bare:PySem.Challenge.rw_mustmay_k11_plans_read.row.prog.bare:=⟨rfl,rfl,rfl,rfl,rfl,by decide +kernel⟩
namespace L2
open PySem PySem.Spec PyProof.Rows
abbrev Key:=Sum Int Str
def Dp:Key->Value->Bool
 | .inl k,v=>Value.isInt k v
 | .inr x,v=>Value.isStrOf x v
def keyH(w:World):Key->Int
 | .inl k=>hashInt k
 | .inr x=>hashStr w x
theorem cD:∀{k:Key}{v:Value},Dp k v=true->(∃i t,k=Sum.inl i/\v=Value.int i t)∨(∃x t,k=Sum.inr x/\v=Value.str x t)
 | .inl i,v,h=>by
  obtain⟨t,e⟩:=Value.isInt_shape (k:=i) (v:=v) h
  exact .inl ⟨i,t,rfl,e⟩
 | .inr x,v,h=>by
  obtain⟨t,e⟩:=Value.isStrOf_shape (x:=x) (v:=v) h
  exact .inr ⟨x,t,rfl,e⟩
theorem Ph(i:Int)(t:Tok):Dp (.inl i) (.int i t)=true:=by simp[Dp,Value.isInt]
theorem Pj(x:Str)(t:Tok):Dp (.inr x) (.str x t)=true:=by simp[Dp,Value.isStrOf]
theorem key_ll(a b:Int):decide ((Sum.inl a:Key)=Sum.inl b)=(a==b):=by
 by_cases e:a=b
 .subst e;simp
 .have h:¬(Sum.inl a:Key)=Sum.inl b:=λq=>e (Sum.inl.inj q)
  rw[decide_eq_false h]
  exact(beq_eq_false_iff_ne.mpr e).symm
theorem key_rr(a b:Str):decide ((Sum.inr a:Key)=Sum.inr b)=decide (a=b):=by
 by_cases e:a=b
 .subst e;simp
 .have h:¬(Sum.inr a:Key)=Sum.inr b:=λq=>e (Sum.inr.inj q)
  rw[decide_eq_false h,decide_eq_false e]
theorem key_lr(a:Int)(b:Str):decide ((Sum.inl a:Key)=Sum.inr b)=false:=decide_eq_false (λq=>nomatch q)
theorem key_rl(a:Str)(b:Int):decide ((Sum.inr a:Key)=Sum.inl b)=false:=decide_eq_false (λq=>nomatch q)
def cM(prog:Program)(w:World):PySem.KeyKind prog w Key where
 is:=Dp
 hash:=keyH w
 inj:=λv a b ha hb=>by
  rcases cD ha with⟨i,t,rfl,rfl⟩| ⟨x,t,rfl,rfl⟩
  .rcases cD hb with⟨j,u,rfl,e⟩| ⟨y,u,rfl,e⟩
   .injection e with e1 _;rw[e1]
   .exact nomatch e
  .rcases cD hb with⟨j,u,rfl,e⟩| ⟨y,u,rfl,e⟩
   .exact nomatch e
   .injection e with e1 _;rw[e1]
 byValue:=λk v h=>by
  rcases cD h with⟨i,t,rfl,rfl⟩| ⟨x,t,rfl,rfl⟩ <;> rfl
 pyHash:=λhv h=>by
  rcases cD hv with⟨i,t,rfl,rfl⟩| ⟨x,t,rfl,rfl⟩
  .exact wpAny_pyHash_int h
  .exact wpAny_pyHash_str h
 eqBool:=λhu hv h=>by
  rcases cD hu with⟨i,t,rfl,rfl⟩| ⟨x,t,rfl,rfl⟩
  .rcases cD hv with⟨j,u,rfl,rfl⟩| ⟨y,u,rfl,rfl⟩
   .rw[key_ll] at h;exact wpAny_eqBool_int h
   .rw[key_lr] at h;exact SeqAt.EqAt.int_str i t y u _ _ _ _ h
  .rcases cD hv with⟨j,u,rfl,rfl⟩| ⟨y,u,rfl,rfl⟩
   .rw[key_rl] at h;exact SeqAt.EqAt.str_int x t j u _ _ _ _ h
   .rw[key_rr] at h;exact wpAny_eqBool_str h
 «strs»:=λk x t v h=>by
  rcases cD h with⟨i,u,rfl,e⟩| ⟨y,u,rfl,e⟩
  .exact nomatch e
  .injection e with e1 _
   subst e1
   cases v <;> rfl
theorem JS(prog:Program)(w:World)(i:Int)(t:Tok):(cM prog w).is (.inl i) (.int i t)=true:=Ph i t
theorem JT(prog:Program)(w:World)(x:Str)(t:Tok):(cM prog w).is (.inr x) (.str x t)=true:=Pj x t
end L2
namespace L2
open PySem PySem.Spec PyProof.Rows
inductive V where
 | non | bl (b:Bool) | int (i:Int) | str (x:Str) | byt (b:Array UInt8) | flt (b:UInt64) | ref (a:Addr) | ty (n:String)
 deriving DecidableEq
def RelV:V->Value->Prop
 | .non,u=>u=Value.none
 | .bl b,u=>u=Value.bool b
 | .int i,u=>∃t,u=Value.int i t
 | .str x,u=>∃t,u=Value.str x t
 | .byt b,u=>∃t,u=Value.bytes b t
 | .flt b,u=>∃t,u=Value.float b t
 | .ref a,u=>u=Value.ref a
 | .ty n,u=>u=Value.type n
abbrev Vals:List V->List Value->Prop:=Paired RelV
theorem Vals.length{xs:List V}{us:List Value}(r:Vals xs us):xs.length=us.length:=Paired.length r
theorem Vals.get:∀{xs:List V}{us:List Value}{i:Nat}{x:V},Vals xs us->xs[i]?=some x->∃u,us[i]?=some u/\RelV x u
 | _,_,_,_,.nil,e=>by simp at e
 | _,_,0,_,.cons r _,e=>by simp at e;subst e;exact⟨_,rfl,r⟩
 | _,_,i+1,x,.cons _ t,e=>by
  obtain⟨u,h1,h2⟩:=Vals.get (i:=i) (x:=x) t (by simpa using e)
  exact⟨u,by simpa using h1,h2⟩
theorem Vals.set{x:V}{u:Value}(r:RelV x u):∀{xs:List V}{us:List Value}(i:Nat),Vals xs us->Vals (xs.set i x) (us.set i u)
 | _,_,_,.nil=>.nil
 | _,_,0,.cons _ t=>.cons r t
 | _,_,i+1,.cons q t=>.cons q (Vals.set r i t)
theorem Vals.append:∀{xs ys:List V}{us ws:List Value},Vals xs us->Vals ys ws->Vals (xs++ys) (us++ws)
 | _,_,_,_,.nil,s=>s
 | _,_,_,_,.cons r t,s=>.cons r (Vals.append t s)
theorem Vals.take:∀{xs:List V}{us:List Value}(n:Nat),Vals xs us->Vals (xs.take n) (us.take n)
 | _,_,0,_=>.nil
 | _,_,_+1,.nil=>.nil
 | _,_,n+1,.cons r t=>.cons r (Vals.take n t)
theorem Vals.drop:∀{xs:List V}{us:List Value}(n:Nat),Vals xs us->Vals (xs.drop n) (us.drop n)
 | _,_,0,r=>r
 | _,_,_+1,.nil=>.nil
 | _,_,n+1,.cons _ t=>Vals.drop n t
def mC:Option V->Option Value->Prop
 | some v,some u=>RelV v u
 | none,none=>True
 | _,_=>False
def KV{κ:Type}:List (κ×V)->List (κ×Value)->Prop:=Paired λ(p:κ×V)(q:κ×Value)=>p.1=q.1/\RelV p.2 q.2
def kV:Key->V
 | .inl i=>.int i
 | .inr x=>.str x
inductive HO where
 | lst (xs:List V)
 | tup (xs:List V)
 | dK (kvs:List (Key×V)) | dT (kvs:List (List Key×V))
 | set (S:Int->Bool) (n:Nat)
 | ins (C dx:Addr) (fs:List (Str×V))
 | own (x:Addr)
 | xd (fs:List (Str×V))
 | met (f x:Addr)
 | rng (lo hi:Int)
 | frz (o:Obj) (u:HO)
 | tbl (ps:Array Value)
 | ext (φ:Heap->Prop)
abbrev Hp:=Addr->Option HO
def upd(H:Hp)(a:Addr)(o:HO):Hp:=λb=>if b=a then some o else H b
theorem aP{H:Hp}{a:Addr}{o:HO}:upd H a o a=some o:=by unfold upd;rw[if_pos rfl]
theorem aN{H:Hp}{a b:Addr}{o:HO}(h:b≠a):upd H a o b=H b:=by unfold upd;rw[if_neg h]
theorem aJ{H:Hp}{a b:Addr}{o:HO}(h:H a=some o)(h':H b=none):a≠b:=by
 intro e;subst e;rw[h] at h';cases h'
section
variable(P:Program)(w:World)
def cC(H:Hp)(h:Heap)(a:Addr):HO->Prop
 | .lst xs=>xs.length<=sizeLine/\∃(its:List Value)(n:Nat),Vals xs its/\h.get? a=some { cls:=.type "list",data:=.seq its.toArray n }
 | .tup xs=>xs.length<=sizeLine/\∃its:List Value,Vals xs its/\IsTup h a its.toArray
 | .dK kvs=>kvs.length<=sizeLine/\(a==sysModules)=false/\∃vs,KV kvs vs/\h.DictOf (cM P w) a vs
 | .dT kvs=>kvs.length<=sizeLine/\(a==sysModules)=false/\∃xs:List (List Key×Addr×Value),
   Paired (λ(p:List Key×V)(q:List Key×Addr×Value)=>p.1=q.1/\H q.2.1=some (.tup (p.1.map kV))/\RelV p.2 q.2.2) kvs xs /\
   ∃o es ep,h.get? a=some o/\o.ExactDict/\o.data=.dict es ep/\es.toList=xs.map (entryOfKey (tupleKind (cM P w)))/\(xs.map (·.1)).Nodup
 | .set S n=>h.SetOf (intKind P w) a S n
 | .ins C dx fs=>H dx=some (.own a)/\fs.length<=1000/\dx≠a/\h.get? a=some (PySem.W.instObj C dx) /\
   ∃mA,h.Ns1 dx mA/\(∀f,mC (fs.lookup f) (mA f))/\PySem.Within mA (fs.map (·.1))
 | .own _=>∃o,h.get? a=some o
 | .xd fs=>∃mA,h.Ns1 a mA/\∀f,mC (fs.lookup f) (mA f)
 | .rng lo hi=>∃t u v,h.get? a=some { cls:=.type "range",data:=.fields #[.int lo t,.int hi u,.int 1 v] }
 | .frz o u=>h.get? a=some o/\cC H h a u
 | .tbl ps=>h.get? a=some { cls:=.none,data:=.fields ps }
 | .met f x=>h.get? a=some (PySem.W.methodObj (.ref f) (.ref x))
 | .ext φ=>φ h/\(∃o,h.get? a=some o)/\∀h1 h2:Heap,φ h1->(∀o,h1.get? a=some o->h2.get? a=some o)->φ h2
def HOk(H:Hp)(h:Heap):Prop:=∀a o,H a=some o->cC P w H h a o
end
section
variable{P:Program}{w:World}{H H':Hp}{h h':Heap}{a:Addr}{o:HO}
theorem cC.lt(x:cC P w H h a o):a<h.objs.size:=by
 cases o with
 | lst xs=>obtain⟨_,_,_,_,e⟩:=x;exact Heap.lt_size e
 | tup xs=>obtain⟨_,_,_,p⟩:=x;exact p.lt
 | dK kvs=>obtain⟨_,_,_,_,o,_,_,e,_⟩:=x;exact Heap.lt_size e
 | dT kvs=>obtain⟨_,_,_,_,o,_,_,e,_⟩:=x;exact Heap.lt_size e
 | set S n=>obtain⟨o,_,_,_,e,_⟩:=x;exact Heap.lt_size e
 | ins C dx fs=>obtain⟨_,_,_,e,_⟩:=x;exact Heap.lt_size e
 | own y=>obtain⟨_,e⟩:=x;exact Heap.lt_size e
 | xd fs=>obtain⟨_,⟨_,_,_,e,_⟩,_⟩:=x;exact Heap.lt_size e
 | rng lo hi=>obtain⟨_,_,_,e⟩:=x;exact Heap.lt_size e
 | frz ob u=>obtain⟨e,_⟩:=x;exact Heap.lt_size e
 | tbl ps=>exact Heap.lt_size (show h.get? a=some _ from x)
 | met f y=>exact Heap.lt_size (show h.get? a=some _ from x)
 | ext φ=>obtain⟨_,⟨_,e⟩,_⟩:=x;exact Heap.lt_size e
theorem Paired.mapP{α β:Type}{F G:α->β->Prop}:∀{l₁:List α}{l₂:List β},Paired F l₁ l₂->(∀a b,F a b->G a b)->Paired G l₁ l₂
 | _,_,.nil,_=>.nil
 | _,_,.cons r t,f=>.cons (f _ _ r) (Paired.mapP t f)
theorem cC.stay(x:cC P w H h a o)(k:∀b u,(b=a∨H b=some (.own a))->h.get? b=some u->h'.get? b=some u)
  (ho:∀b,H b=some (.own a)->H' b=some (.own a)) (ht:∀b xs,H b=some (.tup xs)->H' b=some (.tup xs)):cC P w H' h' a o:=by
 induction o with
 | lst xs=>obtain⟨z,its,n,r,e⟩:=x;exact⟨z,its,n,r,k _ _ (.inl rfl) e⟩
 | tup xs=>obtain⟨z,its,r,ob,e,c⟩:=x;exact⟨z,its,r,ob,k _ _ (.inl rfl) e,c⟩
 | dK kvs=>obtain⟨z,y,vs,r,ob,es,ep,e,c⟩:=x;exact⟨z,y,vs,r,ob,es,ep,k _ _ (.inl rfl) e,c⟩
 | dT kvs =>
  obtain⟨z,y,xs,r,ob,es,ep,e,c⟩:=x
  exact⟨z,y,xs,Paired.mapP r λp q z=>⟨z.1,ht _ _ z.2.1,z.2.2⟩,ob,es,ep,k _ _ (.inl rfl) e,c⟩
 | set S n=>obtain⟨ob,es,ep,t,e,c⟩:=x;exact⟨ob,es,ep,t,k _ _ (.inl rfl) e,c⟩
 | ins C dx fs =>
  obtain⟨d,z,ne,e,mA,⟨od,es,ep,e2,c⟩,r⟩:=x
  exact⟨ho _ d,z,ne,k _ _ (.inl rfl) e,mA,⟨od,es,ep,k _ _ (.inr d) e2,c⟩,r⟩
 | own y=>obtain⟨ob,e⟩:=x;exact⟨ob,k _ _ (.inl rfl) e⟩
 | xd fs=>obtain⟨mA,⟨od,es,ep,e,c⟩,r⟩:=x;exact⟨mA,⟨od,es,ep,k _ _ (.inl rfl) e,c⟩,r⟩
 | rng lo hi=>obtain⟨t,u,v,e⟩:=x;exact⟨t,u,v,k _ _ (.inl rfl) e⟩
 | frz ob u ih=>obtain⟨e,q⟩:=x;exact⟨k _ _ (.inl rfl) e,ih q⟩
 | tbl ps =>
  have e:h.get? a=some { cls:=.none,data:=.fields ps }:=x
  show h'.get? a=some { cls:=.none,data:=.fields ps }
  exact k a _ (.inl rfl) e
 | met f y =>
  have e:h.get? a=some (PySem.W.methodObj (.ref f) (.ref y)):=x
  show h'.get? a=some (PySem.W.methodObj (.ref f) (.ref y))
  exact k a _ (.inl rfl) e
 | ext φ=>obtain⟨p,⟨o,e⟩,st⟩:=x;exact⟨st _ _ p λo q=>k _ _ (.inl rfl) q,⟨o,k _ _ (.inl rfl) e⟩,st⟩
theorem HOk.lt(x:HOk P w H h)(e:H a=some o):a<h.objs.size:=(x a o e).lt
theorem HOk.fresh(x:HOk P w H h)(e:h.objs.size<=a):H a=none:=by
 cases q:H a with
 | none=>rfl
 | some u=>exact absurd (Nat.lt_of_lt_of_le (x.lt q) e) (Nat.lt_irrefl _)
theorem HOk.kept(x:HOk P w H h)(k:∀b u,h.get? b=some u->h'.get? b=some u):HOk P w H h':=λa o e =>
 (x a o e).stay (λb u _ q=>k b u q) (λ_ q=>q) λ_ _ q=>q
theorem HOk.laid(x:HOk P w H h)(k:∀b u,h.get? b=some u->h'.get? b=some u)(hp:h.objs.size<=a)(new:cC P w (upd H a o) h' a o):HOk P w (upd H a o) h':=λb u e=>by
 have hn:=x.fresh hp
 by_cases hb:b=a
 .subst hb;rw[aP] at e;cases e;exact new
 .rw[aN hb] at e
  exact(x b u e).stay (λc v _ q=>k c v q) (λc q=>by rw[aN (aJ q hn)];exact q) λc xs q=>by rw[aN (aJ q hn)];exact q
end
def Rd(H:Hp)(a:Addr)(u:HO):Prop:=H a=some u∨∃o,H a=some (.frz o u)
theorem Rd.ok{P:Program}{w:World}{H:Hp}{h:Heap}{a:Addr}{u:HO}(r:Rd H a u)(x:HOk P w H h):cC P w H h a u:=by
 rcases r with r | ⟨o,r⟩
 .exact x a u r
 .obtain⟨_,q⟩:=x a _ r
  exact q
def Mut:Option HO->Prop
 | some (.lst _)=>True
 | some (.dK _)=>True
 | some (.dT _)=>True
 | some (.set _ _)=>True
 | some (.ins _ _ _)=>True
 | some (.ext _)=>True
 | _=>False
section
variable{P:Program}{w:World}{H:Hp}{h h':Heap}{x e:Addr}{o':HO}
theorem HOk.write(ok:HOk P w H h)(mu:Mut (H x))(he:e=x∨H e=some (.own x))(k:∀b u,b≠e->h.get? b=some u->h'.get? b=some u)(heo:∃u,h'.get? e=some u)
  (new:cC P w (upd H x o') h' x o'):HOk P w (upd H x o') h':=λb u q=>by
 have nown:∀c y,H c=some (.own y)->c≠x:=λc y r z=>by subst z;rw[r] at mu;exact mu
 have ntup:∀c xs,H c=some (.tup xs)->c≠x:=λc xs r z=>by subst z;rw[r] at mu;exact mu
 by_cases hb:b=x
 .subst hb;rw[aP] at q;cases q;exact new
 .rw[aN hb] at q
  by_cases hbe:b=e
  .have q':H b=some (.own x):=by
    rcases he with z | z
    .exact absurd (hbe.trans z) hb
    .rw[hbe];exact z
   rw[q] at q';cases q'
   obtain⟨v,hv⟩:=heo
   exact⟨v,by rw[hbe];exact hv⟩
  .refine(ok b u q).stay (λc v hc r=>k c v ?_ r) (λc r=>by rw[aN (nown c b r)];exact r) λc xs r=>by rw[aN (ntup c xs r)];exact r
   rcases hc with rfl | hc
   .exact hbe
   .rintro rfl
    rcases he with z | z
    .exact nown c b hc z
    .rw[hc] at z;cases z;exact hb rfl
end
structure Un(fs ex:List Addr)(H H':Hp)(h h':Heap):Prop where
 keep:∀b o,h.get? b=some o->H b=none->b∉fs->b∉ex->h'.get? b=some o
 slot:∀b o,h.get? b=some o->H b=none->b∈fs->b∉ex->∃sl,h'.get? b=some { o with slots:=sl }
 free:∀b o,h.get? b=some o->H b=none->b∉ex->H' b=none
 there:∀b o,h.get? b=some o->b∉ex->∃o',h'.get? b=some o'
 tups:∀b xs,H b=some (.tup xs)->H' b=some (.tup xs)
 v7:∀b o u,H b=some (.frz o u)->H' b=some (.frz o u)
 yo:∀b ps,H b=some (.tbl ps)->∃more,H' b=some (.tbl (ps++more))
section
variable{fs fs' ex ex':List Addr}{H H1 H2:Hp}{h h1 h2 h':Heap}{a x e:Addr}{o:HO}
theorem Un.any(u:Un fs ex H H1 h h1){b:Addr}{ob:Obj}(q:h.get? b=some ob)(n:H b=none)(hx:b∉ex):∃sl,h1.get? b=some { ob with slots:=sl }:=by
 by_cases hb:b∈fs
 .exact u.slot b ob q n hb hx
 .exact⟨ob.slots,u.keep b ob q n hb hx⟩
theorem Un.trans(a:Un fs ex H H1 h h1)(b:Un fs ex H1 H2 h1 h2):Un fs ex H H2 h h2 where
 keep:=λc ob q n hc hx=>b.keep c ob (a.keep c ob q n hc hx) (a.free c ob q n hx) hc hx
 slot:=λc ob q n hc hx=>by
  obtain⟨sl,e1⟩:=a.slot c ob q n hc hx
  obtain⟨sl',e2⟩:=b.slot c _ e1 (a.free c ob q n hx) hc hx
  exact⟨sl',e2⟩
 free:=λc ob q n hx=>by
  obtain⟨o',e1⟩:=a.there c ob q hx
  exact b.free c o' e1 (a.free c ob q n hx) hx
 there:=λc ob q hx=>by
  obtain⟨o',e1⟩:=a.there c ob q hx
  exact b.there c o' e1 hx
 tups:=λc xs q=>b.tups c xs (a.tups c xs q)
 v7:=λc ob xs q=>b.v7 c ob xs (a.v7 c ob xs q)
 yo:=λc ps q=>by
  obtain⟨m1,e1⟩:=a.yo c ps q
  obtain⟨m2,e2⟩:=b.yo c _ e1
  exact⟨m1++m2,by rw[e2,Array.append_assoc]⟩
theorem Un.kept(k:∀b u,h.get? b=some u->h'.get? b=some u):Un fs ex H H h h' :=
 ⟨λb ob q _ _ _=>k b ob q,λb ob q _ _ _=>⟨ob.slots,k b ob q⟩,λ_ _ _ n _=>n,λb ob q _=>⟨ob,k b ob q⟩,λ_ _ q=>q,λ_ _ _ q=>q,λ_ ps q=>⟨#[],by rw[q];simp⟩⟩
theorem Un.refl:Un fs ex H H h h:=Un.kept λ_ _ q=>q
theorem Un.laid(k:∀b u,h.get? b=some u->h'.get? b=some u)(hp:h.objs.size<=a)(hn:H a=none):Un fs ex H (upd H a o) h h' where
 keep:=λb u q _ _ _=>k b u q
 slot:=λb u q _ _ _=>⟨u.slots,k b u q⟩
 free:=λb u q n _=>by rw[aN (Nat.ne_of_lt (Nat.lt_of_lt_of_le (Heap.lt_size q) hp))];exact n
 there:=λb u q _=>⟨u,k b u q⟩
 tups:=λb xs q=>by rw[aN (aJ q hn)];exact q
 v7:=λb u xs q=>by rw[aN (aJ q hn)];exact q
 yo:=λb ps q=>⟨#[],by rw[aN (aJ q hn),q];simp⟩
theorem Un.write(mu:Mut (H x))(he:e=x∨H e=some (.own x))(k:∀b u,b≠e->h.get? b=some u->h'.get? b=some u)(heo:∃u,h'.get? e=some u):Un fs ex H (upd H x o) h h':=by
 have hx:∀b,H b=none->b≠x:=λb n z=>by subst z;rw[n] at mu;exact mu
 have hb:∀b,H b=none->b≠e:=λb n z=>by
  subst z
  rcases he with r | r
  .exact hx b n r
  .rw[n] at r;cases r
 have hm:∀b u,H b=some u->¬Mut (some u)->b≠x:=λb u q nm z=>by subst z;rw[q] at mu;exact nm mu
 refine⟨λb u q n _ _=>k b u (hb b n) q,λb u q n _ _=>⟨u.slots,k b u (hb b n) q⟩,λb u q n _=>by rw[aN (hx b n)];exact n,λb u q _=>?_,
  λb xs q=>by rw[aN (hm b _ q λz=>z)];exact q,λb u xs q=>by rw[aN (hm b _ q λz=>z)];exact q,λb ps q=>⟨#[],by rw[aN (hm b _ q λz=>z),q];simp⟩⟩
 by_cases hbe:b=e
 .subst hbe;exact heo
 .exact⟨u,k b u hbe q⟩
end
def trk(h:Heap)(H:Hp):List Addr:=(List.range h.objs.size).filter λa=>(H a).isSome
def hidT(h:Heap)(H:Hp):Heap:=PySem.W.hideAll h (trk h H)
theorem O7(h:Heap)(H:Hp):(hidT h H).objs.size=h.objs.size:=PySem.W.hideAll_size _ _
theorem hidT_get{h:Heap}{H:Hp}{b:Addr}{o:Obj}(e:h.get? b=some o)(n:H b=none):(hidT h H).get? b=some o :=
 PySem.W.hideAll_get _ e λhm=>by
  have q:(H b).isSome=true:=(List.mem_filter.mp hm).2
  rw[n] at q;simp at q
theorem of_hidT{h:Heap}{H:Hp}{b:Addr}{o:Obj}(e:(hidT h H).get? b=some o):h.get? b=some o/\H b=none:=by
 have e':h.get? b=some o:=PySem.W.of_hideAll (trk h H) e
 refine⟨e',?_⟩
 cases q:H b with
 | none=>rfl
 | some x =>
  have hm:b∈trk h H:=List.mem_filter.mpr ⟨List.mem_range.mpr (Heap.lt_size e'),by simp[q]⟩
  have z:(hidT h H).get? b=none:=PySem.W.hideAll_none (trk h H) hm
  rw[z] at e;cases e
end L2
namespace L2
open PySem PySem.Spec PyProof.Rows
structure Mod(K:Frag)(mg:Str->Option Value)(base:Heap):Prop where
 kin:K.In base
 glob:base.Ns mainGlobals mg
 blt:∃mb,base.Ns builtinsNs mb/\∀x:Str,x≠"__name__"->mb x=bootBuiltins x
 nolimit:base.NoLimit
structure Cx where
 prog:Program
 w:World
 K:Frag
 mg:Str->Option Value
 base:Heap
 A:Around
 N:List Str
 s₀:Shared
 H₀:Hp
 env:Env
 outer:List Env
 stack:List Env
 ex:List Addr
 fn:Str->Bool
 calm:Bool
 pn:List (Addr×Obj)
 xe:Value->Shared->Prop
def frs(l:List Env):List Addr:=l.filterMap (·.frame)
abbrev Cx.fs(X:Cx):List Addr:=frs X.outer
def Vis(sc:Scope)(x:Str):Prop:=sc.names.lookup x=some .local∨sc.names.lookup x=some .cell∨sc.names.lookup x=some .free
def Loc(sc:Scope)(x:Str):Prop:=sc.names.lookup x=some .local∨sc.names.lookup x=some .cell
def Look(env:Env)(h:Heap)(m:Str->Option Value)(x:Str)(u:Value):Prop :=
 (env.kindOf x=some .local/\m x=some u)∨((env.kindOf x=some .cell∨env.kindOf x=some .free)/\∃c,env.cells.lookup x=some c/\h.IsCell c (some u))
structure Cx.Ok(X:Cx):Prop where
 mod:Mod X.K X.mg X.base
 kind:X.env.scope.kind=.function
 glob:X.env.globals=mainGlobals
 blt:X.env.builtins=builtinsNs
 above:X.s₀.heap.objs.size<=X.env.locals
 inj:∀x y c,X.env.cells.lookup x=some c->X.env.cells.lookup y=some c->x=y
 has:∀x,(X.env.kindOf x=some .cell∨X.env.kindOf x=some .free)->∃c,X.env.cells.lookup x=some c
 cab:∀x c,X.fn x=true->X.env.cells.lookup x=some c->X.s₀.heap.objs.size<=c
 hd:X.calm=true->X.A.handled=none
 frames:X.A.frames=some X.stack
 stk:X.stack=X.outer∨(X.stack=X.env::X.outer/\X.env.frame=some X.env.locals)
 exf:∀b∈X.ex,b≠X.env.locals/\∀x c,X.env.cells.lookup x=some c->c≠b
 bs:∀b o,X.base.get? b=some o->X.s₀.heap.get? b=some o/\X.H₀ b=none
 bsz:X.base.objs.size<=X.s₀.heap.objs.size
 aY:∀b o,X.base.get? b=some o->b∉X.ex
 exfs:∀b∈X.ex,b∉X.fs
 xV:X.s₀.heap.FunFrames X.base X.outer
 frf:∀b∈X.fs,X.H₀ b=none
structure Inv(X:Cx)(pins:List (Addr×Obj))(σ:List (Option V))(H:Hp)(s:Shared):Prop where
 ok:X.Ok
 os:s.os=X.s₀.os
 bare:AllBare s.gens
 base:Un X.fs X.ex X.H₀ H X.s₀.heap s.heap
 loc:∃m,s.heap.Ns X.env.locals m/\∀(i:Nat)(x:Str)(v:V),X.N[i]?=some x->σ[i]?=some (some v)->Vis X.env.scope x->∃u,RelV v u/\Look X.env s.heap m x u
 cell:∀x c,X.env.cells.lookup x=some c->∃v,s.heap.IsCell c v
 free:H X.env.locals=none
 sS:∀x c,X.env.cells.lookup x=some c->H c=none
 pin:∀p∈X.pn++pins,s.heap.get? p.1=some p.2/\H p.1=none/\p.1≠X.env.locals/\p.1∉X.fs/\∀v,p.2.data≠.cell v
 hok:HOk X.prog X.w H s.heap
 len:σ.length=X.N.length
section
variable{X:Cx}{pins:List (Addr×Obj)}{σ:List (Option V)}{H H':Hp}{s:Shared}{h':Heap}
theorem Cx.Ok.nofr(ok:X.Ok){b:Addr}{o:Obj}(e:X.base.get? b=some o):b∉X.fs:=λhb=>by
 have:=(ok.xV.mem hb).1
 rw[e] at this;cases this
theorem Inv.bs(I:Inv X pins σ H s):∀b o,X.base.get? b=some o->s.heap.get? b=some o/\H b=none:=λb o e =>
 ⟨I.base.keep b o (I.ok.bs b o e).1 (I.ok.bs b o e).2 (I.ok.nofr e) (I.ok.aY b o e),I.base.free b o (I.ok.bs b o e).1 (I.ok.bs b o e).2 (I.ok.aY b o e)⟩
theorem Inv.bk(I:Inv X pins σ H s):∀b o,X.base.get? b=some o->s.heap.get? b=some o:=λb o e=>(I.bs b o e).1
theorem Inv.mod(I:Inv X pins σ H s):Mod X.K X.mg X.base:=I.ok.mod
theorem Inv.kIn(I:Inv X pins σ H s):X.K.In s.heap:=I.ok.mod.kin.keeps I.bk
theorem Inv.lt(I:Inv X pins σ H s):X.env.locals<s.heap.objs.size:=let ⟨_,hn,_⟩:=I.loc;hn.lt
theorem Inv.sz(I:Inv X pins σ H s):X.s₀.heap.objs.size<=s.heap.objs.size:=Nat.le_trans I.ok.above (Nat.le_of_lt I.lt)
theorem Inv.nofs(I:Inv X pins σ H s){a:Addr}(h:s.heap.objs.size<=a):a∉X.fs:=λhb=>by
 obtain⟨_,o,ho,_⟩:=I.ok.xV.mem hb
 exact absurd (Nat.lt_of_lt_of_le (Heap.lt_size ho) (Nat.le_trans I.sz h)) (Nat.lt_irrefl _)
theorem Inv.cne(I:Inv X pins σ H s):∀x c,X.env.cells.lookup x=some c->c≠X.env.locals:=λx c e z=>by
 obtain⟨v,o,ho,hd⟩:=I.cell x c e
 obtain⟨m,⟨o',es,ep,ho',hd',_⟩,_⟩:=I.loc
 rw[z,ho'] at ho;cases ho;rw[hd'] at hd;cases hd
theorem Inv.xV(I:Inv X pins σ H s):s.heap.FunFrames X.base X.outer:=by
 have all:∀(l:List Env),(∀b∈frs l,b∈X.fs)->X.s₀.heap.FunFrames X.base l->s.heap.FunFrames X.base l:=by
  intro l
  induction l with
  | nil=>intro _ _;trivial
  | cons env r ih =>
   intro hs hl
   obtain⟨hk,⟨L,o,hf,hn,ho,hd⟩,hr⟩:=hl
   have hL:L∈X.fs:=hs L (by unfold frs;rw[List.filterMap_cons,hf];exact List.mem_cons_self)
   obtain⟨sl,e⟩:=I.base.slot L o ho (I.ok.frf L hL) hL λz=>I.ok.exfs L z hL
   exact⟨hk,⟨L,_,hf,hn,e,hd⟩,ih (λb hb=>hs b (by unfold frs;rw[List.filterMap_cons,hf];exact List.mem_cons_of_mem _ hb)) hr⟩
 exact all X.outer (λ_ hb=>hb) I.ok.xV
theorem Inv.stack(I:Inv X pins σ H s):s.heap.FunFrames X.base X.stack:=by
 rcases I.ok.stk with e | ⟨e,hf⟩
 .rw[e];exact I.xV
 .rw[e]
  obtain⟨m,hn,_⟩:=I.loc
  refine .cons (by rw[I.ok.kind];decide) hf hn ?_ I.xV
  exact Heap.get?_none_of_le (Nat.le_trans I.ok.bsz I.ok.above)
theorem Inv.M9(I:Inv X pins σ H s):∀b∈frs X.stack,b∈X.env.locals::X.fs:=λb hb=>by
 rcases I.ok.stk with e | ⟨e,hf⟩
 .rw[e] at hb;exact List.mem_cons_of_mem _ hb
 .rw[e] at hb
  unfold frs at hb
  rw[List.filterMap_cons,hf] at hb
  exact hb
theorem Inv.Oa(I:Inv X pins σ H s):∀b∈frs X.stack,H b=none:=λb hb=>by
 rcases List.mem_cons.mp (I.M9 b hb) with e | hb
 .rw[e];exact I.free
 .obtain⟨_,o,ho,_⟩:=I.ok.xV.mem hb
  exact I.base.free b o ho (I.ok.frf b hb) λz=>I.ok.exfs b z hb
theorem Inv.step{g':Array GenState}{t':Nat}{d':Drawn}{ch:List Addr}(I:Inv X pins σ H s)
  (hch:∀b∈ch,(b∈X.ex∨X.s₀.heap.objs.size<=b)/\b≠X.env.locals/\(∀x c,X.env.cells.lookup x=some c->c≠b)/\∀p∈X.pn++pins,p.1≠b)
  (keep:∀b o,b≠X.env.locals->b∉X.fs->b∉ch->s.heap.get? b=some o->H b=none->h'.get? b=some o)
  (slot:∀b o,b≠X.env.locals->b∈X.fs->b∉ch->s.heap.get? b=some o->H b=none->∃sl,h'.get? b=some { o with slots:=sl }) (free:∀b o,b∉ch->s.heap.get? b=some o->H b=none->H' b=none)
  (there:∀b o,b∉ch->s.heap.get? b=some o->∃o',h'.get? b=some o')
  (tups:∀b xs,H b=some (.tup xs)->H' b=some (.tup xs)) (v7:∀b o u,H b=some (.frz o u)->H' b=some (.frz o u)) (yo:∀b ps,H b=some (.tbl ps)->∃more,H' b=some (.tbl (ps++more)))
  (ns:∀m,s.heap.Ns X.env.locals m->h'.Ns X.env.locals m) (hok:HOk X.prog X.w H' h') (hg:AllBare g') :
  Inv X pins σ H' { s with heap:=h',gens:=g',drawn:=d',toks:=t' }:=by
 have neL:∀b o,X.s₀.heap.get? b=some o->b≠X.env.locals:=λb o e=>Nat.ne_of_lt (Nat.lt_of_lt_of_le (Heap.lt_size e) I.ok.above)
 have neC:∀b o,X.s₀.heap.get? b=some o->b∉X.ex->b∉ch:=λb o e hx hb=>by
  rcases (hch b hb).1 with z | z
  .exact hx z
  .exact absurd (Nat.lt_of_lt_of_le (Heap.lt_size e) z) (Nat.lt_irrefl _)
 have cellK:∀x c,X.env.cells.lookup x=some c->∀v,s.heap.IsCell c v->h'.IsCell c v:=λx c e v ⟨o,ho,hd⟩=>by
  have nch:c∉ch:=λz=>(hch c z).2.2.1 x c e rfl
  by_cases hc:c∈X.fs
  .obtain⟨sl,q⟩:=slot c o (I.cne x c e) hc nch ho (I.sS x c e)
   exact⟨_,q,hd⟩
  .exact⟨o,keep c o (I.cne x c e) hc nch ho (I.sS x c e),hd⟩
 refine⟨I.ok,I.os,hg,⟨λb o e n hb hx=>?_,λb o e n hb hx=>?_,λb o e n hx=>?_,λb o e hx=>?_,λb xs e=>tups b xs (I.base.tups b xs e),λb o xs e=>v7 b o xs (I.base.v7 b o xs e),λb ps e=>?_⟩,?_,λx c e=>?_,?_,λx c e=>?_,λp hp=>?_,hok,I.len⟩
 .exact keep b o (neL b o e) hb (neC b o e hx) (I.base.keep b o e n hb hx) (I.base.free b o e n hx)
 .obtain⟨sl,e1⟩:=I.base.slot b o e n hb hx
  obtain⟨sl',e2⟩:=slot b _ (neL b o e) hb (neC b o e hx) e1 (I.base.free b o e n hx)
  exact⟨sl',e2⟩
 .obtain⟨o',e1⟩:=I.base.there b o e hx
  exact free b o' (neC b o e hx) e1 (I.base.free b o e n hx)
 .obtain⟨o',e1⟩:=I.base.there b o e hx
  exact there b o' (neC b o e hx) e1
 .obtain⟨m1,e1⟩:=I.base.yo b ps e
  obtain⟨m2,e2⟩:=yo b _ e1
  exact⟨m1++m2,by rw[e2,Array.append_assoc]⟩
 .obtain⟨m,hn,hl⟩:=I.loc
  refine⟨m,ns m hn,λi x v e1 e2 e3=>?_⟩
  obtain⟨u,r,l⟩:=hl i x v e1 e2 e3
  refine⟨u,r,?_⟩
  rcases l with l | ⟨k,c,e,z⟩
  .exact .inl l
  .exact .inr ⟨k,c,e,cellK x c e _ z⟩
 .obtain⟨v,z⟩:=I.cell x c e
  exact⟨v,cellK x c e v z⟩
 .obtain⟨m,⟨o,_,_,ho,_⟩,_⟩:=I.loc
  exact free _ o (λz=>(hch _ z).2.1 rfl) ho I.free
 .obtain⟨v,o,ho,hd⟩:=I.cell x c e
  exact free c o (λz=>(hch c z).2.2.1 x c e rfl) ho (I.sS x c e)
 .obtain⟨e,n,ne,nf,d⟩:=I.pin p hp
  have nch:p.1∉ch:=λz=>(hch p.1 z).2.2.2 p hp rfl
  exact⟨keep p.1 p.2 ne nf nch e n,free p.1 p.2 nch e n,ne,nf,d⟩
theorem Inv.un{t':Nat}(I:Inv X pins σ H s)(u:Un X.fs [] H H' s.heap h')(hok:HOk X.prog X.w H' h'):Inv X pins σ H' { s with heap:=h',toks:=t' }:=by
 obtain⟨m,⟨o,es,ep,ho,r⟩,_⟩:=id I.loc
 obtain⟨sl,hL⟩:=u.any ho I.free (by simp)
 exact I.step (g':=s.gens) (d':=s.drawn) (ch:=[]) (λ_ z=>nomatch z) (λb o _ hb _ e n=>u.keep b o e n hb (by simp)) (λb o _ hb _ e n=>u.slot b o e n hb (by simp)) (λb o _ e n=>u.free b o e n (by simp)) (λb o _ e=>u.there b o e (by simp)) u.tups u.v7 u.yo (λm' hm=>by
  obtain⟨o',es',ep',ho',r'⟩:=hm
  rw[ho] at ho';cases ho'
  exact⟨_,es',ep',hL,r'⟩) hok I.bare
theorem Inv.call{g':Array GenState}{t':Nat}{d':Drawn}{ch:List Addr}(I:Inv X pins σ H s)(u:Un (frs X.stack) ch H H' s.heap h')(hok:HOk X.prog X.w H' h')(hg:AllBare g')
  (hch:∀b∈ch,(b∈X.ex∨X.s₀.heap.objs.size<=b)/\b≠X.env.locals/\(∀x c,X.env.cells.lookup x=some c->c≠b)/\∀p∈X.pn++pins,p.1≠b) :
  Inv X pins σ H' { s with heap:=h',gens:=g',drawn:=d',toks:=t' }:=by
 obtain⟨m,⟨o,es,ep,ho,r⟩,_⟩:=id I.loc
 obtain⟨sl,hL⟩:=u.any ho I.free λz=>(hch _ z).2.1 rfl
 exact I.step (ch:=ch) hch (λb o hL hb hc e n=>u.keep b o e n (λz=>(List.mem_cons.mp (I.M9 b z)).elim hL hb) hc) (λb o _ _ hc e n=>u.any e n hc) (λb o hc e n=>u.free b o e n hc) (λb o hc e=>u.there b o e hc) u.tups u.v7 u.yo (λm' hm=>by
  obtain⟨o',es',ep',ho',r'⟩:=hm
  rw[ho] at ho';cases ho'
  exact⟨_,es',ep',hL,r'⟩) hok hg
theorem Inv.turned{t':Nat}{it:Addr}(I:Inv X pins σ H s)(k:∀b o,b≠it->s.heap.get? b=some o->h'.get? b=some o)(hn:H it=none)(hL:it≠X.env.locals)
  (h1:it∈X.ex∨X.s₀.heap.objs.size<=it) (h2:∀x c,X.env.cells.lookup x=some c->c≠it) (h3:∀p∈X.pn++pins,p.1≠it):Inv X pins σ H { s with heap:=h',toks:=t' }:=by
 have nit:∀b u,H b=some u->b≠it:=λb u e z=>by rw[z,hn] at e;cases e
 refine I.step (g':=s.gens) (d':=s.drawn) (ch:=[it]) (λb hb=>?_) (λb o _ _ hc e _=>k b o (λz=>hc (by simp[z])) e) (λb o _ _ hc e _=>⟨o.slots,k b o (λz=>hc (by simp[z])) e⟩) (λ_ _ _ _ n=>n)
  (λb o hc e=>⟨o,k b o (λz=>hc (by simp[z])) e⟩) (λ_ _ e=>e) (λ_ _ _ e=>e) (λb ps e=>⟨#[],by rw[e];simp⟩) (λm hm=>?_) (λb u e=>?_) I.bare
 .have e:b=it:=by simpa using hb
  subst e
  exact⟨h1,hL,h2,h3⟩
 .obtain⟨o,es,ep,ho,r⟩:=hm
  exact⟨o,es,ep,k _ o (Ne.symm hL) ho,r⟩
 .refine(I.hok b u e).stay (λc v hc q=>k c v ?_ q) (λ_ q=>q) λ_ _ q=>q
  rcases hc with z | z
  .rw[z];exact nit b u e
  .exact nit c _ z
theorem Inv.tok(I:Inv X pins σ H s)(t:Nat):Inv X pins σ H { s with toks:=t }:=I.un (h':=s.heap) (t':=t) Un.refl I.hok
theorem Inv.kept{t':Nat}(I:Inv X pins σ H s)(k:∀b u,s.heap.get? b=some u->h'.get? b=some u):Inv X pins σ H { s with heap:=h',toks:=t' }:=I.un (Un.kept k) (I.hok.kept k)
theorem Inv.laid{a:Addr}{o:HO}{t':Nat}(I:Inv X pins σ H s)(k:∀b u,s.heap.get? b=some u->h'.get? b=some u)(hp:s.heap.objs.size<=a)(new:cC X.prog X.w (upd H a o) h' a o):
  Inv X pins σ (upd H a o) { s with heap:=h',toks:=t' }:=I.un (Un.laid k hp (I.hok.fresh hp)) (I.hok.laid k hp new)
theorem Inv.write{x e:Addr}{o:HO}{t':Nat}(I:Inv X pins σ H s)(mu:Mut (H x))(he:e=x∨H e=some (.own x))(k:∀b u,b≠e->s.heap.get? b=some u->h'.get? b=some u)(heo:∃u,h'.get? e=some u)
  (new:cC X.prog X.w (upd H x o) h' x o):Inv X pins σ (upd H x o) { s with heap:=h',toks:=t' }:=I.un (Un.write mu he k heo) (I.hok.write mu he k heo new)
theorem Inv.N5{pins':List (Addr×Obj)}(I:Inv X pins σ H s)(h:∀p∈pins',s.heap.get? p.1=some p.2/\H p.1=none/\p.1≠X.env.locals/\p.1∉X.fs/\∀v,p.2.data≠.cell v):Inv X pins' σ H s :=
 ⟨I.ok,I.os,I.bare,I.base,I.loc,I.cell,I.free,I.sS,λp hp=>(List.mem_append.mp hp).elim (λz=>I.pin p (List.mem_append_left _ z)) (h p),I.hok,I.len⟩
theorem JZ{N:List Str}(hN:N.Nodup){i j:Nat}{x:Str}(a:N[i]?=some x)(b:N[j]?=some x):i=j:=by
 obtain⟨h1,e1⟩:=List.getElem?_eq_some_iff.mp a
 obtain⟨h2,e2⟩:=List.getElem?_eq_some_iff.mp b
 exact(List.getElem_inj hN).mp (e1.trans e2.symm)
theorem DN{M:Model}{A:Around}{E:Value->Shared->Prop}{i:Nat}{x:Str}{v:V}{u:Value}{Q:Unit->Shared->Prop}(I:Inv X pins σ H s)(hN:X.N.Nodup)(hi:X.N[i]?=some x)(hx:Loc X.env.scope x)(r:RelV v u)
  (h:∀s',Inv X pins (σ.set i (some v)) H s'->(∃a,Heap.SameBut a s.heap s'.heap/\(a=X.env.locals∨X.env.cells.lookup x=some a))->Q () s') (hf:X.fn x=true∨X.env.scope.names.lookup x=some .local:=by first | exact .inl rfl | exact .inr rfl | assumption):wpAny M A (storeName X.env x u) Q E s:=by
 obtain⟨m,hn,hl⟩:=id I.loc
 have hcls:(X.env.scope.kind==.class || (X.env.scope.kind==.module && X.env.locals != X.env.globals))=false:=by rw[I.ok.kind];rfl
 have hiσ:i<σ.length:=by rw[I.len];exact(List.getElem?_eq_some_iff.mp hi).1
 have cne:=I.cne
 have tracked:∀{a:Addr}{h':Heap},(∃o,s.heap.get? a=some o/\H a=none)->Heap.SameBut a s.heap h'->HOk X.prog X.w H h':=fun{a h'} ha hs b ob e=>by
  obtain⟨_,_,hfree⟩:=ha
  refine(I.hok b ob e).stay (λc w' hc q=>(hs.2 c ?_).trans q) (λ_ q=>q) λ_ _ q=>q
  rintro rfl
  rcases hc with rfl | hc
  .rw[hfree] at e;cases e
  .rw[hfree] at hc;cases hc
 rcases hx with hk | hk
 .refine wpAny_storeName_local hk hn (λh' hn' hs=>?_) hcls
  obtain⟨oL,_,_,hoL,_⟩:=id hn
  refine h _ ⟨I.ok,I.os,I.bare,⟨λb o e n hb hx=>?_,λb o e n hb hx=>?_,I.base.free,λb o e hx=>?_,I.base.tups,I.base.v7,I.base.yo⟩,⟨_,hn',λj y v' e1 e2 e3=>?_⟩,λy c e=>?_,I.free,I.sS,λp hp=>?_,tracked ⟨oL,hoL,I.free⟩ hs,by simpa using I.len⟩ ⟨_,hs,.inl rfl⟩
  .exact(hs.2 b (Nat.ne_of_lt (Nat.lt_of_lt_of_le (Heap.lt_size e) I.ok.above))).trans (I.base.keep b o e n hb hx)
  .obtain⟨sl,e1⟩:=I.base.slot b o e n hb hx
   exact⟨sl,(hs.2 b (Nat.ne_of_lt (Nat.lt_of_lt_of_le (Heap.lt_size e) I.ok.above))).trans e1⟩
  .obtain⟨o',e1⟩:=I.base.there b o e hx
   exact⟨o',(hs.2 b (Nat.ne_of_lt (Nat.lt_of_lt_of_le (Heap.lt_size e) I.ok.above))).trans e1⟩
  .by_cases hj:j=i
   .subst hj
    rw[hi] at e1;cases e1
    rw[List.getElem?_set_self hiσ] at e2
    cases e2
    exact⟨u,r,.inl ⟨hk,by simp⟩⟩
   .rw[List.getElem?_set_ne (Ne.symm hj)] at e2
    obtain⟨u',r',q⟩:=hl j y v' e1 e2 e3
    refine⟨u',r',?_⟩
    rcases q with⟨k,e⟩| ⟨k,c,e,z⟩
    .refine .inl ⟨k,?_⟩
     have:y≠x:=λe=>hj (JZ hN e1 (e▸hi))
     simp[this,e]
    .exact .inr ⟨k,c,e,z.sameBut hs (cne y c e)⟩
  .obtain⟨w',z⟩:=I.cell y c e
   exact⟨w',z.sameBut hs (cne y c e)⟩
  .obtain⟨e,n,ne,nf,d⟩:=I.pin p hp
   exact⟨(hs.2 p.1 ne).trans e,n,ne,nf,d⟩
 .have hfn:X.fn x=true:=by
   rcases hf with z | z
   .exact z
   .rw[z] at hk;cases hk
  obtain⟨c,hc⟩:=I.ok.has x (.inl hk)
  obtain⟨w',z⟩:=I.cell x c hc
  refine wpAny_storeName_cell I.ok.kind hk hc z (λh' hc' hs=>?_)
  obtain⟨oc,hoc,hocd⟩:=id z
  refine h { s with heap:=h' } ⟨I.ok,I.os,I.bare,⟨λb o e n hb hx=>?_,λb o e n hb hx=>?_,I.base.free,λb o e hx=>?_,I.base.tups,I.base.v7,I.base.yo⟩,⟨m,hn.sameBut hs (Ne.symm (cne x c hc)),λj y v' e1 e2 e3=>?_⟩,λy c' e=>?_,I.free,I.sS,λp hp=>?_,tracked ⟨oc,hoc,I.sS x c hc⟩ hs,by simpa using I.len⟩ ⟨c,hs,.inr hc⟩
  .exact(hs.2 b (Nat.ne_of_lt (Nat.lt_of_lt_of_le (Heap.lt_size e) (I.ok.cab x c hfn hc)))).trans (I.base.keep b o e n hb hx)
  .obtain⟨sl,e1⟩:=I.base.slot b o e n hb hx
   exact⟨sl,(hs.2 b (Nat.ne_of_lt (Nat.lt_of_lt_of_le (Heap.lt_size e) (I.ok.cab x c hfn hc)))).trans e1⟩
  .obtain⟨o',e1⟩:=I.base.there b o e hx
   exact⟨o',(hs.2 b (Nat.ne_of_lt (Nat.lt_of_lt_of_le (Heap.lt_size e) (I.ok.cab x c hfn hc)))).trans e1⟩
  .by_cases hj:j=i
   .subst hj
    rw[hi] at e1;cases e1
    rw[List.getElem?_set_self hiσ] at e2
    cases e2
    exact⟨u,r,.inr ⟨.inl hk,c,hc,hc'⟩⟩
   .rw[List.getElem?_set_ne (Ne.symm hj)] at e2
    obtain⟨u',r',q⟩:=hl j y v' e1 e2 e3
    refine⟨u',r',?_⟩
    rcases q with q | ⟨k,c',e,z'⟩
    .exact .inl q
    .refine .inr ⟨k,c',e,z'.sameBut hs ?_⟩
     rintro rfl
     exact hj (JZ hN e1 (I.ok.inj _ _ _ e hc▸hi))
  .by_cases hcc:c'=c
   .subst hcc;exact⟨_,hc'⟩
   .obtain⟨w2,z2⟩:=I.cell y c' e
    exact⟨w2,z2.sameBut hs hcc⟩
  .obtain⟨e,n,ne,nf,d⟩:=I.pin p hp
   refine⟨(hs.2 p.1 ?_).trans e,n,ne,nf,d⟩
   intro q
   rw[q,hoc] at e
   have q':oc=p.2:=Option.some.inj e
   exact d w' (by rw[←q'];exact hocd)
theorem Ks{M:Model}{A:Around}{E:Value->Shared->Prop}{i:Nat}{x:Str}{v:V}{u:Value}{Q:Unit->Shared->Prop}(I:Inv X pins σ H s)(hN:X.N.Nodup)(hi:X.N[i]?=some x)(hx:Loc X.env.scope x)(r:RelV v u)
  (h:∀s',Inv X pins (σ.set i (some v)) H s'->Q () s') (hf:X.fn x=true∨X.env.scope.names.lookup x=some .local:=by first | exact .inl rfl | exact .inr rfl | assumption):wpAny M A (storeName X.env x u) Q E s :=
 DN I hN hi hx r (λs' I' _=>h s' I') hf
theorem Inv.call'{s':Shared}{ch:List Addr}(I:Inv X pins σ H s)(ho:s'.os=s.os)(u:Un (frs X.stack) ch H H' s.heap s'.heap)(hok:HOk X.prog X.w H' s'.heap)(hg:AllBare s'.gens)
  (hch:∀b∈ch,(b∈X.ex∨X.s₀.heap.objs.size<=b)/\b≠X.env.locals/\(∀x c,X.env.cells.lookup x=some c->c≠b)/\∀p∈X.pn++pins,p.1≠b):Inv X pins σ H' s':=by
 obtain⟨h',g',d',t',o'⟩:=s'
 have e:o'=s.os:=ho
 subst e
 exact I.call (g':=g') (t':=t') (d':=d') u hok hg hch
end
abbrev XK:=Value->Option Addr->Hp->Prop
abbrev St:=List (Option V)
abbrev VK:=V->Hp->Prop
abbrev TE:=St->Hp->VK->Prop
abbrev TT:=St->Hp->(Bool->Hp->Prop)->Prop
abbrev TA:=St->Hp->(List V->Hp->Prop)->Prop
structure Ends where
 nx:St->Hp->Prop
 rt:VK
 bk:St->Hp->Prop:=λ_ _=>False
 ct:St->Hp->Prop:=λ_ _=>False
abbrev TS:=Ends->St->Hp->Prop
def EP(X:Cx)(pins:List (Addr×Obj))(σ:St)(Q:VK)(u:Value)(s':Shared):Prop:=∃v H',Inv X pins σ H' s'/\RelV v u/\Q v H'
def TP(X:Cx)(pins:List (Addr×Obj))(σ:St)(Q:Bool->Hp->Prop)(b:Bool)(s':Shared):Prop:=∃H',Inv X pins σ H' s'/\Q b H'
def AP(X:Cx)(pins:List (Addr×Obj))(σ:St)(Q:List V->Hp->Prop)(us:List Value)(s':Shared):Prop:=∃vs H',Inv X pins σ H' s'/\Vals vs us/\Q vs H'
def SP(X:Cx)(pins:List (Addr×Obj))(D:Ends)(f:Flow)(s':Shared):Prop :=
 match f with
 | .next=>∃σ' H',Inv X pins σ' H' s'/\D.nx σ' H'
 | .brk=>∃σ' H',Inv X pins σ' H' s'/\D.bk σ' H'
 | .cont=>∃σ' H',Inv X pins σ' H' s'/\D.ct σ' H'
 | .ret u=>∃v σ' H',Inv X pins σ' H' s'/\RelV v u/\D.rt v H'
def PE(X:Cx)(e:Expr)(t:TE):Prop :=
 ∀(pins:List (Addr×Obj))(s:Shared)(σ:St)(H:Hp)(Q:VK),Inv X pins σ H s->t σ H Q->wpAny (model X.prog X.w) X.A (eval e X.env) (EP X pins σ Q) X.xe s
def PT(X:Cx)(e:Expr)(t:TT):Prop :=
 ∀(pins:List (Addr×Obj))(s:Shared)(σ:St)(H:Hp)(Q:Bool->Hp->Prop),Inv X pins σ H s->t σ H Q->wpAny (model X.prog X.w) X.A (isTrue e X.env (eval e X.env)) (TP X pins σ Q) X.xe s
def PW(X:Cx)(e:Expr)(t:TT):Prop :=
 ∀(whole:Sem Value)(pins:List (Addr×Obj))(s:Shared)(σ:St)(H:Hp)(Q:Bool->Hp->Prop),Inv X pins σ H s->t σ H Q->wpAny (model X.prog X.w) X.A (isTrue e X.env whole) (TP X pins σ Q) X.xe s
theorem PW.pt{X:Cx}{e:Expr}{t:TT}(h:PW X e t):PT X e t:=h _
def PA(X:Cx)(es:List Expr)(t:TA):Prop :=
 ∀(pos:Pos)(pins:List (Addr×Obj))(s:Shared)(σ:St)(H:Hp)(Q:List V->Hp->Prop),Inv X pins σ H s->t σ H Q->wpAny (model X.prog X.w) X.A (spliced (backTo pos (starEach es X.env))) (AP X pins σ Q) X.xe s
def PS(X:Cx)(st:Stmt)(t:TS):Prop :=
 ∀(pins:List (Addr×Obj))(s:Shared)(σ:St)(H:Hp)(D:Ends),Inv X pins σ H s->t D σ H->wpAny (model X.prog X.w) X.A (exec st X.env) (SP X pins D) X.xe s
def PSs(X:Cx)(st:List Stmt)(t:TS):Prop :=
 ∀(pins:List (Addr×Obj))(s:Shared)(σ:St)(H:Hp)(D:Ends),Inv X pins σ H s->t D σ H->wpAny (model X.prog X.w) X.A (execs st X.env) (SP X pins D) X.xe s
theorem thn{α:Type}{t:Sem α}{Q Q':α->Shared->Prop}{M:Model}{A:Around}{E:Value->Shared->Prop}{s:Shared}(h:wpAny M A t Q E s)(hQ:∀a s,Q a s->Q' a s):wpAny M A t Q' E s:=wpAny_mono h hQ λ_ _ x=>x
end L2
namespace L2
open PySem PySem.Spec PyProof.Rows
section
variable{X:Cx}
def ou(i:Nat):TE:=λσ H Q=>∃v,σ[i]?=some (some v)/\Q v H
def tC(v:V):TE:=λ_ H Q=>Q v H
theorem pe_var{i:Nat}{x:Str}{pos:Pos}(hN:X.N[i]?=some x)(hv:Vis X.env.scope x)(hd:(x==("__debug__":Str))=false:=by decide)(hcd:(x==("__classdict__":Str))=false:=by decide):PE X (.Name x pos) (ou i):=by
 intro pins s σ H Q I h
 obtain⟨v,e,h⟩:=h
 obtain⟨m,hn,hl⟩:=I.loc
 obtain⟨u,r,l⟩:=hl i x v hN e hv
 have fin:EP X pins σ Q u s:=⟨v,H,I,r,h⟩
 rcases l with⟨hk,hm⟩| ⟨hk,c,hc,hcell⟩
 .exact wpAny_Name (wpAny_loadName_local I.ok.kind hk hn hm fin) hd
 .rcases hk with hk | hk
  .exact wpAny_Name (wpAny_loadName_cell I.ok.kind hk hc hcell fin) hd
  .exact wpAny_Name (wpAny_loadName_free I.ok.kind hk hc hcell fin hcd) hd
theorem pe_int{i j pos}:PE X (.Constant (.int i) j pos) (tC (.int i)):=λ_ _ _ H _ I h=>wpAny_Constant_int ⟨.int i,H,I.tok _,⟨_,rfl⟩,h⟩
theorem pe_bl{b j pos}:PE X (.Constant (.bool b) j pos) (tC (.bl b)):=λ_ _ _ H _ I h=>Constant_bool ⟨.bl b,H,I,rfl,h⟩
theorem Mw{j pos}:PE X (.Constant .none j pos) (tC .non):=λ_ _ _ H _ I h=>Constant_none ⟨.non,H,I,rfl,h⟩
theorem pe_str{x j pos}:PE X (.Constant (.str x) j pos) (tC (.str x)):=λ_ _ _ H _ I h=>Calls.Constant_str ⟨.str x,H,I.tok _,⟨_,rfl⟩,h⟩
def Gl(X:Cx)(x:Str):Prop:=X.env.kindOf x=some .globalImplicit
theorem uQ{E:Value->Shared->Prop}{pins:List (Addr×Obj)}{s:Shared}{σ:St}{H:Hp}{x:Str}{u:Value}{pos:Pos}{Q:Value->Shared->Prop}(I:Inv X pins σ H s)(hg:Gl X x)(hm:X.mg x=some u)(h:Q u s)
  (hd:(x==("__debug__":Str))=false:=by decide):wpAny (model X.prog X.w) X.A (eval (.Name x pos) X.env) Q E s :=
 Calls.Name_function_global I.ok.kind hg (Calls.loadGlobal_global (by rw[I.ok.glob];exact I.mod.glob.keeps I.bk) hm h) hd
theorem qC{E:Value->Shared->Prop}{pins:List (Addr×Obj)}{s:Shared}{σ:St}{H:Hp}{x:Str}{u:Value}{pos:Pos}{Q:Value->Shared->Prop}(I:Inv X pins σ H s)(hg:Gl X x)(hm:X.mg x=none)(hv:bootBuiltins x=some u)(h:Q u s)
  (hn:x≠"__name__":=by decide) (hd:(x==("__debug__":Str))=false:=by decide):wpAny (model X.prog X.w) X.A (eval (.Name x pos) X.env) Q E s:=by
 obtain⟨mb,h1,h2⟩:=I.mod.blt
 exact Calls.Name_function_global I.ok.kind hg (Calls.loadGlobal_builtin (by rw[I.ok.glob];exact I.mod.glob.keeps I.bk) hm (by rw[I.ok.blt];exact h1.keeps I.bk) ((h2 x hn).trans hv) h) hd
theorem gw{x:Str}{v:V}{u:Value}{pos:Pos}(hg:Gl X x)(hm:X.mg x=some u)(r:RelV v u)(hd:(x==("__debug__":Str))=false:=by decide):PE X (.Name x pos) (tC v) :=
 λ_ _ _ H _ I h=>uQ I hg hm ⟨v,H,I,r,h⟩ hd
theorem gQ{x:Str}{v:V}{u:Value}{pos:Pos}(hg:Gl X x)(hm:X.mg x=none)(hv:bootBuiltins x=some u)(r:RelV v u)(hn:x≠"__name__":=by decide)(hd:(x==("__debug__":Str))=false:=by decide):PE X (.Name x pos) (tC v) :=
 λ_ _ _ H _ I h=>qC I hg hm hv ⟨v,H,I,r,h⟩ hn hd
variable{a b:Expr}{ta tb:TE}{pos:Pos}
def PC(X:Cx)(op:CmpOp)(a b:Expr)(t:TE):Prop :=
 ∀(pins:List (Addr×Obj))(s:Shared)(σ:St)(H:Hp)(Q:VK),Inv X pins σ H s->t σ H Q ->
  wpAny (model X.prog X.w) X.A (eval a X.env) (λv s₁=>wpAny (model X.prog X.w) X.A (eval b X.env) (λu s₂=>wpAny (model X.prog X.w) X.A (compareOp op v u) (EP X pins σ Q) X.xe s₂) X.xe s₁) X.xe s
theorem pe_cmp{op:CmpOp}{t:TE}(h:PC X op a b t)(h1:behindInMarks op b=false:=by first | exact nobehind _ (by decide) (by decide) | rfl):PE X (.Compare a [op] [b] pos) t:=λpins s σ H Q I hw=>wpAny_Compare1 (h pins s σ H Q I hw) h1
variable{tA tB':TT}{rest:List Expr}
def tAnd(t u:TT):TT:=λσ H Q=>t σ H λc H1=>if c=true then u σ H1 Q else Q false H1
def tOr(t u:TT):TT:=λσ H Q=>t σ H λc H1=>if c=true then Q true H1 else u σ H1 Q
def tNot(t:TT):TT:=λσ H Q=>t σ H λc H1=>Q (!c) H1
theorem pw_and1(ha:PT X a tA):PW X (.BoolOp .And [a] pos) tA:=by
 intro wh pins s σ H Q I h
 refine isTrue_and (thn (ha pins s σ H Q I h) λc s1 e=>?_)
 cases c with
 | true=>exact isTrue_and_nil e
 | false=>exact e
theorem pw_or1(ha:PT X a tA):PW X (.BoolOp .Or [a] pos) tA:=by
 intro wh pins s σ H Q I h
 refine isTrue_or (thn (ha pins s σ H Q I h) λc s1 e=>?_)
 cases c with
 | false=>exact isTrue_or_nil e
 | true=>exact e
theorem pw_and(ha:PT X a tA)(hb:PW X (.BoolOp .And (b::rest) pos) tB'):PW X (.BoolOp .And (a::b::rest) pos) (tAnd tA tB'):=by
 intro wh pins s σ H Q I h
 refine isTrue_and (thn (ha pins s σ H _ I h) λc s1 ⟨H1,I1,q1⟩=>?_)
 cases c with
 | true=>exact hb wh pins s1 σ H1 Q I1 q1
 | false=>exact⟨H1,I1,q1⟩
theorem pw_or(ha:PT X a tA)(hb:PW X (.BoolOp .Or (b::rest) pos) tB'):PW X (.BoolOp .Or (a::b::rest) pos) (tOr tA tB'):=by
 intro wh pins s σ H Q I h
 refine isTrue_or (thn (ha pins s σ H _ I h) λc s1 ⟨H1,I1,q1⟩=>?_)
 cases c with
 | true=>exact⟨H1,I1,q1⟩
 | false=>exact hb wh pins s1 σ H1 Q I1 q1
theorem pt_not(ha:PT X a tA):PT X (.UnaryOp .Not a pos) (tNot tA):=by
 intro pins s σ H Q I h
 exact isTrue_not (ha pins s σ H (λc H1=>Q (!c) H1) I h)
def tAndV(ta tb:TE):TE:=λσ H Q=>ta σ H λx H1=>∃c,x=.bl c/\if c=true then tb σ H1 Q else Q (.bl false) H1
def tOrV(ta tb:TE):TE:=λσ H Q=>ta σ H λx H1=>∃c,x=.bl c/\if c=true then Q (.bl true) H1 else tb σ H1 Q
def tNotV(ta:TE):TE:=λσ H Q=>ta σ H λx H1=>∃c,x=.bl c/\Q (.bl (!c)) H1
theorem pe_one{op}{t:TE}(h:PE X a t):PE X (.BoolOp op [a] pos) t:=λpins s σ H Q I hw=>BoolOp_one (h pins s σ H Q I hw)
theorem pe_and(ha:PE X a ta)(hb:PE X (.BoolOp .And (b::rest) pos) tb):PE X (.BoolOp .And (a::b::rest) pos) (tAndV ta tb):=by
 intro pins s σ H Q I h
 refine BoolOp_and (thn (ha pins s σ H _ I h) λv s1 ⟨x,H1,I1,r1,q1⟩=>?_)
 obtain⟨c,rfl,q1⟩:=q1
 cases r1
 refine wpAny_truthy_bool ?_
 cases c with
 | true=>exact hb pins s1 σ H1 Q I1 q1
 | false=>exact⟨.bl false,H1,I1,rfl,q1⟩
theorem pe_or(ha:PE X a ta)(hb:PE X (.BoolOp .Or (b::rest) pos) tb):PE X (.BoolOp .Or (a::b::rest) pos) (tOrV ta tb):=by
 intro pins s σ H Q I h
 refine BoolOp_or (thn (ha pins s σ H _ I h) λv s1 ⟨x,H1,I1,r1,q1⟩=>?_)
 obtain⟨c,rfl,q1⟩:=q1
 cases r1
 refine wpAny_truthy_bool ?_
 cases c with
 | false=>exact hb pins s1 σ H1 Q I1 q1
 | true=>exact⟨.bl true,H1,I1,rfl,q1⟩
theorem pe_not(ha:PE X a ta):PE X (.UnaryOp .Not a pos) (tNotV ta):=by
 intro pins s σ H Q I h
 refine UnaryOp_ (thn (ha pins s σ H _ I h) λv s1 ⟨x,H1,I1,r1,q1⟩=>?_)
 obtain⟨c,rfl,q1⟩:=q1
 cases r1
 exact not_of (wpAny_truthy_bool ⟨.bl (!c),H1,I1,rfl,q1⟩)
end
end L2
namespace L2
open PySem PySem.Spec PyProof.Rows
def SqL(K:Frag)(H:Hp)(a:Addr)(xs:List V):Prop :=
 Rd H a (.lst xs) ∨
  ∃(o:Obj)(its:Array Value)(n:Nat),K.lookup a=some o/\o.cls=.type "list"/\o.dict=none/\o.data=.seq its n/\its.size<=sizeLine/\Vals xs its.toList
def SqT(K:Frag)(H:Hp)(a:Addr)(xs:List V):Prop :=
 Rd H a (.tup xs) ∨
  ∃(o:Obj)(its:Array Value)(n:Nat),K.lookup a=some o/\o.cls=.type "tuple"/\o.data=.seq its n/\its.size<=sizeLine/\Vals xs its.toList
def absV:Value->Option V
 | .none=>some .non
 | .bool b=>some (.bl b)
 | .int i _=>some (.int i)
 | .str x _=>some (.str x)
 | .bytes b _=>some (.byt b)
 | .float b _=>some (.flt b)
 | .ref a=>some (.ref a)
 | .type n=>some (.ty n)
 | _=>none
theorem RelV.abs{x:V}{u:Value}(r:RelV x u):absV u=some x:=by
 cases x with
 | non=>cases r;rfl
 | bl _=>cases r;rfl
 | int _=>obtain⟨t,rfl⟩:=r;rfl
 | str _=>obtain⟨t,rfl⟩:=r;rfl
 | byt _=>obtain⟨t,rfl⟩:=r;rfl
 | flt _=>obtain⟨t,rfl⟩:=r;rfl
 | ref _=>cases r;rfl
 | ty _=>cases r;rfl
theorem RelV.inj{x y:V}{u:Value}(r:RelV x u)(q:RelV y u):x=y:=Option.some.inj (r.abs.symm.trans q.abs)
theorem Vals.inj:∀{xs ys:List V}{us:List Value},Vals xs us->Vals ys us->xs=ys
 | _,_,_,.nil,.nil=>rfl
 | _,_,_,.cons r t,.cons r' t'=>by rw[r.inj r',Vals.inj t t']
section
variable{X:Cx}{pins:List (Addr×Obj)}{σ:St}{H:Hp}{s:Shared}{a:Addr}{xs ys:List V}
theorem SqL.of{K:Frag}(h:H a=some (.lst xs)):SqL K H a xs:=.inl (.inl h)
theorem SqT.of{K:Frag}(h:H a=some (.tup xs)):SqT K H a xs:=.inl (.inl h)
theorem Inv.list(I:Inv X pins σ H s)(h:SqL X.K H a xs):∃its:List Value,Vals xs its/\PlainL s.heap a its.toArray/\xs.length<=sizeLine:=by
 rcases h with h | ⟨o,its,n,hk,hc,hd,hs,hz,r⟩
 .obtain⟨z,its,n,r,e⟩:=h.ok I.hok
  exact⟨its,r,⟨_,n,e,rfl,rfl,rfl⟩,z⟩
 .refine⟨its.toList,r,⟨o,n,I.kIn a o hk,hc,hd,by simpa using hs⟩,?_⟩
  have e:=r.length
  simp only[Array.length_toList] at e
  omega
theorem Inv.tuple(I:Inv X pins σ H s)(h:SqT X.K H a xs):∃its:List Value,Vals xs its/\IsTup s.heap a its.toArray/\xs.length<=sizeLine:=by
 rcases h with h | ⟨o,its,n,hk,hc,hs,hz,r⟩
 .obtain⟨z,its,r,p⟩:=h.ok I.hok
  exact⟨its,r,p,z⟩
 .refine⟨its.toList,r,⟨o,I.kIn a o hk,hc,n,by simpa using hs⟩,?_⟩
  have e:=r.length
  simp only[Array.length_toList] at e
  omega
theorem Inv.JR(I:Inv X pins σ H s)(h:SqL X.K H a xs)(h':SqL X.K H a ys):xs=ys:=by
 obtain⟨its,r,⟨o,n,e,_,_,d⟩,_⟩:=I.list h
 obtain⟨its',r',⟨o',n',e',_,_,d'⟩,_⟩:=I.list h'
 rw[e] at e';cases e'
 rw[d] at d'
 injection d' with d1 _
 have:its=its':=by simpa using congrArg Array.toList d1
 subst this
 exact r.inj r'
theorem Inv.Qc(I:Inv X pins σ H s)(h:SqT X.K H a xs)(h':SqT X.K H a ys):xs=ys:=by
 obtain⟨its,r,⟨o,e,_,n,d⟩,_⟩:=I.tuple h
 obtain⟨its',r',⟨o',e',_,n',d'⟩,_⟩:=I.tuple h'
 rw[e] at e';cases e'
 rw[d] at d'
 injection d' with d1 _
 have:its=its':=by simpa using congrArg Array.toList d1
 subst this
 exact r.inj r'
end
abbrev Cx.wish(X:Cx)(E:Value->Shared->Prop):Cx:={ X with xe:=E }
abbrev Cx.nox(X:Cx):Cx:=X.wish λ_ _=>False
theorem Cx.Ok.wish{X:Cx}(ok:X.Ok)(E:Value->Shared->Prop):(X.wish E).Ok :=
 ⟨ok.mod,ok.kind,ok.glob,ok.blt,ok.above,ok.inj,ok.has,ok.cab,ok.hd,ok.frames,ok.stk,ok.exf,ok.bs,ok.bsz,ok.aY,ok.exfs,ok.xV,ok.frf⟩
theorem Cx.Ok.rE{X:Cx}{E:Value->Shared->Prop}(ok:(X.wish E).Ok):X.Ok :=
 ⟨ok.mod,ok.kind,ok.glob,ok.blt,ok.above,ok.inj,ok.has,ok.cab,ok.hd,ok.frames,ok.stk,ok.exf,ok.bs,ok.bsz,ok.aY,ok.exfs,ok.xV,ok.frf⟩
section
variable{X:Cx}{pins:List (Addr×Obj)}{σ:St}{H:Hp}{s:Shared}{E:Value->Shared->Prop}
theorem Inv.wish(I:Inv X pins σ H s)(E:Value->Shared->Prop):Inv (X.wish E) pins σ H s:=⟨I.ok.wish E,I.os,I.bare,I.base,I.loc,I.cell,I.free,I.sS,I.pin,I.hok,I.len⟩
theorem Inv.rE(I:Inv (X.wish E) pins σ H s):Inv X pins σ H s:=⟨I.ok.rE,I.os,I.bare,I.base,I.loc,I.cell,I.free,I.sS,I.pin,I.hok,I.len⟩
theorem SP.rE{D:Ends}{f:Flow}{s':Shared}(h:SP (X.wish E) pins D f s'):SP X pins D f s':=by
 cases f with
 | next=>obtain⟨σ',H',I,q⟩:=h;exact⟨σ',H',I.rE,q⟩
 | brk=>obtain⟨σ',H',I,q⟩:=h;exact⟨σ',H',I.rE,q⟩
 | cont=>obtain⟨σ',H',I,q⟩:=h;exact⟨σ',H',I.rE,q⟩
 | ret u=>obtain⟨v,σ',H',I,r,q⟩:=h;exact⟨v,σ',H',I.rE,r,q⟩
theorem PSs.nox{st:List Stmt}{t:TS}(h:PSs X.nox st t):PSs X st t:=λpins s σ H D I hw =>
 wpAny_mono (h pins s σ H D (I.wish _) hw) (λ_ _ q=>q.rE) λ_ _ z=>False.elim z
end
section
variable{X:Cx}{st:Stmt}{rest:List Stmt}{t u:TS}{e:Expr}{te:TE}{pos:Pos}
def tNext:TS:=λD σ H=>D.nx σ H
def tSeq(t u:TS):TS:=λD σ H=>t { D with nx:=u D } σ H
theorem N6:PSs X [] tNext:=λ_ _ σ H _ I h=>wpAny_execs_nil ⟨σ,H,I,h⟩
theorem qJ(h1:PS X st t)(h2:PSs X rest u):PSs X (st::rest) (tSeq t u):=by
 intro pins s σ H D I h
 refine wpAny_execs_cons (thn (h1 pins s σ H { D with nx:=u D } I h) λf s1 q=>?_)
 cases f with
 | next =>
  obtain⟨σ',H',I',q⟩:=q
  exact h2 pins s1 σ' H' D I' q
 | ret v=>exact q
 | brk=>exact q
 | cont=>exact q
theorem kJ(h1:PS X st t):PSs X [st] t:=by
 intro pins s σ H D I h
 refine wpAny_execs_cons (thn (h1 pins s σ H D I h) λf s1 q=>?_)
 cases f with
 | next=>exact wpAny_execs_nil q
 | ret v=>exact q
 | brk=>exact q
 | cont=>exact q
theorem Inv.quiet{pins:List (Addr×Obj)}{σ:St}{H:Hp}{s:Shared}(I:Inv X pins σ H s):interactive X.env=false:=by simp[interactive,I.ok.kind]
def vo(te:TE):TS:=λD σ H=>te σ H λ_ H1=>D.nx σ H1
theorem kI(he:PE X e te)(hs:swapsWith e none pos.line X.env=pure false:=by rfl):PS X (.Expr e pos) (vo te):=by
 intro pins s σ H D I h
 exact wpAny_Expr_any (thn (he pins s σ H _ I h) λv s1 ⟨x,H1,I1,r1,q1⟩=>⟨σ,H1,I1,q1⟩) I.quiet hs
def tRet(te:TE):TS:=λD σ H=>te σ H D.rt
theorem tX(he:PE X e te):PS X (.Return (some e) pos) (tRet te):=by
 intro pins s σ H D I h
 exact wpAny_Return_some (thn (he pins s σ H _ I h) λv s1 ⟨x,H1,I1,r1,q1⟩=>⟨x,σ,H1,I1,r1,q1⟩)
def tIfS(c:TT)(t u:TS):TS:=λD σ H=>c σ H λb H1=>if b=true then t D σ H1 else u D σ H1
theorem ps_if{c:Expr}{a b:List Stmt}{tc:TT}(hc:PT X c tc)(ha:PSs X a t)(hb:PSs X b u):PS X (.If c a b pos) (tIfS tc t u):=by
 intro pins s σ H D I h
 refine wpAny_If (thn (hc pins s σ H _ I h) λd s1 ⟨H1,I1,q1⟩=>?_)
 cases d with
 | true=>exact ha pins s1 σ H1 D I1 q1
 | false=>exact hb pins s1 σ H1 D I1 q1
def tNever:TS:=λ_ _ _=>False
theorem ps_never:PS X st tNever:=λ_ _ _ _ _ _ h=>h.elim
end
abbrev TG:=V->St->Hp->(St->Hp->Prop)->Prop
abbrev TGs:=List V->St->Hp->(St->Hp->Prop)->Prop
def PG(X:Cx)(target:Expr)(t:TG):Prop :=
 ∀(pins:List (Addr×Obj))(s:Shared)(σ:St)(H:Hp)(v:V)(u:Value)(Q:St->Hp->Prop),Inv X pins σ H s->RelV v u->t v σ H Q ->
  wpAny (model X.prog X.w) X.A (assign target X.env u) (λ_ s'=>∃σ' H',Inv X pins σ' H' s'/\Q σ' H') X.xe s
def PGs(X:Cx)(ts:List Expr)(t:TGs):Prop :=
 ∀(pins:List (Addr×Obj))(s:Shared)(σ:St)(H:Hp)(vs:List V)(us:List Value)(Q:St->Hp->Prop),Inv X pins σ H s->Vals vs us->t vs σ H Q ->
  wpAny (model X.prog X.w) X.A (assignInOrder ((assignEach ts X.env).map (·.2)) us) (λ_ s'=>∃σ' H',Inv X pins σ' H' s'/\Q σ' H') X.xe s
abbrev TSet:=V->V->V->Hp->(Hp->Prop)->Prop
def PSet(X:Cx)(t:TSet):Prop :=
 ∀(pins:List (Addr×Obj))(s:Shared)(σ:St)(H:Hp)(o i v:V)(ov iv u:Value)(Q:Hp->Prop),Inv X pins σ H s->RelV o ov->RelV i iv->RelV v u->t o i v H Q ->
  wpAny (model X.prog X.w) X.A (setItem ov iv u) (λ_ s'=>∃H',Inv X pins σ H' s'/\Q H') X.xe s
section
variable{X:Cx}{pos:Pos}
def xg(i:Nat):TG:=λv σ H Q=>Q (σ.set i (some v)) H
theorem NZ{i:Nat}{x:Str}(hN:X.N.Nodup)(hi:X.N[i]?=some x)(hx:Loc X.env.scope x)(hf:X.fn x=true∨X.env.scope.names.lookup x=some .local:=by first | exact .inl rfl | exact .inr rfl | assumption):PG X (.Name x pos) (xg i):=by
 intro pins s σ H v u Q I r h
 exact wpAny_assign_Name (Ks I hN hi hx r (λs' I'=>⟨_,H,I',h⟩) hf)
def gNil:TGs:=λvs σ H Q=>vs=[]/\Q σ H
def gCons(t:TG)(u:TGs):TGs:=λvs σ H Q=>∃v r,vs=v::r/\t v σ H λσ' H'=>u r σ' H' Q
theorem pgs_nil:PGs X [] gNil:=by
 intro pins s σ H vs us Q I r h
 obtain⟨e,h⟩:=h
 subst e
 cases r
 exact assignInOrder_nil ⟨σ,H,I,h⟩
theorem eQ{e:Expr}{es:List Expr}{t:TG}{u:TGs}(h1:PG X e t)(h2:PGs X es u)
  (hs:(assignEach (e::es) X.env).map (·.2)=assign e X.env::(assignEach es X.env).map (·.2):=by rfl):PGs X (e::es) (gCons t u):=by
 intro pins s σ H vs us Q I r h
 obtain⟨v,vr,e1,h⟩:=h
 subst e1
 cases r with
 | cons r rr =>
  rw[hs]
  refine assignInOrder_cons (thn (h1 pins s σ H _ _ _ I r h) λ_ s1 ⟨σ1,H1,I1,q1⟩=>?_)
  exact h2 pins s1 σ1 H1 _ _ Q I1 rr q1
def gTup(K:Frag)(n:Nat)(t:TGs):TG:=λv σ H Q=>∃a xs,v=.ref a/\SqT K H a xs/\xs.length=n/\t xs σ H Q
theorem Ac{es:List Expr}{k:Nat}{t:TGs}{n:Nat}(hc:X.calm=true)(h:PGs X es t)
  (hn:(assignEach es X.env).length=n:=by rfl) (hst:(assignEach es X.env).findIdx? (·.1)=none:=by rfl):PG X (.Tuple es k pos) (gTup X.K n t):=by
 intro pins s σ H v u Q I r hw
 obtain⟨a,xs,e1,hq,hl,hw⟩:=hw
 subst e1
 cases r
 obtain⟨its,rv,ht,hz⟩:=I.tuple hq
 refine assign_Tuple_tuple (I.ok.hd hc) ht (by simp[hn,←hl,rv.length]) hst λh' hx=>?_
 have I1:Inv X pins σ H { s with heap:=h' }:=I.kept (t':=s.toks) λb o e=>hx b o (Nat.ne_of_lt (Heap.lt_size e)) e
 exact h pins _ σ H xs _ Q I1 (by simpa using rv) hw
def gSub(to ti:TE)(t:TSet):TG:=λv σ H Q=>to σ H λo H1=>ti σ H1 λi H2=>t o i v H2 λH3=>Q σ H3
theorem pg_sub{o i:Expr}{to ti:TE}{t:TSet}(ho:PE X o to)(hi:PE X i ti)(hs:PSet X t)
  (ha:∀v,assign (.Subscript o i pos) X.env v=(do
   let ov ←holding [v] (eval o X.env)
   let iv ←holding [v,ov] (eval i X.env)
   standAt pos
   holding [v,ov,iv] (setItem ov iv v)
   release [v,ov,iv] []):=by intro _;rfl):PG X (.Subscript o i pos) (gSub to ti t):=by
 intro pins s σ H v u Q I r h
 rw[ha]
 refine wpAny_bind (wpAny_holding (thn (ho pins s σ H _ I h) λov s1 ⟨x,H1,I1,r1,q1⟩=>?_))
 refine wpAny_bind (wpAny_holding (thn (hi pins s1 σ H1 _ I1 q1) λiv s2 ⟨y,H2,I2,r2,q2⟩=>?_))
 refine wpAny_bind (wpAny_standAt (wpAny_bind (wpAny_holding (thn (hs pins s2 σ H2 x y v ov iv u _ I2 r1 r2 r q2) λ_ s3 ⟨H3,I3,q3⟩=>?_))))
 exact wpAny_release ⟨σ,H3,I3,q3⟩
def tAsg(te:TE)(g:TG):TS:=λD σ H=>te σ H λx H1=>g x σ H1 D.nx
theorem ps_asg{tg e:Expr}{te:TE}{g:TG}(he:PE X e te)(hg:PG X tg g)(hs:swapsWithSole [tg] e pos.line X.env=pure false:=by rfl)(hw:swappedStores [tg] e X.env=pure none:=by rfl)
  (h1:(assignEach [tg] X.env).map (·.2)=[assign tg X.env]:=by rfl):PS X (.Assign [tg] e pos) (tAsg te g):=by
 intro pins s σ H D I h
 refine wpAny_Assign_stores (thn (he pins s σ H _ I h) λv s1 ⟨x,H1,I1,r1,q1⟩=>?_) hs hw
 rw[h1]
 exact thn (hg pins s1 σ H1 x v _ I1 r1 q1) λ_ s2 q=>q
theorem Mz{i:Nat}{x:Str}{e:Expr}{te:TE}{pos':Pos}(hN:X.N.Nodup)(hi:X.N[i]?=some x)(hx:Loc X.env.scope x)(he:PE X e te)(hs:swapsWith e (some (.Name x pos')) pos.line X.env=pure false:=by rfl)(hf:X.fn x=true∨X.env.scope.names.lookup x=some .local:=by first | exact .inl rfl | exact .inr rfl | assumption):
  PS X (.Assign [.Name x pos'] e pos) (tAsg te (xg i)):=by
 intro pins s σ H D I h
 refine wpAny_Assign_Name (thn (he pins s σ H _ I h) λv s1 ⟨y,H1,I1,r1,q1⟩=>?_) hs
 exact Ks I1 hN hi hx r1 (λs2 I2=>⟨_,H1,I2,q1⟩) hf
end
section
variable{X:Cx}{pos:Pos}
end
structure It where
 go:Nat->Hp->Prop
 yld:Nat->Hp->V->Hp->Prop
 stop:Nat->Hp->Prop
def xQ(X:Cx)(pins:List (Addr×Obj))(H:Hp)(b:Addr):Prop :=
 H b=none/\b≠X.env.locals/\b∉X.fs/\(b∈X.ex∨X.s₀.heap.objs.size<=b)/\(∀x c,X.env.cells.lookup x=some c->c≠b)/\∀p∈X.pn++pins,p.1≠b
theorem Inv.fpOk{X:Cx}{pins:List (Addr×Obj)}{σ:St}{H H':Hp}{s:Shared}{b:Addr}(I:Inv X pins σ H s)(hb:s.heap.objs.size<=b)(hn:H' b=none):xQ X pins H' b:=by
 refine⟨hn,Nat.ne_of_gt (Nat.lt_of_lt_of_le I.lt hb),I.nofs hb,.inr (Nat.le_trans I.sz hb),λx c e z=>?_,λp hp z=>?_⟩
 .obtain⟨v,q⟩:=I.cell x c e
  exact absurd (Nat.lt_of_lt_of_le q.lt (by rw[z];exact hb)) (Nat.lt_irrefl _)
 .exact absurd (Nat.lt_of_lt_of_le (Heap.lt_size (I.pin p hp).1) (by rw[z];exact hb)) (Nat.lt_irrefl _)
structure Turn(P:Program)(w:World)(K:Frag)(tg:Expr)(J:It)(fp:List Addr)(it:Addr)(tn:Nat->Heap->Prop):Prop where
 mem:it∈fp
 obj:∀i h,tn i h->∀b∈fp,∃o,h.get? b=some o/\∀v,o.data≠.cell v
 keep:∀i h h',tn i h->(∀b∈fp,∀o,h.get? b=some o->h'.get? b=some o)->tn i h'
 item:∀(X:Cx),X.prog=P->X.w=w->X.K=K->X.calm=true->∀(i:Nat)(pins:List (Addr×Obj))(s:Shared)(σ:St)(H:Hp)(E:Value->Shared->Prop),Inv X pins σ H s->(∀b∈fp,xQ X pins H b)->tn i s.heap->J.go i H ->
  wpAny (model P w) X.A (pyNext (.ref it)) (λr s1=>∃u,r=some u /\
   wpAny (model P w) X.A (letOwnedTupleGo tg (.ref it) u) (λ_ s2=>∃x H',Inv X pins σ H' s2/\RelV x u/\J.yld i H x H'/\tn (i+1) s2.heap/\∀b∈fp,H' b=none) E s1) E s
 done:∀(X:Cx),X.prog=P->X.w=w->X.K=K->X.calm=true->∀(i:Nat)(pins:List (Addr×Obj))(s:Shared)(σ:St)(H:Hp)(E:Value->Shared->Prop),Inv X pins σ H s->(∀b∈fp,xQ X pins H b)->tn i s.heap->J.stop i H ->
  wpAny (model P w) X.A (pyNext (.ref it)) (λr s1=>r=none/\Inv X pins σ H s1) E s
 self:∀(A:Around)(i:Nat)(s:Shared)(Q:Value->Shared->Prop)(E:Value->Shared->Prop),tn i s.heap->Q (.ref it) s->wpAny (model P w) A (pyIter (.ref it)) Q E s
abbrev TI:=St->Hp->(It->Hp->Prop)->Prop
def PIE(X:Cx)(pins:List (Addr×Obj))(σ:St)(tg:Expr)(R:It->Hp->Prop)(itv:Value)(s2:Shared):Prop :=
 ∃(it:Addr)(fp:List Addr)(tn:Nat->Heap->Prop)(J:It)(H':Hp),itv=.ref it/\Inv X pins σ H' s2/\Turn X.prog X.w X.K tg J fp it tn/\tn 0 s2.heap/\(∀b∈fp,xQ X pins H' b)/\R J H'
def PI(X:Cx)(tg iter:Expr)(wi:TI):Prop :=
 ∀(pins:List (Addr×Obj))(s:Shared)(σ:St)(H:Hp)(R:It->Hp->Prop),Inv X pins σ H s->wi σ H R ->
  wpAny (model X.prog X.w) X.A (eval iter X.env) (λv s1=>wpAny (model X.prog X.w) X.A (pyIter v) (PIE X pins σ tg R) X.xe s1) X.xe s
theorem JF{M:Model}{A:Around}{E:Value->Shared->Prop}{s:Shared}{tg:Expr}{it:Addr}{u:Value}{o:Obj}{n:String}{vs:Array Value}{Q:Unit->Shared->Prop}(ho:s.heap.get? it=some o)(hc:o.cls=.type n)(hd:o.data=.fields vs)
  (hn:["enumerate","zip","dict_itemiterator","dict_reverseitemiterator","odict_iterator","itertools.zip_longest","itertools.pairwise"].contains n=false) (hQ:Q () s):wpAny M A (letOwnedTupleGo tg (.ref it) u) Q E s:=by
 unfold letOwnedTupleGo
 cases tg <;> first
  | exact wpAny_pure hQ
  | (cases u <;> first
    | exact wpAny_pure hQ
    | (refine wpAny_bind (wpAny_load ho ?_)
       rw[hc,hd]
       show wpAny M A (if (["enumerate","zip","dict_itemiterator","dict_reverseitemiterator","odict_iterator","itertools.zip_longest","itertools.pairwise"].contains n && vs[0]?==some (rawInt _))=true then _ else _) Q E s
       rw[if_neg (by intro h;rw[hn,Bool.false_and] at h;cases h)]
       exact wpAny_pure hQ))
def Itl(K:Frag)(a:Addr):It :=
 ⟨λi H=>∃xs x,SqL K H a xs/\xs[i]?=some x,λi H x H'=>H'=H/\∀xs,SqL K H a xs->xs[i]?=some x,λi H=>∃xs,SqL K H a xs/\xs.length<=i⟩
def Itt(K:Frag)(a:Addr):It :=
 ⟨λi H=>∃xs x,SqT K H a xs/\xs[i]?=some x,λi H x H'=>H'=H/\∀xs,SqT K H a xs->xs[i]?=some x,λi H=>∃xs,SqT K H a xs/\xs.length<=i⟩
def Itr(lo:Int)(n:Nat):It:=⟨λi _=>i<n,λi H x H'=>H'=H/\x=.int (lo+i),λi _=>n<=i⟩
theorem Qe{P:Program}{w:World}{K:Frag}{tg:Expr}(a it:Addr):Turn P w K tg (Itl K a) [it] it (λi h=>h.IsListIter it a i) where
 mem:=by simp
 obj:=λi h st b hb=>by
  have e:b=it:=by simpa using hb
  subst e
  obtain⟨o,e,c,d⟩:=st
  exact⟨o,e,λv z=>by rw[d] at z;cases z⟩
 keep:=λi h h' st k=>st.at λo e=>k it (by simp) o e
 item:=by
  intro X hP hw hK hc i pins s σ H E I hf st hg
  subst hP hw hK
  obtain⟨xs,x,hq,hx⟩:=hg
  obtain⟨its,rv,p,hz⟩:=I.list hq
  obtain⟨u,hu,ru⟩:=rv.get hx
  obtain⟨f0,f1,f2,f3,f4,f5⟩:=hf it (by simp)
  refine wpAny_pyNext_list_item st p.isList (x:=u) (by simpa using hu) λh' st' sb=>?_
  have I1:Inv X pins σ H { s with heap:=h' }:=I.turned (t':=s.toks) (λb o hb e=>(sb.2 b hb).trans e) f0 f1 f3 f4 f5
  obtain⟨o,e,c,d⟩:=id st'
  exact⟨u,rfl,JF (s:={ s with heap:=h' }) e c d (by decide) ⟨x,H,I1,ru,⟨rfl,λys hy=>by rw[I.JR hy hq];exact hx⟩,st',λb hb=>(hf b hb).1⟩⟩
 done:=by
  intro X hP hw hK hc i pins s σ H E I hf st hg
  subst hP hw hK
  obtain⟨xs,hq,hx⟩:=hg
  obtain⟨its,rv,p,hz⟩:=I.list hq
  obtain⟨f0,f1,f2,f3,f4,f5⟩:=hf it (by simp)
  have hl:=rv.length
  exact wpAny_pyNext_list_end (I.ok.hd hc) st p.isList (by simp;omega) λh' eb=>⟨rfl,I.turned (t':=s.toks) (λb o hb e=>eb b o hb e) f0 f1 f3 f4 f5⟩
 self:=λ_ _ _ _ _ st h=>wpAny_pyIter_listiter st h
theorem Ng{P:Program}{w:World}{K:Frag}{tg:Expr}(a it:Addr):Turn P w K tg (Itt K a) [it] it (λi h=>h.IsTupleIter it a i) where
 mem:=by simp
 obj:=λi h st b hb=>by
  have e:b=it:=by simpa using hb
  subst e
  obtain⟨o,e,c,d⟩:=st
  exact⟨o,e,λv z=>by rw[d] at z;cases z⟩
 keep:=λi h h' st k=>st.at λo e=>k it (by simp) o e
 item:=by
  intro X hP hw hK hc i pins s σ H E I hf st hg
  subst hP hw hK
  obtain⟨xs,x,hq,hx⟩:=hg
  obtain⟨its,rv,p,hz⟩:=I.tuple hq
  obtain⟨u,hu,ru⟩:=rv.get hx
  obtain⟨f0,f1,f2,f3,f4,f5⟩:=hf it (by simp)
  refine wpAny_pyNext_tuple_item st (show s.heap.IsTuple a its.toArray from p) (x:=u) (by simpa using hu) λh' st' sb=>?_
  have I1:Inv X pins σ H { s with heap:=h' }:=I.turned (t':=s.toks) (λb o hb e=>(sb.2 b hb).trans e) f0 f1 f3 f4 f5
  obtain⟨o,e,c,d⟩:=id st'
  exact⟨u,rfl,JF (s:={ s with heap:=h' }) e c d (by decide) ⟨x,H,I1,ru,⟨rfl,λys hy=>by rw[I.Qc hy hq];exact hx⟩,st',λb hb=>(hf b hb).1⟩⟩
 done:=by
  intro X hP hw hK hc i pins s σ H E I hf st hg
  subst hP hw hK
  obtain⟨xs,hq,hx⟩:=hg
  obtain⟨its,rv,p,hz⟩:=I.tuple hq
  obtain⟨f0,f1,f2,f3,f4,f5⟩:=hf it (by simp)
  have hl:=rv.length
  exact wpAny_pyNext_tuple_end (I.ok.hd hc) st (show s.heap.IsTuple a its.toArray from p) (by simp;omega) λh' eb=>⟨rfl,I.turned (t':=s.toks) (λb o hb e=>eb b o hb e) f0 f1 f3 f4 f5⟩
 self:=λ_ _ _ _ _ st h=>wpAny_pyIter_tupleiter st h
theorem Nf{P:Program}{w:World}{K:Frag}{tg:Expr}(it:Addr)(lo:Int)(n:Nat):Turn P w K tg (Itr lo n) [it] it (λi h=>IsRangeIter h it (lo+(i:Nat)*1) ((n:Int) - (i:Nat)) 1) where
 mem:=by simp
 obj:=λi h st b hb=>by
  have e:b=it:=by simpa using hb
  subst e
  exact⟨_,st,λv z=>by
   have z':Data.fields _=Data.cell v:=z
   cases z'⟩
 keep:=λi h h' st k=>k it (by simp) _ st
 item:=by
  intro X hP hw hK hc i pins s σ H E I hf st hg
  subst hP hw hK
  obtain⟨f0,f1,f2,f3,f4,f5⟩:=hf it (by simp)
  have W:=Walks.range (prog:=X.prog) (w:=X.w) (I.ok.hd hc) it lo 1 n
  refine W.item i s _ _ hg st λv h' tk hv st' kk=>?_
  obtain⟨t,rfl⟩:=hv
  have I1:Inv X pins σ H { s with heap:=h',toks:=tk }:=I.turned (λb o hb e=>kk b o (by simpa using hb) e) f0 f1 f3 f4 f5
  refine⟨_,rfl,JF (s:={ s with heap:=h',toks:=tk }) (n:="range_iterator") st' rfl rfl (by decide) ⟨.int (lo+i),H,I1,⟨t,?_⟩,⟨rfl,rfl⟩,st',λb hb=>(hf b hb).1⟩⟩
  rw[Int.mul_one]
 done:=by
  intro X hP hw hK hc i pins s σ H E I hf st hg
  subst hP hw hK
  obtain⟨f0,f1,f2,f3,f4,f5⟩:=hf it (by simp)
  exact wpAny_pyNext_range_end (I.ok.hd hc) st (by have:n<=i:=hg;omega) λh' eb=>⟨rfl,I.turned (t':=s.toks) (λb o hb e=>eb b o hb e) f0 f1 f3 f4 f5⟩
 self:=λ_ _ _ _ _ st h=>wpAny_pyIter_rangeiter st h
end L2
namespace L2
open PySem PySem.Spec PyProof.Rows
section
variable{X:Cx}{tg:Expr}
def iList(K:Frag)(tl:TE):TI:=λσ H R=>tl σ H λx H1=>∃a,x=.ref a/\(∃xs,SqL K H1 a xs)/\R (Itl K a) H1
def iTup(K:Frag)(tl:TE):TI:=λσ H R=>tl σ H λx H1=>∃a,x=.ref a/\(∃xs,SqT K H1 a xs)/\R (Itt K a) H1
theorem pi_list{l:Expr}{tl:TE}(hl:PE X l tl):PI X tg l (iList X.K tl):=by
 intro pins s σ H R I h
 refine thn (hl pins s σ H _ I h) λv s1 ⟨x,H1,I1,r1,q1⟩=>?_
 obtain⟨a,e,⟨xs,hq⟩,q⟩:=q1
 subst e
 cases r1
 obtain⟨its,rv,p,hz⟩:=I1.list hq
 refine wpAny_pyIter_list p.isList ?_
 refine⟨s1.heap.objs.size,[s1.heap.objs.size],_,_,H1,rfl,I1.kept (t':=s1.toks) λb o e=>Heap.get?_push_of_some _ e,Qe a _,⟨_,Heap.get?_push_size _ rfl,rfl,rfl⟩,λb hb=>?_,q⟩
 have e:b=s1.heap.objs.size:=by simpa using hb
 subst e
 exact I1.fpOk (Nat.le_refl _) (I1.hok.fresh (Nat.le_refl _))
theorem pi_tup{l:Expr}{tl:TE}(hl:PE X l tl):PI X tg l (iTup X.K tl):=by
 intro pins s σ H R I h
 refine thn (hl pins s σ H _ I h) λv s1 ⟨x,H1,I1,r1,q1⟩=>?_
 obtain⟨a,e,⟨xs,hq⟩,q⟩:=q1
 subst e
 cases r1
 obtain⟨its,rv,p,hz⟩:=I1.tuple hq
 refine wpAny_pyIter_tuple (show s1.heap.IsTuple a its.toArray from p) ?_
 refine⟨s1.heap.objs.size,[s1.heap.objs.size],_,_,H1,rfl,I1.kept (t':=s1.toks) λb o e=>Heap.get?_push_of_some _ e,Ng a _,⟨_,Heap.get?_push_size _ rfl,rfl,rfl⟩,λb hb=>?_,q⟩
 have e:b=s1.heap.objs.size:=by simpa using hb
 subst e
 exact I1.fpOk (Nat.le_refl _) (I1.hok.fresh (Nat.le_refl _))
theorem J7{pins:List (Addr×Obj)}{σ:St}{H:Hp}{s:Shared}{R:It->Hp->Prop}{E:Value->Shared->Prop}{lo hi:Int}{t u v:Tok}{tk:Nat}(I:Inv X pins σ H s)(h1:-(2 ^ 62)<=lo)(h2:lo<2 ^ 62)(h3:-(2 ^ 62)<=hi)(h4:hi<2 ^ 62)
  (q:R (Itr lo (hi - lo).toNat) H):wpAny (model X.prog X.w) X.A (pyIter (.ref s.heap.objs.size)) (PIE X pins σ tg R) E { s with heap:=s.heap.push { cls:=.type "range",data:=.fields #[.int lo t,.int hi u,.int 1 v] },toks:=tk }:=by
 refine wpAny_pyIter_range (IsRange.new ..) (small_one h1 h2 h3 h4) ?_
 have I1:Inv X pins σ H { s with heap:=s.heap.push { cls:=.type "range",data:=.fields #[.int lo t,.int hi u,.int 1 v] },toks:=tk }:=I.kept λb o e=>Heap.get?_push_of_some _ e
 refine⟨(s.heap.push { cls:=.type "range",data:=.fields #[.int lo t,.int hi u,.int 1 v] }).objs.size,[(s.heap.push { cls:=.type "range",data:=.fields #[.int lo t,.int hi u,.int 1 v] }).objs.size],_,_,H,rfl,
  I1.kept (t':=tk) λb o e=>Heap.get?_push_of_some _ e,Nf _ lo (hi - lo).toNat,?_,λb hb=>?_,q⟩
 .have e1:lo+((0:Nat):Int)*1=lo:=by simp
  have e2:(((hi - lo).toNat:Nat):Int) - ((0:Nat):Int)=Builtin.Range.rangeSize lo hi 1:=by rw[rangeSize_one];split <;> omega
  show IsRangeIter _ _ (lo+((0:Nat):Int)*1) ((((hi - lo).toNat:Nat):Int) - ((0:Nat):Int)) 1
  rw[e1,e2]
  exact Heap.get?_push_size _ rfl
 .have e:b=(s.heap.push { cls:=.type "range",data:=.fields #[.int lo t,.int hi u,.int 1 v] }).objs.size:=by simpa using hb
  subst e
  exact I1.fpOk (Nat.le_refl _) (I1.hok.fresh (Nat.le_refl _))
def iRng1(ta:TA):TI:=λσ H R=>ta σ H λvs H1=>∃j:Int,vs=[.int j]/\-(2 ^ 62)<=j/\j<2 ^ 62/\R (Itr 0 j.toNat) H1
def iRng2(ta:TA):TI:=λσ H R=>ta σ H λvs H1=>∃i j:Int,vs=[.int i,.int j]/\(-(2 ^ 62)<=i/\i<2 ^ 62/\-(2 ^ 62)<=j/\j<2 ^ 62)/\R (Itr i (j - i).toNat) H1
theorem Py{a:Expr}{ta:TA}{p pos:Pos}(hg:Gl X "range")(hm:X.mg "range"=none)(ha:PA X [a] ta)(hs:starEach [a] X.env=[(false,eval a X.env)]:=by rfl):PI X tg (.Call (.Name "range" p) [a] [] pos) (iRng1 ta):=by
 intro pins s σ H R I h
 refine Call_ (qC I hg hm boot_range (PyProof.Rows.callWith_type1 (thn (ha pos pins s σ H _ I h) λus s1 ⟨vs,H1,I1,r1,q1⟩=>?_) hs rfl))
 obtain⟨j,e,q1,q2,q⟩:=q1
 subst e
 cases r1 with
 | cons r rr =>
  cases rr
  obtain⟨t,rfl⟩:=r
  exact call_range_1 (J7 I1 (by omega) (by omega) q1 q2 (by simpa using q))
theorem Dw{a b:Expr}{ta:TA}{p pos:Pos}(hg:Gl X "range")(hm:X.mg "range"=none)(ha:PA X [a,b] ta)(hs:starEach [a,b] X.env=[(false,eval a X.env),(false,eval b X.env)]:=by rfl)(hs2:starEach [b] X.env=[(false,eval b X.env)]:=by rfl):
  PI X tg (.Call (.Name "range" p) [a,b] [] pos) (iRng2 ta):=by
 intro pins s σ H R I h
 refine Call_ (qC I hg hm boot_range (PyProof.Rows.callWith_type1 (thn (ha pos pins s σ H _ I h) λus s1 ⟨vs,H1,I1,r1,q1⟩=>?_) (by rw[hs,hs2]) (by rw[hs2];rfl)))
 obtain⟨i,j,e,⟨q1,q2,q3,q4⟩,q⟩:=q1
 subst e
 cases r1 with
 | cons r rr =>
  cases rr with
  | cons r' rr =>
   cases rr
   obtain⟨t,rfl⟩:=r
   obtain⟨t',rfl⟩:=r'
   exact call_range_2 (J7 I1 q1 q2 q3 q4 q)
def tFor(wi:TI)(g:TG)(tb:TS):TS:=λD σ H=>wi σ H λJ H1=>∃W:Nat->Nat->St->Hp->Prop,(∃m,W 0 m σ H1)/\∀i m σ H,W i m σ H ->
 (J.stop i H/\D.nx σ H)∨(J.go i H/\∃N:St->Hp->Prop,(∀σ' H',N σ' H'->∃m',m'<m/\W (i+1) m' σ' H')/\∀x H',J.yld i H x H'->g x σ H' λσ2 H2=>tb { D with nx:=N,ct:=N,bk:=D.nx } σ2 H2)
def Ae(fp:List Addr)(h:Heap):List (Addr×Obj):=fp.filterMap λb=>(h.get? b).map λo=>(b,o)
theorem m9{fp:List Addr}{h:Heap}{b:Addr}{o:Obj}(hb:b∈fp)(e:h.get? b=some o):(b,o)∈Ae fp h:=List.mem_filterMap.mpr ⟨b,hb,by rw[e];rfl⟩
theorem Pu{fp:List Addr}{h:Heap}{p:Addr×Obj}(hp:p∈Ae fp h):p.1∈fp/\h.get? p.1=some p.2:=by
 obtain⟨b,hb,e⟩:=List.mem_filterMap.mp hp
 cases q:h.get? b with
 | none=>rw[q] at e;cases e
 | some o =>
  rw[q] at e
  have e':(b,o)=p:=Option.some.inj e
  subst e'
  exact⟨hb,q⟩
theorem Inv.pinned{pins:List (Addr×Obj)}{σ:St}{H:Hp}{s:Shared}{fp:List Addr}(I:Inv X pins σ H s)(hf:∀b∈fp,xQ X pins H b)(ho:∀b∈fp,∃o,s.heap.get? b=some o/\∀v,o.data≠.cell v):Inv X (pins++Ae fp s.heap) σ H s :=
 I.N5 λp hp=>(List.mem_append.mp hp).elim (λz=>I.pin p (List.mem_append_right _ z)) λz=>by
  obtain⟨hb,e⟩:=Pu z
  obtain⟨f0,f1,f2,_⟩:=hf p.1 hb
  obtain⟨o,e',d⟩:=ho p.1 hb
  rw[e] at e';cases e'
  exact⟨e,f0,f1,f2,d⟩
theorem Inv.vy{pins pl:List (Addr×Obj)}{σ:St}{H:Hp}{s:Shared}(I:Inv X (pins++pl) σ H s):Inv X pins σ H s:=I.N5 λp hp=>I.pin p (List.mem_append_right _ (List.mem_append_left _ hp))
theorem ps_for{iter:Expr}{body:List Stmt}{wi:TI}{g:TG}{tb:TS}{pos:Pos}(hp:PassesOwn (model X.prog X.w) X.A X.env X.xe)(hc:X.calm=true)(hi:PI X tg iter wi)(hg:PG X tg g)(hb:PSs X body tb)
  (hs:∀x,foldedSetIterable iter X.env x=pure x:=by intro _;rfl):PS X (.For tg iter body [] pos) (tFor wi g tb):=by
 intro pins s σ H D I h
 refine wpAny_For (thn (hi pins s σ H _ I h) λv s1 h1=>thn h1 λitv s2 h2=>?_) hs
 obtain⟨it,fp,tn,J,H2,e,I2,T,st2,f2,W,⟨m0,w0⟩,turn⟩:=h2
 subst e
 have stat:∀{H':Hp},(∀b∈fp,H' b=none)->∀b∈fp,xQ X pins H' b:=λhn b hb=>⟨hn b hb,(f2 b hb).2⟩
 refine codeAny_forLoop_any (λn s'=>∃i σ' H',Inv X pins σ' H' s'/\tn i s'.heap/\(∀b∈fp,H' b=none)/\W i n σ' H') ?_ m0 ⟨0,σ,H2,I2,st2,λb hb=>(f2 b hb).1,w0⟩
 rintro n s3 ⟨i,σ3,H3,I3,st3,fr3,w3⟩
 rcases turn i n σ3 H3 w3 with⟨stop,qn⟩| ⟨go,N,hN,step⟩
 .refine wpAny_passesOwn hp (thn (T.done X rfl rfl rfl hc i pins s3 σ3 H3 X.xe I3 (stat fr3) st3 stop) λr s4 ⟨hr,I4⟩=>?_)
  subst hr
  exact wpAny_execs_nil ⟨σ3,H3,I4,qn⟩
 .refine wpAny_passesOwn hp (thn (T.item X rfl rfl rfl hc i pins s3 σ3 H3 X.xe I3 (stat fr3) st3 go) λr s4 ⟨u,hr,h4⟩=>?_)
  subst hr
  refine wpAny_passesOwn hp (thn h4 λ_ s5 ⟨x,H5,I5,r5,y5,st5,fr5⟩=>?_)
  have I5':=I5.pinned (stat fr5) (T.obj _ _ st5)
  refine wpAny_passesOwn hp (thn (hg _ s5 σ3 H5 x u _ I5' r5 (step x H5 y5)) λ_ s6 ⟨σ6,H6,I6,q6⟩=>?_)
  refine wpAny_passesOwn hp (thn (hb _ s6 σ6 H6 _ I6 q6) λf s7 q7=>?_)
  have again:∀{σ7:St}{H7:Hp},Inv X (pins++Ae fp s5.heap) σ7 H7 s7->N σ7 H7->∃m,m<n/\∃i σ' H',Inv X pins σ' H' s7/\tn i s7.heap/\(∀b∈fp,H' b=none)/\W i m σ' H':=fun{σ7 H7} I7 n7=>by
   obtain⟨m',hm,w7⟩:=hN σ7 H7 n7
   refine⟨m',hm,i+1,σ7,H7,I7.vy,T.keep _ _ _ st5 λb hb o e=>(I7.pin (b,o) (List.mem_append_right _ (List.mem_append_right _ (m9 hb e)))).1,λb hb=>?_,w7⟩
   obtain⟨o,e,d⟩:=T.obj _ _ st5 b hb
   exact(I7.pin (b,o) (List.mem_append_right _ (List.mem_append_right _ (m9 hb e)))).2.1
  cases f with
  | next=>obtain⟨σ7,H7,I7,n7⟩:=q7;exact again I7 n7
  | cont=>obtain⟨σ7,H7,I7,n7⟩:=q7;exact again I7 n7
  | brk=>obtain⟨σ7,H7,I7,q7⟩:=q7;exact⟨σ7,H7,I7.vy,q7⟩
  | ret v=>obtain⟨x7,σ7,H7,I7,r7,q7⟩:=q7;exact⟨x7,σ7,H7,I7.vy,r7,q7⟩
end
end L2
namespace L2
open PySem PySem.Spec PyProof.Rows
abbrev R2:=V->V->Hp->VK->Prop
def OpR(X:Cx)(f:Value->Value->Sem Value)(r:R2):Prop :=
 ∀(pins:List (Addr×Obj))(s:Shared)(σ:St)(H:Hp)(x y:V)(v u:Value)(Q:VK),Inv X pins σ H s->RelV x v->RelV y u->r x y H Q ->
  wpAny (model X.prog X.w) X.A (f v u) (EP X pins σ Q) X.xe s
def iM(X:Cx)(f:Value)(r:List V->Hp->VK->Prop):Prop :=
 ∀(pins:List (Addr×Obj))(s:Shared)(σ:St)(H:Hp)(xs:List V)(us:List Value)(Q:VK),Inv X pins σ H s->Vals xs us->r xs H Q ->
  wpAny (model X.prog X.w) X.A (call f us) (EP X pins σ Q) X.xe s
def TruR(X:Cx)(r:V->Hp->(Bool->Hp->Prop)->Prop):Prop :=
 ∀(pins:List (Addr×Obj))(s:Shared)(σ:St)(H:Hp)(x:V)(v:Value)(Q:Bool->Hp->Prop),Inv X pins σ H s->RelV x v->r x H Q ->
  wpAny (model X.prog X.w) X.A (truthy v) (TP X pins σ Q) X.xe s
def tOp(r:R2)(ta tb:TE):TE:=λσ H Q=>ta σ H λx H1=>tb σ H1 λy H2=>r x y H2 Q
def rI(C:Int->Int->Prop)(g:Int->Int->V):R2:=λx y H Q=>∃i j,x=.int i/\y=.int j/\C i j/\Q (g i j) H
def rI0(g:Int->Int->V):R2:=λx y H Q=>∃i j,x=.int i/\y=.int j/\Q (g i j) H
section
variable{X:Cx}{a b c:Expr}{ta tb tc:TE}{pos:Pos}
theorem binT(ha:PE X a ta)(hb:PE X b tb){pins:List (Addr×Obj)}{s:Shared}{σ:St}{H:Hp}{R:V->V->Hp->Prop}(I:Inv X pins σ H s)
  (h:ta σ H λx H1=>tb σ H1 λy H2=>R x y H2) {Q:Value->Shared->Prop} {f:Value->Value->Sem Value}
  (hf:∀v u s2 x y H2,Inv X pins σ H2 s2->RelV x v->RelV y u->R x y H2->wpAny (model X.prog X.w) X.A (f v u) Q X.xe s2) :
  wpAny (model X.prog X.w) X.A (eval a X.env) (λv s₁=>wpAny (model X.prog X.w) X.A (eval b X.env) (λu s₂=>wpAny (model X.prog X.w) X.A (f v u) Q X.xe s₂) X.xe s₁) X.xe s:=by
 refine thn (ha pins s σ H _ I h) λv s1 ⟨x,H1,I1,r1,q1⟩=>?_
 refine thn (hb pins s1 σ H1 _ I1 q1) λu s2 ⟨y,H2,I2,r2,q2⟩=>?_
 exact hf v u s2 x y H2 I2 r1 r2 q2
theorem J6{op:Operator}{r:R2}(ho:OpR X (binaryOp op) r)(ha:PE X a ta)(hb:PE X b tb):PE X (.BinOp a op b pos) (tOp r ta tb):=by
 intro pins s σ H Q I h
 exact wpAny_BinOp (binT ha hb I h λv u s2 x y H2 I2 rx ry q=>ho pins s2 σ H2 x y v u Q I2 rx ry q)
theorem opI{f:Value->Value->Sem Value}{C:Int->Int->Prop}{g:Int->Int->Int}
  (rule:∀(i j:Int)(t u:Tok)(s:Shared)(Q:Value->Shared->Prop)(E:Value->Shared->Prop),C i j->Q (.int (g i j) s.toks) { s with toks:=s.toks+1 }->wpAny (model X.prog X.w) X.A (f (.int i t) (.int j u)) Q E s) :
  OpR X f (rI C λi j=>.int (g i j)):=by
 intro pins s σ H x y v u Q I rx ry h
 obtain⟨i,j,rfl,rfl,hc,q⟩:=h
 obtain⟨t,rfl⟩:=rx
 obtain⟨t',rfl⟩:=ry
 exact rule i j t t' s _ _ hc ⟨.int (g i j),H,I.tok _,⟨_,rfl⟩,q⟩
theorem opI0{f:Value->Value->Sem Value}{g:Int->Int->Int}
  (rule:∀(i j:Int)(t u:Tok)(s:Shared)(Q:Value->Shared->Prop)(E:Value->Shared->Prop),Q (.int (g i j) s.toks) { s with toks:=s.toks+1 }->wpAny (model X.prog X.w) X.A (f (.int i t) (.int j u)) Q E s) :
  OpR X f (rI0 λi j=>.int (g i j)):=by
 intro pins s σ H x y v u Q I rx ry h
 obtain⟨i,j,rfl,rfl,q⟩:=h
 obtain⟨t,rfl⟩:=rx
 obtain⟨t',rfl⟩:=ry
 exact rule i j t t' s _ _ ⟨.int (g i j),H,I.tok _,⟨_,rfl⟩,q⟩
theorem opB0{f:Value->Value->Sem Value}{g:Int->Int->Bool}
  (rule:∀(i j:Int)(t u:Tok)(s:Shared)(Q:Value->Shared->Prop)(E:Value->Shared->Prop),Q (.bool (g i j)) s->wpAny (model X.prog X.w) X.A (f (.int i t) (.int j u)) Q E s) :
  OpR X f (rI0 λi j=>.bl (g i j)):=by
 intro pins s σ H x y v u Q I rx ry h
 obtain⟨i,j,rfl,rfl,q⟩:=h
 obtain⟨t,rfl⟩:=rx
 obtain⟨t',rfl⟩:=ry
 exact rule i j t t' s _ _ ⟨.bl (g i j),H,I,rfl,q⟩
def CDiv(i j:Int):Prop:=0<j/\j<1073741824
def iz(i j:Int):Prop:=(-(2 ^ 64)<i/\i<2 ^ 64)∨(-(2 ^ 64)<j/\j<2 ^ 64)
theorem iz.ok{i j:Int}(h:iz i j):IntMulOk i j:=by
 rcases h with⟨h1,h2⟩| ⟨h1,h2⟩
 .exact .of_left (intBits_le_64 h1 h2)
 .exact .of_right (intBits_le_64 h1 h2)
theorem op_add:OpR X (binaryOp .Add) (rI0 λi j=>.int (i+j)):=opI0 λ_ _ _ _ _ _ _ q=>add_int q
theorem op_mul:OpR X (binaryOp .Mult) (rI iz λi j=>.int (i*j)):=opI λ_ _ _ _ _ _ _ hc q=>mul_int q hc.ok
theorem op_fdiv:OpR X (binaryOp .FloorDiv) (rI CDiv λi j=>.int (i / j)):=opI λi j _ _ _ _ _ hc q=>by
 have h1:(0:Int)<j:=hc.1
 have h2:j<1073741824:=hc.2
 exact floordiv_int (by omega) (by rw[Int.fdiv_eq_ediv_of_nonneg i (by omega)];exact q) (.inl (PyProof.noPylong_small (by omega)))
theorem op_mod:OpR X (binaryOp .Mod) (rI (λ_ j=>0<j) λi j=>.int (i % j)):=opI λi j _ _ _ _ _ hc q=>by
 have h1:(0:Int)<j:=hc
 exact mod_int' (by omega) (by rw[Int.fmod_eq_emod_of_nonneg i (by omega)];exact q)
end
section
variable{X:Cx}{a b c:Expr}{ta tb tc:TE}{pos:Pos}
theorem Lz{pins:List (Addr×Obj)}{σ:St}{H:Hp}{s:Shared}{Q:VK}{k k':Bool}(I:Inv X pins σ H s)(q:Q (.bl k) H)(e:k=k'):EP X pins σ Q (.bool k') s:=by
 subst e
 exact⟨.bl k,H,I,rfl,q⟩
theorem op_lt:OpR X (compareOp .Lt) (rI0 λi j=>.bl (decide (i<j))):=opB0 λ_ _ _ _ _ _ _ q=>lt_int q
theorem op_le:OpR X (compareOp .LtE) (rI0 λi j=>.bl (decide (i<=j))):=opB0 λ_ _ _ _ _ _ _ q=>le_int q
theorem op_gt:OpR X (compareOp .Gt) (rI0 λi j=>.bl (decide (j<i))):=opB0 λ_ _ _ _ _ _ _ q=>gt_int q
theorem Dv:OpR X (compareOp .In) (λx y H Q=>∃i j,x=.str i/\y=.str j/\Q (.bl (!(Builtin.Str.occurrences j i 0 j.length 1).isEmpty)) H):=by
 intro pins s σ H x y v u Q I rx ry h
 obtain⟨i,j,rfl,rfl,q⟩:=h
 obtain⟨t,rfl⟩:=rx
 obtain⟨t',rfl⟩:=ry
 exact in_str (Lz I q rfl)
theorem op_isN:OpR X (compareOp .Is) (λx y H Q=>y=.non/\Q (.bl (decide (x=.non))) H):=by
 intro pins s σ H x y v u Q I rx ry h
 obtain⟨rfl,q⟩:=h
 cases ry
 refine is_none_gen (Lz I q ?_)
 cases x <;> first
  | (cases rx;rfl)
  | (obtain⟨t,rfl⟩:=rx;rfl)
theorem Hg:OpR X (compareOp .NotIn) (λx y H Q=>∃i j,x=.str i/\y=.str j/\Q (.bl (!(!(Builtin.Str.occurrences j i 0 j.length 1).isEmpty))) H):=by
 intro pins s σ H x y v u Q I rx ry h
 obtain⟨i,j,rfl,rfl,q⟩:=h
 obtain⟨t,rfl⟩:=rx
 obtain⟨t',rfl⟩:=ry
 exact notIn_str (Lz I q rfl)
theorem OpR.or{f:Value->Value->Sem Value}{r r':R2}(h:OpR X f r)(h':OpR X f r'):OpR X f (λx y H Q=>r x y H Q∨r' x y H Q):=by
 intro pins s σ H x y v u Q I rx ry q
 rcases q with q | q
 .exact h pins s σ H x y v u Q I rx ry q
 .exact h' pins s σ H x y v u Q I rx ry q
theorem tU(b:Expr){op:CmpOp}(h:op≠.In:=by decide)(h2:op≠.NotIn:=by decide):behindInMarks op b=false:=by
 have e1:(op==CmpOp.In)=false:=by cases op <;> first | rfl | exact absurd rfl h
 have e2:(op==CmpOp.NotIn)=false:=by cases op <;> first | rfl | exact absurd rfl h2
 cases b <;> simp[behindInMarks,e1,e2]
theorem Hi{op:CmpOp}{r:R2}(ho:OpR X (compareOp op) r)(ha:PE X a ta)(hb:PE X b tb)(hm:behindInMarks op b=false):PE X (.Compare a [op] [b] pos) (tOp r ta tb):=by
 intro pins s σ H Q I h
 exact wpAny_Compare1 (binT ha hb I h λv u s2 x y H2 I2 rx ry q=>ho pins s2 σ H2 x y v u Q I2 rx ry q) hm
def tTest(t:TE):TT:=λσ H Q=>t σ H λx H'=>∃k,x=.bl k/\Q k H'
theorem nD{op:CmpOp}{r:R2}(ho:OpR X (compareOp op) r)(ha:PE X a ta)(hb:PE X b tb)(hm:behindInMarks op b=false):PT X (.Compare a [op] [b] pos) (tTest (tOp r ta tb)):=by
 intro pins s σ H Q I h
 refine wpAny_isTrue_Compare1 (thn (ha pins s σ H _ I h) λv s1 ⟨x,H1,I1,r1,q1⟩=>thn (hb pins s1 σ H1 _ I1 q1) λu s2 ⟨y,H2,I2,r2,q2⟩ =>
  thn (ho pins s2 σ H2 x y v u _ I2 r1 r2 q2) λc s3 ⟨z,H3,I3,r3,k,e,q3⟩=>?_) hm
 subst e
 cases r3
 exact wpAny_truthy_bool ⟨H3,I3,q3⟩
def Am(r r':R2)(ta tb tc:TE):TE:=λσ H Q=>ta σ H λx H1=>tb σ H1 λy H2=>r x y H2 λz H3=>∃k,z=.bl k /\
 (if k=true then tc σ H3 λw' H4=>r' y w' H4 Q else Q (.bl false) H3)
theorem pe_chain{op op':CmpOp}{r r':R2}(ho:OpR X (compareOp op) r)(ho':OpR X (compareOp op') r')(ha:PE X a ta)(hb:PE X b tb)(hc:PE X c tc)
  (hm:lastMarks [op,op'] [b,c]=false:=by with_unfolding_all rfl):PE X (.Compare a [op,op'] [b,c] pos) (Am r r' ta tb tc):=by
 intro pins s σ H Q I h
 refine Compare_chain (thn (ha pins s σ H _ I h) λv s1 ⟨x,H1,I1,r1,q1⟩=>chain_link (thn (hb pins s1 σ H1 _ I1 q1) λu s2 ⟨y,H2,I2,r2,q2⟩ =>
  thn (ho pins s2 σ H2 x y v u _ I2 r1 r2 q2) λd s3 ⟨z,H3,I3,r3,k,e,q3⟩=>?_)) hm
 subst e
 cases r3
 refine wpAny_truthy_bool ?_
 cases k with
 | false=>exact ite_ff ⟨.bl false,H3,I3,rfl,q3⟩
 | true=>exact ite_tt (chain_last (thn (hc pins s3 σ H3 _ I3 q3) λw' s4 ⟨z',H4,I4,r4,q4⟩=>ho' pins s4 σ H4 y z' u w' Q I4 r2 r4 q4))
theorem pt_chain{op op':CmpOp}{r r':R2}(ho:OpR X (compareOp op) r)(ho':OpR X (compareOp op') r')(ha:PE X a ta)(hb:PE X b tb)(hc:PE X c tc)
  (hm:lastMarks [op,op'] [b,c]=false:=by with_unfolding_all rfl):PT X (.Compare a [op,op'] [b,c] pos) (tTest (Am r r' ta tb tc)):=by
 intro pins s σ H Q I h
 refine isTrue_chain (thn (ha pins s σ H _ I h) λv s1 ⟨x,H1,I1,r1,q1⟩=>test_link (thn (hb pins s1 σ H1 _ I1 q1) λu s2 ⟨y,H2,I2,r2,q2⟩ =>
  thn (ho pins s2 σ H2 x y v u _ I2 r1 r2 q2) λd s3 ⟨z,H3,I3,r3,k,e,q3⟩=>?_)) hm
 subst e
 cases r3
 refine wpAny_truthy_bool ?_
 cases k with
 | false =>
  obtain⟨k',e',q'⟩:=q3
  cases e'
  exact ite_ff ⟨H3,I3,q'⟩
 | true =>
  refine ite_tt (test_last (thn (hc pins s3 σ H3 _ I3 q3) λw' s4 ⟨z',H4,I4,r4,q4⟩=>thn (ho' pins s4 σ H4 y z' u w' _ I4 r2 r4 q4) λd' s5 ⟨z2,H5,I5,r5,k2,e2,q5⟩=>?_))
  subst e2
  cases r5
  exact wpAny_truthy_bool ⟨H5,I5,q5⟩
def TruV(K:Frag)(x:V)(H:Hp)(k:Bool):Prop :=
 match x with
 | .non=>k=false
 | .bl b=>k=b
 | .int i=>k=(i != 0)
 | .str y=>y.length<=sizeLine/\k=((y.length:Int) != 0)
 | .byt y=>y.size<=sizeLine/\k=((y.size:Int) != 0)
 | .ref p=>(∃xs,SqL K H p xs/\k=!xs.isEmpty)∨(∃xs,SqT K H p xs/\k=!xs.isEmpty)∨∃kvs,H p=some (.dK kvs)/\k=!kvs.isEmpty
 | _=>False
theorem LQ{κ:Type}{kvs:List (κ×V)}{vs:List (κ×Value)}(r:KV kvs vs):(!vs.isEmpty)=!kvs.isEmpty:=by
 cases r <;> rfl
theorem zR{xs:List V}{its:List Value}(r:Vals xs its):(!its.toArray.isEmpty)=!xs.isEmpty:=by
 cases r <;> simp
theorem tR:(sizeLine:Nat)<2 ^ 63:=by rw[sizeLine_eq];decide
theorem tru_ok:TruR X (λx H Q=>∃k,TruV X.K x H k/\Q k H):=by
 intro pins s σ H x v Q I rx h
 obtain⟨k,e,q⟩:=h
 have hl:=tR
 have hs:sizeLine=16777216:=sizeLine_eq
 cases x with
 | non =>
  cases rx
  have e':k=false:=e
  subst e'
  exact truthy_none ⟨H,I,q⟩
 | bl b =>
  cases rx
  have e':k=b:=e
  subst e'
  exact wpAny_truthy_bool ⟨H,I,q⟩
 | int i =>
  obtain⟨t,rfl⟩:=rx
  have e':k=(i != 0):=e
  subst e'
  exact PySem.P.truthy_int ⟨H,I,q⟩
 | str y =>
  obtain⟨t,rfl⟩:=rx
  obtain⟨hy,e'⟩:y.length<=sizeLine/\k=((y.length:Int) != 0):=e
  subst e'
  exact PySem.P.truthy_str (by omega) ⟨H,I.tok _,q⟩
 | byt y =>
  obtain⟨t,rfl⟩:=rx
  obtain⟨hy,e'⟩:y.size<=sizeLine/\k=((y.size:Int) != 0):=e
  subst e'
  exact PySem.W.truthy_bytes (by omega) ⟨H,I.tok _,q⟩
 | ref p =>
  cases rx
  have e':(∃xs,SqL X.K H p xs/\k=!xs.isEmpty)∨(∃xs,SqT X.K H p xs/\k=!xs.isEmpty)∨∃kvs,H p=some (.dK kvs)/\k=!kvs.isEmpty:=e
  rcases e' with⟨xs,hx,e'⟩| ⟨xs,hx,e'⟩| ⟨kvs,hx,e'⟩
  .subst e'
   obtain⟨its,r,pl,hz⟩:=I.list hx
   have hlen:=r.length
   exact wpAny_truthy_list pl.isList (by simp only[List.size_toArray];omega) ⟨H,I.tok _,by rw[zR r];exact q⟩
  .subst e'
   obtain⟨its,r,pl,hz⟩:=I.tuple hx
   have hlen:=r.length
   exact truthy_tuple pl (by simp only[List.size_toArray];omega) ⟨H,I.tok _,by rw[zR r];exact q⟩
  .subst e'
   obtain⟨hz,hS,vs,r,m⟩:kvs.length<=sizeLine/\(p==sysModules)=false/\∃vs,KV kvs vs/\s.heap.DictOf (cM X.prog X.w) p vs:=I.hok p _ hx
   have hlen:kvs.length=vs.length:=Paired.length r
   exact wpAny_truthy_dict hS m (by omega) ⟨H,I.tok _,by rw[LQ r];exact q⟩
 | _=>exact(show False from e).elim
theorem pt_truth(ha:PE X a ta)(he:∀whole,isTrue a X.env whole=(do let v ←whole;standAt a.pos;holding [v] (truthy v))):
  PT X a (λσ H Q=>ta σ H λx H'=>∃k,TruV X.K x H' k/\Q k H'):=by
 intro pins s σ H Q I h
 exact isTrue_plain (thn (ha pins s σ H _ I h) λv s1 ⟨x,H1,I1,r1,q1⟩=>tru_ok pins s1 σ H1 x v Q I1 r1 q1) (he _)
theorem Mu:OpR X (binaryOp .Add) (λx y H Q=>∃i j,x=.str i/\y=.str j/\i.length+j.length<=sizeLine/\Q (.str (i++j)) H):=by
 intro pins s σ H x y v u Q I rx ry h
 obtain⟨i,j,rfl,rfl,hz,q⟩:=h
 obtain⟨t,rfl⟩:=rx
 obtain⟨t',rfl⟩:=ry
 exact add_str (λt' tk=>⟨.str (i++j),H,I.tok _,⟨_,rfl⟩,q⟩) hz
theorem vals1{x:V}{us:List Value}(r:Vals [x] us):∃u,us=[u]/\RelV x u:=by
 cases r with
 | cons r1 r2=>cases r2;exact⟨_,rfl,r1⟩
theorem Om:iM X (.type "int") (λxs H Q=>(∃i,xs=[.int i]/\Q (.int i) H)∨∃k,xs=[.bl k]/\Q (.int (if k then 1 else 0)) H):=by
 intro pins s σ H xs us Q I r h
 rcases h with⟨i,rfl,q⟩| ⟨k,rfl,q⟩
 .obtain⟨u,rfl,t,rfl⟩:=vals1 r
  exact call_int_int ⟨.int i,H,I,⟨_,rfl⟩,q⟩
 .obtain⟨u,rfl,r1⟩:=vals1 r
  cases r1
  exact call_int_bool ⟨.int (if k then 1 else 0),H,I.tok _,⟨_,rfl⟩,q⟩
end
end L2
namespace L2
open PySem PySem.Spec PyProof.Rows
structure ObjM(h:Heap)(x dx C:Addr)(mA:Str->Option Value):Prop where
 obj:h.get? x=some (PySem.W.instObj C dx)
 ns:h.Ns1 dx mA
 ne:dx≠x
theorem Pq{h:Heap}{dx:Addr}{mA:Str->Option Value}(n:h.Ns1 dx mA):∃od,h.get? dx=some od/\∀name,PySem.W.lookIn name od=some (mA name):=by
 obtain⟨o,es,ep,ho,hd,hk,_,hm⟩:=n
 refine⟨o,ho,λname=>?_⟩
 have e:=hm name
 unfold nsFind findBy at e
 rw[←Array.find?_toList] at e
 unfold PySem.W.lookIn
 rw[hd]
 dsimp only
 split
 .rename_i y q
  rw[q] at e
  exact congrArg some e
 .rename_i q
  rw[q] at e
  have a:es.toList.any (·.refKey)=false:=by
   rw[List.any_eq_false]
   intro y hy
   obtain⟨z,t,hkey⟩:=hk y (Array.mem_toList_iff.mp hy)
   simp[DictEntry.refKey,hkey]
  have a':¬es.toList.any (·.refKey)=true:=by rw[a];exact Bool.false_ne_true
  rw[if_neg a']
  exact congrArg some e
theorem ObjM.look{h:Heap}{x dx C:Addr}{mA:Str->Option Value}(I:ObjM h x dx C mA):∃od,PySem.W.InstAt h x (PySem.W.instObj C dx) C (some od)/\∀name,PySem.W.lookIn name od=some (mA name) :=
 let ⟨od,ho,hl⟩:=Pq I.ns
 ⟨od,⟨I.obj,rfl,rfl,ho⟩,hl⟩
section
variable{prog:Program}{w:World}{A:Around}{E:Value->Shared->Prop}{s:Shared}{K:Frag}{x dx C f:Addr}{mA:Str->Option Value}{name:Str}{v:Value}
theorem get_map{expr:Bool}{Q:Value->Shared->Prop}(X:K.In s.heap)(I:ObjM s.heap x dx C mA)(hg:PySem.W.plainGet K C name=true)(hh:PySem.W.hasDictIn K C=true)
  (ha:findIn K (.ref C) name=some none) (hv:mA name=some v) (hv':PySem.W.handedIn v=true) (h:Q v { s with toks:=s.toks+1 }) :
  wpAny (model prog w) A (getAttr (.ref x) name expr) Q E s:=by
 obtain⟨od,J,hl⟩:=I.look
 exact PySem.W.get_value X J (PySem.W.plainGet_of hg).1 (PySem.W.findObj_own hh ha rfl (by rw[hl,hv])) hv' h
theorem get_meth{pl:Sem Bool}{Q:Value×List Value->Shared->Prop}(X:K.In s.heap)(I:ObjM s.heap x dx C mA)(hg:PySem.W.plainGet K C name=true)
  (hf:findIn K (.ref C) name=some (some (.ref f))) (ht:PySem.W.isFn K (.ref f)=true) (hv:mA name=none) (h:Q (.ref f,[.ref x]) s) :
  wpAny (model prog w) A (getMethod (.ref x) name pl) Q E s:=by
 obtain⟨od,J,hl⟩:=I.look
 exact PySem.W.method_fn X J (PySem.W.plainGet_of hg).1 (PySem.W.plainGet_of hg).2 hf (beq_iff_eq.mp ht) (by show (PySem.W.lookIn name od).map (·.isSome)=some false;rw[hl,hv];rfl) h
theorem set_map{ns:List Str}{Q:Unit->Shared->Prop}(X:K.In s.heap)(I:ObjM s.heap x dx C mA)
  (hs:findIn K (.ref C) "__setattr__"=some (some (.builtin "object.__setattr__"))) (hp:PySem.W.plainOver K C=true) (ht:PySem.W.takerIn K C name=some none) (hh:PySem.W.hasDictIn K C=true)
  (hw:PySem.Within mA ns) (hsz:ns.length<=sizeLine)
  (h:∀h',ObjM h' x dx C (λy=>if y=name then some v else mA y)->Heap.SameBut dx s.heap h'->Q () { s with heap:=h',toks:=s.toks+2 }) :
  wpAny (model prog w) A (setAttr (.ref x) name v) Q E s:=by
 obtain⟨od,J,hl⟩:=I.look
 refine PySem.W.set_plain X J hs (PySem.W.osa_open (s:={ s with toks:=s.toks+1 }) (r:=none) X J hp ht λb=>?_)
 obtain⟨cd,hc,hd'⟩:=PySem.W.any_some hh
 have hx:s.heap.get? x=some ⟨.ref C,some dx,.plain,#[]⟩:=I.obj
 refine wpAny_bind (wpAny_pure (wpAny_bind (wpAny_bind (wpAny_loadPart hx (wpAny_bind (PySem.W.Looks.here (s:={ s with toks:=s.toks+1 }) (PySem.W.looks_clsIn X hc) ?_))))))
 rw[hd']
 refine wpAny_pure (a:=some dx) (wpAny_bind (wpAny_pure (wpAny_bind ?_)))
 refine wpAny_nsSet1 (s:={ s with toks:=s.toks+1 }) I.ns λh' hn2 hs2=>?_
 obtain⟨oD,esD,epD,hoD,hdD,hcD⟩:=hn2.count (PySem.Within.cons name v hw)
 refine wpAny_bind (wpAny_lookBehind hoD (by rw[hdD];exact pastItsLine_dict (Nat.le_trans hcD (by rw[List.length_cons];omega))) ?_)
 exact wpAny_pure (h _ ⟨(hs2.2 _ (Ne.symm I.ne)).trans I.obj,hn2,I.ne⟩ hs2)
theorem make_map{R:Result->Shared->Prop}{vs:List Value}{kw:List (Str×Value)}(X:K.In s.heap)(hm:PySem.W.makesIn K C=true)
  (hi:findIn K (.ref C) "__init__"=some (some (.ref f))) (hf:PySem.W.typeIn K (.ref f)=some (.type "function"))
  (h:codeAny (model prog w) (A.under (.builtin "type.__call__" ⟨.ref C::vs,kw⟩)) (.call (.ref f) ⟨.ref (s.heap.objs.size+1)::vs,kw⟩) (PySem.W.InitBack (s.heap.objs.size+1) R)
   { s with heap:=(s.heap.push PySem.W.emptyDict).push (PySem.W.instObj C s.heap.objs.size) }) :
  codeAny (model prog w) A (.call (.ref C) ⟨vs,kw⟩) R s:=by
 obtain⟨hh,g,d,t,os⟩:=s
 exact PySem.W.make_core (PySem.W.makes_of X hm) (PySem.W.looks_findIn X hi) (λself=>PySem.W.bind_fn X self hf) (.inl rfl) h
end
def iK(f:Str)(v:V):List (Str×V)->List (Str×V)
 | []=>[(f,v)]
 | (g,x)::r=>if g=f then (g,v)::r else (g,x)::iK f v r
theorem xr(f g:Str)(v:V):∀fs:List (Str×V),(iK f v fs).lookup g=if g=f then some v else fs.lookup g
 | []=>by
  show List.lookup g [(f,v)]=_
  by_cases h:g=f
  .have hb:(g==f)=true:=beq_iff_eq.mpr h
   simp only[List.lookup,hb,if_pos h]
  .have hb:(g==f)=false:=beq_eq_false_iff_ne.mpr h
   simp only[List.lookup,hb,if_neg h]
 | (k,x)::r=>by
  have ih:=xr f g v r
  rw[show iK f v ((k,x)::r)=(if k=f then (k,v)::r else (k,x)::iK f v r) from rfl]
  by_cases hk:k=f
  .rw[if_pos hk]
   by_cases h:g=k
   .have hb:(g==k)=true:=beq_iff_eq.mpr h
    simp only[List.lookup,hb,if_pos (h.trans hk)]
   .have hb:(g==k)=false:=beq_eq_false_iff_ne.mpr h
    simp only[List.lookup,hb,if_neg (λe:g=f=>h (e.trans hk.symm))]
  .rw[if_neg hk]
   by_cases h:g=k
   .have hb:(g==k)=true:=beq_iff_eq.mpr h
    simp only[List.lookup,hb,if_neg (λe:g=f=>hk (h.symm.trans e))]
   .have hb:(g==k)=false:=beq_eq_false_iff_ne.mpr h
    simp only[List.lookup,hb]
    exact ih
theorem wk(f:Str)(v:V):∀fs:List (Str×V),f∈(iK f v fs).map (·.1)/\∀g,g∈fs.map (·.1)->g∈(iK f v fs).map (·.1)
 | []=>⟨by simp[iK],λg h=>by simp at h⟩
 | (k,x)::r=>by
  obtain⟨i1,i2⟩:=wk f v r
  rw[show iK f v ((k,x)::r)=(if k=f then (k,v)::r else (k,x)::iK f v r) from rfl]
  by_cases hk:k=f
  .rw[if_pos hk]
   subst hk
   exact⟨by simp,λg h=>by simpa using h⟩
  .rw[if_neg hk]
   refine⟨?_,λg h=>?_⟩
   .rw[List.map_cons]
    exact List.mem_cons_of_mem _ i1
   .rw[List.map_cons] at h ⊢
    rcases List.mem_cons.mp h with e | e
    .exact List.mem_cons.mpr (.inl e)
    .exact List.mem_cons_of_mem _ (i2 g e)
theorem xq(f:Str)(v:V):∀fs:List (Str×V),(iK f v fs).length<=fs.length+1
 | []=>by simp[iK]
 | (k,x)::r=>by
  have ih:=xq f v r
  rw[show iK f v ((k,x)::r)=(if k=f then (k,v)::r else (k,x)::iK f v r) from rfl]
  by_cases hk:k=f
  .rw[if_pos hk,List.length_cons,List.length_cons];omega
  .rw[if_neg hk,List.length_cons,List.length_cons];omega
theorem mC.some_of{v:V}{o:Option Value}(r:mC (some v) o):∃u,o=some u/\RelV v u:=by
 cases o with
 | none=>exact(show False from r).elim
 | some u=>exact⟨u,rfl,r⟩
theorem mC.none_of{o:Option Value}(r:mC none o):o=none:=by
 cases o with
 | none=>rfl
 | some u=>exact(show False from r).elim
theorem O6{v:V}{u:Value}(r:RelV v u):PySem.W.handedIn u=true:=by
 cases v with
 | non=>cases (show u=Value.none from r);rfl
 | bl b=>cases (show u=Value.bool b from r);rfl
 | int i=>obtain⟨t,e⟩:=(show ∃t,u=Value.int i t from r);cases e;rfl
 | str x=>obtain⟨t,e⟩:=(show ∃t,u=Value.str x t from r);cases e;rfl
 | byt b=>obtain⟨t,e⟩:=(show ∃t,u=Value.bytes b t from r);cases e;rfl
 | flt b=>obtain⟨t,e⟩:=(show ∃t,u=Value.float b t from r);cases e;rfl
 | ref a=>cases (show u=Value.ref a from r);rfl
 | ty n=>cases (show u=Value.type n from r);rfl
section
variable{P:Program}{w:World}{H H':Hp}{h h':Heap}{a C dx:Addr}{fs fs':List (Str×V)}
theorem yG(hok:HOk P w H h)(e:H a=some (.ins C dx fs)):∃mA,ObjM h a dx C mA/\(∀f,mC (fs.lookup f) (mA f))/\PySem.Within mA (fs.map (·.1))/\fs.length<=1000/\H dx=some (.own a):=by
 obtain⟨d,z,ne,ob,mA,n,r,q⟩:=(show cC P w H h a (.ins C dx fs) from hok a _ e)
 exact⟨mA,⟨ob,n,ne⟩,r,q,z,d⟩
end
structure Cls(K:Frag)(C:Addr):Prop where
 pg:PySem.W.plainGet K C Str.empty=true
 hd:PySem.W.hasDictIn K C=true
 po:PySem.W.plainOver K C=true
 sa:findIn K (.ref C) "__setattr__"=some (some (.builtin "object.__setattr__"))
theorem Cls.get{K:Frag}{C:Addr}(c:Cls K C)(f:Str):PySem.W.plainGet K C f=true:=c.pg
def bD(K:Frag)(C:Addr)(f:Str):Prop:=findIn K (.ref C) f=some none
theorem bD.taker{K:Frag}{C:Addr}{f:Str}(n:bD K C f):PySem.W.takerIn K C f=some none:=by
 unfold PySem.W.takerIn
 rw[show findIn K (.ref C) f=some none from n]
 rfl
structure Meth(K:Frag)(C:Addr)(m:Str)(f:Addr):Prop where
 at_:findIn K (.ref C) m=some (some (.ref f))
 fn:PySem.W.isFn K (.ref f)=true
 kp:keepIn K (.ref f)=true
section
variable{X:Cx}{pins:List (Addr×Obj)}{σ:St}{H:Hp}{s:Shared}{a C dx:Addr}{fs:List (Str×V)}{f:Str}{v:V}{A:Around}{E:Value->Shared->Prop}
theorem LC{b:Bool}{Q:Value->Shared->Prop}(I:Inv X pins σ H s)(e:H a=some (.ins C dx fs))(c:Cls X.K C)(n:bD X.K C f)(l:fs.lookup f=some v)
  (h:∀u s',Inv X pins σ H s'->RelV v u->Q u s'):wpAny (model X.prog X.w) A (getAttr (.ref a) f b) Q E s:=by
 obtain⟨mA,O,r,_,_,_⟩:=yG I.hok e
 obtain⟨u,hu,ru⟩:=mC.some_of (v:=v) (o:=mA f) (by rw[←l];exact r f)
 exact get_map I.kIn O (c.get f) c.hd n hu (O6 ru) (h u _ (I.tok _) ru)
theorem zO{m:Str}{g:Addr}{pl:Sem Bool}{Q:Value×List Value->Shared->Prop}(I:Inv X pins σ H s)(e:H a=some (.ins C dx fs))(c:Cls X.K C)(k:Meth X.K C m g)(l:fs.lookup m=none)
  (h:Q (.ref g,[.ref a]) s):wpAny (model X.prog X.w) A (getMethod (.ref a) m pl) Q E s:=by
 obtain⟨mA,O,r,_,_,_⟩:=yG I.hok e
 have hn:mA m=none:=mC.none_of (by rw[←l];exact r m)
 exact get_meth I.kIn O (c.get m) k.at_ k.fn hn h
theorem M7{y:V}{u:Value}{Q:Unit->Shared->Prop}(I:Inv X pins σ H s)(e:H a=some (.ins C dx fs))(c:Cls X.K C)(n:bD X.K C f)(hl:fs.length<1000)(ry:RelV y u)
  (h:∀s',Inv X pins σ (upd H a (.ins C dx (iK f y fs))) s'->Q () s'):wpAny (model X.prog X.w) A (setAttr (.ref a) f u) Q E s:=by
 obtain⟨mA,O,r,wi,_,ho⟩:=yG I.hok e
 have hz:(fs.map (·.1)).length<=sizeLine:=by rw[List.length_map,sizeLine_eq];omega
 refine set_map I.kIn O c.sa c.po n.taker c.hd wi hz λh' O' sb=>h _ ?_
 have hd:∃o,h'.get? dx=some o:=let ⟨o,_,_,e',_⟩:=O'.ns;⟨o,e'⟩
 refine I.write (x:=a) (e:=dx) (by rw[e];exact True.intro) (.inr ho) (λb q hb z=>(sb.2 b hb).trans z) hd ?_
 refine⟨by rw[aN O.ne];exact ho,?_,O.ne,O'.obj,_,O'.ns,λg=>?_,λg hg=>?_⟩
 .have:=xq f y fs;omega
 .show mC ((iK f y fs).lookup g) (if g=f then some u else mA g)
  rw[xr]
  by_cases q:g=f
  .rw[if_pos q,if_pos q];exact ry
  .rw[if_neg q,if_neg q];exact r g
 .by_cases q:g=f
  .rw[q];exact(wk f y fs).1
  .refine(wk f y fs).2 g (wi g λz=>hg ?_)
   show (if g=f then some u else mA g)=none
   rw[if_neg q];exact z
theorem Inv.made(I:Inv X pins σ H s):Inv X pins σ (upd (upd H s.heap.objs.size (.own (s.heap.objs.size+1))) (s.heap.objs.size+1) (.ins C s.heap.objs.size []))
  { s with heap:=(s.heap.push PySem.W.emptyDict).push (PySem.W.instObj C s.heap.objs.size) }:=by
 have e1:(s.heap.push PySem.W.emptyDict).get? s.heap.objs.size=some PySem.W.emptyDict:=Heap.get?_push_size s.heap rfl
 have e2:((s.heap.push PySem.W.emptyDict).push (PySem.W.instObj C s.heap.objs.size)).get? (s.heap.objs.size+1)=some (PySem.W.instObj C s.heap.objs.size):=by
  have:=Heap.get?_push_size (s.heap.push PySem.W.emptyDict) (o:=PySem.W.instObj C s.heap.objs.size) rfl
  rwa [Heap.size_push] at this
 have e3:(s.heap.push PySem.W.emptyDict).Ns s.heap.objs.size (λ_=>none):=⟨PySem.W.emptyDict,#[],_,e1,rfl,(λe he=>absurd he (by simp)),λ_=>rfl⟩
 have I1:=I.laid (a:=s.heap.objs.size) (o:=.own (s.heap.objs.size+1)) (h':=s.heap.push PySem.W.emptyDict) (t':=s.toks) (λb u q=>Heap.get?_push_of_some _ q) (Nat.le_refl _) ⟨_,e1⟩
 refine I1.laid (a:=s.heap.objs.size+1) (o:=.ins C s.heap.objs.size []) (t':=s.toks) (λb u q=>Heap.get?_push_of_some _ q) (Nat.le_of_eq (Heap.size_push _ _)) ?_
 have ne:s.heap.objs.size≠s.heap.objs.size+1:=Nat.ne_of_lt (Nat.lt_succ_self _)
 refine⟨by rw[aN ne,aP],Nat.zero_le _,ne,e2,λ_=>none,(Heap.Ns1.of_empty e3).at λo q=>Heap.get?_push_of_some _ q,λ_=>True.intro,λy hy=>absurd rfl hy⟩
theorem attr_of{prog:Program}{w:World}{env:Env}{e:Expr}{f:Str}{pos:Pos}{s:Shared}{Q:Value->Shared->Prop}(hb:attributeBase e f env (eval e env)=eval e env)
  (h:wpAny (model prog w) A (eval e env) (λo s₁=>wpAny (model prog w) A (getAttr o f true) Q E s₁) E s):wpAny (model prog w) A (eval (.Attribute e f pos) env) Q E s :=
 Attribute_any_ h (by rw[arm_eval_Attribute,hb])
end
def tFld(K:Frag)(ta:TE)(f:Str):TE:=λσ H Q=>ta σ H λx H1=>∃a C dx fs v,x=.ref a/\H1 a=some (.ins C dx fs)/\Cls K C/\bD K C f/\fs.lookup f=some v/\Q v H1
def sFld(K:Frag)(ta tv:TE)(f:Str):TS:=λD σ H=>tv σ H λy H1=>ta σ H1 λx H2=>∃a C dx fs,x=.ref a/\H2 a=some (.ins C dx fs)/\Cls K C/\bD K C f/\fs.length<1000 /\
 D.nx σ (upd H2 a (.ins C dx (iK f y fs)))
section
variable{X:Cx}{o e value:Expr}{f:Str}{pos pos' tpos:Pos}{ta tv:TE}
theorem pe_fld(he:PE X e ta)(hb:attributeBase e f X.env (eval e X.env)=eval e X.env):PE X (.Attribute e f pos) (tFld X.K ta f):=by
 intro pins s σ H Q I h
 refine attr_of hb (thn (he pins s σ H _ I h) λu s1 ⟨x,H1,I1,rx,a,C,dx,fs,v,ex,ea,c,n,l,q⟩=>?_)
 subst ex
 obtain rfl:u=Value.ref a:=rx
 exact LC I1 ea c n l λu' s2 I2 ru=>⟨v,H1,I2,ru,q⟩
theorem My(ha:PE X o ta)(hv:PE X value tv)(hs:swapsWith value (some (.Attribute o f pos')) pos.line X.env=pure false):PS X (.Assign [.Attribute o f pos'] value pos) (sFld X.K ta tv f):=by
 intro pins s σ H D I h
 refine plainObj_wpAny_Assign_Attribute (thn (hv pins s σ H _ I h) λu s1 ⟨y,H1,I1,ry,q⟩=>thn (ha pins s1 σ H1 _ I1 q) λov s2 ⟨x,H2,I2,rx,a,C,dx,fs,ex,ea,c,n,l,q2⟩=>?_) hs
 subst ex
 obtain rfl:ov=Value.ref a:=rx
 exact M7 I2 ea c n l ry λs3 I3=>⟨σ,_,I3,q2⟩
end
section
variable{X:Cx}{pins:List (Addr×Obj)}{σ:St}{H:Hp}{s:Shared}{A:Around}{E:Value->Shared->Prop}{Q:Value->Shared->Prop}{c:Value}{b:Bool}
inductive vU (K:Frag) (H:Hp):V->Value->Prop where
 | non:vU K H .non (.type "NoneType")
 | bl (x:Bool):vU K H (.bl x) (.type "bool")
 | int (i:Int):vU K H (.int i) (.type "int")
 | str (x:Str):vU K H (.str x) (.type "str")
 | flt (x:UInt64):vU K H (.flt x) (.type "float")
 | lst {a:Addr} {xs:List V} (e:H a=some (.lst xs)):vU K H (.ref a) (.type "list")
 | frz {a:Addr} {o:Obj} {xs:List V} (e:H a=some (.frz o (.lst xs))):vU K H (.ref a) (.type "list")
 | tup {a:Addr} {xs:List V} (e:H a=some (.tup xs)):vU K H (.ref a) (.type "tuple")
 | dK {a:Addr} {kvs:List (Key×V)} (e:H a=some (.dK kvs)):vU K H (.ref a) (.type "dict")
 | dT {a:Addr} {kvs:List (List Key×V)} (e:H a=some (.dT kvs)):vU K H (.ref a) (.type "dict")
 | ins {a C dx:Addr} {fs:List (Str×V)} (e:H a=some (.ins C dx fs)) (cl:Cls K C) (ha:findIn K (.ref C) "__class__"=some (some (.builtin "object.__class__")))
   (hn:PySem.W.specialIn K (.builtin "object.__class__") "__get__"=some (some (.builtin "getset_descriptor.__get__"))) (htk:PySem.W.takesIn K (.builtin "object.__class__")=some true)
   (hm:PySem.W.mroIn K C (.type "object")=some true):vU K H (.ref a) (.ref C)
theorem Pg{x:V}{u t:Value}(I:Inv X pins σ H s)(rx:RelV x u)(ty:vU X.K H x t)(e:PySem.W.kitOne X.K t c=some b)(h:∀tk,Q (.bool b) { s with toks:=tk }):
  wpAny (model X.prog X.w) A (call (.builtin "isinstance") [u,c]) Q E s:=by
 cases ty with
 | non=>cases (show u=Value.none from rx);exact PySem.W.kia_one PySem.W.kitx_none I.kIn True.intro e (λz=>nomatch z) h
 | bl y=>cases (show u=Value.bool y from rx);exact PySem.W.kia_one PySem.W.kitx_bool I.kIn True.intro e (λz=>nomatch z) h
 | int i=>obtain⟨t,q⟩:=(show ∃t,u=Value.int i t from rx);cases q;exact PySem.W.kia_one PySem.W.kitx_int I.kIn True.intro e (λz=>nomatch z) h
 | str y=>obtain⟨t,q⟩:=(show ∃t,u=Value.str y t from rx);cases q;exact PySem.W.kia_one PySem.W.kitx_str I.kIn True.intro e (λz=>nomatch z) h
 | flt y=>obtain⟨t,q⟩:=(show ∃t,u=Value.float y t from rx);cases q;exact PySem.W.kia_one PySem.W.kitx_float I.kIn True.intro e (λz=>nomatch z) h
 | @lst a xs ea =>
  cases (show u=Value.ref a from rx)
  obtain⟨_,_,n,_,h1⟩:=(show cC X.prog X.w H s.heap a (.lst xs) from I.hok a _ ea)
  exact PySem.W.kia_one PySem.W.kitx_list I.kIn ⟨_,h1,rfl⟩ e (λz=>nomatch z) h
 | @frz a ob xs ea =>
  cases (show u=Value.ref a from rx)
  obtain⟨_,_,_,n,_,h1⟩:=(show cC X.prog X.w H s.heap a (.frz ob (.lst xs)) from I.hok a _ ea)
  exact PySem.W.kia_one PySem.W.kitx_list I.kIn ⟨_,h1,rfl⟩ e (λz=>nomatch z) h
 | @tup a xs ea =>
  cases (show u=Value.ref a from rx)
  obtain⟨_,_,_,p⟩:=(show cC X.prog X.w H s.heap a (.tup xs) from I.hok a _ ea)
  obtain⟨o,h1,h2,_⟩:=p
  exact PySem.W.kia_one PySem.W.kitx_tuple I.kIn ⟨o,h1,h2⟩ e (λz=>nomatch z) h
 | @dK a kvs ea =>
  cases (show u=Value.ref a from rx)
  obtain⟨_,_,vs,_,p⟩:=(show cC X.prog X.w H s.heap a (.dK kvs) from I.hok a _ ea)
  obtain⟨o,es,ep,h1,h2,_⟩:=p
  exact PySem.W.kia_one PySem.W.kitx_dict I.kIn ⟨o,h1,h2.1⟩ e (λz=>nomatch z) h
 | @dT a kvs ea =>
  cases (show u=Value.ref a from rx)
  obtain⟨_,_,xs,_,o,es,ep,h1,h2,_⟩:=(show cC X.prog X.w H s.heap a (.dT kvs) from I.hok a _ ea)
  exact PySem.W.kia_one PySem.W.kitx_dict I.kIn ⟨o,h1,h2.1⟩ e (λz=>nomatch z) h
 | @ins a C dx fs ea cl ha hn htk hm =>
  cases (show u=Value.ref a from rx)
  obtain⟨mA,O,_⟩:=yG I.hok ea
  obtain⟨od,J,_⟩:=O.look
  exact PySem.W.kia_one (PySem.W.kitx_own (cl.get _) cl.hd ha hn htk hm) I.kIn J e (λz=>nomatch z) h
end
end L2
namespace L2
open PySem PySem.Spec PyProof.Rows
structure cT(k:Nat)(A:Around):Prop where
 hd:A.handled=none
 dp:A.depth+3*k+5<recursionLimit
 un:A.units+16*k+200<cLine
theorem cT.mono{j k:Nat}{A:Around}(r:cT k A)(h:j<=k):cT j A:=⟨r.hd,by have:=r.dp;omega,by have:=r.un;omega⟩
theorem cT.deeper{k:Nat}{A:Around}(r:cT (k+1) A)(env:Env):cT k (A.deeper env) :=
 ⟨r.hd,by have:=r.dp;show A.depth+1+3*k+5<_;omega,by have:=r.un;show A.units+3+16*k+200<_;omega⟩
theorem Mi{A:Around}{C:Addr}{us:List Value}{kw:List (Str×Value)}:(A.under (.builtin "type.__call__" ⟨.ref C::us,kw⟩)).depth=A.depth+1:=by
 first | rfl | simp[Around.under,Code.weight,Code.isCreation,Code.isGuard,Code.isCaller,Code.frames,Code.isFrame,guardIds]
theorem Mj{A:Around}{C:Addr}{us:List Value}{kw:List (Str×Value)}:(A.under (.builtin "type.__call__" ⟨.ref C::us,kw⟩)).units=A.units+1:=by
 first | rfl | simp[Around.under,Code.cUnits,Code.frames,Code.isFrame]
theorem cT.make{k:Nat}{A:Around}(r:cT (k+1) A)(C:Addr)(us:List Value)(kw:List (Str×Value)):cT k (A.under (.builtin "type.__call__" ⟨.ref C::us,kw⟩)) :=
 ⟨r.hd,by have:=r.dp;rw[Mi];omega,by have:=r.un;rw[Mj];omega⟩
theorem cT.depth{k:Nat}{A:Around}(r:cT k A):A.depth<recursionLimit:=by have:=r.dp;omega
theorem cT.units{k:Nat}{A:Around}(r:cT k A):A.units+64<cLine:=by have:=r.un;omega
def lH:TA:=λ_ H Q=>Q [] H
def iT(ta:TE)(tr:TA):TA:=λσ H Q=>ta σ H λx H1=>tr σ H1 λxs H2=>Q (x::xs) H2
section
variable{X:Cx}{e:Expr}{es:List Expr}{te:TE}{t:TA}{pos:Pos}
theorem bL:PA X [] lH:=λ_ _ _ _ H Q I h=>Calls.spliced_nil ⟨[],H,I,.nil,h⟩
theorem aX(ha:PE X e te)(hr:PA X es t)(hs:starEach (e::es) X.env=(false,eval e X.env)::starEach es X.env:=by rfl):PA X (e::es) (iT te t):=by
 intro pos pins s σ H Q I h
 rw[hs]
 show wpAny _ _ (spliced ((false,eval e X.env)::backTo pos (starEach es X.env))) _ _ s
 refine Calls.spliced_cons (thn (ha pins s σ H _ I h) λu s1 ⟨x,H1,I1,r1,q1⟩=>?_)
 exact thn (hr pos pins s1 σ H1 _ I1 q1) λus s2 ⟨xs,H2,I2,r2,q2⟩=>⟨x::xs,H2,I2,.cons r1 r2,q2⟩
def tTup(t:TA):TE:=λσ H Q=>t σ H λxs H1=>xs.length<=sizeLine/\∀p,H1 p=none->Q (.ref p) (upd H1 p (.tup xs))
def tLst(t:TA):TE:=λσ H Q=>t σ H λxs H1=>xs.length<=sizeLine/\∀p,H1 p=none->Q (.ref p) (upd H1 p (.lst xs))
theorem pe_tup{x1}(h:PA X es t):PE X (.Tuple es x1 pos) (tTup t):=by
 intro pins s σ H Q I hq
 refine wpAny_Tuple_spliced (thn (h pos pins s σ H _ I hq) λus s1 ⟨xs,H1,I1,r,z,q⟩=>⟨by rw[←r.length];exact z,?_⟩)
 have hf:H1 s1.heap.objs.size=none:=I1.hok.fresh (Nat.le_refl _)
 refine⟨.ref s1.heap.objs.size,upd H1 s1.heap.objs.size (.tup xs),I1.laid (t':=s1.toks) (λb u e=>Heap.get?_push_of_some _ e) (Nat.le_refl _) ?_,rfl,q _ hf⟩
 exact⟨z,us,r,⟨_,Heap.get?_push_size _ rfl,rfl,_,rfl⟩⟩
theorem pe_lst(h:PA X es t):PE X (.List es pos) (tLst t):=by
 intro pins s σ H Q I hq
 refine wpAny_List_spliced (thn (h pos pins s σ H _ I hq) λus s1 ⟨xs,H1,I1,r,z,q⟩=>⟨by rw[←r.length];exact z,?_⟩)
 have hf:H1 s1.heap.objs.size=none:=I1.hok.fresh (Nat.le_refl _)
 refine⟨.ref s1.heap.objs.size,upd H1 s1.heap.objs.size (.lst xs),I1.laid (t':=s1.toks) (λb u e=>Heap.get?_push_of_some _ e) (Nat.le_refl _) ?_,rfl,q _ hf⟩
 exact⟨z,us,0,r,Heap.get?_push_size _ rfl⟩
end
abbrev Sp:=List V->Hp->VK->XK->Prop
abbrev CXT:=List Env->Hp->Shared->XK->Value->Shared->Prop
structure Env0(P:Program)(w:World)(K:Frag)(mg:Str->Option Value)(base:Heap)(A:Around)(outer:List Env)(s:Shared)(H:Hp):Prop where
 frames:A.frames=some outer
 mod:Mod K mg base
 bs:∀b o,base.get? b=some o->s.heap.get? b=some o/\H b=none
 bsz:base.objs.size<=s.heap.objs.size
 xV:s.heap.FunFrames base outer
 frf:∀b∈frs outer,H b=none
 hok:HOk P w H s.heap
 bare:AllBare s.gens
def CE(outer:List Env)(P:Program)(w:World)(H:Hp)(s:Shared)(Q:VK)(u:Value)(s':Shared):Prop :=
 ∃v H',s'.os=s.os/\AllBare s'.gens/\Un (frs outer) [] H H' s.heap s'.heap/\HOk P w H' s'.heap/\RelV v u/\Q v H'
def CR(CX:CXT)(outer:List Env)(P:Program)(w:World)(H:Hp)(s:Shared)(Q:VK)(E:XK)(r:Result)(s':Shared):Prop :=
 match r with
 | .ok (.ret u)=>CE outer P w H s Q u s'
 | .ok _=>False
 | .error e=>CX outer H s E e s'
structure bO(P:Program)(w:World)(K:Frag)(mg:Str->Option Value)(base:Heap)(CX:CXT)(k:Nat)(f:Addr)(fd:FuncData)(ps:List Str)(sp:Sp):Prop where
 len:∀vs H Q E,sp vs H Q E->vs.length=ps.length
 run:∀(A:Around)(outer:List Env)(s:Shared)(H:Hp)(args:Args)(us:List Value)(vs:List V)(Q:VK)(E:XK),cT k A->Env0 P w K mg base A outer s H->BindsTo s fd args (ps.zip us)->Vals vs us->sp vs H Q E ->
  codeAny (model P w) A (.call (.ref f) args) (CR CX outer P w H s Q E) s
theorem bO.mono{P:Program}{w:World}{K:Frag}{mg:Str->Option Value}{base:Heap}{CX:CXT}{j k:Nat}{f:Addr}{fd:FuncData}{ps:List Str}{sp:Sp}(F:bO P w K mg base CX j f fd ps sp)(h:j<=k):
  bO P w K mg base CX k f fd ps sp:=⟨F.len,λA outer s H args us vs Q E hr=>F.run A outer s H args us vs Q E (hr.mono h)⟩
theorem bO.imp{P:Program}{w:World}{K:Frag}{mg:Str->Option Value}{base:Heap}{CX:CXT}{k:Nat}{f:Addr}{fd:FuncData}{ps:List Str}{sp sp':Sp}(F:bO P w K mg base CX k f fd ps sp)
  (h:∀vs H Q E,sp' vs H Q E->sp vs H Q E):bO P w K mg base CX k f fd ps sp' :=
 ⟨λvs H Q E q=>F.len vs H Q E (h _ _ _ _ q),λA outer s H args us vs Q E hr he hb hv hs=>F.run A outer s H args us vs Q E hr he hb hv (h _ _ _ _ hs)⟩
theorem Env0.make{P:Program}{w:World}{K:Frag}{mg:Str->Option Value}{base:Heap}{A:Around}{outer:List Env}{s:Shared}{H:Hp}(e:Env0 P w K mg base A outer s H)(C:Addr)(us:List Value)(kw:List (Str×Value)):
  Env0 P w K mg base (A.under (.builtin "type.__call__" ⟨.ref C::us,kw⟩)) outer s H:=⟨by first | exact e.frames | (simpa[Around.under,Code.envs,Code.isFrame,pushEnvs] using e.frames),e.mod,e.bs,e.bsz,e.xV,e.frf,e.hok,e.bare⟩
section
variable{X:Cx}{pins:List (Addr×Obj)}{σ:St}{H:Hp}{s s':Shared}
theorem Inv.env0(I:Inv X pins σ H s):Env0 X.prog X.w X.K X.mg X.base X.A X.stack s H :=
 ⟨I.ok.frames,I.ok.mod,I.bs,Nat.le_trans I.ok.bsz I.sz,I.stack,I.Oa,I.hok,I.bare⟩
theorem Inv.after{Q:VK}{u:Value}(I:Inv X pins σ H s)(h:CE X.stack X.prog X.w H s Q u s'):EP X pins σ Q u s':=by
 obtain⟨v,H',os,bare,un,hok,r,q⟩:=h
 obtain⟨hh,g,d,t,os'⟩:=s'
 obtain rfl:os'=s.os:=os
 exact⟨v,H',I.call (h':=hh) (g':=g) (d':=d) (t':=t) (ch:=[]) un hok bare (λb z=>absurd z (by simp)),r,q⟩
end
def DQ(sp:Sp)(dvs:List V)(E:XK)(t:TA):TE:=λσ H Q=>t σ H λvs H1=>sp (vs++dvs) H1 Q E
def tMeth(C:Addr)(m:Str)(sp:Sp)(dvs:List V)(E:XK)(ta:TE)(t:TA):TE:=λσ H Q=>ta σ H λx H1=>∃a dx fs,x=.ref a/\H1 a=some (.ins C dx fs)/\fs.lookup m=none /\
 t σ H1 λvs H2=>sp (x::(vs++dvs)) H2 Q E
def tMake(C:Addr)(sp:Sp)(dvs:List V)(E:XK)(t:TA):TE:=λσ H Q=>t σ H λvs H1=>∀x dx,H1 x=none->H1 dx=none->dx≠x ->
 sp (.ref x::(vs++dvs)) (upd (upd H1 dx (.own x)) x (.ins C dx [])) (λv H2=>v=.non/\Q (.ref x) H2) E
def Binds(K:Frag)(fd:FuncData)(ps:List Str)(ds:List Value):Prop :=
 ∀(s:Shared)(us:List Value),K.In s.heap->(us++ds).length=ps.length->BindsTo s fd ⟨us,[]⟩ (ps.zip (us++ds))
theorem Binds.all{K:Frag}{fd:FuncData}{ps:List Str}(h:∀us:List Value,us.length=ps.length->bindArgs fd ⟨us,[]⟩=pure (ps.zip us)):Binds K fd ps []:=λs us _ hl=>by
 rw[List.append_nil] at hl ⊢
 exact .of_eq (h us hl)
def lg(CX:CXT)(X:Cx)(E:XK):Prop:=∀(pins:List (Addr×Obj))(σ:St)(H:Hp)(s:Shared)(e:Value)(s':Shared),Inv X pins σ H s->CX X.stack H s E e s'->X.xe e s'
section
variable{X:Cx}{CX:CXT}{k:Nat}{f C:Addr}{fd:FuncData}{ps:List Str}{sp:Sp}{dvs:List V}{ds:List Value}{E:XK}{x m:Str}{p pos apos:Pos}{e o:Expr}{es:List Expr}{ta:TE}{t:TA}
theorem Hl{pins:List (Addr×Obj)}{σ:St}{H:Hp}{s:Shared}{Q:VK}{us:List Value}{vs:List V}(F:bO X.prog X.w X.K X.mg X.base CX k f fd ps sp)(hr:cT k X.A)(hb:Binds X.K fd ps ds)(hd:Vals dvs ds)(hx:lg CX X E)
  (I:Inv X pins σ H s) (r:Vals vs us) (h:sp (vs++dvs) H Q E):wpAny (model X.prog X.w) X.A (call (.ref f) us) (EP X pins σ Q) X.xe s:=by
 have r2:Vals (vs++dvs) (us++ds):=r.append hd
 have hl:(us++ds).length=ps.length:=by rw[←r2.length];exact F.len _ _ _ _ h
 refine wpAny_call (codeAny_mono (F.run X.A X.stack s H ⟨us,[]⟩ (us++ds) (vs++dvs) Q E hr I.env0 (hb s us I.kIn hl) r2 h) λr s' hq=>?_)
 cases r with
 | error e=>exact hx pins σ H s e s' I hq
 | ok fl =>
  cases fl with
  | ret u=>exact I.after hq
  | next=>exact False.elim hq
  | brk=>exact False.elim hq
  | cont=>exact False.elim hq
theorem Hh(F:bO X.prog X.w X.K X.mg X.base CX k f fd ps sp)(hr:cT k X.A)(hg:Gl X x)(hm:X.mg x=some (.ref f))(hk:keepIn X.K (.ref f)=true)(hb:Binds X.K fd ps ds)(hd:Vals dvs ds)(hx:lg CX X E)
  (ha:PA X (e::es) t) (hdb:(x==("__debug__":Str))=false:=by decide) (he:starEach (e::es) X.env=(false,eval e X.env)::starEach es X.env:=by rfl) (hpl:(backTo pos (starEach es X.env)).any (·.1)=false:=by rfl) :
  PE X (.Call (.Name x p) (e::es) [] pos) (DQ sp dvs E t):=by
 intro pins s σ H Q I h
 refine wpAny_Call_Name_kw (uQ I hg hm ?_ hdb)
 refine PySem.W.callWith_K (h₀:=X.base) I.ok.mod.kin hk (thn (ha pos pins s σ H _ I h) λus s1 ⟨vs,H1,I1,r,q⟩=>⟨I1.kIn,?_⟩) he hpl
 exact Hl F hr hb hd hx I1 r q
theorem pe_meth0{pl:Sem Bool}(he:PE X o ta)(c:Cls X.K C)(hm:Meth X.K C m f)(F:bO X.prog X.w X.K X.mg X.base CX k f fd ps sp)(hr:cT k X.A)(hb:Binds X.K fd ps ds)(hd:Vals dvs ds)(hx:lg CX X E)
  (ht:eval (.Call (.Attribute o m apos) [] [] pos) X.env=(do
   let ov ←eval o X.env
   standAt apos.atName
   let (f,first) ←holding [ov] (getMethod ov m pl)
   callWith pos f first (backTo pos (starEach [] X.env)) (backToKw pos (keywordEach [] X.env))):=by rfl) :
  PE X (.Call (.Attribute o m apos) [] [] pos) (tMeth C m sp dvs E ta lH):=by
 intro pins s σ H Q I h
 refine PySem.W.methodCall_KW (pl:=pl) (thn (he pins s σ H _ I h) λu s1 ⟨x,H1,I1,rx,a,dx,fs,ex,ea,l,q⟩=>?_) ht
 subst ex
 obtain rfl:u=Value.ref a:=rx
 refine zO I1 ea c hm l ?_
 exact PySem.W.callWith_K0 (first:=[.ref a]) I1.kIn hm.kp (Hl (us:=[.ref a]) (vs:=[.ref a]) F hr hb hd hx I1 (.cons rfl .nil) q)
structure Mk(K:Frag)(C f:Addr):Prop where
 makes:PySem.W.makesIn K C=true
 init:findIn K (.ref C) "__init__"=some (some (.ref f))
 fn:PySem.W.isFn K (.ref f)=true
 kp:keepIn K (.ref C)=true
theorem Kd{pins:List (Addr×Obj)}{σ:St}{H:Hp}{s:Shared}{Q:VK}{us:List Value}{vs:List V}(M:Mk X.K C f)(F:bO X.prog X.w X.K X.mg X.base CX k f fd ps sp)(hr:cT (k+1) X.A)(hb:Binds X.K fd ps ds)(hd:Vals dvs ds)
  (hx:lg CX X E) (I:Inv X pins σ H s) (r:Vals vs us)
  (h:∀x dx,H x=none->H dx=none->dx≠x->sp (.ref x::(vs++dvs)) (upd (upd H dx (.own x)) x (.ins C dx [])) (λv H2=>v=.non/\Q (.ref x) H2) E) :
  wpAny (model X.prog X.w) X.A (call (.ref C) us) (EP X pins σ Q) X.xe s:=by
 have hq:=h (s.heap.objs.size+1) s.heap.objs.size (I.hok.fresh (Nat.le_succ _)) (I.hok.fresh (Nat.le_refl _)) (Nat.ne_of_lt (Nat.lt_succ_self _))
 have I2:=Inv.made (C:=C) I
 have r2:Vals (V.ref (s.heap.objs.size+1)::(vs++dvs)) (Value.ref (s.heap.objs.size+1)::(us++ds)):=.cons rfl (r.append hd)
 have hl:(Value.ref (s.heap.objs.size+1)::us++ds).length=ps.length:=by
  have e:=r2.length
  rw[F.len _ _ _ _ hq] at e
  exact e.symm
 refine wpAny_call (make_map (f:=f) I.kIn M.makes M.init (beq_iff_eq.mp M.fn) (codeAny_mono (F.run _ X.stack _ _ ⟨Value.ref (s.heap.objs.size+1)::us,[]⟩ (Value.ref (s.heap.objs.size+1)::(us++ds)) _ _ E (hr.make C us [])
  (I2.env0.make C us []) (hb _ (Value.ref (s.heap.objs.size+1)::us) I2.kIn hl) r2 hq) λr s' hq'=>?_))
 cases r with
 | error e=>exact hx pins σ _ _ e s' I2 hq'
 | ok fl =>
  cases fl with
  | ret u =>
   obtain⟨v,H',I3,rv,ev,q3⟩:=I2.after hq'
   subst ev
   exact⟨rv,⟨V.ref (s.heap.objs.size+1),H',I3,rfl,q3⟩⟩
  | next=>exact False.elim hq'
  | brk=>exact False.elim hq'
  | cont=>exact False.elim hq'
theorem pe_make(M:Mk X.K C f)(F:bO X.prog X.w X.K X.mg X.base CX k f fd ps sp)(hr:cT (k+1) X.A)(hg:Gl X x)(hm:X.mg x=some (.ref C))(hb:Binds X.K fd ps ds)(hd:Vals dvs ds)(hx:lg CX X E)
  (ha:PA X (e::es) t) (hdb:(x==("__debug__":Str))=false:=by decide) (he:starEach (e::es) X.env=(false,eval e X.env)::starEach es X.env:=by rfl) (hpl:(backTo pos (starEach es X.env)).any (·.1)=false:=by rfl) :
  PE X (.Call (.Name x p) (e::es) [] pos) (tMake C sp dvs E t):=by
 intro pins s σ H Q I h
 refine wpAny_Call_Name_kw (uQ I hg hm ?_ hdb)
 refine PySem.W.callWith_K (h₀:=X.base) I.ok.mod.kin M.kp (thn (ha pos pins s σ H _ I h) λus s1 ⟨vs,H1,I1,r,q⟩=>⟨I1.kIn,?_⟩) he hpl
 exact Kd M F hr hb hd hx I1 r q
theorem pe_make0(M:Mk X.K C f)(F:bO X.prog X.w X.K X.mg X.base CX k f fd ps sp)(hr:cT (k+1) X.A)(hg:Gl X x)(hm:X.mg x=some (.ref C))(hb:Binds X.K fd ps ds)(hd:Vals dvs ds)(hx:lg CX X E)
  (hdb:(x==("__debug__":Str))=false:=by decide):PE X (.Call (.Name x p) [] [] pos) (tMake C sp dvs E lH):=by
 intro pins s σ H Q I h
 refine wpAny_Call_Name_kw (uQ I hg hm ?_ hdb)
 exact PySem.W.callWith_K0 I.kIn M.kp (Kd (us:=[]) M F hr hb hd hx I .nil h)
end
section
variable{X:Cx}{CX:CXT}{k:Nat}{f C:Addr}{fd:FuncData}{ps ks:List Str}{sp:Sp}{E:XK}{x m:Str}{p pos apos kpos:Pos}{e o:Expr}{es:List Expr}{kws:List Keyword}{te ta:TE}{t tk:TA}{nm:Option Str}
variable{g:List Value->List Value->List Value}{gV:List V->List V->List V}
end
structure aF(N P:List Str)(sc:Scope):Prop where
 kind:sc.kind=.function
 co:sc.isCoroutine=false
 gen:sc.isGenerator=false
 nd:N.Nodup
 pre:N.take P.length=P
 par:∀x∈P,sc.names.lookup x=some .local∨sc.names.lookup x=some .cell
 Mm:∀y∈sc.names,y.2≠.free
theorem Dc{kindOf:Str->Option NameKind}{x:Str}:∀{binds:List (Str×Value)}{m:Str->Option Value},(∀v,(x,v)∉binds)->bindL kindOf binds m x=m x
 | [],_,_=>rfl
 | (n,v)::r,m,h=>by
  unfold bindL
  rw[Dc λw hw=>h w (List.mem_cons_of_mem _ hw)]
  split
  .have:x≠n:=by rintro rfl;exact h v List.mem_cons_self
   simp[this]
  .rfl
theorem CW{kindOf:Str->Option NameKind}{x:Str}:∀{binds:List (Str×Value)}{m:Str->Option Value},(∀v,(x,v)∉binds)->bindC kindOf binds m x=m x
 | [],_,_=>rfl
 | (n,v)::r,m,h=>by
  unfold bindC
  rw[CW λw hw=>h w (List.mem_cons_of_mem _ hw)]
  split
  .rfl
  .have:x≠n:=by rintro rfl;exact h v List.mem_cons_self
   simp[this]
theorem CZ{kindOf:Str->Option NameKind}{x:Str}{v:Value}:∀{P:List Str}{vs:List Value}{i:Nat}{m:Str->Option Value},P.Nodup->P[i]?=some x->vs[i]?=some v->kindOf x=some .local ->
  bindL kindOf (P.zip vs) m x=some v
 | [],_,_,_,_,h,_,_=>by simp at h
 | _::_,[],_,_,_,_,h,_=>by simp at h
 | p::P,w::vs,0,m,nd,h1,h2,hk=>by
  simp at h1 h2;subst h1;subst h2
  show bindL kindOf ((p,w)::P.zip vs) m p=_
  unfold bindL
  rw[Dc λv hv=>(List.nodup_cons.mp nd).1 (List.of_mem_zip hv).1,if_pos hk]
  simp
 | p::P,w::vs,i+1,m,nd,h1,h2,hk=>by
  show bindL kindOf ((p,w)::P.zip vs) m x=_
  unfold bindL
  exact CZ (i:=i) (List.nodup_cons.mp nd).2 (by simpa using h1) (by simpa using h2) hk
theorem CV{kindOf:Str->Option NameKind}{x:Str}{v:Value}:∀{P:List Str}{vs:List Value}{i:Nat}{m:Str->Option Value},P.Nodup->P[i]?=some x->vs[i]?=some v->kindOf x≠some .local ->
  bindC kindOf (P.zip vs) m x=some v
 | [],_,_,_,_,h,_,_=>by simp at h
 | _::_,[],_,_,_,_,h,_=>by simp at h
 | p::P,w::vs,0,m,nd,h1,h2,hk=>by
  simp at h1 h2;subst h1;subst h2
  show bindC kindOf ((p,w)::P.zip vs) m p=_
  unfold bindC
  rw[CW λv hv=>(List.nodup_cons.mp nd).1 (List.of_mem_zip hv).1,if_neg hk]
  simp
 | p::P,w::vs,i+1,m,nd,h1,h2,hk=>by
  show bindC kindOf ((p,w)::P.zip vs) m x=_
  unfold bindC
  exact CV (i:=i) (List.nodup_cons.mp nd).2 (by simpa using h1) (by simpa using h2) hk
def start(N:List Str)(vs:List V):St:=vs.map some++List.replicate (N.length - vs.length) none
def xT(CX:CXT)(P:Program)(w:World)(K:Frag)(mg:Str->Option Value)(base:Heap)(N:List Str)(qual:Str)(scope:Scope)(f:Addr)(cd:Value)(A:Around)(outer:List Env)(s:Shared)(H:Hp)(E:XK):Cx where
 prog:=P
 w:=w
 K:=K
 mg:=mg
 base:=base
 A:=A.deeper (envOfC qual scope s.heap.objs.size f cd)
 N:=N
 s₀:=s
 H₀:=H
 env:=envOfC qual scope s.heap.objs.size f cd
 outer:=outer
 stack:=envOfC qual scope s.heap.objs.size f cd::outer
 ex:=[]
 calm:=true
 fn:=λ_=>true
 pn:=[]
 xe:=λe s'=>wpAny (model P w) (A.deeper (envOfC qual scope s.heap.objs.size f cd)) (leaving (envOfC qual scope s.heap.objs.size f cd) e) (λ_ s''=>CX outer H s E e s'') (λe' s''=>CX outer H s E e' s'') s'
theorem Jg{sc:Scope}{n:Nat}{x:Str}(h:sc.names.lookup x=some .cell):∃c,(cellsFrom n sc.names []).lookup x=some c:=by
 have q:=PySem.W.cellsFrom_some sc.names n [] (.inl h)
 exact Option.isSome_iff_exists.mp q
theorem Pa{CX:CXT}{P:Program}{w:World}{K:Frag}{mg:Str->Option Value}{base:Heap}{N ps:List Str}{qual:Str}{scope:Scope}{f:Addr}{cd:Value}{A:Around}{outer:List Env}{s s1:Shared}{H:Hp}{E:XK}{us:List Value}{vs:List V}
  (S:aF N ps scope) (hd:A.handled=none) (e0:Env0 P w K mg base A outer s H) (hl:vs.length=ps.length) (r:Vals vs us)
  (x:InCallC s s.heap.objs.size (bindL (envOfC qual scope s.heap.objs.size f cd).kindOf (ps.zip us) λ_=>none) (cellsFrom (s.heap.objs.size+1) scope.names []) (bindC (envOfC qual scope s.heap.objs.size f cd).kindOf (ps.zip us) λ_=>none) s1) :
  Inv (xT CX P w K mg base N qual scope f cd A outer s H E) [] (start N vs) H s1:=by
 have hpl:ps.length<=N.length:=by have:=congrArg List.length S.pre;rw[List.length_take] at this;omega
 obtain⟨h1,tk,rfl,hk⟩:=x.done
 have noA:∀b:Addr,b∉(xT CX P w K mg base N qual scope f cd A outer s H E).ex:=λb z=>absurd (show b∈([]:List Addr) from z) (by simp)
 refine⟨⟨e0.mod,S.kind,rfl,rfl,Nat.le_refl _,λy z c h1 h2=>?_,λy hy=>?_,λy c _ h=>?_,λ_=>hd,Around.frames_deeper e0.frames,.inr ⟨rfl,rfl⟩,λb z=>absurd z (noA b),e0.bs,e0.bsz,λb _ _=>noA b,λb z=>absurd z (noA b),e0.xV,e0.frf⟩,
  rfl,e0.bare,Un.kept hk,⟨_,x.toInCall.ns,λi y v h1 h2 h3=>?_⟩,λy c h=>⟨_,x.cell y c h⟩,e0.hok.fresh (Nat.le_refl _),λy c h=>?_,λp hp=>absurd (show p∈([]:List (Addr×Obj)) from hp) (by simp),e0.hok.kept hk,?_⟩
 .exact name_of_addr x.apart (PySem.mem_of_lookup h1) (PySem.mem_of_lookup h2)
 .have hy:scope.names.lookup y=some .cell∨scope.names.lookup y=some .free:=hy
  rcases hy with hy | hy
  .exact Jg hy
  .exact absurd rfl (S.Mm _ (PySem.mem_of_lookup hy))
 .exact Nat.le_of_lt (x.above y c (PySem.mem_of_lookup h))
 .have hi:i<vs.length:=by
   unfold start at h2
   by_cases hi:i<vs.length
   .exact hi
   .rw[List.getElem?_append_right (by simpa using hi)] at h2
    rw[List.getElem?_replicate] at h2
    split at h2 <;> cases h2
  have ha:vs[i]?=some v:=by
   unfold start at h2
   rw[List.getElem?_append_left (by simpa using hi),List.getElem?_map] at h2
   cases e:vs[i]? with
   | none=>rw[e] at h2;cases h2
   | some a=>rw[e] at h2;cases h2;rfl
  obtain⟨u,hu,rv⟩:=r.get ha
  have hp:ps[i]?=some y:=by
   rw[←S.pre,List.getElem?_take_of_lt (by omega)];exact h1
  have ndP:ps.Nodup:=by rw[←S.pre];exact S.nd.sublist (List.take_sublist _ _)
  refine⟨u,rv,?_⟩
  rcases S.par y (List.mem_of_getElem? hp) with k | k
  .exact .inl ⟨k,CZ ndP hp hu k⟩
  .obtain⟨c,e⟩:=Jg (n:=s.heap.objs.size+1) k
   refine .inr ⟨.inl k,c,e,?_⟩
   have q:=x.cell y c e
   rw[CV ndP hp hu (by show scope.names.lookup y≠_;rw[k];decide)] at q
   exact q
 .exact e0.hok.fresh (Nat.le_of_lt (x.above y c (PySem.mem_of_lookup h)))
 .unfold start
  show _=N.length
  rw[List.length_append,List.length_map,List.length_replicate]
  omega
theorem fn_of{CX:CXT}{P:Program}{w:World}{K:Frag}{mg:Str->Option Value}{base:Heap}{k:Nat}{f:Addr}{name qual:Str}{params:Arguments}{body:List Stmt}{scope:Scope}{dV kV doc pm cdv ct oc:Value}{an od:Option Addr}
  {osl:Array (Option Value)} {N ps:List Str} {sp:Sp} (lk:K.lookup f=some ⟨oc,od,.func (PySem.W.fnOf name qual params body scope dV kV doc pm an cdv ct),osl⟩) (hcd:PySem.W.codeIn K cdv qual=true) (S:aF N ps scope)
  (len:∀vs H Q E,sp vs H Q E->vs.length=ps.length)
  (hbody:∀(A:Around)(outer:List Env)(s:Shared)(H:Hp)(vs:List V)(Q:VK)(E:XK),cT k (A.deeper (envOfC qual scope s.heap.objs.size f cdv))->sp vs H Q E ->
   ∃t,PSs (xT CX P w K mg base N qual scope f cdv A outer s H E) body t/\t { nx:=λ_ H'=>Q .non H',rt:=Q } (start N vs) H) :
  bO P w K mg base CX (k+1) f (PySem.W.fnOf name qual params body scope dV kV doc pm an cdv ct) ps sp:=by
 refine⟨len,λA outer s H args us vs Q E hr e0 hb r hsp=>?_⟩
 have hl:=len _ _ _ _ hsp
 have KX:K.In s.heap:=e0.mod.kin.keeps λb o e=>(e0.bs b o e).1
 have lim:s.heap.NoLimit:=e0.mod.nolimit.keeps λb o e=>(e0.bs b o e).1
 have hkind:∀y∈ps.zip us,scope.names.lookup y.1=some .local∨(scope.names.lookup y.1=some .cell/\((cellsFrom (s.heap.objs.size+1) scope.names []).lookup y.1).isSome=true):=λ⟨n,v⟩ hy=>by
  rcases S.par n (List.of_mem_zip hy).1 with q | q
  .exact .inl q
  .exact .inr ⟨q,PySem.W.cellsFrom_some _ _ _ (.inl q)⟩
 refine codeAny_call_function hr.depth (KX _ _ lk) rfl S.co S.gen rfl (PySem.W.codeRec_of KX hcd) (hb _ _ _ _ ?_)
 refine wpAny_newFunctionEnv_cells S.kind hkind λenv he s1 x=>?_
 subst he
 refine⟨lim.keeps x.toInCall.keep,codeAny_func ?_⟩
 obtain⟨t,ht,hq⟩:=hbody A outer s H vs Q E (hr.deeper _) hsp
 have I:Inv (xT CX P w K mg base N qual scope f cdv A outer s H E) [] (start N vs) H s1:=Pa S hr.hd e0 hl r x
 refine wpAny_mono (ht [] s1 (start N vs) H _ I hq) (λfl s' hs=>?_) λe s' hs=>hs
 have fin:∀{σ':St}{H':Hp}{v:V}{u:Value},Inv (xT CX P w K mg base N qual scope f cdv A outer s H E) [] σ' H' s'->RelV v u->Q v H'->CE outer P w H s Q u s' :=
  fun{σ' H' v u} J rv q=>⟨v,H',J.os,J.bare,J.base,J.hok,rv,q⟩
 cases fl with
 | ret u =>
  obtain⟨v,σ',H',J,rv,q⟩:=hs
  exact fin J rv q
 | next =>
  obtain⟨σ',H',J,q⟩:=hs
  exact fin (v:=V.non) (u:=Value.none) J rfl q
 | brk =>
  obtain⟨_,_,_,q⟩:=hs
  exact False.elim q
 | cont =>
  obtain⟨_,_,_,q⟩:=hs
  exact False.elim q
end L2
namespace L2
open PySem PySem.Spec PyProof.Rows
section
variable{X:Cx}{x:Str}{p pos:Pos}{e:Expr}{es:List Expr}{t:TA}{id T:String}{r:List V->Hp->VK->Prop}
def tCB(r:List V->Hp->VK->Prop)(t:TA):TE:=λσ H Q=>t σ H λvs H1=>r vs H1 Q
theorem uX(hc:iM X (.builtin id) r)(hg:Gl X x)(hm:X.mg x=none)(hv:bootBuiltins x=some (.builtin id))(ha:PA X (e::es) t)(hn:x≠"__name__":=by decide)(hdb:(x==("__debug__":Str))=false:=by decide)
  (he:starEach (e::es) X.env=(false,eval e X.env)::starEach es X.env:=by rfl) (hpl:(backTo pos (starEach es X.env)).any (·.1)=false:=by rfl):PE X (.Call (.Name x p) (e::es) [] pos) (tCB r t):=by
 intro pins s σ H Q I h
 refine wpAny_Call_Name_kw (qC I hg hm hv ?_ hn hdb)
 exact PyProof.Rows.callWith_builtin1 (thn (ha pos pins s σ H _ I h) λus s1 ⟨vs,H1,I1,r1,q1⟩=>hc pins s1 σ H1 vs us Q I1 r1 q1) he hpl
theorem lU(hc:iM X (.type T) r)(hg:Gl X x)(hm:X.mg x=none)(hv:bootBuiltins x=some (.type T))(ha:PA X (e::es) t)(hn:x≠"__name__":=by decide)(hdb:(x==("__debug__":Str))=false:=by decide)
  (he:starEach (e::es) X.env=(false,eval e X.env)::starEach es X.env:=by rfl) (hpl:(backTo pos (starEach es X.env)).any (·.1)=false:=by rfl):PE X (.Call (.Name x p) (e::es) [] pos) (tCB r t):=by
 intro pins s σ H Q I h
 refine wpAny_Call_Name_kw (qC I hg hm hv ?_ hn hdb)
 exact PyProof.Rows.callWith_type1 (thn (ha pos pins s σ H _ I h) λus s1 ⟨vs,H1,I1,r1,q1⟩=>hc pins s1 σ H1 vs us Q I1 r1 q1) he hpl
end
end L2
namespace HT
open PySem PyProof.Rows
section
open PySem.SeqAt
open PySem.AutoSeq1 (wpAny_loadPart')
open PySem.MeetsSeq PySem.MeetsSeq2 PySem.MeetsSeq3
end
section
variable{prog:Program}{w:World}{A:Around}{E:Value->Shared->Prop}{s:Shared}
def sIx(n d:Nat):Option Int->Nat
 | none=>d
 | some v=>if v<0 then (v+(n:Int)).toNat else min v.toNat n
theorem Kf(n d:Nat):sIx n d none=d:=rfl
theorem N7(n d k:Nat):sIx n d (some (k:Int))=min k n:=by
 show (if (k:Int)<0 then ((k:Int)+(n:Int)).toNat else min (k:Int).toNat n)=min k n
 rw[if_neg (by omega),Int.toNat_natCast]
end
end HT
namespace L2
open PySem PySem.Spec PyProof.Rows
abbrev TO:=St->Hp->(Option Int->Hp->Prop)->Prop
def PO(X:Cx)(e:Option Expr)(t:TO):Prop :=
 ∀(pins:List (Addr×Obj))(s:Shared)(σ:St)(H:Hp)(Q:Option Int->Hp->Prop),Inv X pins σ H s->t σ H Q ->
  wpAny (model X.prog X.w) X.A (evalPart e X.env) (λu s'=>∃o H',Inv X pins σ H' s'/\IsPart u o/\Q o H') X.xe s
def tNoPart:TO:=λ_ H Q=>Q none H
def tPart(t:TE):TO:=λσ H Q=>t σ H λx H1=>∃i,x=.int i/\Q (some i) H1
section
variable{X:Cx}{e:Expr}{te:TE}{lo hi:Option Expr}{tl th:TO}{pos p2:Pos}
theorem po_none:PO X none tNoPart:=by
 intro pins s σ H Q I h
 rw[evalPart_none]
 exact wpAny_pure ⟨none,H,I,.none,h⟩
theorem po_some(h:PE X e te):PO X (some e) (tPart te):=by
 intro pins s σ H Q I hw
 rw[evalPart_some]
 refine thn (h pins s σ H _ I hw) λu s1 ⟨x,H1,I1,r1,q1⟩=>?_
 obtain⟨i,rfl,q⟩:=q1
 obtain⟨t,rfl⟩:=r1
 exact⟨some i,H1,I1,.int i t,q⟩
def SlR(X:Cx)(r:V->Option Int->Option Int->Hp->VK->Prop):Prop :=
 ∀(pins:List (Addr×Obj))(s:Shared)(σ:St)(H:Hp)(x:V)(v vl vu:Value)(lo hi:Option Int)(sl:Addr)(Q:VK),Inv X pins σ H s->RelV x v->s.heap.IsSliceOf sl vl vu .none->IsPart vl lo->IsPart vu hi->r x lo hi H Q ->
  ∃T id,typeLookup (.type T) "__getitem__"=pure (some (.builtin id))/\s.TypeIs v T/\wpAny (model X.prog X.w) X.A (getItem v (.ref sl)) (EP X pins σ Q) X.xe s
theorem SlR.or{r r':V->Option Int->Option Int->Hp->VK->Prop}(h:SlR X r)(h':SlR X r'):SlR X (λx lo hi H Q=>r x lo hi H Q∨r' x lo hi H Q):=by
 intro pins s σ H x v vl vu lo hi sl Q I rx hs pl pu q
 rcases q with q | q
 .exact h pins s σ H x v vl vu lo hi sl Q I rx hs pl pu q
 .exact h' pins s σ H x v vl vu lo hi sl Q I rx hs pl pu q
def tSl(r:V->Option Int->Option Int->Hp->VK->Prop)(te:TE)(tl th:TO):TE:=λσ H Q=>te σ H λx H1=>tl σ H1 λl H2=>th σ H2 λu H3=>r x l u H3 Q
theorem pe_slice{r:V->Option Int->Option Int->Hp->VK->Prop}(hr:SlR X r)(he:PE X e te)(hl:PO X lo tl)(hu:PO X hi th):PE X (.Subscript e (.Slice lo hi none p2) pos) (tSl r te tl th):=by
 intro pins s σ H Q I h
 refine Subscript_ (thn (he pins s σ H _ I h) λv s1 ⟨x,H1,I1,r1,q1⟩=>?_)
 refine wpAny_Slice (thn (hl pins s1 σ H1 _ I1 q1) λvl s2 ⟨l,H2,I2,pl,q2⟩=>thn (hu pins s2 σ H2 _ I2 q2) λvu s3 ⟨u,H3,I3,pu,q3⟩=>?_)
 rw[evalPart_none]
 refine wpAny_pure ?_
 have I4:Inv X pins σ H3 { s3 with heap:=s3.heap.push { cls:=.type "slice",data:=.fields #[vl,vu,.none] } }:=I3.kept (t':=s3.toks) λb ob q=>Heap.get?_push_of_some _ q
 obtain⟨T,id,hT,ht,hg⟩:=hr pins { s3 with heap:=s3.heap.push { cls:=.type "slice",data:=.fields #[vl,vu,.none] } } σ H3 x v vl vu l u s3.heap.objs.size Q I4 r1 (Heap.IsSliceOf.new ..) pl pu q3
 show wpAny (model X.prog X.w) X.A (subscriptTail e (.Slice lo hi none p2) v (.ref s3.heap.objs.size)) (EP X pins σ Q) X.xe { s3 with heap:=s3.heap.push { cls:=.type "slice",data:=.fields #[vl,vu,.none] } }
 exact tail_any (ops:=[.ref s3.heap.objs.size,v]) ht hT hg (by with_unfolding_all rfl)
def cutV(xs:List V)(lo hi:Option Int):List V:=(xs.drop (HT.sIx xs.length 0 lo)).take (HT.sIx xs.length xs.length hi - HT.sIx xs.length 0 lo)
theorem Ji(xs:List V)(lo hi:Option Int):(cutV xs lo hi).length<=xs.length:=by
 unfold cutV
 rw[List.length_take,List.length_drop]
 omega
end
end L2
namespace L2
open PySem PySem.Spec PyProof.Rows
def ixN(n:Nat)(i:Int):Option Nat:=if 0<=i then (if i<n then some i.toNat else none) else if -(n:Int)<=i then some (i+n).toNat else none
def atI{α:Type}(xs:List α)(i:Int):Option α:=(ixN xs.length i).bind λj=>xs[j]?
theorem Nv{n:Nat}{i:Int}{j:Nat}(h:ixN n i=some j):seqIndex? i n=some j/\j<n/\-(n:Int)<=i/\i<n:=by
 unfold ixN at h
 by_cases h0:0<=i
 .rw[if_pos h0] at h
  by_cases h1:i<n
  .rw[if_pos h1] at h
   have e:i.toNat=j:=Option.some.inj h
   exact⟨by rw[seqIndex_of h0 h1,e],by omega,by omega,h1⟩
  .rw[if_neg h1] at h;cases h
 .rw[if_neg h0] at h
  by_cases h1:-(n:Int)<=i
  .rw[if_pos h1] at h
   have e:(i+n).toNat=j:=Option.some.inj h
   exact⟨by rw[seqIndex_neg (by omega) h1,e],by omega,h1,by omega⟩
  .rw[if_neg h1] at h;cases h
theorem Ex{α:Type}{xs:List α}{i:Int}{v:α}(h:atI xs i=some v):∃j,seqIndex? i xs.length=some j/\xs[j]?=some v/\j<xs.length/\-(xs.length:Int)<=i/\i<xs.length:=by
 unfold atI at h
 cases e:ixN xs.length i with
 | none=>rw[e] at h;cases h
 | some j =>
  rw[e] at h
  obtain⟨h1,h2,h3,h4⟩:=Nv e
  exact⟨j,h1,h,h2,h3,h4⟩
theorem fW{α:Type}{xs:List α}{j:Nat}{v:α}(h:xs[j]?=some v):atI xs (j:Int)=some v:=by
 have hj:j<xs.length:=(List.getElem?_eq_some_iff.mp h).1
 have e:ixN xs.length (j:Int)=some j:=by
  unfold ixN
  rw[if_pos (by omega),if_pos (by omega)];simp
 unfold atI;rw[e];exact h
def Ep(b:Expr):Prop:=∀o i,subscripted b false o i=operate [o,i] (getItem o i)
def IxR(X:Cx)(r:R2):Prop :=
 ∀(value slice:Expr)(pins:List (Addr×Obj))(s:Shared)(σ:St)(H:Hp)(x y:V)(v u:Value)(Q:VK),Inv X pins σ H s->RelV x v->RelV y u->r x y H Q ->
  subscripted slice false v u=operate [v,u] (getItem v u)->wpAny (model X.prog X.w) X.A (subscriptTail value slice v u) (EP X pins σ Q) X.xe s
def MtR(X:Cx)(id:String)(r:V->List V->Hp->VK->Prop):Prop :=
 ∀(pins:List (Addr×Obj))(s:Shared)(σ:St)(H:Hp)(x:V)(xs:List V)(v:Value)(us:List Value)(Q:VK),Inv X pins σ H s->RelV x v->Vals xs us->r x xs H Q ->
  wpAny (model X.prog X.w) X.A (call (.builtin id) (v::us)) (EP X pins σ Q) X.xe s
section
variable{X:Cx}{a b:Expr}{ta tb:TE}{pos:Pos}
theorem IxR.or{r r':R2}(h:IxR X r)(h':IxR X r'):IxR X (λx y H Q=>r x y H Q∨r' x y H Q):=by
 intro value slice pins s σ H x y v u Q I rx ry q hs
 rcases q with q | q
 .exact h value slice pins s σ H x y v u Q I rx ry q hs
 .exact h' value slice pins s σ H x y v u Q I rx ry q hs
theorem pe_ix{r:R2}(hr:IxR X r)(ha:PE X a ta)(hb:PE X b tb)(hs:Ep b):PE X (.Subscript a b pos) (tOp r ta tb):=by
 intro pins s σ H Q I h
 exact Subscript_ (binT ha hb I h λv u s2 x y H2 I2 rx ry q=>hr a b pins s2 σ H2 x y v u Q I2 rx ry q (hs _ _))
def rIxL(K:Frag):R2:=λx y H Q=>∃p xs i v,x=.ref p/\y=.int i/\SqL K H p xs/\atI xs i=some v/\Q v H
def rIxT(K:Frag):R2:=λx y H Q=>∃p xs i v,x=.ref p/\y=.int i/\SqT K H p xs/\atI xs i=some v/\Q v H
def rIxS:R2:=λx y H Q=>∃z i c,x=.str z/\y=.int i/\z.length<=sizeLine/\atI z.cps.toList i=some c/\Q (.str ⟨#[c]⟩) H
theorem Nx:IxR X (rIxL X.K):=by
 intro value slice pins s σ H x y v u Q I rx ry h hs
 obtain⟨p,xs,i,z,rfl,rfl,hq,he,q⟩:=h
 cases rx
 obtain⟨t,rfl⟩:=ry
 obtain⟨its,r,pl,hz⟩:=I.list hq
 obtain⟨j,h1,h2,h3,h4,h5⟩:=Ex he
 obtain⟨w,ew,rw'⟩:=r.get h2
 have hl:=r.length
 have hn:=tR
 have fin:EP X pins σ Q w s:=⟨z,H,I,rw',q⟩
 by_cases h0:0<=i
 .have hj:i.toNat=j:=by
   rw[seqIndex_of h0 h5] at h1
   exact Option.some.inj h1
  exact item_listR pl.isList h0 (by omega) (by rw[hj];simpa using ew) fin hs
 .have hj:(i+(its.toArray.size:Int)).toNat=j:=by
   rw[seqIndex_neg (by omega) h4] at h1
   rw[List.size_toArray,←hl]
   exact Option.some.inj h1
  exact subscriptTail_builtinR (x:=w) pl.isList.typeIs slot_list_getitem.lookup
   (wpAny_getItem_list_neg (Q:=λr s'=>r=w/\EP X pins σ Q r s') pl.isList (by omega) (by rw[List.size_toArray] <;> omega) (by omega) (by rw[hj];simpa using ew) ⟨rfl,fin⟩) hs
theorem ix_tup:IxR X (rIxT X.K):=by
 intro value slice pins s σ H x y v u Q I rx ry h hs
 obtain⟨p,xs,i,z,rfl,rfl,hq,he,q⟩:=h
 cases rx
 obtain⟨t,rfl⟩:=ry
 obtain⟨its,r,pl,hz⟩:=I.tuple hq
 obtain⟨j,h1,h2,h3,h4,h5⟩:=Ex he
 obtain⟨w,ew,rw'⟩:=r.get h2
 have hl:=r.length
 have hn:=tR
 have fin:EP X pins σ Q w s:=⟨z,H,I,rw',q⟩
 exact subscriptTail_builtinR (x:=w) pl.typeIs slot_tuple_getitem.lookup
  (getItem_tuple (j:=j) (Q:=λr s'=>r=w/\EP X pins σ Q r s') pl (by omega) (by omega) (by rw[List.size_toArray,←hl];exact h1) (by simpa using ew) ⟨rfl,fin⟩) hs
theorem ix_str:IxR X rIxS:=by
 intro value slice pins s σ H x y v u Q I rx ry h hs
 obtain⟨z,i,c,rfl,rfl,hz,he,q⟩:=h
 obtain⟨t,rfl⟩:=rx
 obtain⟨t',rfl⟩:=ry
 obtain⟨j,h1,h2,h3,h4,h5⟩:=Ex he
 have hl:z.cps.toList.length=z.length:=by simp[Str.length]
 rw[hl] at h1 h4 h5
 have hn:=tR
 exact tail_any (typeIs_str s z t) slot_str_getitem.lookup (getItem_str (c:=c) (by
  have e1:decide (i < -(2 ^ 63:Int))=false:=decide_eq_false (by omega)
  have e2:decide (i≥2 ^ 63)=false:=decide_eq_false (by omega)
  rw[e1,e2,Bool.or_false]) (by rw[h1];simpa using h2) ⟨.str ⟨#[c]⟩,H,I.tok _,⟨_,rfl⟩,q⟩) hs
def rIx(K:Frag):R2:=λx y H Q=>rIxL K x y H Q∨rIxT K x y H Q∨rIxS x y H Q
theorem ix_seq:IxR X (rIx X.K):=Nx.or (ix_tup.or ix_str)
theorem Ml(its:List Value)(n j:Nat)(u:Value):Obj.mapSeq (·.setIfInBounds j u) { cls:=.type "list",data:=.seq its.toArray n }={ cls:=.type "list",data:=.seq (its.set j u).toArray n }:=by
 simp[Obj.mapSeq]
theorem Inv.lst{pins:List (Addr×Obj)}{σ:St}{H:Hp}{s:Shared}{p:Addr}{xs:List V}(I:Inv X pins σ H s)(h:H p=some (.lst xs)):
  ∃(its:List Value)(n:Nat),Vals xs its/\s.heap.get? p=some { cls:=.type "list",data:=.seq its.toArray n }/\xs.length<=sizeLine:=by
 obtain⟨z,its,n,r,e⟩:=I.hok p _ h
 exact⟨its,n,r,e,z⟩
theorem Inv.lstUpd{pins:List (Addr×Obj)}{σ:St}{H:Hp}{s:Shared}{p:Addr}{xs ys:List V}{its its':List Value}{n n':Nat}{f:Obj->Obj}(I:Inv X pins σ H s)(h:H p=some (.lst xs))
  (ho:s.heap.get? p=some { cls:=.type "list",data:=.seq its.toArray n }) (hf:f { cls:=.type "list",data:=.seq its.toArray n }={ cls:=.type "list",data:=.seq its'.toArray n' }) (r:Vals ys its') (hz:ys.length<=sizeLine) (t:Nat) :
  Inv X pins σ (upd H p (.lst ys)) { s with heap:=s.heap.update p f,toks:=t }:=by
 have e:(s.heap.update p f).get? p=some { cls:=.type "list",data:=.seq its'.toArray n' }:=by
  rw[Heap.get?_update_self f ho (by rw[hf] <;> rfl),hf]
 refine I.write (x:=p) (e:=p) (by rw[h];trivial) (.inl rfl) (λb u hb q=>(Heap.get?_update_other _ _ (Ne.symm hb)).trans q) ⟨_,e⟩ ?_
 exact⟨hz,its',n',r,e⟩
def rSetL:V->V->V->Hp->(Hp->Prop)->Prop:=λo i v H Q=>∃p xs k j,o=.ref p/\i=.int k/\H p=some (.lst xs)/\ixN xs.length k=some j/\Q (upd H p (.lst (xs.set j v)))
theorem set_list:PSet X rSetL:=by
 intro pins s σ H o i v ov iv u Q I ro ri rv h
 obtain⟨p,xs,k,j,rfl,rfl,hp,hj,q⟩:=h
 cases ro
 obtain⟨t,rfl⟩:=ri
 obtain⟨its,n,r,ho,hz⟩:=I.lst hp
 obtain⟨h1,h2,h3,h4⟩:=Nv hj
 have hl:=r.length
 have hn:=tR
 have I':Inv X pins σ (upd H p (.lst (xs.set j v))) { s with heap:=s.heap.update p (Obj.mapSeq (·.setIfInBounds j u)) } :=
  I.lstUpd hp ho (Ml its n j u) (r.set rv j) (by rw[List.length_set];exact hz) s.toks
 by_cases h0:0<=k
 .have hk:k.toNat=j:=by
   rw[seqIndex_of h0 h4] at h1
   exact Option.some.inj h1
  exact PySem.W.ki_setAt ho h0 (by omega) (by rw[List.size_toArray,←hl];exact h4) (by rw[hk];exact⟨_,I',q⟩)
 .have hk:(k+(its.toArray.size:Int)).toNat=j:=by
   rw[seqIndex_neg (by omega) h3] at h1
   rw[List.size_toArray,←hl]
   exact Option.some.inj h1
  exact PySem.W.ki_setBack ho (by omega) (by rw[List.size_toArray,←hl];exact h3) (by omega) (by rw[hk];exact⟨_,I',q⟩)
theorem HB(lo hi:Option Int)(n:Nat):(sliceBounds lo hi none n).1=((HT.sIx n 0 lo:Nat):Int)/\(sliceBounds lo hi none n).2.1=((HT.sIx n n hi:Nat):Int)/\(sliceBounds lo hi none n).2.2=1:=by
 refine⟨?_,?_,rfl⟩
 .cases lo with
  | none=>simp[sliceBounds,HT.sIx]
  | some i =>
   simp only[sliceBounds,HT.sIx,Option.getD_none,show (1:Int)>0 by decide,if_true]
   by_cases h:i<0
   .simp only[h,if_true] <;> omega
   .simp only[h,if_false] <;> omega
 .cases hi with
  | none=>simp[sliceBounds,HT.sIx]
  | some i =>
   simp only[sliceBounds,HT.sIx,Option.getD_none,show (1:Int)>0 by decide,if_true]
   by_cases h:i<0
   .simp only[h,if_true] <;> omega
   .simp only[h,if_false] <;> omega
theorem Cv(its:List Value)(lo hi:Option Int):slicePick its.toArray lo hi none=((its.drop (HT.sIx its.length 0 lo)).take (HT.sIx its.length its.length hi - HT.sIx its.length 0 lo)).toArray:=by
 obtain⟨h1,h2,h3⟩:=HB lo hi its.toArray.size
 unfold slicePick
 rw[h1,h2,h3]
 simp only[sliceRange_one,pick_run,List.size_toArray] <;> rfl
def rSlL(K:Frag):V->Option Int->Option Int->Hp->VK->Prop:=λx lo hi H Q=>∃a xs,x=.ref a/\SqL K H a xs/\∀p,H p=none->Q (.ref p) (upd H p (.lst (cutV xs lo hi)))
theorem sl_list:SlR X (rSlL X.K):=by
 intro pins s σ H x v vl vu lo hi sl Q I rx hs pl pu h
 obtain⟨a,xs,rfl,hx,q⟩:=h
 cases rx
 obtain⟨its,r,ht,hz⟩:=I.list hx
 have hlen:=r.length
 refine⟨"list",_,slot_list_getitem.lookup,ht.isList.typeIs,?_⟩
 refine wpAny_getItem_list_slice ht.isList hs pl pu .none (by simp) ?_ (by rw[List.size_toArray] <;> omega)
 rw[Cv,←hlen]
 refine⟨.ref s.heap.objs.size,_,I.laid (t':=s.toks) (o:=.lst (cutV xs lo hi)) (λb ob q=>Heap.get?_push_of_some _ q) (Nat.le_refl _) ?_,rfl,q _ (I.hok.fresh (Nat.le_refl _))⟩
 exact⟨Nat.le_trans (Ji xs lo hi) hz,_,0,(r.drop (HT.sIx xs.length 0 lo)).take (HT.sIx xs.length xs.length hi - HT.sIx xs.length 0 lo),Heap.get?_push_size _ rfl⟩
def oH:V->Bool
 | .non=>true
 | .bl _=>true
 | .int _=>true
 | .str _=>true
 | _=>false
def eqV:V->V->Bool
 | .non,.non=>true
 | .bl a,.bl b=>a==b
 | .bl a,.int b=>(if a then 1 else 0)==b
 | .int a,.bl b=>a==(if b then 1 else 0)
 | .int a,.int b=>a==b
 | .str a,.str b=>a==b
 | _,_=>false
theorem eqAt_V{A:Around}{s:Shared}{y x:V}{u v:Value}(ry:RelV y u)(rx:RelV x v)(fy:oH y=true)(fx:oH x=true):SeqAt.EqAt A s u v (eqV y x):=by
 cases y with
 | non =>
  cases ry
  cases x with
  | non=>cases rx;exact SeqAt.EqAt.same _
  | bl b=>cases rx;exact SeqAt.EqAt.none_bool b
  | int b=>obtain⟨t,rfl⟩:=rx;exact SeqAt.EqAt.none_int b t
  | str b=>obtain⟨t,rfl⟩:=rx;exact SeqAt.EqAt.none_str b t
  | _=>exact absurd (show false=true from fx) Bool.false_ne_true
 | bl a =>
  cases ry
  cases x with
  | non=>cases rx;exact SeqAt.EqAt.bool_none a
  | bl b=>cases rx;exact SeqAt.EqAt.bool_bool a b
  | int b=>obtain⟨t,rfl⟩:=rx;exact SeqAt.EqAt.bool_int a b t
  | str b=>obtain⟨t,rfl⟩:=rx;exact SeqAt.EqAt.bool_str a b t
  | _=>exact absurd (show false=true from fx) Bool.false_ne_true
 | int a =>
  obtain⟨t',rfl⟩:=ry
  cases x with
  | non=>cases rx;exact SeqAt.EqAt.int_none a t'
  | bl b=>cases rx;exact SeqAt.EqAt.int_bool a t' b
  | int b=>obtain⟨t,rfl⟩:=rx;exact SeqAt.EqAt.int_int a t' b t
  | str b=>obtain⟨t,rfl⟩:=rx;exact SeqAt.EqAt.int_str a t' b t
  | _=>exact absurd (show false=true from fx) Bool.false_ne_true
 | str a =>
  obtain⟨t',rfl⟩:=ry
  cases x with
  | non=>cases rx;exact SeqAt.EqAt.str_none a t'
  | bl b=>cases rx;exact SeqAt.EqAt.str_bool a t' b
  | int b=>obtain⟨t,rfl⟩:=rx;exact SeqAt.EqAt.str_int a t' b t
  | str b=>obtain⟨t,rfl⟩:=rx;exact SeqAt.EqAt.str_str a t' b t
  | _=>exact absurd (show false=true from fx) Bool.false_ne_true
 | _=>exact absurd (show false=true from fy) Bool.false_ne_true
def eqU(x:V)(u:Value):Bool:=match u with
 | .none=>eqV .non x
 | .bool b=>eqV (.bl b) x
 | .int i _=>eqV (.int i) x
 | .str z _=>eqV (.str z) x
 | _=>false
theorem eqU_of{x y:V}{u:Value}(r:RelV y u)(f:oH y=true):eqU x u=eqV y x:=by
 cases y with
 | non=>cases r;rfl
 | bl b=>cases r;rfl
 | int i=>obtain⟨t,rfl⟩:=r;rfl
 | str z=>obtain⟨t,rfl⟩:=r;rfl
 | _=>exact absurd (show false=true from f) Bool.false_ne_true
theorem uq{x:V}:∀{xs:List V}{us:List Value},Vals xs us->xs.all oH=true->us.any (eqU x)=xs.any λy=>eqV y x
 | _,_,.nil,_=>rfl
 | y::xs,u::us,.cons r t,f=>by
  rw[List.all_cons,Bool.and_eq_true] at f
  rw[List.any_cons,List.any_cons,eqU_of r f.1,uq t f.2]
theorem qH{A:Around}{s:Shared}{x:V}{v:Value}(rx:RelV x v)(fx:oH x=true):∀{xs:List V}{us:List Value},Vals xs us->xs.all oH=true->∀u∈us,SeqAt.EqAt A s u v (eqU x u)
 | _,_,.nil,_=>λu hu=>by cases hu
 | y::xs,u::us,.cons r t,f=>λu' hu=>by
  rw[List.all_cons,Bool.and_eq_true] at f
  rcases List.mem_cons.mp hu with rfl | hu
  .rw[eqU_of r f.1];exact eqAt_V r rx f.1 fx
  .exact qH rx fx t f.2 u' hu
def inV(x:V)(xs:List V):Bool:=xs.any λy=>eqV y x
def rIn(K:Frag)(neg:Bool):R2:=λx y H Q=>∃p xs,y=.ref p/\(SqL K H p xs∨SqT K H p xs)/\oH x=true/\xs.all oH=true/\Q (.bl (if neg then !inV x xs else inV x xs)) H
theorem Du:OpR X (compareOp .In) (rIn X.K false):=by
 intro pins s σ H x y v u Q I rx ry h
 obtain⟨p,xs,rfl,hq,fx,fs,q⟩:=h
 cases ry
 rcases hq with hq | hq
 .obtain⟨its,r,pl,hz⟩:=I.list hq
  refine SeqAt.in_listAt (eqU x) pl.isList (λw hw=>qH rx fx r fs w (by simpa using hw)) ⟨.bl _,H,I,rfl,?_⟩
  rw[show its.toArray.any (eqU x)=its.any (eqU x) by simp,uq r fs]
  exact q
 .obtain⟨its,r,pl,hz⟩:=I.tuple hq
  refine SeqAt.in_tupleAt (eqU x) pl (λw hw=>qH rx fx r fs w (by simpa using hw)) ⟨.bl _,H,I,rfl,?_⟩
  rw[show its.toArray.any (eqU x)=its.any (eqU x) by simp,uq r fs]
  exact q
theorem Hf:OpR X (compareOp .NotIn) (rIn X.K true):=by
 intro pins s σ H x y v u Q I rx ry h
 obtain⟨p,xs,rfl,hq,fx,fs,q⟩:=h
 cases ry
 rcases hq with hq | hq
 .obtain⟨its,r,pl,hz⟩:=I.list hq
  refine SeqAt.notIn_listAt (eqU x) pl.isList (λw hw=>qH rx fx r fs w (by simpa using hw)) ⟨.bl _,H,I,rfl,?_⟩
  rw[show its.toArray.any (eqU x)=its.any (eqU x) by simp,uq r fs]
  exact q
 .obtain⟨its,r,pl,hz⟩:=I.tuple hq
  refine SeqAt.notIn_tupleAt (eqU x) pl (λw hw=>qH rx fx r fs w (by simpa using hw)) ⟨.bl _,H,I,rfl,?_⟩
  rw[show its.toArray.any (eqU x)=its.any (eqU x) by simp,uq r fs]
  exact q
theorem Ft:iM X (.builtin "len") (λxs H Q=>∃p ys,xs=[.ref p]/\(SqL X.K H p ys∨SqT X.K H p ys)/\Q (.int ys.length) H):=by
 intro pins s σ H xs us Q I r h
 obtain⟨p,ys,rfl,hq,q⟩:=h
 obtain⟨u,rfl,rx⟩:=vals1 r
 cases rx
 have hn:=tR
 rcases hq with hq | hq
 .obtain⟨its,r',pl,hz⟩:=I.list hq
  have hlen:=r'.length
  exact Calls.call_len_list pl.isList (by simp only[List.size_toArray] <;> omega) ⟨.int ys.length,H,I.tok _,⟨s.toks+1,by rw[List.size_toArray,hlen]⟩,q⟩
 .obtain⟨its,r',pl,hz⟩:=I.tuple hq
  have hlen:=r'.length
  exact len_tuple pl (by simp only[List.size_toArray] <;> omega) ⟨.int ys.length,H,I.tok _,⟨s.toks+1,by rw[List.size_toArray,hlen]⟩,q⟩
theorem Fv:iM X (.builtin "len") (λxs H Q=>∃z,xs=[.str z]/\z.length<=sizeLine/\Q (.int z.length) H):=by
 intro pins s σ H xs us Q I r h
 obtain⟨z,rfl,hz,q⟩:=h
 obtain⟨u,rfl,t,rfl⟩:=vals1 r
 have hn:=tR
 exact len_str (by omega) ⟨.int z.length,H,I.tok _,⟨_,rfl⟩,q⟩
theorem iM.or{f:Value}{r r':List V->Hp->VK->Prop}(h:iM X f r)(h':iM X f r'):iM X f (λxs H Q=>r xs H Q∨r' xs H Q):=by
 intro pins s σ H xs us Q I rs q
 rcases q with q | q
 .exact h pins s σ H xs us Q I rs q
 .exact h' pins s σ H xs us Q I rs q
theorem Fw:iM X (.type "list") (λxs H Q=>∃p ys,xs=[.ref p]/\(SqL X.K H p ys∨SqT X.K H p ys)/\∀l,H l=none->Q (.ref l) (upd H l (.lst ys))):=by
 intro pins s σ H xs us Q I r h
 obtain⟨p,ys,rfl,hq,q⟩:=h
 obtain⟨u,rfl,rx⟩:=vals1 r
 cases rx
 have fin:∀(its:List Value),Vals ys its->ys.length<=sizeLine->∀(h':Heap)(c':Nat),(∀b o',s.heap.get? b=some o'->h'.get? b=some o') ->
   h'.get? s.heap.objs.size=some { cls:=.type "list",dict:=none,data:=.seq its.toArray c',slots:=#[] }->EP X pins σ Q (.ref s.heap.objs.size) { s with heap:=h' }:=λits r' hz h' c' kp e =>
  ⟨.ref s.heap.objs.size,_,I.laid (t':=s.toks) kp (Nat.le_refl _) (show cC X.prog X.w _ h' _ (.lst ys) from ⟨hz,its,c',r',e⟩),rfl,q _ (I.hok.fresh (Nat.le_refl _))⟩
 rcases hq with hq | hq
 .obtain⟨its,r',pl,hz⟩:=I.list hq
  have hlen:=r'.length
  obtain⟨o,ho,hc,n,hd⟩:=pl.isList
  exact call_list_seq p (.inl rfl) ho hc hd (λh' c' kp e=>fin its r' hz h' c' kp e) (by simp only[List.size_toArray] <;> omega)
 .obtain⟨its,r',pl,hz⟩:=I.tuple hq
  have hlen:=r'.length
  obtain⟨o,ho,hc,n,hd⟩:=pl
  exact call_list_seq p (.inr rfl) ho hc hd (λh' c' kp e=>fin its r' hz h' c' kp e) (by simp only[List.size_toArray] <;> omega)
theorem Bv:iM X (.type "tuple") (λxs H Q=>∃p ys,xs=[.ref p]/\((SqL X.K H p ys/\∀l,H l=none->Q (.ref l) (upd H l (.tup ys)))∨(SqT X.K H p ys/\Q (.ref p) H))):=by
 intro pins s σ H xs us Q I r h
 obtain⟨p,ys,rfl,h⟩:=h
 obtain⟨u,rfl,rx⟩:=vals1 r
 cases rx
 rcases h with⟨hq,q⟩| ⟨hq,q⟩
 .obtain⟨its,r',pl,hz⟩:=I.list hq
  have hlen:=r'.length
  refine call_tuple_list pl.isList (λh' kp=>?_) (by simp only[List.size_toArray] <;> omega)
  have I1:Inv X pins σ H { s with heap:=h' }:=I.kept (t':=s.toks) kp
  have I2:Inv X pins σ (upd H h'.objs.size (.tup ys)) { s with heap:=h'.push { cls:=.type "tuple",data:=.seq its.toArray } } :=
   I1.laid (t':=s.toks) (λb o e=>Heap.get?_push_of_some _ e) (Nat.le_refl _) (show cC X.prog X.w _ _ _ (.tup ys) from ⟨hz,its,r',IsTup.new _ _⟩)
  exact⟨.ref h'.objs.size,_,I2,rfl,q _ (I1.hok.fresh (Nat.le_refl _))⟩
 .obtain⟨its,r',pl,hz⟩:=I.tuple hq
  exact call_tuple_same pl ⟨.ref p,H,I,rfl,q⟩
def tyV(K:Frag)(T:String)(x:V)(H:Hp):Prop:=match x with
 | .str _=>T="str"
 | .int _=>T="int"
 | .ref p=>(T="list"/\∃xs,SqL K H p xs)∨(T="tuple"/\∃o,K.lookup p=some o/\o.cls=.type "tuple"/\o.dict=none) ∨
   (T="dict"/\((∃kvs,H p=some (.dK kvs))∨∃kvs,H p=some (.dT kvs)))∨(T="set"/\∃S n,H p=some (.set S n))
 | _=>False
theorem tyV_is{pins:List (Addr×Obj)}{σ:St}{H:Hp}{s:Shared}{T:String}{x:V}{v:Value}(I:Inv X pins σ H s)(r:RelV x v)(ty:tyV X.K T x H):
  s.TypeIs v T/\∀a,v=.ref a->∃ob,s.heap.get? a=some ob/\ob.dict=none:=by
 cases x with
 | str z =>
  obtain⟨t,rfl⟩:=r
  cases (show T="str" from ty)
  exact⟨typeIs_str s z t,λ_ e=>nomatch e⟩
 | int i =>
  obtain⟨t,rfl⟩:=r
  cases (show T="int" from ty)
  exact⟨typeIs_int s i t,λ_ e=>nomatch e⟩
 | ref p =>
  cases r
  rcases ty with⟨rfl,xs,hq⟩| ⟨rfl,o,hk,hc,hd⟩| ⟨rfl,hk⟩| ⟨rfl,S,n,hk⟩
  .obtain⟨its,_,pl,_⟩:=I.list hq
   refine⟨pl.isList.typeIs,λa e=>?_⟩
   cases e
   obtain⟨o,n,e,c,hd,_⟩:=pl
   exact⟨o,e,hd⟩
  .refine⟨⟨o,I.kIn p o hk,hc⟩,λa e=>?_⟩
   cases e
   exact⟨o,I.kIn _ o hk,hd⟩
  .have z:∃o,s.heap.get? p=some o/\o.ExactDict:=by
    rcases hk with⟨kvs,hk⟩| ⟨kvs,hk⟩
    .obtain⟨_,_,_,_,o,_,_,e,ex,_⟩:=I.hok p _ hk
     exact⟨o,e,ex⟩
    .obtain⟨_,_,_,_,o,_,_,e,ex,_⟩:=I.hok p _ hk
     exact⟨o,e,ex⟩
   obtain⟨o,e,ex⟩:=z
   refine⟨⟨o,e,ex.1⟩,λa e2=>?_⟩
   cases e2
   exact⟨o,e,ex.2.1⟩
  .obtain⟨o,_,_,_,e,ex,_⟩:=I.hok p _ hk
   refine⟨⟨o,e,ex.1⟩,λa e2=>?_⟩
   cases e2
   exact⟨o,e,ex.2.1⟩
 | _=>exact False.elim ty
def tBM0(K:Frag)(T:String)(r:V->List V->Hp->VK->Prop)(to:TE):TE:=λσ H Q=>to σ H λx H1=>tyV K T x H1/\r x [] H1 Q
def tBM(K:Frag)(T:String)(r:V->List V->Hp->VK->Prop)(to:TE)(t:TA):TE:=λσ H Q=>to σ H λx H1=>tyV K T x H1/\t σ H1 λxs H2=>r x xs H2 Q
variable{o e:Expr}{es:List Expr}{to:TE}{t:TA}{name:Str}{apos cpos:Pos}{T id:String}{r:V->List V->Hp->VK->Prop}
theorem pe_bm0(pa:PlainAttrs T)(slot:Slot T name id)(hty:typeOf (.builtin id)=pure (.type "method_descriptor"))(hm:MtR X id r)(ho:PE X o to)
  (hbase:attributeBase o name X.env (eval o X.env)=eval o X.env:=by rfl) (hline:(apos.endLine==cpos.line)=true:=by rfl):PE X (.Call (.Attribute o name apos) [] [] cpos) (tBM0 X.K T r to):=by
 intro pins s σ H Q I h
 refine wpAny_Call_method0_late hbase hline (thn (ho pins s σ H _ I h) λv s1 ⟨x,H1,I1,r1,ty,q1⟩=>?_)
 obtain⟨h1,h2⟩:=tyV_is I1 r1 ty
 exact⟨T,id,pa,slot,hty,h1,h2,Calls.callWith_builtin rfl (PySem.evalArgs_none (hm pins s1 σ H1 x [] v [] Q I1 r1 .nil q1))⟩
theorem oN(pa:PlainAttrs T)(slot:Slot T name id)(hty:typeOf (.builtin id)=pure (.type "method_descriptor"))(hm:MtR X id r)(ho:PE X o to)(ha:PA X (e::es) t)
  (hbase:attributeBase o name X.env (eval o X.env)=eval o X.env:=by rfl)
  (hfew:((backTo cpos (starEach (e::es) X.env)).all (λx=>!x.1) && (backToKw cpos (keywordEach [] X.env)).all (λx=>x.1.isSome)
   && decide ((e::es).length+([]:List Keyword).length+(if ([]:List Keyword).isEmpty then 0 else 1)<30))=true:=by rfl)
  (hline:(apos.endLine==cpos.line)=true:=by rfl) (hs:starEach (e::es) X.env=(false,eval e X.env)::starEach es X.env:=by rfl) (hplain:(backTo cpos (starEach es X.env)).any (·.1)=false:=by rfl) :
  PE X (.Call (.Attribute o name apos) (e::es) [] cpos) (tBM X.K T r to t):=by
 intro pins s σ H Q I h
 refine wpAny_Call_method_late hbase hfew hline rfl (thn (ho pins s σ H _ I h) λv s1 ⟨x,H1,I1,r1,ty,q1⟩=>?_)
 obtain⟨h1,h2⟩:=tyV_is I1 r1 ty
 refine⟨T,id,pa,slot,hty,h1,h2,?_⟩
 have hA:=ha cpos pins s1 σ H1 _ I1 q1
 rw[hs] at hA ⊢
 refine Calls.callWith_builtin (by show (false || (backTo cpos (starEach es X.env)).any (·.1))=false;rw[hplain] <;> rfl) (Calls.evalArgs_plain ?_)
 exact thn hA λus s2 ⟨vs,H2,I2,r2,q2⟩=>hm pins s2 σ H2 x vs v us Q I2 r1 r2 q2
end
end L2
namespace L2
open PySem PySem.Spec PyProof.Rows
def MtM(X:Cx)(id:String)(r:V->List V->Hp->VK->Prop):Prop :=
 ∀(pins:List (Addr×Obj))(s:Shared)(σ:St)(H:Hp)(x:V)(xs:List V)(v:Value)(us:List Value)(Q:VK),Inv X pins σ H s->RelV x v->Vals xs us->r x xs H Q ->
  wpAny (model X.prog X.w) X.A (call (.builtin id) (v::us)) (EP X pins σ Q) X.xe s
theorem Vals.one:∀{x:V}{us:List Value},Vals [x] us->∃u,us=[u]/\RelV x u
 | _,_,.cons r .nil=>⟨_,rfl,r⟩
theorem Vals.zero:∀{us:List Value},Vals [] us->us=[]
 | _,.nil=>rfl
theorem Vals.rep{xs:List V}{us:List Value}(h:Vals xs us):∀k:Nat,Vals (List.replicate k xs).flatten (List.replicate k us).flatten
 | 0=>.nil
 | k+1=>by
  rw[List.replicate_succ,List.replicate_succ,List.flatten_cons,List.flatten_cons]
  exact Vals.append h (Vals.rep h k)
theorem foldl_rep(its:List Value):∀(k:Nat)(acc:List Value),
  List.foldl (λx1 x2=>x1++x2) acc.toArray (List.replicate k its.toArray)=(acc++(List.replicate k its).flatten).toArray
 | 0,acc=>by simp
 | k+1,acc=>by
  have e:acc.toArray++its.toArray=(acc++its).toArray:=by simp
  have e2:(acc++its)++(List.replicate k its).flatten=acc++(List.replicate (k+1) its).flatten:=by
   rw[List.replicate_succ,List.flatten_cons,List.append_assoc]
  rw[←e2,←foldl_rep its k (acc++its),←e,List.replicate_succ,List.foldl_cons]
section
variable{X:Cx}{pins:List (Addr×Obj)}{σ:St}{H:Hp}{s:Shared}{l b:Addr}{xs ys zs:List V}
theorem Inv.lset{its its':List Value}{n:Nat}{f:Array Value->Array Value}{t':Nat}(I:Inv X pins σ H s)(hH:H l=some (.lst xs))
  (e:s.heap.get? l=some { cls:=.type "list",data:=.seq its.toArray n }) (hf:f its.toArray=its'.toArray) (hv:Vals ys its') (hz:ys.length<=sizeLine) :
  Inv X pins σ (upd H l (.lst ys)) { s with heap:=s.heap.update l (Obj.mapSeq f),toks:=t' }:=by
 have q:=PySem.IsL.update e f
 rw[hf] at q
 refine I.write (x:=l) (e:=l) (by rw[hH];exact trivial) (.inl rfl) (λb' u hb hu=>(Heap.get?_update_other s.heap (Obj.mapSeq f) (Ne.symm hb)).trans hu) ⟨_,q⟩ ?_
 exact⟨hz,its',_,hv,q⟩
theorem Inv.lnew{its:List Value}{t':Nat}(I:Inv X pins σ H s)(hv:Vals ys its)(hz:ys.length<=sizeLine):
  Inv X pins σ (upd H s.heap.objs.size (.lst ys)) { s with heap:=s.heap.push { cls:=.type "list",data:=.seq its.toArray },toks:=t' } :=
 I.laid (λ_ _ q=>Heap.get?_push_of_some _ q) (Nat.le_refl _) ⟨hz,its,0,hv,Heap.get?_push_size _ rfl⟩
theorem Inv.fresh(I:Inv X pins σ H s):H s.heap.objs.size=none:=I.hok.fresh (Nat.le_refl _)
theorem Inv.lstM(I:Inv X pins σ H s)(hH:H l=some (.lst xs)):xs.length<=sizeLine/\∃(its:List Value)(n:Nat),Vals xs its/\xs.length=its.length/\s.heap.get? l=some { cls:=.type "list",data:=.seq its.toArray n }:=by
 obtain⟨z,its,n,r,e⟩:=I.hok l _ hH
 exact⟨z,its,n,r,r.length,e⟩
theorem notLongL{n:Nat}(h:n<=sizeLine):Builtin.List.listTooLong n=false:=by
 unfold Builtin.List.listTooLong
 exact decide_eq_false (by omega)
end
section
variable{X:Cx}
def Hj:V->List V->Hp->VK->Prop:=λx vs H Q=>∃l xs y,x=.ref l/\vs=[y]/\H l=some (.lst xs)/\xs.length<sizeLine/\Q .non (upd H l (.lst (xs++[y])))
theorem Ds:MtM X "list.append" Hj:=by
 intro pins s σ H x vs v us Q I rx rv h
 obtain⟨l,xs,y,rfl,rfl,hH,hz,q⟩:=h
 cases rx
 obtain⟨u,rfl,ru⟩:=rv.one
 obtain⟨z,its,n,r,hl,e⟩:=I.lstM hH
 refine call_meets F.slot_list_append ⟨_,e,rfl⟩ F.entry_list_append (F.args_list_append_2 _ _) (PySem.list_append l its.toArray n u (by rw[List.size_toArray];omega)) ⟨e,?_⟩
 refine⟨.non,_,I.lset (its':=its++[u]) hH e (by simp) (r.append (.cons ru .nil)) ?_,rfl,q⟩
 rw[List.length_append,List.length_singleton]
 omega
def MJ:V->List V->Hp->VK->Prop:=λx vs H Q=>∃l xs,x=.ref l/\vs=[]/\H l=some (.lst xs)/\Q .non (upd H l (.lst []))
theorem JW:MtM X "list.clear" MJ:=by
 intro pins s σ H x vs v us Q I rx rv h
 obtain⟨l,xs,rfl,rfl,hH,q⟩:=h
 cases rx
 have hus:=rv.zero
 subst hus
 obtain⟨z,its,n,r,hl,e⟩:=I.lstM hH
 refine call_meets F.slot_list_clear ⟨_,e,rfl⟩ F.entry_list_clear (F.args_list_clear_1 _) (AutoSeq1.list_clear_list_0 l its.toArray n (by rw[List.size_toArray];omega)) ⟨e,?_⟩
 exact⟨.non,_,I.lset (its':=[]) (ys:=[]) hH e rfl .nil (Nat.zero_le _),rfl,q⟩
def rCat:R2:=λx y H Q=>∃l b xs zs,x=.ref l/\y=.ref b/\H l=some (.lst xs)/\H b=some (.lst zs)/\xs.length+zs.length<=sizeLine/\∀p,H p=none->Q (.ref p) (upd H p (.lst (xs++zs)))
theorem op_cat:OpR X (binaryOp .Add) rCat:=by
 intro pins s σ H x y v u Q I rx ry h
 obtain⟨l,b,xs,zs,rfl,rfl,hH,hB,hz,q⟩:=h
 cases rx
 cases ry
 obtain⟨z,its,n,r,hl,e⟩:=I.lstM hH
 obtain⟨z2,its2,n2,r2,hl2,e2⟩:=I.lstM hB
 refine PySem.P.add_list e e2 ?_ (by rw[List.size_toArray,List.size_toArray];omega)
 have ea:its.toArray++its2.toArray=(its++its2).toArray:=by simp
 rw[ea]
 exact⟨.ref _,_,I.lnew (t':=s.toks) (r.append r2) (by rw[List.length_append];omega),rfl,q _ I.fresh⟩
def rRep:R2:=λx y H Q=>∃l k xs,x=.ref l/\y=.int k/\H l=some (.lst xs)/\-(2 ^ 63)<=k/\k<2 ^ 63/\xs.length*k.toNat<=sizeLine /\
 ∀p,H p=none->Q (.ref p) (upd H p (.lst (List.replicate k.toNat xs).flatten))
theorem len_rep{α:Type}(xs:List α)(k:Nat):(List.replicate k xs).flatten.length=k*xs.length:=by
 induction k with
 | zero=>simp
 | succ k ih=>rw[List.replicate_succ,List.flatten_cons,List.length_append,ih,Nat.succ_mul,Nat.add_comm]
theorem op_rep:OpR X (binaryOp .Mult) rRep:=by
 intro pins s σ H x y v u Q I rx ry h
 obtain⟨l,k,xs,rfl,rfl,hH,h1,h2,hz,q⟩:=h
 cases rx
 obtain⟨t,rfl⟩:=ry
 obtain⟨z,its,n,r,hl,e⟩:=I.lstM hH
 have hlen:its.toArray.size*k.toNat<=sizeLine:=by rw[List.size_toArray,←hl];exact hz
 have hcap:¬its.toArray.size*k.toNat>(2 ^ 63 - 1) / 8:=by
  have:(sizeLine:Nat)<=(2 ^ 63 - 1) / 8:=by decide
  omega
 have hfit:¬(!Builtin.List.listFitsIndex k)=true:=by
  rw[fitsIndex_both h1 h2]
  exact Bool.false_ne_true
 have hlong:¬Builtin.List.listTooLong (its.toArray.size*k.toNat)=true:=by
  rw[notLongL hlen]
  exact Bool.false_ne_true
 have hnew:List.foldl (λx1 x2=>x1++x2) #[] (List.replicate (if its.toArray.isEmpty=true then 0 else k.toNat) its.toArray)=(List.replicate k.toNat its).flatten.toArray:=by
  have f0:∀m:Nat,List.foldl (λx1 x2=>x1++x2) #[] (List.replicate m its.toArray)=(List.replicate m its).flatten.toArray:=λm=>by
   have:=foldl_rep its m []
   rw[List.nil_append] at this
   exact this
  rw[f0]
  cases its with
  | nil=>simp
  | cons a r'=>rw[if_neg (by simp)]
 refine wpAny_binaryOp_repeat_ref (T:="list") (U:="int") (by decide) ⟨_,e,rfl⟩ (λs'=>typeIs_int s' k t) noFill_list_mul F.fills_int_mul F.slot_int_rmul repeat_list F.slot_int_index.lookup
  (call_meets F.slot_int_rmul (typeIs_int s k t) F.entry_int_rmul (F.args_int_rmul_2 _ _) (int___rmul___int_list k t l its.toArray n)
   ⟨e,rfl,⟨_,e,rfl⟩,call_meets F.slot_list_mul ⟨_,e,rfl⟩ F.entry_list_mul (F.args_list_mul_2 _ _) (AutoListH.list___mul___list_int_3 l its.toArray n k t hfit hcap hlong) ⟨e,?_⟩⟩)
 rw[hnew]
 exact⟨.ref _,_,I.lnew (t':=s.toks) (r.rep k.toNat) (by rw[len_rep,Nat.mul_comm];exact hz),rfl,q _ I.fresh⟩
end
section
variable{prog:Program}{w:World}{A:Around}{E:Value->Shared->Prop}{s:Shared}
end
section
variable{X:Cx}
end
end L2
namespace Att
open PySem PySem.W PySem.Calls PyProof.Rows
theorem xW{P:Params}{h:Heap}:∀(ns:List Int)(vs:List Value),WellAll P h vs (ns.map WData.int)->IntsAre vs ns:=by
 intro ns
 induction ns with
 | nil =>
  intro vs w
  rw[List.map_nil] at w
  cases w
  exact .nil
 | cons n ns ih =>
  intro vs w
  rw[List.map_cons] at w
  cases w with
  | cons a b =>
   cases a
   exact .cons _ _ (ih _ b)
theorem PN{l:OpenLaw}{n:Nat}(hn:l.most=some n){P:Params}{h:Heap}{args:List WData}{vals:List Value}
  (hpre:l.row.toRowW.claim.pre args=true) (hwl:WellAll P h vals args) :
  ∃a vs ns,vals=[Value.ref a]/\args=[WData.list (ns.map WData.int)]/\h.get? a=some { cls:=.type "list",data:=.seq vs.toArray }/\IntsAre vs ns/\ns.length<=n:=by
 have hsh:WShape.hasAll [] args [.list .int]=true:=(pre_splitW hpre).1
 have hc:l.pre.holds [] { args:=args }=true:=(pre_splitW hpre).2
 obtain⟨d,r,rfl,h1,h2⟩:=hasAllW_cons hsh
 obtain rfl:=hasAllW_nil h2
 obtain⟨xs,rfl,h3⟩:=hasW_list h1
 obtain⟨ns,rfl⟩:=items_int h3
 have hlen:ns.length<=n:=by
  unfold OpenLaw.pre at hc
  have h4:(WTm.not (.lt (.lit (.int (n:Int))) (.len (.arg 0)))).holds [] { args:=[.list (ns.map .int)] }=true:=by
   have h4:=(holds_andW hc).1
   rw[hn] at h4
   exact h4
  have h5:=condW_of h4 (w_not (w_lt w_lit (w_len_list (w_arg rfl))))
  rw[List.length_map] at h5
  refine Nat.le_of_not_lt λq=>?_
  have q':(n:Int)<((ns.length:Nat):Int):=by omega
  first
   | (rw[decide_eq_true q'] at h5;exact absurd h5 (by decide))
   | (simp at h5;omega)
 cases hwl with
 | cons w1 w2 =>
  cases w2
  cases w1 with
  | list ho hall=>exact⟨_,_,ns,rfl,rfl,ho,xW ns _ hall,hlen⟩
theorem Pz(l:OpenLaw)(args:List WData):l.row.toRowW.claim.post args (.bool true) args=true :=
 postW_of (r:=l.row.toRowW) (X:=(true==true))
  (show WShape.has [] (.bool true) .bool=true by first | rfl | decide | simp[WShape.has,WShape.arms,WShape.armsAll])
  (show (WTm.eq .res (.lit (.bool true))).value [] { args:=args,res:=some (.bool true),after:=args }=some (.bool (true==true)) from w_eq_bool (w_res rfl) w_lit) rfl
theorem Jd{l:OpenLaw}{n:Nat}{q:Program}{loose:List Str}{XP:(Str->Option Value)->Heap->Prop}{YP:World->Heap->Prop}{d:DefRec}
  (hn:l.most=some n) (hdf:d.params.defaults=[])
  (call:∀(w:World)(s₀ s₁:Shared)(mg mb:Str->Option Value)(fa:Addr)(o:Obj)(pm cd doc:Value)(a:Addr)(vs:List Value)(ns:List Int),
   Ground q loose [] XP w s₀ mg mb s₁.heap->YP w s₁.heap ->
   s₁.heap.get? fa=some o->o.data=.func (docDef d.name d.params d.body d.scope pm cd doc)->s₁.heap.CodeRec cd d.name->mg d.name=some (.ref fa) ->
   s₁.heap.get? a=some { cls:=.type "list",data:=.seq vs.toArray }->IntsAre vs ns->ns.length<=n->s₁.gens=#[] ->
   codeAny (model l.prog w) callerA (.call (.ref fa) ⟨[.ref a],[]⟩) (λr s'=>r=.ok (.ret (.bool true))/\OldK s₁.heap s'.heap/\s'.os=s₁.os/\AllBare s'.gens) s₁) :
  WalkO q loose XP YP l.row.toRowW d [] (λf vs=>PySem.call f vs):=by
 intro w s₀ s₁ mg mb G Y fa o pm cd doc dV kV ho hd hcd hD hmg hg args vals as hpre hlay hrd hwl hlo
 obtain rfl:dV=.none:=Dflts.none hD hdf
 obtain rfl:kV=.none:=Dflts.noKw hD
 obtain⟨a,vs,ns,rfl,rfl,hobj,hints,hlen⟩:=PN hn hpre hwl
 refine enter_call (codeAny_mono (call w s₀ s₁ mg mb fa o pm cd doc a vs ns G Y ho (fd_plain hd) hcd hmg hobj hints hlen hg) λr s' hq=>?_)
 obtain⟨rfl,h2,h3,h4⟩:=hq
 exact⟨.inl ⟨.bool true,.bool true,[],rfl,λ_=>rfl,.bool true,Pz l _,λ_=>⟨List.Pairwise.nil,λ_ hm=>(nomatch hm)⟩⟩,h2,h3,h4⟩
section
variable{prog:Program}{w:World}{A:Around}{E:Value->Shared->Prop}{s:Shared}{K:Frag}
end
end Att
namespace L2
open PySem PySem.Spec PyProof.Rows
theorem DR:∀{vs:List Value}{ns:List Int},IntsAre vs ns->Vals (ns.map V.int) vs
 | _,_,.nil=>.nil
 | _,_,.cons n t h=>.cons ⟨t,rfl⟩ (DR h)
def Only(H:Hp):Prop:=∀b,H b=none∨∃o xs,H b=some (.frz o (.lst xs))
theorem law_call{P:Program}{w:World}{K:Frag}{mg mb:Str->Option Value}{CX:CXT}{k:Nat}{fa a:Addr}{fd:FuncData}{x:Str}{sp:Sp}{s₁:Shared}{vs:List Value}{ns:List Int}
  (KX:K.In s₁.heap) (hns:s₁.heap.Ns mainGlobals mg) (hb:s₁.heap.Ns builtinsNs mb) (hbb:∀x:Str,x≠"__name__"->mb x=bootBuiltins x) (hlim:s₁.heap.NoLimit) (hg:s₁.gens=#[])
  (ha:s₁.heap.get? a=some { cls:=.type "list",data:=.seq vs.toArray }) (hi:IntsAre vs ns) (hl:ns.length<=sizeLine) (hr:cT k callerA)
  (F:∀base:Heap,K.In base->base.Ns mainGlobals mg->bO P w K mg base CX k fa fd [x] sp) (hbind:∀(s:Shared)(u:Value),BindsTo s fd ⟨[u],[]⟩ [(x,u)])
  (hsp:∀H:Hp,Only H->SqL K H a (ns.map V.int)->sp [.ref a] H (λv _=>v=.bl true) λ_ _ _=>False)
  (hCX:∀H e s',CX [] H s₁ (λ_ _ _=>False) e s'->False) :
  codeAny (model P w) callerA (.call (.ref fa) ⟨[.ref a],[]⟩) (λr s'=>r=.ok (.ret (.bool true))/\OldK s₁.heap s'.heap/\s'.os=s₁.os/\AllBare s'.gens) s₁:=by
 have rv:=DR hi
 have lenV:=hi.length
 have core:∀H:Hp,Only H->SqL K H a (ns.map V.int)->HOk P w H s₁.heap->(∀b,H b≠none->b=a)->(H a≠none->K.lookup a=none) ->
   codeAny (model P w) callerA (.call (.ref fa) ⟨[.ref a],[]⟩) (λr s'=>r=.ok (.ret (.bool true))/\OldK s₁.heap s'.heap/\s'.os=s₁.os/\AllBare s'.gens) s₁:=by
  intro H hO hS hok hA hK
  have base_of:∀{b:Addr}{o:Obj},s₁.heap.get? b=some o->H b=none->(hidT s₁.heap H).get? b=some o:=λe n=>hidT_get e n
  have noA:∀{b:Addr}{o:Obj}{es:Array DictEntry}{ep:Nat},s₁.heap.get? b=some o->o.data=.dict es ep->H b=none:=fun{b o es ep} e d=>by
   cases q:H b with
   | none=>rfl
   | some u =>
    have e':b=a:=hA b (by rw[q];simp)
    subst e'
    rw[ha] at e;cases e
    have d':Data.seq vs.toArray _=Data.dict es ep:=d
    cases d'
  have nsK:∀{b:Addr}{m:Str->Option Value},s₁.heap.Ns b m->(hidT s₁.heap H).Ns b m:=λ{b m} ⟨o,es,ep,e,d,r⟩=>⟨o,es,ep,base_of e (noA e d),d,r⟩
  have hKb:K.In (hidT s₁.heap H):=λb o e=>base_of (KX b o e) (by
   cases q:H b with
   | none=>rfl
   | some u =>
    have e':b=a:=hA b (by rw[q];simp)
    subst e'
    rw[hK (by rw[q];simp)] at e;cases e)
  have hM:Mod K mg (hidT s₁.heap H):=⟨hKb,nsK hns,⟨mb,nsK hb,hbb⟩,let ⟨mc,h1,h2⟩:=hlim;⟨mc,nsK h1,h2⟩⟩
  have e0:Env0 P w K mg (hidT s₁.heap H) callerA [] s₁ H:=⟨rfl,hM,λb o e=>of_hidT e,Nat.le_of_eq (O7 _ _),trivial,λb hb=>absurd (show b∈([]:List Addr) from hb) (by simp),hok,.of_eq hg⟩
  refine codeAny_mono ((F _ hKb (nsK hns)).run callerA [] s₁ H ⟨[.ref a],[]⟩ [.ref a] [.ref a] _ _ hr e0 (hbind s₁ (.ref a)) (.cons rfl .nil) (hsp H hO hS)) λr s' h=>?_
  cases r with
  | error e=>exact(hCX H e s' h).elim
  | ok fl =>
   cases fl with
   | next=>exact False.elim h
   | brk=>exact False.elim h
   | cont=>exact False.elim h
   | ret u =>
    obtain⟨v,H',os,bare,un,hok',r',q⟩:=h
    have q':v=.bl true:=q
    subst q'
    obtain rfl:u=Value.bool true:=r'
    refine⟨rfl,OldK.of_keep λb o e=>?_,os,bare⟩
    cases q:H b with
    | none=>exact un.keep b o e q (by intro z;exact absurd (show b∈([]:List Addr) from z) (by simp)) (by simp)
    | some u =>
     rcases hO b with z | ⟨ob,xs,z⟩
     .rw[q] at z;cases z
     .have z2:=un.v7 b ob _ z
      obtain⟨e1,_⟩:=hok b _ z
      obtain⟨e2,_⟩:=hok' b _ z2
      rw[e] at e1;cases e1
      exact e2
 cases hk:K.lookup a with
 | some o =>
  have e:=KX a o hk
  rw[ha] at e
  cases e
  refine core (λ_=>none) (λ_=>.inl rfl) (.inr ⟨_,vs.toArray,_,hk,rfl,rfl,rfl,by rw[List.size_toArray,lenV];exact hl,by simpa using rv⟩) (λb u z=>by have z':(none:Option HO)=some u:=z;cases z') (λb z=>absurd rfl z) λz=>absurd rfl z
 | none =>
  refine core (λb=>if b=a then some (.frz { cls:=.type "list",data:=.seq vs.toArray } (.lst (ns.map V.int))) else none) (λb=>?_) (.inl (.inr ⟨{ cls:=.type "list",data:=.seq vs.toArray },if_pos rfl⟩)) (λb u z=>?_) (λb z=>?_) λ_=>hk
  .by_cases hb:b=a
   .exact .inr ⟨_,_,if_pos hb⟩
   .exact .inl (if_neg hb)
  .by_cases hb:b=a
   .have z':=(if_pos hb).symm.trans z
    cases z'
    subst hb
    exact⟨ha,by rw[List.length_map];exact hl,vs,_,rv,ha⟩
   .have z':=(if_neg hb).symm.trans z
    cases z'
  .by_cases hb:b=a
   .exact hb
   .exact absurd (if_neg hb) z
end L2
namespace L2
open PySem PySem.Spec PyProof.Rows
theorem walk_of{l:PySem.W.OpenLaw}{n k:Nat}{q:Program}{loose:List Str}{XP:(Str->Option Value)->Heap->Prop}{YP:World->Heap->Prop}{d:DefRec}{K:Params->Frag}{CX:World->CXT}{sp:World->Sp}{x:Str}
  (hn:l.most=some n) (hn2:n<=sizeLine) (hdf:d.params.defaults=[]) (hr:cT k callerA)
  (hY:∀(w:World)(h:Heap),YP w h->(K w.params).In h)
  (F:∀(w:World)(mg:Str->Option Value)(fa:Addr)(h:Heap),(K w.params).In h->h.Ns mainGlobals mg->mg d.name=some (.ref fa) ->
   ∃fd:FuncData,(∀(s:Shared)(u:Value),BindsTo s fd ⟨[u],[]⟩ [(x,u)]) /\
    ∀base:Heap,(K w.params).In base->base.Ns mainGlobals mg->bO l.prog w (K w.params) mg base (CX w) k fa fd [x] (sp w))
  (hsp:∀(w:World)(H:Hp)(a:Addr)(ns:List Int),ns.length<=n->Only H->SqL (K w.params) H a (ns.map V.int)->sp w [.ref a] H (λv _=>v=.bl true) λ_ _ _=>False)
  (hCX:∀(w:World)(H:Hp)(s:Shared)(e:Value)(s':Shared),CX w [] H s (λ_ _ _=>False) e s'->False) :
  PySem.W.WalkO q loose XP YP l.row.toRowW d [] (λf vs=>PySem.call f vs):=by
 refine Att.Jd hn hdf λw s₀ s₁ mg mb fa o pm cd doc a vs ns G Y ho hd hcd hmg hobj hints hlen hg=>?_
 have KX:=hY w _ Y
 obtain⟨fd,hb,hF⟩:=F w mg fa _ KX G.T.g hmg
 exact law_call KX G.T.g G.T.b G.T.builtins G.T.nolimit hg hobj hints (Nat.le_trans hlen hn2) hr hF hb (λH hO hS=>hsp w H a ns hlen hO hS) λH e s'=>hCX w H s₁ e s'
end L2
namespace L2
open PySem PySem.Spec PyProof.Rows
def inClass(s:Stmt)(j:Nat):Stmt:=match s with
 | .ClassDef _ _ _ body _ _ _ _ _ _ _=>body.getD j (.Pass ⟨0,0,0,0⟩)
 | _=>.Pass ⟨0,0,0,0⟩
def j8(s:Stmt):Arguments:=match s with
 | .FunctionDef _ a _ _ _ _ _ _ _ _=>a
 | _=>{ posonlyargs:=[],args:=[],vararg:=none,kwonlyargs:=[],kw_defaults:=[],kwarg:=none,defaults:=[] }
def cU(s:Stmt):List Stmt:=match s with
 | .FunctionDef _ _ b _ _ _ _ _ _ _=>b
 | _=>[]
def aq(s:Stmt):Scope:=match s with
 | .FunctionDef _ _ _ _ _ _ sc _ _ _=>sc
 | _=>{ kind:=.function,names:=[],isGenerator:=false,isCoroutine:=false }
abbrev CX0:CXT:=λ_ _ _ _ _ _=>False
abbrev E0:XK:=λ_ _ _=>False
theorem pass0{X:Cx}:lg CX0 X E0:=λ_ _ _ _ _ _ _ h=>h.elim
structure Fun(K:Frag)(x qual:Str)(st:Stmt)(f:Addr)(fd:FuncData):Prop where
 ex:∃(oc:Value)(od:Option Addr)(kV doc pm:Value)(an:Option Addr)(cdv ct:Value)(osl:Array (Option Value)),
  fd=PySem.W.fnOf x qual (j8 st) (cU st) (aq st) .none kV doc pm an cdv ct/\K.lookup f=some ⟨oc,od,.func fd,osl⟩/\PySem.W.codeIn K cdv qual=true
 kp:keepIn K (.ref f)=true
section
variable{P:Program}{w:World}{K:Frag}{mg:Str->Option Value}{base:Heap}
theorem Fun.ok{x qual:Str}{st:Stmt}{f:Addr}{fd:FuncData}{N ps:List Str}{k:Nat}{sp:Sp}(F:Fun K x qual st f fd)(S:aF N ps (aq st))(len:∀vs H Q E,sp vs H Q E->vs.length=ps.length)
  (hbody:∀(cdv:Value)(A:Around)(outer:List Env)(s:Shared)(H:Hp)(vs:List V)(Q:VK)(E:XK),cT k (A.deeper (envOfC qual (aq st) s.heap.objs.size f cdv))->sp vs H Q E ->
   ∃t,PSs (xT CX0 P w K mg base N qual (aq st) f cdv A outer s H E).nox (cU st) t/\t { nx:=λ_ H'=>Q .non H',rt:=Q } (start N vs) H):bO P w K mg base CX0 (k+1) f fd ps sp:=by
 obtain⟨oc,od,kV,doc,pm,an,cdv,ct,osl,rfl,lk,hcd⟩:=F.ex
 refine fn_of lk hcd S len λA outer s H vs Q E hr hsp=>?_
 obtain⟨t,h,q⟩:=hbody cdv A outer s H vs Q E hr hsp
 exact⟨t,h.nox,q⟩
theorem Fun.binds{x qual:Str}{st:Stmt}{f:Addr}{fd:FuncData}{ps:List Str}(F:Fun K x qual st f fd)
  (h:∀(kV doc pm:Value)(an:Option Addr)(cdv ct:Value)(us:List Value),us.length=ps.length->bindArgs (PySem.W.fnOf x qual (j8 st) (cU st) (aq st) .none kV doc pm an cdv ct) ⟨us,[]⟩=pure (ps.zip us)):Binds K fd ps []:=by
 obtain⟨oc,od,kV,doc,pm,an,cdv,ct,osl,rfl,lk,hcd⟩:=F.ex
 exact .all (h kV doc pm an cdv ct)
theorem fun_mk{x qual:Str}{st:Stmt}{f:Addr}{oc:Value}{od an:Option Addr}{osl:Array (Option Value)}{kV doc pm cdv ct:Value}(l:K.lookup f=some ⟨oc,od,.func (PySem.W.fnOf x qual (j8 st) (cU st) (aq st) .none kV doc pm an cdv ct),osl⟩)
  (c:PySem.W.codeIn K cdv qual=true) (k:keepIn K (.ref f)=true):Fun K x qual st f (PySem.W.fnOf x qual (j8 st) (cU st) (aq st) .none kV doc pm an cdv ct):=⟨⟨oc,od,kV,doc,pm,an,cdv,ct,osl,rfl,l,c⟩,k⟩
end
section
variable{X:Cx}
theorem pv(i:Nat){x:Str}{pos:Pos}(hN:X.N[i]?=some x:=by rfl)(hv:Vis X.env.scope x:=by first | exact Or.inl rfl | exact Or.inr (Or.inl rfl) | exact Or.inr (Or.inr rfl))(hd:(x==("__debug__":Str))=false:=by decide)
  (hcd:(x==("__classdict__":Str))=false:=by decide):PE X (.Name x pos) (ou i):=pe_var hN hv hd hcd
end
def aO(H H':Hp):Prop:=∀b o,H b=some o->H' b=some o
theorem aO.refl(H:Hp):aO H H:=λ_ _ h=>h
theorem aO.trans{H H1 H2:Hp}(a:aO H H1)(b:aO H1 H2):aO H H2:=λc o h=>b c o (a c o h)
theorem aO.free{H H':Hp}(e:aO H H'){l:Addr}(h:H' l=Option.none):H l=Option.none:=by
 cases q:H l with
 | none=>rfl
 | some o =>
  rw[e l o q] at h
  cases h
theorem aO.seq{K:Frag}{H H':Hp}{a:Addr}{xs:List V}(e:aO H H')(h:SqL K H a xs):SqL K H' a xs:=by
 rcases h with (h | ⟨o,h⟩) | h
 .exact .inl (.inl (e _ _ h))
 .exact .inl (.inr ⟨o,e _ _ h⟩)
 .exact .inr h
end L2
set_option maxHeartbeats 1000000
namespace MX
open PySem
section
variable{prog:Program}{w:World}{A:Around}{E:Value->Shared->Prop}{h:Heap}{g:Array GenState}{d:Drawn}{t:Nat}{os:OsState}
variable{nm q:Str}{C N:Addr}{bs bm bmB:List Value}{hdct:Bool}{sn:List Str}{sub:List Value}{ab:Bool}{col:Option Bool}{dd:Option Addr}{k0 k1 k2 k3 k5:Option Value}{B newId initId:String}
end
section
variable{prog:Program}{w:World}{A:Around}{E:Value->Shared->Prop}{h:Heap}{g:Array GenState}{d:Drawn}{t:Nat}{os:OsState}{x C:Addr}{ox:Obj}{cd:ClassData}{name:Str}{v:Value}{tk:Tok}
open Builtin Builtin.ObjectAttr
end
end MX
namespace MX
open PySem PySem.W PySem.Calls PyProof.Rows Builtin Builtin.ObjectAttr
abbrev bmV:List Value:=[.type "ValueError",.type "Exception",.type "BaseException",.type "object"]
def onlyRefs:List Value->Bool
 | []=>true
 | .ref _::r=>onlyRefs r
 | _=>false
structure ExcGet(K:Frag)(C:Addr):Prop where
 ga:findIn K (.ref C) "__getattribute__"=some (some (.builtin "BaseException.__getattribute__"))
 gh:findIn K (.ref C) "__getattr__"=some none
 sa:findIn K (.ref C) "__setattr__"=some (some (.builtin "object.__setattr__"))
 sub:mroIn K C (.type "BaseException")=some true
 top:mroIn K C (.type "object")=some true
 cl:findIn K (.ref C) "__class__"=some (some (.builtin "object.__class__"))
 get:specialIn K (.builtin "object.__class__") "__get__"=some (some (.builtin "getset_descriptor.__get__"))
 tk:takesIn K (.builtin "object.__class__")=some true
 cls:∃cd l,clsIn K C=some cd/\cd.hasDict=true/\cd.mro=l++bmV/\onlyRefs l=true
section
variable{prog:Program}{w:World}{A:Around}{E:Value->Shared->Prop}{s:Shared}{K:Frag}{x C:Addr}{ox:Obj}{od:Option Obj}{name:Str}
theorem excBy{fill expr:Bool}{tk:Tok}{Q:Value->Shared->Prop}{v:Value}(G:ExcGet K C)(X:K.In s.heap)(I:InstAt s.heap x ox C od)(hh:handedIn v=true)
  (hf:wpAny (model prog w) A.in1 (Builtin.«object.__getattribute__» ⟨[.ref x,.str name tk],[]⟩) (λfin s'=>fin=.done (.ret v)/\Q v s') (λ_ _=>False) s) :
  wpAny (model prog w) A (getAttrBy (.ref x) (.str name tk) fill expr) Q E s:=by
 have L0:=I.type (M:=model prog w)
 have L1:=looks_findIn (M:=model prog w) X G.ga
 have L2:Looks (model prog w) s.heap (hookBefore (.ref C)) none:=looks_findIn (M:=model prog w) X G.gh
 have b:=PySem.F.attr_ValueError.ga.bind (.ref x)
 unfold getAttrBy
 refine wpAny_holding (wpAny_bind (L0.here (wpAny_bind (L1.here ?_))))
 have c1:(onTheHeap (Value.ref C) && Value.builtin "BaseException.__getattribute__"==Value.builtin "object.__getattribute__")=false:=by
  rw[show (Value.builtin "BaseException.__getattribute__"==Value.builtin "object.__getattribute__")=false by decide +kernel]
  simp
 show wpAny _ _ (if (onTheHeap (Value.ref C) && Value.builtin "BaseException.__getattribute__"==Value.builtin "object.__getattribute__")=true then _ else _) _ _ _
 rw[c1,if_neg Bool.false_ne_true]
 unfold getAttrByItsOwn
 refine wpAny_bind (L2.here (wpAny_bind (wpAny_attempt (wpAny_holding ?_))))
 have c2:callGetattribute (.ref x) (.str name tk) (.builtin "BaseException.__getattribute__") expr=boundAndCalled (.builtin "BaseException.__getattribute__") (.ref x) (.str name tk):=by cases expr <;> rfl
 rw[c2]
 unfold boundAndCalled
 rw[b]
 refine wpAny_bind (wpAny_pure ?_)
 have hk:builtinKind "BaseException.__getattribute__"=some .slot:=by decide +kernel
 have hs:splitId "BaseException.__getattribute__"=some ("BaseException","__getattribute__"):=by decide +kernel
 show wpAny (model prog w) A (call (.builtin "BaseException.__getattribute__") [.ref x,.str name tk]) _ _ s
 have sub:Looks (model prog w) s.heap (isInstance (.ref x) (.type "BaseException")) true:=L0.andThen (looks_mroIn X G.sub)
 refine wpAny_call (codeAny_call_builtin PySem.F.attr_ValueError.ga.plain PySem.F.entry_bexc_ga (@check_slot (model prog w) _ _ s "BaseException.__getattribute__" "BaseException" "__getattribute__" (.ref x) [.str name tk] [] _ hk hs sub (PySem.F.args_bexc_ga (.ref x) (.str name tk)) ?_))
 refine wpAny_mono hf (λfin s' z=>?_) λ_ _ z=>z.elim
 obtain⟨rfl,z⟩:=z
 show wpAny _ _ (handedOut v) _ _ _
 rw[handedOut_of hh]
 exact wpAny_pure z
theorem excClass{Q:Option Value->Shared->Prop}(G:ExcGet K C)(X:K.In s.heap)(I:InstAt s.heap x ox C od)(h:Q (some (.ref C)) { s with toks:=s.toks+1 }):
  wpAny (model prog w) A (getAttr? (.ref x) "__class__") Q E s:=by
 obtain⟨cd,l,hc,hd,hm,hr⟩:=G.cls
 have hf:findObj K C od "__class__"=some (.bind (.builtin "getset_descriptor.__get__") (.builtin "object.__class__")):=by
  unfold findObj
  rw[hc,Option.bind_some,G.cl,Option.bind_some]
  dsimp only
  rw[G.get,Option.bind_some]
  dsimp only
  rw[G.tk,Option.bind_some]
 unfold getAttr? getAttrBy?
 refine wpAny_bind (wpAny_mkText (wpAny_bind (wpAny_attempt (excBy (v:=.ref C) (s:={ s with toks:=s.toks+1 }) G X I rfl ?_))))
 .obtain⟨hp,g,d,t,os⟩:=s
  have L0:=I.type (M:=model prog w)
  have L3:=looks_find (M:=model prog w) X I hf
  unfold Builtin.«object.__getattribute__»
  repeat (first | with_reducible refine wpAny_call ?_ | lk)
  refine class_get X I G.top ?_
  exact wpAny_pure ⟨rfl,wpAny_pure h⟩
theorem excKit(G:ExcGet K C):KitX K (.ref x) (.ref C) (λh=>InstAt h x ox C od) where
 ty:=λ_ _ _ I=>I.type
 it:=λ_ _ X _=>by
  obtain⟨cd,l,hc,_⟩:=G.cls
  unfold clsIn at hc
  split at hc
  .rename_i ho
   intro A' Q' E' s' k q
   unfold isType loadHead
   exact wpAny_bind (wpAny_loadPart (k _ _ (X _ _ ho)) (wpAny_pure q))
  .cases hc
 ne:=λh tp dd its n sl X htp=>by
  obtain⟨cd,l,hc,_⟩:=G.cls
  refine Bool.eq_false_iff.mpr λq=>?_
  obtain rfl:C=tp:=Value.ref.inj (beq_iff_eq.mp q)
  unfold clsIn at hc
  split at hc
  .rename_i ho
   have z:=(X _ _ ho).symm.trans htp
   cases z
  .cases hc
 ca:=λX I k=>excClass G X I k
end
end MX
namespace L2
open PySem PySem.Spec PyProof.Rows
section
variable{prog:Program}{w:World}{A:Around}{R:Result->Shared->Prop}{s:Shared}
theorem Jh{elt tg iter:Expr}{ifs:List Expr}{sc:Scope}{pos:Pos}{it acc:Value}{env:Env}(J:Nat->Shared->Prop)
  (turn:∀n s,J n s->wpAny (model prog w) A (pyNext it) (λr s1=>match r with
   | none=>R (.ok .next) s1
   | some v=>wpAny (model prog w) A (letOwnedTupleGo tg it v) (λ_ s2=>wpAny (model prog w) A (assign tg env v) (λ_ s3 =>
     wpAny (model prog w) A (forIn ifs true λc r=>if r=true then do let ok ←isTrue c env (eval c env);pure (ForInStep.yield ok) else pure (ForInStep.yield r)) (λok s4 =>
      if ok=true then wpAny (model prog w) A (eval elt env) (λx s5=>wpAny (model prog w) A (call (.builtin "list.append") [acc,x]) (λ_ s6=>∃m,m<n/\J m s6) (λ_ _=>False) s5) (λ_ _=>False) s4
      else ∃m,m<n/\J m s4) (λ_ _=>False) s3) (λ_ _=>False) s2) (λ_ _=>False) s1) (λ_ _=>False) s)
  (n:Nat) (h:J n s):codeAny (model prog w) A (.compLoop (.ListComp elt [⟨tg,iter,ifs,0⟩] sc pos) 0 it acc env) R s:=by
 refine codeAny_loop rfl J (λn s hJ=>?_) n h
 show wpAny _ A ((compTurn (.ListComp elt [⟨tg,iter,ifs,0⟩] sc pos) 0 it acc env).onRaise (λx=>do noteFrame x env;theTreesLotGoes x)) _ _ s
 refine wpAny_noted ?_
 rw[compTurn_list]
 refine wpAny_bind (wpAny_standAt (wpAny_bind (wpAny_mono (turn n s hJ) (λr s1 h1=>?_) λ_ _ z=>z.elim)))
 cases r with
 | none=>exact wpAny_pure h1
 | some v =>
  refine wpAny_bind (wpAny_mono h1 (λ_ s2 h2=>?_) λ_ _ z=>z.elim)
  refine wpAny_bind (wpAny_mono h2 (λ_ s3 h3=>?_) λ_ _ z=>z.elim)
  refine wpAny_bind (wpAny_mono h3 (λok s4 h4=>?_) λ_ _ z=>z.elim)
  cases ok with
  | false=>exact wpAny_pure ⟨rfl,h4⟩
  | true =>
   refine wpAny_bind (wpAny_bind (wpAny_mono h4 (λx s5 h5=>?_) λ_ _ z=>z.elim))
   exact wpAny_bind (wpAny_mono h5 (λ_ s6 h6=>wpAny_pure (wpAny_pure ⟨rfl,h6⟩)) λ_ _ z=>z.elim)
end
abbrev bj(X:Cx)(N':List Str)(sc:Scope)(cl:List (Str×Addr))(s₀:Shared)(H₀:Hp)(C:Addr)(fp:List Addr)(pn:List (Addr×Obj)):Cx :=
 { X with N:=N',s₀:=s₀,H₀:=H₀,env:=compEnvC sc cl C X.env,outer:=X.stack,ex:=fp,fn:=λ_=>false,pn:=pn,xe:=λ_ _=>False }
def CellsOk(X:Cx):List (Str×Addr)->Prop
 | []=>True
 | (y,c)::r=>(X.env.cells.lookup y=some c/\(X.env.kindOf y=some .cell∨X.env.kindOf y=some .free))/\CellsOk X r
def wI(X:Cx)(sc:Scope)(cl:List (Str×Addr)):List Str->List (Option Nat)->Prop
 | [],[]=>True
 | y::r,o::q=>(match o with
   | none=>True
   | some j=>X.N[j]?=some y/\(cl.lookup y).isSome=true/\((relabel sc X.env).names.lookup y=some .cell∨(relabel sc X.env).names.lookup y=some .free))/\wI X sc cl r q
 | _,_=>False
def capS(cap:List (Option Nat))(σ:St):St:=cap.map λo=>match o with | none=>none | some j=>(σ[j]?).join
structure DY(X:Cx)(sc:Scope)(cl:List (Str×Addr))(N':List Str)(cap:List (Option Nat)):Prop where
 clos:closureFor sc X.env=pure cl
 kind:sc.kind=.function
 nu:(sc.names.all λy=>y.2 != .cell)=true
 locals:(sc.names.all λy=>y.2 != .local || sc.names.lookup y.1==some .local)=true
 frees:(sc.names.all λy=>y.2 != .free || (cl.lookup y.1).isSome)=true
 cells:CellsOk X cl
 caps:wI X sc cl N' cap
theorem CellsOk.get{X:Cx}:∀{cl:List (Str×Addr)}{y:Str}{c:Addr},CellsOk X cl->cl.lookup y=some c->X.env.cells.lookup y=some c/\(X.env.kindOf y=some .cell∨X.env.kindOf y=some .free)
 | [],_,_,_,e=>by simp at e
 | (z,d)::r,y,c,h,e=>by
  by_cases q:y=z
  .subst q
   simp only[List.lookup_cons,beq_self_eq_true] at e
   cases e
   exact h.1
  .have q':(y==z)=false:=beq_eq_false_iff_ne.mpr q
   simp only[List.lookup_cons,q'] at e
   exact CellsOk.get h.2 e
theorem wI.get{X:Cx}{sc:Scope}{cl:List (Str×Addr)}:∀{N':List Str}{cap:List (Option Nat)}{i j:Nat}{y:Str},wI X sc cl N' cap->N'[i]?=some y->cap[i]?=some (some j) ->
  X.N[j]?=some y/\(cl.lookup y).isSome=true/\((relabel sc X.env).names.lookup y=some .cell∨(relabel sc X.env).names.lookup y=some .free)
 | [],_,_,_,_,_,e,_=>by simp at e
 | _::_,[],_,_,_,_,_,e=>by simp at e
 | z::r,o::q,0,j,y,h,e1,e2=>by
  simp at e1 e2
  subst e1 e2
  exact h.1
 | z::r,o::q,i+1,j,y,h,e1,e2=>wI.get (i:=i) h.2 (by simpa using e1) (by simpa using e2)
theorem wI.len{X:Cx}{sc:Scope}{cl:List (Str×Addr)}:∀{N':List Str}{cap:List (Option Nat)},wI X sc cl N' cap->cap.length=N'.length
 | [],[],_=>rfl
 | [],_::_,h=>h.elim
 | _::_,[],h=>h.elim
 | _::_,_::_,h=>by simp[wI.len h.2]
theorem Un.sameBut{fs ex:List Addr}{H H':Hp}{h h' h'':Heap}{C:Addr}(u:Un fs ex H H' h h')(sb:Heap.SameBut C h' h'')(hC:h.get? C=none):Un fs ex H H' h h'':=by
 have ne:∀b o,h.get? b=some o->b≠C:=λb o e z=>by rw[z,hC] at e;cases e
 refine⟨λb o e n h1 h2=>(sb.2 b (ne b o e)).trans (u.keep b o e n h1 h2),λb o e n h1 h2=>?_,u.free,λb o e hx=>?_,u.tups,u.v7,u.yo⟩
 .obtain⟨sl,q⟩:=u.slot b o e n h1 h2
  exact⟨sl,(sb.2 b (ne b o e)).trans q⟩
 .obtain⟨o',q⟩:=u.there b o e hx
  exact⟨o',(sb.2 b (ne b o e)).trans q⟩
theorem HOk.sameBut{P:Program}{w:World}{H:Hp}{h h':Heap}{C:Addr}(x:HOk P w H h)(sb:Heap.SameBut C h h')(hC:H C=none):HOk P w H h':=λb o e=>by
 refine(x b o e).stay (λc u hc q=>(sb.2 c ?_).trans q) (λ_ q=>q) λ_ _ q=>q
 rintro rfl
 rcases hc with z | z
 .rw[←z,hC] at e;cases e
 .rw[hC] at z;cases z
def yU(X:Cx)(ifs:List Expr)(t:TT):Prop :=
 ∀(pins:List (Addr×Obj))(s:Shared)(σ:St)(H:Hp)(Q:Bool->Hp->Prop),Inv X pins σ H s->t σ H Q ->
  wpAny (model X.prog X.w) X.A (forIn ifs true λc r=>if r=true then do let ok ←isTrue c X.env (eval c X.env);pure (ForInStep.yield ok) else pure (ForInStep.yield r)) (TP X pins σ Q) X.xe s
def tTrue:TT:=λ_ H Q=>Q true H
theorem pf_nil{X:Cx}:yU X [] tTrue:=λ_ _ _ H _ I h=>wpAny_tests_nil ⟨H,I,h⟩
def CompGo(J:It)(g:TG)(tt:TT)(te:TE)(acc:Addr)(τ0:St)(H1:Hp)(Q:VK):Prop:=∃W:Nat->Nat->List V->St->Hp->Prop,
 (∃m,W 0 m [] τ0 (upd H1 acc (.lst [])))/\∀i m ys τ H,W i m ys τ H->H acc=some (.lst ys)/\ys.length<sizeLine /\
  ((J.stop i H/\Q (.ref acc) H)∨(J.go i H/\∀x H',J.yld i H x H'->g x τ H' λτ2 H2=>tt τ2 H2 λb H3 =>
   if b=true then te τ2 H3 λy H4=>H4 acc=some (.lst ys)/\∃m',m'<m/\W (i+1) m' (ys++[y]) τ2 (upd H4 acc (.lst (ys++[y])))
   else ∃m',m'<m/\W (i+1) m' ys τ2 H3))
def xG(cap:List (Option Nat))(wi:TI)(g:TG)(tt:TT)(te:TE):TE:=λσ H Q=>wi σ H λJ H1=>∀acc,H1 acc=none->CompGo J g tt te acc (capS cap σ) H1 Q
section
variable{X:Cx}{tg iter elt:Expr}{ifs:List Expr}{sc:Scope}{pos:Pos}{cl:List (Str×Addr)}{N':List Str}{cap:List (Option Nat)}{wi:TI}{g:TG}{tt:TT}{te:TE}
theorem inv_comp{pins:List (Addr×Obj)}{σ:St}{H:Hp}{s:Shared}{fp:List Addr}{h1:Heap}(S:DY X sc cl N' cap)(I:Inv X pins σ H s)(hf:∀b∈fp,xQ X pins H b)(hlt:∀b∈fp,b<s.heap.objs.size)
  (hns:h1.Ns s.heap.objs.size (λx=>([]:List (Str×Value)).reverse.lookup x)) (keep:∀b o,s.heap.get? b=some o->h1.get? b=some o) :
  Inv (bj X N' sc cl s H s.heap.objs.size fp (X.pn++pins)) [] (capS cap σ) H { s with heap:=h1 }:=by
 have nC:∀b o,s.heap.get? b=some o->b≠s.heap.objs.size:=λb o e=>Nat.ne_of_lt (Heap.lt_size e)
 have fsub:∀b,b≠X.env.locals->b∉X.fs->b∉frs X.stack:=λb h1 h2 z=>(List.mem_cons.mp (I.M9 b z)).elim h1 h2
 refine⟨⟨I.ok.mod,?_,I.ok.glob,I.ok.blt,Nat.le_refl _,λx y c e1 e2=>?_,λx hx=>?_,λx c e=>absurd e (by simp),I.ok.hd,I.ok.frames,.inl rfl,λb hb=>?_,I.bs,Nat.le_trans I.ok.bsz I.sz,λb o e hb=>?_,λb hb=>?_,I.stack,I.Oa⟩,
  rfl,I.bare,Un.kept keep,⟨_,hns,λi y v e1 e2 e3=>?_⟩,λy c e=>?_,I.hok.fresh (Nat.le_refl _),λy c e=>?_,λp hp=>?_,I.hok.kept keep,?_⟩
 .show (relabel sc X.env).kind=.function
  exact S.kind
 .exact I.ok.inj _ _ c (S.cells.get e1).1 (S.cells.get e2).1
 ·
  have key:∀k,(relabel sc X.env).names.lookup x=some k->k≠.local->k≠.globalImplicit->(x,NameKind.free)∈sc.names∨(x,k)∈sc.names:=λk hk h1 h2=>by
   obtain⟨⟨n,k0⟩,hm,e⟩:=List.mem_map.mp (PySem.mem_of_lookup hk)
   dsimp only at e
   split at e
   .rename_i q
    have q1:k0=NameKind.free:=by
     rw[Bool.and_eq_true,Bool.and_eq_true] at q
     exact beq_iff_eq.mp q.1.1
    cases e
    subst q1
    exact .inl hm
   .cases e
    exact .inr hm
  have fin:(x,NameKind.free)∈sc.names->∃c,cl.lookup x=some c:=λhm=>by
   have z:=List.all_eq_true.mp S.frees _ hm
   simp only[bne_self_eq_false,Bool.false_or] at z
   exact Option.isSome_iff_exists.mp z
  have hx:(relabel sc X.env).names.lookup x=some .cell∨(relabel sc X.env).names.lookup x=some .free:=hx
  rcases hx with hx | hx
  .rcases key _ hx (by decide) (by decide) with z | z
   .exact fin z
   .exact absurd (List.all_eq_true.mp S.nu _ z) (by simp)
  .rcases key _ hx (by decide) (by decide) with z | z <;> exact fin z
 .obtain⟨_,_,_,_,h5,_⟩:=hf b hb
  exact⟨Nat.ne_of_lt (hlt b hb),λx c e=>h5 x c (S.cells.get e).1⟩
 .obtain⟨_,_,_,h4,_,_⟩:=hf b hb
  rcases h4 with z | z
  .exact I.ok.aY b o e z
  .exact absurd (Nat.lt_of_lt_of_le (Nat.lt_of_lt_of_le (Heap.lt_size e) I.ok.bsz) z) (Nat.lt_irrefl _)
 .obtain⟨_,h2,h3,_,_,_⟩:=hf b hb
  exact fsub b h2 h3
 ·
  unfold capS at e2
  rw[List.getElem?_map] at e2
  cases ec:cap[i]? with
  | none=>rw[ec] at e2;cases e2
  | some o =>
   rw[ec] at e2
   cases o with
   | none=>cases e2
   | some j =>
    have e2:(σ[j]?).join=some v:=Option.some.inj e2
    obtain⟨hj,hs,hk⟩:=S.caps.get e1 ec
    obtain⟨c,hc⟩:=Option.isSome_iff_exists.mp hs
    obtain⟨c1,c2⟩:=S.cells.get hc
    have ej:σ[j]?=some (some v):=by
     cases q:σ[j]? with
     | none=>rw[q] at e2;cases e2
     | some z=>rw[q] at e2;exact congrArg some e2
    obtain⟨m,hm,hl⟩:=id I.loc
    obtain⟨u,ru,lk⟩:=hl j y v hj ej (c2.elim (λz=>.inr (.inl z)) λz=>.inr (.inr z))
    refine⟨u,ru,?_⟩
    rcases lk with⟨z,_⟩| ⟨_,c',e',⟨oc,eo,ed⟩⟩
    .rcases c2 with q | q <;> · rw[q] at z;cases z
    .rw[c1] at e'
     cases e'
     exact .inr ⟨hk,c,hc,oc,keep _ _ eo,ed⟩
 .obtain⟨v,o,e1,e2⟩:=I.cell y c (S.cells.get e).1
  exact⟨v,o,keep _ _ e1,e2⟩
 .exact I.sS y c (S.cells.get e).1
 .have hp:p∈X.pn++pins:=by simpa using hp
  obtain⟨e,n,ne,nf,d⟩:=I.pin p hp
  exact⟨keep _ _ e,n,nC _ _ e,fsub _ ne nf,d⟩
 .show (capS cap σ).length=N'.length
  unfold capS
  rw[List.length_map]
  exact S.caps.len
theorem zV{pp:Pos}{use:Option (Value->Sem Unit)}{Q':Value->Shared->Prop}{pins:List (Addr×Obj)}{s:Shared}{σ:St}{H:Hp}{Q:VK}(S:DY X sc cl N' cap)(hc:X.calm=true)(hi:PI X tg iter wi)(hg:∀s₀ H₀ C fp pn,PG (bj X N' sc cl s₀ H₀ C fp pn) tg g)(ht:∀s₀ H₀ C fp pn,yU (bj X N' sc cl s₀ H₀ C fp pn) ifs tt)
  (he:∀s₀ H₀ C fp pn,PE (bj X N' sc cl s₀ H₀ C fp pn) elt te) (hs:∀x,foldedSetIterable iter X.env x=pure x) (I:Inv X pins σ H s) (h:xG cap wi g tt te σ H Q)
  (fin:∀(s6:Shared)(C a:Addr)(H6:Hp)(m:Str->Option Value),s6.heap.Ns C m->xQ X pins H6 C->(∀h',Heap.SameBut C s6.heap h'->Inv X pins σ H6 { s6 with heap:=h' })->Q (.ref a) H6->compPost (model X.prog X.w) X.A X.xe use Q' (.ref a) C (.ok .next) s6) :
  wpAny (model X.prog X.w) X.A (comprehension (.ListComp elt [⟨tg,iter,ifs,0⟩] sc pos) sc X.env pp (newList []) false (eval iter X.env) use) Q' X.xe s:=by
 have nu:∀y∈sc.names,y.2≠.cell:=λy hy z=>absurd (List.all_eq_true.mp S.nu y hy) (by rw[z];decide)
 have locals:∀y∈sc.names,y.2=.local->sc.names.lookup y.1=some .local:=λy hy z=>by
  have q:=List.all_eq_true.mp S.locals y hy
  rw[z] at q
  simpa using q
 refine wpAny_comprehension_free (use:=use) rfl hs S.clos S.kind locals (thn (hi pins s σ H _ I h) λv s1 h1=>thn h1 λitv s2 h2=>?_)
 obtain⟨it,fp,tn,J,H2,e,I2,T,st2,f2,hR⟩:=h2
 subst e
 have nAcc:H2 s2.heap.objs.size=none:=I2.hok.fresh (Nat.le_refl _)
 obtain⟨W,⟨m0,w0⟩,step⟩:=hR s2.heap.objs.size nAcc
 refine wpAny_newObj_type (wpAny_newFunctionEnv nu (by intro y hy;simp at hy) (λh1 hns hsb=>?_) S.kind)
 have I3:Inv X pins σ (upd H2 s2.heap.objs.size (.lst [])) { s2 with heap:=s2.heap.push { cls:=.type "list",data:=.seq ([]:List Value).toArray } } :=
  I2.laid (t':=s2.toks) (λb u e=>Heap.get?_push_of_some _ e) (Nat.le_refl _) ⟨Nat.zero_le _,[],0,.nil,Heap.get?_push_size _ rfl⟩
 have fpn:∀b∈fp,b<s2.heap.objs.size:=λb hb=>by
  obtain⟨o,e,_⟩:=T.obj _ _ st2 b hb
  exact Heap.lt_size e
 have f3:∀b∈fp,xQ X pins (upd H2 s2.heap.objs.size (.lst [])) b:=λb hb=>⟨by rw[aN (Nat.ne_of_lt (fpn b hb))];exact(f2 b hb).1,(f2 b hb).2⟩
 have hC:(s2.heap.push { cls:=.type "list",data:=.seq ([]:List Value).toArray }).get? (s2.heap.push { cls:=.type "list",data:=.seq ([]:List Value).toArray }).objs.size=none:=Heap.get?_none_of_le (Nat.le_refl _)
 have keep:∀b o,(s2.heap.push { cls:=.type "list",data:=.seq ([]:List Value).toArray }).get? b=some o->h1.get? b=some o:=λb o e =>
  (hsb.2 b (Nat.ne_of_lt (Heap.lt_size e))).trans (Heap.get?_push_of_some _ e)
 have I4:=inv_comp S I3 f3 (λb hb=>by
  show b<(s2.heap.push _).objs.size
  rw[Heap.size_push]
  exact Nat.lt_succ_of_lt (fpn b hb)) hns keep
 have fpc:∀{H':Hp},(∀b∈fp,H' b=none)->∀b∈fp,xQ (bj X N' sc cl { s2 with heap:=s2.heap.push { cls:=.type "list",data:=.seq ([]:List Value).toArray } } (upd H2 s2.heap.objs.size (.lst [])) (s2.heap.push { cls:=.type "list",data:=.seq ([]:List Value).toArray }).objs.size fp (X.pn++pins)) [] H' b :=
  λhn b hb=>⟨hn b hb,(I4.ok.exf b hb).1,I4.ok.exfs b hb,.inl hb,(I4.ok.exf b hb).2,λp hp=>(f2 b hb).2.2.2.2.2 p (by simpa using hp)⟩
 have loop:∀s5:Shared,(∃i m ys τ H',Inv (bj X N' sc cl { s2 with heap:=s2.heap.push { cls:=.type "list",data:=.seq ([]:List Value).toArray } } (upd H2 s2.heap.objs.size (.lst [])) (s2.heap.push { cls:=.type "list",data:=.seq ([]:List Value).toArray }).objs.size fp (X.pn++pins)) [] τ H' s5 /\
   tn i s5.heap/\(∀b∈fp,H' b=none)/\W i m ys τ H')->codeAny (model X.prog X.w) X.A (.compLoop (.ListComp elt [⟨tg,iter,ifs,0⟩] sc pos) 0 (.ref it) (.ref s2.heap.objs.size) (compEnvC sc cl (s2.heap.push { cls:=.type "list",data:=.seq ([]:List Value).toArray }).objs.size X.env))
   (compPost (model X.prog X.w) X.A X.xe use Q' (.ref s2.heap.objs.size) (s2.heap.push { cls:=.type "list",data:=.seq ([]:List Value).toArray }).objs.size) s5:=by
  rintro s5 ⟨i0,m0',ys0,τ0,H0',I0,st0,fr0,w0'⟩
  refine Jh (λn s'=>∃i ys τ H',Inv (bj X N' sc cl { s2 with heap:=s2.heap.push { cls:=.type "list",data:=.seq ([]:List Value).toArray } } (upd H2 s2.heap.objs.size (.lst [])) (s2.heap.push { cls:=.type "list",data:=.seq ([]:List Value).toArray }).objs.size fp (X.pn++pins)) [] τ H' s' /\
   tn i s'.heap/\(∀b∈fp,H' b=none)/\W i n ys τ H') ?_ m0' ⟨i0,ys0,τ0,H0',I0,st0,fr0,w0'⟩
  rintro n s' ⟨i,ys,τ,H',I',st,fr,wv⟩
  obtain⟨hacc,hlen,alt⟩:=step i n ys τ H' wv
  rcases alt with⟨stop,q⟩| ⟨go,stp⟩
  .refine thn (T.done (bj X N' sc cl { s2 with heap:=s2.heap.push { cls:=.type "list",data:=.seq ([]:List Value).toArray } } (upd H2 s2.heap.objs.size (.lst [])) (s2.heap.push { cls:=.type "list",data:=.seq ([]:List Value).toArray }).objs.size fp (X.pn++pins)) rfl rfl rfl hc i [] s' τ H' _ I' (fpc fr) st stop) λr s6 ⟨hr,I6⟩=>?_
   subst hr
   obtain⟨m,hn,_⟩:=id I6.loc
   refine fin s6 _ _ H' m hn (I2.fpOk (by rw[Heap.size_push];exact Nat.le_succ _) I6.free) (λh' sb=>?_) q
   have un:Un (frs X.stack) fp H2 H' s2.heap h':=(Un.laid (o:=.lst []) (h':=s2.heap.push { cls:=.type "list",data:=.seq ([]:List Value).toArray }) (λb u e=>Heap.get?_push_of_some _ e) (Nat.le_refl _) nAcc).trans (I6.base.sameBut sb hC)
   exact I2.call' (s':={ s6 with heap:=h' }) (ch:=fp) I6.os un (I6.hok.sameBut sb I6.free) I6.bare λb hb=>⟨(f2 b hb).2.2.2.1,(f2 b hb).2.1,(f2 b hb).2.2.2.2.1,(f2 b hb).2.2.2.2.2⟩
  .refine thn (T.item (bj X N' sc cl { s2 with heap:=s2.heap.push { cls:=.type "list",data:=.seq ([]:List Value).toArray } } (upd H2 s2.heap.objs.size (.lst [])) (s2.heap.push { cls:=.type "list",data:=.seq ([]:List Value).toArray }).objs.size fp (X.pn++pins)) rfl rfl rfl hc i [] s' τ H' _ I' (fpc fr) st go) λr s6 ⟨u,hr,h6⟩=>?_
   subst hr
   refine thn h6 λ_ s7 ⟨x,H7,I7,rx,y7,st7,fr7⟩=>?_
   have I7':=I7.pinned (fpc fr7) (T.obj _ _ st7)
   refine thn (hg _ _ _ _ _ _ s7 τ H7 x u _ I7' rx (stp x H7 y7)) λ_ s8 ⟨τ8,H8,I8,q8⟩=>?_
   refine thn (ht _ _ _ _ _ _ s8 τ8 H8 _ I8 q8) λok s9 ⟨H9,I9,q9⟩=>?_
   have again:∀{τa:St}{Ha:Hp}{sa:Shared}{ysa:List V},Inv (bj X N' sc cl { s2 with heap:=s2.heap.push { cls:=.type "list",data:=.seq ([]:List Value).toArray } } (upd H2 s2.heap.objs.size (.lst [])) (s2.heap.push { cls:=.type "list",data:=.seq ([]:List Value).toArray }).objs.size fp (X.pn++pins)) ([]++Ae fp s7.heap) τa Ha sa ->
     (∃m',m'<n/\W (i+1) m' ysa τa Ha)->∃m',m'<n/\∃i ys τ H',Inv (bj X N' sc cl { s2 with heap:=s2.heap.push { cls:=.type "list",data:=.seq ([]:List Value).toArray } } (upd H2 s2.heap.objs.size (.lst [])) (s2.heap.push { cls:=.type "list",data:=.seq ([]:List Value).toArray }).objs.size fp (X.pn++pins)) [] τ H' sa /\
      tn i sa.heap/\(∀b∈fp,H' b=none)/\W i m' ys τ H':=fun{τa Ha sa ysa} Ia ⟨m',lt,wa⟩=>by
    refine⟨m',lt,i+1,ysa,τa,Ha,Ia.vy,T.keep _ _ _ st7 λb hb o e=>(Ia.pin (b,o) (List.mem_append_right _ (List.mem_append_right _ (m9 hb e)))).1,λb hb=>?_,wa⟩
    obtain⟨o,e,_⟩:=T.obj _ _ st7 b hb
    exact(Ia.pin (b,o) (List.mem_append_right _ (List.mem_append_right _ (m9 hb e)))).2.1
   cases ok with
   | false=>exact again I9 q9
   | true =>
    refine thn (he _ _ _ _ _ _ s9 τ8 H9 _ I9 q9) λv s10 ⟨y,H10,I10,ry,ha,hw⟩=>?_
    refine thn (Ds _ s10 τ8 H10 (.ref s2.heap.objs.size) [y] (.ref s2.heap.objs.size) [v] (λ_ Hq=>Hq=upd H10 s2.heap.objs.size (.lst (ys++[y]))) I10 rfl (.cons ry .nil) ⟨_,_,_,rfl,rfl,ha,hlen,rfl⟩) λ_ s11 ⟨_,H11,I11,_,e11⟩=>?_
    subst e11
    exact again I11 hw
 have start:∃i m ys τ H',Inv (bj X N' sc cl { s2 with heap:=s2.heap.push { cls:=.type "list",data:=.seq ([]:List Value).toArray } } (upd H2 s2.heap.objs.size (.lst [])) (s2.heap.push { cls:=.type "list",data:=.seq ([]:List Value).toArray }).objs.size fp (X.pn++pins)) [] τ H' { s2 with heap:=h1 } /\
   tn i h1/\(∀b∈fp,H' b=none)/\W i m ys τ H' :=
  ⟨0,m0,[],capS cap σ,_,I4,T.keep _ _ _ st2 λb hb o e=>keep _ _ (Heap.get?_push_of_some _ e),λb hb=>(f3 b hb).1,w0⟩
 exact codeAny_compStart_list (loop _ start) (T.self _ 0 _ _ _ (T.keep _ _ _ st2 λb hb o e=>keep _ _ (Heap.get?_push_of_some _ e)) (loop _ start))
theorem gA(S:DY X sc cl N' cap)(hc:X.calm=true)(hi:PI X tg iter wi)(hg:∀s₀ H₀ C fp pn,PG (bj X N' sc cl s₀ H₀ C fp pn) tg g)(ht:∀s₀ H₀ C fp pn,yU (bj X N' sc cl s₀ H₀ C fp pn) ifs tt)
  (he:∀s₀ H₀ C fp pn,PE (bj X N' sc cl s₀ H₀ C fp pn) elt te) (hs:∀x,foldedSetIterable iter X.env x=pure x:=by intro _;rfl) :
  PE X (.ListComp elt [⟨tg,iter,ifs,0⟩] sc pos) (xG cap wi g tt te):=by
 intro pins s σ H Q I h
 rw[eval_ListComp]
 exact zV (use:=none) (Q':=EP X pins σ Q) S hc hi hg ht he hs I h λs6 C a H6 m hn _ hI q=>⟨m,hn,λh' sb=>⟨.ref a,H6,hI h' sb,rfl,q⟩⟩
theorem MF{i:Nat}{x:Str}{pos' spos:Pos}(S:DY X sc cl N' cap)(hc:X.calm=true)(hN:X.N.Nodup)(hi':X.N[i]?=some x)(hx:Loc X.env.scope x)(hi:PI X tg iter wi)(hg:∀s₀ H₀ C fp pn,PG (bj X N' sc cl s₀ H₀ C fp pn) tg g)(ht:∀s₀ H₀ C fp pn,yU (bj X N' sc cl s₀ H₀ C fp pn) ifs tt)
  (he:∀s₀ H₀ C fp pn,PE (bj X N' sc cl s₀ H₀ C fp pn) elt te) (hsw:swapsWith (.ListComp elt [⟨tg,iter,ifs,0⟩] sc pos) (some (.Name x pos')) spos.line X.env=pure true) (hs:∀x,foldedSetIterable iter X.env x=pure x:=by intro _;rfl)
  (hf:X.fn x=true∨X.env.scope.names.lookup x=some .local:=by first | exact .inl rfl | exact .inr rfl | assumption) :
  PS X (.Assign [.Name x pos'] (.ListComp elt [⟨tg,iter,ifs,0⟩] sc pos) spos) (tAsg (xG cap wi g tt te) (xg i)):=by
 intro pins s σ H D I h
 rw[exec_Assign_Name_used _ _ _ _ hsw]
 refine wpAny_bind (wpAny_standAt (wpAny_bind ?_))
 show wpAny _ _ (do let _ ←comprehension (.ListComp elt [⟨tg,iter,ifs,0⟩] sc pos) sc X.env _ (newList []) false (eval iter X.env) (some (assign (.Name x pos') X.env))) _ _ s
 refine wpAny_bind (wpAny_mono (zV (use:=some (assign (.Name x pos') X.env)) (Q':=λ_ s'=>SP X pins D .next s') S hc hi hg ht he hs I h λs6 C a H6 m hn fp hI q=>?_) (λ_ s' hq=>wpAny_pure (wpAny_pure hq)) λ_ _ e=>e)
 refine wpAny_assign_Name (DN (v:=.ref a) (hI _ (Heap.SameBut.refl _ _)) hN hi' hx rfl (λs7 I7 ⟨a7,sb7,ha7⟩=>?_) hf)
 have ne:C≠a7:=by
  rintro rfl
  rcases ha7 with e | e
  .exact fp.2.1 e
  .exact fp.2.2.2.2.1 _ _ e rfl
 refine⟨m,hn.sameBut sb7 ne,λh' sb=>?_⟩
 have un:Un (frs X.stack) [C] H6 H6 s7.heap h':=by
  have k:∀b o,s7.heap.get? b=some o->b∉[C]->h'.get? b=some o:=λb o e n=>(sb.2 b (λz=>n (by simp[z]))).trans e
  exact⟨λb o e _ _ n=>k b o e n,λb o e _ _ n=>⟨o.slots,k b o e n⟩,λ_ _ _ n _=>n,λb o e n=>⟨o,k b o e n⟩,λ_ _ q=>q,λ_ _ _ q=>q,λ_ ps q=>⟨#[],by simpa using q⟩⟩
 refine⟨_,H6,I7.call' (s':={ s7 with heap:=h' }) (ch:=[C]) rfl un (I7.hok.sameBut sb fp.1) I7.bare λb hb=>?_,q⟩
 obtain rfl:=List.mem_singleton.mp hb
 exact⟨fp.2.2.2.1,fp.2.1,fp.2.2.2.2.1,fp.2.2.2.2.2⟩
end
end L2
namespace L2
open PySem PySem.Spec PyProof.Rows
section
variable{X:Cx}{pins:List (Addr×Obj)}{σ:St}{H:Hp}{s:Shared}{h':Heap}
theorem Inv.Bb{ch:List Addr}{a:Addr}{o:HO}{t':Nat}(I:Inv X pins σ H s)(hch:∀b∈ch,xQ X pins H b)(k:∀b u,b∉ch->s.heap.get? b=some u->h'.get? b=some u)(ha:s.heap.objs.size<=a)
  (new:cC X.prog X.w (upd H a o) h' a o):Inv X pins σ (upd H a o) { s with heap:=h',toks:=t' }:=by
 have hn:H a=none:=I.hok.fresh ha
 have nch:∀b u,H b=some u->b∉ch:=λb u e z=>by rw[(hch b z).1] at e;cases e
 have nea:∀b u,s.heap.get? b=some u->b≠a:=λb u e=>Nat.ne_of_lt (Nat.lt_of_lt_of_le (Heap.lt_size e) ha)
 refine I.step (g':=s.gens) (d':=s.drawn) (ch:=ch) (λb hb=>?_) (λb u _ _ hc e _=>k b u hc e) (λb u _ _ hc e _=>⟨u.slots,k b u hc e⟩) (λb u hc e n=>by rw[aN (nea b u e)];exact n) (λb u hc e=>⟨u,k b u hc e⟩)
  (λb xs e=>by rw[aN (aJ e hn)];exact e) (λb u xs e=>by rw[aN (aJ e hn)];exact e) (λb ps e=>⟨#[],by rw[aN (aJ e hn),e];simp⟩) (λm hm=>?_) (λb u e=>?_) I.bare
 .obtain⟨_,h2,_,h4,h5,h6⟩:=hch b hb
  exact⟨h4,h2,h5,h6⟩
 .obtain⟨o',es,ep,ho,r⟩:=hm
  exact⟨o',es,ep,k _ o' (λz=>(hch _ z).2.1 rfl) ho,r⟩
 .by_cases hb:b=a
  .subst hb
   rw[aP] at e
   cases e
   exact new
  .rw[aN hb] at e
   refine(I.hok b u e).stay (λc v hc q=>k c v ?_ q) (λc q=>by rw[aN (aJ q hn)];exact q) λc xs q=>by rw[aN (aJ q hn)];exact q
   rcases hc with z | z
   .rw[z];exact nch b u e
   .exact nch c _ z
end
def Ite(K:Frag)(a:Addr):It :=
 ⟨λi H=>∃xs x,SqL K H a xs/\xs[i]?=some x,λi H v H'=>∃p x,v=.ref p/\H p=none/\H'=upd H p (.tup [.int i,x])/\∀xs,SqL K H a xs->xs[i]?=some x,λi H=>∃xs,SqL K H a xs/\xs.length<=i⟩
theorem Qd{P:Program}{w:World}{K:Frag}{es:List Expr}{kk:Nat}{tp:Pos}(a e it:Addr)(hne:e≠it):
  Turn P w K (.Tuple es kk tp) (Ite K a) [e,it] e (λi h=>(∃old,IsEnum h e it (i:Nat) old)/\h.IsListIter it a i) where
 mem:=by simp
 obj:=λi h st b hb=>by
  obtain⟨⟨old,s1⟩,s2⟩:=st
  rcases List.mem_cons.mp hb with z | z
  .subst z
   exact⟨_,s1,λv q=>by
    have q':Data.fields _=Data.cell v:=q
    cases q'⟩
  .have z:b=it:=by simpa using z
   subst z
   obtain⟨o,e1,c,d⟩:=s2
   exact⟨o,e1,λv q=>by rw[d] at q;cases q⟩
 keep:=λi h h' st k=>by
  obtain⟨⟨old,s1⟩,s2⟩:=st
  exact⟨⟨old,k e (by simp) _ s1⟩,s2.at λo q=>k it (by simp) o q⟩
 item:=by
  intro X hP hw hK hc i pins s σ H E I hf st hg
  subst hP hw hK
  obtain⟨xs,x,hq,hx⟩:=hg
  obtain⟨⟨old,s1⟩,s2⟩:=st
  obtain⟨its,rv,p,hz⟩:=I.list hq
  obtain⟨u,hu,ru⟩:=rv.get hx
  refine wpAny_pyNext_enum_item s1 s2 p.isList (x:=u) (by simpa using hu) hne λh1 eo li tu sz kk'=>⟨_,rfl,wpAny_letOwnedTupleGo_enum eo λh2 ie sb=>?_⟩
  have hp:H s.heap.objs.size=none:=I.hok.fresh (Nat.le_refl _)
  have lt1:e<s.heap.objs.size:=Heap.lt_size s1
  have ne1:s.heap.objs.size≠e:=Nat.ne_of_gt lt1
  have tu2:h2.get? s.heap.objs.size=some { cls:=.type "tuple",data:=.seq #[.int i s.toks,u] }:=(sb.2 _ ne1).trans tu
  have I2:Inv X pins σ (upd H s.heap.objs.size (.tup [.int i,x])) { s with heap:=h2,toks:=s.toks+1 }:=I.Bb (ch:=[e,it]) hf (λb o hb q=>by
    have hb1:b≠e:=λz=>hb (by simp[z])
    have hb2:b≠it:=λz=>hb (by simp[z])
    exact(sb.2 b hb1).trans (kk' b o hb1 hb2 q)) (Nat.le_refl _) ⟨by show 2<=sizeLine;decide,[.int i s.toks,u],.cons ⟨_,rfl⟩ (.cons ru .nil),_,tu2,rfl,0,rfl⟩
  refine⟨.ref s.heap.objs.size,_,I2,rfl,⟨_,x,rfl,hp,rfl,λys hy=>by rw[I.JR hy hq];exact hx⟩,⟨⟨u,?_⟩,?_⟩,λb hb=>?_⟩
  .have q:IsEnum h2 e it ((i:Int)+1) u:=ie
   rw[show ((i:Int)+1)=((i+1:Nat):Int) by omega] at q
   exact q
  .obtain⟨o,e1,r⟩:=li
   exact⟨o,(sb.2 it (Ne.symm hne)).trans e1,r⟩
  .have lt2:b<s.heap.objs.size:=by
    rcases List.mem_cons.mp hb with z | z
    .rw[z];exact lt1
    .have z:b=it:=by simpa using z
     rw[z]
     obtain⟨o,e1,_⟩:=s2
     exact Heap.lt_size e1
   rw[aN (Nat.ne_of_lt lt2)]
   exact(hf b hb).1
 done:=by
  intro X hP hw hK hc i pins s σ H E I hf st hg
  subst hP hw hK
  obtain⟨xs,hq,hx⟩:=hg
  obtain⟨⟨old,s1⟩,s2⟩:=st
  obtain⟨its,rv,p,hz⟩:=I.list hq
  obtain⟨f0,f1,f2,f3,f4,f5⟩:=hf it (by simp)
  have hl:=rv.length
  exact wpAny_pyNext_enum_end (I.ok.hd hc) s1 s2 p.isList (by simp;omega) λh' eb=>⟨rfl,I.turned (t':=s.toks) (λb o hb q=>eb b o hb q) f0 f1 f3 f4 f5⟩
 self:=λ_ _ _ _ _ st h=>wpAny_pyIter_enum st.1.choose_spec h
section
variable{X:Cx}
def iEnum(K:Frag)(ta:TA):TI:=λσ H R=>ta σ H λvs H1=>∃a,vs=[.ref a]/\(∃xs,SqL K H1 a xs)/\R (Ite K a) H1
theorem pi_enum{es:List Expr}{kk:Nat}{tp:Pos}{l:Expr}{ta:TA}{p pos:Pos}(hg:Gl X "enumerate")(hm:X.mg "enumerate"=none)(ha:PA X [l] ta)(hs:starEach [l] X.env=[(false,eval l X.env)]:=by rfl):
  PI X (.Tuple es kk tp) (.Call (.Name "enumerate" p) [l] [] pos) (iEnum X.K ta):=by
 intro pins s σ H R I h
 refine Call_ (qC I hg hm PyProof.Rows.boot_enumerate (PyProof.Rows.callWith_type1 (thn (ha pos pins s σ H _ I h) λus s1 ⟨vs,H1,I1,r1,q1⟩=>?_) hs rfl))
 obtain⟨a,e,⟨xs,hq⟩,q⟩:=q1
 subst e
 cases r1 with
 | cons r rr =>
  cases rr
  cases r
  obtain⟨its,rv,pl,hz⟩:=I1.list hq
  refine call_enumerate_list pl.isList λh' ie li sz kp=>?_
  refine wpAny_pyIter_enum (it:=s1.heap.objs.size) (i:=0) (old:=.none) ie ?_
  have I2:Inv X pins σ H1 { s1 with heap:=h' }:=I1.kept (t':=s1.toks) kp
  refine⟨s1.heap.objs.size+1,[s1.heap.objs.size+1,s1.heap.objs.size],_,_,H1,rfl,I2,Qd a (s1.heap.objs.size+1) s1.heap.objs.size (Nat.succ_ne_self _),⟨⟨.none,ie⟩,li⟩,λb hb=>?_,q⟩
  have hb':s1.heap.objs.size<=b:=by
   rcases List.mem_cons.mp hb with z | z
   .rw[z];exact Nat.le_succ _
   .have z:b=s1.heap.objs.size:=by simpa using z
    exact Nat.le_of_eq z.symm
  obtain⟨g1,g2,g3,g4,g5,g6⟩:=I1.fpOk hb' (I1.hok.fresh hb')
  exact⟨g1,g2,g3,g4,g5,g6⟩
end
section
variable{X:Cx}{e:Expr}{es:List Expr}{pos:Pos}
end
end L2
namespace L2
open PySem PySem.Spec PyProof.Rows MX
section
variable{X:Cx}{CX:CXT}{k:Nat}{f C:Addr}{fd:FuncData}{ps:List Str}{sp:Sp}{dvs:List V}{ds:List Value}{E:XK}{x m:Str}{p pos apos:Pos}{e:Expr}{es:List Expr}{t:TA}
structure yp(K:Frag)(C:Addr)(m:Str)(v:Value):Prop where
 sp:PySem.W.specialIn K (.ref C) "__getattribute__"=some (some (.builtin "type.__getattribute__"))
 rd:PySem.W.readsIn K C (.type "type")=true
 at_:PySem.W.findCls K (.ref C) (.type "type") m=some (.val v)
theorem J5{pl:Sem Bool}(F:bO X.prog X.w X.K X.mg X.base CX k f fd ps sp)(hr:cT k X.A)(hg:Gl X x)(hm:X.mg x=some (.ref C))(ca:yp X.K C m (.ref f))(hk:keepIn X.K (.ref f)=true)(hb:Binds X.K fd ps ds)(hd:Vals dvs ds)(hx:lg CX X E)
  (ha:PA X (e::es) t) (hdb:(x==("__debug__":Str))=false:=by decide) (he:starEach (e::es) X.env=(false,eval e X.env)::starEach es X.env:=by rfl) (hpl:(backTo pos (starEach es X.env)).any (·.1)=false:=by rfl)
  (ht:eval (.Call (.Attribute (.Name x p) m apos) (e::es) [] pos) X.env=(do
   let ov ←eval (.Name x p) X.env
   standAt apos.atName
   let (f,first) ←holding [ov] (getMethod ov m pl)
   callWith pos f first (backTo pos (starEach (e::es) X.env)) (backToKw pos (keywordEach [] X.env))):=by rfl) :
  PE X (.Call (.Attribute (.Name x p) m apos) (e::es) [] pos) (DQ sp dvs E t):=by
 intro pins s σ H Q I h
 refine PySem.W.methodCall_KW (pl:=pl) (uQ I hg hm ?_ hdb) ht
 refine PySem.W.method_cls I.kIn ca.sp (PySem.W.cls_value I.kIn ca.rd ca.at_ rfl ?_)
 have I1:=I.tok (s.toks+1)
 refine PySem.W.callWith_K (first:=[]) (h₀:=X.base) I.ok.mod.kin hk (thn (ha pos pins _ σ H _ I1 h) λus s1 ⟨vs,H1,I2,r,q⟩=>⟨I2.kIn,?_⟩) he hpl
 exact Hl F hr hb hd hx I2 r q
end
def excP(n:Bool)(C:Addr)(dd:Option Addr)(e:Addr)(h:Heap):Prop:=∃o vs t,h.get? e=some o/\o.cls=.ref C/\o.dict=dd/\o.data=.fields vs/\vs[0]?=some (.ref t)/\(n=true->vs=#[.ref t,.none,.none,.none,.bool false,.none])
def xdP(fs:List (Str×V))(d:Addr)(h:Heap):Prop:=∃mA,h.Ns1 d mA/\(∀f,mC (fs.lookup f) (mA f))/\PySem.Within mA (fs.map (·.1))
abbrev HO.exc(n:Bool)(C:Addr)(dd:Option Addr)(e:Addr):HO:=.ext (excP n C dd e)
abbrev HO.xds(fs:List (Str×V))(d:Addr):HO:=.ext (xdP fs d)
section
variable{X:Cx}{CX:CXT}{k:Nat}{f C N:Addr}{fd:FuncData}{ps:List Str}{sp:Sp}{dvs:List V}{ds:List Value}{E:XK}{x m:Str}{p pos apos:Pos}{e:Expr}{es:List Expr}{t:TA}
end
end L2
namespace L2
open PySem PySem.Spec PyProof.Rows MX
section
variable{X:Cx}{pins:List (Addr×Obj)}{σ:St}{H:Hp}{s:Shared}{h':Heap}
end
section
variable{X:Cx}{o e value:Expr}{f:Str}{pos pos':Pos}{ta tv:TE}
inductive TyX (K:Frag) (H:Hp):V->Value->Prop where
 | of {x:V} {t:Value} (h:vU K H x t):TyX K H x t
 | e0 {n:Bool} {a C:Addr} (h:H a=some (.exc n C none a)) (g:ExcGet K C):TyX K H (.ref a) (.ref C)
 | e1 {n:Bool} {a C d:Addr} {fs:List (Str×V)} (h:H a=some (.exc n C (some d) a)) (h':H d=some (.xds fs d)) (g:ExcGet K C):TyX K H (.ref a) (.ref C)
 | kt {a:Addr} {xs:List V} (h:SqT K H a xs):TyX K H (.ref a) (.type "tuple")
def clsV:V->Value
 | .ref C=>.ref C
 | .ty n=>.type n
 | _=>.none
def rIsi(K:Frag)(xs:List V)(H:Hp)(Q:VK):Prop:=∃x c t b,xs=[x,c]/\(c=.ref (match c with | .ref C=>C | _=>0)∨c=.ty (match c with | .ty n=>n | _=>""))/\TyX K H x t/\PySem.W.kitOne K t (clsV c)=some b/\Q (.bl b) H
theorem call_isi:iM X (.builtin "isinstance") (rIsi X.K):=by
 intro pins s σ H xs us Q I r h
 obtain⟨x,c,t,b,rfl,hc,ty,ek,q⟩:=h
 cases r with
 | @cons _ u _ _ rx rr =>
  cases rr with
  | @cons _ cu _ _ rc rr =>
   cases rr
   have ec:cu=clsV c:=by
    rcases hc with z | z <;> · rw[z] at rc ⊢;exact rc
   subst ec
   have fin:∀tk,EP X pins σ Q (.bool b) { s with toks:=tk }:=λtk=>⟨.bl b,H,I.tok tk,rfl,q⟩
   cases ty with
   | of ty=>exact Pg I rx ty ek fin
   | @e0 n a C hH G =>
    cases rx
    obtain⟨⟨ob,vs,t0,e1,e2,e3,e4,e5⟩,_,_⟩:=I.hok a _ hH
    have IA:PySem.W.InstAt s.heap a ob C none:=⟨e1,e2,by unfold PySem.W.notCls;rw[e4],by rw[e3];trivial⟩
    exact PySem.W.kia_one (excKit G) I.kIn IA ek (λz=>nomatch z) fin
   | @e1 n a C d fs hH hD G =>
    cases rx
    obtain⟨⟨ob,vs,t0,e1,e2,e3,e4,e5⟩,_,_⟩:=I.hok a _ hH
    obtain⟨⟨mA,n1,rl,wi⟩,_,_⟩:=I.hok d _ hD
    obtain⟨oD,esD,epD,eD,_⟩:=n1
    have IA:PySem.W.InstAt s.heap a ob C (some oD):=⟨e1,e2,by unfold PySem.W.notCls;rw[e4],by rw[e3];exact eD⟩
    exact PySem.W.kia_one (excKit G) I.kIn IA ek (λz=>nomatch z) fin
   | @kt a xs hs =>
    cases rx
    obtain⟨its,_,⟨o,h1,h2,_⟩,_⟩:=I.tuple hs
    exact PySem.W.kia_one PySem.W.kitx_tuple I.kIn ⟨o,h1,h2⟩ ek (λz=>nomatch z) fin
end
theorem Gm{K:Frag}{t:Value}{C:Addr}{cd:ClassData}{b:Bool}(h1:PySem.W.clsIn K C=some cd)(h2:PySem.W.typeIn K (.ref C)=some (.type "type"))(h3:PySem.W.subIn K t (.ref C)=some b)(h4:t=.ref C->b=true):PySem.W.kitOne K t (.ref C)=some b:=by
 unfold PySem.W.kitOne
 by_cases q:(t==Value.ref C)=true
 .rw[if_pos q,h4 (beq_iff_eq.mp q)]
 .rw[if_neg q]
  unfold PySem.W.kitCls
  dsimp only
  rw[h1,h2,if_pos (by simp)]
  exact h3
end L2
namespace L2
open PySem PySem.Spec PyProof.Rows
mutual
inductive vK (K:Frag) (H:Hp):V->PyData->Prop
 | non:vK K H .non .none
 | bl (b:Bool):vK K H (.bl b) (.bool b)
 | int (i:Int):vK K H (.int i) (.int i)
 | str (x:Str):vK K H (.str x) (.str x)
 | lst {a:Addr} {xs:List V} {ds:List PyData} (h:SqL K H a xs) (r:fJ K H xs ds):vK K H (.ref a) (.list ds)
 | tup {a:Addr} {xs:List V} {ds:List PyData} (h:SqT K H a xs) (r:fJ K H xs ds):vK K H (.ref a) (.tuple ds)
inductive fJ (K:Frag) (H:Hp):List V->List PyData->Prop
 | nil:fJ K H [] []
 | cons {x:V} {xs:List V} {d:PyData} {ds:List PyData} (h:vK K H x d) (r:fJ K H xs ds):fJ K H (x::xs) (d::ds)
end
section
variable{X:Cx}{pins:List (Addr×Obj)}{σ:St}{H:Hp}{s:Shared}
mutual
theorem vK.reads(I:Inv X pins σ H s):∀{x:V}{d:PyData}{u:Value},vK X.K H x d->RelV x u->∃as,Reads s.heap u d as
 | _,_,_,.non,r=>by cases r;exact⟨_,.none⟩
 | _,_,_,.bl b,r=>by cases r;exact⟨_,.bool b⟩
 | _,_,_,.int i,r=>by obtain⟨t,rfl⟩:=r;exact⟨_,.int i t⟩
 | _,_,_,.str x,r=>by obtain⟨t,rfl⟩:=r;exact⟨_,.str x t⟩
 | _,_,_,.lst h q,r=>by
  cases r
  obtain⟨its,rv,p,_⟩:=I.list h
  obtain⟨as,z⟩:=fJ.reads I q rv
  obtain⟨o,e,c,n,dd⟩:=p.isList
  exact⟨_,.list e c dd (by simpa using z)⟩
 | _,_,_,.tup h q,r=>by
  cases r
  obtain⟨its,rv,p,_⟩:=I.tuple h
  obtain⟨as,z⟩:=fJ.reads I q rv
  obtain⟨o,e,c,n,dd⟩:=p
  exact⟨_,.tuple e c dd (by simpa using z)⟩
theorem fJ.reads(I:Inv X pins σ H s):∀{xs:List V}{ds:List PyData}{us:List Value},fJ X.K H xs ds->Vals xs us->∃as,ReadsAll s.heap us ds as
 | _,_,_,.nil,.nil=>⟨_,.nil⟩
 | _,_,_,.cons h q,.cons r rr=>by
  obtain⟨as,z⟩:=vK.reads I h r
  obtain⟨bs,y⟩:=fJ.reads I q rr
  exact⟨_,.cons z y⟩
end
end
def rEqD(K:Frag)(neg:Bool):R2:=λx y H Q=>∃da db,vK K H x da/\vK K H y db/\da.canLay0=true/\db.canLay0=true/\da.depth<=50/\Q (.bl (PyData.eqv da db != neg)) H
section
variable{X:Cx}
theorem op_eqD(hu:X.A.units+64<cLine):OpR X (compareOp .Eq) (rEqD X.K false):=by
 intro pins s σ H x y v u Q I rx ry h
 obtain⟨da,db,d1,d2,c1,c2,dp,q⟩:=h
 obtain⟨as,r1⟩:=d1.reads I rx
 obtain⟨bs,r2⟩:=d2.reads I ry
 exact SeqAt.compareEq_reads r1 r2 c1 c2 (by omega) ⟨.bl (PyData.eqv da db),H,I,rfl,by simpa using q⟩
theorem op_neD(hu:X.A.units+64<cLine):OpR X (compareOp .NotEq) (rEqD X.K true):=by
 intro pins s σ H x y v u Q I rx ry h
 obtain⟨da,db,d1,d2,c1,c2,dp,q⟩:=h
 obtain⟨as,r1⟩:=d1.reads I rx
 obtain⟨bs,r2⟩:=d2.reads I ry
 exact SeqAt.compareNe_reads r1 r2 c1 c2 (by omega) ⟨.bl (!PyData.eqv da db),H,I,rfl,by simpa using q⟩
theorem op_mulS:OpR X (binaryOp .Mult) (λx y H Q=>∃i n,x=.str i/\y=.int n/\i.length<=1000/\0<=n/\n<=1000/\Q (.str (Txt.mul i n)) H):=by
 intro pins s σ H x y v u Q I rx ry h
 obtain⟨i,n,rfl,rfl,h1,h2,h3,q⟩:=h
 obtain⟨t,rfl⟩:=rx
 obtain⟨t',rfl⟩:=ry
 exact PySem.SB.mul (mulOk_of 1000 1000 h1 (by omega) (by omega) (by decide) (by decide)) λt'' k=>⟨.str (Txt.mul i n),H,I.tok k,⟨_,rfl⟩,q⟩
end
end L2
namespace L2
open PySem PySem.Spec PyProof.Rows
section
variable{κ:Type}[DecidableEq κ]
def jT(kvs:List (κ×V))(k:κ):Option V:=(kvs.find? λkv=>decide (kv.1=k)).map (·.2)
def putK(kvs:List (κ×V))(k:κ)(v:V):List (κ×V) :=
 if (kvs.any λkv=>decide (kv.1=k))=true then kvs.map (λkv=>if kv.1=k then (kv.1,v) else kv) else kvs++[(k,v)]
theorem vA{p:κ×V}{r:List (κ×V)}{k:κ}(e:p.1=k):jT (p::r) k=some p.2:=by simp[jT,List.find?_cons,e]
theorem vz{p:κ×V}{r:List (κ×V)}{k:κ}(e:¬p.1=k):jT (p::r) k=jT r k:=by simp[jT,List.find?_cons,e]
theorem KQ(k:κ):∀kvs:List (κ×V),(kvs.any λkv=>decide (kv.1=k))=(jT kvs k).isSome
 | []=>rfl
 | p::r=>by
  rw[List.any_cons]
  by_cases e:p.1=k
  .simp only[vA e,decide_eq_true e,Bool.true_or,Option.isSome_some]
  .rw[vz e,decide_eq_false e,Bool.false_or];exact KQ k r
theorem JP(kvs:List (κ×V))(k:κ)(v:V):(putK kvs k v).length<=kvs.length+1:=by
 unfold putK
 split
 .rw[List.length_map];omega
 .rw[List.length_append,List.length_cons,List.length_nil];omega
theorem mC.Dn{o:Option V}{u:Option Value}(r:mC o u):o.isSome=u.isSome:=by
 cases o with
 | none=>cases u with
  | none=>rfl
  | some _=>exact(show False from r).elim
 | some _=>cases u with
  | none=>exact(show False from r).elim
  | some _=>rfl
theorem mC.getD{o:Option V}{u:Option Value}{d:V}{d':Value}(r:mC o u)(rd:RelV d d'):RelV (o.getD d) (u.getD d'):=by
 cases o with
 | none=>cases u with
  | none=>exact rd
  | some _=>exact(show False from r).elim
 | some _=>cases u with
  | none=>exact(show False from r).elim
  | some _=>exact r
theorem KV.val{kvs:List (κ×V)}{vs:List (κ×Value)}(r:KV kvs vs)(k:κ):mC (jT kvs k) (valueAt vs k):=by
 unfold KV at r
 induction r with
 | nil=>exact True.intro
 | @cons p q ps qs h t ih =>
  obtain⟨h1,h2⟩:=h
  by_cases e:p.1=k
  .have e':q.1=k:=h1.symm.trans e
   have b:valueAt (q::qs) k=some q.2:=by simp[valueAt,List.find?_cons,e']
   rw[vA e,b];exact h2
  .have e':¬q.1=k:=λz=>e (h1.trans z)
   have b:valueAt (q::qs) k=valueAt qs k:=by simp[valueAt,List.find?_cons,e']
   rw[vz e,b];exact ih
theorem KV.any{kvs:List (κ×V)}{vs:List (κ×Value)}(r:KV kvs vs)(k:κ):(kvs.any λkv=>decide (kv.1=k))=vs.any λkv=>decide (kv.1=k):=by
 unfold KV at r
 induction r with
 | nil=>rfl
 | cons h t ih=>rw[List.any_cons,List.any_cons,ih,h.1]
theorem KV.repl{kvs:List (κ×V)}{vs:List (κ×Value)}(r:KV kvs vs)(k:κ){y:V}{u:Value}(ry:RelV y u):
  KV (kvs.map λkv=>if kv.1=k then (kv.1,y) else kv) (vs.map λkv=>if kv.1=k then (kv.1,u) else kv):=by
 unfold KV at r ⊢
 induction r with
 | nil=>exact .nil
 | @cons p q ps qs h t ih =>
  rw[List.map_cons,List.map_cons]
  refine .cons ?_ ih
  obtain⟨h1,h2⟩:=h
  by_cases e:p.1=k
  .rw[if_pos e,if_pos (h1.symm.trans e)];exact⟨h1,ry⟩
  .rw[if_neg e,if_neg (λz=>e (h1.trans z))];exact⟨h1,h2⟩
theorem KV.put{kvs:List (κ×V)}{vs:List (κ×Value)}(r:KV kvs vs)(k:κ){y:V}{u:Value}(ry:RelV y u):KV (putK kvs k y) (stored vs k u):=by
 unfold putK stored
 rw[r.any k]
 by_cases e:(vs.any λkv=>decide (kv.1=k))=true
 .rw[if_pos e,if_pos e];exact r.repl k ry
 .rw[if_neg e,if_neg e];exact Paired.snoc r ⟨rfl,ry⟩
theorem KV.length{kvs:List (κ×V)}{vs:List (κ×Value)}(r:KV kvs vs):kvs.length=vs.length:=Paired.length r
end
theorem JN{P:Program}{w:World}{k:Key}{u:Value}(r:RelV (kV k) u):(cM P w).is k u=true:=by
 cases k with
 | inl i=>obtain⟨t,e⟩:=(show ∃t,u=Value.int i t from r);subst e;exact JS P w i t
 | inr x=>obtain⟨t,e⟩:=(show ∃t,u=Value.str x t from r);subst e;exact JT P w x t
theorem Do{P:Program}{w:World}:∀{ks:List Key}{us:List Value},Vals (ks.map kV) us->ItemsAre (cM P w) ks us
 | [],_,r=>by rw[List.map_nil] at r;cases r;exact .nil
 | k::ks,_,r=>by
  rw[List.map_cons] at r
  cases r with
  | cons h t=>exact .cons (JN h) (Do t)
abbrev KT(H:Hp):List (List Key×V)->List (List Key×Addr×Value)->Prop:=Paired λp q=>p.1=q.1/\H q.2.1=some (.tup (p.1.map kV))/\RelV p.2 q.2.2
theorem KT.val{H:Hp}{kvs:List (List Key×V)}{xs:List (List Key×Addr×Value)}(r:KT H kvs xs)(k:List Key):mC (jT kvs k) ((atKey xs k).map (·.2)):=by
 induction r with
 | nil=>exact True.intro
 | @cons p q ps qs h t ih =>
  obtain⟨h1,_,h2⟩:=h
  by_cases e:p.1=k
  .have e':q.1=k:=h1.symm.trans e
   have b:atKey (q::qs) k=some q.2:=by simp[atKey,List.find?_cons,e']
   rw[vA e,b];exact h2
  .have e':¬q.1=k:=λz=>e (h1.trans z)
   have b:atKey (q::qs) k=atKey qs k:=by simp[atKey,List.find?_cons,e']
   rw[vz e,b];exact ih
section
variable{P:Program}{w:World}{H:Hp}{h:Heap}{a:Addr}
theorem rd_of{u:HO}(ok:HOk P w H h)(e:Rd H a u):cC P w H h a u:=e.ok ok
theorem De{kvs:List (Key×V)}(ok:HOk P w H h)(e:Rd H a (.dK kvs)):kvs.length<=sizeLine/\(a==sysModules)=false/\∃vs,KV kvs vs/\h.DictOf (cM P w) a vs :=
 show cC P w H h a (.dK kvs) from rd_of ok e
theorem dk_of{kvs:List (Key×V)}(ok:HOk P w H h)(e:H a=some (.dK kvs)):kvs.length<=sizeLine/\(a==sysModules)=false/\∃vs,KV kvs vs/\h.DictOf (cM P w) a vs:=De ok (.inl e)
theorem Gk{ks:List Key}(ok:HOk P w H h)(e:H a=some (.tup (ks.map kV))):(tupleKind (cM P w)).is h ks a:=by
 obtain⟨_,its,r,o,h1,h2,n,h3⟩:=(show cC P w H h a (.tup (ks.map kV)) from ok a _ e)
 exact⟨o,its.toArray,n,h1,h2,h3,by simpa using Do r⟩
theorem Jp{kvs:List (List Key×V)}(ok:HOk P w H h)(e:Rd H a (.dT kvs)):kvs.length<=sizeLine/\(a==sysModules)=false /\
  ∃xs,KT H kvs xs/\h.DictOfH (tupleKind (cM P w)) a xs:=by
 obtain⟨z,y,xs,r,o,es,ep,h1,h2,h3,h4,h5⟩:=(show cC P w H h a (.dT kvs) from rd_of ok e)
 refine⟨z,y,xs,r,o,es,ep,h1,h2,h3,h4,λx hx=>?_,h5⟩
 have all:∀{l:List (List Key×V)}{m:List (List Key×Addr×Value)},KT H l m->∀x∈m,(tupleKind (cM P w)).is h x.1 x.2.1:=by
  intro l m q
  induction q with
  | nil=>intro x hx;exact nomatch hx
  | @cons p q ps qs hq t ih =>
   intro x hx
   rcases List.mem_cons.mp hx with e | hx
   .subst e
    exact Gk ok (by rw[←hq.1];exact hq.2.1)
   .exact ih x hx
 exact all r x hx
end
def vD(H:Hp)(a:Addr)(y:V)(r:Option V):Prop :=
 (∃kvs k,Rd H a (.dK kvs)/\y=kV k/\r=jT kvs k)∨∃kvs k b,Rd H a (.dT kvs)/\y=.ref b/\H b=some (.tup (k.map kV))/\r=jT kvs k
theorem vD.k{H:Hp}{a:Addr}{kvs:List (Key×V)}{k:Key}(e:H a=some (.dK kvs)):vD H a (kV k) (jT kvs k):=.inl ⟨kvs,k,.inl e,rfl,rfl⟩
section
variable{X:Cx}{pins:List (Addr×Obj)}{σ:St}{H:Hp}{s:Shared}{a:Addr}{y v:V}{u r:Value}{o:Option V}{A:Around}{E:Value->Shared->Prop}
theorem Inv.big(I:Inv X pins σ H s):sysModules<s.heap.objs.size:=by
 have h:mainGlobals<s.heap.objs.size:=(I.mod.glob.keeps I.bk).lt
 exact Nat.lt_trans (by decide) h
theorem Ot{Q:Value->Shared->Prop}(hu:A.units+1<cLine)(I:Inv X pins σ H s)(g:vD H a y (some v))(ry:RelV y u)(h:∀w' s',Inv X pins σ H s'->RelV v w'->Q w' s'):
  wpAny (model X.prog X.w) A (getItem (.ref a) u) Q E s:=by
 rcases g with⟨kvs,k,e,ey,l⟩| ⟨kvs,k,b,e,ey,eb,l⟩
 .subst ey
  obtain⟨z,hd,vs,rel,dd⟩:=De I.hok e
  obtain⟨w',hw,rw'⟩:=mC.some_of (v:=v) (o:=valueAt vs k) (by rw[l];exact rel.val k)
  exact wpAny_getItem_of (JN ry) dd.mapOf hw (h w' _ (I.tok _) rw')
 .subst ey
  cases (show u=Value.ref b from ry)
  obtain⟨z,hd,xs,rel,dd⟩:=Jp I.hok e
  obtain⟨w',hw,rw'⟩:=mC.some_of (v:=v) (o:=(atKey xs k).map (·.2)) (by rw[l];exact rel.val k)
  obtain⟨p,hp,hp2⟩:=Option.map_eq_some_iff.mp hw
  refine wpAny_getItem_heap (tupleKind_room_in1 hu) (Gk I.hok eb) dd hp ?_
  rw[hp2]
  exact h w' _ (I.tok _) rw'
theorem d_in{Q:Value->Shared->Prop}(hu:A.units+1<cLine)(I:Inv X pins σ H s)(g:vD H a y o)(ry:RelV y u)(h:∀s',Inv X pins σ H s'->Q (.bool o.isSome) s'):
  wpAny (model X.prog X.w) A (compareOp .In u (.ref a)) Q E s:=by
 rcases g with⟨kvs,k,e,ey,l⟩| ⟨kvs,k,b,e,ey,eb,l⟩
 .subst ey
  obtain⟨z,hd,vs,rel,dd⟩:=De I.hok e
  refine wpAny_in_of (JN ry) hd dd.mapOf ?_
  rw[←(rel.val k).Dn,←l]
  exact h _ (I.tok _)
 .subst ey
  cases (show u=Value.ref b from ry)
  obtain⟨z,hd,xs,rel,dd⟩:=Jp I.hok e
  refine wpAny_in_heap (tupleKind_room_in1 hu) (Gk I.hok eb) hd dd ?_
  have q:=(rel.val k).Dn
  rw[Option.isSome_map] at q
  rw[←q,←l]
  exact h _ (I.tok _)
theorem d_write{h':Heap}{t':Nat}{ob:HO}(I:Inv X pins σ H s)(mu:Mut (H a))(hs:Heap.SameBut a s.heap h')(he:∃q,h'.get? a=some q)(new:cC X.prog X.w (upd H a ob) h' a ob):
  Inv X pins σ (upd H a ob) { s with heap:=h',toks:=t' } :=
 I.write (x:=a) (e:=a) mu (.inl rfl) (λb q hb z=>(hs.2 b hb).trans z) he new
theorem dk_new{P:Program}{w:World}{H':Hp}{h':Heap}{kvs:List (Key×V)}{vs:List (Key×Value)}(z:kvs.length<=sizeLine)(hd:(a==sysModules)=false)(rel:KV kvs vs)(dd:h'.DictOf (cM P w) a vs):
  cC P w H' h' a (.dK kvs):=⟨z,hd,vs,rel,dd⟩
end
section
variable{X:Cx}{pins:List (Addr×Obj)}{σ:St}{H:Hp}{s:Shared}{a:Addr}{kvs:List (Key×V)}{k:Key}{u:Value}{A:Around}{E:Value->Shared->Prop}
end
def NoSl(i:Expr):Prop:=∀ov iv,subscripted i false ov iv=operate [ov,iv] (getItem ov iv)
theorem subD_of{prog:Program}{w:World}{A:Around}{E:Value->Shared->Prop}{s:Shared}{env:Env}{value slice:Expr}{pos:Pos}{T id:String}{Q:Value->Shared->Prop}
  (hl:typeLookup (.type T) "__getitem__"=pure (some (.builtin id))) (hs:NoSl slice)
  (h:wpAny (model prog w) A (eval value env) (λo s₁=>wpAny (model prog w) A (eval slice env) (λi s₂=>s₂.TypeIs o T/\wpAny (model prog w) A (getItem o i) Q E s₂) E s₁) E s) :
  wpAny (model prog w) A (eval (.Subscript value slice pos) env) Q E s:=by
 refine Subscript_ (wpAny_mono h (λo s₁ h₁=>wpAny_mono h₁ (λi s₂ h₂=>?_) λ_ _ x=>x) λ_ _ x=>x)
 obtain⟨hT,h₂⟩:=h₂
 unfold subscriptTail
 refine wpAny_bind ?_
 rw[getitemInPython_of_ne hT.not_modules]
 refine wpAny_bind (wpAny_specialOf hT hl ?_)
 have fin:wpAny (model prog w) A (subscripted slice false o i) (λr s₃=>wpAny (model prog w) A (letTemporaryGo value o r >>= λ_=>pure r) Q E s₃) E s₂:=by
  rw[hs o i]
  exact wpAny_operating (wpAny_mono h₂ (λr s₃ h₃=>wpAny_bind (wpAny_letTemporaryGo (wpAny_pure h₃))) λ_ _ x=>x)
 first
  | exact wpAny_pure (wpAny_bind fin)
  | exact wpAny_bind (wpAny_pure (wpAny_bind fin))
  | exact wpAny_bind fin
theorem Jm{X:Cx}{pins:List (Addr×Obj)}{σ:St}{H:Hp}{s:Shared}{a:Addr}{y:V}{o:Option V}(I:Inv X pins σ H s)(g:vD H a y o):s.TypeIs (.ref a) "dict":=by
 rcases g with⟨kvs,k,e,_,_⟩| ⟨kvs,k,b,e,_,_,_⟩
 .obtain⟨_,_,vs,_,dd⟩:=De I.hok e
  exact dd.typeIs
 .obtain⟨_,_,xs,_,dd⟩:=Jp I.hok e
  exact dd.typeIs
def tDGet(td ty:TE):TE:=λσ H Q=>td σ H λx H1=>ty σ H1 λy H2=>∃a v,x=.ref a/\vD H2 a y (some v)/\Q v H2
def tDIn(ty td:TE):TE:=λσ H Q=>ty σ H λy H1=>td σ H1 λx H2=>∃a o,x=.ref a/\vD H2 a y o/\Q (.bl o.isSome) H2
section
variable{X:Cx}{o i e value:Expr}{pos pos' tpos:Pos}{td ty tv:TE}
theorem pe_dget(hu:X.A.units+1<cLine)(ho:PE X o td)(hi:PE X i ty)(hs:NoSl i):PE X (.Subscript o i pos) (tDGet td ty):=by
 intro pins s σ H Q I h
 refine subD_of PySem.F.slot_dict_getitem.lookup hs (thn (ho pins s σ H _ I h) λu s1 ⟨x,H1,I1,rx,q1⟩=>thn (hi pins s1 σ H1 _ I1 q1) λiv s2 ⟨y,H2,I2,ry,a,v,ex,g,q2⟩=>?_)
 subst ex
 obtain rfl:u=Value.ref a:=rx
 exact⟨Jm I2 g,Ot hu I2 g ry λw' s3 I3 rw'=>⟨v,H2,I3,rw',q2⟩⟩
theorem pc_din(hu:X.A.units+1<cLine)(hi:PE X i ty)(ho:PE X o td):PC X .In i o (tDIn ty td):=by
 intro pins s σ H Q I h
 refine thn (hi pins s σ H _ I h) λiv s1 ⟨y,H1,I1,ry,q1⟩=>thn (ho pins s1 σ H1 _ I1 q1) λu s2 ⟨x,H2,I2,rx,a,ov,ex,g,q2⟩=>?_
 subst ex
 obtain rfl:u=Value.ref a:=rx
 exact d_in hu I2 g ry λs3 I3=>⟨.bl ov.isSome,H2,I3,rfl,q2⟩
end
theorem dk_empty{P:Program}{w:World}{H:Hp}(h:Heap)(hb:sysModules<h.objs.size):cC P w H (h.push { cls:=.type "dict",data:=.dict #[] }) h.objs.size (.dK []) :=
 ⟨Nat.zero_le _,beq_eq_false_iff_ne.mpr (Ne.symm (Nat.ne_of_lt hb)),[],.nil,Heap.DictOf.new h⟩
def tDNewK:TE:=λ_ H Q=>∀p,H p=none->Q (.ref p) (upd H p (.dK []))
section
variable{X:Cx}{pos:Pos}
theorem pe_dnewK:PE X (.Dict [] [] pos) tDNewK:=λpins s σ H Q I h =>
 wpAny_Dict_empty ⟨.ref s.heap.objs.size,_,I.laid (a:=s.heap.objs.size) (o:=.dK []) (t':=s.toks) (λ_ _ q=>Heap.get?_push_of_some _ q) (Nat.le_refl _) (dk_empty s.heap I.big),rfl,h _ (I.hok.fresh (Nat.le_refl _))⟩
end
structure M1(X:Cx)(o:Expr)(m:Str)(apos:Pos)(e:Expr)(cpos:Pos):Prop where
 base:attributeBase o m X.env (eval o X.env)=eval o X.env
 few:((backTo cpos (starEach [e] X.env)).all (λx=>!x.1) && (backToKw cpos (keywordEach [] X.env)).all (λx=>x.1.isSome)
  && decide (([e]:List Expr).length+([]:List Keyword).length+(if ([]:List Keyword).isEmpty then 0 else 1)<30))=true
 line:(apos.endLine==cpos.line)=true
 trees:backTo cpos (starEach [e] X.env)=[(false,eval e X.env)]
structure M2(X:Cx)(o:Expr)(m:Str)(apos:Pos)(e f:Expr)(cpos:Pos):Prop where
 base:attributeBase o m X.env (eval o X.env)=eval o X.env
 few:((backTo cpos (starEach [e,f] X.env)).all (λx=>!x.1) && (backToKw cpos (keywordEach [] X.env)).all (λx=>x.1.isSome)
  && decide (([e,f]:List Expr).length+([]:List Keyword).length+(if ([]:List Keyword).isEmpty then 0 else 1)<30))=true
 line:(apos.endLine==cpos.line)=true
 trees:backTo cpos (starEach [e,f] X.env)=[(false,eval e X.env),(false,eval f X.env)]
def IsD(H:Hp)(a:Addr):Prop:=(∃kvs,Rd H a (.dK kvs))∨∃kvs,Rd H a (.dT kvs)
theorem isD_at{X:Cx}{pins:List (Addr×Obj)}{σ:St}{H:Hp}{s:Shared}{a:Addr}(I:Inv X pins σ H s)(d:IsD H a):
  s.TypeIs (.ref a) "dict"/\(∀b,Value.ref a=.ref b->∃ob,s.heap.get? b=some ob/\ob.dict=none)/\(a==sysModules)=false:=by
 rcases d with⟨kvs,e⟩| ⟨kvs,e⟩
 .obtain⟨_,hd,vs,_,dd⟩:=De I.hok e
  refine⟨dd.typeIs,λb q=>?_,hd⟩
  cases q
  obtain⟨ob,_,_,h1,h2,_⟩:=dd
  exact⟨ob,h1,h2.2.1⟩
 .obtain⟨_,hd,xs,_,dd⟩:=Jp I.hok e
  refine⟨dd.typeIs,λb q=>?_,hd⟩
  cases q
  obtain⟨ob,_,_,h1,h2,_⟩:=dd
  exact⟨ob,h1,h2.2.1⟩
section
variable{X:Cx}{pins:List (Addr×Obj)}{σ:St}{H:Hp}{s:Shared}{a:Addr}{y d:V}{u r:Value}{o:Option V}{A:Around}{E:Value->Shared->Prop}
theorem d_get1{Q:Value->Shared->Prop}(hu:A.units+1<cLine)(I:Inv X pins σ H s)(g:vD H a y o)(ry:RelV y u)(h:∀w' s',Inv X pins σ H s'->RelV (o.getD .non) w'->Q w' s'):
  wpAny (model X.prog X.w) A (call (.builtin "dict.get") [.ref a,u]) Q E s:=by
 rcases g with⟨kvs,k,e,ey,l⟩| ⟨kvs,k,b,e,ey,eb,l⟩
 .subst ey
  obtain⟨z,hd,vs,rel,dd⟩:=De I.hok e
  refine call_meetsIn PySem.F.slot_dict_get dd.typeIs PySem.F.entry_dict_get (PySem.F.args_dict_get_2 _ _) (meets_dict_get (cM X.prog X.w) a (JN ry) hd) ⟨_,dd.mapOf,h _ _ (I.tok _) ?_⟩
  rw[l]
  exact(rel.val k).getD rfl
 .subst ey
  cases (show u=Value.ref b from ry)
  obtain⟨z,hd,xs,rel,dd⟩:=Jp I.hok e
  refine call_meetsIn PySem.F.slot_dict_get dd.typeIs PySem.F.entry_dict_get (PySem.F.args_dict_get_2 _ _) (meetsH_dict_get (tupleKind (cM X.prog X.w)) a b hd) ⟨tupleKind_room_in1 hu,k,xs,Gk I.hok eb,dd,h _ _ (I.tok _) ?_⟩
  rw[l]
  exact(rel.val k).getD rfl
end
def tDGet1(td ty:TE):TE:=λσ H Q=>td σ H λx H1=>∃a,x=.ref a/\IsD H1 a/\ty σ H1 λy H2=>∃o,vD H2 a y o/\Q (o.getD .non) H2
section
variable{X:Cx}{o e f:Expr}{apos cpos:Pos}{td ty tx:TE}
theorem pe_dget1(hu:X.A.units+1<cLine)(ho:PE X o td)(he:PE X e ty)(m:M1 X o "get" apos e cpos):PE X (.Call (.Attribute o "get" apos) [e] [] cpos) (tDGet1 td ty):=by
 intro pins s σ H Q I h
 refine wpAny_Call_method m.base m.few m.line PySem.F.plainAttrs_dict PySem.F.slot_dict_get PySem.F.type_dict_get (thn (ho pins s σ H _ I h) λu s1 ⟨x,H1,I1,rx,a,ex,d,q1⟩=>?_)
 subst ex
 obtain rfl:u=Value.ref a:=rx
 obtain⟨t1,t2,_⟩:=isD_at I1 d
 refine⟨t1,t2,?_⟩
 rw[m.trees]
 refine Calls.callWith_builtin rfl (Calls.evalArgs_plain (Calls.spliced_cons (thn (he pins s1 σ H1 _ I1 q1) λiv s2 ⟨y,H2,I2,ry,ov,g,q2⟩=>Calls.spliced_nil ?_)))
 exact d_get1 hu I2 g ry λw' s3 I3 rw'=>⟨_,H2,I3,rw',q2⟩
end
section
variable{X:Cx}{pins:List (Addr×Obj)}{σ:St}{H:Hp}{s:Shared}{a:Addr}{kvs:List (Key×V)}{A:Around}{E:Value->Shared->Prop}
end
section
variable{X:Cx}{pins:List (Addr×Obj)}{σ:St}{H:Hp}{s:Shared}{a:Addr}{y:V}{u:Value}{A:Around}{E:Value->Shared->Prop}
end
end L2
namespace PySem
open Sem (wp)
section
variable{prog:Program}{w:World}{K:Type}[DecidableEq K]{knd:KeyKind prog w K}{A:Around}{R:Result->Shared->Prop}
end
end PySem
namespace L2
open PySem PySem.Spec PyProof.Rows
section
variable{X:Cx}{pins:List (Addr×Obj)}{σ:St}{H:Hp}{s:Shared}
end
end L2
namespace L2
open PySem PySem.Spec PyProof.Rows
section
variable{prog:Program}{w:World}{A:Around}{E:Value->Shared->Prop}{s:Shared}
end
section
variable{X:Cx}{pins:List (Addr×Obj)}{σ:St}{H:Hp}{s:Shared}{a:Addr}{A:Around}{E:Value->Shared->Prop}
end
end L2
namespace DL
open PySem PySem.Spec PyProof.Rows MX L2
inductive D where
 | non | bl (b:Bool) | int (i:Int) | str (x:Str) | ty (n:String) | cls (c:Nat)
 | lst (xs:List D) | tup (xs:List D) | rol (xs:List D) | rot (xs:List D)
 | dK (kvs:List (Key×D)) | dT (kvs:List (List Key×D))
 | obj (c:Nat) (fs:List (Str×D)) | exc (c:Nat) (fs:List (Str×D))
inductive Out (α:Type) where
 | ok (a:α) | ex (x:D) | stuck
namespace Out
noncomputable def bind{α β:Type}(o:Out α)(k:α->Out β):Out β:=match o with
 | .ok a=>k a
 | .ex x=>.ex x
 | .stuck=>.stuck
def opt{α:Type}:Option α->Out α
 | some a=>.ok a
 | none=>.stuck
def aY{α:Type}:Out α->Out α
 | .ok a=>.ok a
 | _=>.stuck
@[simp] theorem eX{α β:Type}(a:α)(k:α->Out β):(Out.ok a).bind k=k a:=rfl
@[simp] theorem Fo{α β:Type}(x:D)(k:α->Out β):(Out.ex x).bind k=.ex x:=rfl
@[simp] theorem tH{α β:Type}(k:α->Out β):(Out.stuck:Out α).bind k=.stuck:=rfl
@[simp] theorem lR{α:Type}(a:α):opt (some a)=.ok a:=rfl
@[simp] theorem J4{α:Type}:(opt none:Out α)=.stuck:=rfl
@[simp] theorem yH{α:Type}(a:α):aY (Out.ok a)=.ok a:=rfl
end Out
def wpO{α:Type}(o:Out α)(P:α->Prop)(R:D->Prop):Prop:=match o with
 | .ok a=>P a
 | .ex x=>R x
 | .stuck=>False
theorem aj{α β:Type}{o:Out α}{k:α->Out β}{P:β->Prop}{R:D->Prop}(h:wpO (o.bind k) P R):wpO o (λa=>wpO (k a) P R) R:=by
 cases o <;> exact h
theorem wpO.mono{α:Type}{o:Out α}{P P':α->Prop}{R R':D->Prop}(h:wpO o P R)(k:∀a,P a->P' a)(r:∀x,R x->R' x):wpO o P' R':=by
 cases o with
 | ok a=>exact k a h
 | ex x=>exact r x h
 | stuck=>exact h
theorem bc{α:Type}{o:Option α}{P:α->Prop}{R:D->Prop}(h:wpO (Out.opt o) P R):∃a,o=some a/\P a:=by
 cases o with
 | none=>exact False.elim h
 | some a=>exact⟨a,rfl,h⟩
theorem cY{α:Type}{o:Out α}{P:α->Prop}{R R':D->Prop}(h:wpO o.aY P R):wpO o P R':=by
 cases o with
 | ok a=>exact h
 | ex x=>exact False.elim h
 | stuck=>exact h
section
variable(K:Frag)(Γ:Nat->Option Addr)
mutual
inductive Rep (G:Hp):V->D->Prop
 | non:Rep G .non .non
 | bl (b:Bool):Rep G (.bl b) (.bl b)
 | int (i:Int):Rep G (.int i) (.int i)
 | str (x:Str):Rep G (.str x) (.str x)
 | ty (n:String):Rep G (.ty n) (.ty n)
 | cls {c:Nat} {C:Addr} (h:Γ c=some C):Rep G (.ref C) (.cls c)
 | lst {a:Addr} {vs:List V} {ds:List D} (h:G a=some (.lst vs)) (r:aC G vs ds):Rep G (.ref a) (.lst ds)
 | tup {a:Addr} {vs:List V} {ds:List D} (h:G a=some (.tup vs)) (r:aC G vs ds):Rep G (.ref a) (.tup ds)
 | rol {a:Addr} {vs:List V} {ds:List D} (h:SqL K G a vs) (r:aC G vs ds):Rep G (.ref a) (.rol ds)
 | rot {a:Addr} {vs:List V} {ds:List D} (h:SqT K G a vs) (r:aC G vs ds):Rep G (.ref a) (.rot ds)
 | dK {a:Addr} {kvs:List (Key×V)} {kds:List (Key×D)} (h:G a=some (.dK kvs)) (r:cZ G kvs kds):Rep G (.ref a) (.dK kds)
 | dT {a:Addr} {kvs:List (List Key×V)} {kds:List (List Key×D)} (h:G a=some (.dT kvs)) (r:rW G kvs kds):Rep G (.ref a) (.dT kds)
 | obj {a:Addr} {c:Nat} {C dx:Addr} {fs:List (Str×V)} {fds:List (Str×D)} (h:G a=some (.ins C dx fs)) (g:Γ c=some C) (r:iC G fs fds):Rep G (.ref a) (.obj c fds)
 | e0 {n:Bool} {a:Addr} {c:Nat} {C:Addr} (h:G a=some (.exc n C none a)) (g:Γ c=some C):Rep G (.ref a) (.exc c [])
 | e1 {n:Bool} {a:Addr} {c:Nat} {C d:Addr} {fs:List (Str×V)} {fds:List (Str×D)} (h:G a=some (.exc n C (some d) a)) (h':G d=some (.xds fs d)) (g:Γ c=some C) (r:iC G fs fds):Rep G (.ref a) (.exc c fds)
inductive aC (G:Hp):List V->List D->Prop
 | nil:aC G [] []
 | cons {v:V} {vs:List V} {d:D} {ds:List D} (h:Rep G v d) (r:aC G vs ds):aC G (v::vs) (d::ds)
inductive iC (G:Hp):List (Str×V)->List (Str×D)->Prop
 | nil:iC G [] []
 | cons {f:Str} {v:V} {fs:List (Str×V)} {d:D} {fds:List (Str×D)} (h:Rep G v d) (r:iC G fs fds):iC G ((f,v)::fs) ((f,d)::fds)
inductive cZ (G:Hp):List (Key×V)->List (Key×D)->Prop
 | nil:cZ G [] []
 | cons {k:Key} {v:V} {fs:List (Key×V)} {d:D} {fds:List (Key×D)} (h:Rep G v d) (r:cZ G fs fds):cZ G ((k,v)::fs) ((k,d)::fds)
inductive rW (G:Hp):List (List Key×V)->List (List Key×D)->Prop
 | nil:rW G [] []
 | cons {k:List Key} {v:V} {fs:List (List Key×V)} {d:D} {fds:List (List Key×D)} (h:Rep G v d) (r:rW G fs fds):rW G ((k,v)::fs) ((k,d)::fds)
end
end
section
variable{K:Frag}{Γ:Nat->Option Addr}{G G':Hp}
theorem SqT.same(e:aO G G'){a:Addr}{xs:List V}(h:SqT K G a xs):SqT K G' a xs:=by
 rcases h with h | h
 .rcases h with h | ⟨o,h⟩
  .exact .inl (.inl (e _ _ h))
  .exact .inl (.inr ⟨o,e _ _ h⟩)
 .exact .inr h
mutual
theorem Rep.mono(e:aO G G'):∀{v:V}{d:D},Rep K Γ G v d->Rep K Γ G' v d
 | _,_,.non=>.non
 | _,_,.bl b=>.bl b
 | _,_,.int i=>.int i
 | _,_,.str x=>.str x
 | _,_,.ty n=>.ty n
 | _,_,.cls h=>.cls h
 | _,_,.lst h r=>.lst (e _ _ h) (aC.mono e r)
 | _,_,.tup h r=>.tup (e _ _ h) (aC.mono e r)
 | _,_,.rol h r=>.rol (e.seq h) (aC.mono e r)
 | _,_,.rot h r=>.rot (SqT.same e h) (aC.mono e r)
 | _,_,.dK h r=>.dK (e _ _ h) (cZ.mono e r)
 | _,_,.dT h r=>.dT (e _ _ h) (rW.mono e r)
 | _,_,.obj h g r=>.obj (e _ _ h) g (iC.mono e r)
 | _,_,.e0 h g=>.e0 (e _ _ h) g
 | _,_,.e1 h h' g r=>.e1 (e _ _ h) (e _ _ h') g (iC.mono e r)
theorem aC.mono(e:aO G G'):∀{v:List V}{d:List D},aC K Γ G v d->aC K Γ G' v d
 | _,_,.nil=>.nil
 | _,_,.cons h r=>.cons (Rep.mono e h) (aC.mono e r)
theorem iC.mono(e:aO G G'):∀{v:List (Str×V)}{d:List (Str×D)},iC K Γ G v d->iC K Γ G' v d
 | _,_,.nil=>.nil
 | _,_,.cons h r=>.cons (Rep.mono e h) (iC.mono e r)
theorem cZ.mono(e:aO G G'):∀{v:List (Key×V)}{d:List (Key×D)},cZ K Γ G v d->cZ K Γ G' v d
 | _,_,.nil=>.nil
 | _,_,.cons h r=>.cons (Rep.mono e h) (cZ.mono e r)
theorem rW.mono(e:aO G G'):∀{v:List (List Key×V)}{d:List (List Key×D)},rW K Γ G v d->rW K Γ G' v d
 | _,_,.nil=>.nil
 | _,_,.cons h r=>.cons (Rep.mono e h) (rW.mono e r)
end
theorem aC.length:∀{vs:List V}{ds:List D},aC K Γ G vs ds->vs.length=ds.length
 | _,_,.nil=>rfl
 | _,_,.cons _ r=>by rw[List.length_cons,List.length_cons,r.length]
theorem aC.get:∀{vs:List V}{ds:List D}{i:Nat}{d:D},aC K Γ G vs ds->ds[i]?=some d->∃v,vs[i]?=some v/\Rep K Γ G v d
 | _,_,_,_,.nil,e=>by simp at e
 | _,_,0,_,.cons h _,e=>by simp at e;subst e;exact⟨_,rfl,h⟩
 | _,_,i+1,d,.cons _ r,e=>by
  obtain⟨v,h1,h2⟩:=aC.get (i:=i) (d:=d) r (by simpa using e)
  exact⟨v,by simpa using h1,h2⟩
theorem aC.append:∀{vs ws:List V}{ds es:List D},aC K Γ G vs ds->aC K Γ G ws es->aC K Γ G (vs++ws) (ds++es)
 | _,_,_,_,.nil,s=>s
 | _,_,_,_,.cons h r,s=>.cons h (r.append s)
theorem aC.take:∀{vs:List V}{ds:List D}(n:Nat),aC K Γ G vs ds->aC K Γ G (vs.take n) (ds.take n)
 | _,_,0,_=>by simpa using aC.nil
 | _,_,_+1,.nil=>.nil
 | _,_,n+1,.cons h r=>.cons h (r.take n)
theorem aC.drop:∀{vs:List V}{ds:List D}(n:Nat),aC K Γ G vs ds->aC K Γ G (vs.drop n) (ds.drop n)
 | _,_,0,r=>r
 | _,_,_+1,.nil=>.nil
 | _,_,n+1,.cons _ r=>r.drop n
theorem aC.set{v:V}{d:D}(h:Rep K Γ G v d):∀{vs:List V}{ds:List D}(n:Nat),aC K Γ G vs ds->aC K Γ G (vs.set n v) (ds.set n d)
 | _,_,_,.nil=>.nil
 | _,_,0,.cons _ r=>.cons h r
 | _,_,n+1,.cons h' r=>.cons h' (aC.set h n r)
theorem aC.rep{vs:List V}{ds:List D}(h:aC K Γ G vs ds):∀k:Nat,aC K Γ G (List.replicate k vs).flatten (List.replicate k ds).flatten
 | 0=>.nil
 | k+1=>by
  rw[List.replicate_succ,List.replicate_succ,List.flatten_cons,List.flatten_cons]
  exact h.append (h.rep k)
theorem iC.look{f:Str}:∀{fs:List (Str×V)}{fds:List (Str×D)}{d:D},iC K Γ G fs fds->fds.lookup f=some d->∃v,fs.lookup f=some v/\Rep K Γ G v d
 | _,_,_,.nil,e=>by simp at e
 | _,_,d,.cons (f:=g) h r,e=>by
  by_cases q:f=g
  .subst q
   simp only[List.lookup_cons,beq_self_eq_true] at e
   cases e
   exact⟨_,by simp[List.lookup_cons],h⟩
  .have q':(f==g)=false:=beq_eq_false_iff_ne.mpr q
   simp only[List.lookup_cons,q'] at e
   obtain⟨v,h1,h2⟩:=r.look e
   exact⟨v,by simp only[List.lookup_cons,q'];exact h1,h2⟩
theorem iC.none{f:Str}:∀{fs:List (Str×V)}{fds:List (Str×D)},iC K Γ G fs fds->fds.lookup f=none->fs.lookup f=none
 | _,_,.nil,_=>rfl
 | _,_,.cons (f:=g) h r,e=>by
  by_cases q:f=g
  .subst q
   simp only[List.lookup_cons,beq_self_eq_true] at e
   cases e
  .have q':(f==g)=false:=beq_eq_false_iff_ne.mpr q
   simp only[List.lookup_cons,q'] at e ⊢
   exact r.none e
end
structure Step(G H G' H':Hp):Prop where
 gg:aO G G'
 hh:aO H H'
 gh:aO G' H'
 sep:∀b,H b≠none->G b=none->G' b=none
theorem Step.refl{G H:Hp}(s:aO G H):Step G H G H:=⟨aO.refl _,aO.refl _,s,λ_ _ h=>h⟩
theorem Step.trans{G H G1 H1 G2 H2:Hp}(a:Step G H G1 H1)(b:Step G1 H1 G2 H2):Step G H G2 H2 :=
 ⟨a.gg.trans b.gg,a.hh.trans b.hh,b.gh,λx h g=>b.sep x (λq=>by
  cases e:H x with
  | none=>exact h e
  | some o=>rw[a.hh _ _ e] at q;cases q) (a.sep x h g)⟩
theorem aO.up{H:Hp}{p:Addr}{o:HO}(h:H p=none):aO H (upd H p o):=λb u q=>by rw[aN (aJ q h)];exact q
theorem aD{G H:Hp}(s:aO G H){p:Addr}(h:H p=none):G p=none:=s.free h
theorem Step.new{G H:Hp}(s:aO G H){p:Addr}{o:HO}(h:H p=none):Step G H (upd G p o) (upd H p o):=by
 refine⟨aO.up (aD s h),aO.up h,λb u q=>?_,λb hb g=>?_⟩
 .by_cases e:b=p
  .subst e;rw[aP] at q ⊢;exact q
  .rw[aN e] at q ⊢;exact s _ _ q
 .have e:b≠p:=λe=>hb (e▸h)
  rw[aN e];exact g
theorem Step.aside{G H:Hp}(s:aO G H){p:Addr}{o:HO}(h:H p=none):Step G H G (upd H p o) :=
 ⟨aO.refl _,aO.up h,s.trans (aO.up h),λ_ _ g=>g⟩
inductive Mx where
 | own (ds:List D) | fix (d:D)
def Mx.d:Mx->D
 | .own ds=>.lst ds
 | .fix d=>d
inductive Sl where
 | sh (d:D) | ol (ds:List D) | oll (dss:List (List D)) | od (kvs:List (Key×D)) | odT (kvs:List (List Key×D)) | omx (es:List Mx)
abbrev DSt:=List (Option Sl)
section
variable(K:Frag)(Γ:Nat->Option Addr)(G0 H0 G H:Hp)(O:Addr->Option Nat)
inductive Inner (i:Nat):List V->List (List D)->Prop
 | nil:Inner i [] []
 | cons {b:Addr} {vs ws:List V} {ds:List D} {dss:List (List D)} (h:H b=some (.lst ws)) (g:G b=none) (h0:H0 b=none) (o:O b=some i) (r:aC K Γ G ws ds) (n:V.ref b∉vs) (t:Inner i vs dss):Inner i (.ref b::vs) (ds::dss)
inductive bA (i:Nat):List V->List Mx->List Addr->Prop
 | nil:bA i [] [] []
 | own {b:Addr} {vs ws:List V} {ds:List D} {es:List Mx} {bs:List Addr} (h:H b=some (.lst ws)) (g:G b=none) (h0:H0 b=none) (o:O b=some i) (r:aC K Γ G ws ds) (n:b∉bs) (t:bA i vs es bs):bA i (.ref b::vs) (.own ds::es) (b::bs)
 | fix {v:V} {vs:List V} {d:D} {es:List Mx} {bs:List Addr} (r:Rep K Γ G v d) (t:bA i vs es bs):bA i (v::vs) (.fix d::es) bs
def bN(i:Nat)(v:V):Sl->Prop
 | .sh d=>Rep K Γ G v d
 | .ol ds=>∃a vs,v=.ref a/\H a=some (.lst vs)/\G a=none/\H0 a=none/\O a=some i/\aC K Γ G vs ds
 | .oll dss=>∃a vs,v=.ref a/\H a=some (.lst vs)/\G a=none/\H0 a=none/\O a=some i/\V.ref a∉vs/\Inner K Γ H0 G H O i vs dss
 | .od kvs=>∃a vs,v=.ref a/\H a=some (.dK vs)/\G a=none/\H0 a=none/\O a=some i/\cZ K Γ G vs kvs
 | .odT kvs=>∃a vs,v=.ref a/\H a=some (.dT vs)/\G a=none/\H0 a=none/\O a=some i/\rW K Γ G vs kvs
 | .omx es=>∃a vs bs,v=.ref a/\H a=some (.lst vs)/\G a=none/\H0 a=none/\O a=some i/\a∉bs/\bA K Γ H0 G H O i vs es bs
def Slots(σ:L2.St)(δ:DSt):Prop:=∃O:Addr->Option Nat,∀i s,δ[i]?=some (some s)->∃v,σ[i]?=some (some v)/\bN K Γ H0 G H O i v s
structure SR(σ:L2.St)(δ:DSt):Prop where
 st:Step G0 H0 G H
 len:δ.length=σ.length
 sl:Slots K Γ H0 G H σ δ
end
section
variable{K:Frag}{Γ:Nat->Option Addr}{G0 H0 G H G' H':Hp}{O:Addr->Option Nat}{σ:L2.St}{δ:DSt}
theorem Inner.step(s:Step G H G' H'){i:Nat}:∀{vs:List V}{dss:List (List D)},Inner K Γ H0 G H O i vs dss->Inner K Γ H0 G' H' O i vs dss
 | _,_,.nil=>.nil
 | _,_,.cons h g h0 o r n t=>.cons (s.hh _ _ h) (s.sep _ (by rw[h];exact λq=>nomatch q) g) h0 o (r.mono s.gg) n (t.step s)
theorem bA.step(s:Step G H G' H'){i:Nat}:∀{vs:List V}{es:List Mx}{bs:List Addr},bA K Γ H0 G H O i vs es bs->bA K Γ H0 G' H' O i vs es bs
 | _,_,_,.nil=>.nil
 | _,_,_,.own h g h0 o r n t=>.own (s.hh _ _ h) (s.sep _ (by rw[h];exact λq=>nomatch q) g) h0 o (r.mono s.gg) n (t.step s)
 | _,_,_,.fix r t=>.fix (r.mono s.gg) (t.step s)
theorem bN.step(s:Step G H G' H'){i:Nat}{v:V}{x:Sl}(h:bN K Γ H0 G H O i v x):bN K Γ H0 G' H' O i v x:=by
 have sp:∀{a:Addr}{o:HO},H a=some o->G a=none->G' a=none:=λh g=>s.sep _ (by rw[h];exact λq=>nomatch q) g
 cases x with
 | sh d=>exact Rep.mono s.gg h
 | ol ds =>
  obtain⟨a,vs,e,h1,h2,h3,h4,h5⟩:=h
  exact⟨a,vs,e,s.hh _ _ h1,sp h1 h2,h3,h4,h5.mono s.gg⟩
 | oll ds =>
  obtain⟨a,vs,e,h1,h2,h3,h4,h5,h6⟩:=h
  exact⟨a,vs,e,s.hh _ _ h1,sp h1 h2,h3,h4,h5,h6.step s⟩
 | od ds =>
  obtain⟨a,vs,e,h1,h2,h3,h4,h5⟩:=h
  exact⟨a,vs,e,s.hh _ _ h1,sp h1 h2,h3,h4,h5.mono s.gg⟩
 | odT ds =>
  obtain⟨a,vs,e,h1,h2,h3,h4,h5⟩:=h
  exact⟨a,vs,e,s.hh _ _ h1,sp h1 h2,h3,h4,h5.mono s.gg⟩
 | omx ds =>
  obtain⟨a,vs,bs,e,h1,h2,h3,h4,h5,h6⟩:=h
  exact⟨a,vs,bs,e,s.hh _ _ h1,sp h1 h2,h3,h4,h5,h6.step s⟩
theorem SR.step(S:SR K Γ G0 H0 G H σ δ)(s:Step G H G' H'):SR K Γ G0 H0 G' H' σ δ:=by
 obtain⟨O,q⟩:=S.sl
 refine⟨S.st.trans s,S.len,O,λi x e=>?_⟩
 obtain⟨v,h1,h2⟩:=q i x e
 exact⟨v,h1,h2.step s⟩
theorem SR.set(S:SR K Γ G0 H0 G H σ δ){i:Nat}{v:V}{d:D}(r:Rep K Γ G v d):SR K Γ G0 H0 G H (σ.set i (some v)) (δ.set i (some (.sh d))):=by
 obtain⟨O,q⟩:=S.sl
 refine⟨S.st,by rw[List.length_set,List.length_set];exact S.len,O,λj x e=>?_⟩
 by_cases ij:i=j
 .subst ij
  rw[List.getElem?_set_self'] at e
  cases h:δ[i]? with
  | none=>rw[h] at e;simp at e
  | some y =>
   rw[h] at e
   simp at e
   have lt:i<σ.length:=by rw[←S.len];exact(List.getElem?_eq_some_iff.mp h).1
   subst e
   exact⟨v,by rw[List.getElem?_set_self lt],r⟩
 .rw[List.getElem?_set_ne ij] at e
  obtain⟨v',h1,h2⟩:=q j x e
  exact⟨v',by rw[List.getElem?_set_ne ij];exact h1,h2⟩
end
inductive bz (K:Frag) (Γ:Nat->Option Addr) (H G' H':Hp):List V->List (List D)->Prop
 | nil:bz K Γ H G' H' [] []
 | cons {b:Addr} {vs ws:List V} {ds:List D} {dss:List (List D)} (f:H b=none) (h:H' b=some (.lst ws)) (g:G' b=none) (r:aC K Γ G' ws ds) (n:V.ref b∉vs) (t:bz K Γ H G' H' vs dss):bz K Γ H G' H' (.ref b::vs) (ds::dss)
section
variable(K:Frag)(Γ:Nat->Option Addr)(E:XK)
def okD(G H:Hp)(Q:VK)(d:D):Prop:=∀v G' H',Step G H G' H'->Rep K Γ G' v d->Q v H'
def exD(G H:Hp)(x:D):Prop:=∀a G' H',Step G H G' H'->Rep K Γ G' (.ref a) x->E (.ref a) none H'
def teD(f:DSt->Out D):TE:=λσ H Q=>∃G0 H0 G δ,SR K Γ G0 H0 G H σ δ/\wpO (f δ) (okD K Γ G H Q) (exD K Γ E G H)
def ttD(f:DSt->Out Bool):TT:=λσ H Q=>∃G0 H0 G δ,SR K Γ G0 H0 G H σ δ/\wpO (f δ) (λb=>∀G' H',Step G H G' H'->Q b H') (exD K Γ E G H)
def taD(f:DSt->Out (List D)):TA:=λσ H Q=>∃G0 H0 G δ,SR K Γ G0 H0 G H σ δ/\wpO (f δ) (λds=>∀vs G' H',Step G H G' H'->aC K Γ G' vs ds->Q vs H') (exD K Γ E G H)
def tbD(f:DSt->Out D):TE:=λσ H Q=>∃G0 H0 G δ,SR K Γ G0 H0 G H σ δ/\wpO (f δ) (λd=>∀v G' H',Step G H G' H'->Rep K Γ H' v d->Q v H') (exD K Γ E G H)
inductive Fl where
 | nx (δ:DSt) | rt (d:D) | bk (δ:DSt) | ct (δ:DSt) | rl (ds:List D) | rll (dss:List (List D))
def FlOk(G0 H0:Hp)(N:Ends):Fl->Prop
 | .nx δ=>∀σ G H,SR K Γ G0 H0 G H σ δ->N.nx σ H
 | .rt d=>∀v G H,Step G0 H0 G H->Rep K Γ G v d->N.rt v H
 | .bk δ=>∀σ G H,SR K Γ G0 H0 G H σ δ->N.bk σ H
 | .ct δ=>∀σ G H,SR K Γ G0 H0 G H σ δ->N.ct σ H
 | .rl ds=>∀a vs G H,Step G0 H0 G H->H0 a=none->H a=some (.lst vs)->G a=none->aC K Γ G vs ds->N.rt (.ref a) H
 | .rll dss=>∀a vs G H,Step G0 H0 G H->H0 a=none->H a=some (.lst vs)->G a=none->V.ref a∉vs->bz K Γ H0 G H vs dss->N.rt (.ref a) H
def tsD(g:DSt->Out Fl):TS:=λN σ H=>∃G0 H0 G δ,SR K Γ G0 H0 G H σ δ/\wpO (g δ) (FlOk K Γ G0 H0 N) (exD K Γ E G0 H0)
end
section
variable{K:Frag}{Γ:Nat->Option Addr}{E:XK}{G H G1 H1:Hp}
theorem okD.step{Q:VK}{d:D}(h:okD K Γ G H Q d)(s:Step G H G1 H1):okD K Γ G1 H1 Q d:=λv G' H' s' r=>h v G' H' (s.trans s') r
theorem exD.step{x:D}(h:exD K Γ E G H x)(s:Step G H G1 H1):exD K Γ E G1 H1 x:=λv G' H' s' r=>h v G' H' (s.trans s') r
end
abbrev DE(X:Cx)(Γ:Nat->Option Addr)(E:XK)(e:Expr)(f:DSt->Out D):Prop:=PE X e (teD X.K Γ E f)
abbrev DB(X:Cx)(Γ:Nat->Option Addr)(E:XK)(e:Expr)(f:DSt->Out D):Prop:=PE X e (tbD X.K Γ E f)
abbrev DT(X:Cx)(Γ:Nat->Option Addr)(E:XK)(e:Expr)(f:DSt->Out Bool):Prop:=PT X e (ttD X.K Γ E f)
abbrev DW(X:Cx)(Γ:Nat->Option Addr)(E:XK)(e:Expr)(f:DSt->Out Bool):Prop:=PW X e (ttD X.K Γ E f)
abbrev DA(X:Cx)(Γ:Nat->Option Addr)(E:XK)(es:List Expr)(f:DSt->Out (List D)):Prop:=PA X es (taD X.K Γ E f)
abbrev DS(X:Cx)(Γ:Nat->Option Addr)(E:XK)(st:Stmt)(g:DSt->Out Fl):Prop:=PS X st (tsD X.K Γ E g)
abbrev DSs(X:Cx)(Γ:Nat->Option Addr)(E:XK)(st:List Stmt)(g:DSt->Out Fl):Prop:=PSs X st (tsD X.K Γ E g)
section
variable{X:Cx}
theorem PE.imp{e:Expr}{t t':TE}(h:PE X e t)(k:∀σ H Q,t' σ H Q->t σ H Q):PE X e t':=λpins s σ H Q I q=>h pins s σ H Q I (k _ _ _ q)
theorem PT.imp{e:Expr}{t t':TT}(h:PT X e t)(k:∀σ H Q,t' σ H Q->t σ H Q):PT X e t':=λpins s σ H Q I q=>h pins s σ H Q I (k _ _ _ q)
theorem PW.imp{e:Expr}{t t':TT}(h:PW X e t)(k:∀σ H Q,t' σ H Q->t σ H Q):PW X e t':=λwh pins s σ H Q I q=>h wh pins s σ H Q I (k _ _ _ q)
theorem PA.imp{e:List Expr}{t t':TA}(h:PA X e t)(k:∀σ H Q,t' σ H Q->t σ H Q):PA X e t':=λp pins s σ H Q I q=>h p pins s σ H Q I (k _ _ _ q)
theorem PS.imp{e:Stmt}{t t':TS}(h:PS X e t)(k:∀D σ H,t' D σ H->t D σ H):PS X e t':=λpins s σ H Q I q=>h pins s σ H Q I (k _ _ _ q)
theorem PSs.imp{e:List Stmt}{t t':TS}(h:PSs X e t)(k:∀D σ H,t' D σ H->t D σ H):PSs X e t':=λpins s σ H Q I q=>h pins s σ H Q I (k _ _ _ q)
end
end DL
namespace DL
open PySem PySem.Spec PyProof.Rows MX L2
def gv(i:Nat):DSt->Out D:=λδ=>match δ[i]? with
 | some (some (.sh d))=>.ok d
 | _=>.stuck
def slD:Sl->D
 | .sh d=>d
 | .ol ds=>.lst ds
 | .oll dss=>.lst (dss.map .lst)
 | .od kvs=>.dK kvs
 | .odT kvs=>.dT kvs
 | .omx es=>.lst (es.map Mx.d)
def gb(i:Nat):DSt->Out D:=λδ=>match δ[i]? with
 | some (some s)=>.ok (slD s)
 | _=>.stuck
section
variable{X:Cx}{Γ:Nat->Option Addr}{E:XK}{e a b c:Expr}{pos:Pos}
theorem de_var(i:Nat){x:Str}(h:PE X (.Name x pos) (ou i)):DE X Γ E (.Name x pos) (gv i):=PE.imp h λσ H Q ⟨G0,H0,G,δ,S,w⟩=>by
 unfold gv at w
 split at w
 .rename_i d e
  obtain⟨O,q⟩:=S.sl
  obtain⟨v,h1,h2⟩:=q i _ e
  exact⟨v,h1,w v G H (.refl S.st.gh) h2⟩
 .exact False.elim w
theorem Inner.rep{K:Frag}{H0 G H:Hp}{O:Addr->Option Nat}(s:aO G H){i:Nat}:∀{vs:List V}{dss:List (List D)},Inner K Γ H0 G H O i vs dss->aC K Γ H vs (dss.map .lst)
 | _,_,.nil=>.nil
 | _,_,.cons h g h0 o r n t=>.cons (.lst h (r.mono s)) (t.rep s)
theorem bA.rep{K:Frag}{H0 G H:Hp}{O:Addr->Option Nat}(s:aO G H){i:Nat}:∀{vs:List V}{es:List Mx}{bs:List Addr},bA K Γ H0 G H O i vs es bs->aC K Γ H vs (es.map Mx.d)
 | _,_,_,.nil=>.nil
 | _,_,_,.own h g h0 o r n t=>.cons (.lst h (r.mono s)) (t.rep s)
 | _,_,_,.fix r t=>.cons (r.mono s) (t.rep s)
theorem bN.rep{K:Frag}{H0 G H:Hp}{O:Addr->Option Nat}(s:aO G H){i:Nat}{v:V}{x:Sl}(h:bN K Γ H0 G H O i v x):Rep K Γ H v (slD x):=by
 cases x with
 | sh d=>exact Rep.mono s h
 | ol ds=>obtain⟨a,vs,e,h1,h2,h3,h4,h5⟩:=h;subst e;exact .lst h1 (h5.mono s)
 | oll ds=>obtain⟨a,vs,e,h1,h2,h3,h4,h5,h6⟩:=h;subst e;exact .lst h1 (h6.rep s)
 | od ds=>obtain⟨a,vs,e,h1,h2,h3,h4,h5⟩:=h;subst e;exact .dK h1 (h5.mono s)
 | odT ds=>obtain⟨a,vs,e,h1,h2,h3,h4,h5⟩:=h;subst e;exact .dT h1 (h5.mono s)
 | omx ds=>obtain⟨a,vs,bs,e,h1,h2,h3,h4,h5,h6⟩:=h;subst e;exact .lst h1 (h6.rep s)
theorem aK(i:Nat){x:Str}(h:PE X (.Name x pos) (ou i)):DB X Γ E (.Name x pos) (gb i):=PE.imp h λσ H Q ⟨G0,H0,G,δ,S,w⟩=>by
 unfold gb at w
 split at w
 .rename_i d e
  obtain⟨O,q⟩:=S.sl
  obtain⟨v,h1,h2⟩:=q i _ e
  exact⟨v,h1,w v G H (.refl S.st.gh) (h2.rep S.st.gh)⟩
 .exact False.elim w
theorem aL{f:DSt->Out D}(h:DE X Γ E e f):DB X Γ E e f:=PE.imp h λσ H Q ⟨G0,H0,G,δ,S,w⟩ =>
 ⟨G0,H0,G,δ,S,w.mono (λd k v G' H' s r=>k v G' H' s (r.mono s.gh)) λ_ k=>k⟩
theorem uv{v:V}{d:D}(h:PE X e (tC v))(r:∀G,Rep X.K Γ G v d):DE X Γ E e (λ_=>.ok d):=PE.imp h λσ H Q ⟨G0,H0,G,δ,S,w⟩=>w v G H (.refl S.st.gh) (r G)
theorem az{i j}:DE X Γ E (.Constant (.int i) j pos) (λ_=>.ok (.int i)):=uv pe_int λ_=>.int i
theorem ik{i j}:DE X Γ E (.Constant (.bool i) j pos) (λ_=>.ok (.bl i)):=uv pe_bl λ_=>.bl i
theorem mL{j}:DE X Γ E (.Constant .none j pos) (λ_=>.ok .non):=uv Mw λ_=>.non
theorem aV{x j}:DE X Γ E (.Constant (.str x) j pos) (λ_=>.ok (.str x)):=uv pe_str λ_=>.str x
def o2(g:D->D->Option D)(fa fb:DSt->Out D):DSt->Out D:=λδ=>(fa δ).bind λx=>(fb δ).bind λy=>.opt (g x y)
def DR2(K:Frag)(Γ:Nat->Option Addr)(r:R2)(g:D->D->Option D):Prop :=
 ∀G H x y dx dy d Q,aO G H->Rep K Γ G x dx->Rep K Γ G y dy->g dx dy=some d->okD K Γ G H Q d->r x y H Q
theorem d2{r:R2}{g:D->D->Option D}{fa fb:DSt->Out D}(hr:DR2 X.K Γ r g)(h:PE X e (tOp r (teD X.K Γ E fa) (teD X.K Γ E fb))):DE X Γ E e (o2 g fa fb):=PE.imp h λσ H Q ⟨G0,H0,G,δ,S,w⟩=>by
 refine⟨G0,H0,G,δ,S,(aj w).mono (λx w v G1 H1 s1 r1=>?_) λ_ k=>k⟩
 refine⟨G0,H0,G1,δ,S.step s1,(aj w).mono (λy w u G2 H2 s2 r2=>?_) λ_ k=>k.step s1⟩
 obtain⟨d,e,k⟩:=bc w
 exact hr G2 H2 v u x y d Q s2.gh (r1.mono s2.gg) r2 e (k.step (s1.trans s2))
def o2b(g:D->D->Option Bool)(fa fb:DSt->Out D):DSt->Out Bool:=λδ=>(fa δ).bind λx=>(fb δ).bind λy=>.opt (g x y)
def bV(f:DSt->Out Bool):DSt->Out D:=λδ=>(f δ).bind λb=>.ok (.bl b)
def DRB(K:Frag)(Γ:Nat->Option Addr)(r:R2)(g:D->D->Option Bool):Prop :=
 ∀H x y dx dy b Q,Rep K Γ H x dx->Rep K Γ H y dy->g dx dy=some b->Q (.bl b) H->r x y H Q
theorem d2b{r:R2}{g:D->D->Option Bool}{fa fb:DSt->Out D}(hr:DRB X.K Γ r g)(h:PE X e (tOp r (tbD X.K Γ E fa) (tbD X.K Γ E fb))):DE X Γ E e (bV (o2b g fa fb)):=PE.imp h λσ H Q ⟨G0,H0,G,δ,S,w⟩=>by
 refine⟨G0,H0,G,δ,S,(aj (aj w)).mono (λx w v G1 H1 s1 r1=>?_) λ_ k=>k⟩
 refine⟨G0,H0,G1,δ,S.step s1,(aj w).mono (λy w u G2 H2 s2 r2=>?_) λ_ k=>k.step s1⟩
 obtain⟨d,e,k⟩:=bc w
 exact hr H2 v u x y d Q (r1.mono s2.hh) r2 e (k _ G2 H2 (s1.trans s2) (.bl d))
theorem d2t{r:R2}{g:D->D->Option Bool}{fa fb:DSt->Out D}(hr:DRB X.K Γ r g)(h:PT X e (tTest (tOp r (tbD X.K Γ E fa) (tbD X.K Γ E fb)))):DT X Γ E e (o2b g fa fb):=PT.imp h λσ H Q ⟨G0,H0,G,δ,S,w⟩=>by
 refine⟨G0,H0,G,δ,S,(aj w).mono (λx w v G1 H1 s1 r1=>?_) λ_ k=>k⟩
 refine⟨G0,H0,G1,δ,S.step s1,(aj w).mono (λy w u G2 H2 s2 r2=>?_) λ_ k=>k.step s1⟩
 obtain⟨d,e,k⟩:=bc w
 exact hr H2 v u x y d _ (r1.mono s2.hh) r2 e ⟨d,rfl,k G2 H2 (s1.trans s2)⟩
def bI:D->D->Option D
 | .int i,.int j=>some (.int (i+j))
 | .str i,.str j=>if i.length+j.length<=sizeLine then some (.str (i++j)) else none
 | .lst i,.lst j=>if i.length+j.length<=sizeLine then some (.lst (i++j)) else none
 | _,_=>none
def subD:D->D->Option D
 | .int i,.int j=>some (.int (i - j))
 | _,_=>none
instance (i j:Int):Decidable (iz i j):=by unfold iz;infer_instance
instance (i j:Int):Decidable (CDiv i j):=by unfold CDiv;infer_instance
def lB:D->D->Option D
 | .int i,.int j=>if iz i j then some (.int (i*j)) else none
 | .str i,.int j=>if i.length<=1000/\0<=j/\j<=1000 then some (.str (Txt.mul i j)) else none
 | .lst i,.int j=>if -(2 ^ 63)<=j/\j<2 ^ 63/\i.length*j.toNat<=sizeLine then some (.lst (List.replicate j.toNat i).flatten) else none
 | _,_=>none
def zH:D->D->Option D
 | .int i,.int j=>if CDiv i j then some (.int (i / j)) else none
 | _,_=>none
def fj:D->D->Option D
 | .int i,.int j=>if 0<j then some (.int (i % j)) else none
 | _,_=>none
theorem dr_add{K:Frag}:DR2 K Γ (λx y H Q=>(rI0 λi j=>.int (i+j)) x y H Q∨(∃i j,x=.str i/\y=.str j/\i.length+j.length<=sizeLine/\Q (.str (i++j)) H)∨rCat x y H Q) bI:=by
 intro G H x y dx dy d Q s rx ry e k
 unfold bI at e
 split at e
 .cases e;cases rx;cases ry;exact .inl ⟨_,_,rfl,rfl,k _ G H (.refl s) (.int _)⟩
 .split at e
  .cases e;cases rx;cases ry;rename_i h;exact .inr (.inl ⟨_,_,rfl,rfl,h,k _ G H (.refl s) (.str _)⟩)
  .cases e
 .split at e
  .cases e
   rename_i h
   cases rx with
   | lst h1 r1 =>
    cases ry with
    | lst h2 r2 =>
     refine .inr (.inr ⟨_,_,_,_,rfl,rfl,s _ _ h1,s _ _ h2,by rw[r1.length,r2.length];exact h,λp hp=>k _ _ _ (.new s hp) (.lst aP ?_)⟩)
     exact(r1.append r2).mono (aO.up (aD s hp))
  .cases e
 .cases e
theorem bh{fa fb:DSt->Out D}(ha:DE X Γ E a fa)(hb:DE X Γ E b fb):DE X Γ E (.BinOp a .Add b pos) (o2 bI fa fb):=d2 dr_add (J6 (op_add.or (Mu.or op_cat)) ha hb)
theorem dr_mul{K:Frag}:DR2 K Γ (λx y H Q=>(rI iz λi j=>.int (i*j)) x y H Q∨(∃i n,x=.str i/\y=.int n/\i.length<=1000/\0<=n/\n<=1000/\Q (.str (Txt.mul i n)) H)∨rRep x y H Q) lB:=by
 intro G H x y dx dy d Q s rx ry e k
 unfold lB at e
 split at e
 .split at e
  .rename_i h;cases e;cases rx;cases ry;exact .inl ⟨_,_,rfl,rfl,h,k _ G H (.refl s) (.int _)⟩
  .cases e
 .split at e
  .rename_i h;cases e;cases rx;cases ry;exact .inr (.inl ⟨_,_,rfl,rfl,h.1,h.2.1,h.2.2,k _ G H (.refl s) (.str _)⟩)
  .cases e
 .split at e
  .rename_i h
   cases e
   cases ry
   cases rx with
   | lst h1 r1 =>
    refine .inr (.inr ⟨_,_,_,rfl,rfl,s _ _ h1,h.1,h.2.1,by rw[r1.length];exact h.2.2,λp hp=>k _ _ _ (.new s hp) (.lst aP ?_)⟩)
    exact(r1.rep _).mono (aO.up (aD s hp))
  .cases e
 .cases e
theorem d9{fa fb:DSt->Out D}(ha:DE X Γ E a fa)(hb:DE X Γ E b fb):DE X Γ E (.BinOp a .Mult b pos) (o2 lB fa fb):=d2 dr_mul (J6 (op_mul.or (op_mulS.or op_rep)) ha hb)
theorem yw{fa fb:DSt->Out D}(ha:DE X Γ E a fa)(hb:DE X Γ E b fb):DE X Γ E (.BinOp a .FloorDiv b pos) (o2 zH fa fb):=d2 (λG H x y dx dy d Q s rx ry e k=>by
 unfold zH at e
 split at e
 .split at e
  .rename_i h;cases e;cases rx;cases ry;exact⟨_,_,rfl,rfl,h,k _ G H (.refl s) (.int _)⟩
  .cases e
 .cases e) (J6 op_fdiv ha hb)
theorem bJ{fa fb:DSt->Out D}(ha:DE X Γ E a fa)(hb:DE X Γ E b fb):DE X Γ E (.BinOp a .Mod b pos) (o2 fj fa fb):=d2 (λG H x y dx dy d Q s rx ry e k=>by
 unfold fj at e
 split at e
 .split at e
  .rename_i h;cases e;cases rx;cases ry;exact⟨_,_,rfl,rfl,h,k _ G H (.refl s) (.int _)⟩
  .cases e
 .cases e) (J6 op_mod ha hb)
def o1(g:D->Option D)(fa:DSt->Out D):DSt->Out D:=λδ=>(fa δ).bind λx=>.opt (g x)
def cmpI(p:Int->Int->Bool):D->D->Option Bool
 | .int i,.int j=>some (p i j)
 | _,_=>none
theorem rM{K:Frag}{p:Int->Int->Bool}:DRB K Γ (rI0 λi j=>.bl (p i j)) (cmpI p):=λH x y dx dy b Q rx ry e k=>by
 unfold cmpI at e
 split at e
 .cases e;cases rx;cases ry;exact⟨_,_,rfl,rfl,k⟩
 .cases e
abbrev ltD:D->D->Option Bool:=cmpI λi j=>decide (i<j)
abbrev leD:D->D->Option Bool:=cmpI λi j=>decide (i<=j)
abbrev gtD:D->D->Option Bool:=cmpI λi j=>decide (j<i)
mutual
def toPy:D->Option PyData
 | .non=>some .none
 | .bl b=>some (.bool b)
 | .int i=>some (.int i)
 | .str x=>some (.str x)
 | .lst xs=>(toPyL xs).map .list
 | .rol xs=>(toPyL xs).map .list
 | .tup xs=>(toPyL xs).map .tuple
 | .rot xs=>(toPyL xs).map .tuple
 | _=>none
def toPyL:List D->Option (List PyData)
 | []=>some []
 | d::r=>match toPy d,toPyL r with
  | some p,some q=>some (p::q)
  | _,_=>none
end
mutual
theorem Rep.deep{K:Frag}{H:Hp}:∀{v:V}{d:D}{p:PyData},Rep K Γ H v d->toPy d=some p->vK K H v p
 | _,_,_,.non,e=>by simp only[toPy] at e;cases e;exact .non
 | _,_,_,.bl b,e=>by simp only[toPy] at e;cases e;exact .bl b
 | _,_,_,.int b,e=>by simp only[toPy] at e;cases e;exact .int b
 | _,_,_,.str b,e=>by simp only[toPy] at e;cases e;exact .str b
 | _,_,_,.lst h r,e=>by
  simp only[toPy] at e
  obtain⟨q,e1,rfl⟩:=Option.map_eq_some_iff.mp e
  exact .lst (SqL.of h) (aC.deep r e1)
 | _,_,_,.rol h r,e=>by
  simp only[toPy] at e
  obtain⟨q,e1,rfl⟩:=Option.map_eq_some_iff.mp e
  exact .lst h (aC.deep r e1)
 | _,_,_,.tup h r,e=>by
  simp only[toPy] at e
  obtain⟨q,e1,rfl⟩:=Option.map_eq_some_iff.mp e
  exact .tup (SqT.of h) (aC.deep r e1)
 | _,_,_,.rot h r,e=>by
  simp only[toPy] at e
  obtain⟨q,e1,rfl⟩:=Option.map_eq_some_iff.mp e
  exact .tup h (aC.deep r e1)
 | _,_,_,.ty n,e=>by simp only[toPy] at e;cases e
 | _,_,_,.cls h,e=>by simp only[toPy] at e;cases e
 | _,_,_,.dK h r,e=>by simp only[toPy] at e;cases e
 | _,_,_,.dT h r,e=>by simp only[toPy] at e;cases e
 | _,_,_,.obj h g r,e=>by simp only[toPy] at e;cases e
 | _,_,_,.e0 h g,e=>by simp only[toPy] at e;cases e
 | _,_,_,.e1 h h' g r,e=>by simp only[toPy] at e;cases e
theorem aC.deep{K:Frag}{H:Hp}:∀{v:List V}{d:List D}{p:List PyData},aC K Γ H v d->toPyL d=some p->fJ K H v p
 | _,_,_,.nil,e=>by simp only[toPyL] at e;cases e;exact .nil
 | _,_,_,.cons (d:=d) (ds:=ds) h r,e=>by
  simp only[toPyL] at e
  cases h1:toPy d with
  | none=>rw[h1] at e;cases e
  | some p =>
   cases h2:toPyL ds with
   | none=>rw[h1,h2] at e;cases e
   | some q =>
    rw[h1,h2] at e
    cases e
    exact .cons (Rep.deep h h1) (aC.deep r h2)
end
def layP(p:PyData):Bool:=p.canLay0 && decide (p.depth<=50)
def eqD(x y:D):Option Bool:=match toPy x,toPy y with
 | some p,some q=>if layP p && layP q then some (PyData.eqv p q) else none
 | _,_=>none
def neD(x y:D):Option Bool:=(eqD x y).map (! ·)
theorem Jr{x y:D}{b:Bool}(h:eqD x y=some b):∃p q,toPy x=some p/\toPy y=some q/\p.canLay0=true/\q.canLay0=true/\p.depth<=50/\PyData.eqv p q=b:=by
 unfold eqD at h
 split at h
 .rename_i p q h1 h2
  split at h
  .rename_i z
   unfold layP at z
   simp only[Bool.and_eq_true,decide_eq_true_eq] at z
   exact⟨p,q,h1,h2,z.1.1,z.2.1,z.1.2,Option.some.inj h⟩
  .cases h
 .cases h
theorem drb_eq{K:Frag}:DRB K Γ (rEqD K false) eqD:=λH x y dx dy b Q rx ry e k=>by
 obtain⟨p,q,h1,h2,c1,c2,c3,e⟩:=Jr e
 exact⟨p,q,rx.deep h1,ry.deep h2,c1,c2,c3,by rw[e];simpa using k⟩
theorem drb_ne{K:Frag}:DRB K Γ (rEqD K true) neD:=λH x y dx dy b Q rx ry e k=>by
 obtain⟨b',e',rfl⟩:=Option.map_eq_some_iff.mp e
 obtain⟨p,q,h1,h2,c1,c2,c3,e⟩:=Jr e'
 exact⟨p,q,rx.deep h1,ry.deep h2,c1,c2,c3,by rw[e];simpa using k⟩
def iG:D->Bool
 | .non=>true
 | _=>false
def zT(x y:D):Option Bool:=match y with
 | .non=>some (iG x)
 | _=>none
theorem Rep.isNon{K:Frag}{H:Hp}{v:V}{d:D}(r:Rep K Γ H v d):decide (v=.non)=iG d:=by
 cases r <;> first | rfl | exact decide_eq_false (λq=>nomatch q)
theorem drb_is{K:Frag}:DRB K Γ (λx y H Q=>y=.non/\Q (.bl (decide (x=.non))) H) zT:=λH x y dx dy b Q rx ry e k=>by
 unfold zT at e
 split at e
 .cases e;cases ry;exact⟨rfl,by rw[rx.isNon];exact k⟩
 .cases e
def zJ:D->Option V
 | .non=>some .non
 | .bl b=>some (.bl b)
 | .int i=>some (.int i)
 | .str x=>some (.str x)
 | _=>none
def sO:List D->Option (List V)
 | []=>some []
 | d::r=>match zJ d,sO r with
  | some v,some vs=>some (v::vs)
  | _,_=>none
theorem Rep.flat{K:Frag}{H:Hp}{v u:V}{d:D}(r:Rep K Γ H v d)(e:zJ d=some u):v=u/\oH v=true:=by
 cases r <;> simp only[zJ] at e <;> cases e <;> exact⟨rfl,rfl⟩
theorem aC.flat{K:Frag}{H:Hp}:∀{vs us:List V}{ds:List D},aC K Γ H vs ds->sO ds=some us->vs=us/\vs.all oH=true
 | _,_,_,.nil,e=>by simp only[sO] at e;cases e;exact⟨rfl,rfl⟩
 | _,_,_,.cons (d:=d) (ds:=ds) h r,e=>by
  simp only[sO] at e
  cases h1:zJ d with
  | none=>rw[h1] at e;cases e
  | some p =>
   cases h2:sO ds with
   | none=>rw[h1,h2] at e;cases e
   | some q =>
    rw[h1,h2] at e
    cases e
    obtain⟨e1,f1⟩:=h.flat h1
    obtain⟨e2,f2⟩:=r.flat h2
    exact⟨by rw[e1,e2],by rw[List.all_cons,f1,f2];rfl⟩
def jt:D->Option (List D)
 | .lst xs=>some xs
 | .rol xs=>some xs
 | .tup xs=>some xs
 | .rot xs=>some xs
 | _=>none
theorem Rep.seq{K:Frag}{H:Hp}{v:V}{d:D}{ds:List D}(r:Rep K Γ H v d)(e:jt d=some ds):∃a vs,v=.ref a/\(SqL K H a vs∨SqT K H a vs)/\aC K Γ H vs ds:=by
 cases r <;> simp only[jt] at e <;> cases e
 .exact⟨_,_,rfl,.inl (SqL.of ‹_›),‹_›⟩
 .exact⟨_,_,rfl,.inr (SqT.of ‹_›),‹_›⟩
 .exact⟨_,_,rfl,.inl ‹_›,‹_›⟩
 .exact⟨_,_,rfl,.inr ‹_›,‹_›⟩
def inD(x y:D):Option Bool:=match x,y with
 | .str i,.str j=>some (!(Builtin.Str.occurrences j i 0 j.length 1).isEmpty)
 | x,y=>match zJ x,(jt y).bind sO with
  | some v,some vs=>some (inV v vs)
  | _,_=>none
def gF(x y:D):Option Bool:=(inD x y).map (! ·)
theorem JK{K:Frag}{H:Hp}{x y:V}{dx dy:D}{b:Bool}(rx:Rep K Γ H x dx)(ry:Rep K Γ H y dy)(h:inD dx dy=some b):
  (∃i j,x=.str i/\y=.str j/\b=!(Builtin.Str.occurrences j i 0 j.length 1).isEmpty)∨∃p xs,y=.ref p/\(SqL K H p xs∨SqT K H p xs)/\oH x=true/\xs.all oH=true/\b=inV x xs:=by
 unfold inD at h
 split at h
 .cases h;cases rx;cases ry;exact .inl ⟨_,_,rfl,rfl,rfl⟩
 .cases h1:zJ dx with
  | none=>rw[h1] at h;cases h
  | some v =>
   cases h2:jt dy with
   | none=>rw[h1,h2] at h;cases h
   | some ds =>
    rw[h1,h2] at h
    dsimp only[Option.bind_some] at h
    cases h3:sO ds with
    | none=>rw[h3] at h;cases h
    | some vs =>
     rw[h3] at h
     cases h
     obtain⟨e1,f1⟩:=rx.flat h1
     obtain⟨a,ws,e2,sq,ra⟩:=ry.seq h2
     obtain⟨e3,f3⟩:=ra.flat h3
     exact .inr ⟨a,ws,e2,sq,f1,f3,by rw[e1,e3]⟩
theorem drb_in{K:Frag}:DRB K Γ (λx y H Q=>(∃i j,x=.str i/\y=.str j/\Q (.bl (!(Builtin.Str.occurrences j i 0 j.length 1).isEmpty)) H)∨rIn K false x y H Q) inD:=λH x y dx dy b Q rx ry e k=>by
 rcases JK rx ry e with⟨i,j,e1,e2,rfl⟩| ⟨p,xs,e1,sq,f1,f2,rfl⟩
 .exact .inl ⟨i,j,e1,e2,k⟩
 .exact .inr ⟨p,xs,e1,sq,f1,f2,k⟩
theorem Ox{K:Frag}:DRB K Γ (λx y H Q=>(∃i j,x=.str i/\y=.str j/\Q (.bl (!(!(Builtin.Str.occurrences j i 0 j.length 1).isEmpty))) H)∨rIn K true x y H Q) gF:=λH x y dx dy b Q rx ry e k=>by
 obtain⟨b',e',rfl⟩:=Option.map_eq_some_iff.mp e
 rcases JK rx ry e' with⟨i,j,e1,e2,rfl⟩| ⟨p,xs,e1,sq,f1,f2,rfl⟩
 .exact .inl ⟨i,j,e1,e2,k⟩
 .exact .inr ⟨p,xs,e1,sq,f1,f2,k⟩
section
variable{fa fb:DSt->Out D}(hu:X.A.units+64<cLine)(ha:DB X Γ E a fa)(hb:DB X Γ E b fb)
theorem zc(hu:X.A.units+64<cLine)(ha:DB X Γ E a fa)(hb:DB X Γ E b fb):DE X Γ E (.Compare a [.Eq] [b] pos) (bV (o2b eqD fa fb)):=d2b drb_eq (Hi (op_eqD hu) ha hb (tU _))
theorem de_is(ha:DB X Γ E a fa)(hb:DB X Γ E b fb):DE X Γ E (.Compare a [.Is] [b] pos) (bV (o2b zT fa fb)):=d2b drb_is (Hi op_isN ha hb (tU _))
theorem Jl(ha:DB X Γ E a fa)(hb:DB X Γ E b fb)(hm:behindInMarks .In b=false:=by rfl):DE X Γ E (.Compare a [.In] [b] pos) (bV (o2b inD fa fb)):=d2b drb_in (Hi (Dv.or Du) ha hb hm)
theorem dt_lt(ha:DB X Γ E a fa)(hb:DB X Γ E b fb):DT X Γ E (.Compare a [.Lt] [b] pos) (o2b ltD fa fb):=d2t rM (nD op_lt ha hb (tU _))
theorem dt_gt(ha:DB X Γ E a fa)(hb:DB X Γ E b fb):DT X Γ E (.Compare a [.Gt] [b] pos) (o2b gtD fa fb):=d2t rM (nD op_gt ha hb (tU _))
theorem pZ(hu:X.A.units+64<cLine)(ha:DB X Γ E a fa)(hb:DB X Γ E b fb):DT X Γ E (.Compare a [.Eq] [b] pos) (o2b eqD fa fb):=d2t drb_eq (nD (op_eqD hu) ha hb (tU _))
theorem uy(hu:X.A.units+64<cLine)(ha:DB X Γ E a fa)(hb:DB X Γ E b fb):DT X Γ E (.Compare a [.NotEq] [b] pos) (o2b neD fa fb):=d2t drb_ne (nD (op_neD hu) ha hb (tU _))
theorem dt_is(ha:DB X Γ E a fa)(hb:DB X Γ E b fb):DT X Γ E (.Compare a [.Is] [b] pos) (o2b zT fa fb):=d2t drb_is (nD op_isN ha hb (tU _))
theorem dt_in(ha:DB X Γ E a fa)(hb:DB X Γ E b fb)(hm:behindInMarks .In b=false:=by rfl):DT X Γ E (.Compare a [.In] [b] pos) (o2b inD fa fb):=d2t drb_in (nD (Dv.or Du) ha hb hm)
theorem zq(ha:DB X Γ E a fa)(hb:DB X Γ E b fb)(hm:behindInMarks .NotIn b=false:=by rfl):DT X Γ E (.Compare a [.NotIn] [b] pos) (o2b gF fa fb):=d2t Ox (nD (Hg.or Hf) ha hb hm)
end
def o3(g g':D->D->Option Bool)(fa fb fc:DSt->Out D):DSt->Out Bool:=λδ=>(fa δ).bind λx=>(fb δ).bind λy=>(Out.opt (g x y)).bind λk=>if k=true then (fc δ).bind λz=>.opt (g' y z) else .ok false
theorem d3_aux{r r':R2}{g g':D->D->Option Bool}{fa fb fc:DSt->Out D}(hr:DRB X.K Γ r g)(hr':DRB X.K Γ r' g'){P:Bool->Hp->Prop}{σ:L2.St}{H:Hp}
  (w:ttD X.K Γ E (o3 g g' fa fb fc) σ H P):Am r r' (tbD X.K Γ E fa) (tbD X.K Γ E fb) (tbD X.K Γ E fc) σ H λv H'=>∃k,v=.bl k/\P k H':=by
 obtain⟨G0,H0,G,δ,S,w⟩:=w
 refine⟨G0,H0,G,δ,S,(aj w).mono (λx w v G1 H1 s1 r1=>?_) λ_ k=>k⟩
 refine⟨G0,H0,G1,δ,S.step s1,(aj w).mono (λy w u G2 H2 s2 r2=>?_) λ_ k=>k.step s1⟩
 obtain⟨k,e,w⟩:=bc (aj w)
 refine hr H2 v u x y k _ (r1.mono s2.hh) r2 e ⟨k,rfl,?_⟩
 cases k with
 | false =>
  rw[if_neg Bool.false_ne_true] at w ⊢
  exact⟨false,rfl,w G2 H2 (s1.trans s2)⟩
 | true =>
  rw[if_pos rfl] at w ⊢
  refine⟨G0,H0,G2,δ,(S.step s1).step s2,(aj w).mono (λz w t G3 H3 s3 r3=>?_) λ_ k=>k.step (s1.trans s2)⟩
  obtain⟨k,e,w⟩:=bc w
  exact hr' H3 u t y z k _ (r2.mono s3.hh) r3 e ⟨k,rfl,w G3 H3 ((s1.trans s2).trans s3)⟩
theorem d3t{r r':R2}{g g':D->D->Option Bool}{fa fb fc:DSt->Out D}(hr:DRB X.K Γ r g)(hr':DRB X.K Γ r' g')(h:PT X e (tTest (Am r r' (tbD X.K Γ E fa) (tbD X.K Γ E fb) (tbD X.K Γ E fc)))):DT X Γ E e (o3 g g' fa fb fc):=PT.imp h λσ H Q w=>d3_aux hr hr' w
theorem d3v{r r':R2}{g g':D->D->Option Bool}{fa fb fc:DSt->Out D}(hr:DRB X.K Γ r g)(hr':DRB X.K Γ r' g')(h:PE X e (Am r r' (tbD X.K Γ E fa) (tbD X.K Γ E fb) (tbD X.K Γ E fc))):DE X Γ E e (bV (o3 g g' fa fb fc)):=PE.imp h λσ H Q ⟨G0,H0,G,δ,S,w⟩=>by
 have w:=aj w
 refine⟨G0,H0,G,δ,S,(aj w).mono (λx w v G1 H1 s1 r1=>?_) λ_ k=>k⟩
 refine⟨G0,H0,G1,δ,S.step s1,(aj w).mono (λy w u G2 H2 s2 r2=>?_) λ_ k=>k.step s1⟩
 obtain⟨k,e,w⟩:=bc (aj w)
 refine hr H2 v u x y k _ (r1.mono s2.hh) r2 e ⟨k,rfl,?_⟩
 cases k with
 | false =>
  rw[if_neg Bool.false_ne_true] at w ⊢
  exact w _ G2 H2 (s1.trans s2) (.bl _)
 | true =>
  rw[if_pos rfl] at w ⊢
  refine⟨G0,H0,G2,δ,(S.step s1).step s2,(aj w).mono (λz w t G3 H3 s3 r3=>?_) λ_ k=>k.step (s1.trans s2)⟩
  obtain⟨k,e,w⟩:=bc w
  exact hr' H3 u t y z k _ (r2.mono s3.hh) r3 e (w _ G3 H3 ((s1.trans s2).trans s3) (.bl _))
theorem yz{fa fb fc:DSt->Out D}(ha:DB X Γ E a fa)(hb:DB X Γ E b fb)(hc:DB X Γ E c fc)(hm:lastMarks [.LtE,.LtE] [b,c]=false:=by with_unfolding_all rfl):DT X Γ E (.Compare a [.LtE,.LtE] [b,c] pos) (o3 leD leD fa fb fc):=d3t rM rM (pt_chain op_le op_le ha hb hc hm)
theorem de_lelt{fa fb fc:DSt->Out D}(ha:DB X Γ E a fa)(hb:DB X Γ E b fb)(hc:DB X Γ E c fc)(hm:lastMarks [.LtE,.Lt] [b,c]=false:=by with_unfolding_all rfl):DE X Γ E (.Compare a [.LtE,.Lt] [b,c] pos) (bV (o3 leD ltD fa fb fc)):=d3v rM rM (pe_chain op_le op_lt ha hb hc hm)
def truD:D->Option Bool
 | .non=>some false
 | .bl b=>some b
 | .int i=>some (i != 0)
 | .str y=>if y.length<=sizeLine then some ((y.length:Int) != 0) else none
 | .lst xs=>some (!xs.isEmpty)
 | .rol xs=>some (!xs.isEmpty)
 | .tup xs=>some (!xs.isEmpty)
 | .rot xs=>some (!xs.isEmpty)
 | .dK xs=>some (!xs.isEmpty)
 | _=>none
def tst(f:DSt->Out D):DSt->Out Bool:=λδ=>(f δ).bind λd=>.opt (truD d)
theorem rP{K:Frag}{H:Hp}{vs:List V}{ds:List D}(r:aC K Γ H vs ds):(!ds.isEmpty)=!vs.isEmpty:=by cases r <;> rfl
theorem Pb{K:Frag}{H:Hp}{vs:List (Key×V)}{ds:List (Key×D)}(r:cZ K Γ H vs ds):(!ds.isEmpty)=!vs.isEmpty:=by cases r <;> rfl
theorem Rep.tru{K:Frag}{H:Hp}{v:V}{d:D}{k:Bool}(r:Rep K Γ H v d)(e:truD d=some k):TruV K v H k:=by
 cases r <;> simp only[truD] at e
 case non=>cases e;exact rfl
 case bl=>cases e;exact rfl
 case int=>cases e;exact rfl
 case str =>
  split at e
  .cases e;exact⟨‹_›,rfl⟩
  .cases e
 case lst h r=>cases e;rw[rP r];exact .inl ⟨_,SqL.of h,rfl⟩
 case rol h r=>cases e;rw[rP r];exact .inl ⟨_,h,rfl⟩
 case tup h r=>cases e;rw[rP r];exact .inr (.inl ⟨_,SqT.of h,rfl⟩)
 case rot h r=>cases e;rw[rP r];exact .inr (.inl ⟨_,h,rfl⟩)
 case dK h r=>cases e;rw[Pb r];exact .inr (.inr ⟨_,h,rfl⟩)
 all_goals cases e
theorem di{f:DSt->Out D}(h:DB X Γ E e f)(he:∀whole,isTrue e X.env whole=(do let v ←whole;standAt e.pos;holding [v] (truthy v)):=by intro _;rfl):DT X Γ E e (tst f):=PT.imp (pt_truth h he) λσ H Q ⟨G0,H0,G,δ,S,w⟩=>by
 refine⟨G0,H0,G,δ,S,(aj w).mono (λx w v G1 H1 s1 r1=>?_) λ_ k=>k⟩
 obtain⟨k,e,q⟩:=bc w
 exact⟨k,r1.tru e,q G1 H1 s1⟩
def andT(f g:DSt->Out Bool):DSt->Out Bool:=λδ=>(f δ).bind λk=>if k=true then g δ else .ok false
def orT(f g:DSt->Out Bool):DSt->Out Bool:=λδ=>(f δ).bind λk=>if k=true then .ok true else g δ
def jJ(f:DSt->Out Bool):DSt->Out Bool:=λδ=>(f δ).bind λk=>.ok (!k)
variable{rest:List Expr}{ft gt:DSt->Out Bool}
theorem dw_and1(ha:DT X Γ E a ft):DW X Γ E (.BoolOp .And [a] pos) ft:=pw_and1 ha
theorem iD(ha:DT X Γ E a ft):DW X Γ E (.BoolOp .Or [a] pos) ft:=pw_or1 ha
theorem dw_and(ha:DT X Γ E a ft)(hb:DW X Γ E (.BoolOp .And (b::rest) pos) gt):DW X Γ E (.BoolOp .And (a::b::rest) pos) (andT ft gt):=PW.imp (pw_and ha hb) λσ H Q ⟨G0,H0,G,δ,S,w⟩=>by
 refine⟨G0,H0,G,δ,S,(aj w).mono (λk w G1 H1 s1=>?_) λ_ k=>k⟩
 cases k with
 | false=>rw[if_neg Bool.false_ne_true] at w ⊢;exact w G1 H1 s1
 | true=>rw[if_pos rfl] at w ⊢;exact⟨G0,H0,G1,δ,S.step s1,w.mono (λb q G2 H2 s2=>q G2 H2 (s1.trans s2)) λ_ k=>k.step s1⟩
theorem kh(ha:DT X Γ E a ft)(hb:DW X Γ E (.BoolOp .Or (b::rest) pos) gt):DW X Γ E (.BoolOp .Or (a::b::rest) pos) (orT ft gt):=PW.imp (pw_or ha hb) λσ H Q ⟨G0,H0,G,δ,S,w⟩=>by
 refine⟨G0,H0,G,δ,S,(aj w).mono (λk w G1 H1 s1=>?_) λ_ k=>k⟩
 cases k with
 | true=>rw[if_pos rfl] at w ⊢;exact w G1 H1 s1
 | false=>rw[if_neg Bool.false_ne_true] at w ⊢;exact⟨G0,H0,G1,δ,S.step s1,w.mono (λb q G2 H2 s2=>q G2 H2 (s1.trans s2)) λ_ k=>k.step s1⟩
theorem v5(h:DW X Γ E e ft):DT X Γ E e ft:=L2.PW.pt h
theorem dh(ha:DT X Γ E a ft):DT X Γ E (.UnaryOp .Not a pos) (jJ ft):=PT.imp (pt_not ha) λσ H Q ⟨G0,H0,G,δ,S,w⟩ =>
 ⟨G0,H0,G,δ,S,(aj w).mono (λk w G1 H1 s1=>w G1 H1 s1) λ_ k=>k⟩
def asB:D->Option Bool
 | .bl b=>some b
 | _=>none
def vW(f g:DSt->Out D):DSt->Out D:=λδ=>(f δ).bind λd=>(Out.opt (asB d)).bind λk=>if k=true then g δ else .ok (.bl false)
def orV(f g:DSt->Out D):DSt->Out D:=λδ=>(f δ).bind λd=>(Out.opt (asB d)).bind λk=>if k=true then .ok (.bl true) else g δ
def notV(f:DSt->Out D):DSt->Out D:=λδ=>(f δ).bind λd=>(Out.opt (asB d)).bind λk=>.ok (.bl (!k))
theorem Rep.asB{K:Frag}{H:Hp}{v:V}{d:D}{k:Bool}(r:Rep K Γ H v d)(e:asB d=some k):v=.bl k:=by
 cases r <;> simp only[DL.asB] at e <;> cases e;rfl
variable{fa fb:DSt->Out D}
theorem pX{op}(ha:DE X Γ E a fa):DE X Γ E (.BoolOp op [a] pos) fa:=pe_one ha
theorem pW(ha:DE X Γ E a fa)(hb:DE X Γ E (.BoolOp .And (b::rest) pos) fb):DE X Γ E (.BoolOp .And (a::b::rest) pos) (vW fa fb):=PE.imp (pe_and ha hb) λσ H Q ⟨G0,H0,G,δ,S,w⟩=>by
 refine⟨G0,H0,G,δ,S,(aj w).mono (λx w v G1 H1 s1 r1=>?_) λ_ k=>k⟩
 obtain⟨k,e,w⟩:=bc (aj w)
 refine⟨k,r1.asB e,?_⟩
 cases k with
 | false=>rw[if_neg Bool.false_ne_true] at w ⊢;exact w _ G1 H1 s1 (.bl false)
 | true=>rw[if_pos rfl] at w ⊢;exact⟨G0,H0,G1,δ,S.step s1,w.mono (λb q=>q.step s1) λ_ k=>k.step s1⟩
theorem de_or(ha:DE X Γ E a fa)(hb:DE X Γ E (.BoolOp .Or (b::rest) pos) fb):DE X Γ E (.BoolOp .Or (a::b::rest) pos) (orV fa fb):=PE.imp (pe_or ha hb) λσ H Q ⟨G0,H0,G,δ,S,w⟩=>by
 refine⟨G0,H0,G,δ,S,(aj w).mono (λx w v G1 H1 s1 r1=>?_) λ_ k=>k⟩
 obtain⟨k,e,w⟩:=bc (aj w)
 refine⟨k,r1.asB e,?_⟩
 cases k with
 | true=>rw[if_pos rfl] at w ⊢;exact w _ G1 H1 s1 (.bl true)
 | false=>rw[if_neg Bool.false_ne_true] at w ⊢;exact⟨G0,H0,G1,δ,S.step s1,w.mono (λb q=>q.step s1) λ_ k=>k.step s1⟩
theorem de_not(ha:DE X Γ E a fa):DE X Γ E (.UnaryOp .Not a pos) (notV fa):=PE.imp (pe_not ha) λσ H Q ⟨G0,H0,G,δ,S,w⟩=>by
 refine⟨G0,H0,G,δ,S,(aj w).mono (λx w v G1 H1 s1 r1=>?_) λ_ k=>k⟩
 obtain⟨k,e,w⟩:=bc (aj w)
 exact⟨k,r1.asB e,w _ G1 H1 s1 (.bl _)⟩
def aR:DSt->Out (List D):=λ_=>.ok []
def aB(f:DSt->Out D)(r:DSt->Out (List D)):DSt->Out (List D):=λδ=>(f δ).bind λd=>(r δ).bind λds=>.ok (d::ds)
variable{es:List Expr}{fr:DSt->Out (List D)}
theorem aH:DA X Γ E [] aR:=PA.imp bL λσ H Q ⟨G0,H0,G,δ,S,w⟩=>w _ G H (.refl S.st.gh) .nil
theorem ak(ha:DE X Γ E e fa)(hr:DA X Γ E es fr)(hs:starEach (e::es) X.env=(false,eval e X.env)::starEach es X.env:=by rfl):DA X Γ E (e::es) (aB fa fr):=PA.imp (aX ha hr hs) λσ H Q ⟨G0,H0,G,δ,S,w⟩=>by
 refine⟨G0,H0,G,δ,S,(aj w).mono (λx w v G1 H1 s1 r1=>?_) λ_ k=>k⟩
 refine⟨G0,H0,G1,δ,S.step s1,(aj w).mono (λds w vs G2 H2 s2 r2=>?_) λ_ k=>k.step s1⟩
 exact w _ G2 H2 (s1.trans s2) (.cons (r1.mono s2.gg) r2)
def lQ(f:DSt->Out (List D)):DSt->Out D:=λδ=>(f δ).bind λds=>if ds.length<=sizeLine then .ok (.tup ds) else .stuck
def uR(f:DSt->Out (List D)):DSt->Out D:=λδ=>(f δ).bind λds=>if ds.length<=sizeLine then .ok (.lst ds) else .stuck
theorem pY{x1}(h:DA X Γ E es fr):DE X Γ E (.Tuple es x1 pos) (lQ fr):=PE.imp (pe_tup h) λσ H Q ⟨G0,H0,G,δ,S,w⟩=>by
 refine⟨G0,H0,G,δ,S,(aj w).mono (λds w vs G1 H1 s1 r1=>?_) λ_ k=>k⟩
 split at w
 .rename_i h
  exact⟨by rw[r1.length];exact h,λp hp=>w _ _ _ (s1.trans (.new s1.gh hp)) (.tup aP (r1.mono (aO.up (aD s1.gh hp))))⟩
 .exact False.elim w
theorem FJ(h:DA X Γ E es fr):DE X Γ E (.List es pos) (uR fr):=PE.imp (pe_lst h) λσ H Q ⟨G0,H0,G,δ,S,w⟩=>by
 refine⟨G0,H0,G,δ,S,(aj w).mono (λds w vs G1 H1 s1 r1=>?_) λ_ k=>k⟩
 split at w
 .rename_i h
  exact⟨by rw[r1.length];exact h,λp hp=>w _ _ _ (s1.trans (.new s1.gh hp)) (.lst aP (r1.mono (aO.up (aD s1.gh hp))))⟩
 .exact False.elim w
theorem aC.atI{K:Frag}{H:Hp}{vs:List V}{ds:List D}{i:Int}{d:D}(r:aC K Γ H vs ds)(e:atI ds i=some d):∃v,atI vs i=some v/\Rep K Γ H v d:=by
 unfold L2.atI at e ⊢
 rw[r.length]
 cases q:ixN ds.length i with
 | none=>rw[q] at e;cases e
 | some j =>
  rw[q] at e
  exact r.get e
def ixD:D->D->Option D
 | .str z,.int i=>if z.length<=sizeLine then (atI z.cps.toList i).map λc=>.str ⟨#[c]⟩ else none
 | x,.int i=>(jt x).bind λds=>atI ds i
 | _,_=>none
theorem dr_ix{K:Frag}:DR2 K Γ (rIx K) ixD:=by
 intro G H x y dx dy d Q s rx ry e k
 unfold ixD at e
 split at e
 .split at e
  .obtain⟨c,e1,rfl⟩:=Option.map_eq_some_iff.mp e
   cases rx;cases ry
   exact .inr (.inr ⟨_,_,c,rfl,rfl,‹_›,e1,k _ G H (.refl s) (.str _)⟩)
  .cases e
 .cases ry
  obtain⟨ds,e1,e2⟩:=Option.bind_eq_some_iff.mp e
  obtain⟨a,vs,rfl,sq,ra⟩:=rx.seq e1
  obtain⟨v,h1,h2⟩:=ra.atI e2
  rcases sq with sq | sq
  .exact .inl ⟨a,vs,_,v,rfl,rfl,s.seq sq,h1,k _ G H (.refl s) h2⟩
  .exact .inr (.inl ⟨a,vs,_,v,rfl,rfl,SqT.same s sq,h1,k _ G H (.refl s) h2⟩)
 .cases e
theorem de_ix(ha:DE X Γ E a fa)(hb:DE X Γ E b fb)(hs:Ep b:=by exact λ_ _=>rfl):DE X Γ E (.Subscript a b pos) (o2 ixD fa fb):=d2 dr_ix (pe_ix ix_seq ha hb hs)
def gvo(i:Nat):DSt->Out D:=λδ=>match δ[i]? with
 | some (some (.sh d))=>.ok d
 | some (some (.ol ds))=>.ok (.lst ds)
 | _=>.stuck
theorem bQ(i:Nat){x:Str}{p:Pos}(h:PE X (.Name x p) (ou i))(hb:DE X Γ E b fb)(hs:Ep b:=by exact λ_ _=>rfl):DE X Γ E (.Subscript (.Name x p) b pos) (o2 ixD (gvo i) fb):=PE.imp (pe_ix ix_seq h hb hs) λσ H Q ⟨G0,H0,G,δ,S,w⟩=>by
 obtain⟨O,q⟩:=id S.sl
 unfold o2 gvo at w
 split at w
 .rename_i d e
  obtain⟨v,h1,h2⟩:=q i _ e
  refine⟨v,h1,G0,H0,G,δ,S,(aj (o:=fb δ) w).mono (λy w u G2 H2 s2 r2=>?_) λ_ k=>k⟩
  obtain⟨d,e,k⟩:=bc w
  exact dr_ix G2 H2 v u _ y d Q s2.gh (Rep.mono s2.gg h2) r2 e (k.step s2)
 .rename_i ds e
  obtain⟨v,h1,a,vs,ev,ha,ga,h0,hO,ra⟩:=q i _ e
  subst ev
  refine⟨_,h1,G0,H0,G,δ,S,(aj (o:=fb δ) w).mono (λy w u G2 H2 s2 r2=>?_) λ_ k=>k⟩
  obtain⟨d,e,k⟩:=bc w
  unfold ixD at e
  split at e
  .exact absurd (‹D.lst ds=D.str _›) (λq=>by cases q)
  .cases r2
   obtain⟨ds',e1,e2⟩:=Option.bind_eq_some_iff.mp e
   cases e1
   obtain⟨v,h1,h2⟩:=ra.atI e2
   exact .inl ⟨a,vs,_,v,rfl,rfl,SqL.of (s2.hh _ _ ha),h1,k _ G2 H2 s2 (h2.mono s2.gg)⟩
  .cases e
 .exact False.elim w
def DRC(K:Frag)(Γ:Nat->Option Addr)(r:List V->Hp->VK->Prop)(g:List D->Option D):Prop :=
 ∀G H vs ds d Q,aO G H->aC K Γ G vs ds->g ds=some d->okD K Γ G H Q d->r vs H Q
def oC(g:List D->Option D)(f:DSt->Out (List D)):DSt->Out D:=λδ=>(f δ).bind λds=>.opt (g ds)
theorem dC{r:List V->Hp->VK->Prop}{g:List D->Option D}(hr:DRC X.K Γ r g)(h:PE X e (tCB r (taD X.K Γ E fr))):DE X Γ E e (oC g fr):=PE.imp h λσ H Q ⟨G0,H0,G,δ,S,w⟩=>by
 refine⟨G0,H0,G,δ,S,(aj w).mono (λds w vs G1 H1 s1 r1=>?_) λ_ k=>k⟩
 obtain⟨d,e,k⟩:=bc w
 exact hr G1 H1 vs ds d Q s1.gh r1 e (k.step s1)
def DRC1(K:Frag)(Γ:Nat->Option Addr)(r:List V->Hp->VK->Prop)(g:D->Option D):Prop :=
 ∀G H v dx d Q,aO G H->Rep K Γ H v dx->g dx=some d->okD K Γ G H Q d->r [v] H Q
theorem dC1{r:List V->Hp->VK->Prop}{g:D->Option D}(hr:DRC1 X.K Γ r g)(h:PE X e (tCB r (iT (tbD X.K Γ E fa) lH))):DE X Γ E e (o1 g fa):=PE.imp h λσ H Q ⟨G0,H0,G,δ,S,w⟩=>by
 refine⟨G0,H0,G,δ,S,(aj w).mono (λx w v G1 H1 s1 r1=>?_) λ_ k=>k⟩
 obtain⟨d,e,k⟩:=bc w
 exact hr G1 H1 v x d Q s1.gh r1 e (k.step s1)
def fC:D->Option D
 | .str z=>if z.length<=sizeLine then some (.int z.length) else none
 | x=>(jt x).map λds=>.int ds.length
theorem drc_len{K:Frag}:DRC1 K Γ (λxs H Q=>(∃p ys,xs=[.ref p]/\(SqL K H p ys∨SqT K H p ys)/\Q (.int ys.length) H)∨∃z,xs=[.str z]/\z.length<=sizeLine/\Q (.int z.length) H) fC:=by
 intro G H v dx d Q s r e k
 unfold fC at e
 split at e
 .split at e
  .cases e;cases r;exact .inr ⟨_,rfl,‹_›,k _ G H (.refl s) (.int _)⟩
  .cases e
 .obtain⟨ds,e1,rfl⟩:=Option.map_eq_some_iff.mp e
  obtain⟨a,vs,rfl,sq,ra⟩:=r.seq e1
  exact .inl ⟨a,vs,rfl,sq,by rw[ra.length];exact k _ G H (.refl s) (.int _)⟩
variable{p:Pos}
theorem c7(hg:Gl X "len")(hm:X.mg "len"=none)(ha:DB X Γ E a fa)(hs:starEach [a] X.env=[(false,eval a X.env)]:=by rfl):DE X Γ E (.Call (.Name "len" p) [a] [] pos) (o1 fC fa) :=
 dC1 drc_len (uX (Ft.or Fv) hg hm PySem.boot_len (aX ha bL (by rw[hs];rfl)) (by decide) (by decide) (by rw[hs];rfl) (by rfl))
def intD:D->Option D
 | .int i=>some (.int i)
 | .bl k=>some (.int (if k then 1 else 0))
 | _=>none
theorem Fy(hg:Gl X "int")(hm:X.mg "int"=none)(ha:DE X Γ E a fa)(hs:starEach [a] X.env=[(false,eval a X.env)]:=by rfl):DE X Γ E (.Call (.Name "int" p) [a] [] pos) (o1 intD fa) :=
 dC1 (λG H v dx d Q s r e k=>by
  unfold intD at e
  split at e
  .cases e;cases r;exact .inl ⟨_,rfl,k _ G H (.refl s) (.int _)⟩
  .cases e;cases r;exact .inr ⟨_,rfl,k _ G H (.refl s) (.int _)⟩
  .cases e) (lU Om hg hm (by decide +kernel) (aX (aL ha) bL (by rw[hs];rfl)) (by decide) (by decide) (by rw[hs];rfl) (by rfl))
def maxD:List D->Option D
 | [.int i,.int j]=>some (.int (if j>i then j else i))
 | _=>none
def ud:D->Option D
 | .lst xs=>some (.tup xs)
 | .rol xs=>some (.tup xs)
 | .tup xs=>some (.tup xs)
 | _=>none
theorem zg(hg:Gl X "tuple")(hm:X.mg "tuple"=none)(ha:DE X Γ E a fa)(hs:starEach [a] X.env=[(false,eval a X.env)]:=by rfl):DE X Γ E (.Call (.Name "tuple" p) [a] [] pos) (oC (λds=>match ds with | [x]=>ud x | _=>none) (aB fa aR)) :=
 dC (λG H vs ds d Q s r e k=>by
  cases r with
  | nil=>cases e
  | cons r1 r2 =>
   cases r2 with
   | cons _ _=>cases e
   | nil =>
    dsimp only at e
    unfold ud at e
    split at e
    .cases e
     cases r1 with
     | lst h ra=>exact⟨_,_,rfl,.inl ⟨s.seq (SqL.of h),λl hl=>k _ _ _ (.new s hl) (.tup aP (ra.mono (aO.up (aD s hl))))⟩⟩
    .cases e
     cases r1 with
     | rol h ra=>exact⟨_,_,rfl,.inl ⟨s.seq h,λl hl=>k _ _ _ (.new s hl) (.tup aP (ra.mono (aO.up (aD s hl))))⟩⟩
    .cases e
     cases r1 with
     | tup h ra=>exact⟨_,_,rfl,.inr ⟨SqT.of (s _ _ h),k _ G H (.refl s) (.tup h ra)⟩⟩
    .cases e) (lU Bv hg hm (by decide +kernel) (ak ha aH (by rw[hs];rfl)) (by decide) (by decide) (by rw[hs];rfl) (by rfl))
end
end DL
namespace DL
open PySem PySem.Spec PyProof.Rows MX L2
section
variable{K:Frag}{Γ:Nat->Option Addr}{G0 H0 G H G' H':Hp}{O O':Addr->Option Nat}{σ:L2.St}{δ:DSt}
theorem Inner.reO(k:∀b,H b≠none->O' b=O b){i:Nat}:∀{vs:List V}{dss:List (List D)},Inner K Γ H0 G H O i vs dss->Inner K Γ H0 G H O' i vs dss
 | _,_,.nil=>.nil
 | _,_,.cons h g h0 o r n t=>.cons h g h0 (by rw[k _ (by rw[h];exact λq=>nomatch q)];exact o) r n (t.reO k)
theorem bA.reO(k:∀b,H b≠none->O' b=O b){i:Nat}:∀{vs:List V}{es:List Mx}{bs:List Addr},bA K Γ H0 G H O i vs es bs->bA K Γ H0 G H O' i vs es bs
 | _,_,_,.nil=>.nil
 | _,_,_,.own h g h0 o r n t=>.own h g h0 (by rw[k _ (by rw[h];exact λq=>nomatch q)];exact o) r n (t.reO k)
 | _,_,_,.fix r t=>.fix r (t.reO k)
theorem bN.reO{i:Nat}{v:V}{x:Sl}(h:bN K Γ H0 G H O i v x)(k:∀b,H b≠none->O' b=O b):bN K Γ H0 G H O' i v x:=by
 have kk:∀{a:Addr}{o:HO},H a=some o->O' a=O a:=λh=>k _ (by rw[h];exact λq=>nomatch q)
 cases x with
 | sh d=>exact h
 | ol ds=>obtain⟨a,vs,e,h1,h2,h3,h4,h5⟩:=h;exact⟨a,vs,e,h1,h2,h3,(kk h1).trans h4,h5⟩
 | oll ds=>obtain⟨a,vs,e,h1,h2,h3,h4,h5,h6⟩:=h;exact⟨a,vs,e,h1,h2,h3,(kk h1).trans h4,h5,h6.reO k⟩
 | od ds=>obtain⟨a,vs,e,h1,h2,h3,h4,h5⟩:=h;exact⟨a,vs,e,h1,h2,h3,(kk h1).trans h4,h5⟩
 | odT ds=>obtain⟨a,vs,e,h1,h2,h3,h4,h5⟩:=h;exact⟨a,vs,e,h1,h2,h3,(kk h1).trans h4,h5⟩
 | omx ds=>obtain⟨a,vs,bs,e,h1,h2,h3,h4,h5,h6⟩:=h;exact⟨a,vs,bs,e,h1,h2,h3,(kk h1).trans h4,h5,h6.reO k⟩
theorem Inner.frame{i j:Nat}(ij:j≠i)(hh:∀b,O b≠some i->H' b=H b)(gg:aO G G')(gn:∀b,O b≠some i->G b=none->G' b=none):∀{vs:List V}{dss:List (List D)},Inner K Γ H0 G H O j vs dss->Inner K Γ H0 G' H' O j vs dss
 | _,_,.nil=>.nil
 | _,_,.cons h g h0 o r n t=>.cons ((hh _ (by rw[o];exact λq=>ij (Option.some.inj q))).trans h) (gn _ (by rw[o];exact λq=>ij (Option.some.inj q)) g) h0 o (r.mono gg) n (t.frame ij hh gg gn)
theorem bA.frame{i j:Nat}(ij:j≠i)(hh:∀b,O b≠some i->H' b=H b)(gg:aO G G')(gn:∀b,O b≠some i->G b=none->G' b=none):∀{vs:List V}{es:List Mx}{bs:List Addr},bA K Γ H0 G H O j vs es bs->bA K Γ H0 G' H' O j vs es bs
 | _,_,_,.nil=>.nil
 | _,_,_,.own h g h0 o r n t=>.own ((hh _ (by rw[o];exact λq=>ij (Option.some.inj q))).trans h) (gn _ (by rw[o];exact λq=>ij (Option.some.inj q)) g) h0 o (r.mono gg) n (t.frame ij hh gg gn)
 | _,_,_,.fix r t=>.fix (r.mono gg) (t.frame ij hh gg gn)
theorem bN.frame{i j:Nat}{v:V}{x:Sl}(h:bN K Γ H0 G H O j v x)(ij:j≠i)(hh:∀b,O b≠some i->H' b=H b)(gg:aO G G')(gn:∀b,O b≠some i->G b=none->G' b=none):bN K Γ H0 G' H' O j v x:=by
 have nz:∀{a:Addr},O a=some j->O a≠some i:=λo=>by rw[o];exact λq=>ij (Option.some.inj q)
 cases x with
 | sh d=>exact Rep.mono gg h
 | ol ds=>obtain⟨a,vs,e,h1,h2,h3,h4,h5⟩:=h;exact⟨a,vs,e,(hh _ (nz h4)).trans h1,gn _ (nz h4) h2,h3,h4,h5.mono gg⟩
 | oll ds=>obtain⟨a,vs,e,h1,h2,h3,h4,h5,h6⟩:=h;exact⟨a,vs,e,(hh _ (nz h4)).trans h1,gn _ (nz h4) h2,h3,h4,h5,h6.frame ij hh gg gn⟩
 | od ds=>obtain⟨a,vs,e,h1,h2,h3,h4,h5⟩:=h;exact⟨a,vs,e,(hh _ (nz h4)).trans h1,gn _ (nz h4) h2,h3,h4,h5.mono gg⟩
 | odT ds=>obtain⟨a,vs,e,h1,h2,h3,h4,h5⟩:=h;exact⟨a,vs,e,(hh _ (nz h4)).trans h1,gn _ (nz h4) h2,h3,h4,h5.mono gg⟩
 | omx ds=>obtain⟨a,vs,bs,e,h1,h2,h3,h4,h5,h6⟩:=h;exact⟨a,vs,bs,e,(hh _ (nz h4)).trans h1,gn _ (nz h4) h2,h3,h4,h5,h6.frame ij hh gg gn⟩
theorem Slots.put{i:Nat}{v:V}{x:Sl}(hl:δ.length=σ.length)(q:∀j s,δ[j]?=some (some s)->j≠i->∃v,σ[j]?=some (some v)/\bN K Γ H0 G H O j v s)(n:bN K Γ H0 G H O i v x):Slots K Γ H0 G H (σ.set i (some v)) (δ.set i (some x)):=by
 refine⟨O,λj y e=>?_⟩
 by_cases ij:i=j
 .subst ij
  rw[List.getElem?_set_self'] at e
  cases h:δ[i]? with
  | none=>rw[h] at e;simp at e
  | some z =>
   rw[h] at e
   simp at e
   have lt:i<σ.length:=by rw[←hl];exact(List.getElem?_eq_some_iff.mp h).1
   subst e
   exact⟨v,by rw[List.getElem?_set_self lt],n⟩
 .rw[List.getElem?_set_ne ij] at e
  obtain⟨v',h1,h2⟩:=q j y e (λz=>ij z.symm)
  exact⟨v',by rw[List.getElem?_set_ne ij];exact h1,h2⟩
theorem Ak{α:Type}{l:List α}{i:Nat}{x:α}(h:l[i]?=some x):l.set i x=l:=by
 obtain⟨lt,e⟩:=List.getElem?_eq_some_iff.mp h
 subst e
 exact List.set_getElem_self lt
theorem SR.setl(S:SR K Γ G0 H0 G H σ δ)(s:Step G H G' H'){i:Nat}{a:Addr}{vs:List V}{ds:List D}(f:H a=none)(h:H' a=some (.lst vs))(g:G' a=none)(r:aC K Γ G' vs ds):
  SR K Γ G0 H0 G' H' (σ.set i (some (.ref a))) (δ.set i (some (.ol ds))):=by
 obtain⟨O,q⟩:=S.sl
 have k:∀b,H b≠none->(λb=>if b=a then some i else O b) b=O b:=λb hb=>by
  have:b≠a:=λz=>hb (z▸f)
  simp[this]
 refine⟨S.st.trans s,by rw[List.length_set,List.length_set];exact S.len,Slots.put (O:=λb=>if b=a then some i else O b) S.len (λj y e ij=>?_) ⟨a,vs,rfl,h,g,aD S.st.hh f,by simp,r⟩⟩
 obtain⟨v,h1,h2⟩:=q j y e
 exact⟨v,h1,(h2.reO k).step s⟩
theorem bz.mem{G' H':Hp}:∀{vs:List V}{dss:List (List D)},bz K Γ H G' H' vs dss->∀b,V.ref b∈vs->H b=none/\H' b≠none
 | _,_,.nil,b,hb=>by cases hb
 | _,_,.cons f h g r n t,b,hb=>by
  rcases List.mem_cons.mp hb with z | z
  .cases z;exact⟨f,by rw[h];exact λq=>nomatch q⟩
  .exact t.mem b z
theorem SR.write(S:SR K Γ G0 H0 G H σ δ)(q:∀i s,δ[i]?=some (some s)->∃v,σ[i]?=some (some v)/\bN K Γ H0 G H O i v s){i:Nat}{a:Addr}{o:HO}{v:V}{x:Sl}(g:G a=none)(h0:H0 a=none)(oa:O a=some i)(hv:σ[i]?=some (some v))
  (n:bN K Γ H0 G (upd H a o) O i v x):SR K Γ G0 H0 G (upd H a o) σ (δ.set i (some x)):=by
 have hh:∀b,O b≠some i->upd H a o b=H b:=λb hb=>aN λz=>hb (z▸oa)
 refine⟨⟨S.st.gg,λb u e=>?_,λb u e=>?_,S.st.sep⟩,by rw[List.length_set];exact S.len,?_⟩
 .rw[aN (aJ e h0)];exact S.st.hh _ _ e
 .rw[aN (aJ e g)];exact S.st.gh _ _ e
 .have z:=Slots.put (v:=v) (i:=i) (x:=x) S.len (λj y e ij=>by
   obtain⟨v',h1,h2⟩:=q j y e
   exact⟨v',h1,h2.frame ij hh (aO.refl _) (λ_ _ g=>g)⟩) n
  rwa [Ak hv] at z
def dG(G H:Hp)(p:Addr->Bool):Hp:=λb=>if p b=true then H b else G b
theorem SR.JD(S:SR K Γ G0 H0 G H σ δ)(q:∀i s,δ[i]?=some (some s)->∃v,σ[i]?=some (some v)/\bN K Γ H0 G H O i v s){i:Nat}(p:Addr->Bool)(hp:∀b,p b=true->O b=some i/\G b=none/\H0 b=none){v:V}{d:D}(hv:σ[i]?=some (some v))
  (n:Rep K Γ (dG G H p) v d):SR K Γ G0 H0 (dG G H p) H σ (δ.set i (some (.sh d))):=by
 have gg:aO G (dG G H p):=λb u e=>by
  unfold dG
  split
  .rw[(hp b ‹_›).2.1] at e;cases e
  .exact e
 have gn:∀b,O b≠some i->G b=none->dG G H p b=none:=λb hb g=>by
  unfold dG
  split
  .exact absurd (hp b ‹_›).1 hb
  .exact g
 refine⟨⟨S.st.gg.trans gg,S.st.hh,λb u e=>?_,λb hb g0=>?_⟩,by rw[List.length_set];exact S.len,?_⟩
 .unfold dG at e
  split at e
  .exact e
  .exact S.st.gh _ _ e
 .unfold dG
  split
  .exact absurd (hp b ‹_›).2.2 hb
  .exact S.st.sep b hb g0
 .have z:=Slots.put (v:=v) (i:=i) (x:=.sh d) S.len (λj y e ij=>by
   obtain⟨v',h1,h2⟩:=q j y e
   exact⟨v',h1,h2.frame ij (λ_ _=>rfl) gg gn⟩) n
  rwa [Ak hv] at z
theorem Inner.facts{i:Nat}:∀{vs:List V}{dss:List (List D)},Inner K Γ H0 G H O i vs dss->∀b,V.ref b∈vs->O b=some i/\G b=none/\H0 b=none
 | _,_,.nil,b,hb=>by cases hb
 | _,_,.cons h g h0 o r n t,b,hb=>by
  rcases List.mem_cons.mp hb with z | z
  .cases z;exact⟨o,g,h0⟩
  .exact t.facts b z
theorem Inner.frozen{i:Nat}{p:Addr->Bool}(gg:aO G (dG G H p)):∀{vs:List V}{dss:List (List D)},(∀b,V.ref b∈vs->p b=true)->Inner K Γ H0 G H O i vs dss->aC K Γ (dG G H p) vs (dss.map .lst)
 | _,_,_,.nil=>.nil
 | _,_,m,.cons h g h0 o r n t=>.cons (.lst (by unfold dG;rw[if_pos (m _ List.mem_cons_self)];exact h) (r.mono gg)) (Inner.frozen gg (λb' hb=>m b' (List.mem_cons_of_mem _ hb)) t)
theorem bA.facts{i:Nat}:∀{vs:List V}{es:List Mx}{bs:List Addr},bA K Γ H0 G H O i vs es bs->∀b∈bs,O b=some i/\G b=none/\H0 b=none
 | _,_,_,.nil,b,hb=>by cases hb
 | _,_,_,.own h g h0 o r n t,b,hb=>by
  rcases List.mem_cons.mp hb with z | z
  .cases z;exact⟨o,g,h0⟩
  .exact t.facts b z
 | _,_,_,.fix r t,b,hb=>t.facts b hb
theorem bA.frozen{i:Nat}{p:Addr->Bool}(gg:aO G (dG G H p)):∀{vs:List V}{es:List Mx}{bs:List Addr},(∀b∈bs,p b=true)->bA K Γ H0 G H O i vs es bs->aC K Γ (dG G H p) vs (es.map Mx.d)
 | _,_,_,_,.nil=>.nil
 | _,_,_,m,.own h g h0 o r n t=>.cons (.lst (by unfold dG;rw[if_pos (m _ List.mem_cons_self)];exact h) (r.mono gg)) (bA.frozen gg (λb' hb=>m b' (List.mem_cons_of_mem _ hb)) t)
 | _,_,_,m,.fix r t=>.cons (r.mono gg) (bA.frozen gg m t)
def frzS:Sl->Sl
 | .sh d=>.sh d
 | .ol ds=>.sh (.lst ds)
 | .oll dss=>.sh (.lst (dss.map .lst))
 | .od kvs=>.sh (.dK kvs)
 | .odT kvs=>.sh (.dT kvs)
 | .omx es=>.sh (.lst (es.map Mx.d))
def frz(i:Nat)(δ:DSt):DSt:=match δ[i]? with
 | some (some s)=>δ.set i (some (frzS s))
 | _=>δ
theorem dH{p:Addr->Bool}(hp:∀b,p b=true->G b=none):aO G (dG G H p):=λb u e=>by
 unfold dG
 split
 .rw[hp b ‹_›] at e;cases e
 .exact e
theorem SR.freeze(S:SR K Γ G0 H0 G H σ δ)(i:Nat):∃G',SR K Γ G0 H0 G' H σ (frz i δ):=by
 obtain⟨O,q⟩:=id S.sl
 unfold frz
 split
 .rename_i s e
  obtain⟨v,hv,h⟩:=q i s e
  cases s with
  | sh d=>exact⟨G,by rw[show frzS (.sh d)=.sh d from rfl,Ak e];exact S⟩
  | ol ds =>
   obtain⟨a,vs,ev,h1,h2,h3,h4,h5⟩:=h
   subst ev
   have hp:∀b,decide (b=a)=true->O b=some i/\G b=none/\H0 b=none:=λb z=>by obtain rfl:=of_decide_eq_true z;exact⟨h4,h2,h3⟩
   exact⟨_,S.JD q (λb=>decide (b=a)) hp hv (.lst (by unfold dG;rw[if_pos (by simp)];exact h1) (h5.mono (dH λb z=>(hp b z).2.1)))⟩
  | oll ds =>
   obtain⟨a,vs,ev,h1,h2,h3,h4,h5,h6⟩:=h
   subst ev
   have hp:∀b,decide (b=a∨V.ref b∈vs)=true->O b=some i/\G b=none/\H0 b=none:=λb z=>by
    rcases of_decide_eq_true z with z | z
    .subst z;exact⟨h4,h2,h3⟩
    .exact h6.facts b z
   exact⟨_,S.JD q (λb=>decide (b=a∨V.ref b∈vs)) hp hv (.lst (by unfold dG;rw[if_pos (by simp)];exact h1) (h6.frozen (dH λb z=>(hp b z).2.1) λb hb=>by simp[hb]))⟩
  | od ds =>
   obtain⟨a,vs,ev,h1,h2,h3,h4,h5⟩:=h
   subst ev
   have hp:∀b,decide (b=a)=true->O b=some i/\G b=none/\H0 b=none:=λb z=>by obtain rfl:=of_decide_eq_true z;exact⟨h4,h2,h3⟩
   exact⟨_,S.JD q (λb=>decide (b=a)) hp hv (.dK (by unfold dG;rw[if_pos (by simp)];exact h1) (h5.mono (dH λb z=>(hp b z).2.1)))⟩
  | odT ds =>
   obtain⟨a,vs,ev,h1,h2,h3,h4,h5⟩:=h
   subst ev
   have hp:∀b,decide (b=a)=true->O b=some i/\G b=none/\H0 b=none:=λb z=>by obtain rfl:=of_decide_eq_true z;exact⟨h4,h2,h3⟩
   exact⟨_,S.JD q (λb=>decide (b=a)) hp hv (.dT (by unfold dG;rw[if_pos (by simp)];exact h1) (h5.mono (dH λb z=>(hp b z).2.1)))⟩
  | omx ds =>
   obtain⟨a,vs,bs,ev,h1,h2,h3,h4,h5,h6⟩:=h
   subst ev
   have hp:∀b,decide (b=a∨b∈bs)=true->O b=some i/\G b=none/\H0 b=none:=λb z=>by
    rcases of_decide_eq_true z with z | z
    .subst z;exact⟨h4,h2,h3⟩
    .exact h6.facts b z
   exact⟨_,S.JD q (λb=>decide (b=a∨b∈bs)) hp hv (.lst (by unfold dG;rw[if_pos (by simp)];exact h1) (h6.frozen (dH λb z=>(hp b z).2.1) λb hb=>by simp[hb]))⟩
 .exact⟨G,S⟩
end
section
variable(K:Frag)(Γ:Nat->Option Addr)(E:XK)
def okF(G H:Hp)(Q:VK)(ds:List D):Prop:=∀a vs G' H',Step G H G' H'->H a=none->H' a=some (.lst vs)->G' a=none->aC K Γ G' vs ds->Q (.ref a) H'
def okFF(G H:Hp)(Q:VK)(dss:List (List D)):Prop:=∀a vs G' H',Step G H G' H'->H a=none->H' a=some (.lst vs)->G' a=none->V.ref a∉vs->bz K Γ H G' H' vs dss->Q (.ref a) H'
def tfD(f:DSt->Out (List D)):TE:=λσ H Q=>∃G0 H0 G δ,SR K Γ G0 H0 G H σ δ/\wpO (f δ) (okF K Γ G H Q) (exD K Γ E G H)
def tffD(f:DSt->Out (List (List D))):TE:=λσ H Q=>∃G0 H0 G δ,SR K Γ G0 H0 G H σ δ/\wpO (f δ) (okFF K Γ G H Q) (exD K Γ E G H)
end
abbrev DF(X:Cx)(Γ:Nat->Option Addr)(E:XK)(e:Expr)(f:DSt->Out (List D)):Prop:=PE X e (tfD X.K Γ E f)
abbrev DFF(X:Cx)(Γ:Nat->Option Addr)(E:XK)(e:Expr)(f:DSt->Out (List (List D))):Prop:=PE X e (tffD X.K Γ E f)
section
variable{X:Cx}{Γ:Nat->Option Addr}{E:XK}{e a b c:Expr}{pos:Pos}{es:List Expr}{fa fb:DSt->Out D}{fr:DSt->Out (List D)}
theorem bz.frozen{K:Frag}{G0 H0 G H:Hp}{p:Addr->Bool}(gg:aO G (dG G H p)):∀{vs:List V}{dss:List (List D)},(∀b,V.ref b∈vs->p b=true)->bz K Γ H0 G H vs dss->aC K Γ (dG G H p) vs (dss.map .lst)
 | _,_,_,.nil=>.nil
 | _,_,m,.cons f h g r n t=>.cons (.lst (by unfold dG;rw[if_pos (m _ List.mem_cons_self)];exact h) (r.mono gg)) (bz.frozen (G0:=G0) gg (λb' hb=>m b' (List.mem_cons_of_mem _ hb)) t)
theorem bz.gnone{K:Frag}{H G' H':Hp}:∀{vs:List V}{dss:List (List D)},bz K Γ H G' H' vs dss->∀b,V.ref b∈vs->G' b=none
 | _,_,.nil,b,hb=>by cases hb
 | _,_,.cons f h g r n t,b,hb=>by
  rcases List.mem_cons.mp hb with z | z
  .cases z;exact g
  .exact t.gnone b z
theorem Step.frz{G H G' H':Hp}(s:Step G H G' H')(p:Addr->Bool)(hp:∀b,p b=true->G' b=none/\H b=none):Step G H (dG G' H' p) H' :=
 ⟨s.gg.trans (dH λb z=>(hp b z).1),s.hh,λb u e=>by
  unfold dG at e
  split at e
  .exact e
  .exact s.gh _ _ e,λb hb g=>by
  unfold dG
  split
  .exact absurd (hp b ‹_›).2 hb
  .exact s.sep b hb g⟩
def xX(f:DSt->Out (List D)):DSt->Out D:=λδ=>(f δ).bind λds=>.ok (.lst ds)
theorem zf{f:DSt->Out (List D)}(h:DF X Γ E e f):DE X Γ E e (xX f):=PE.imp h λσ H Q ⟨G0,H0,G,δ,S,w⟩=>by
 refine⟨G0,H0,G,δ,S,(aj w).mono (λds w a vs G1 H1 s1 f h g r=>?_) λ_ k=>k⟩
 have hp:∀b,decide (b=a)=true->G1 b=none/\H b=none:=λb z=>by obtain rfl:=of_decide_eq_true z;exact⟨g,f⟩
 exact w _ _ H1 (s1.frz (λb=>decide (b=a)) hp) (.lst (by unfold dG;rw[if_pos (by simp)];exact h) (r.mono (dH λb z=>(hp b z).1)))
def xR(f:DSt->Out (List D)):DSt->Out (List D):=λδ=>(f δ).bind λds=>if ds.length<=sizeLine then .ok ds else .stuck
theorem tK(h:DA X Γ E es fr):DF X Γ E (.List es pos) (xR fr):=PE.imp (pe_lst h) λσ H Q ⟨G0,H0,G,δ,S,w⟩=>by
 refine⟨G0,H0,G,δ,S,(aj w).mono (λds w vs G1 H1 s1 r1=>?_) λ_ k=>k⟩
 split at w
 .rename_i h
  exact⟨by rw[r1.length];exact h,λp hp=>w p vs G1 _ (s1.trans (.aside s1.gh hp)) (aD s1.hh hp) aP (aD s1.gh hp) r1⟩
 .exact False.elim w
def jR(f:DSt->Out D):DSt->Out (List D):=λδ=>(f δ).bind λd=>.opt (jt d)
theorem df_list{p:Pos}(hg:Gl X "list")(hm:X.mg "list"=none)(ha:DE X Γ E a fa)(hs:starEach [a] X.env=[(false,eval a X.env)]:=by rfl):DF X Γ E (.Call (.Name "list" p) [a] [] pos) (jR fa) :=
 PE.imp (lU Fw hg hm (by decide +kernel) (aX ha bL (by rw[hs];rfl)) (by decide) (by decide) (by rw[hs];rfl) (by rfl)) λσ H Q ⟨G0,H0,G,δ,S,w⟩=>by
  refine⟨G0,H0,G,δ,S,(aj w).mono (λd w v G1 H1 s1 r1=>?_) λ_ k=>k⟩
  obtain⟨ds,e,w⟩:=bc w
  obtain⟨a,vs,rfl,sq,ra⟩:=r1.seq e
  exact⟨a,vs,rfl,sq.imp (λz=>s1.gh.seq z) (λz=>SqT.same s1.gh z),λl hl=>w l vs G1 _ (s1.trans (.aside s1.gh hl)) (aD s1.hh hl) aP (aD s1.gh hl) ra⟩
end
section
variable{X:Cx}{Γ:Nat->Option Addr}{E:XK}{e a b c:Expr}{pos:Pos}{es:List Expr}{fa fb:DSt->Out D}{fr:DSt->Out (List D)}{ft:DSt->Out Bool}{st:Stmt}{rest sa sb:List Stmt}{g g':DSt->Out Fl}
def cV:DSt->Out Fl:=λδ=>.ok (.nx δ)
def aW(g g':DSt->Out Fl):DSt->Out Fl:=λδ=>(g δ).bind λfl=>match fl with
 | .nx δ'=>g' δ'
 | fl=>.ok fl
theorem aZ:DSs X Γ E [] cV:=PSs.imp N6 λN σ H ⟨G0,H0,G,δ,S,w⟩=>w σ G H S
theorem aA(h1:DS X Γ E st g)(h2:DSs X Γ E rest g'):DSs X Γ E (st::rest) (aW g g'):=PSs.imp (qJ h1 h2) λN σ H ⟨G0,H0,G,δ,S,w⟩=>by
 refine⟨G0,H0,G,δ,S,(aj w).mono (λfl w=>?_) λ_ k=>k⟩
 cases fl with
 | nx δ'=>exact λσ' G' H' S'=>⟨G0,H0,G',δ',S',w⟩
 | rt d=>exact w
 | bk d=>exact w
 | ct d=>exact w
 | rl d=>exact w
 | rll d=>exact w
theorem au(h1:DS X Γ E st g):DSs X Γ E [st] g:=kJ h1
theorem v4(i:Nat)(h:DS X Γ E st g):DS X Γ E st (λδ=>g (frz i δ)):=PS.imp h λN σ H ⟨G0,H0,G,δ,S,w⟩=>by
 obtain⟨G',S'⟩:=S.freeze i
 exact⟨G0,H0,G',_,S',w⟩
theorem jx:DS X Γ E st (λ_=>.stuck):=PS.imp ps_never λN σ H ⟨G0,H0,G,δ,S,w⟩=>w
def bC(f:DSt->Out D):DSt->Out Fl:=λδ=>(f δ).bind λd=>.ok (.rt d)
theorem aQ(he:DE X Γ E e fa):DS X Γ E (.Return (some e) pos) (bC fa):=PS.imp (tX he) λN σ H ⟨G0,H0,G,δ,S,w⟩ =>
 ⟨G0,H0,G,δ,S,(aj w).mono (λd w v G' H' s r=>w v G' H' (S.st.trans s) r) λx k=>exD.step k S.st⟩
def Dz(f:DSt->Out (List D)):DSt->Out Fl:=λδ=>(f δ).bind λd=>.ok (.rl d)
theorem Nr(he:DF X Γ E e fr):DS X Γ E (.Return (some e) pos) (Dz fr):=PS.imp (tX he) λN σ H ⟨G0,H0,G,δ,S,w⟩ =>
 ⟨G0,H0,G,δ,S,(aj w).mono (λd w a vs G' H' s f h g r=>w a vs G' H' (S.st.trans s) (aD S.st.hh f) h g r) λx k=>exD.step k S.st⟩
theorem bz.reF{K:Frag}{H H2 G' H':Hp}(k:∀b,H b=none->H2 b=none):∀{vs:List V}{dss:List (List D)},bz K Γ H G' H' vs dss->bz K Γ H2 G' H' vs dss
 | _,_,.nil=>.nil
 | _,_,.cons f h g r n t=>.cons (k _ f) h g r n (bz.reF k t)
def MN(f:DSt->Out (List (List D))):DSt->Out Fl:=λδ=>(f δ).bind λd=>.ok (.rll d)
theorem ds_retff{ff:DSt->Out (List (List D))}(he:DFF X Γ E e ff):DS X Γ E (.Return (some e) pos) (MN ff):=PS.imp (tX he) λN σ H ⟨G0,H0,G,δ,S,w⟩ =>
 ⟨G0,H0,G,δ,S,(aj w).mono (λd w a vs G' H' s f h g n r=>w a vs G' H' (S.st.trans s) (aD S.st.hh f) h g n (r.reF λb z=>aD S.st.hh z)) λx k=>exD.step k S.st⟩
def tD(i:Nat):DSt->Out Fl:=λδ=>match δ[i]? with
 | some (some (.sh d))=>.ok (.rt d)
 | some (some (.ol ds))=>.ok (.rl ds)
 | some (some (.oll dss))=>.ok (.rll dss)
 | _=>.stuck
theorem Inner.toN{K:Frag}{H0 G H:Hp}{O:Addr->Option Nat}{i:Nat}:∀{vs:List V}{dss:List (List D)},Inner K Γ H0 G H O i vs dss->bz K Γ H0 G H vs dss
 | _,_,.nil=>.nil
 | _,_,.cons h g h0 o r n t=>.cons h0 h g r n t.toN
theorem rN(i:Nat){x:Str}{p:Pos}(hv:PE X (.Name x p) (ou i)):DS X Γ E (.Return (some (.Name x p)) pos) (tD i):=PS.imp (tX hv) λN σ H ⟨G0,H0,G,δ,S,w⟩=>by
 obtain⟨O,q⟩:=id S.sl
 unfold tD at w
 split at w
 .rename_i d e
  obtain⟨v,hv,h⟩:=q i _ e
  exact⟨v,hv,w v G H S.st h⟩
 .rename_i d e
  obtain⟨v,hv,a,vs,ev,h1,h2,h3,h4,h5⟩:=q i _ e
  subst ev
  exact⟨_,hv,w a vs G H S.st h3 h1 h2 h5⟩
 .rename_i d e
  obtain⟨v,hv,a,vs,ev,h1,h2,h3,h4,h5,h6⟩:=q i _ e
  subst ev
  exact⟨_,hv,w a vs G H S.st h3 h1 h2 h5 h6.toN⟩
 .exact False.elim w
def sIf(t:DSt->Out Bool)(g g':DSt->Out Fl):DSt->Out Fl:=λδ=>(t δ).bind λk=>if k=true then g δ else g' δ
theorem bW(hc:DT X Γ E c ft)(ha:DSs X Γ E sa g)(hb:DSs X Γ E sb g'):DS X Γ E (.If c sa sb pos) (sIf ft g g'):=PS.imp (ps_if hc ha hb) λN σ H ⟨G0,H0,G,δ,S,w⟩=>by
 refine⟨G0,H0,G,δ,S,(aj w).mono (λk w G1 H1 s1=>?_) λx k=>exD.step k S.st⟩
 cases k with
 | true=>rw[if_pos rfl] at w ⊢;exact⟨G0,H0,G1,δ,S.step s1,w⟩
 | false=>rw[if_neg Bool.false_ne_true] at w ⊢;exact⟨G0,H0,G1,δ,S.step s1,w⟩
def tgD(K:Frag)(Γ:Nat->Option Addr)(f:D->DSt->Option DSt):TG:=λv σ H Q=>∃G0 H0 G δ d δ',SR K Γ G0 H0 G H σ δ/\Rep K Γ G v d/\f d δ=some δ'/\∀σ',SR K Γ G0 H0 G H σ' δ'->Q σ' H
def tgsD(K:Frag)(Γ:Nat->Option Addr)(f:List D->DSt->Option DSt):TGs:=λvs σ H Q=>∃G0 H0 G δ ds δ',SR K Γ G0 H0 G H σ δ/\aC K Γ G vs ds/\f ds δ=some δ'/\∀σ',SR K Γ G0 H0 G H σ' δ'->Q σ' H
abbrev DG(X:Cx)(Γ:Nat->Option Addr)(e:Expr)(f:D->DSt->Option DSt):Prop:=PG X e (tgD X.K Γ f)
abbrev DGs(X:Cx)(Γ:Nat->Option Addr)(es:List Expr)(f:List D->DSt->Option DSt):Prop:=PGs X es (tgsD X.K Γ f)
theorem PG.imp{e:Expr}{t t':TG}(h:PG X e t)(k:∀v σ H Q,t' v σ H Q->t v σ H Q):PG X e t':=λpins s σ H v u Q I r q=>h pins s σ H v u Q I r (k _ _ _ _ q)
theorem PGs.imp{e:List Expr}{t t':TGs}(h:PGs X e t)(k:∀v σ H Q,t' v σ H Q->t v σ H Q):PGs X e t':=λpins s σ H v u Q I r q=>h pins s σ H v u Q I r (k _ _ _ _ q)
def gN(i:Nat):D->DSt->Option DSt:=λd δ=>some (δ.set i (some (.sh d)))
theorem Nq{i:Nat}{x:Str}(h:PG X (.Name x pos) (xg i)):DG X Γ (.Name x pos) (gN i):=PG.imp h λv σ H Q ⟨G0,H0,G,δ,d,δ',S,r,e,q⟩=>by
 cases e
 exact q _ (S.set r)
def oJ:List D->DSt->Option DSt:=λds δ=>match ds with
 | []=>some δ
 | _=>none
def cO(f:D->DSt->Option DSt)(g:List D->DSt->Option DSt):List D->DSt->Option DSt:=λds δ=>match ds with
 | d::r=>(f d δ).bind (g r)
 | []=>none
theorem ux:DGs X Γ [] oJ:=PGs.imp pgs_nil λvs σ H Q ⟨G0,H0,G,δ,ds,δ',S,r,e,q⟩=>by
 cases r with
 | nil=>cases e;exact⟨rfl,q _ S⟩
 | cons _ _=>cases e
theorem eN{f:D->DSt->Option DSt}{h:List D->DSt->Option DSt}(h1:DG X Γ e f)(h2:DGs X Γ es h)(hh:∀{t:TG} {u:TGs},PG X e t->PGs X es u->PGs X (e::es) (gCons t u)):DGs X Γ (e::es) (cO f h):=PGs.imp (hh h1 h2) λvs σ H Q ⟨G0,H0,G,δ,ds,δ',S,r,e,q⟩=>by
 cases r with
 | nil=>cases e
 | cons r1 r2 =>
  unfold cO at e
  obtain⟨δ1,e1,e2⟩:=Option.bind_eq_some_iff.mp e
  exact⟨_,_,rfl,G0,H0,G,δ,_,δ1,S,r1,e1,λσ' S'=>⟨G0,H0,G,δ1,_,δ',S',r2,e2,q⟩⟩
def gT(n:Nat)(f:List D->DSt->Option DSt):D->DSt->Option DSt:=λd δ=>match d with
 | .tup ds=>if ds.length=n then f ds δ else none
 | _=>none
theorem zj{f:List D->DSt->Option DSt}{n:Nat}(hh:∀{t:TGs},PGs X es t->PG X e (gTup X.K n t))(h:DGs X Γ es f):DG X Γ e (gT n f):=PG.imp (hh h) λv σ H Q ⟨G0,H0,G,δ,d,δ',S,r,e,q⟩=>by
 unfold gT at e
 split at e
 .split at e
  .cases r with
   | tup h1 r1=>exact⟨_,_,rfl,SqT.of (S.st.gh _ _ h1),by rw[r1.length];assumption,G0,H0,G,δ,_,δ',S,r1,e,q⟩
  .cases e
 .cases e
def sAsg(f:DSt->Out D)(g:D->DSt->Option DSt):DSt->Out Fl:=λδ=>(f δ).bind λd=>(Out.opt (g d δ)).bind λδ'=>.ok (.nx δ')
theorem ds_asg{tg:Expr}{f:D->DSt->Option DSt}(hh:∀{te:TE} {g:TG},PE X e te->PG X tg g->PS X (.Assign [tg] e pos) (tAsg te g))(he:DE X Γ E e fa)(hg:DG X Γ tg f):DS X Γ E (.Assign [tg] e pos) (sAsg fa f):=PS.imp (hh he hg) λN σ H ⟨G0,H0,G,δ,S,w⟩=>by
 refine⟨G0,H0,G,δ,S,(aj w).mono (λd w v G1 H1 s1 r1=>?_) λx k=>exD.step k S.st⟩
 obtain⟨δ',e,w⟩:=bc (aj w)
 exact⟨G0,H0,G1,δ,d,δ',S.step s1,r1,e,λσ' S'=>w σ' G1 H1 S'⟩
def cP(i:Nat)(f:DSt->Out D):DSt->Out Fl:=λδ=>(f δ).bind λd=>.ok (.nx (δ.set i (some (.sh d))))
theorem ds_set(i:Nat){x:Str}{pos':Pos}(hh:∀{te:TE},PE X e te->PS X (.Assign [.Name x pos'] e pos) (tAsg te (xg i)))(he:DE X Γ E e fa):DS X Γ E (.Assign [.Name x pos'] e pos) (cP i fa):=PS.imp (hh he) λN σ H ⟨G0,H0,G,δ,S,w⟩ =>
 ⟨G0,H0,G,δ,S,(aj w).mono (λd w v G1 H1 s1 r1=>w _ G1 H1 ((S.step s1).set r1)) λx k=>exD.step k S.st⟩
def iR(i:Nat)(f:DSt->Out (List D)):DSt->Out Fl:=λδ=>(f δ).bind λd=>.ok (.nx (δ.set i (some (.ol d))))
theorem ds_setl(i:Nat){x:Str}{pos':Pos}(hh:∀{te:TE},PE X e te->PS X (.Assign [.Name x pos'] e pos) (tAsg te (xg i)))(he:DF X Γ E e fr):DS X Γ E (.Assign [.Name x pos'] e pos) (iR i fr):=PS.imp (hh he) λN σ H ⟨G0,H0,G,δ,S,w⟩ =>
 ⟨G0,H0,G,δ,S,(aj w).mono (λd w a vs G1 H1 s1 f h g r=>w _ G1 H1 (S.setl s1 f h g r)) λx k=>exD.step k S.st⟩
end
end DL
namespace DL
open PySem PySem.Spec PyProof.Rows MX L2
section
variable{X:Cx}{Γ:Nat->Option Addr}{E:XK}{e a b c:Expr}{pos:Pos}{es:List Expr}{fa fb:DSt->Out D}{fr:DSt->Out (List D)}{ft:DSt->Out Bool}{st:Stmt}{rest sa sb:List Stmt}{g g':DSt->Out Fl}
def uY(i:Nat)(f:DSt->Out D):DSt->Out Fl:=λδ=>match δ[i]? with
 | some (some (.ol ds))=>(f δ).bind λd=>if ds.length<sizeLine then .ok (.nx (δ.set i (some (.ol (ds++[d]))))) else .stuck
 | _=>.stuck
theorem ds_app(i:Nat){x m:Str}{p apos cpos:Pos}(hv:PE X (.Name x p) (ou i))(he:DE X Γ E e fa)(hh:∀{to te:TE},PE X (.Name x p) to->PE X e te->PS X (.Expr (.Call (.Attribute (.Name x p) m apos) [e] [] cpos) pos) (vo (tBM X.K "list" Hj to (iT te lH)))):
  DS X Γ E (.Expr (.Call (.Attribute (.Name x p) m apos) [e] [] cpos) pos) (uY i fa) :=
 PS.imp (hh hv he) λN σ H ⟨G0,H0,G,δ,S,w⟩=>by
  obtain⟨O,q⟩:=id S.sl
  unfold uY at w
  split at w
  .rename_i ds ei
   obtain⟨v,hvi,h⟩:=id (q i _ ei)
   obtain⟨aa,vs,ev,h1,h2,h3,h4,h5⟩:=h
   subst ev
   refine⟨_,hvi,.inl ⟨rfl,vs,SqL.of h1⟩,G0,H0,G,δ,S,(aj w).mono (λd w u G1 H1 s1 r1=>?_) λx k=>exD.step k S.st⟩
   split at w
   .rename_i hz
    have S1:=S.step s1
    have q1:∀i s,δ[i]?=some (some s)->∃v,σ[i]?=some (some v)/\bN X.K Γ H0 G1 H1 O i v s:=λj y e=>by
     obtain⟨v',z1,z2⟩:=q j y e
     exact⟨v',z1,z2.step s1⟩
    refine⟨aa,vs,u,rfl,rfl,s1.hh _ _ h1,by rw[h5.length];exact hz,w σ G1 _ (S1.write q1 (s1.sep aa (by rw[h1];exact λz=>nomatch z) h2) h3 h4 hvi ?_)⟩
    exact⟨aa,vs++[u],rfl,aP,s1.sep aa (by rw[h1];exact λz=>nomatch z) h2,h3,h4,(h5.mono s1.gg).append (.cons r1 .nil)⟩
   .exact False.elim w
  .exact False.elim w
theorem Inner.length{K:Frag}{H0 G H:Hp}{O:Addr->Option Nat}{i:Nat}:∀{vs:List V}{dss:List (List D)},Inner K Γ H0 G H O i vs dss->vs.length=dss.length
 | _,_,.nil=>rfl
 | _,_,.cons h g h0 o r n t=>by rw[List.length_cons,List.length_cons,t.length]
def sClr2(i:Nat)(fk:DSt->Out D):DSt->Out Fl:=λδ=>match δ[i]? with
 | some (some (.oll dss))=>(fk δ).bind λk=>match k with
  | .int k=>match ixN dss.length k with
   | some j=>.ok (.nx (δ.set i (some (.oll (dss.set j [])))))
   | none=>.stuck
  | _=>.stuck
 | _=>.stuck
def sPut(i:Nat)(fe fk:DSt->Out D):DSt->Out Fl:=λδ=>(fe δ).bind λd=>match δ[i]? with
 | some (some (.ol ds))=>(fk δ).bind λk=>match k with
  | .int k=>match ixN ds.length k with
   | some j=>.ok (.nx (δ.set i (some (.ol (ds.set j d)))))
   | none=>.stuck
  | _=>.stuck
 | _=>.stuck
theorem ds_put(i:Nat){x:Str}{p p2:Pos}(hv:PE X (.Name x p) (ou i))(he:DE X Γ E e fa)(hb:DE X Γ E b fb)(hh:∀{te to ti:TE},PE X e te->PE X (.Name x p) to->PE X b ti->PS X (.Assign [.Subscript (.Name x p) b p2] e pos) (tAsg te (gSub to ti rSetL))):
  DS X Γ E (.Assign [.Subscript (.Name x p) b p2] e pos) (sPut i fa fb) :=
 PS.imp (hh he hv hb) λN σ H ⟨G0,H0,G,δ,S,w⟩=>by
  refine⟨G0,H0,G,δ,S,(aj w).mono (λd w u G1 H1 s1 r1=>?_) λx k=>exD.step k S.st⟩
  have S1:=S.step s1
  obtain⟨O,q⟩:=id S1.sl
  split at w
  .rename_i ds ei
   obtain⟨v,hvi,aa,vs,ev,h1,h2,h3,h4,h5⟩:=id (q i _ ei)
   subst ev
   refine⟨_,hvi,G0,H0,G1,δ,S1,(aj w).mono (λd2 w u2 G2 H2 s2 r2=>?_) λx k=>exD.step k S1.st⟩
   split at w
   .rename_i k
    split at w
    .rename_i j hj
     cases r2
     have S2:=S1.step s2
     have q1:∀i s,δ[i]?=some (some s)->∃v,σ[i]?=some (some v)/\bN X.K Γ H0 G2 H2 O i v s:=λj y e=>by
      obtain⟨v',z1,z2⟩:=q j y e
      exact⟨v',z1,z2.step s2⟩
     have ga:G2 aa=none:=s2.sep aa (by rw[h1];exact λz=>nomatch z) h2
     refine⟨aa,vs,k,j,rfl,rfl,s2.hh _ _ h1,by rw[h5.length];exact hj,w σ G2 _ (S2.write q1 ga h3 h4 hvi ⟨aa,_,rfl,aP,ga,h3,h4,aC.set (r1.mono s2.gg) j (h5.mono s2.gg)⟩)⟩
    .exact False.elim w
   .exact False.elim w
  .exact False.elim w
structure Yl(K:Frag)(Γ:Nat->Option Addr)(G1:Hp)(J:It)(ds:List D):Prop where
 go:∀i H,aO G1 H->i<ds.length->J.go i H
 yld:∀i G H x H' d,aO G1 G->aO G H->J.yld i H x H'->ds[i]?=some d->∃G',Step G H G' H'/\Rep K Γ G' x d
 stop:∀i H,aO G1 H->ds.length<=i->J.stop i H
def tiD(K:Frag)(Γ:Nat->Option Addr)(E:XK)(f:DSt->Out (List D)):TI:=λσ H R=>∃G0 H0 G δ,SR K Γ G0 H0 G H σ δ/\wpO (f δ) (λds=>∀J G' H',Step G H G' H'->Yl K Γ G' J ds->R J H') (exD K Γ E G H)
abbrev DI(X:Cx)(Γ:Nat->Option Addr)(E:XK)(tg iter:Expr)(f:DSt->Out (List D)):Prop:=PI X tg iter (tiD X.K Γ E f)
theorem PI.imp{tg iter:Expr}{t t':TI}(h:PI X tg iter t)(k:∀σ H R,t' σ H R->t σ H R):PI X tg iter t':=λpins s σ H R I q=>h pins s σ H R I (k _ _ _ q)
theorem Od{K:Frag}{G:Hp}{a:Addr}{vs:List V}{ds:List D}(h:SqL K G a vs)(r:aC K Γ G vs ds):Yl K Γ G (Itl K a) ds:=by
 refine⟨λi H s lt=>?_,λi G' H x H' d s s' y e=>?_,λi H s le=>⟨vs,s.seq h,by rw[r.length];exact le⟩⟩
 .obtain⟨v,e,_⟩:=r.get (i:=i) (d:=ds[i]) (by simp[lt])
  exact⟨vs,v,s.seq h,e⟩
 .obtain⟨rfl,y⟩:=y
  obtain⟨v,e1,e2⟩:=r.get e
  have:=y vs ((s.trans s').seq h)
  rw[e1] at this
  cases this
  exact⟨G',.refl s',e2.mono s⟩
theorem yl_tup{K:Frag}{G:Hp}{a:Addr}{vs:List V}{ds:List D}(h:SqT K G a vs)(r:aC K Γ G vs ds):Yl K Γ G (Itt K a) ds:=by
 refine⟨λi H s lt=>?_,λi G' H x H' d s s' y e=>?_,λi H s le=>⟨vs,SqT.same s h,by rw[r.length];exact le⟩⟩
 .obtain⟨v,e,_⟩:=r.get (i:=i) (d:=ds[i]) (by simp[lt])
  exact⟨vs,v,SqT.same s h,e⟩
 .obtain⟨rfl,y⟩:=y
  obtain⟨v,e1,e2⟩:=r.get e
  have:=y vs (SqT.same (s.trans s') h)
  rw[e1] at this
  cases this
  exact⟨G',.refl s',e2.mono s⟩
theorem pi_or{tg iter:Expr}{w w':TI}(h:PI X tg iter w)(h':PI X tg iter w'):PI X tg iter (λσ H R=>w σ H R∨w' σ H R):=λpins s σ H R I q=>by
 rcases q with q | q
 .exact h pins s σ H R I q
 .exact h' pins s σ H R I q
theorem tL{tg:Expr}(ha:DE X Γ E a fa):DI X Γ E tg a (jR fa):=PI.imp (pi_or (pi_list ha) (pi_tup ha)) λσ H R ⟨G0,H0,G,δ,S,w⟩=>by
 unfold jR at w
 cases h:fa δ with
 | stuck=>rw[h] at w;exact False.elim w
 | ex x=>rw[h] at w;exact .inl ⟨G0,H0,G,δ,S,by rw[h];exact w⟩
 | ok d =>
  rw[h] at w
  obtain⟨ds,e,k⟩:=bc w
  cases d <;> simp only[jt] at e <;> cases e
  .refine .inl ⟨G0,H0,G,δ,S,?_⟩
   rw[h]
   intro v G1 H1 s1 r1
   cases r1 with
   | lst h r=>exact⟨_,rfl,⟨_,SqL.of (s1.gh _ _ h)⟩,k _ G1 H1 s1 (Od (SqL.of h) r)⟩
  .refine .inr ⟨G0,H0,G,δ,S,?_⟩
   rw[h]
   intro v G1 H1 s1 r1
   cases r1 with
   | tup h r=>exact⟨_,rfl,⟨_,SqT.of (s1.gh _ _ h)⟩,k _ G1 H1 s1 (yl_tup (SqT.of h) r)⟩
  .refine .inl ⟨G0,H0,G,δ,S,?_⟩
   rw[h]
   intro v G1 H1 s1 r1
   cases r1 with
   | rol h r=>exact⟨_,rfl,⟨_,s1.gh.seq h⟩,k _ G1 H1 s1 (Od h r)⟩
  .refine .inr ⟨G0,H0,G,δ,S,?_⟩
   rw[h]
   intro v G1 H1 s1 r1
   cases r1 with
   | rot h r=>exact⟨_,rfl,⟨_,SqT.same s1.gh h⟩,k _ G1 H1 s1 (yl_tup h r)⟩
def yh(lo:Int)(n:Nat):List D:=(List.range n).map λi=>.int (lo+(i:Nat))
theorem yl_rng{K:Frag}{G:Hp}{lo:Int}{n:Nat}:Yl K Γ G (Itr lo n) (yh lo n):=by
 have hl:(yh lo n).length=n:=by simp[yh]
 refine⟨λi H s lt=>by rw[hl] at lt;exact lt,λi G' H x H' d s s' y e=>?_,λi H s le=>by rw[hl] at le;exact le⟩
 obtain⟨rfl,rfl⟩:=y
 unfold yh at e
 rw[List.getElem?_map] at e
 obtain⟨j,e1,e2⟩:=Option.map_eq_some_iff.mp e
 obtain⟨lt,e3⟩:=List.getElem?_eq_some_iff.mp e1
 rw[List.getElem_range] at e3
 subst e2 e3
 exact⟨G',.refl s',.int _⟩
def yg(f:DSt->Out D):DSt->Out (List D):=λδ=>(f δ).bind λd=>match d with
 | .int j=>if -(2 ^ 62)<=j/\j<2 ^ 62 then .ok (yh 0 j.toNat) else .stuck
 | _=>.stuck
theorem dW{tg:Expr}{p:Pos}(hg:Gl X "range")(hm:X.mg "range"=none)(ha:DE X Γ E a fa)(hs:starEach [a] X.env=[(false,eval a X.env)]:=by rfl):DI X Γ E tg (.Call (.Name "range" p) [a] [] pos) (yg fa) :=
 PI.imp (Py hg hm (aX ha bL (by rw[hs];rfl)) hs) λσ H R ⟨G0,H0,G,δ,S,w⟩=>by
  refine⟨G0,H0,G,δ,S,(aj w).mono (λd w v G1 H1 s1 r1=>?_) λ_ k=>k⟩
  split at w
  .split at w
   .rename_i h;cases r1;exact⟨_,rfl,h.1,h.2,w _ G1 H1 s1 yl_rng⟩
   .exact False.elim w
  .exact False.elim w
def rng2(f f':DSt->Out D):DSt->Out (List D):=λδ=>(f δ).bind λd=>(f' δ).bind λd'=>match d,d' with
 | .int i,.int j=>if -(2 ^ 62)<=i/\i<2 ^ 62/\-(2 ^ 62)<=j/\j<2 ^ 62 then .ok (yh i (j - i).toNat) else .stuck
 | _,_=>.stuck
theorem Dd{tg:Expr}{p:Pos}(hg:Gl X "range")(hm:X.mg "range"=none)(ha:DE X Γ E a fa)(hb:DE X Γ E b fb)(hh:∀{ta:TA},PA X [a,b] ta->PI X tg (.Call (.Name "range" p) [a,b] [] pos) (iRng2 ta))(hs:starEach [a,b] X.env=(false,eval a X.env)::starEach [b] X.env:=by rfl)(hs2:starEach [b] X.env=[(false,eval b X.env)]:=by rfl):DI X Γ E tg (.Call (.Name "range" p) [a,b] [] pos) (rng2 fa fb) :=
 PI.imp (hh (aX ha (aX hb bL (by rw[hs2];rfl)) hs)) λσ H R ⟨G0,H0,G,δ,S,w⟩=>by
  refine⟨G0,H0,G,δ,S,(aj w).mono (λd w v G1 H1 s1 r1=>?_) λ_ k=>k⟩
  refine⟨G0,H0,G1,δ,S.step s1,(aj w).mono (λd' w v' G2 H2 s2 r2=>?_) λ_ k=>k.step s1⟩
  split at w
  .split at w
   .rename_i h;cases r1;cases r2;exact⟨_,_,rfl,h,w _ G2 H2 (s1.trans s2) yl_rng⟩
   .exact False.elim w
  .exact False.elim w
def p6:Nat->List D->List D
 | _,[]=>[]
 | n,d::ds=>.tup [.int n,d]::p6 (n+1) ds
theorem Dg:∀(ds:List D)(n i:Nat),(p6 n ds)[i]?=(ds[i]?).map λd=>.tup [.int ((n+i:Nat):Int),d]
 | [],n,i=>by simp[p6]
 | d::ds,n,0=>by simp[p6]
 | d::ds,n,i+1=>by
  have:=Dg ds (n+1) i
  simp only[p6,List.getElem?_cons_succ]
  rw[this]
  congr 1
  funext d
  congr 2
  simp only[List.cons.injEq,D.int.injEq,and_true]
  omega
theorem Dh(ds:List D):∀n,(p6 n ds).length=ds.length:=by
 induction ds with
 | nil=>intro n;rfl
 | cons d ds ih=>intro n;simp[p6,ih]
theorem Oc{K:Frag}{G:Hp}{a:Addr}{vs:List V}{ds:List D}(h:SqL K G a vs)(r:aC K Γ G vs ds):Yl K Γ G (Ite K a) (p6 0 ds):=by
 refine⟨λi H s lt=>?_,λi G' H x H' d s s' y e=>?_,λi H s le=>⟨vs,s.seq h,by rw[Dh] at le;rw[r.length];exact le⟩⟩
 .rw[Dh] at lt
  obtain⟨v,e,_⟩:=r.get (i:=i) (d:=ds[i]) (by simp[lt])
  exact⟨vs,v,s.seq h,e⟩
 .obtain⟨p,x0,rfl,hp,rfl,y⟩:=y
  rw[Dg] at e
  obtain⟨d0,e0,rfl⟩:=Option.map_eq_some_iff.mp e
  obtain⟨v,e1,e2⟩:=r.get e0
  have:=y vs ((s.trans s').seq h)
  rw[e1] at this
  cases this
  refine⟨_,.new s' hp,.tup aP (.cons ?_ (.cons ((e2.mono s).mono (aO.up (aD s' hp))) .nil))⟩
  rw[Nat.zero_add]
  exact .int _
def iI:D->Option (List D)
 | .lst xs=>some xs
 | .rol xs=>some xs
 | _=>none
def enum(f:DSt->Out D):DSt->Out (List D):=λδ=>(f δ).bind λd=>(Out.opt (iI d)).bind λds=>.ok (p6 0 ds)
theorem yx{es':List Expr}{kk:Nat}{tp p:Pos}(hg:Gl X "enumerate")(hm:X.mg "enumerate"=none)(ha:DE X Γ E a fa)(hs:starEach [a] X.env=[(false,eval a X.env)]:=by rfl):DI X Γ E (.Tuple es' kk tp) (.Call (.Name "enumerate" p) [a] [] pos) (enum fa) :=
 PI.imp (pi_enum hg hm (aX ha bL (by rw[hs];rfl)) hs) λσ H R ⟨G0,H0,G,δ,S,w⟩=>by
  refine⟨G0,H0,G,δ,S,(aj w).mono (λd w v G1 H1 s1 r1=>?_) λ_ k=>k⟩
  obtain⟨ds,e,w⟩:=bc (aj w)
  unfold iI at e
  split at e
  .cases e
   cases r1 with
   | lst h r=>exact⟨_,rfl,⟨_,SqL.of (s1.gh _ _ h)⟩,w _ G1 H1 s1 (Oc (SqL.of h) r)⟩
  .cases e
   cases r1 with
   | rol h r=>exact⟨_,rfl,⟨_,s1.gh.seq h⟩,w _ G1 H1 s1 (Oc h r)⟩
  .cases e
def xU(tg:D->DSt->Option DSt)(body:DSt->Out Fl):List D->DSt->Out Fl
 | [],δ=>.ok (.nx δ)
 | d::ds,δ=>(Out.opt (tg d δ)).bind λδ1=>(body δ1).bind λfl=>match fl with
  | .nx δ2=>xU tg body ds δ2
  | .ct δ2=>xU tg body ds δ2
  | .bk δ2=>.ok (.nx δ2)
  | fl=>.ok fl
def nG(fi:DSt->Out (List D))(tg:D->DSt->Option DSt)(body:DSt->Out Fl):DSt->Out Fl:=λδ=>(fi δ).bind λds=>xU tg body ds δ
def un2(H0 G1:Hp):Hp:=λb=>match H0 b with
 | some o=>some o
 | none=>G1 b
theorem cQ{H0 G1:Hp}{b:Addr}:un2 H0 G1 b=none↔H0 b=none/\G1 b=none:=by
 unfold un2
 cases h:H0 b <;> simp
theorem KN{H0 G1:Hp}{b:Addr}{o:HO}(h:un2 H0 G1 b=some o):H0 b=some o∨G1 b=some o:=by
 unfold un2 at h
 cases h0:H0 b with
 | none=>rw[h0] at h;exact .inr h
 | some u=>rw[h0] at h;exact .inl h
theorem Inner.reH{K:Frag}{H0 H0' G H:Hp}{O:Addr->Option Nat}{i:Nat}(k:∀b,H0 b=none->G b=none->H0' b=none):∀{vs:List V}{dss:List (List D)},Inner K Γ H0 G H O i vs dss->Inner K Γ H0' G H O i vs dss
 | _,_,.nil=>.nil
 | _,_,.cons h g h0 o r n t=>.cons h g (k _ h0 g) o r n (Inner.reH k t)
theorem bA.reH{K:Frag}{H0 H0' G H:Hp}{O:Addr->Option Nat}{i:Nat}(k:∀b,H0 b=none->G b=none->H0' b=none):∀{vs:List V}{es:List Mx}{bs:List Addr},bA K Γ H0 G H O i vs es bs->bA K Γ H0' G H O i vs es bs
 | _,_,_,.nil=>.nil
 | _,_,_,.own h g h0 o r n t=>.own h g (k _ h0 g) o r n (bA.reH k t)
 | _,_,_,.fix r t=>.fix r (bA.reH k t)
theorem bN.reH{K:Frag}{H0 H0' G H:Hp}{O:Addr->Option Nat}{i:Nat}{v:V}{x:Sl}(h:bN K Γ H0 G H O i v x)(k:∀b,H0 b=none->G b=none->H0' b=none):bN K Γ H0' G H O i v x:=by
 cases x with
 | sh d=>exact h
 | ol ds=>obtain⟨a,vs,e,h1,h2,h3,h4,h5⟩:=h;exact⟨a,vs,e,h1,h2,k _ h3 h2,h4,h5⟩
 | oll ds=>obtain⟨a,vs,e,h1,h2,h3,h4,h5,h6⟩:=h;exact⟨a,vs,e,h1,h2,k _ h3 h2,h4,h5,h6.reH k⟩
 | od ds=>obtain⟨a,vs,e,h1,h2,h3,h4,h5⟩:=h;exact⟨a,vs,e,h1,h2,k _ h3 h2,h4,h5⟩
 | odT ds=>obtain⟨a,vs,e,h1,h2,h3,h4,h5⟩:=h;exact⟨a,vs,e,h1,h2,k _ h3 h2,h4,h5⟩
 | omx ds=>obtain⟨a,vs,bs,e,h1,h2,h3,h4,h5,h6⟩:=h;exact⟨a,vs,bs,e,h1,h2,k _ h3 h2,h4,h5,h6.reH k⟩
theorem SR.later{K:Frag}{G0 H0 G1 H1 G H:Hp}{σ:L2.St}{δ:DSt}(s1:Step G0 H0 G1 H1)(S:SR K Γ G0 H0 G H σ δ)(s:aO G1 G):SR K Γ G1 (un2 H0 G1) G H σ δ:=by
 refine⟨⟨s,λb o e=>?_,S.st.gh,λb hb g=>?_⟩,S.len,?_⟩
 .rcases KN e with e | e
  .exact S.st.hh _ _ e
  .exact S.st.gh _ _ (s _ _ e)
 .have h0:H0 b≠none:=λz=>hb (cQ.mpr ⟨z,g⟩)
  exact S.st.sep b h0 (s1.gg.free g)
 .obtain⟨O,q⟩:=S.sl
  refine⟨O,λi x e=>?_⟩
  obtain⟨v,h1,h2⟩:=q i x e
  exact⟨v,h1,h2.reH λb z g=>cQ.mpr ⟨z,s.free g⟩⟩
theorem Step.back{G0 H0 G1 H1 G H:Hp}(s1:Step G0 H0 G1 H1)(s:Step G1 (un2 H0 G1) G H):Step G0 H0 G H :=
 ⟨s1.gg.trans s.gg,λb o e=>s.hh _ _ (by unfold un2;rw[e]),s.gh,λb hb g=>s.sep b (λz=>hb (cQ.mp z).1) (s1.sep b hb g)⟩
theorem SR.back{K:Frag}{G0 H0 G1 H1 G H:Hp}{σ:L2.St}{δ:DSt}(s1:Step G0 H0 G1 H1)(S:SR K Γ G1 (un2 H0 G1) G H σ δ):SR K Γ G0 H0 G H σ δ:=by
 refine⟨s1.back S.st,S.len,?_⟩
 obtain⟨O,q⟩:=S.sl
 refine⟨O,λi x e=>?_⟩
 obtain⟨v,h1,h2⟩:=q i x e
 exact⟨v,h1,h2.reH λb z _=>(cQ.mp z).1⟩
theorem ds_for{tg iter:Expr}{body:List Stmt}{fi:DSt->Out (List D)}{t:D->DSt->Option DSt}(hh:∀{wi:TI} {g:TG} {tb:TS},PI X tg iter wi->PG X tg g->PSs X body tb->PS X (.For tg iter body [] pos) (tFor wi g tb))(hi:DI X Γ E tg iter fi)(hg:DG X Γ tg t)(hb:DSs X Γ E body g):
  DS X Γ E (.For tg iter body [] pos) (nG fi t g):=PS.imp (hh hi hg hb) λN σ H ⟨G0,H0,G,δ,S,w⟩=>by
 refine⟨G0,H0,G,δ,S,(aj w).mono (λds w J G1 H1 s1 Y=>?_) λx k=>exD.step k S.st⟩
 have sb:Step G0 H0 G1 H1:=S.st.trans s1
 refine⟨λi m σ H=>∃G δ,SR X.K Γ G0 H0 G H σ δ/\aO G1 G/\m=ds.length - i/\i<=ds.length/\wpO (xU t g (ds.drop i) δ) (FlOk X.K Γ G0 H0 N) (exD X.K Γ E G0 H0),⟨_,G1,δ,S.step s1,aO.refl _,rfl,Nat.zero_le _,w⟩,?_⟩
 rintro i m σ H ⟨G2,δ2,S2,s2,rfl,hi,w⟩
 by_cases lt:i<ds.length
 .refine .inr ⟨Y.go i H (s2.trans S2.st.gh) lt,λσ' H'=>∃G δ,SR X.K Γ G0 H0 G H' σ' δ/\aO G1 G/\wpO (xU t g (ds.drop (i+1)) δ) (FlOk X.K Γ G0 H0 N) (exD X.K Γ E G0 H0),λσ' H' ⟨G',δ',a1,a2,a3⟩=>⟨ds.length - (i+1),by omega,G',δ',a1,a2,rfl,lt,a3⟩,λx H' y=>?_⟩
  obtain⟨G3,s3,r3⟩:=Y.yld i G2 H x H' ds[i] s2 S2.st.gh y (by simp[lt])
  rw[List.drop_eq_getElem_cons lt] at w
  obtain⟨δ3,e3,w⟩:=bc (aj w)
  have S3:=(S2.step s3).later sb (s2.trans s3.gg)
  refine⟨G1,un2 H0 G1,G3,δ2,ds[i],δ3,S3,r3,e3,λσ4 S4=>?_⟩
  refine⟨G1,un2 H0 G1,G3,δ3,S4,(aj w).mono (λfl w=>?_) λx k a G' H' s' r'=>k a G' H' (sb.back s') r'⟩
  cases fl with
  | nx δ'=>exact λσ' G' H' S'=>⟨G',δ',S'.back sb,S'.st.gg,w⟩
  | ct δ'=>exact λσ' G' H' S'=>⟨G',δ',S'.back sb,S'.st.gg,w⟩
  | bk δ'=>exact λσ' G' H' S'=>w σ' G' H' (S'.back sb)
  | rt d=>exact λv G' H' s' r'=>w v G' H' (sb.back s') r'
  | rl d=>exact λa vs G' H' s' f h g r=>w a vs G' H' (sb.back s') (cQ.mp f).1 h g r
  | rll d=>exact λa vs G' H' s' f h g n r=>w a vs G' H' (sb.back s') (cQ.mp f).1 h g n (r.reF λb z=>(cQ.mp z).1)
 .obtain rfl:i=ds.length:=by omega
  rw[List.drop_length] at w
  exact .inl ⟨Y.stop _ H (s2.trans S2.st.gh) (Nat.le_refl _),w σ G2 H S2⟩
def vZ(cap:List (Option Nat))(δ:DSt):DSt:=cap.map λo=>match o with
 | none=>none
 | some j=>match δ[j]? with
  | some (some (.sh d))=>some (.sh d)
  | _=>none
def sG{α:Type}(tg:D->DSt->Option DSt)(t:DSt->Out Bool)(fe:DSt->Out α):List D->DSt->Out (List α)
 | [],_=>.ok []
 | d::ds,δ=>(Out.opt (tg d δ)).bind λδ1=>(t δ1).aY.bind λk=>if k=true then (fe δ1).aY.bind λy=>(sG tg t fe ds δ1).bind λys=>.ok (y::ys) else sG tg t fe ds δ1
def gq{α:Type}(cap:List (Option Nat))(fi:DSt->Out (List D))(tg:D->DSt->Option DSt)(t:DSt->Out Bool)(fe:DSt->Out α):DSt->Out (List α):=λδ=>(fi δ).bind λds=>if ds.length<sizeLine then sG tg t fe ds (vZ cap δ) else .stuck
abbrev DTs(X:Cx)(Γ:Nat->Option Addr)(E:XK)(ifs:List Expr)(f:DSt->Out Bool):Prop:=yU X ifs (ttD X.K Γ E f)
theorem gP:DTs X Γ E [] (λ_=>.ok true):=λpins s σ H Q I ⟨G0,H0,G,δ,S,w⟩=>pf_nil pins s σ H Q I (w G H (.refl S.st.gh))
theorem SR.cap{K:Frag}{G0 H0 G H:Hp}{σ:L2.St}{δ:DSt}(S:SR K Γ G0 H0 G H σ δ)(cap:List (Option Nat)):SR K Γ G H G H (capS cap σ) (vZ cap δ):=by
 refine⟨.refl S.st.gh,by simp[capS,vZ],λ_=>none,λi x e=>?_⟩
 obtain⟨O,q⟩:=S.sl
 unfold vZ at e
 rw[List.getElem?_map] at e
 obtain⟨o,e1,e2⟩:=Option.map_eq_some_iff.mp e
 cases o with
 | none=>cases e2
 | some j =>
  dsimp only at e2
  split at e2
  .rename_i d ej
   cases e2
   obtain⟨v,h1,h2⟩:=q j _ ej
   exact⟨v,by unfold capS;rw[List.getElem?_map,e1];simp[h1],h2⟩
  .cases e2
def CK(δ:DSt):Prop:=∀(i:Nat) x,δ[i]?=some (some x)->∃d,x=.sh d
def ShT(t:D->DSt->Option DSt):Prop:=∀d δ δ',t d δ=some δ'->CK δ->CK δ'
theorem sh_cap(cap:List (Option Nat))(δ:DSt):CK (vZ cap δ):=λi x e=>by
 unfold vZ at e
 rw[List.getElem?_map] at e
 obtain⟨o,e1,e2⟩:=Option.map_eq_some_iff.mp e
 cases o with
 | none=>cases e2
 | some j =>
  dsimp only at e2
  split at e2
  .cases e2;exact⟨_,rfl⟩
  .cases e2
theorem sh_n(i:Nat):ShT (gN i):=λd δ δ' e h j x ej=>by
 cases e
 rw[List.getElem?_set] at ej
 split at ej
 .split at ej
  .cases ej;exact⟨_,rfl⟩
  .cases ej
 .exact h j x ej
theorem SR.beside{K:Frag}{G0 H0 G H:Hp}{σ:L2.St}{δ:DSt}(S:SR K Γ G0 H0 G H σ δ)(sh:CK δ){a:Addr}{o:HO}(g:G a=none)(h0:H0 a=none):SR K Γ G0 H0 G (upd H a o) σ δ:=by
 have sx:=S.st
 refine⟨⟨sx.gg,λb u e=>by rw[aN (aJ e h0)];exact sx.hh _ _ e,λb u e=>by rw[aN (aJ e g)];exact sx.gh _ _ e,sx.sep⟩,S.len,?_⟩
 obtain⟨O,q⟩:=S.sl
 refine⟨O,λi x e=>?_⟩
 obtain⟨d,rfl⟩:=sh i x e
 exact q i _ e
theorem wU{cap:List (Option Nat)}{fi:DSt->Out (List D)}{t:D->DSt->Option DSt}{ft:DSt->Out Bool}{fe:DSt->Out D}(sh:ShT t)(σ:L2.St)(H:Hp)(Q:VK):tfD X.K Γ E (gq cap fi t ft fe) σ H Q->xG cap (tiD X.K Γ E fi) (tgD X.K Γ t) (ttD X.K Γ E0 ft) (teD X.K Γ E0 fe) σ H Q:=λ⟨G0,H0,G,δ,S,w⟩=>by
 refine⟨G0,H0,G,δ,S,(aj w).mono (λds w J G1 H1 s1 Y=>?_) λx k=>k⟩
 by_cases hz:ds.length<sizeLine
 .rw[if_pos hz] at w
  intro acc hacc
  have Sc:=(S.step s1).cap cap
  refine⟨λi m ys τ H=>∃G δ done,Step G1 H1 G H/\SR X.K Γ G1 H1 G H τ δ/\CK δ/\H acc=some (.lst ys)/\G acc=none/\aC X.K Γ G ys done/\m=ds.length - i/\i<=ds.length/\ys.length<=i /\
   wpO (sG t ft fe (ds.drop i) δ) (λrest=>∀G' H' vs,Step G1 H1 G' H'->H' acc=some (.lst vs)->G' acc=none->aC X.K Γ G' vs (done++rest)->Q (.ref acc) H') (λ_=>True),?_,?_⟩
  .have g1:G1 acc=none:=aD s1.gh hacc
   have st:=Step.aside s1.gh (o:=.lst []) hacc
   refine⟨_,G1,_,[],st,Sc.step st,sh_cap _ _,aP,g1,.nil,rfl,Nat.zero_le _,Nat.le_refl _,w.mono (λrest k G' H' vs s' h' g' r'=>k acc vs G' H' (s1.trans s') (aD s1.hh hacc) h' g' r') λ_ _=>trivial⟩
  .rintro i m ys τ H ⟨G2,δ2,done,st,S2,sh2,h2,g2,r2,rfl,hi,hl,w⟩
   refine⟨h2,Nat.lt_of_le_of_lt (Nat.le_trans hl hi) hz,?_⟩
   by_cases lt:i<ds.length
   .refine .inr ⟨Y.go i H (st.gg.trans st.gh) lt,λx H' y=>?_⟩
    obtain⟨G3,s3,r3⟩:=Y.yld i G2 H x H' ds[i] st.gg st.gh y (by simp[lt])
    rw[List.drop_eq_getElem_cons lt] at w
    obtain⟨δ3,e3,w⟩:=bc (aj w)
    refine⟨G1,H1,G3,δ2,ds[i],δ3,S2.step s3,r3,e3,λσ4 S4=>?_⟩
    have w:=cY (R':=exD X.K Γ E0 G3 H') (aj w)
    refine⟨G1,H1,G3,δ3,S4,w.mono (λk w G5 H5 s5=>?_) λ_ k=>k⟩
    have s25:=s3.trans s5
    have sh3:=sh _ _ _ e3 sh2
    cases k with
    | false =>
     rw[if_neg Bool.false_ne_true] at w
     dsimp only
     rw[if_neg Bool.false_ne_true]
     exact⟨_,Nat.sub_lt_sub_left lt (Nat.lt_succ_self i),G5,δ3,done,st.trans s25,S4.step s5,sh3,s25.hh _ _ h2,s25.sep acc (by rw[h2];exact λz=>nomatch z) g2,r2.mono s25.gg,rfl,lt,Nat.le_succ_of_le hl,w⟩
    | true =>
     rw[if_pos rfl] at w
     dsimp only
     rw[if_pos rfl]
     have w:=cY (R':=exD X.K Γ E0 G5 H5) (aj w)
     refine⟨G1,H1,G5,δ3,S4.step s5,w.mono (λy w v G6 H6 s6 r6=>?_) λ_ k=>k⟩
     have s26:=s25.trans s6
     have h6:=s26.hh _ _ h2
     have g6:G6 acc=none:=s26.sep acc (by rw[h2];exact λz=>nomatch z) g2
     have n1:H1 acc=none:=hacc
     refine⟨h6,_,Nat.sub_lt_sub_left lt (Nat.lt_succ_self i),G6,δ3,done++[y],?_,?_,sh3,aP,g6,(r2.mono s26.gg).append (.cons r6 .nil),rfl,lt,by rw[List.length_append];exact Nat.succ_le_succ hl,?_⟩
     .have sx:=st.trans s26
      exact⟨sx.gg,λb u e=>by rw[aN (aJ e n1)];exact sx.hh _ _ e,λb u e=>by rw[aN (aJ e g6)];exact sx.gh _ _ e,sx.sep⟩
     .exact((S4.step s5).step s6).beside sh3 g6 n1
     .refine(aj w).mono (λrest k G' H' vs s' h' g' r'=>k G' H' vs s' h' g' (by simpa using r')) λ_ k=>k
   .obtain rfl:i=ds.length:=by omega
    rw[List.drop_length] at w
    exact .inl ⟨Y.stop _ H (st.gg.trans st.gh) (Nat.le_refl _),w G2 H ys st h2 g2 (by simpa using r2)⟩
 .rw[if_neg hz] at w
  exact False.elim w
theorem j9{tg iter elt:Expr}{ifs:List Expr}{sc:Scope}{cl:List (Str×Addr)}{N':List Str}{cap:List (Option Nat)}{fi:DSt->Out (List D)}{t:D->DSt->Option DSt}{ft:DSt->Out Bool}{fe:DSt->Out D}
  (hh:∀{wi:TI}{g:TG}{tt:TT}{te:TE},PI X tg iter wi->(∀s₀ H₀ C fp pn,PG (bj X N' sc cl s₀ H₀ C fp pn) tg g)->(∀s₀ H₀ C fp pn,yU (bj X N' sc cl s₀ H₀ C fp pn) ifs tt)->(∀s₀ H₀ C fp pn,PE (bj X N' sc cl s₀ H₀ C fp pn) elt te)->PE X (.ListComp elt [⟨tg,iter,ifs,0⟩] sc pos) (xG cap wi g tt te))
  (hi:DI X Γ E tg iter fi) (sh:ShT t) (hg:∀s₀ H₀ C fp pn,PG (bj X N' sc cl s₀ H₀ C fp pn) tg (tgD X.K Γ t)) (ht:∀s₀ H₀ C fp pn,yU (bj X N' sc cl s₀ H₀ C fp pn) ifs (ttD X.K Γ E0 ft)) (he:∀s₀ H₀ C fp pn,PE (bj X N' sc cl s₀ H₀ C fp pn) elt (teD X.K Γ E0 fe)) :
  DF X Γ E (.ListComp elt [⟨tg,iter,ifs,0⟩] sc pos) (gq cap fi t ft fe):=PE.imp (hh hi hg ht he) (wU sh)
theorem bz.snoc{K:Frag}{H G' H':Hp}{b:Addr}{ws:List V}{ds:List D}(f:H b=none)(h:H' b=some (.lst ws))(g:G' b=none)(r:aC K Γ G' ws ds):∀{vs:List V}{dss:List (List D)},V.ref b∉vs->bz K Γ H G' H' vs dss->bz K Γ H G' H' (vs++[.ref b]) (dss++[ds])
 | _,_,_,.nil=>.cons f h g r (by simp) .nil
 | _,_,m,.cons f' h' g' r' n' t=>.cons f' h' g' r' (λz=>by
   rcases List.mem_append.mp z with z | z
   .exact n' z
   .exact m (by rw[List.mem_singleton.mp z];exact List.mem_cons_self)) (bz.snoc f h g r (λz=>m (List.mem_cons_of_mem _ z)) t)
theorem bz.step{K:Frag}{H G H1 G2 H2:Hp}(s:Step G H1 G2 H2):∀{vs:List V}{dss:List (List D)},bz K Γ H G H1 vs dss->bz K Γ H G2 H2 vs dss
 | _,_,.nil=>.nil
 | _,_,.cons f h g r n t=>.cons f (s.hh _ _ h) (s.sep _ (by rw[h];exact λq=>nomatch q) g) (r.mono s.gg) n (bz.step s t)
theorem bz.updI{K:Frag}{H G' H':Hp}{a:Addr}{o:HO}:∀{vs:List V}{dss:List (List D)},V.ref a∉vs->bz K Γ H G' H' vs dss->bz K Γ H G' (upd H' a o) vs dss
 | _,_,_,.nil=>.nil
 | _,_,m,.cons f h g r n t=>.cons f ((aN λz=>m (by rw[z];exact List.mem_cons_self)).trans h) g r n (bz.updI (λz=>m (List.mem_cons_of_mem _ z)) t)
theorem FN{cap:List (Option Nat)}{fi:DSt->Out (List D)}{t:D->DSt->Option DSt}{ft:DSt->Out Bool}{fe:DSt->Out (List D)}(sh:ShT t)(σ:L2.St)(H:Hp)(Q:VK):tffD X.K Γ E (gq cap fi t ft fe) σ H Q->xG cap (tiD X.K Γ E fi) (tgD X.K Γ t) (ttD X.K Γ E0 ft) (tfD X.K Γ E0 fe) σ H Q:=λ⟨G0,H0,G,δ,S,w⟩=>by
 refine⟨G0,H0,G,δ,S,(aj w).mono (λds w J G1 H1 s1 Y=>?_) λx k=>k⟩
 by_cases hz:ds.length<sizeLine
 .rw[if_pos hz] at w
  intro acc hacc
  have Sc:=(S.step s1).cap cap
  refine⟨λi m ys τ H=>∃G δ done,Step G1 H1 G H/\SR X.K Γ G1 H1 G H τ δ/\CK δ/\H acc=some (.lst ys)/\G acc=none/\V.ref acc∉ys/\bz X.K Γ H1 G H ys done/\m=ds.length - i/\i<=ds.length/\ys.length<=i /\
   wpO (sG t ft fe (ds.drop i) δ) (λrest=>∀G' H' vs,Step G1 H1 G' H'->H' acc=some (.lst vs)->G' acc=none->V.ref acc∉vs->bz X.K Γ H1 G' H' vs (done++rest)->Q (.ref acc) H') (λ_=>True),?_,?_⟩
  .have g1:G1 acc=none:=aD s1.gh hacc
   have st:=Step.aside s1.gh (o:=.lst []) hacc
   refine⟨_,G1,_,[],st,Sc.step st,sh_cap _ _,aP,g1,(by simp),.nil,rfl,Nat.zero_le _,Nat.le_refl _,w.mono (λrest k G' H' vs s' h' g' n' r'=>k acc vs G' H' (s1.trans s') (aD s1.hh hacc) h' g' n' (r'.reF λb z=>aD s1.hh z)) λ_ _=>trivial⟩
  .rintro i m ys τ H ⟨G2,δ2,done,st,S2,sh2,h2,g2,n2,r2,rfl,hi,hl,w⟩
   refine⟨h2,Nat.lt_of_le_of_lt (Nat.le_trans hl hi) hz,?_⟩
   by_cases lt:i<ds.length
   .refine .inr ⟨Y.go i H (st.gg.trans st.gh) lt,λx H' y=>?_⟩
    obtain⟨G3,s3,r3⟩:=Y.yld i G2 H x H' ds[i] st.gg st.gh y (by simp[lt])
    rw[List.drop_eq_getElem_cons lt] at w
    obtain⟨δ3,e3,w⟩:=bc (aj w)
    refine⟨G1,H1,G3,δ2,ds[i],δ3,S2.step s3,r3,e3,λσ4 S4=>?_⟩
    have w:=cY (R':=exD X.K Γ E0 G3 H') (aj w)
    refine⟨G1,H1,G3,δ3,S4,w.mono (λk w G5 H5 s5=>?_) λ_ k=>k⟩
    have s25:=s3.trans s5
    have sh3:=sh _ _ _ e3 sh2
    cases k with
    | false =>
     rw[if_neg Bool.false_ne_true] at w
     dsimp only
     rw[if_neg Bool.false_ne_true]
     exact⟨_,Nat.sub_lt_sub_left lt (Nat.lt_succ_self i),G5,δ3,done,st.trans s25,S4.step s5,sh3,s25.hh _ _ h2,s25.sep acc (by rw[h2];exact λz=>nomatch z) g2,n2,r2.step s25,rfl,lt,Nat.le_succ_of_le hl,w⟩
    | true =>
     rw[if_pos rfl] at w
     dsimp only
     rw[if_pos rfl]
     have w:=cY (R':=exD X.K Γ E0 G5 H5) (aj w)
     refine⟨G1,H1,G5,δ3,S4.step s5,w.mono (λy w bb wv G6 H6 s6 fb hb gb rb=>?_) λ_ k=>k⟩
     have s26:=s25.trans s6
     have h6:=s26.hh _ _ h2
     have g6:G6 acc=none:=s26.sep acc (by rw[h2];exact λz=>nomatch z) g2
     have n1:H1 acc=none:=hacc
     have neb:acc≠bb:=λz=>by
      have:=s25.hh _ _ h2
      rw[z,fb] at this
      cases this
     have nbm:V.ref bb∉ys:=λz=>(r2.step s25).mem bb z |>.2 fb
     have f1:H1 bb=none:=aD ((st.trans s25).hh) fb
     refine⟨h6,_,Nat.sub_lt_sub_left lt (Nat.lt_succ_self i),G6,δ3,done++[y],?_,?_,sh3,aP,g6,(λz=>by
      rcases List.mem_append.mp z with z | z
      .exact n2 z
      .exact neb (V.ref.inj (List.mem_singleton.mp z))),bz.snoc f1 ((aN (Ne.symm neb)).trans hb) gb rb nbm (bz.updI n2 (r2.step s26)),rfl,lt,by rw[List.length_append];exact Nat.succ_le_succ hl,?_⟩
     .have sx:=st.trans s26
      exact⟨sx.gg,λb u e=>by rw[aN (aJ e n1)];exact sx.hh _ _ e,λb u e=>by rw[aN (aJ e g6)];exact sx.gh _ _ e,sx.sep⟩
     .exact((S4.step s5).step s6).beside sh3 g6 n1
     .refine(aj w).mono (λrest k G' H' vs s' h' g' n' r'=>k G' H' vs s' h' g' n' (by simpa using r')) λ_ k=>k
   .obtain rfl:i=ds.length:=by omega
    rw[List.drop_length] at w
    exact .inl ⟨Y.stop _ H (st.gg.trans st.gh) (Nat.le_refl _),w G2 H ys st h2 g2 n2 (by simpa using r2)⟩
 .rw[if_neg hz] at w
  exact False.elim w
theorem dff_comp{tg iter elt:Expr}{ifs:List Expr}{sc:Scope}{cl:List (Str×Addr)}{N':List Str}{cap:List (Option Nat)}{fi:DSt->Out (List D)}{t:D->DSt->Option DSt}{ft:DSt->Out Bool}{fe:DSt->Out (List D)}
  (hh:∀{wi:TI}{g:TG}{tt:TT}{te:TE},PI X tg iter wi->(∀s₀ H₀ C fp pn,PG (bj X N' sc cl s₀ H₀ C fp pn) tg g)->(∀s₀ H₀ C fp pn,yU (bj X N' sc cl s₀ H₀ C fp pn) ifs tt)->(∀s₀ H₀ C fp pn,PE (bj X N' sc cl s₀ H₀ C fp pn) elt te)->PE X (.ListComp elt [⟨tg,iter,ifs,0⟩] sc pos) (xG cap wi g tt te))
  (hi:DI X Γ E tg iter fi) (sh:ShT t) (hg:∀s₀ H₀ C fp pn,PG (bj X N' sc cl s₀ H₀ C fp pn) tg (tgD X.K Γ t)) (ht:∀s₀ H₀ C fp pn,yU (bj X N' sc cl s₀ H₀ C fp pn) ifs (ttD X.K Γ E0 ft)) (he:∀s₀ H₀ C fp pn,PE (bj X N' sc cl s₀ H₀ C fp pn) elt (tfD X.K Γ E0 fe)) :
  DFF X Γ E (.ListComp elt [⟨tg,iter,ifs,0⟩] sc pos) (gq cap fi t ft fe):=PE.imp (hh hi hg ht he) (FN sh)
section
variable{tg iter elt:Expr}{ifs:List Expr}{sc:Scope}{cl:List (Str×Addr)}{N':List Str}{cap:List (Option Nat)}{fi:DSt->Out (List D)}{t:D->DSt->Option DSt}{ft:DSt->Out Bool}{x:Str}{pos' spos:Pos}
theorem ds_setlc(i:Nat){fe:DSt->Out D}
  (hh:∀{wi:TI}{g:TG}{tt:TT}{te:TE},PI X tg iter wi->(∀s₀ H₀ C fp pn,PG (bj X N' sc cl s₀ H₀ C fp pn) tg g)->(∀s₀ H₀ C fp pn,yU (bj X N' sc cl s₀ H₀ C fp pn) ifs tt)->(∀s₀ H₀ C fp pn,PE (bj X N' sc cl s₀ H₀ C fp pn) elt te)->PS X (.Assign [.Name x pos'] (.ListComp elt [⟨tg,iter,ifs,0⟩] sc pos) spos) (tAsg (xG cap wi g tt te) (xg i)))
  (hi:DI X Γ E tg iter fi) (sh:ShT t) (hg:∀s₀ H₀ C fp pn,PG (bj X N' sc cl s₀ H₀ C fp pn) tg (tgD X.K Γ t)) (ht:∀s₀ H₀ C fp pn,yU (bj X N' sc cl s₀ H₀ C fp pn) ifs (ttD X.K Γ E0 ft)) (he:∀s₀ H₀ C fp pn,PE (bj X N' sc cl s₀ H₀ C fp pn) elt (teD X.K Γ E0 fe)) :
  DS X Γ E (.Assign [.Name x pos'] (.ListComp elt [⟨tg,iter,ifs,0⟩] sc pos) spos) (iR i (gq cap fi t ft fe)):=PS.imp (hh hi hg ht he) λN σ H ⟨G0,H0,G,δ,S,w⟩=>wU sh _ _ _
 ⟨G0,H0,G,δ,S,(aj w).mono (λd w a vs G1 H1 s1 f h g r=>w _ G1 H1 (S.setl s1 f h g r)) λx k=>exD.step k S.st⟩
end
end
end DL
namespace DL
open PySem PySem.Spec PyProof.Rows MX L2
def dN(n:Nat)(ds:List D):DSt:=ds.map (λd=>some (.sh d))++List.replicate (n - ds.length) none
def uz:Fl->Out D
 | .nx _=>.ok .non
 | .rt d=>.ok d
 | .rl ds=>.ok (.lst ds)
 | .rll dss=>.ok (.lst (dss.map .lst))
 | _=>.stuck
def endF:Fl->Out (List D)
 | .rl ds=>.ok ds
 | _=>.stuck
def endFF:Fl->Out (List (List D))
 | .rll ds=>.ok ds
 | _=>.stuck
def cg(n:Nat)(g:DSt->Out Fl)(ds:List D):Out D:=(g (dN n ds)).bind uz
def runL(n:Nat)(g:DSt->Out Fl)(ds:List D):Out (List D):=(g (dN n ds)).bind endF
def runLL(n:Nat)(g:DSt->Out Fl)(ds:List D):Out (List (List D)):=(g (dN n ds)).bind endFF
def spF(K:Frag)(Γ:Nat->Option Addr)(n:Nat)(F:List D->Out (List D)):Sp:=λvs H Q E=>vs.length=n/\∃G ds,aO G H/\aC K Γ G vs ds/\wpO (F ds) (okF K Γ G H Q) (exD K Γ E G H)
def spFF(K:Frag)(Γ:Nat->Option Addr)(n:Nat)(F:List D->Out (List (List D))):Sp:=λvs H Q E=>vs.length=n/\∃G ds,aO G H/\aC K Γ G vs ds/\wpO (F ds) (okFF K Γ G H Q) (exD K Γ E G H)
def spD(K:Frag)(Γ:Nat->Option Addr)(n:Nat)(F:List D->Out D):Sp:=λvs H Q E=>vs.length=n/\∃G ds,aO G H/\aC K Γ G vs ds/\wpO (F ds) (okD K Γ G H Q) (exD K Γ E G H)
theorem SR.yK{K:Frag}{Γ:Nat->Option Addr}{G H:Hp}{vs:List V}{ds:List D}{N:List Str}(s:aO G H)(r:aC K Γ G vs ds):SR K Γ G H G H (L2.start N vs) (dN N.length ds):=by
 refine⟨.refl s,by simp[dN,L2.start,r.length],λ_=>none,λi x e=>?_⟩
 unfold dN at e
 by_cases h:i<ds.length
 .rw[List.getElem?_append_left (by simpa using h),List.getElem?_map] at e
  obtain⟨d,e1,e2⟩:=Option.map_eq_some_iff.mp e
  cases e2
  obtain⟨v,h1,h2⟩:=r.get e1
  refine⟨v,?_,h2⟩
  unfold L2.start
  rw[List.getElem?_append_left (by rw[List.length_map,r.length];exact h),List.getElem?_map,h1]
  rfl
 .rw[List.getElem?_append_right (by simpa using h),List.getElem?_replicate] at e
  split at e <;> cases e
theorem frz_rl{K:Frag}{Γ:Nat->Option Addr}{G H:Hp}{Q:VK}{ds:List D}(q:okD K Γ G H Q (.lst ds)):okF K Γ G H Q ds:=λa vs G1 H1 s1 f h g r=>by
 have hp:∀b,decide (b=a)=true->G1 b=none/\H b=none:=λb z=>by obtain rfl:=of_decide_eq_true z;exact⟨g,f⟩
 exact q _ _ H1 (s1.frz (λb=>decide (b=a)) hp) (.lst (by unfold dG;rw[if_pos (by simp)];exact h) (r.mono (dH λb z=>(hp b z).1)))
theorem Nu{K:Frag}{Γ:Nat->Option Addr}{G H:Hp}{Q:VK}{dss:List (List D)}(q:okD K Γ G H Q (.lst (dss.map .lst))):okFF K Γ G H Q dss:=λa vs G1 H1 s1 f h g n r=>by
 have hp:∀b,decide (b=a∨V.ref b∈vs)=true->G1 b=none/\H b=none:=λb z=>by
  rcases of_decide_eq_true z with z | z
  .subst z;exact⟨g,f⟩
  .exact⟨r.gnone b z,(r.mem b z).1⟩
 exact q _ _ H1 (s1.frz (λb=>decide (b=a∨V.ref b∈vs)) hp) (.lst (by unfold dG;rw[if_pos (by simp)];exact h) (bz.frozen (G0:=G) (dH λb z=>(hp b z).1) (λb hb=>by simp[hb]) r))
section
variable{P:Program}{w:World}{K:Frag}{mg:Str->Option Value}{base:Heap}{Γ:Nat->Option Addr}
theorem Fun.okD{x qual:Str}{st:Stmt}{f:Addr}{fd:FuncData}{N ps:List Str}{k:Nat}{g:DSt->Out Fl}(F:L2.Fun K x qual st f fd)(S:aF N ps (aq st))
  (h:∀(cdv:Value)(A:Around)(outer:List Env)(s:Shared)(H:Hp)(E:XK),cT k (A.deeper (envOfC qual (aq st) s.heap.objs.size f cdv))->DSs (xT CX0 P w K mg base N qual (aq st) f cdv A outer s H E).nox Γ E0 (cU st) g) :
  bO P w K mg base CX0 (k+1) f fd ps (spD K Γ ps.length λds=>(cg N.length g ds).aY) :=
 L2.Fun.ok F S (λvs H Q E h=>h.1) λcdv A outer s H vs Q E hr ⟨hl,G,ds,sg,r,q⟩=>by
  refine⟨_,h cdv A outer s H E hr,G,H,G,dN N.length ds,SR.yK sg r,(aj (cY (R':=exD K Γ E0 G H) q)).mono (λfl q=>?_) λ_ k=>k⟩
  cases fl with
  | nx δ=>exact λσ G' H' S'=>q _ G' H' S'.st .non
  | rt d=>exact λv G' H' s' r'=>q v G' H' s' r'
  | bk δ=>exact False.elim q
  | ct δ=>exact False.elim q
  | rl ds=>exact frz_rl q
  | rll dss=>exact Nu q
theorem Fun.okF{x qual:Str}{st:Stmt}{f:Addr}{fd:FuncData}{N ps:List Str}{k:Nat}{g:DSt->Out Fl}(F:L2.Fun K x qual st f fd)(S:aF N ps (aq st))
  (h:∀(cdv:Value)(A:Around)(outer:List Env)(s:Shared)(H:Hp)(E:XK),cT k (A.deeper (envOfC qual (aq st) s.heap.objs.size f cdv))->DSs (xT CX0 P w K mg base N qual (aq st) f cdv A outer s H E).nox Γ E0 (cU st) g) :
  bO P w K mg base CX0 (k+1) f fd ps (spF K Γ ps.length λds=>(runL N.length g ds).aY) :=
 L2.Fun.ok F S (λvs H Q E h=>h.1) λcdv A outer s H vs Q E hr ⟨hl,G,ds,sg,r,q⟩=>by
  refine⟨_,h cdv A outer s H E hr,G,H,G,dN N.length ds,SR.yK sg r,(aj (cY (R':=exD K Γ E0 G H) q)).mono (λfl q=>?_) λ_ k=>k⟩
  cases fl with
  | rl ds=>exact λa vs G' H' s f h g r=>q a vs G' H' s f h g r
  | _=>exact False.elim q
theorem Fun.okFF{x qual:Str}{st:Stmt}{f:Addr}{fd:FuncData}{N ps:List Str}{k:Nat}{g:DSt->Out Fl}(F:L2.Fun K x qual st f fd)(S:aF N ps (aq st))
  (h:∀(cdv:Value)(A:Around)(outer:List Env)(s:Shared)(H:Hp)(E:XK),cT k (A.deeper (envOfC qual (aq st) s.heap.objs.size f cdv))->DSs (xT CX0 P w K mg base N qual (aq st) f cdv A outer s H E).nox Γ E0 (cU st) g) :
  bO P w K mg base CX0 (k+1) f fd ps (spFF K Γ ps.length λds=>(runLL N.length g ds).aY) :=
 L2.Fun.ok F S (λvs H Q E h=>h.1) λcdv A outer s H vs Q E hr ⟨hl,G,ds,sg,r,q⟩=>by
  refine⟨_,h cdv A outer s H E hr,G,H,G,dN N.length ds,SR.yK sg r,(aj (cY (R':=exD K Γ E0 G H) q)).mono (λfl q=>?_) λ_ k=>k⟩
  cases fl with
  | rll ds=>exact λa vs G' H' s f h g n r=>q a vs G' H' s f h g n r
  | _=>exact False.elim q
theorem okF_D{CX:CXT}{k n:Nat}{f:Addr}{fd:FuncData}{ps:List Str}{F:List D->Out (List D)}(h:bO P w K mg base CX k f fd ps (spF K Γ n F)):bO P w K mg base CX k f fd ps (spD K Γ n λds=>(F ds).bind λxs=>.ok (.lst xs)) :=
 h.imp λvs H Q E ⟨hl,G,ds,sg,r,q⟩=>⟨hl,G,ds,sg,r,(aj q).mono (λxs q=>frz_rl q) λ_ k=>k⟩
theorem okFF_D{CX:CXT}{k n:Nat}{f:Addr}{fd:FuncData}{ps:List Str}{F:List D->Out (List (List D))}(h:bO P w K mg base CX k f fd ps (spFF K Γ n F)):bO P w K mg base CX k f fd ps (spD K Γ n λds=>(F ds).bind λxs=>.ok (.lst (xs.map .lst))) :=
 h.imp λvs H Q E ⟨hl,G,ds,sg,r,q⟩=>⟨hl,G,ds,sg,r,(aj q).mono (λxs q=>Nu q) λ_ k=>k⟩
end
section
variable{X:Cx}{Γ:Nat->Option Addr}{E:XK}{e a b c o:Expr}{pos apos:Pos}{es:List Expr}{fa fb fo:DSt->Out D}{fr:DSt->Out (List D)}{CX:CXT}
def oF(n:Nat)(F:List D->Out D)(fr:DSt->Out (List D)):DSt->Out D:=λδ=>(fr δ).bind λds=>if ds.length=n then F ds else .stuck
theorem dcall{n:Nat}{F:List D->Out D}(h:PE X e (DQ (spD X.K Γ n F) [] E (taD X.K Γ E fr))):DE X Γ E e (oF n F fr):=PE.imp h λσ H Q ⟨G0,H0,G,δ,S,w⟩=>by
 refine⟨G0,H0,G,δ,S,(aj w).mono (λds w vs G1 H1 s1 r1=>?_) λ_ k=>k⟩
 split at w
 .rename_i h
  rw[List.append_nil]
  exact⟨by rw[r1.length];exact h,G1,ds,s1.gh,r1,w.mono (λd k=>k.step s1) λx k=>k.step s1⟩
 .exact False.elim w
def yS{α:Type}(X:Cx)(Γ:Nat->Option Addr)(CX:CXT)(m:Str)(sp:(List D->Out α)->Sp):List (Nat×(List D->Out α))->Prop
 | []=>True
 | (c,F)::r=>(∃C f fd ps k,Γ c=some C/\Cls X.K C/\Meth X.K C m f/\bO X.prog X.w X.K X.mg X.base CX k f fd ps (sp F)/\cT k X.A/\Binds X.K fd ps [])/\yS X Γ CX m sp r
theorem yS.get{α:Type}{m:Str}{sp:(List D->Out α)->Sp}:∀{M:List (Nat×(List D->Out α))}{c:Nat}{F:List D->Out α},yS X Γ CX m sp M->M.lookup c=some F ->
  ∃C f fd ps k,Γ c=some C/\Cls X.K C/\Meth X.K C m f/\bO X.prog X.w X.K X.mg X.base CX k f fd ps (sp F)/\cT k X.A/\Binds X.K fd ps []
 | [],_,_,_,e=>by cases e
 | (c',F')::r,c,F,h,e=>by
  by_cases q:c=c'
  .subst q
   simp only[List.lookup_cons,beq_self_eq_true] at e
   cases e
   exact h.1
  .have q':(c==c')=false:=beq_eq_false_iff_ne.mpr q
   simp only[List.lookup_cons,q'] at e
   exact h.2.get e
def HQ{α:Type}(Γ:Nat->Option Addr)(m:Str)(sp:(List D->Out α)->Sp)(M:List (Nat×(List D->Out α)))(E:XK)(ta:TE)(t:TA):TE:=λσ H Q=>ta σ H λx H1=>∃c a C dx fs F,x=.ref a/\H1 a=some (.ins C dx fs)/\Γ c=some C/\M.lookup c=some F/\fs.lookup m=none /\
 t σ H1 λvs H2=>sp F (x::vs) H2 Q E
theorem wz{α:Type}{m:Str}{sp:(List D->Out α)->Sp}{M:List (Nat×(List D->Out α))}{ta:TE}{pl:Sem Bool}(hM:yS X Γ CX m sp M)(hx:lg CX X E)(he:PE X o ta)
  (ht:eval (.Call (.Attribute o m apos) [] [] pos) X.env=(do
   let ov ←eval o X.env
   standAt apos.atName
   let (f,first) ←holding [ov] (getMethod ov m pl)
   callWith pos f first (backTo pos (starEach [] X.env)) (backToKw pos (keywordEach [] X.env))):=by rfl) :
  PE X (.Call (.Attribute o m apos) [] [] pos) (HQ Γ m sp M E ta lH):=by
 intro pins s σ H Q I h
 refine PySem.W.methodCall_KW (pl:=pl) (thn (he pins s σ H _ I h) λu s1 ⟨x,H1,I1,rx,c,a,C,dx,fs,F,ex,ea,hc,hF,l,q⟩=>?_) ht
 subst ex
 obtain rfl:u=Value.ref a:=rx
 obtain⟨C',f,fd,ps,k,hc',cl,hm,G,hr,hb⟩:=hM.get hF
 rw[hc] at hc'
 cases hc'
 refine zO I1 ea cl hm l ?_
 exact PySem.W.callWith_K0 (first:=[.ref a]) I1.kIn hm.kp (Hl (dvs:=[]) (us:=[.ref a]) (vs:=[.ref a]) G hr hb .nil hx I1 (.cons rfl .nil) (by rw[List.append_nil];exact q))
def oM(m:Str)(n:Nat)(M:List (Nat×(List D->Out D)))(fo:DSt->Out D)(fr:DSt->Out (List D)):DSt->Out D:=λδ=>(fo δ).bind λo=>match o with
 | .obj c fs=>match M.lookup c with
  | some F=>if (fs.lookup m).isNone=true then (fr δ).bind λds=>if ds.length+1=n then F (o::ds) else .stuck else .stuck
  | none=>.stuck
 | _=>.stuck
theorem de_meth0{m:Str}{n:Nat}{M:List (Nat×(List D->Out D))}(h:PE X e (HQ Γ m (spD X.K Γ n) M E (teD X.K Γ E fo) lH)):DE X Γ E e (oM m n M fo aR):=PE.imp h λσ H Q ⟨G0,H0,G,δ,S,w⟩=>by
 refine⟨G0,H0,G,δ,S,(aj w).mono (λd w v G1 H1 s1 r1=>?_) λ_ k=>k⟩
 split at w
 .rename_i c fs
  split at w
  .rename_i F hF
   split at w
   .rename_i hn
    have r1':=r1
    cases r1 with
    | obj ha hc rf =>
     refine⟨c,_,_,_,_,F,rfl,s1.gh _ _ ha,hc,hF,rf.none (Option.isNone_iff_eq_none.mp hn),?_⟩
     have w:wpO (if 0+1=n then F [.obj c fs] else .stuck) (okD X.K Γ G H Q) (exD X.K Γ E G H):=w
     split at w
     .rename_i hl
      exact⟨hl,G1,_,s1.gh,.cons r1' .nil,w.mono (λd k=>k.step s1) λx k=>k.step s1⟩
     .exact False.elim w
   .exact False.elim w
  .exact False.elim w
 .exact False.elim w
def oMF{α:Type}(m:Str)(M:List (Nat×(List D->Out α)))(fo:DSt->Out D):DSt->Out α:=λδ=>(fo δ).bind λo=>match o with
 | .obj c fs=>match M.lookup c with
  | some F=>if (fs.lookup m).isNone=true then F [o] else .stuck
  | none=>.stuck
 | _=>.stuck
theorem df_meth0{m:Str}{M:List (Nat×(List D->Out (List D)))}(h:PE X e (HQ Γ m (spF X.K Γ 1) M E (teD X.K Γ E fo) lH)):DF X Γ E e (oMF m M fo):=PE.imp h λσ H Q ⟨G0,H0,G,δ,S,w⟩=>by
 refine⟨G0,H0,G,δ,S,(aj w).mono (λd w v G1 H1 s1 r1=>?_) λ_ k=>k⟩
 split at w
 .rename_i c fs
  split at w
  .rename_i F hF
   split at w
   .rename_i hn
    have r1':=r1
    cases r1 with
    | obj ha hc rf =>
     refine⟨c,_,_,_,_,F,rfl,s1.gh _ _ ha,hc,hF,rf.none (Option.isNone_iff_eq_none.mp hn),rfl,G1,_,s1.gh,.cons r1' .nil,w.mono (λd k a vs G' H' s f h g r=>k a vs G' H' (s1.trans s) (aD s1.hh f) h g r) λx k=>k.step s1⟩
   .exact False.elim w
  .exact False.elim w
 .exact False.elim w
theorem Ow{m:Str}{M:List (Nat×(List D->Out (List (List D))))}(h:PE X e (HQ Γ m (spFF X.K Γ 1) M E (teD X.K Γ E fo) lH)):DFF X Γ E e (oMF m M fo):=PE.imp h λσ H Q ⟨G0,H0,G,δ,S,w⟩=>by
 refine⟨G0,H0,G,δ,S,(aj w).mono (λd w v G1 H1 s1 r1=>?_) λ_ k=>k⟩
 split at w
 .rename_i c fs
  split at w
  .rename_i F hF
   split at w
   .rename_i hn
    have r1':=r1
    cases r1 with
    | obj ha hc rf =>
     refine⟨c,_,_,_,_,F,rfl,s1.gh _ _ ha,hc,hF,rf.none (Option.isNone_iff_eq_none.mp hn),rfl,G1,_,s1.gh,.cons r1' .nil,w.mono (λd k a vs G' H' s f h g n r=>k a vs G' H' (s1.trans s) (aD s1.hh f) h g n (r.reF λb z=>aD s1.hh z)) λx k=>k.step s1⟩
   .exact False.elim w
  .exact False.elim w
 .exact False.elim w
def oFl{α:Type}(n:Nat)(F:List D->Out α)(fr:DSt->Out (List D)):DSt->Out α:=λδ=>(fr δ).bind λds=>if ds.length=n then F ds else .stuck
theorem dcallF{n:Nat}{F:List D->Out (List D)}(h:PE X e (DQ (spF X.K Γ n F) [] E (taD X.K Γ E fr))):DF X Γ E e (oFl n F fr):=PE.imp h λσ H Q ⟨G0,H0,G,δ,S,w⟩=>by
 refine⟨G0,H0,G,δ,S,(aj w).mono (λds w vs G1 H1 s1 r1=>?_) λ_ k=>k⟩
 split at w
 .rename_i h
  rw[List.append_nil]
  exact⟨by rw[r1.length];exact h,G1,ds,s1.gh,r1,w.mono (λd k a vs G' H' s f h g r=>k a vs G' H' (s1.trans s) (aD s1.hh f) h g r) λx k=>k.step s1⟩
 .exact False.elim w
theorem ds_clrf{m:Str}{cpos:Pos}(he:DF X Γ E o fr)(hh:∀{to:TE},PE X o to->PS X (.Expr (.Call (.Attribute o m apos) [] [] cpos) pos) (vo (tBM0 X.K "list" MJ to))):DS X Γ E (.Expr (.Call (.Attribute o m apos) [] [] cpos) pos) (λδ=>(fr δ).bind λ_=>.ok (.nx δ)) :=
 PS.imp (hh he) λN σ H ⟨G0,H0,G,δ,S,w⟩=>by
  refine⟨G0,H0,G,δ,S,(aj w).mono (λds w a vs G1 H1 s1 f h g r=>?_) λx k=>exD.step k S.st⟩
  refine⟨.inl ⟨rfl,vs,SqL.of h⟩,a,vs,rfl,rfl,h,w σ G _ ((S.step ⟨aO.refl _,s1.hh.trans (λb u e=>e),s1.gg.trans s1.gh,λ_ _ g=>g⟩:SR X.K Γ G0 H0 G H1 σ δ) |> λS1=>?_)⟩
  have ga:G a=none:=aD s1.gg g
  have S2:SR X.K Γ G0 H0 G (upd H a (.lst [])) σ δ:=S.step (.aside S.st.gh f)
  refine⟨⟨S1.st.gg,λb u e=>?_,λb u e=>?_,S1.st.sep⟩,S1.len,?_⟩
  .rw[aN (aJ e (aD S.st.hh f))];exact S1.st.hh _ _ e
  .rw[aN (aJ e ga)];exact S1.st.gh _ _ e
  .obtain⟨O,q⟩:=S.sl
   refine⟨O,λi x e=>?_⟩
   obtain⟨v,h1,h2⟩:=q i x e
   refine⟨v,h1,h2.step ⟨aO.refl _,λb u e=>?_,λb u e=>?_,λ_ _ g=>g⟩⟩
   .rw[aN (aJ e f)];exact s1.hh _ _ e
   .rw[aN (aJ e ga)];exact s1.gh _ _ (s1.gg _ _ e)
def FldOk(K:Frag)(Γ:Nat->Option Addr)(f:Str):List Nat->Prop
 | []=>True
 | c::r=>(∃C,Γ c=some C/\Cls K C/\bD K C f)/\FldOk K Γ f r
theorem FldOk.get{K:Frag}{f:Str}:∀{cs:List Nat}{c:Nat},FldOk K Γ f cs->cs.contains c=true->∃C,Γ c=some C/\Cls K C/\bD K C f
 | [],_,_,e=>by cases e
 | d::r,c,h,e=>by
  by_cases q:c=d
  .subst q;exact h.1
  .exact h.2.get (by simpa[q] using e)
def oFld(f:Str)(cs:List Nat)(fo:DSt->Out D):DSt->Out D:=λδ=>(fo δ).bind λo=>match o with
 | .obj c fs=>if cs.contains c=true then .opt (fs.lookup f) else .stuck
 | _=>.stuck
theorem Fx{f:Str}{cs:List Nat}(hf:FldOk X.K Γ f cs)(he:DE X Γ E o fo)(hb:attributeBase o f X.env (eval o X.env)=eval o X.env:=by rfl):DE X Γ E (.Attribute o f pos) (oFld f cs fo):=PE.imp (pe_fld he hb) λσ H Q ⟨G0,H0,G,δ,S,w⟩=>by
 refine⟨G0,H0,G,δ,S,(aj w).mono (λd w v G1 H1 s1 r1=>?_) λ_ k=>k⟩
 split at w
 .rename_i c fs
  split at w
  .rename_i hc
   obtain⟨d,e,k⟩:=bc w
   cases r1 with
   | obj ha hC rf =>
    obtain⟨C',hC',cl,na⟩:=hf.get hc
    rw[hC] at hC'
    cases hC'
    obtain⟨v,h1,h2⟩:=rf.look e
    exact⟨_,_,_,_,v,rfl,s1.gh _ _ ha,cl,na,h1,k _ G1 H1 s1 h2⟩
  .exact False.elim w
 .exact False.elim w
def spI(K:Frag)(Γ:Nat->Option Addr)(c n:Nat)(F:List D->Out (List (Str×D))):Sp:=λvs H Q E=>vs.length=n+1/\∃a dx C us G ds,vs=.ref a::us/\H a=some (.ins C dx [])/\Γ c=some C/\G a=none/\aO G H/\aC K Γ G us ds /\
 wpO (F ds) (λfds=>∀fs G' H',aO G G'->(∀b o,H b=some o->b≠a->H' b=some o)->aO G' H'->(∀b,H b≠none->G b=none->G' b=none)->H' a=some (.ins C dx fs)->iC K Γ G' fs fds->Q .non H')
  (λx=>∀a' G' H',aO G G'->(∀b o,H b=some o->b≠a->H' b=some o)->aO G' H'->(∀b,H b≠none->G b=none->G' b=none)->Rep K Γ G' (.ref a') x->E (.ref a') none H')
def oMk(c n:Nat)(F:List D->Out (List (Str×D)))(fr:DSt->Out (List D)):DSt->Out D:=λδ=>(fr δ).bind λds=>if ds.length=n then (F ds).bind λfds=>.ok (.obj c fds) else .stuck
theorem NB{c n:Nat}{C:Addr}{F:List D->Out (List (Str×D))}{G H G1 H1:Hp}{Q:VK}{vs:List V}{ds:List D}(hC:Γ c=some C)(s1:Step G H G1 H1)(r1:aC X.K Γ G1 vs ds)(hl:ds.length=n)(w:wpO ((F ds).bind λfds=>.ok (.obj c fds)) (okD X.K Γ G H Q) (exD X.K Γ E G H))(x dx:Addr)(hx:H1 x=none)(hdx:H1 dx=none)(ne:dx≠x):
  spI X.K Γ c n F (.ref x::vs) (upd (upd H1 dx (.own x)) x (.ins C dx [])) (λv H2=>v=.non/\Q (.ref x) H2) E:=by
 have gx:G1 x=none:=aD s1.gh hx
 have gdx:G1 dx=none:=aD s1.gh hdx
 have up:∀b o,H1 b=some o->b≠x/\upd (upd H1 dx (.own x)) x (.ins C dx []) b=some o:=λb o e=>⟨aJ e hx,by rw[aN (aJ e hx),aN (aJ e hdx)];exact e⟩
 have nn:∀b,H1 b≠none->upd (upd H1 dx (.own x)) x (.ins C dx []) b≠none:=λb hb z=>by
  cases q:H1 b with
  | none=>exact hb q
  | some o=>rw[(up b o q).2] at z;cases z
 refine⟨by rw[List.length_cons,r1.length,hl],x,dx,C,vs,G1,ds,rfl,aP,hC,gx,λb o e=>(up b o (s1.gh _ _ e)).2,r1,(aj w).mono (λfds w fs G' H' a1 a2 a3 a4 a5 a6=>⟨rfl,?_⟩) λex k a' G' H' a1 a2 a3 a4 a5=>k a' G' H' (s1.trans ⟨a1,λb o e=>a2 b o (up b o e).2 (up b o e).1,a3,λb hb g=>a4 b (nn b hb) g⟩) a5⟩
 have gx':G' x=none:=a4 x (by rw[aP];exact λz=>nomatch z) gx
 refine w _ (upd G' x (.ins C dx fs)) H' (s1.trans ⟨a1.trans (aO.up gx'),λb o e=>a2 b o (up b o e).2 (up b o e).1,λb o e=>?_,λb hb g=>?_⟩) (.obj aP hC (a6.mono (aO.up gx')))
 .by_cases z:b=x
  .subst z;rw[aP] at e;cases e;exact a5
  .rw[aN z] at e;exact a3 _ _ e
 .have z:b≠x:=λz=>hb (by rw[z];exact hx)
  rw[aN z];exact a4 b (nn b hb) g
theorem dmake{c n:Nat}{C:Addr}{F:List D->Out (List (Str×D))}(hC:Γ c=some C)(h:PE X e (tMake C (spI X.K Γ c n F) [] E (taD X.K Γ E fr))):DE X Γ E e (oMk c n F fr):=PE.imp h λσ H Q ⟨G0,H0,G,δ,S,w⟩=>by
 refine⟨G0,H0,G,δ,S,(aj w).mono (λds w vs G1 H1 s1 r1=>?_) λ_ k=>k⟩
 split at w
 .rename_i hl
  intro x dx hx hdx ne
  rw[List.append_nil]
  exact NB hC s1 r1 hl w x dx hx hdx ne
 .exact False.elim w
theorem dmake0{c n:Nat}{C:Addr}{F:List D->Out (List (Str×D))}(hC:Γ c=some C)(h:PE X e (tMake C (spI X.K Γ c n F) [] E lH)):DE X Γ E e (oMk c n F aR):=PE.imp h λσ H Q ⟨G0,H0,G,δ,S,w⟩=>by
 have w:wpO (if 0=n then (F []).bind λfds=>.ok (.obj c fds) else .stuck) (okD X.K Γ G H Q) (exD X.K Γ E G H):=w
 split at w
 .rename_i hl
  intro x dx hx hdx ne
  rw[List.append_nil]
  exact NB (G:=G) (H:=H) hC (.refl S.st.gh) .nil hl w x dx hx hdx ne
 .exact False.elim w
structure sy(K:Frag)(C:Addr):Prop where
 cls:Cls K C
 ha:findIn K (.ref C) "__class__"=some (some (.builtin "object.__class__"))
 hn:PySem.W.specialIn K (.builtin "object.__class__") "__get__"=some (some (.builtin "getset_descriptor.__get__"))
 htk:PySem.W.takesIn K (.builtin "object.__class__")=some true
 hm:PySem.W.mroIn K C (.type "object")=some true
 ty:PySem.W.typeIn K (.ref C)=some (.type "type")
 cd:∃cd,PySem.W.clsIn K C=some cd
def ue(K:Frag)(Γ:Nat->Option Addr)(cv:V)(isi:D->Option Bool):Prop:=∀H v d b,Rep K Γ H v d->isi d=some b->∃t,TyX K H v t/\PySem.W.kitOne K t (clsV cv)=some b
def rZ(isi:D->Option Bool)(fo:DSt->Out D):DSt->Out D:=λδ=>(fo δ).bind λd=>(Out.opt (isi d)).bind λb=>.ok (.bl b)
theorem jw{cv:V}{isi:D->Option Bool}{p:Pos}(hc:(cv=.ref (match cv with | .ref C=>C | _=>0)∨cv=.ty (match cv with | .ty n=>n | _=>"")))(hi:ue X.K Γ cv isi)(hg:Gl X "isinstance")(hm:X.mg "isinstance"=none)(ho:DB X Γ E o fo)(hcv:PE X c (tC cv))
  (hs:starEach [o,c] X.env=(false,eval o X.env)::starEach [c] X.env:=by rfl) (hs2:starEach [c] X.env=[(false,eval c X.env)]:=by rfl):DE X Γ E (.Call (.Name "isinstance" p) [o,c] [] pos) (rZ isi fo) :=
 PE.imp (uX call_isi hg hm PyProof.Rows.boot_isinstance (aX ho (aX hcv bL (by rw[hs2];rfl)) hs) (by decide) (by decide) hs (by rw[hs2];rfl)) λσ H Q ⟨G0,H0,G,δ,S,w⟩=>by
  refine⟨G0,H0,G,δ,S,(aj w).mono (λd w v G1 H1 s1 r1=>?_) λ_ k=>k⟩
  obtain⟨b,e,k⟩:=bc (aj w)
  obtain⟨t,ty,kt⟩:=hi H1 v d b r1 e
  exact⟨v,cv,t,b,rfl,hc,ty,kt,k _ G1 H1 s1 (.bl b)⟩
end
end DL
namespace DL
open PySem PySem.Spec PyProof.Rows MX L2
abbrev kc(d:D):DSt->Out D:=λ_=>.ok d
abbrev one1(g:D->Option D):List D->Option D:=λds=>match ds with
 | [x]=>g x
 | _=>none
abbrev frzd(i:Nat)(g:DSt->Out Fl):DSt->Out Fl:=λδ=>g (frz i δ)
abbrev sExprf(f:DSt->Out (List D)):DSt->Out Fl:=λδ=>(f δ).bind λ_=>.ok (.nx δ)
structure Def(P:Program)(w:World)(K:Frag)(mg:Str->Option Value)(base:Heap)(x:Str)(k:Nat)(ps:List Str)(sp:Sp):Prop where
 ex:∃f fd,bO P w K mg base CX0 k f fd ps sp/\Binds K fd ps []/\mg x=some (.ref f)/\keepIn K (.ref f)=true
structure Ini(P:Program)(w:World)(K:Frag)(mg:Str->Option Value)(base:Heap)(C:Addr)(k:Nat)(ps:List Str)(sp:Sp):Prop where
 ex:∃f fd,Mk K C f/\bO P w K mg base CX0 k f fd ps sp/\Binds K fd ps []
def iB{α:Type}(P:Program)(w:World)(K:Frag)(mg:Str->Option Value)(base:Heap)(Γ:Nat->Option Addr)(m:Str)(sp:(List D->Out α)->Sp)(k:Nat):List (Nat×(List D->Out α))->Prop
 | []=>True
 | (c,F)::r=>(∃C f fd ps,Γ c=some C/\Cls K C/\Meth K C m f/\bO P w K mg base CX0 k f fd ps (sp F)/\Binds K fd ps [])/\iB P w K mg base Γ m sp k r
theorem iB.ok{α:Type}{X:Cx}{Γ:Nat->Option Addr}{m:Str}{sp:(List D->Out α)->Sp}{k:Nat}(hr:cT k X.A):∀{M:List (Nat×(List D->Out α))},iB X.prog X.w X.K X.mg X.base Γ m sp k M->yS X Γ CX0 m sp M
 | [],_=>trivial
 | (c,F)::r,⟨⟨C,f,fd,ps,h1,h2,h3,h4,h5⟩,t⟩=>⟨⟨C,f,fd,ps,k,h1,h2,h3,h4,hr,h5⟩,iB.ok hr t⟩
abbrev dOf(F:List D->Out (List D)):List D->Out D:=λds=>(F ds).bind λxs=>.ok (.lst xs)
abbrev dOff(F:List D->Out (List (List D))):List D->Out D:=λds=>(F ds).bind λxs=>.ok (.lst (xs.map .lst))
abbrev tabD(M:List (Nat×(List D->Out (List D)))):List (Nat×(List D->Out D)):=M.map λp=>(p.1,dOf p.2)
abbrev KJ(M:List (Nat×(List D->Out (List (List D))))):List (Nat×(List D->Out D)):=M.map λp=>(p.1,dOff p.2)
theorem iB.dF{P:Program}{w:World}{K:Frag}{mg:Str->Option Value}{base:Heap}{Γ:Nat->Option Addr}{m:Str}{n k:Nat}:∀{M:List (Nat×(List D->Out (List D)))},iB P w K mg base Γ m (spF K Γ n) k M->iB P w K mg base Γ m (spD K Γ n) k (tabD M)
 | [],_=>trivial
 | (c,F)::r,⟨⟨C,f,fd,ps,h1,h2,h3,h4,h5⟩,t⟩=>⟨⟨C,f,fd,ps,h1,h2,h3,okF_D h4,h5⟩,iB.dF t⟩
theorem iB.dFF{P:Program}{w:World}{K:Frag}{mg:Str->Option Value}{base:Heap}{Γ:Nat->Option Addr}{m:Str}{n k:Nat}:∀{M:List (Nat×(List D->Out (List (List D))))},iB P w K mg base Γ m (spFF K Γ n) k M->iB P w K mg base Γ m (spD K Γ n) k (KJ M)
 | [],_=>trivial
 | (c,F)::r,⟨⟨C,f,fd,ps,h1,h2,h3,h4,h5⟩,t⟩=>⟨⟨C,f,fd,ps,h1,h2,h3,okFF_D h4,h5⟩,iB.dFF t⟩
theorem kit_t{K:Frag}{C D':Addr}(ty:PySem.W.typeIn K (.ref D')=some (.type "type")){cd:ClassData}(hc:PySem.W.clsIn K D'=some cd)(m:PySem.W.mroIn K C (.ref D')=some true):PySem.W.kitOne K (.ref C) (.ref D')=some true:=Gm hc ty m λ_=>rfl
theorem kit_f{K:Frag}{C D':Addr}(ty:PySem.W.typeIn K (.ref D')=some (.type "type")){cd:ClassData}(hc:PySem.W.clsIn K D'=some cd)(ne:C≠D')(m:PySem.W.mroIn K C (.ref D')=some false):PySem.W.kitOne K (.ref C) (.ref D')=some false:=Gm hc ty m λe=>absurd (Value.ref.inj e) ne
def yP(K:Frag)(Γ:Nat->Option Addr)(cv:Value):List (Nat×Bool)->Prop
 | []=>True
 | (c,b)::r=>(∃C',Γ c=some C'/\sy K C'/\PySem.W.kitOne K (.ref C') cv=some b)/\yP K Γ cv r
theorem yP.get{K:Frag}{Γ:Nat->Option Addr}{cv:Value}:∀{tab:List (Nat×Bool)}{c:Nat}{b:Bool},yP K Γ cv tab->tab.lookup c=some b->∃C',Γ c=some C'/\sy K C'/\PySem.W.kitOne K (.ref C') cv=some b
 | [],_,_,_,e=>by cases e
 | (c',b')::r,c,b,h,e=>by
  by_cases q:c=c'
  .subst q
   simp only[List.lookup_cons,beq_self_eq_true] at e
   cases e
   exact h.1
  .have q':(c==c')=false:=beq_eq_false_iff_ne.mpr q
   simp only[List.lookup_cons,q'] at e
   exact h.2.get e
def isiE(tab:List (Nat×Bool)):D->Option Bool
 | .obj c _=>tab.lookup c
 | .non=>some false
 | .bl _=>some false
 | .int _=>some false
 | .str _=>some false
 | .lst _=>some false
 | .tup _=>some false
 | .rot _=>some false
 | .dK _=>some false
 | .dT _=>some false
 | _=>none
theorem sub_tt{K:Frag}{a:String}{C:Addr}{l:List Value}(h:PySem.fastBuiltinMro a=some l)(n:l.all (λv=>match v with | .type _=>true | _=>false)=true):PySem.W.subIn K (.type a) (.ref C)=some false:=by
 show (PySem.fastBuiltinMro a).map (·.contains (Value.ref C))=some false
 rw[h]
 simp only[Option.map_some,Option.some.injEq]
 cases q:l.contains (Value.ref C) with
 | false=>rfl
 | true =>
  have m:=List.contains_iff_mem.mp q
  have:=List.all_eq_true.mp n _ m
  cases this
theorem mro_int:PySem.fastBuiltinMro "int"=some [.type "int",.type "object"]:=by decide +kernel
theorem mro_bool:PySem.fastBuiltinMro "bool"=some [.type "bool",.type "int",.type "object"]:=by decide +kernel
theorem mro_str:PySem.fastBuiltinMro "str"=some [.type "str",.type "object"]:=by decide +kernel
theorem mro_list:PySem.fastBuiltinMro "list"=some [.type "list",.type "object"]:=by decide +kernel
theorem mro_tuple:PySem.fastBuiltinMro "tuple"=some [.type "tuple",.type "object"]:=by decide +kernel
theorem JV:PySem.fastBuiltinMro "dict"=some [.type "dict",.type "object"]:=by decide +kernel
theorem mro_none:PySem.fastBuiltinMro "NoneType"=some [.type "NoneType",.type "object"]:=by decide +kernel
theorem isiE_ok{K:Frag}{Γ:Nat->Option Addr}{C:Addr}{tab:List (Nat×Bool)}(ty:PySem.W.typeIn K (.ref C)=some (.type "type"))(cd:∃cd,PySem.W.clsIn K C=some cd)(h:yP K Γ (.ref C) tab):ue K Γ (.ref C) (isiE tab):=by
 intro H v d b r e
 have bi:∀{T:String}{l:List Value},PySem.fastBuiltinMro T=some l->l.all (λv=>match v with | .type _=>true | _=>false)=true->PySem.W.kitOne K (.type T) (.ref C)=some false:=fun{T l} h1 h2=>by
  obtain⟨cd,e⟩:=cd
  exact Gm e ty (sub_tt h1 h2) λq=>nomatch q
 cases r <;> simp only[isiE] at e
 case non=>cases e;exact⟨_,.of .non,bi mro_none rfl⟩
 case bl=>cases e;exact⟨_,.of (.bl _),bi mro_bool rfl⟩
 case int=>cases e;exact⟨_,.of (.int _),bi mro_int rfl⟩
 case str=>cases e;exact⟨_,.of (.str _),bi mro_str rfl⟩
 case lst h1 _=>cases e;exact⟨_,.of (.lst h1),bi mro_list rfl⟩
 case tup h1 _=>cases e;exact⟨_,.of (.tup h1),bi mro_tuple rfl⟩
 case rot h1 _=>cases e;exact⟨_,.kt h1,bi mro_tuple rfl⟩
 case dK h1 _=>cases e;exact⟨_,.of (.dK h1),bi JV rfl⟩
 case dT h1 _=>cases e;exact⟨_,.of (.dT h1),bi JV rfl⟩
 case obj h1 g _ =>
  obtain⟨C',g',i,k⟩:=h.get e
  rw[g] at g'
  cases g'
  exact⟨_,.of (.ins h1 i.cls i.ha i.hn i.htk i.hm),k⟩
 all_goals cases e
def m7(n:String)(tab:List (Nat×Bool)):D->Option Bool
 | .obj c _=>tab.lookup c
 | .non=>some false
 | .bl _=>some (n=="bool" || n=="int")
 | .int _=>some (n=="int")
 | .str _=>some (n=="str")
 | .lst _=>some (n=="list")
 | .tup _=>some (n=="tuple")
 | .rot _=>some (n=="tuple")
 | .dK _=>some (n=="dict")
 | .dT _=>some (n=="dict")
 | _=>none
def ttB(a b:String):Option Bool:=if (Value.type a==Value.type b)=true then some true else if PySem.W.kitMeta b=true then (PySem.fastBuiltinMro a).map (·.contains (.type b)) else none
def Az(n:String):Bool:=ttB "NoneType" n==some false && ttB "bool" n==some (n=="bool" || n=="int") && ttB "int" n==some (n=="int") && ttB "str" n==some (n=="str") && ttB "list" n==some (n=="list") && ttB "tuple" n==some (n=="tuple") && ttB "dict" n==some (n=="dict")
theorem uN{K:Frag}{Γ:Nat->Option Addr}{n:String}{tab:List (Nat×Bool)}(a:Az n=true)(h:yP K Γ (.type n) tab):ue K Γ (.ty n) (m7 n tab):=by
 unfold Az at a
 simp only[Bool.and_eq_true,beq_iff_eq] at a
 obtain⟨⟨⟨⟨⟨⟨a0,a1⟩,a2⟩,a3⟩,a4⟩,a5⟩,a6⟩:=a
 intro H v d b r e
 cases r <;> simp only[m7] at e
 case non=>cases e;exact⟨_,.of .non,a0⟩
 case bl=>cases e;exact⟨_,.of (.bl _),a1⟩
 case int=>cases e;exact⟨_,.of (.int _),a2⟩
 case str=>cases e;exact⟨_,.of (.str _),a3⟩
 case lst h1 _=>cases e;exact⟨_,.of (.lst h1),a4⟩
 case tup h1 _=>cases e;exact⟨_,.of (.tup h1),a5⟩
 case rot h1 _=>cases e;exact⟨_,.kt h1,a5⟩
 case dK h1 _=>cases e;exact⟨_,.of (.dK h1),a6⟩
 case dT h1 _=>cases e;exact⟨_,.of (.dT h1),a6⟩
 case obj h1 g _ =>
  obtain⟨C',g',i,k⟩:=h.get e
  rw[g] at g'
  cases g'
  exact⟨_,.of (.ins h1 i.cls i.ha i.hn i.htk i.hm),k⟩
 all_goals cases e
theorem tt_bool:Az "bool"=true:=by decide +kernel
theorem tt_int:Az "int"=true:=by decide +kernel
theorem tt_str:Az "str"=true:=by decide +kernel
theorem tt_list:Az "list"=true:=by decide +kernel
theorem tt_tuple:Az "tuple"=true:=by decide +kernel
end DL
namespace DL
open PySem PySem.Spec PyProof.Rows MX L2
theorem yr(i j:Int):bI (.int i) (.int j)=some (.int (i+j)):=rfl
theorem yL(i j:Int):subD (.int i) (.int j)=some (.int (i - j)):=rfl
theorem dq{i j:Int}(h:iz i j):lB (.int i) (.int j)=some (.int (i*j)):=by show (if iz i j then _ else _)=_;rw[if_pos h]
theorem lL{i j:Int}(h:CDiv i j):zH (.int i) (.int j)=some (.int (i / j)):=by show (if CDiv i j then _ else _)=_;rw[if_pos h]
theorem kE{i j:Int}(h:0<j):fj (.int i) (.int j)=some (.int (i % j)):=by show (if 0<j then _ else _)=_;rw[if_pos h]
theorem yu(p:Int->Int->Bool)(i j:Int):cmpI p (.int i) (.int j)=some (p i j):=rfl
theorem Ib(b:Bool):truD (.bl b)=some b:=rfl
theorem asB_b(b:Bool):asB (.bl b)=some b:=rfl
theorem zX(xs:List D):fC (.lst xs)=some (.int xs.length):=rfl
theorem Gp(xs:List D):fC (.rol xs)=some (.int xs.length):=rfl
theorem Gq(xs:List D):fC (.tup xs)=some (.int xs.length):=rfl
theorem xm(xs:List D)(i:Int):ixD (.lst xs) (.int i)=atI xs i:=rfl
theorem JM(xs:List D)(i:Int):ixD (.rol xs) (.int i)=atI xs i:=rfl
theorem ixD_t(xs:List D)(i:Int):ixD (.tup xs) (.int i)=atI xs i:=rfl
theorem Gg(i:Int):intD (.int i)=some (.int i):=rfl
theorem Gf(b:Bool):intD (.bl b)=some (.int (if b then 1 else 0)):=rfl
theorem Gs(i j:Int):maxD [.int i,.int j]=some (.int (if j>i then j else i)):=rfl
theorem modb(a b:Int){m:Int}(h:0<m)(h2:m<=2 ^ 32):iz (a % m) b:=by
 have h3:=Int.emod_nonneg a (show m≠0 by omega)
 have h4:=Int.emod_lt_of_pos a h
 exact .inl ⟨by omega,by omega⟩
theorem ur{a b:Int}(h1:-1000000000<=a)(h2:a<=1000000000):iz a b:=.inl ⟨by omega,by omega⟩
def nxP(o:Out Fl)(I:DSt->Prop):Prop:=match o with
 | .ok (.nx δ)=>I δ
 | _=>False
theorem nxP_ok(δ:DSt)(I:DSt->Prop):nxP (.ok (.nx δ)) I=I δ:=rfl
theorem nxP_get{o:Out Fl}{I:DSt->Prop}(h:nxP o I):∃δ,o=.ok (.nx δ)/\I δ:=by
 unfold nxP at h
 split at h
 .exact⟨_,rfl,h⟩
 .exact h.elim
theorem Gy{a b:String}:Str.ofString a=Str.ofString b↔a=b:=by
 constructor
 .intro h
  rw[Str.ofString_eq_toList,Str.ofString_eq_toList] at h
  have h1:a.toList.map Char.toNat=b.toList.map Char.toNat:=by
   have:=congrArg (λs:Str=>s.cps.toList) h
   simpa using this
  have inj:∀{x y:List Char},x.map Char.toNat=y.map Char.toNat->x=y:=by
   intro x
   induction x with
   | nil=>intro y h;cases y with | nil=>rfl | cons _ _=>cases h
   | cons c x ih =>
    intro y h
    cases y with
    | nil=>cases h
    | cons d y =>
     simp only[List.map_cons,List.cons.injEq] at h
     rw[ih h.2]
     congr 1
     exact Char.ext (UInt32.toNat_inj.mp h.1)
  exact String.toList_inj.mp (inj h1)
 .rintro rfl;rfl
theorem yJ(a b:String):(Str.ofString a==Str.ofString b)=(a==b):=by
 by_cases h:a=b
 .subst h;simp
 .rw[beq_eq_false_iff_ne.mpr h,beq_eq_false_iff_ne.mpr (λq=>h (Gy.mp q))]
mutual
theorem eqv_refl:∀d:PyData,d.canLay0=true->PyData.eqv d d=true
 | .none,_=>by simp[PyData.eqv]
 | .bool b,_=>by simp[PyData.eqv]
 | .int i,_=>by simp[PyData.eqv]
 | .str x,_=>by simp[PyData.eqv]
 | .list xs,h=>by
  simp only[PyData.eqv]
  exact eqvAll_refl xs (by simpa[PyData.canLay0] using h)
 | .tuple xs,h=>by
  simp only[PyData.eqv]
  exact eqvAll_refl xs (by simpa[PyData.canLay0] using h)
 | .dict _,h=>by simp[PyData.canLay0] at h
theorem eqvAll_refl:∀ds:List PyData,PyData.canLayAll0 ds=true->PyData.eqvAll ds ds=true
 | [],_=>by simp[PyData.eqvAll]
 | d::ds,h=>by
  simp only[PyData.canLayAll0,Bool.and_eq_true] at h
  simp only[PyData.eqvAll,eqv_refl d h.1,eqvAll_refl ds h.2,Bool.and_self]
end
mutual
def dj:Nat->D->Bool
 | _,.non=>true
 | _,.bl _=>true
 | _,.int _=>true
 | _,.str x=>PyData.strOk x
 | n+1,.lst xs=>jC n xs
 | n+1,.tup xs=>jC n xs
 | n+1,.rol xs=>jC n xs
 | n+1,.rot xs=>jC n xs
 | _,_=>false
def jC:Nat->List D->Bool
 | _,[]=>true
 | n,d::ds=>dj n d && jC n ds
end
mutual
theorem uP:∀(d:D)(n:Nat),dj n d=true->∃p,toPy d=some p/\p.canLay0=true/\p.depth<=n
 | .non,n,_=>⟨_,rfl,by simp[PyData.canLay0],by simp[PyData.depth]⟩
 | .bl b,n,_=>⟨_,rfl,by simp[PyData.canLay0],by simp[PyData.depth]⟩
 | .int b,n,_=>⟨_,rfl,by simp[PyData.canLay0],by simp[PyData.depth]⟩
 | .str x,n,h=>⟨_,rfl,by simpa[PyData.canLay0,dj] using h,by simp[PyData.depth]⟩
 | .lst xs,n+1,h=>by
  obtain⟨q,e,c,k⟩:=qw xs n (by simpa[dj] using h)
  exact⟨.list q,by simp[toPy,e],by simpa[PyData.canLay0] using c,by simp[PyData.depth];omega⟩
 | .rol xs,n+1,h=>by
  obtain⟨q,e,c,k⟩:=qw xs n (by simpa[dj] using h)
  exact⟨.list q,by simp[toPy,e],by simpa[PyData.canLay0] using c,by simp[PyData.depth];omega⟩
 | .tup xs,n+1,h=>by
  obtain⟨q,e,c,k⟩:=qw xs n (by simpa[dj] using h)
  exact⟨.tuple q,by simp[toPy,e],by simpa[PyData.canLay0] using c,by simp[PyData.depth];omega⟩
 | .rot xs,n+1,h=>by
  obtain⟨q,e,c,k⟩:=qw xs n (by simpa[dj] using h)
  exact⟨.tuple q,by simp[toPy,e],by simpa[PyData.canLay0] using c,by simp[PyData.depth];omega⟩
 | .lst xs,0,h=>by simp[dj] at h
 | .rol xs,0,h=>by simp[dj] at h
 | .tup xs,0,h=>by simp[dj] at h
 | .rot xs,0,h=>by simp[dj] at h
 | .ty _,n,h=>by simp[dj] at h
 | .cls _,n,h=>by simp[dj] at h
 | .dK _,n,h=>by simp[dj] at h
 | .dT _,n,h=>by simp[dj] at h
 | .obj _ _,n,h=>by simp[dj] at h
 | .exc _ _,n,h=>by simp[dj] at h
theorem qw:∀(ds:List D)(n:Nat),jC n ds=true->∃p,toPyL ds=some p/\PyData.canLayAll0 p=true/\PyData.depthAll p<=n
 | [],n,_=>⟨_,rfl,by simp[PyData.canLayAll0],by simp[PyData.depthAll]⟩
 | d::ds,n,h=>by
  simp only[jC,Bool.and_eq_true] at h
  obtain⟨p,e1,c1,k1⟩:=uP d n h.1
  obtain⟨q,e2,c2,k2⟩:=qw ds n h.2
  exact⟨p::q,by simp[toPyL,e1,e2],by simp[PyData.canLayAll0,c1,c2],by simp[PyData.depthAll];omega⟩
end
def eqB(x y:D):Bool:=match toPy x,toPy y with
 | some p,some q=>PyData.eqv p q
 | _,_=>false
theorem uA{x y:D}(hx:dj 50 x=true)(hy:dj 50 y=true):eqD x y=some (eqB x y):=by
 obtain⟨p,e1,c1,k1⟩:=uP x 50 hx
 obtain⟨q,e2,c2,k2⟩:=uP y 50 hy
 unfold eqD eqB layP
 rw[e1,e2]
 simp[c1,c2,k1,k2]
theorem NP{x y:D}(hx:dj 50 x=true)(hy:dj 50 y=true):neD x y=some (!eqB x y):=by
 unfold neD
 rw[uA hx hy]
 rfl
theorem Jq{n:Nat}{x:D}(hx:dj n x=true):eqB x x=true:=by
 obtain⟨p,e1,c1,k1⟩:=uP x n hx
 unfold eqB
 rw[e1]
 exact eqv_refl p c1
theorem eqD_refl{x:D}(hx:dj 50 x=true):eqD x x=some true:=by rw[uA hx hx,Jq hx]
theorem uU{x:D}(hx:dj 50 x=true):neD x x=some false:=by rw[NP hx hx,Jq hx];rfl
theorem Nt(i j:Int):eqB (.int i) (.int j)=(i==j):=by simp[eqB,toPy,PyData.eqv]
theorem eqB_str(i j:Str):eqB (.str i) (.str j)=(i==j):=by simp[eqB,toPy,PyData.eqv]
theorem FP(i j:Int):eqD (.int i) (.int j)=some (i==j):=by rw[uA (by simp[dj]) (by simp[dj]),Nt]
theorem Gw(i j:Int):neD (.int i) (.int j)=some (!(i==j)):=by rw[NP (by simp[dj]) (by simp[dj]),Nt]
theorem IW{α:Type}(x0:α)(r:List α):atI (x0::r) 0=some x0:=fW (j:=0) rfl
theorem atI_1{α:Type}(x0 x1:α)(r:List α):atI (x0::x1::r) 1=some x1:=fW (j:=1) rfl
theorem atI_2{α:Type}(x0 x1 x2:α)(r:List α):atI (x0::x1::x2::r) 2=some x2:=fW (j:=2) rfl
end DL
namespace DL
open PySem PySem.Spec PyProof.Rows MX L2
section
variable{X:Cx}{Γ:Nat->Option Addr}{E:XK}{e a b c o:Expr}{pos apos p:Pos}{es:List Expr}{fa fb fo:DSt->Out D}{fr:DSt->Out (List D)}
theorem Bc:∀{bs:List Bool}{us:List Value},Vals (bs.map V.bl) us->us=bs.map Value.bool
 | [],_,r=>by cases r;rfl
 | b::bs,_,r=>by
  cases r with
  | cons r1 r2=>cases r1;rw[Bc r2];rfl
theorem all_range(bs:List Bool):(List.range bs.length).all (λi=>bs.getD i true)=bs.all id:=by
 induction bs with
 | nil=>rfl
 | cons b bs ih =>
  rw[List.length_cons,List.range_succ_eq_map,List.all_cons,List.all_map,List.all_cons]
  have:((λi=>(b::bs).getD i true)∘Nat.succ)=λi=>bs.getD i true:=by funext i;simp
  rw[this,ih];simp
theorem za(hc:X.calm=true):iM X (.builtin "all") (λxs H Q=>∃(q:Addr)(bs:List Bool),xs=[.ref q]/\SqL X.K H q (bs.map V.bl)/\Q (.bl (bs.all id)) H):=by
 intro pins s σ H xs us Q I r h
 obtain⟨q,bs,rfl,hq,k⟩:=h
 obtain⟨u,rfl,rx⟩:=vals1 r
 cases rx
 obtain⟨its,r',pl,hz⟩:=I.list hq
 have ei:=Bc r'
 subst ei
 refine call_all_walk (PySem.wpAny_pyIter_list pl.isList ?_)
 have hh:X.A.in1.handled=none:=I.ok.hd hc
 have hlt:q<s.heap.objs.size:=by obtain⟨ob,hob,_⟩:=pl.isList;exact Heap.lt_size hob
 refine⟨_,_,_,_,_,_,λi=>bs.getD i true,rfl,Walks.list hh s.heap.objs.size q (Nat.ne_of_lt hlt) _,⟨⟨_,Heap.get?_push_size _ rfl,rfl,rfl⟩,pl.isList.push _⟩,λi v s' Q' E' hv hQ=>?_,λh' tk kp=>?_⟩
 .have hv:(bs.map Value.bool)[i]?=some v:=by simpa using hv
  rw[List.getElem?_map] at hv
  obtain⟨b,hb,rfl⟩:=Option.map_eq_some_iff.mp hv
  have hQ:Q' (bs.getD i true) s':=hQ
  rw[List.getD_eq_getElem?_getD,hb] at hQ
  exact wpAny_truthy_bool hQ
 .have es:(bs.map Value.bool).toArray.size=bs.length:=by simp
  rw[es,all_range]
  exact⟨.bl _,H,I.kept (t':=tk) λb ob hb=>kp b ob (by simp;exact Nat.ne_of_lt (Heap.lt_size hb)) (Heap.get?_push_of_some _ hb),rfl,k⟩
def pU:List D->Option (List Bool)
 | []=>some []
 | d::r=>match asB d,pU r with
  | some b,some bs=>some (b::bs)
  | _,_=>none
theorem aC.bools{K:Frag}{H:Hp}:∀{vs:List V}{ds:List D}{bs:List Bool},aC K Γ H vs ds->pU ds=some bs->vs=bs.map V.bl
 | _,_,_,.nil,e=>by simp only[pU] at e;cases e;rfl
 | _,_,_,.cons (d:=d) (ds:=ds) h r,e=>by
  simp only[pU] at e
  cases h1:asB d with
  | none=>rw[h1] at e;cases e
  | some b =>
   cases h2:pU ds with
   | none=>rw[h1,h2] at e;cases e
   | some bs =>
    rw[h1,h2] at e
    cases e
    rw[h.asB h1,r.bools h2];rfl
def allD(d:D):Option D:=(iI d).bind λds=>(pU ds).map λbs=>.bl (bs.all id)
theorem Rep.iI{K:Frag}{H:Hp}{v:V}{d:D}{ds:List D}(r:Rep K Γ H v d)(e:iI d=some ds):∃a vs,v=.ref a/\SqL K H a vs/\aC K Γ H vs ds:=by
 cases r <;> simp only[DL.iI] at e <;> cases e
 .exact⟨_,_,rfl,SqL.of ‹_›,‹_›⟩
 .exact⟨_,_,rfl,‹_›,‹_›⟩
theorem Lx(hc:X.calm=true)(hg:Gl X "all")(hm:X.mg "all"=none)(ha:DB X Γ E a fa)(hs:starEach [a] X.env=[(false,eval a X.env)]:=by rfl):DE X Γ E (.Call (.Name "all" p) [a] [] pos) (o1 allD fa) :=
 dC1 (λG H v dx d Q s r e k=>by
  unfold allD at e
  obtain⟨ds,e1,e2⟩:=Option.bind_eq_some_iff.mp e
  obtain⟨bs,e3,rfl⟩:=Option.map_eq_some_iff.mp e2
  obtain⟨q,vs,rfl,sq,ra⟩:=r.iI e1
  exact⟨q,bs,rfl,(ra.bools e3)▸sq,k _ G H (.refl s) (.bl _)⟩) (uX (za hc) hg hm (by decide +kernel) (aX ha bL (by rw[hs];rfl)) (by decide) (by decide) (by rw[hs];rfl) (by rfl))
def Its(x:Str):It:=⟨λi _=>i<x.cps.size,λi H v H'=>H'=H/\∃c,x.cps[i]?=some c/\v=.str ⟨#[c]⟩,λi _=>x.cps.size<=i⟩
theorem Ba{P:Program}{w:World}{K:Frag}{tg:Expr}(x:Str)(tk:Tok)(it:Addr):Turn P w K tg (Its x) [it] it (λi h=>h.IsStrIter it "str_ascii_iterator" x tk i) where
 mem:=by simp
 obj:=λi h st b hb=>by
  have z:b=it:=by simpa using hb
  subst z
  obtain⟨ob,e1,e2,e3⟩:=st
  exact⟨ob,e1,λv z=>by rw[e3] at z;cases z⟩
 keep:=λi h h' st kp=>by
  obtain⟨ob,e1,e2⟩:=st
  exact⟨ob,kp it (by simp) ob e1,e2⟩
 item:=by
  intro X hP hw hK hc i pins s σ H E I hf st hg
  subst hP hw hK
  obtain⟨f0,f1,f2,f3,f4,f5⟩:=hf it (by simp)
  have lt:i<x.cps.size:=hg
  have hx:x.cps[i]?=some x.cps[i]:=Array.getElem?_eq_getElem lt
  refine wpAny_pyNext_ascii_item st hx λh' st' sb=>?_
  have I1:Inv X pins σ H { s with heap:=h',toks:=s.toks+1 }:=I.turned (t':=s.toks+1) (λb ob hb q=>(sb.2 b hb).trans q) f0 f1 f3 f4 f5
  obtain⟨ob,e1,e2,e3⟩:=id st'
  exact⟨_,rfl,JF (s:={ s with heap:=h',toks:=s.toks+1 }) e1 e2 e3 (by decide) ⟨.str ⟨#[x.cps[i]]⟩,H,I1,⟨_,rfl⟩,⟨rfl,_,hx,rfl⟩,st',λb hb=>(hf b hb).1⟩⟩
 done:=by
  intro X hP hw hK hc i pins s σ H E I hf st hg
  subst hP hw hK
  obtain⟨f0,f1,f2,f3,f4,f5⟩:=hf it (by simp)
  have hx:x.cps[i]?=none:=by
   have:x.cps.size<=i:=hg
   simp[this]
  exact wpAny_pyNext_ascii_end (I.ok.hd hc) st hx λh' eb=>⟨rfl,I.turned (t':=s.toks) (λb ob hb q=>eb b ob hb q) f0 f1 f3 f4 f5⟩
 self:=λ_ _ _ _ _ st h=>wpAny_pyIter_striter_ascii st h
theorem Cy{P:Program}{w:World}{K:Frag}{tg:Expr}(x:Str)(tk:Tok)(it:Addr):Turn P w K tg (Its x) [it] it (λi h=>h.IsStrIter it "str_iterator" x tk i) where
 mem:=by simp
 obj:=λi h st b hb=>by
  have z:b=it:=by simpa using hb
  subst z
  obtain⟨ob,e1,e2,e3⟩:=st
  exact⟨ob,e1,λv z=>by rw[e3] at z;cases z⟩
 keep:=λi h h' st kp=>by
  obtain⟨ob,e1,e2⟩:=st
  exact⟨ob,kp it (by simp) ob e1,e2⟩
 item:=by
  intro X hP hw hK hc i pins s σ H E I hf st hg
  subst hP hw hK
  obtain⟨f0,f1,f2,f3,f4,f5⟩:=hf it (by simp)
  have lt:i<x.cps.size:=hg
  have hx:x.cps[i]?=some x.cps[i]:=Array.getElem?_eq_getElem lt
  refine wpAny_pyNext_wide_item st hx λh' st' sb=>?_
  have I1:Inv X pins σ H { s with heap:=h',toks:=s.toks+1 }:=I.turned (t':=s.toks+1) (λb ob hb q=>(sb.2 b hb).trans q) f0 f1 f3 f4 f5
  obtain⟨ob,e1,e2,e3⟩:=id st'
  exact⟨_,rfl,JF (s:={ s with heap:=h',toks:=s.toks+1 }) e1 e2 e3 (by decide) ⟨.str ⟨#[x.cps[i]]⟩,H,I1,⟨_,rfl⟩,⟨rfl,_,hx,rfl⟩,st',λb hb=>(hf b hb).1⟩⟩
 done:=by
  intro X hP hw hK hc i pins s σ H E I hf st hg
  subst hP hw hK
  obtain⟨f0,f1,f2,f3,f4,f5⟩:=hf it (by simp)
  have hx:x.cps[i]?=none:=by
   have:x.cps.size<=i:=hg
   simp[this]
  exact wpAny_pyNext_wide_end (I.ok.hd hc) st hx λh' eb=>⟨rfl,I.turned (t':=s.toks) (λb ob hb q=>eb b ob hb q) f0 f1 f3 f4 f5⟩
 self:=λ_ _ _ _ _ st h=>wpAny_pyIter_striter_wide st h
def iStr(tl:TE):TI:=λσ H R=>tl σ H λv H1=>∃x,v=.str x/\R (Its x) H1
theorem pi_str{tg l:Expr}{tl:TE}(hl:PE X l tl):PI X tg l (iStr tl):=by
 intro pins s σ H R I h
 refine thn (hl pins s σ H _ I h) λv s1 ⟨x,H1,I1,r1,q1⟩=>?_
 obtain⟨z,ez,q⟩:=q1
 subst ez
 obtain⟨tk,rfl⟩:=r1
 have fp:∀b∈[s1.heap.objs.size],xQ X pins H1 b:=λb hb=>by
  have eb:b=s1.heap.objs.size:=by simpa using hb
  subst eb
  exact I1.fpOk (Nat.le_refl _) (I1.hok.fresh (Nat.le_refl _))
 cases ha:z.cps.all (·<128) with
 | true=>exact wpAny_pyIter_ascii ha ⟨s1.heap.objs.size,[s1.heap.objs.size],_,_,H1,rfl,I1.kept (t':=s1.toks) λb ob q=>Heap.get?_push_of_some _ q,Ba z tk _,⟨_,Heap.get?_push_size _ rfl,rfl,rfl⟩,fp,q⟩
 | false=>exact wpAny_pyIter_wide ha ⟨s1.heap.objs.size,[s1.heap.objs.size],_,_,H1,rfl,I1.kept (t':=s1.toks) λb ob q=>Heap.get?_push_of_some _ q,Cy z tk _,⟨_,Heap.get?_push_size _ rfl,rfl,rfl⟩,fp,q⟩
def Al(x:Str):List D:=x.cps.toList.map λc=>.str ⟨#[c]⟩
theorem yl_str{K:Frag}{G:Hp}{x:Str}:Yl K Γ G (Its x) (Al x):=by
 have hl:(Al x).length=x.cps.size:=by simp[Al]
 refine⟨λi H s lt=>by rw[hl] at lt;exact lt,λi G' H v H' d s s' y ed=>?_,λi H s le=>by rw[hl] at le;exact le⟩
 obtain⟨rfl,ch,hx,rfl⟩:=y
 unfold Al at ed
 rw[List.getElem?_map] at ed
 obtain⟨ch',e1,rfl⟩:=Option.map_eq_some_iff.mp ed
 have e2:x.cps.toList[i]?=some ch:=by simpa using hx
 rw[e1] at e2
 cases e2
 exact⟨G',.refl s',.str _⟩
def strO(f:DSt->Out D):DSt->Out (List D):=λδ=>(f δ).bind λd=>match d with
 | .str x=>.ok (Al x)
 | _=>.stuck
theorem di_str{tg:Expr}(ha:DE X Γ E a fa):DI X Γ E tg a (strO fa):=PI.imp (pi_str ha) λσ H R ⟨G0,H0,G,δ,S,w⟩=>by
 refine⟨G0,H0,G,δ,S,(aj w).mono (λd w v G1 H1 s1 r1=>?_) λ_ k=>k⟩
 split at w
 .cases r1;exact⟨_,rfl,w _ G1 H1 s1 yl_str⟩
 .exact False.elim w
def rSlS:V->Option Int->Option Int->Hp->VK->Prop:=λx lo hi H Q=>∃z,x=.str z/\z.length<=sizeLine/\Q (.str (Txt.slice z lo hi)) H
theorem sl_str:SlR X rSlS:=by
 intro pins s σ H x v vl vu lo hi sl Q I rx hs pl pu h
 obtain⟨z,rfl,hz,q⟩:=h
 obtain⟨t,rfl⟩:=rx
 obtain⟨ob,h1,h2,h3⟩:=hs
 refine⟨"str",_,PySem.F.slot_str_getitem.lookup,typeIs_str _ _ _,?_⟩
 have fin:∀t' k,EP X pins σ Q (.str (Txt.slice z lo hi) t') { s with toks:=k }:=λt' k=>⟨.str _,H,I.tok k,⟨_,rfl⟩,q⟩
 cases pl with
 | none =>
  cases pu with
  | none=>exact wpAny_getItem_str_slice (l:=none) (u:=none) (st:=none) ⟨ob,h1,h2,h3⟩ rfl (post_val_or_str ⟨Nat.le_trans (Txt.slice_le z _ _) hz,λt' k=>fin t' k⟩)
  | int j u=>exact wpAny_getItem_str_slice (l:=none) (u:=some (j,u)) (st:=none) ⟨ob,h1,h2,h3⟩ rfl (post_val_or_str ⟨Nat.le_trans (Txt.slice_le z _ _) hz,λt' k=>fin t' k⟩)
 | int i u' =>
  cases pu with
  | none=>exact wpAny_getItem_str_slice (l:=some (i,u')) (u:=none) (st:=none) ⟨ob,h1,h2,h3⟩ rfl (post_val_or_str ⟨Nat.le_trans (Txt.slice_le z _ _) hz,λt' k=>fin t' k⟩)
  | int j u=>exact wpAny_getItem_str_slice (l:=some (i,u')) (u:=some (j,u)) (st:=none) ⟨ob,h1,h2,h3⟩ rfl (post_val_or_str ⟨Nat.le_trans (Txt.slice_le z _ _) hz,λt' k=>fin t' k⟩)
def toD(K:Frag)(Γ:Nat->Option Addr)(E:XK)(f:DSt->Out (Option Int)):TO:=λσ H Q=>∃G0 H0 G δ,SR K Γ G0 H0 G H σ δ/\wpO (f δ) (λb=>∀G' H',Step G H G' H'->Q b H') (exD K Γ E G H)
abbrev DO(X:Cx)(Γ:Nat->Option Addr)(E:XK)(lo:Option Expr)(f:DSt->Out (Option Int)):Prop:=PO X lo (toD X.K Γ E f)
theorem PO.imp{lo:Option Expr}{t t':TO}(h:PO X lo t)(k:∀σ H Q,t' σ H Q->t σ H Q):PO X lo t':=λpins s σ H Q I q=>h pins s σ H Q I (k _ _ _ q)
def noI:DSt->Out (Option Int):=λ_=>.ok none
def soI(f:DSt->Out D):DSt->Out (Option Int):=λδ=>(f δ).bind λd=>match d with
 | .int i=>.ok (some i)
 | _=>.stuck
theorem gM:DO X Γ E none noI:=PO.imp po_none λσ H Q ⟨G0,H0,G,δ,S,w⟩=>w G H (.refl S.st.gh)
theorem gO(h:DE X Γ E e fa):DO X Γ E (some e) (soI fa):=PO.imp (po_some h) λσ H Q ⟨G0,H0,G,δ,S,w⟩=>by
 refine⟨G0,H0,G,δ,S,(aj w).mono (λd w v G1 H1 s1 r1=>?_) λ_ k=>k⟩
 split at w
 .cases r1;exact⟨_,rfl,w G1 H1 s1⟩
 .exact False.elim w
def ut(xs:List D)(lo hi:Option Int):List D:=List.take (HT.sIx xs.length xs.length hi - HT.sIx xs.length 0 lo) (List.drop (HT.sIx xs.length 0 lo) xs)
def cutD:D->Option Int->Option Int->Option D
 | .str z,lo,hi=>if z.length<=sizeLine then some (.str (Txt.slice z lo hi)) else none
 | .lst xs,lo,hi=>some (.lst (ut xs lo hi))
 | .rol xs,lo,hi=>some (.lst (ut xs lo hi))
 | _,_,_=>none
def oSl(fa:DSt->Out D)(fl fh:DSt->Out (Option Int)):DSt->Out D:=λδ=>(fa δ).bind λx=>(fl δ).bind λl=>(fh δ).bind λh=>.opt (cutD x l h)
theorem aC.cut{K:Frag}{H:Hp}{vs:List V}{ds:List D}(r:aC K Γ H vs ds)(lo hi:Option Int):aC K Γ H (cutV vs lo hi) (ut ds lo hi):=by
 unfold cutV ut
 rw[r.length]
 exact(r.drop _).take _
theorem eH{lo hi:Option Expr}{p2:Pos}{fl fh:DSt->Out (Option Int)}(he:DE X Γ E e fa)(hl:DO X Γ E lo fl)(hu:DO X Γ E hi fh):DE X Γ E (.Subscript e (.Slice lo hi none p2) pos) (oSl fa fl fh):=PE.imp (pe_slice (sl_str.or sl_list) he hl hu) λσ H Q ⟨G0,H0,G,δ,S,w⟩=>by
 refine⟨G0,H0,G,δ,S,(aj w).mono (λx w v G1 H1 s1 r1=>?_) λ_ k=>k⟩
 refine⟨G0,H0,G1,δ,S.step s1,(aj w).mono (λl w G2 H2 s2=>?_) λ_ k=>k.step s1⟩
 refine⟨G0,H0,G2,δ,(S.step s1).step s2,(aj w).mono (λh w G3 H3 s3=>?_) λ_ k=>k.step (s1.trans s2)⟩
 obtain⟨d,e,k⟩:=bc w
 have r3:=(r1.mono s2.gg).mono s3.gg
 have k3:=k.step ((s1.trans s2).trans s3)
 unfold cutD at e
 split at e
 .split at e
  .cases e;cases r1;exact .inl ⟨_,rfl,‹_›,k3 _ G3 H3 (.refl s3.gh) (.str _)⟩
  .cases e
 .cases e
  cases r3 with
  | lst h r=>exact .inr ⟨_,_,rfl,SqL.of (s3.gh _ _ h),λq hq=>k3 _ _ _ (.new s3.gh hq) (.lst aP ((r.cut _ _).mono (aO.up (aD s3.gh hq))))⟩
 .cases e
  cases r3 with
  | rol h r=>exact .inr ⟨_,_,rfl,s3.gh.seq h,λq hq=>k3 _ _ _ (.new s3.gh hq) (.lst aP ((r.cut _ _).mono (aO.up (aD s3.gh hq))))⟩
 .cases e
theorem Ob:∀{ss:List Str}{us:List Value},Vals (ss.map V.str) us->StrsAre us ss
 | [],_,r=>by cases r;exact .nil
 | x::ss,_,r=>by
  cases r with
  | cons r1 r2=>obtain⟨t,rfl⟩:=r1;exact .cons x t (Ob r2)
def rJoin(K:Frag):V->List V->Hp->VK->Prop:=λx vs H Q=>∃(z:Str)(q:Addr)(ss:List Str),x=.str z/\vs=[.ref q]/\SqL K H q (ss.map V.str)/\(ss.map (·.length)).sum+ss.length*z.length<=16777216/\Q (.str (Txt.join z ss)) H
theorem Gv:MtR X "str.join" (rJoin X.K):=by
 intro pins s σ H x vs v us Q I rx rv h
 obtain⟨z,q,ss,rfl,rfl,hq,hz,k⟩:=h
 obtain⟨t,rfl⟩:=rx
 obtain⟨u,rfl,ru⟩:=rv.one
 cases ru
 obtain⟨its,r',pl,_⟩:=I.list hq
 exact join_list pl.isList (by simpa using Ob r') hz λt' tk=>⟨.str _,H,I.tok tk,⟨_,rfl⟩,k⟩
def lV:List D->Option (List Str)
 | []=>some []
 | .str x::r=>(lV r).map (x::·)
 | _=>none
theorem aC.strs{K:Frag}{H:Hp}:∀{vs:List V}{ds:List D}{ss:List Str},aC K Γ H vs ds->lV ds=some ss->vs=ss.map V.str
 | _,_,_,.nil,e=>by simp only[lV] at e;cases e;rfl
 | _,_,_,.cons (d:=d) (ds:=ds) h r,e=>by
  unfold lV at e
  split at e
  .rename_i z;cases z
  .rename_i z
   cases z
   obtain⟨q,e1,rfl⟩:=Option.map_eq_some_iff.mp e
   cases h
   rw[aC.strs r e1];rfl
  .cases e
def uO(z:Str)(d:D):Option D:=(iI d).bind λds=>(lV ds).bind λss=>if (ss.map (·.length)).sum+ss.length*z.length<=16777216 then some (.str (Txt.join z ss)) else none
def Dt(fo fa:DSt->Out D):DSt->Out D:=λδ=>(fo δ).bind λd=>match d with
 | .str z=>(fa δ).bind λy=>.opt (uO z y)
 | _=>.stuck
theorem Fz{m:Str}{apos cpos:Pos}(ho:DE X Γ E o fo)(ha:DE X Γ E a fa)(hh:∀{to te:TE},PE X o to->PE X a te->PE X (.Call (.Attribute o m apos) [a] [] cpos) (tBM X.K "str" (rJoin X.K) to (iT te lH))):DE X Γ E (.Call (.Attribute o m apos) [a] [] cpos) (Dt fo fa):=PE.imp (hh ho ha) λσ H Q ⟨G0,H0,G,δ,S,w⟩=>by
 refine⟨G0,H0,G,δ,S,(aj w).mono (λd w v G1 H1 s1 r1=>?_) λ_ k=>k⟩
 split at w
 .rename_i z
  cases r1
  refine⟨rfl,G0,H0,G1,δ,S.step s1,(aj w).mono (λy w u G2 H2 s2 r2=>?_) λ_ k=>k.step s1⟩
  obtain⟨r,e,k⟩:=bc w
  unfold uO at e
  obtain⟨ds,e1,e2⟩:=Option.bind_eq_some_iff.mp e
  obtain⟨ss,e3,e4⟩:=Option.bind_eq_some_iff.mp e2
  split at e4
  .cases e4
   obtain⟨q,vs,rfl,sq,ra⟩:=r2.iI e1
   exact⟨z,q,ss,rfl,rfl,(ra.strs e3)▸s2.gh.seq sq,‹_›,k _ G2 H2 (s1.trans s2) (.str _)⟩
  .cases e4
 .exact False.elim w
def iJ:List Str->List Str->List Str
 | acc,[]=>acc
 | acc,x::r=>iJ (if acc.contains x then acc else acc++[x]) r
end
end DL
namespace DL
open PySem PySem.Spec PyProof.Rows MX L2
theorem wy:∀(l acc:List Str)(x:Str),iJ acc (l++[x])=if (iJ acc l).contains x then iJ acc l else iJ acc l++[x]
 | [],acc,x=>rfl
 | y::l,acc,x=>by simp only[List.cons_append,iJ];exact wy l _ x
theorem z6:∀(l acc:List Str),(iJ acc l).length<=acc.length+l.length
 | [],acc=>Nat.le_refl _
 | y::l,acc=>by
  simp only[iJ,List.length_cons]
  have h1:=z6 l (if acc.contains y then acc else acc++[y])
  have h2:(if acc.contains y=true then acc else acc++[y]).length<=acc.length+1:=by split <;> simp
  omega
theorem tV:∀(l acc:List Str),(acc++l).Nodup->iJ acc l=acc++l
 | [],acc,_=>by simp[iJ]
 | y::l,acc,h=>by
  have hy:y∉acc:=λz=>by
   have:=(List.nodup_append.mp h).2.2 y z y List.mem_cons_self
   exact this rfl
  simp only[iJ]
  rw[if_neg (by simpa using hy),tV l (acc++[y]) (by simpa using h)]
  simp
section
variable{prog:Program}{w:World}{A:Around}{E:Value->Shared->Prop}{R:Result->Shared->Prop}
theorem isS(x:Str)(t:Tok):(PySem.strKind prog w).is x (.str x t)=true:=strKind_is prog w x t
theorem Ko{h h':Heap}{a:Addr}{S:Str->Bool}{n:Nat}(x:h.SetOf (PySem.strKind prog w) a S n)(k:∀o,h.get? a=some o->h'.get? a=some o):h'.SetOf (PySem.strKind prog w) a S n:=by
 obtain⟨o,es,ep,tb,ho,z⟩:=x
 exact⟨o,es,ep,tb,k o ho,z⟩
theorem Kp{h:Heap}{a:Addr}{S S':Str->Bool}{n n':Nat}(x:h.SetOf (PySem.strKind prog w) a S n)(e:S=S')(en:n=n'):h.SetOf (PySem.strKind prog w) a S' n':=by subst e en;exact x
theorem set_loop{I l S:Addr}{items:Array Value}{ss:List Str}(hi:items.toList.length=ss.length)(hv:∀(i:Nat) v,items[i]?=some v->∃x t,ss[i]?=some x/\v=.str x t)(W:Walks prog w A.in1 I [I,l] [I] items.size (λi v=>items[i]?=some v) (λi h=>h.IsListIter I l i/\h.IsList l items))
  (nI:S≠I) (nl:S≠l) (few:ss.length+1<scanBound):∀(k i:Nat)(s:Shared),items.size - i=k->i<=items.size->(s.heap.IsListIter I l i/\s.heap.IsList l items) ->
   s.heap.SetOf (PySem.strKind prog w) S (λx=>(iJ [] (ss.take i)).contains x) (iJ [] (ss.take i)).length ->
   (∀h' tk,(∀b o,b≠S->b≠I->s.heap.get? b=some o->h'.get? b=some o)->h'.SetOf (PySem.strKind prog w) S (λx=>(iJ [] ss).contains x) (iJ [] ss).length->R (.ok (.ret .none)) { s with heap:=h',toks:=tk }) ->
   codeAny (model prog w) A (.builtin "set.update.loop" ⟨[.ref S,.ref I],[]⟩) R s:=by
 have hsz:items.size=ss.length:=by simpa using hi
 intro k
 induction k with
 | zero =>
  intro i s ek le st hS q
  obtain rfl:i=items.size:=by omega
  refine codeAny_builtin PyProof.Rows.F.entry_set_update_loop ?_
  rw[Around.under_plainId PyProof.Rows.F.plain_set_update_loop _]
  show wpAny _ A.in1 (pyNext (.ref I) >>= _) _ _ s
  refine wpAny_bind (W.done s _ _ st λh' tk kp=>wpAny_pure (q h' tk (λb o h1 h2 z=>kp b o (by simpa using h2) z) ?_))
  have z:=Ko hS λo ho=>kp S o (by simpa using nI) ho
  rwa [hsz,List.take_length] at z
 | succ k ih =>
  intro i s ek le st hS q
  have lt:i<items.size:=by omega
  refine codeAny_builtin PyProof.Rows.F.entry_set_update_loop ?_
  rw[Around.under_plainId PyProof.Rows.F.plain_set_update_loop _]
  show wpAny _ A.in1 (pyNext (.ref I) >>= _) _ _ s
  refine wpAny_bind (W.item i s _ _ lt st λv h1 tk1 pv st1 kp1=>?_)
  obtain⟨x,t,hx,rfl⟩:=hv i v pv
  have hS1:=Ko (h':=h1) hS λo ho=>kp1 S o (by simpa using nI) ho
  show wpAny _ A.in1 (holding [Value.str x t] (setAdd S (.str x t)) >>= _) _ _ _
  refine wpAny_bind (wpAny_holding ?_)
  unfold setAdd
  refine wpAny_holding (wpAny_bind ((PySem.strKind prog w).pyHash (k:=x) (isS x t) ?_))
  have nl2:=z6 (ss.take i) []
  have tl:(ss.take i).length<=ss.length:=List.length_take_le' i ss
  refine wpAny_setAddHashed_of (knd:=PySem.strKind prog w) (k:=x) (isS x t) rfl hS1 (by simp at nl2;omega) λh2 sb hS2=>?_
  have tk2:ss.take (i+1)=ss.take i++[x]:=by
   obtain⟨hl,e⟩:=List.getElem?_eq_some_iff.mp hx
   rw[List.take_succ,hx];rfl
  have hS3:h2.SetOf (PySem.strKind prog w) S (λx=>(iJ [] (ss.take (i+1))).contains x) (iJ [] (ss.take (i+1))).length:=by
   refine Kp hS2 (funext λy=>?_) ?_
   .rw[tk2,wy]
    by_cases c:(iJ [] (ss.take i)).contains x=true
    .rw[if_pos c]
     by_cases e:y=x
     .subst e;simp only[c,Bool.true_or]
     .simp[e]
    .rw[if_neg c]
     simp
   .rw[tk2,wy]
    by_cases c:(iJ [] (ss.take i)).contains x=true
    .rw[if_pos c,if_pos c]
    .rw[if_neg c,if_neg c];simp
  refine wpAny_pure ⟨plainId_quiet PyProof.Rows.F.plain_set_update_loop _,ih (i+1) _ (by omega) lt ?_ hS3 λh3 tk3 kp3 z=>q h3 tk3 (λb o b1 b2 y=>kp3 b o b1 b2 ((sb.2 b b1).trans (kp1 b o (by simpa using b2) y))) z⟩
  refine W.frame _ _ _ st1 λb hb o y=>?_
  have bS:b≠S:=λz=>by
   subst z
   rcases List.mem_cons.mp hb with z | z
   .exact nI z
   .exact nl (by simpa using z)
  exact(sb.2 b bS).trans y
set_option maxHeartbeats 4000000 in
theorem Bu{s:Shared}{l:Addr}{items:Array Value}{ss:List Str}{Q:Value->Shared->Prop}(hh:A.handled=none)(hl:s.heap.IsList l items)(hi:items.toList.length=ss.length)(hv:∀(i:Nat) v,items[i]?=some v->∃x t,ss[i]?=some x/\v=.str x t)(few:ss.length+1<scanBound)
  (q:∀(h':Heap)(tk:Nat),h'.SetOf (PySem.strKind prog w) s.heap.objs.size (λx=>(iJ [] ss).contains x) (iJ [] ss).length->(∀b o,s.heap.get? b=some o->h'.get? b=some o)->Q (.ref s.heap.objs.size) { s with heap:=h',toks:=tk }) :
  wpAny (model prog w) A (call (.type "set") [.ref l]) Q E s:=by
 obtain⟨c0,tl0,mro0⟩:=PySem.F.called_set.mro
 have made0:=PySem.F.called_set.made
 have sub0:=PySem.F.called_set.sub
 have nt0:=PySem.F.called_set.notType
 have cc0:=PySem.F.called_set.canCreate
 have tc0:=PySem.F.typeCall_set_1 (.ref l)
 refine wpAny_call (codeAny_of_tree ?_)
 show wpAny _ _ (callAny (.type "set") _) _ _ _
 refine wpAny_pure ⟨Code.quiet_builtin _ (by decide +kernel),codeAny_builtin PySem.F.entry_type_call ?_⟩
 rw[Around.under_plain (weight_type_call_type "set" [.ref l] []) rfl]
 repeat (any_goals (first | assumption | wp_step))
 refine codeAny_mono (code_set_new_1 (.ref l) (E:=E) (Q₁:=λob s1=>∃led:Bool,ob=.ref s.heap.objs.size/\s1={ s with heap:=s.heap.push { cls:=.type "set",dict:=none,data:=.set #[] 0 (.fresh 0 0 led) } }) λled=>⟨led,rfl,rfl⟩) λr1 s1 z1=>?_
 cases r1 with
 | error e=>exact z1
 | ok fl1 =>
  cases fl1 with
  | ret ob1 =>
   obtain⟨led,rfl,rfl⟩:=z1
   have hS:=Heap.get?_push_size s.heap (o:={ cls:=.type "set",dict:=none,data:=.set #[] 0 (.fresh 0 0 led) }) rfl
   have hT:Shared.TypeIs { s with heap:=s.heap.push { cls:=.type "set",dict:=none,data:=.set #[] 0 (.fresh 0 0 led) } } (.ref s.heap.objs.size) "set":=⟨_,hS,rfl⟩
   have il0:=PySem.F.called_set.init.lookup
   have ib0:=PySem.F.called_set.init.bind (.ref s.heap.objs.size)
   repeat (any_goals (first | assumption | wp_step))
   refine codeAny_mono (codeAny_call_builtin (R:=wants (λr2 s2=>r2=.none/\∃h' tk,s2={ s with heap:=h',toks:=tk }/\h'.SetOf (PySem.strKind prog w) s.heap.objs.size (λx=>(iJ [] ss).contains x) (iJ [] ss).length/\(∀b o,s.heap.get? b=some o->h'.get? b=some o)) E)
    PySem.F.called_set.init.plain PySem.F.entry_set_init (check_set_init_1 hT ?_)) λr2 s2 z2=>?_
   .obtain⟨⟨cl,dl,dt,sl⟩,hol,hc1,nn,hd1⟩:=hl
    dsimp only at hc1 hd1
    subst hc1
    subst hd1
    have hol1:=Heap.get?_push_of_some (h:=s.heap) { cls:=.type "set",dict:=none,data:=.set #[] 0 (.fresh 0 0 led) } hol
    have sls:=PySem.F.sub_list_set
    have slf:=PySem.F.sub_list_frozenset
    have nld:(Value.type "list"==Value.type "dict")=false:=by decide
    have hl1:(s.heap.push { cls:=.type "set",dict:=none,data:=.set #[] 0 (.fresh 0 0 led) }).IsList l items:=⟨_,hol1,rfl,nn,rfl⟩
    unfold Builtin.«set.__init__» noKeywords Builtin.Frozenset.updateFrom
    generalize hPI:pyIter=PI
    wp_walk
    subst hPI
    refine wpAny_pyIter_list hl1 (wpAny_bind (wpAny_runValue ?_))
    have lS:l<s.heap.objs.size:=Heap.lt_size hol
    have h3:A.in1.in1.in1.handled=none:=by simp[hh]
    have sz1:(s.heap.push { cls:=.type "set",dict:=none,data:=.set #[] 0 (.fresh 0 0 led) }).objs.size=s.heap.objs.size+1:=Heap.size_push ..
    have nel:l≠(s.heap.push { cls:=.type "set",dict:=none,data:=.set #[] 0 (.fresh 0 0 led) }).objs.size:=by rw[sz1];exact Nat.ne_of_lt (Nat.lt_succ_of_lt lS)
    refine set_loop hi hv (Walks.list h3 _ l nel items) (by rw[sz1];exact Nat.ne_of_lt (Nat.lt_succ_self _)) (Nat.ne_of_gt lS) few (items.size - 0) 0 _ rfl (Nat.zero_le _) ⟨⟨_,Heap.get?_push_size _ rfl,rfl,rfl⟩,hl1.push _⟩ ?_ λh' tk kp z=>?_
    .exact Kp ((PyProof.Rows.setObjOf_fresh (knd:=PySem.strKind prog w) led).setOf (Heap.get?_push_of_some _ hS) (by decide)) rfl rfl
    .refine wpAny_pure (wpAny_pure ⟨rfl,h',tk,rfl,z,λb o y=>?_⟩)
     have blt:=Heap.lt_size y
     exact kp b o (Nat.ne_of_lt blt) (by rw[sz1];exact Nat.ne_of_lt (Nat.lt_succ_of_lt blt)) (Heap.get?_push_of_some _ (Heap.get?_push_of_some _ y))
   .cases r2 with
    | error e=>exact z2
    | ok fl2 =>
     cases fl2 with
     | ret r =>
      obtain⟨rfl,h',tk,rfl,zS,kp⟩:=z2
      repeat (any_goals (first | assumption | wp_step))
      exact q _ _ zS kp
     | _=>exact z2.elim
  | _=>exact z1.elim
end
def sstP(n:Nat)(a:Addr)(h:Heap):Prop:=∃o es ep tb,h.get? a=some o/\o.ExactSet/\o.data=.set es ep tb/\tb.fits es.size=true/\es.size=n
section
variable{X:Cx}{Γ:Nat->Option Addr}{E:XK}{e a b c o:Expr}{pos apos p p2 pos2:Pos}{fa:DSt->Out D}
theorem sst_ok{P:Program}{w:World}{H:Hp}{h:Heap}{n:Nat}{a:Addr}(x:sstP n a h):cC P w H h a (.ext (sstP n a)):=by
 refine⟨x,?_,λh1 h2 y k=>?_⟩
 .obtain⟨o,_,_,_,q,_⟩:=x
  exact⟨o,q⟩
 .obtain⟨o,es,ep,tb,q,r⟩:=y
  exact⟨o,es,ep,tb,k o q,r⟩
theorem Lw(hc:X.calm=true):iM X (.type "set") (λxs H Q=>∃(q:Addr)(ss:List Str),xs=[.ref q]/\SqL X.K H q (ss.map V.str)/\ss.length<=1000/\∀z,H z=none->Q (.ref z) (upd H z (.ext (sstP (iJ [] ss).length z)))):=by
 intro pins s σ H xs us Q I r h
 obtain⟨q,ss,rfl,hq,hz,k⟩:=h
 obtain⟨u,rfl,rx⟩:=vals1 r
 cases rx
 obtain⟨its,r',pl,_⟩:=I.list hq
 have hl:=r'.length
 rw[List.length_map] at hl
 refine Bu (ss:=ss) (I.ok.hd hc) pl.isList (by simpa using hl.symm) (λi v hv=>?_) (by unfold scanBound;omega) λh' tk hS kp=>?_
 .have hv:its[i]?=some v:=by simpa using hv
  have lt:i<its.length:=(List.getElem?_eq_some_iff.mp hv).1
  have:(ss.map V.str)[i]?=some (V.str ss[i]):=by rw[List.getElem?_map,List.getElem?_eq_getElem (by omega)];rfl
  obtain⟨u,hu,ru⟩:=r'.get this
  rw[hv] at hu
  cases hu
  obtain⟨t,rfl⟩:=ru
  exact⟨_,t,List.getElem?_eq_getElem (by omega),rfl⟩
 .obtain⟨ob,es,ep,tb,h1,h2,h3,_,_,_,h4,h5⟩:=hS
  exact⟨.ref s.heap.objs.size,_,I.laid (t':=tk) kp (Nat.le_refl _) (sst_ok ⟨ob,es,ep,tb,h1,h2,h3,h4,h5⟩),rfl,k _ (I.hok.fresh (Nat.le_refl _))⟩
theorem Ls:iM X (.builtin "len") (λxs H Q=>∃(z:Addr)(n:Nat),xs=[.ref z]/\H z=some (.ext (sstP n z))/\n<=1000/\Q (.int n) H):=by
 intro pins s σ H xs us Q I r h
 obtain⟨z,n,rfl,hz,hn,k⟩:=h
 obtain⟨u,rfl,rx⟩:=vals1 r
 cases rx
 obtain⟨⟨ob,es,ep,tb,h1,h2,h3,h4,h5⟩,_,_⟩:=I.hok z _ hz
 refine call_len_set h1 h2 h3 h4 (by omega) ⟨.int n,H,I.tok _,⟨s.toks+1,by rw[h5]⟩,k⟩
def tQ:D->Option D:=λd=>(iI d).bind λds=>(lV ds).bind λss=>if ss.length<=1000 then some (.int (iJ [] ss).length) else none
theorem Ov(hc:X.calm=true)(hg:Gl X "len")(hm:X.mg "len"=none)(hg2:Gl X "set")(hm2:X.mg "set"=none)(ha:DE X Γ E a fa)(hs:starEach [a] X.env=[(false,eval a X.env)]:=by rfl)(hs2:starEach [.Call (.Name "set" p2) [a] [] pos2] X.env=[(false,eval (.Call (.Name "set" p2) [a] [] pos2) X.env)]:=by rfl):
  DE X Γ E (.Call (.Name "len" p) [.Call (.Name "set" p2) [a] [] pos2] [] pos) (o1 tQ fa) :=
 PE.imp (uX Ls hg hm PySem.boot_len (aX (lU (Lw hc) hg2 hm2 (by decide +kernel) (aX ha bL (by rw[hs];rfl)) (by decide) (by decide) (by rw[hs];rfl) (by rfl)) bL (by rw[hs2];rfl)) (by decide) (by decide) (by rw[hs2];rfl) (by rfl)) λσ H Q ⟨G0,H0,G,δ,S,w⟩=>by
  refine⟨G0,H0,G,δ,S,(aj w).mono (λd w v G1 H1 s1 r1=>?_) λ_ k=>k⟩
  obtain⟨r,e,k⟩:=bc w
  unfold tQ at e
  obtain⟨ds,e1,e2⟩:=Option.bind_eq_some_iff.mp e
  obtain⟨ss,e3,e4⟩:=Option.bind_eq_some_iff.mp e2
  split at e4
  .rename_i hz
   cases e4
   obtain⟨q,vs,rfl,sq,ra⟩:=r1.iI e1
   have ev:=ra.strs e3
   subst ev
   have hn:=z6 ss []
   exact⟨q,ss,rfl,s1.gh.seq sq,hz,λz hz0=>⟨z,_,rfl,aP,by simp at hn;omega,k _ G1 _ (s1.trans (.aside s1.gh hz0)) (.int _)⟩⟩
  .cases e4
end
end DL
namespace DL
open PySem PySem.Spec PyProof.Rows MX L2
section
variable{K:Frag}{Γ:Nat->Option Addr}{G1 G2:Hp}
end
section
variable{K:Frag}{Γ:Nat->Option Addr}{G0 H0 G H:Hp}{σ:L2.St}{δ:DSt}
end
section
variable{X:Cx}{Γ:Nat->Option Addr}{E:XK}{e:Expr}
end
end DL
namespace DL
open PySem PySem.Spec PyProof.Rows MX L2
def zU:D->Option Key
 | .int i=>some (.inl i)
 | .str x=>some (.inr x)
 | _=>none
def zQ(kvs:List (Key×D))(k:Key):Bool:=kvs.any λkv=>decide (kv.1=k)
def Dy(kvs:List (Key×D))(k:Key)(v:D):List (Key×D) :=
 if (kvs.any λkv=>decide (kv.1=k))=true then kvs.map (λkv=>if kv.1=k then (kv.1,v) else kv) else kvs++[(k,v)]
section
variable{X:Cx}{Γ:Nat->Option Addr}{E:XK}{e a b c:Expr}{pos:Pos}{es:List Expr}{fa fb:DSt->Out D}{fr:DSt->Out (List D)}{ft:DSt->Out Bool}{K:Frag}{G H:Hp}
theorem Rep.key{v:V}{d:D}{k:Key}(r:Rep K Γ G v d)(e:zU d=some k):v=kV k:=by
 cases r <;> simp only[zU] at e <;> cases e <;> rfl
theorem cZ.any{k:Key}:∀{kvs:List (Key×V)}{kds:List (Key×D)},cZ K Γ G kvs kds->(kvs.any λkv=>decide (kv.1=k))=(kds.any λkv=>decide (kv.1=k))
 | _,_,.nil=>rfl
 | _,_,.cons h r=>by rw[List.any_cons,List.any_cons,r.any]
theorem cZ.snoc{k:Key}{v:V}{d:D}(h:Rep K Γ G v d):∀{kvs:List (Key×V)}{kds:List (Key×D)},cZ K Γ G kvs kds->cZ K Γ G (kvs++[(k,v)]) (kds++[(k,d)])
 | _,_,.nil=>.cons h .nil
 | _,_,.cons h' r=>.cons h' (r.snoc h)
theorem cZ.repl{k:Key}{v:V}{d:D}(h:Rep K Γ G v d):∀{kvs:List (Key×V)}{kds:List (Key×D)},cZ K Γ G kvs kds->cZ K Γ G (kvs.map λkv=>if kv.1=k then (kv.1,v) else kv) (kds.map λkv=>if kv.1=k then (kv.1,d) else kv)
 | _,_,.nil=>.nil
 | _,_,.cons (k:=k') h' r=>by
  rw[List.map_cons,List.map_cons]
  by_cases z:k'=k
  .simp only[z,if_true];exact .cons h (r.repl h)
  .simp only[z,if_false];exact .cons h' (r.repl h)
theorem cZ.put{k:Key}{v:V}{d:D}(h:Rep K Γ G v d){kvs:List (Key×V)}{kds:List (Key×D)}(r:cZ K Γ G kvs kds):cZ K Γ G (putK kvs k v) (Dy kds k d):=by
 unfold putK Dy
 rw[r.any]
 split
 .exact r.repl h
 .exact r.snoc h
theorem cZ.length:∀{kvs:List (Key×V)}{kds:List (Key×D)},cZ K Γ G kvs kds->kvs.length=kds.length
 | _,_,.nil=>rfl
 | _,_,.cons _ r=>by rw[List.length_cons,List.length_cons,r.length]
theorem SR.setd{G0 H0 G' H':Hp}{σ:L2.St}{δ:DSt}(S:SR K Γ G0 H0 G H σ δ)(s:Step G H G' H'){i:Nat}{a:Addr}{vs:List (Key×V)}{ds:List (Key×D)}(f:H a=none)(h:H' a=some (.dK vs))(g:G' a=none)(r:cZ K Γ G' vs ds):
  SR K Γ G0 H0 G' H' (σ.set i (some (.ref a))) (δ.set i (some (.od ds))):=by
 obtain⟨O,q⟩:=id S.sl
 have S':=S.step s
 have k:∀b,H b≠none->(λb=>if b=a then some i else O b) b=O b:=λb hb=>by
  have:b≠a:=λz=>hb (z▸f)
  simp[this]
 refine⟨S'.st,by rw[List.length_set,List.length_set];exact S.len,Slots.put S.len (O:=λb=>if b=a then some i else O b) (λj x e ij=>?_) ⟨a,vs,rfl,h,g,aD S.st.hh f,by simp,r⟩⟩
 obtain⟨v,h1,h2⟩:=q j x e
 exact⟨v,h1,(h2.reO k).step s⟩
def MP(i:Nat):DSt->Out Fl:=λδ=>.ok (.nx (δ.set i (some (.od []))))
theorem ds_setd0(i:Nat){x:Str}{pos' p:Pos}(hh:∀{te:TE},PE X (.Dict [] [] p) te->PS X (.Assign [.Name x pos'] (.Dict [] [] p) pos) (tAsg te (xg i))):DS X Γ E (.Assign [.Name x pos'] (.Dict [] [] p) pos) (MP i) :=
 PS.imp (hh pe_dnewK) λN σ H ⟨G0,H0,G,δ,S,w⟩=>λq hq=>w _ G _ (S.setd (.aside S.st.gh hq) hq aP (aD S.st.gh hq) .nil)
theorem cZ.has{k:Key}{kvs:List (Key×V)}{kds:List (Key×D)}(r:cZ K Γ G kvs kds):(jT kvs k).isSome=zQ kds k:=by
 unfold zQ
 rw[←KQ,r.any]
end
end DL
namespace DL
open PySem PySem.Spec PyProof.Rows MX L2
theorem uW{X:Cx}{E:XK}:lg CX0 X E:=λ_ _ _ _ _ _ _ h=>h.elim
def dkOf(i:Nat)(δ:DSt):Option (List (Key×D)):=match δ[i]? with
 | some (some (.od kvs))=>some kvs
 | some (some (.sh (.dK kvs)))=>some kvs
 | _=>none
def tO(kvs:List (Key×D))(k:Key):Option D:=(kvs.find? λkv=>decide (kv.1=k)).map (·.2)
section
variable{X:Cx}{Γ:Nat->Option Addr}{E:XK}{e a b c:Expr}{pos:Pos}{es:List Expr}{fa fb:DSt->Out D}{fr:DSt->Out (List D)}{ft:DSt->Out Bool}{K:Frag}{G H:Hp}
theorem cZ.get{k:Key}:∀{kvs:List (Key×V)}{kds:List (Key×D)},cZ K Γ G kvs kds->(jT kvs k=none/\tO kds k=none)∨∃v d,jT kvs k=some v/\tO kds k=some d/\Rep K Γ G v d
 | _,_,.nil=>.inl ⟨rfl,rfl⟩
 | _,_,.cons (k:=k') (v:=v) (d:=d) (fds:=fds) h r=>by
  by_cases z:k'=k
  .exact .inr ⟨v,d,vA z,by simp[tO,List.find?_cons,z],h⟩
  .rw[vz (p:=(k',v)) z,show tO ((k',d)::fds) k=tO fds k by simp[tO,List.find?_cons,z]]
   exact r.get
theorem SR.dk{G0 H0:Hp}{σ:L2.St}{δ:DSt}{i:Nat}{kds:List (Key×D)}(S:SR K Γ G0 H0 G H σ δ)(e:dkOf i δ=some kds):∃a vs,σ[i]?=some (some (.ref a))/\H a=some (.dK vs)/\cZ K Γ G vs kds:=by
 obtain⟨O,q⟩:=S.sl
 unfold dkOf at e
 split at e
 .rename_i kvs ei
  cases e
  obtain⟨v,hv,a,vs,ev,h1,h2,h3,h4,h5⟩:=q i _ ei
  subst ev
  exact⟨a,vs,hv,h1,h5⟩
 .rename_i kvs ei
  cases e
  obtain⟨v,hv,h⟩:=q i _ ei
  have h:Rep K Γ G v (.dK kds):=h
  cases h with
  | dK h' r=>exact⟨_,_,hv,S.st.gh _ _ h',r⟩
 .cases e
def Jk(i:Nat)(fk:DSt->Out D):DSt->Out D:=λδ=>match dkOf i δ with
 | some kvs=>(fk δ).bind λk=>match zU k with
  | some key=>.ok ((tO kvs key).getD .non)
  | none=>.stuck
 | none=>.stuck
theorem de_dget1(i:Nat){x:Str}{p apos cpos:Pos}(hu:X.A.units+64<cLine)(hv:PE X (.Name x p) (ou i))(ha:DE X Γ E a fa)(m:M1 X (.Name x p) "get" apos a cpos):DE X Γ E (.Call (.Attribute (.Name x p) "get" apos) [a] [] cpos) (Jk i fa) :=
 PE.imp (pe_dget1 (by omega) hv ha m) λσ H Q ⟨G0,H0,G,δ,S,w⟩=>by
  unfold Jk at w
  split at w
  .rename_i kds ek
   obtain⟨aa,vs,hvi,h1,r⟩:=S.dk ek
   refine⟨_,hvi,aa,rfl,.inl ⟨vs,.inl h1⟩,G0,H0,G,δ,S,(aj w).mono (λd w u G1 H1 s1 r1=>?_) λ_ k=>k⟩
   split at w
   .rename_i key ekey
    have e:=r1.key ekey
    subst e
    rcases (r.mono s1.gg).get (k:=key) with⟨z1,z2⟩| ⟨v,d',z1,z2,z3⟩
    .refine⟨_,vD.k (s1.hh _ _ h1),?_⟩
     rw[z1]
     rw[z2] at w
     exact w _ G1 H1 s1 .non
    .refine⟨_,vD.k (s1.hh _ _ h1),?_⟩
     rw[z1]
     rw[z2] at w
     exact w _ G1 H1 s1 z3
   .exact False.elim w
  .exact False.elim w
def dInX(i:Nat)(fk:DSt->Out D):DSt->Out Bool:=λδ=>(fk δ).bind λk=>match zU k,dkOf i δ with
 | some key,some kvs=>.ok (zQ kvs key)
 | _,_=>.stuck
end
section
variable{X:Cx}{Γ:Nat->Option Addr}{E:XK}{e:Expr}{K:Frag}
end
end DL
namespace DL
open PySem PySem.Spec PyProof.Rows MX L2
section
variable{X:Cx}{Γ:Nat->Option Addr}{E:XK}{e a b c o:Expr}{pos p:Pos}{es:List Expr}{fa fb fo:DSt->Out D}{K:Frag}{G H:Hp}
def JL:D->Bool
 | .lst _=>true
 | .rol _=>true
 | _=>false
theorem Rep.listTy{v:V}{d:D}(r:Rep X.K Γ G v d)(h:JL d=true)(s:aO G H):tyV X.K "list" v H:=by
 obtain⟨ds,e⟩:∃ds,DL.iI d=some ds:=by cases d <;> first | exact⟨_,rfl⟩| cases h
 obtain⟨a,vs,rfl,sq,_⟩:=r.iI e
 exact .inl ⟨rfl,_,s.seq sq⟩
end
end DL
namespace DL
open PySem PySem.Spec PyProof.Rows MX L2
section
variable{M:Model}{A:Around}{E:Value->Shared->Prop}{s:Shared}
end
end DL
namespace DL
open PySem PySem.Spec PyProof.Rows MX L2
section
variable{X:Cx}{pins:List (Addr×Obj)}{σ:L2.St}{H:Hp}{s:Shared}
end
section
variable{P:Program}{w:World}{K:Frag}{mg:Str->Option Value}{base:Heap}{N:List Str}{qual:Str}{scope:Scope}{f:Addr}{cd:Value}{A:Around}{outer:List Env}{s:Shared}{H:Hp}{E:XK}
end
end DL
namespace DL
open PySem PySem.Spec PyProof.Rows MX L2
section
variable{M:Model}{A:Around}{E:Value->Shared->Prop}{s:Shared}{env:Env}
variable{nm q:Str}{C N:Addr}{bs bm:List Value}{hdct:Bool}{sn:List Str}{sub:List Value}{ab:Bool}{col:Option Bool}{dd:Option Addr}{k0 k1 k2 k3 k5:Option Value}{newId:String}
end
section
variable{X:Cx}{pins:List (Addr×Obj)}{σ:L2.St}{H:Hp}{s:Shared}
end
end DL
namespace DL
open PySem PySem.Spec PyProof.Rows MX L2
section
variable{P:Program}{w:World}{K:Frag}{mg:Str->Option Value}{base:Heap}{Γ:Nat->Option Addr}
end
section
variable{X:Cx}{Γ:Nat->Option Addr}{E:XK}{e a b c o:Expr}{pos apos:Pos}{es:List Expr}{fa fb fo:DSt->Out D}{fr:DSt->Out (List D)}{CX:CXT}
end
end DL
namespace DL
open PySem PySem.Spec PyProof.Rows MX L2
section
variable{K:Frag}{Γ:Nat->Option Addr}{G0 H0 G H G' H':Hp}{O O':Addr->Option Nat}{σ:L2.St}{δ:DSt}
end
section
variable{X:Cx}{Γ:Nat->Option Addr}{E:XK}{st:Stmt}{g:DSt->Out Fl}{e a b c o:Expr}{pos apos:Pos}{es:List Expr}{fa fb fo:DSt->Out D}{fr:DSt->Out (List D)}{CX:CXT}
end
end DL
namespace DL
open PySem PySem.Spec PyProof.Rows MX L2
section
variable{X:Cx}{Γ:Nat->Option Addr}{E:XK}{st:Stmt}{e a b c o:Expr}{pos apos:Pos}{es:List Expr}{fa fb fo:DSt->Out D}{fr:DSt->Out (List D)}
def catL(fa fb:DSt->Out D):DSt->Out (List D):=λδ=>(fa δ).bind λx=>(fb δ).bind λy=>match x,y with
 | .lst i,.lst j=>if i.length+j.length<=sizeLine then .ok (i++j) else .stuck
 | _,_=>.stuck
theorem df_cat(ha:DE X Γ E a fa)(hb:DE X Γ E b fb):DF X Γ E (.BinOp a .Add b pos) (catL fa fb):=PE.imp (J6 op_cat ha hb) λσ H Q ⟨G0,H0,G,δ,S,w⟩=>by
 refine⟨G0,H0,G,δ,S,(aj w).mono (λx w v G1 H1 s1 r1=>?_) λ_ k=>k⟩
 refine⟨G0,H0,G1,δ,S.step s1,(aj w).mono (λy w u G2 H2 s2 r2=>?_) λ_ k=>k.step s1⟩
 split at w
 .split at w
  .rename_i h
   cases r2 with
   | lst h2 r2 =>
   cases r1 with
   | lst h1 r1 =>
    refine⟨_,_,_,_,rfl,rfl,s2.gh _ _ (s2.gg _ _ h1),s2.gh _ _ h2,by rw[r1.length,r2.length];exact h,λl hl=>?_⟩
    have st:=(s1.trans s2)
    exact w l _ G2 _ (st.trans (.aside st.gh hl)) (aD st.hh hl) aP (aD st.gh hl) ((r1.mono s2.gg).append r2)
  .exact False.elim w
 .exact False.elim w
end
section
variable{K:Frag}
end
end DL
namespace DL
open PySem PySem.Spec PyProof.Rows MX L2
section
variable{X:Cx}{Γ:Nat->Option Addr}{E:XK}{e a b:Expr}{es:List Expr}{fa fb:DSt->Out D}{fr:DSt->Out (List D)}{pos p:Pos}{st:Stmt}{rest:List Stmt}{g g':DSt->Out Fl}
end
section
variable{P:Program}{w:World}{K:Frag}{mg:Str->Option Value}{base:Heap}{Γ:Nat->Option Addr}
end
end DL
namespace DL
open PySem PySem.Spec PyProof.Rows MX L2
section
variable{X:Cx}{pins:List (Addr×Obj)}{σ:L2.St}{H:Hp}{s:Shared}
end
section
variable{X:Cx}{Γ:Nat->Option Addr}{E:XK}{pos:Pos}
end
end DL
namespace MX
open PySem PySem.Spec PyProof.Rows L2
section
variable{X:Cx}{pins:List (Addr×Obj)}{σ:L2.St}{H:Hp}{s:Shared}{h':Heap}
end
section
variable{X:Cx}
end
end MX
namespace DL
open PySem PySem.Spec PyProof.Rows MX L2
section
variable{X:Cx}{Γ:Nat->Option Addr}{E:XK}{a b:Expr}{pos:Pos}{fa fb:DSt->Out D}{K:Frag}{G:Hp}
end
end DL
namespace DL
open PySem PySem.Spec PyProof.Rows MX L2
abbrev Plc:=Nat->Option Addr
def xt(Γ:Plc)(L:Plc):Plc:=λc=>if c<1000 then Γ c else L (c - 1000)
abbrev D.loc(k:Nat):D:=.cls (1000+k)
theorem xt_loc{Γ L:Plc}(k:Nat):xt Γ L (1000+k)=L k:=by
 unfold xt
 rw[if_neg (by omega),Nat.add_sub_cancel_left]
def Le(L L':Plc):Prop:=∀k a,L k=some a->L' k=some a
theorem Le.refl(L:Plc):Le L L:=λ_ _ h=>h
theorem Le.trans{L L1 L2:Plc}(a:Le L L1)(b:Le L1 L2):Le L L2:=λk x h=>b k x (a k x h)
theorem Le.xt{Γ L L':Plc}(h:Le L L'):Le (xt Γ L) (DL.xt Γ L'):=λc a e=>by
 unfold DL.xt at e ⊢
 by_cases q:c<1000
 .rw[if_pos q] at e ⊢;exact e
 .rw[if_neg q] at e ⊢;exact h _ _ e
section
variable{K:Frag}{Γ Γ':Plc}{G:Hp}
mutual
theorem Rep.gam(e:Le Γ Γ'):∀{v:V}{d:D},Rep K Γ G v d->Rep K Γ' G v d
 | _,_,.non=>.non
 | _,_,.bl b=>.bl b
 | _,_,.int i=>.int i
 | _,_,.str x=>.str x
 | _,_,.ty n=>.ty n
 | _,_,.cls h=>.cls (e _ _ h)
 | _,_,.lst h r=>.lst h (aC.gam e r)
 | _,_,.tup h r=>.tup h (aC.gam e r)
 | _,_,.rol h r=>.rol h (aC.gam e r)
 | _,_,.rot h r=>.rot h (aC.gam e r)
 | _,_,.dK h r=>.dK h (cZ.gam e r)
 | _,_,.dT h r=>.dT h (rW.gam e r)
 | _,_,.obj h g r=>.obj h (e _ _ g) (iC.gam e r)
 | _,_,.e0 h g=>.e0 h (e _ _ g)
 | _,_,.e1 h h' g r=>.e1 h h' (e _ _ g) (iC.gam e r)
theorem aC.gam(e:Le Γ Γ'):∀{v:List V}{d:List D},aC K Γ G v d->aC K Γ' G v d
 | _,_,.nil=>.nil
 | _,_,.cons h r=>.cons (Rep.gam e h) (aC.gam e r)
theorem iC.gam(e:Le Γ Γ'):∀{v:List (Str×V)}{d:List (Str×D)},iC K Γ G v d->iC K Γ' G v d
 | _,_,.nil=>.nil
 | _,_,.cons h r=>.cons (Rep.gam e h) (iC.gam e r)
theorem cZ.gam(e:Le Γ Γ'):∀{v:List (Key×V)}{d:List (Key×D)},cZ K Γ G v d->cZ K Γ' G v d
 | _,_,.nil=>.nil
 | _,_,.cons h r=>.cons (Rep.gam e h) (cZ.gam e r)
theorem rW.gam(e:Le Γ Γ'):∀{v:List (List Key×V)}{d:List (List Key×D)},rW K Γ G v d->rW K Γ' G v d
 | _,_,.nil=>.nil
 | _,_,.cons h r=>.cons (Rep.gam e h) (rW.gam e r)
end
end
inductive Cl where
 | lst (ds:List D) | dK (kvs:List (Key×D)) | dT (kvs:List (List Key×D)) | obj (c:Nat) (fs:List (Str×D))
abbrev Mem:=List Cl
def ClOk(K:Frag)(Γ:Plc)(G H:Hp)(a:Addr):Cl->Prop
 | .lst ds=>∃vs,H a=some (.lst vs)/\aC K Γ G vs ds
 | .dK ds=>∃vs,H a=some (.dK vs)/\cZ K Γ G vs ds
 | .dT ds=>∃vs,H a=some (.dT vs)/\rW K Γ G vs ds
 | .obj c fs=>∃C dx vs,H a=some (.ins C dx vs)/\Γ c=some C/\iC K Γ G vs fs
theorem ClOk.some{K:Frag}{Γ:Plc}{G H:Hp}{a:Addr}{c:Cl}(h:ClOk K Γ G H a c):H a≠none:=by
 cases c with
 | lst _=>obtain⟨_,e,_⟩:=h;rw[e];exact λq=>nomatch q
 | dK _=>obtain⟨_,e,_⟩:=h;rw[e];exact λq=>nomatch q
 | dT _=>obtain⟨_,e,_⟩:=h;rw[e];exact λq=>nomatch q
 | obj _ _=>obtain⟨_,_,_,e,_⟩:=h;rw[e];exact λq=>nomatch q
theorem ClOk.up{K:Frag}{Γ Γ':Plc}{G H G' H':Hp}{a:Addr}{c:Cl}(h:ClOk K Γ G H a c)(l:Le Γ Γ')(g:aO G G')(e:H' a=H a):ClOk K Γ' G' H' a c:=by
 cases c with
 | lst _=>obtain⟨vs,q,r⟩:=h;exact⟨vs,e.trans q,(r.gam l).mono g⟩
 | dK _=>obtain⟨vs,q,r⟩:=h;exact⟨vs,e.trans q,(r.gam l).mono g⟩
 | dT _=>obtain⟨vs,q,r⟩:=h;exact⟨vs,e.trans q,(r.gam l).mono g⟩
 | obj _ _=>obtain⟨C,dx,vs,q,z,r⟩:=h;exact⟨C,dx,vs,e.trans q,l _ _ z,(r.gam l).mono g⟩
structure sE(K:Frag)(Γ:Plc)(L:Plc)(H0 G H:Hp)(μ:Mem):Prop where
 at_:∀k c,μ[k]?=some c->∃a,L k=some a/\H0 a=none/\G a=none/\ClOk K (xt Γ L) G H a c
 inj:∀k k' a,L k=some a->L k'=some a->k=k'
 top:∀k a,L k=some a->k<μ.length
theorem sE.get{K:Frag}{Γ L:Plc}{H0 G H:Hp}{μ:Mem}(M:sE K Γ L H0 G H μ){k:Nat}{a:Addr}(h:L k=some a):∃c,μ[k]?=some c/\H0 a=none/\G a=none/\ClOk K (xt Γ L) G H a c:=by
 have lt:=M.top _ _ h
 obtain⟨a',e,q⟩:=M.at_ k μ[k] (by simp[lt])
 rw[h] at e
 cases e
 exact⟨μ[k],by simp[lt],q⟩
open Classical in
noncomputable def ov(L:Plc)(H H0:Hp):Hp:=λb=>if ∃k,L k=some b then H b else H0 b
theorem oK{L:Plc}{H H0:Hp}{k:Nat}{b:Addr}(h:L k=some b):ov L H H0 b=H b:=if_pos ⟨k,h⟩
theorem cH{L:Plc}{H H0:Hp}{b:Addr}(h:¬∃k,L k=some b):ov L H H0 b=H0 b:=if_neg h
theorem NT{L:Plc}{H H' H0:Hp}(h:∀k a,L k=some a->H' a=H a):ov L H' H0=ov L H H0:=by
 funext b
 by_cases z:∃k,L k=some b
 .obtain⟨k,e⟩:=z
  rw[oK e,oK e,h k b e]
 .rw[cH z,cH z]
noncomputable abbrev hid(L:Plc)(H:Hp):Hp:=ov L (λ_=>none) H
structure StM(K:Frag)(Γ:Plc)(L0:Plc)(G0 H0:Hp)(L:Plc)(G H:Hp)(μ:Mem):Prop where
 le:Le L0 L
 st:Step G0 H0 G H
 mem:sE K Γ L H0 G H μ
structure SRS(K:Frag)(Γ:Plc)(L0:Plc)(G0 H0:Hp)(L:Plc)(G H:Hp)(σ:L2.St)(δ:DSt)(μ:Mem):Prop where
 le:Le L0 L
 sr:SR K (xt Γ L) G0 (ov L H H0) G H σ δ
 mem:sE K Γ L H0 G H μ
section
variable{K:Frag}{Γ Γ':Plc}{G0 H0 H0' G H G' H':Hp}{O:Addr->Option Nat}{σ σ':L2.St}{δ δ':DSt}{L0 L L':Plc}{μ μ':Mem}
theorem Inner.go{i:Nat}(l:Le Γ Γ')(gg:aO G G')(hb:∀b o,H b=some o->H0 b=none->G b=none->H' b=some o/\H0' b=none/\G' b=none):∀{vs:List V}{dss:List (List D)},Inner K Γ H0 G H O i vs dss->Inner K Γ' H0' G' H' O i vs dss
 | _,_,.nil=>.nil
 | _,_,.cons h g h0 o r n t=>.cons (hb _ _ h h0 g).1 (hb _ _ h h0 g).2.2 (hb _ _ h h0 g).2.1 o ((r.gam l).mono gg) n (Inner.go l gg hb t)
theorem bA.go{i:Nat}(l:Le Γ Γ')(gg:aO G G')(hb:∀b o,H b=some o->H0 b=none->G b=none->H' b=some o/\H0' b=none/\G' b=none):∀{vs:List V}{es:List Mx}{bs:List Addr},bA K Γ H0 G H O i vs es bs->bA K Γ' H0' G' H' O i vs es bs
 | _,_,_,.nil=>.nil
 | _,_,_,.own h g h0 o r n t=>.own (hb _ _ h h0 g).1 (hb _ _ h h0 g).2.2 (hb _ _ h h0 g).2.1 o ((r.gam l).mono gg) n (bA.go l gg hb t)
 | _,_,_,.fix r t=>.fix ((r.gam l).mono gg) (bA.go l gg hb t)
theorem bN.go{i:Nat}{v:V}{x:Sl}(h:bN K Γ H0 G H O i v x)(l:Le Γ Γ')(gg:aO G G')(hb:∀b o,H b=some o->H0 b=none->G b=none->H' b=some o/\H0' b=none/\G' b=none):bN K Γ' H0' G' H' O i v x:=by
 cases x with
 | sh d=>exact(Rep.gam l h).mono gg
 | ol ds=>obtain⟨a,vs,e,h1,h2,h3,h4,h5⟩:=h;obtain⟨k1,k2,k3⟩:=hb _ _ h1 h3 h2;exact⟨a,vs,e,k1,k3,k2,h4,(h5.gam l).mono gg⟩
 | oll ds=>obtain⟨a,vs,e,h1,h2,h3,h4,h5,h6⟩:=h;obtain⟨k1,k2,k3⟩:=hb _ _ h1 h3 h2;exact⟨a,vs,e,k1,k3,k2,h4,h5,h6.go l gg hb⟩
 | od ds=>obtain⟨a,vs,e,h1,h2,h3,h4,h5⟩:=h;obtain⟨k1,k2,k3⟩:=hb _ _ h1 h3 h2;exact⟨a,vs,e,k1,k3,k2,h4,(h5.gam l).mono gg⟩
 | odT ds=>obtain⟨a,vs,e,h1,h2,h3,h4,h5⟩:=h;obtain⟨k1,k2,k3⟩:=hb _ _ h1 h3 h2;exact⟨a,vs,e,k1,k3,k2,h4,(h5.gam l).mono gg⟩
 | omx ds=>obtain⟨a,vs,bs,e,h1,h2,h3,h4,h5,h6⟩:=h;obtain⟨k1,k2,k3⟩:=hb _ _ h1 h3 h2;exact⟨a,vs,bs,e,k1,k3,k2,h4,h5,h6.go l gg hb⟩
theorem SR.go{G0 H0 G0' H0':Hp}(S:SR K Γ G0 H0 G H σ δ)(l:Le Γ Γ')(gg:aO G G')(st:Step G0' H0' G' H')(hb:∀b o,H b=some o->H0 b=none->G b=none->H' b=some o/\H0' b=none/\G' b=none):SR K Γ' G0' H0' G' H' σ δ:=by
 refine⟨st,S.len,?_⟩
 obtain⟨O,q⟩:=S.sl
 refine⟨O,λi x e=>?_⟩
 obtain⟨v,h1,h2⟩:=q i x e
 exact⟨v,h1,h2.go l gg hb⟩
theorem sE.nu(M:sE K Γ L H0 G H μ){b:Addr}{o:HO}(h:H0 b=some o):¬∃k,L k=some b:=λ⟨k,e⟩=>by
 obtain⟨c,_,z,_⟩:=M.get e
 rw[h] at z
 cases z
theorem SRS.stm(S:SRS K Γ L0 G0 H0 L G H σ δ μ):StM K Γ L0 G0 H0 L G H μ :=
 ⟨S.le,⟨S.sr.st.gg,λb o e=>S.sr.st.hh b o ((cH (S.mem.nu e)).trans e),S.sr.st.gh,λb hb g=>S.sr.st.sep b (λz=>by
  cases q:H0 b with
  | none=>exact hb q
  | some o=>rw[cH (S.mem.nu q),q] at z;cases z) g⟩,S.mem⟩
theorem SRS.pure(S:SRS K Γ L0 G0 H0 L G H σ δ μ)(s:Step G H G' H'):SRS K Γ L0 G0 H0 L G' H' σ δ μ:=by
 have hc:∀k a,L k=some a->H' a=H a:=λk a e=>by
  obtain⟨c,_,_,_,q⟩:=S.mem.get e
  cases z:H a with
  | none=>exact absurd z q.some
  | some o=>exact s.hh _ _ z
 refine⟨S.le,by rw[NT hc];exact S.sr.step s,λk c e=>?_,S.mem.inj,S.mem.top⟩
 obtain⟨a,h1,h2,h3,h4⟩:=S.mem.at_ k c e
 exact⟨a,h1,h2,s.sep a h4.some h3,h4.up (.refl _) s.gg (hc k a h1)⟩
def um(L:Plc)(n:Nat)(p:Addr):Plc:=λk=>if k=n then some p else L k
theorem yW{L:Plc}{n:Nat}{p:Addr}:um L n p n=some p:=if_pos rfl
theorem sE.Mg(M:sE K Γ L H0 G H μ)(p:Addr):Le L (um L μ.length p):=λk a e=>by
 unfold um
 rw[if_neg (Nat.ne_of_lt (M.top k a e))]
 exact e
theorem SRS.adopt(S:SRS K Γ L0 G0 H0 L G H σ δ μ){p:Addr}{c:Cl}(s:Step G H G' H')(hp:H p=none)(gp:G' p=none)(hc:ClOk K (xt Γ (um L μ.length p)) G' H' p c):SRS K Γ L0 G0 H0 (um L μ.length p) G' H' σ δ (μ++[c]):=by
 have zp:H0 p=none:=S.stm.st.hh.free hp
 have le:=S.mem.Mg p
 have S1:=S.pure s
 have T1:=S1.stm
 have inv:∀k b,um L μ.length p k=some b->(k=μ.length/\b=p)∨L k=some b:=λk b e=>by
  unfold um at e
  split at e
  .cases e;exact .inl ⟨‹_›,rfl⟩
  .exact .inr e
 have nin:∀k b,L k=some b->b≠p:=λk b e z=>(S.mem.get e).choose_spec.2.2.2.some (z▸hp)
 refine⟨S.le.trans le,?_,λk' c' e=>?_,λk k' a e e'=>?_,λk a e=>?_⟩
 .refine S.sr.go le.xt s.gg ⟨S1.sr.st.gg,λb u e=>?_,s.gh,λb hb g=>?_⟩ λb u e z g=>?_
  .by_cases q:∃k,um L μ.length p k=some b
   .obtain⟨k,e'⟩:=q;rw[oK e'] at e;exact e
   .rw[cH q] at e
    exact T1.st.hh b u e
  .by_cases q:∃k,um L μ.length p k=some b
   .obtain⟨k,e'⟩:=q
    rcases inv k b e' with⟨_,z⟩| z
    .rw[z];exact gp
    .exact(S1.mem.get z).choose_spec.2.2.1
   .rw[cH q] at hb
    exact T1.st.sep b hb g
  .have nc:¬∃k,L k=some b:=λ⟨k,e'⟩=>by rw[oK e',e] at z;cases z
   rw[cH nc] at z
   have nc':¬∃k,um L μ.length p k=some b:=λ⟨k,e'⟩=>by
    rcases inv k b e' with⟨_,y⟩| y
    .rw[y,hp] at e;cases e
    .exact nc ⟨k,y⟩
   exact⟨s.hh _ _ e,by rw[cH nc'];exact z,s.sep b (by rw[e];exact λq=>nomatch q) g⟩
 .by_cases q:k'<μ.length
  .rw[List.getElem?_append_left q] at e
   obtain⟨a,h1,h2,h3,h4⟩:=S1.mem.at_ k' c' e
   exact⟨a,le _ _ h1,h2,h3,h4.up le.xt (aO.refl _) rfl⟩
  .rw[List.getElem?_append_right (by omega)] at e
   have:k'=μ.length:=by
    have:=(List.getElem?_eq_some_iff.mp e).1
    simp at this
    omega
   subst this
   simp at e
   subst e
   exact⟨p,yW,zp,gp,hc⟩
 .rcases inv k a e with⟨z1,z2⟩| z <;> rcases inv k' a e' with⟨y1,y2⟩| y
  .rw[z1,y1]
  .exact absurd z2 (nin _ _ y)
  .exact absurd y2 (nin _ _ z)
  .exact S.mem.inj k k' a z y
 .rw[List.length_append,List.length_singleton]
  rcases inv k a e with⟨z1,z2⟩| z
  .omega
  .have:=S.mem.top k a z;omega
theorem StM.adopt(S:StM K Γ L0 G0 H0 L G H μ){p:Addr}{c:Cl}(zp:H0 p=none)(gp:G p=none)(np:¬∃k,L k=some p)(hc:ClOk K (xt Γ (um L μ.length p)) G H p c):StM K Γ L0 G0 H0 (um L μ.length p) G H (μ++[c]):=by
 have le:=S.mem.Mg p
 have inv:∀k b,um L μ.length p k=some b->(k=μ.length/\b=p)∨L k=some b:=λk b e=>by
  unfold um at e
  split at e
  .cases e;exact .inl ⟨‹_›,rfl⟩
  .exact .inr e
 refine⟨S.le.trans le,S.st,λk' c' e=>?_,λk k' a e e'=>?_,λk a e=>?_⟩
 .by_cases q:k'<μ.length
  .rw[List.getElem?_append_left q] at e
   obtain⟨a,h1,h2,h3,h4⟩:=S.mem.at_ k' c' e
   exact⟨a,le _ _ h1,h2,h3,h4.up le.xt (aO.refl _) rfl⟩
  .rw[List.getElem?_append_right (by omega)] at e
   have:k'=μ.length:=by
    have:=(List.getElem?_eq_some_iff.mp e).1
    simp at this
    omega
   subst this
   simp at e
   subst e
   exact⟨p,yW,zp,gp,hc⟩
 .rcases inv k a e with⟨z1,z2⟩| z <;> rcases inv k' a e' with⟨y1,y2⟩| y
  .rw[z1,y1]
  .exact absurd ⟨_,z2▸y⟩ np
  .exact absurd ⟨_,y2▸z⟩ np
  .exact S.mem.inj k k' a z y
 .rw[List.length_append,List.length_singleton]
  rcases inv k a e with⟨z1,z2⟩| z
  .omega
  .have:=S.mem.top k a z;omega
theorem StM.frz(S:StM K Γ L0 G0 H0 L G H μ){p:Addr}(zp:H0 p=none)(gp:G p=none)(np:¬∃k,L k=some p):StM K Γ L0 G0 H0 L (dG G H λb=>decide (b=p)) H μ:=by
 have sm:aO G (dG G H λb=>decide (b=p)):=dH λb z=>by obtain rfl:=of_decide_eq_true z;exact gp
 refine⟨S.le,S.st.frz _ λb z=>by obtain rfl:=of_decide_eq_true z;exact⟨gp,zp⟩,λk c e=>?_,S.mem.inj,S.mem.top⟩
 obtain⟨a,h1,h2,h3,h4⟩:=S.mem.at_ k c e
 refine⟨a,h1,h2,?_,h4.up (.refl _) sm rfl⟩
 unfold dG
 rw[if_neg (by simp;exact λz=>np ⟨k,z▸h1⟩)]
 exact h3
open Classical in
noncomputable def hb0(B G H:Hp):Hp:=λb=>if B b=none/\G b=none then none else H b
theorem JG{B G H:Hp}{b:Addr}(s:aO B H)(h:hb0 B G H b=none):B b=none:=by
 unfold hb0 at h
 split at h
 .rename_i z;exact z.1
 .exact s.free h
theorem SRS.enter(S:SRS K Γ L0 G0 H0 L G H σ δ μ):SR K (xt Γ L) G (hb0 (ov L H H0) G H) G H σ δ:=by
 refine S.sr.go (.refl _) (aO.refl _) ⟨aO.refl _,λb o e=>?_,S.sr.st.gh,λ_ _ g=>g⟩ λb o e z g=>⟨e,by unfold hb0;rw[if_pos ⟨z,g⟩],g⟩
 unfold hb0 at e
 split at e
 .cases e
 .exact e
theorem Step.leave(S:SRS K Γ L0 G0 H0 L G H σ δ μ)(s:Step G (hb0 (ov L H H0) G H) G' H'):Step G0 (ov L H H0) G' H'/\∀k a,L k=some a->H' a=H a:=by
 have hs:∀b o,ov L H H0 b=some o->H' b=some o:=λb o e=>s.hh b o (by
  unfold hb0
  rw[if_neg (λz=>by rw[e] at z;cases z.1)]
  exact S.sr.st.hh b o e)
 refine⟨⟨S.sr.st.gg.trans s.gg,hs,s.gh,λb hb g=>s.sep b (λz=>?_) (S.sr.st.sep b hb g)⟩,λk a e=>?_⟩
 .unfold hb0 at z
  split at z
  .rename_i y;exact hb y.1
  .cases q:ov L H H0 b with
   | none=>exact hb q
   | some o=>rw[S.sr.st.hh b o q] at z;cases z
 .cases z:H a with
  | none=>exact absurd z (S.mem.get e).choose_spec.2.2.2.some
  | some o=>exact hs a o ((oK e).trans z)
theorem SRS.leaveM(S:SRS K Γ L0 G0 H0 L G H σ δ μ)(s:Step G (hb0 (ov L H H0) G H) G' H'):sE K Γ L H0 G' H' μ:=by
 obtain⟨st,hc⟩:=Step.leave S s
 refine⟨λk c e=>?_,S.mem.inj,S.mem.top⟩
 obtain⟨a,h1,h2,h3,h4⟩:=S.mem.at_ k c e
 refine⟨a,h1,h2,?_,h4.up (.refl _) s.gg (hc k a h1)⟩
 exact st.sep a (by rw[oK h1];exact h4.some) (S.sr.st.gg.free h3)
theorem SRS.leave(S:SRS K Γ L0 G0 H0 L G H σ δ μ)(S':SR K (xt Γ L) G (hb0 (ov L H H0) G H) G' H' σ' δ'):SRS K Γ L0 G0 H0 L G' H' σ' δ' μ:=by
 obtain⟨st,hc⟩:=Step.leave S S'.st
 refine⟨S.le,?_,S.leaveM S'.st⟩
 rw[NT hc]
 exact S'.go (.refl _) (aO.refl _) st λb o e z g=>⟨e,JG S.sr.st.hh z,g⟩
theorem SRS.Mh(S:SRS K Γ L0 G0 H0 L G H σ δ μ)(s:Step G (hb0 (ov L H H0) G H) G' H'):StM K Γ L0 G0 H0 L G' H' μ:=by
 obtain⟨st,hc⟩:=Step.leave S s
 exact⟨S.le,⟨st.gg,λb o e=>st.hh b o ((cH (S.mem.nu e)).trans e),st.gh,λb hb g=>st.sep b (λz=>by
  cases q:H0 b with
  | none=>exact hb q
  | some o=>rw[cH (S.mem.nu q),q] at z;cases z) g⟩,S.leaveM s⟩
theorem SRS.later{L1:Plc}{G1:Hp}(S:SRS K Γ L0 G0 H0 L G H σ δ μ)(l:Le L1 L)(g01:aO G0 G1)(s:aO G1 G):SRS K Γ L1 G1 (un2 H0 G1) L G H σ δ μ:=by
 refine⟨l,?_,λk c e=>?_,S.mem.inj,S.mem.top⟩
 .refine S.sr.go (.refl _) (aO.refl _) ⟨s,λb o e=>?_,S.sr.st.gh,λb hb g=>?_⟩ λb o e z g=>?_
  .by_cases q:∃k,L k=some b
   .obtain⟨k,e'⟩:=q;rw[oK e'] at e;exact e
   .rw[cH q] at e
    rcases KN e with e | e
    .exact S.stm.st.hh _ _ e
    .exact S.sr.st.gh _ _ (s _ _ e)
  .by_cases q:∃k,L k=some b
   .obtain⟨k,e'⟩:=q;exact(S.mem.get e').choose_spec.2.2.1
   .rw[cH q] at hb
    exact S.stm.st.sep b (λz=>hb (cQ.mpr ⟨z,g⟩)) (g01.free g)
  .have nc:¬∃k,L k=some b:=λ⟨k,e'⟩=>by rw[oK e',e] at z;cases z
   rw[cH nc] at z
   exact⟨e,by rw[cH nc];exact cQ.mpr ⟨z,s.free g⟩,g⟩
 .obtain⟨a,h1,h2,h3,h4⟩:=S.mem.at_ k c e
  exact⟨a,h1,cQ.mpr ⟨h2,s.free h3⟩,h3,h4⟩
theorem StM.back{L1:Plc}{G1 H1:Hp}{μ1:Mem}(T:StM K Γ L0 G0 H0 L1 G1 H1 μ1)(S:StM K Γ L1 G1 (un2 H0 G1) L G H μ):StM K Γ L0 G0 H0 L G H μ:=by
 refine⟨T.le.trans S.le,T.st.back S.st,λk c e=>?_,S.mem.inj,S.mem.top⟩
 obtain⟨a,h1,h2,h3,h4⟩:=S.mem.at_ k c e
 exact⟨a,h1,(cQ.mp h2).1,h3,h4⟩
theorem SRS.back{L1:Plc}{G1 H1:Hp}{μ1:Mem}(T:StM K Γ L0 G0 H0 L1 G1 H1 μ1)(S:SRS K Γ L1 G1 (un2 H0 G1) L G H σ δ μ):SRS K Γ L0 G0 H0 L G H σ δ μ:=by
 have B:=T.back S.stm
 refine⟨B.le,?_,B.mem⟩
 refine S.sr.go (.refl _) (aO.refl _) ⟨B.st.gg,λb o e=>?_,B.st.gh,λb hb g=>?_⟩ λb o e z g=>?_
 .by_cases q:∃k,L k=some b
  .obtain⟨k,e'⟩:=q;rw[oK e'] at e;exact e
  .rw[cH q] at e;exact B.st.hh _ _ e
 .by_cases q:∃k,L k=some b
  .obtain⟨k,e'⟩:=q;exact(S.mem.get e').choose_spec.2.2.1
  .rw[cH q] at hb;exact B.st.sep b hb g
 .have nc:¬∃k,L k=some b:=λ⟨k,e'⟩=>by rw[oK e',e] at z;cases z
  rw[cH nc] at z
  exact⟨e,by rw[cH nc];exact(cQ.mp z).1,g⟩
end
end DL
namespace DL
open PySem PySem.Spec PyProof.Rows MX L2
inductive Res (α:Type) where
 | ok (a:α) (μ:Mem) | ex (x:D) (μ:Mem) | stuck
namespace Res
noncomputable def bind{α β:Type}(r:Res α)(k:α->Mem->Res β):Res β:=match r with
 | .ok a μ=>k a μ
 | .ex x μ=>.ex x μ
 | .stuck=>.stuck
def of{α:Type}(o:Out α)(μ:Mem):Res α:=match o with
 | .ok a=>.ok a μ
 | .ex x=>.ex x μ
 | .stuck=>.stuck
def aY{α:Type}:Res α->Res α
 | .ok a μ=>.ok a μ
 | _=>.stuck
@[simp] theorem eX{α β:Type}(a:α)(μ:Mem)(k:α->Mem->Res β):(Res.ok a μ).bind k=k a μ:=rfl
@[simp] theorem Fo{α β:Type}(x:D)(μ:Mem)(k:α->Mem->Res β):(Res.ex x μ).bind k=.ex x μ:=rfl
@[simp] theorem tH{α β:Type}(k:α->Mem->Res β):(Res.stuck:Res α).bind k=.stuck:=rfl
@[simp] theorem of_ok{α:Type}(a:α)(μ:Mem):of (.ok a) μ=.ok a μ:=rfl
@[simp] theorem yH{α:Type}(a:α)(μ:Mem):aY (Res.ok a μ)=.ok a μ:=rfl
end Res
def wpR{α:Type}(r:Res α)(P:α->Mem->Prop)(R:D->Mem->Prop):Prop:=match r with
 | .ok a μ=>P a μ
 | .ex x μ=>R x μ
 | .stuck=>False
theorem jQ{α β:Type}{r:Res α}{k:α->Mem->Res β}{P:β->Mem->Prop}{R:D->Mem->Prop}(h:wpR (r.bind k) P R):wpR r (λa μ=>wpR (k a μ) P R) R:=by
 cases r <;> exact h
theorem wpR.mono{α:Type}{r:Res α}{P P':α->Mem->Prop}{R R':D->Mem->Prop}(h:wpR r P R)(k:∀a μ,P a μ->P' a μ)(q:∀x μ,R x μ->R' x μ):wpR r P' R':=by
 cases r with
 | ok a μ=>exact k a μ h
 | ex x μ=>exact q x μ h
 | stuck=>exact h
theorem Bd{α:Type}{o:Out α}{μ:Mem}{P:α->Mem->Prop}{R:D->Mem->Prop}(h:wpR (Res.of o μ) P R):wpO o (λa=>P a μ) (λx=>R x μ):=by
 cases o <;> exact h
theorem wpR_noex{α:Type}{r:Res α}{P:α->Mem->Prop}{R R':D->Mem->Prop}(h:wpR r.aY P R):wpR r P R':=by
 cases r with
 | ok a μ=>exact h
 | ex x μ=>exact False.elim h
 | stuck=>exact h
section
variable(K:Frag)(Γ:Plc)(E:XK)
def exS(L0:Plc)(G0 H0:Hp)(x:D)(μ:Mem):Prop:=∀a L G H,StM K Γ L0 G0 H0 L G H μ->Rep K (xt Γ L) G (.ref a) x->E (.ref a) none H
def teS(f:DSt->Mem->Res D):TE:=λσ H Q=>∃L0 G0 H0 L G δ μ,SRS K Γ L0 G0 H0 L G H σ δ μ /\
 wpR (f δ μ) (λd μ'=>∀v L' G' H',SRS K Γ L0 G0 H0 L' G' H' σ δ μ'->Le L L'->aO G G'->Rep K (xt Γ L') G' v d->Q v H') (exS K Γ E L0 G0 H0)
def ttS(f:DSt->Mem->Res Bool):TT:=λσ H Q=>∃L0 G0 H0 L G δ μ,SRS K Γ L0 G0 H0 L G H σ δ μ /\
 wpR (f δ μ) (λd μ'=>∀L' G' H',SRS K Γ L0 G0 H0 L' G' H' σ δ μ'->Le L L'->aO G G'->Q d H') (exS K Γ E L0 G0 H0)
def tiS(f:DSt->Mem->Res (List D)):TI:=λσ H R=>∃L0 G0 H0 L G δ μ,SRS K Γ L0 G0 H0 L G H σ δ μ /\
 wpR (f δ μ) (λds μ'=>∀J L' G' H',SRS K Γ L0 G0 H0 L' G' H' σ δ μ'->Le L L'->aO G G'->Yl K (xt Γ L') G' J ds->R J H') (exS K Γ E L0 G0 H0)
def FlS(L0:Plc)(G0 H0:Hp)(N:Ends):Fl->Mem->Prop
 | .nx δ,μ=>∀σ L G H,SRS K Γ L0 G0 H0 L G H σ δ μ->N.nx σ H
 | .rt d,μ=>∀v L G H,StM K Γ L0 G0 H0 L G H μ->Rep K (xt Γ L) G v d->N.rt v H
 | .bk δ,μ=>∀σ L G H,SRS K Γ L0 G0 H0 L G H σ δ μ->N.bk σ H
 | .ct δ,μ=>∀σ L G H,SRS K Γ L0 G0 H0 L G H σ δ μ->N.ct σ H
 | .rl ds,μ=>∀a vs L G H,StM K Γ L0 G0 H0 L G H μ->H0 a=none->(¬∃k,L k=some a)->H a=some (.lst vs)->G a=none->aC K (xt Γ L) G vs ds->N.rt (.ref a) H
 | .rll _,_=>False
def tsS(g:DSt->Mem->Res Fl):TS:=λN σ H=>∃L0 G0 H0 L G δ μ,SRS K Γ L0 G0 H0 L G H σ δ μ/\wpR (g δ μ) (FlS K Γ L0 G0 H0 N) (exS K Γ E L0 G0 H0)
end
abbrev SE(X:Cx)(Γ:Plc)(E:XK)(e:Expr)(f:DSt->Mem->Res D):Prop:=PE X e (teS X.K Γ E f)
abbrev ST(X:Cx)(Γ:Plc)(E:XK)(e:Expr)(f:DSt->Mem->Res Bool):Prop:=PT X e (ttS X.K Γ E f)
abbrev SI(X:Cx)(Γ:Plc)(E:XK)(tg iter:Expr)(f:DSt->Mem->Res (List D)):Prop:=PI X tg iter (tiS X.K Γ E f)
abbrev SS(X:Cx)(Γ:Plc)(E:XK)(st:Stmt)(g:DSt->Mem->Res Fl):Prop:=PS X st (tsS X.K Γ E g)
abbrev SSs(X:Cx)(Γ:Plc)(E:XK)(st:List Stmt)(g:DSt->Mem->Res Fl):Prop:=PSs X st (tsS X.K Γ E g)
section
variable{X:Cx}{Γ:Plc}{E:XK}{e a b c o:Expr}{pos apos:Pos}{es:List Expr}{st:Stmt}{rest sa sb:List Stmt}
theorem PE.ex{α:Type}{t:α->TE}(h:∀x,PE X e (t x)):PE X e (λσ H Q=>∃x,t x σ H Q):=λpins s σ H Q I ⟨x,q⟩=>h x pins s σ H Q I q
theorem PT.ex{α:Type}{t:α->TT}(h:∀x,PT X e (t x)):PT X e (λσ H Q=>∃x,t x σ H Q):=λpins s σ H Q I ⟨x,q⟩=>h x pins s σ H Q I q
theorem PI.ex{α:Type}{tg:Expr}{t:α->TI}(h:∀x,PI X tg e (t x)):PI X tg e (λσ H Q=>∃x,t x σ H Q):=λpins s σ H Q I ⟨x,q⟩=>h x pins s σ H Q I q
theorem PS.ex{α:Type}{t:α->TS}(h:∀x,PS X st (t x)):PS X st (λN σ H=>∃x,t x N σ H):=λpins s σ H Q I ⟨x,q⟩=>h x pins s σ H Q I q
theorem PG.ex{α:Type}{t:α->TG}(h:∀x,PG X e (t x)):PG X e (λv σ H Q=>∃x,t x v σ H Q):=λpins s σ H v u Q I r ⟨x,q⟩=>h x pins s σ H v u Q I r q
theorem exS.old{K:Frag}{L0 L:Plc}{G0 H0 G H:Hp}{σ:L2.St}{δ:DSt}{μ:Mem}{x:D}(S:SRS K Γ L0 G0 H0 L G H σ δ μ)(k:exS K Γ E L0 G0 H0 x μ):exD K (xt Γ L) E G H x:=λa G' H' s r=>k a L G' H' (S.pure s).stm r
def fO{α:Type}(f:DSt->Out α):DSt->Mem->Res α:=λδ μ=>.of (f δ) μ
theorem se_of{f:DSt->Out D}(h:∀L,DE X (xt Γ L) E e f):SE X Γ E e (fO f):=PE.imp (PE.ex h) λσ H Q ⟨L0,G0,H0,L,G,δ,μ,S,w⟩ =>
 ⟨L,G0,ov L H H0,G,δ,S.sr,(Bd w).mono (λd k v G' H' s r=>k v L G' H' (S.pure s) (.refl _) s.gg r) λx k=>exS.old S k⟩
theorem st_of{f:DSt->Out Bool}(h:∀L,DT X (xt Γ L) E e f):ST X Γ E e (fO f):=PT.imp (PT.ex h) λσ H Q ⟨L0,G0,H0,L,G,δ,μ,S,w⟩ =>
 ⟨L,G0,ov L H H0,G,δ,S.sr,(Bd w).mono (λd k G' H' s=>k L G' H' (S.pure s) (.refl _) s.gg) λx k=>exS.old S k⟩
theorem si_of{tg:Expr}{f:DSt->Out (List D)}(h:∀L,DI X (xt Γ L) E tg e f):SI X Γ E tg e (fO f):=PI.imp (PI.ex h) λσ H Q ⟨L0,G0,H0,L,G,δ,μ,S,w⟩ =>
 ⟨L,G0,ov L H H0,G,δ,S.sr,(Bd w).mono (λd k J G' H' s y=>k J L G' H' (S.pure s) (.refl _) s.gg y) λx k=>exS.old S k⟩
theorem vh{g:DSt->Out Fl}(h:∀L,DS X (xt Γ L) E st g):SS X Γ E st (fO g):=PS.imp (PS.ex h) λN σ H ⟨L0,G0,H0,L,G,δ,μ,S,w⟩=>by
 refine⟨L,G,hb0 (ov L H H0) G H,G,δ,S.enter,(Bd w).mono (λfl k=>?_) λx k a G' H' s r=>k a L G' H' (S.Mh s) r⟩
 cases fl with
 | nx δ'=>exact λσ' G' H' S'=>k σ' L G' H' (S.leave S')
 | rt d=>exact λv G' H' s r=>k v L G' H' (S.Mh s) r
 | bk δ'=>exact λσ' G' H' S'=>k σ' L G' H' (S.leave S')
 | ct δ'=>exact λσ' G' H' S'=>k σ' L G' H' (S.leave S')
 | rl ds =>
  intro a vs G' H' s f h g r
  have z:=JG S.sr.st.hh f
  have nc:¬∃k,L k=some a:=λ⟨j,e'⟩=>by
   rw[oK e'] at z
   exact(S.mem.get e').choose_spec.2.2.2.some z
  rw[cH nc] at z
  exact k a vs L G' H' (S.Mh s) z nc h g r
 | rll _=>exact False.elim k
def nilS:DSt->Mem->Res Fl:=λδ μ=>.ok (.nx δ) μ
def vg(g g':DSt->Mem->Res Fl):DSt->Mem->Res Fl:=λδ μ=>(g δ μ).bind λfl μ=>match fl with
 | .nx δ'=>g' δ' μ
 | fl=>.ok fl μ
variable{g g':DSt->Mem->Res Fl}{f fa fb:DSt->Mem->Res D}{ft:DSt->Mem->Res Bool}{fr:DSt->Mem->Res (List D)}
theorem HN:SSs X Γ E [] nilS:=PSs.imp N6 λN σ H ⟨L0,G0,H0,L,G,δ,μ,S,w⟩=>w σ L G H S
theorem dM(h1:SS X Γ E st g)(h2:SSs X Γ E rest g'):SSs X Γ E (st::rest) (vg g g'):=PSs.imp (qJ h1 h2) λN σ H ⟨L0,G0,H0,L,G,δ,μ,S,w⟩=>by
 refine⟨L0,G0,H0,L,G,δ,μ,S,(jQ w).mono (λfl μ1 w=>?_) λ_ _ k=>k⟩
 cases fl with
 | nx δ'=>exact λσ' L' G' H' S'=>⟨L0,G0,H0,L',G',δ',μ1,S',w⟩
 | rt d=>exact w
 | bk d=>exact w
 | ct d=>exact w
 | rl d=>exact w
 | rll d=>exact w
theorem vm(h1:SS X Γ E st g):SSs X Γ E [st] g:=kJ h1
def retS(f:DSt->Mem->Res D):DSt->Mem->Res Fl:=λδ μ=>(f δ μ).bind λd μ=>.ok (.rt d) μ
theorem M8(he:SE X Γ E e f):SS X Γ E (.Return (some e) pos) (retS f):=PS.imp (tX he) λN σ H ⟨L0,G0,H0,L,G,δ,μ,S,w⟩ =>
 ⟨L0,G0,H0,L,G,δ,μ,S,(jQ w).mono (λd μ1 w v L1 G1 H1 S1 l1 s1 r1=>w v L1 G1 H1 S1.stm r1) λ_ _ k=>k⟩
def ifS(t:DSt->Mem->Res Bool)(g g':DSt->Mem->Res Fl):DSt->Mem->Res Fl:=λδ μ=>(t δ μ).bind λk μ=>if k=true then g δ μ else g' δ μ
theorem ss_if(hc:ST X Γ E c ft)(ha:SSs X Γ E sa g)(hb:SSs X Γ E sb g'):SS X Γ E (.If c sa sb pos) (ifS ft g g'):=PS.imp (ps_if hc ha hb) λN σ H ⟨L0,G0,H0,L,G,δ,μ,S,w⟩=>by
 refine⟨L0,G0,H0,L,G,δ,μ,S,(jQ w).mono (λk μ1 w L1 G1 H1 S1 l1 s1=>?_) λ_ _ k=>k⟩
 cases k with
 | true=>rw[if_pos rfl] at w ⊢;exact⟨L0,G0,H0,L1,G1,δ,μ1,S1,w⟩
 | false=>rw[if_neg Bool.false_ne_true] at w ⊢;exact⟨L0,G0,H0,L1,G1,δ,μ1,S1,w⟩
def forS(tg:D->DSt->Option DSt)(body:DSt->Mem->Res Fl):List D->DSt->Mem->Res Fl
 | [],δ,μ=>.ok (.nx δ) μ
 | d::ds,δ,μ=>(Res.of (Out.opt (tg d δ)) μ).bind λδ1 μ=>(body δ1 μ).bind λfl μ=>match fl with
  | .nx δ2=>forS tg body ds δ2 μ
  | .ct δ2=>forS tg body ds δ2 μ
  | .bk δ2=>.ok (.nx δ2) μ
  | fl=>.ok fl μ
def Ke(fi:DSt->Mem->Res (List D))(tg:D->DSt->Option DSt)(body:DSt->Mem->Res Fl):DSt->Mem->Res Fl:=λδ μ=>(fi δ μ).bind λds μ=>forS tg body ds δ μ
theorem ss_for{tg iter:Expr}{body:List Stmt}{t:D->DSt->Option DSt}(hh:∀{wi:TI} {g:TG} {tb:TS},PI X tg iter wi->PG X tg g->PSs X body tb->PS X (.For tg iter body [] pos) (tFor wi g tb))(hi:SI X Γ E tg iter fr)(hg:∀L,DG X (xt Γ L) tg t)(hb:SSs X Γ E body g):
  SS X Γ E (.For tg iter body [] pos) (Ke fr t g):=PS.imp (hh hi (PG.ex hg) hb) λN σ H ⟨L0,G0,H0,L,G,δ,μ,S,w⟩=>by
 refine⟨L0,G0,H0,L,G,δ,μ,S,(jQ w).mono (λds μ1 w J L1 G1 H1 S1 l1 s1 Y=>?_) λ_ _ k=>k⟩
 refine⟨λi m σ H=>∃L G δ μ,SRS X.K Γ L0 G0 H0 L G H σ δ μ/\Le L1 L/\aO G1 G/\m=ds.length - i/\i<=ds.length/\wpR (forS t g (ds.drop i) δ μ) (FlS X.K Γ L0 G0 H0 N) (exS X.K Γ E L0 G0 H0),⟨_,L1,G1,δ,μ1,S1,.refl _,aO.refl _,rfl,Nat.zero_le _,w⟩,?_⟩
 rintro i m σ H ⟨L2,G2,δ2,μ2,S2,l2,s2,rfl,hi,w⟩
 by_cases lt:i<ds.length
 .refine .inr ⟨Y.go i H (s2.trans S2.sr.st.gh) lt,λσ' H'=>∃L G δ μ,SRS X.K Γ L0 G0 H0 L G H' σ' δ μ/\Le L1 L/\aO G1 G/\wpR (forS t g (ds.drop (i+1)) δ μ) (FlS X.K Γ L0 G0 H0 N) (exS X.K Γ E L0 G0 H0),λσ' H' ⟨L',G',δ',μ',a1,a2,a3,a4⟩=>⟨ds.length - (i+1),by omega,L',G',δ',μ',a1,a2,a3,rfl,lt,a4⟩,λx H' y=>?_⟩
  obtain⟨G3,s3,r3⟩:=Y.yld i G2 H x H' ds[i] s2 S2.sr.st.gh y (by simp[lt])
  rw[List.drop_eq_getElem_cons lt] at w
  obtain⟨δ3,e3,w⟩:=bc (Bd (jQ w))
  have S3:=S2.pure s3
  refine⟨L2,G0,ov L2 H' H0,G3,δ2,ds[i],δ3,S3.sr,r3.gam l2.xt,e3,λσ4 S4=>?_⟩
  have S5:SRS X.K Γ L0 G0 H0 L2 G3 H' σ4 δ3 μ2:=⟨S3.le,S4,S3.mem⟩
  have T:=S1.stm
  have S6:=S5.later l2 S1.sr.st.gg (s2.trans s3.gg)
  refine⟨L1,G1,un2 H0 G1,L2,G3,δ3,μ2,S6,(jQ w).mono (λfl μ4 w=>?_) λx μ4 k a L' G' H'' s' r'=>k a L' G' H'' (T.back s') r'⟩
  cases fl with
  | nx δ'=>exact λσ' L' G' H' S'=>⟨L',G',δ',μ4,SRS.back T S',S'.le,S'.sr.st.gg,w⟩
  | ct δ'=>exact λσ' L' G' H' S'=>⟨L',G',δ',μ4,SRS.back T S',S'.le,S'.sr.st.gg,w⟩
  | bk δ'=>exact λσ' L' G' H' S'=>w σ' L' G' H' (SRS.back T S')
  | rt d=>exact λv L' G' H' s' r'=>w v L' G' H' (T.back s') r'
  | rl d=>exact λa vs L' G' H' s' f nc h g r=>w a vs L' G' H' (T.back s') (cQ.mp f).1 nc h g r
  | rll d=>exact w
 .obtain rfl:i=ds.length:=by omega
  rw[List.drop_length] at w
  exact .inl ⟨Y.stop _ H (s2.trans S2.sr.st.gh) (Nat.le_refl _),w σ L2 G2 H S2⟩
end
end DL
namespace DL
open PySem PySem.Spec PyProof.Rows MX L2
section
variable{K:Frag}{Γ:Plc}{G0 H0 G H G' H':Hp}{σ:L2.St}{δ:DSt}{L0 L:Plc}{μ:Mem}
end
section
variable{X:Cx}{Γ:Plc}{E:XK}{e a b c o:Expr}{pos apos:Pos}{es:List Expr}{st:Stmt}{rest sa sb:List Stmt}
variable{g g':DSt->Mem->Res Fl}{f fa fb:DSt->Mem->Res D}{ft:DSt->Mem->Res Bool}{fr:DSt->Mem->Res (List D)}
def spS(K:Frag)(Γ:Plc)(n:Nat)(F:Mem->List D->Res D):Sp:=λvs H Q E=>vs.length=n/\∃L G μ ds,aO G H/\sE K Γ L (hid L H) G H μ/\aC K (xt Γ L) G vs ds /\
 wpR (F μ ds) (λd μ'=>∀v L' G' H',StM K Γ L G (hid L H) L' G' H' μ'->Rep K (xt Γ L') G' v d->Q v H') (exS K Γ E L G (hid L H))
theorem ov_hid{L:Plc}{H:Hp}:ov L H (hid L H)=H:=by
 funext b
 by_cases q:∃k,L k=some b
 .obtain⟨k,e⟩:=q;rw[oK e]
 .rw[cH q,hid,cH q]
end
def endS(cell:Bool):Fl->Mem->Res D
 | .nx _,μ=>.ok .non μ
 | .rt d,μ=>.ok d μ
 | .rl xs,μ=>if cell=true then .ok (.loc μ.length) (μ++[.lst xs]) else .ok (.lst xs) μ
 | _,_=>.stuck
def runS(cell:Bool)(n:Nat)(g:DSt->Mem->Res Fl)(μ:Mem)(ds:List D):Res D:=(g (dN n ds) μ).bind (endS cell)
section
variable{P:Program}{w:World}{K:Frag}{mg:Str->Option Value}{base:Heap}{Γ:Plc}
theorem end_ok{cell:Bool}{L0:Plc}{G0 H0:Hp}{N:Ends}{E:XK}{Q:VK}(hn:∀σ H,Q .non H->N.nx σ H)(hq:∀v H,Q v H->N.rt v H){fl:Fl}{μ:Mem}(q:wpR (endS cell fl μ) (λd μ'=>∀v L' G' H',StM K Γ L0 G0 H0 L' G' H' μ'->Rep K (xt Γ L') G' v d->Q v H') (exS K Γ E L0 G0 H0)):FlS K Γ L0 G0 H0 N fl μ:=by
 cases fl with
 | nx δ=>exact λσ L G H S=>hn σ H (q .non L G H S.stm .non)
 | rt d=>exact λv L G H S r=>hq v H (q v L G H S r)
 | bk δ=>exact False.elim q
 | ct δ=>exact False.elim q
 | rll _=>exact False.elim q
 | rl xs =>
  intro a vs L G H S z nc h g r
  cases cell with
  | true =>
   have le:=S.mem.Mg a
   exact hq _ H (q _ _ G H (S.adopt z g nc ⟨vs,h,r.gam le.xt⟩) (.cls (by rw[xt_loc];exact yW)))
  | false =>
   have sm:aO G (dG G H λb=>decide (b=a)):=dH λb z=>by obtain rfl:=of_decide_eq_true z;exact g
   exact hq _ H (q _ L _ H (S.frz z g nc) (.lst (by unfold dG;rw[if_pos (by simp)];exact h) (r.mono sm)))
theorem Fun.okS{x qual:Str}{st:Stmt}{f:Addr}{fd:FuncData}{N ps:List Str}{k:Nat}{g:DSt->Mem->Res Fl}(cell:Bool)(F:L2.Fun K x qual st f fd)(S:aF N ps (aq st))
  (h:∀(cdv:Value)(A:Around)(outer:List Env)(s:Shared)(H:Hp)(E:XK),cT k (A.deeper (envOfC qual (aq st) s.heap.objs.size f cdv))->SSs (xT CX0 P w K mg base N qual (aq st) f cdv A outer s H E).nox Γ E0 (cU st) g) :
  bO P w K mg base CX0 (k+1) f fd ps (spS K Γ ps.length λμ ds=>(runS cell N.length g μ ds).aY) :=
 L2.Fun.ok F S (λvs H Q E h=>h.1) λcdv A outer s H vs Q E hr ⟨hl,L,G,μ,ds,sg,M,r,q⟩=>by
  refine⟨_,h cdv A outer s H E hr,L,G,hid L H,L,G,dN N.length ds,μ,⟨.refl _,by rw[ov_hid];exact SR.yK sg r,M⟩,(jQ (wpR_noex (R':=exS K Γ E0 L G (hid L H)) q)).mono (λfl μ' q=>?_) λ_ _ k=>k⟩
  exact end_ok (E:=E0) (Q:=Q) (λσ H z=>z) (λv H z=>z) q
structure DefA(P:Program)(w:World)(K:Frag)(mg:Str->Option Value)(base:Heap)(x:Str)(k:Nat)(ps:List Str)(sp:Plc->Sp):Prop where
 ex:∃f fd,(∀L,bO P w K mg base CX0 k f fd ps (sp L))/\Binds K fd ps []/\mg x=some (.ref f)/\keepIn K (.ref f)=true
theorem DefA.at{x:Str}{k:Nat}{ps:List Str}{sp:Plc->Sp}(h:DefA P w K mg base x k ps sp)(L:Plc):Def P w K mg base x k ps (sp L):=by
 obtain⟨f,fd,G,r⟩:=h.ex
 exact⟨f,fd,G L,r⟩
structure IniA(P:Program)(w:World)(K:Frag)(mg:Str->Option Value)(base:Heap)(C:Addr)(k:Nat)(ps:List Str)(sp:Plc->Sp):Prop where
 ex:∃f fd,Mk K C f/\(∀L,bO P w K mg base CX0 k f fd ps (sp L))/\Binds K fd ps []
theorem IniA.at{C:Addr}{k:Nat}{ps:List Str}{sp:Plc->Sp}(h:IniA P w K mg base C k ps sp)(L:Plc):Ini P w K mg base C k ps (sp L):=by
 obtain⟨f,fd,M,G,r⟩:=h.ex
 exact⟨f,fd,M,G L,r⟩
theorem PP{n:Nat}{F:Mem->List D->Res D}{vs:List V}{H:Hp}{Q:VK}{E:XK}{ds:List D}(hl:vs.length=n)(r:aC K (xt Γ λ_=>none) H vs ds){d:D}{μ:Mem}(e:F [] ds=.ok d μ)(q:∀v L' G' H',Rep K (xt Γ L') G' v d->Q v H'):spS K Γ n F vs H Q E:=by
 refine⟨hl,λ_=>none,H,[],ds,aO.refl _,⟨λk c e=>(by simp at e),λk k' a e=>(by cases e),λk a e=>(by cases e)⟩,r,?_⟩
 rw[e]
 exact λv L' G' H' M r=>q v L' G' H' r
end
end DL
namespace DL
open PySem PySem.Spec PyProof.Rows MX L2
section
variable{X:Cx}{Γ:Nat->Option Addr}{E:XK}{e a b c o:Expr}{pos apos:Pos}{es:List Expr}{fa fb fo:DSt->Out D}{fr:DSt->Out (List D)}{K:Frag}{G H:Hp}
end
section
variable{X:Cx}{Γ:Plc}{E:XK}{e a b c o:Expr}{pos apos:Pos}{es rest:List Expr}{f fa fb:DSt->Mem->Res D}{fr:DSt->Mem->Res (List D)}
end
end DL
namespace DL
open PySem PySem.Spec PyProof.Rows MX L2
structure xP(K:Frag)(n:Str)(C:Addr):Prop where
 a:nsIn K mainGlobals n=some (some (.ref C))
 pg:PySem.W.plainGet K C Str.empty=true
 hd:PySem.W.hasDictIn K C=true
 po:PySem.W.plainOver K C=true
 sa:findIn K (.ref C) "__setattr__"=some (some (.builtin "object.__setattr__"))
 ha:findIn K (.ref C) "__class__"=some (some (.builtin "object.__class__"))
 hm:PySem.W.mroIn K C (.type "object")=some true
 ty:PySem.W.typeIn K (.ref C)=some (.type "type")
 cd:∃cd,PySem.W.clsIn K C=some cd
theorem xP.of{K:Frag}{n:Str}{C:Addr}{cd:ClassData}(a:nsIn K mainGlobals n=some (some (.ref C)))(pg:PySem.W.plainGet K C Str.empty=true)(hd:PySem.W.hasDictIn K C=true)(po:PySem.W.plainOver K C=true)(sa:findIn K (.ref C) "__setattr__"=some (some (.builtin "object.__setattr__")))(ha:findIn K (.ref C) "__class__"=some (some (.builtin "object.__class__")))(hm:PySem.W.mroIn K C (.type "object")=some true)(ty:PySem.W.typeIn K (.ref C)=some (.type "type"))(h:PySem.W.clsIn K C=some cd):xP K n C:=⟨a,pg,hd,po,sa,ha,hm,ty,cd,h⟩
structure GetF(K:Frag):Prop where
 hn:PySem.W.specialIn K (.builtin "object.__class__") "__get__"=some (some (.builtin "getset_descriptor.__get__"))
 htk:PySem.W.takesIn K (.builtin "object.__class__")=some true
theorem xP.i{K:Frag}{n:Str}{C:Addr}(c:xP K n C)(g:GetF K):sy K C:=⟨⟨c.pg,c.hd,c.po,c.sa⟩,c.ha,g.hn,g.htk,c.hm,c.ty,c.cd⟩
structure FX(K:Frag)(n q:Str)(s:Stmt)(f:Addr):Prop where
 ex:∃fd,L2.Fun K n q s f fd
 fn:PySem.W.isFn K (.ref f)=true
theorem FX.of{K:Frag}{n q:Str}{s:Stmt}{f:Addr}{oc:Value}{od an:Option Addr}{osl:Array (Option Value)}{kV doc pm cdv ct:Value}(l:K.lookup f=some ⟨oc,od,.func (PySem.W.fnOf n q (j8 s) (cU s) (aq s) .none kV doc pm an cdv ct),osl⟩)
  (c:PySem.W.codeIn K cdv q=true) (k:keepIn K (.ref f)=true) (fn:PySem.W.isFn K (.ref f)=true):FX K n q s f:=⟨⟨_,fun_mk l c k⟩,fn⟩
structure TX(K:Frag)(n:Str)(s:Stmt)(f:Addr):Prop where
 m:nsIn K mainGlobals n=some (some (.ref f))
 x:FX K n n s f
structure MkF(K:Frag)(C f:Addr):Prop where
 mks:PySem.W.makesIn K C=true
 ini:findIn K (.ref C) "__init__"=some (some (.ref f))
 kC:keepIn K (.ref C)=true
theorem MkF.k{K:Frag}{C f:Addr}(m:MkF K C f){n q:Str}{s:Stmt}(x:FX K n q s f):Mk K C f:=⟨m.mks,m.ini,x.fn,m.kC⟩
theorem FX.me{K:Frag}{n q:Str}{s:Stmt}{f C:Addr}{m:Str}(x:FX K n q s f)(a:findIn K (.ref C) m=some (some (.ref f))):Meth K C m f:=⟨a,x.fn,x.ex.choose_spec.kp⟩
section
variable{K:Frag}{x q:Str}{st:Stmt}{f:Addr}{fd:FuncData}{ps:List Str}
abbrev BA(x q:Str)(st:Stmt)(ps:List Str)(us:List Value):Prop:=∀(kV doc pm:Value)(an:Option Addr)(cdv ct:Value),bindArgs (PySem.W.fnOf x q (j8 st) (cU st) (aq st) .none kV doc pm an cdv ct) ⟨us,[]⟩=pure (ps.zip us)
theorem bd1(F:L2.Fun K x q st f fd)(hl:ps.length=1:=by rfl)(h:∀a,BA x q st ps [a]:=by intro _ _ _ _ _ _ _;rfl):Binds K fd ps []:=F.binds λ_ _ _ _ _ _ us e=>match us,e.trans hl with | [_],_=>h _ _ _ _ _ _ _
theorem bd2(F:L2.Fun K x q st f fd)(hl:ps.length=2:=by rfl)(h:∀a b,BA x q st ps [a,b]:=by intro _ _ _ _ _ _ _ _;rfl):Binds K fd ps []:=F.binds λ_ _ _ _ _ _ us e=>match us,e.trans hl with | [_,_],_=>h _ _ _ _ _ _ _ _
theorem bd3(F:L2.Fun K x q st f fd)(hl:ps.length=3:=by rfl)(h:∀a b c,BA x q st ps [a,b,c]:=by intro _ _ _ _ _ _ _ _ _;rfl):Binds K fd ps []:=F.binds λ_ _ _ _ _ _ us e=>match us,e.trans hl with | [_,_,_],_=>h _ _ _ _ _ _ _ _ _
theorem bd4(F:L2.Fun K x q st f fd)(hl:ps.length=4:=by rfl)(h:∀a b c d,BA x q st ps [a,b,c,d]:=by intro _ _ _ _ _ _ _ _ _ _;rfl):Binds K fd ps []:=F.binds λ_ _ _ _ _ _ us e=>match us,e.trans hl with | [_,_,_,_],_=>h _ _ _ _ _ _ _ _ _ _
theorem bd5(F:L2.Fun K x q st f fd)(hl:ps.length=5:=by rfl)(h:∀a b c d e,BA x q st ps [a,b,c,d,e]:=by intro _ _ _ _ _ _ _ _ _ _ _;rfl):Binds K fd ps []:=F.binds λ_ _ _ _ _ _ us e=>match us,e.trans hl with | [_,_,_,_,_],_=>h _ _ _ _ _ _ _ _ _ _ _
end
theorem scm{N P:List Str}{sc:Scope}(kind:sc.kind=.function:=by rfl)(co:sc.isCoroutine=false:=by rfl)(gen:sc.isGenerator=false:=by rfl)(nd:N.Nodup:=by decide +kernel)(pre:N.take P.length=P:=by rfl)
  (par:∀x∈P,sc.names.lookup x=some .local∨sc.names.lookup x=some .cell:=by decide +kernel) (Mm:∀y∈sc.names,y.2≠.free:=by decide +kernel):aF N P sc:=⟨kind,co,gen,nd,pre,par,Mm⟩
structure Inf(α:Type) where
 x:Str
 k:Nat
 ps:List Str
 F:List D->Out α
structure InfS where
 x:Str
 k:Nat
 ps:List Str
 F:Mem->List D->Res D
section
variable(P:Program)(w:World)(K:Frag)(mg:Str->Option Value)(base:Heap)
abbrev DD(Γ:Plc)(I:Inf D):Prop:=Def P w K mg base I.x I.k I.ps (spD K Γ I.ps.length I.F)
abbrev DDf(Γ:Plc)(I:Inf (List D)):Prop:=Def P w K mg base I.x I.k I.ps (spF K Γ I.ps.length I.F)
abbrev DA'(Γ:Plc)(I:Inf D):Prop:=DefA P w K mg base I.x I.k I.ps (λL=>spD K (xt Γ L) I.ps.length I.F)
abbrev DAf(Γ:Plc)(I:Inf (List D)):Prop:=DefA P w K mg base I.x I.k I.ps (λL=>spF K (xt Γ L) I.ps.length I.F)
abbrev OD(Γ:Plc)(I:Inf D)(f:Addr)(fd:FuncData):Prop:=bO P w K mg base CX0 I.k f fd I.ps (spD K Γ I.ps.length I.F)
abbrev ODf(Γ:Plc)(I:Inf (List D))(f:Addr)(fd:FuncData):Prop:=bO P w K mg base CX0 I.k f fd I.ps (spF K Γ I.ps.length I.F)
abbrev ODg(Γ:Plc)(I:Inf (List (List D)))(f:Addr)(fd:FuncData):Prop:=bO P w K mg base CX0 I.k f fd I.ps (spFF K Γ I.ps.length I.F)
abbrev ODs(Γ:Plc)(I:InfS)(f:Addr)(fd:FuncData):Prop:=bO P w K mg base CX0 I.k f fd I.ps (spS K Γ I.ps.length I.F)
end
section
variable{P:Program}{w:World}{K:Frag}{mg:Str->Option Value}{base:Heap}{Γ:Plc}{x q:Str}{st:Stmt}{f:Addr}{fd:FuncData}{N:List Str}{k:Nat}
abbrev BodyOk(P:Program)(w:World)(K:Frag)(mg:Str->Option Value)(base:Heap)(Γ:Plc)(q:Str)(st:Stmt)(f:Addr)(N:List Str)(k:Nat)(g:DSt->Out Fl):Prop:=∀(cdv:Value)(A:Around)(outer:List Env)(s:Shared)(H:Hp)(E:XK),cT k (A.deeper (envOfC q (aq st) s.heap.objs.size f cdv))->DSs (xT CX0 P w K mg base N q (aq st) f cdv A outer s H E).nox Γ E0 (cU st) g
theorem okJ{I:Inf D}(k:Nat)(g:DSt->Out Fl)(F:L2.Fun K x q st f fd)(S:aF N I.ps (aq st))(h:BodyOk P w K mg base Γ q st f N k g)(hk:I.k=k+1:=by rfl)(hF:I.F=λds=>(cg N.length g ds).aY:=by rfl):OD P w K mg base Γ I f fd:=by
 have:=DL.Fun.okD F S h
 rw[←hk,←hF] at this
 exact this
theorem okJf{I:Inf (List D)}(k:Nat)(g:DSt->Out Fl)(F:L2.Fun K x q st f fd)(S:aF N I.ps (aq st))(h:BodyOk P w K mg base Γ q st f N k g)(hk:I.k=k+1:=by rfl)(hF:I.F=λds=>(runL N.length g ds).aY:=by rfl):ODf P w K mg base Γ I f fd:=by
 have:=DL.Fun.okF F S h
 rw[←hk,←hF] at this
 exact this
theorem okJg{I:Inf (List (List D))}(k:Nat)(g:DSt->Out Fl)(F:L2.Fun K x q st f fd)(S:aF N I.ps (aq st))(h:BodyOk P w K mg base Γ q st f N k g)(hk:I.k=k+1:=by rfl)(hF:I.F=λds=>(runLL N.length g ds).aY:=by rfl):ODg P w K mg base Γ I f fd:=by
 have:=DL.Fun.okFF F S h
 rw[←hk,←hF] at this
 exact this
theorem okJs{I:InfS}(cell:Bool)(k:Nat)(g:DSt->Mem->Res Fl)(F:L2.Fun K x q st f fd)(S:aF N I.ps (aq st))(h:∀(cdv:Value) (A:Around) (outer:List Env) (s:Shared) (H:Hp) (E:XK),cT k (A.deeper (envOfC q (aq st) s.heap.objs.size f cdv))->SSs (xT CX0 P w K mg base N q (aq st) f cdv A outer s H E).nox Γ E0 (cU st) g)
  (hk:I.k=k+1:=by rfl) (hF:I.F=λμ ds=>(runS cell N.length g μ ds).aY:=by rfl):ODs P w K mg base Γ I f fd:=by
 have:=DL.Fun.okS cell F S h
 rw[←hk,←hF] at this
 exact this
end
section
variable{X:Cx}{Γ:Plc}{E:XK}{e a b c o:Expr}{pos apos p:Pos}{es:List Expr}{x m:Str}{j k n i:Nat}{ps:List Str}{pos':Pos}
theorem dJ(i:Nat){fa:DSt->Out D}(hN:X.N.Nodup)(he:DE X Γ E e fa)(hi:X.N[i]?=some x:=by rfl)(hx:Loc X.env.scope x:=by first | exact Or.inl rfl | exact Or.inr rfl)(hs:swapsWith e (some (.Name x pos')) pos.line X.env=pure false:=by rfl)
  (hf:X.fn x=true∨X.env.scope.names.lookup x=some .local:=by first | exact .inl rfl | exact .inr rfl | assumption):DS X Γ E (.Assign [.Name x pos'] e pos) (cP i fa):=ds_set i (λh=>Mz hN hi hx h hs hf) he
theorem xu(i:Nat){fa:DSt->Out (List D)}(hN:X.N.Nodup)(he:DF X Γ E e fa)(hi:X.N[i]?=some x:=by rfl)(hx:Loc X.env.scope x:=by first | exact Or.inl rfl | exact Or.inr rfl)(hs:swapsWith e (some (.Name x pos')) pos.line X.env=pure false:=by rfl)
  (hf:X.fn x=true∨X.env.scope.names.lookup x=some .local:=by first | exact .inl rfl | exact .inr rfl | assumption):DS X Γ E (.Assign [.Name x pos'] e pos) (iR i fa):=ds_setl i (λh=>Mz hN hi hx h hs hf) he
theorem ngn{i:Nat}(hN:X.N.Nodup)(hi:X.N[i]?=some x:=by rfl)(hx:Loc X.env.scope x:=by first | exact Or.inl rfl | exact Or.inr rfl)(hf:X.fn x=true∨X.env.scope.names.lookup x=some .local:=by first | exact .inl rfl | exact .inr rfl | assumption):DG X Γ (.Name x pos) (gN i):=Nq (NZ hN hi hx hf)
theorem nv(i:Nat)(hN:X.N[i]?=some x:=by rfl)(hv:Vis X.env.scope x:=by first | exact Or.inl rfl | exact Or.inr (Or.inl rfl) | exact Or.inr (Or.inr rfl))(hd:(x==("__debug__":Str))=false:=by decide)
  (hcd:(x==("__classdict__":Str))=false:=by decide):DE X Γ E (.Name x pos) (gv i):=de_var i (pe_var hN hv hd hcd)
section
theorem bw{F:List D->Out D}{fr:DSt->Out (List D)}(Df:Def X.prog X.w X.K X.mg X.base x k ps (spD X.K Γ n F))(hr:cT j X.A)(ha:DA X Γ E (e::es) fr)(hk:k<=j:=by decide)(hg:Gl X x:=by rfl)(hdb:(x==("__debug__":Str))=false:=by decide)
  (he:starEach (e::es) X.env=(false,eval e X.env)::starEach es X.env:=by rfl) (hpl:(backTo pos (starEach es X.env)).any (·.1)=false:=by rfl):DE X Γ E (.Call (.Name x p) (e::es) [] pos) (oF n F fr):=by
 obtain⟨f,fd,G,b,m,kk⟩:=Df.ex
 exact dcall (Hh G (hr.mono hk) hg m kk b .nil uW ha hdb he hpl)
theorem ncallF{F:List D->Out (List D)}{fr:DSt->Out (List D)}(Df:Def X.prog X.w X.K X.mg X.base x k ps (spF X.K Γ n F))(hr:cT j X.A)(ha:DA X Γ E (e::es) fr)(hk:k<=j:=by decide)(hg:Gl X x:=by rfl)(hdb:(x==("__debug__":Str))=false:=by decide)
  (he:starEach (e::es) X.env=(false,eval e X.env)::starEach es X.env:=by rfl) (hpl:(backTo pos (starEach es X.env)).any (·.1)=false:=by rfl):DF X Γ E (.Call (.Name x p) (e::es) [] pos) (oFl n F fr):=by
 obtain⟨f,fd,G,b,m,kk⟩:=Df.ex
 exact dcallF (Hh G (hr.mono hk) hg m kk b .nil uW ha hdb he hpl)
theorem JX{c n:Nat}{C:Addr}{F:List D->Out (List (Str×D))}{fr:DSt->Out (List D)}(N:Ini X.prog X.w X.K X.mg X.base C k ps (spI X.K Γ c n F))(hr:cT j X.A)(hm:X.mg x=some (.ref C))(ha:DA X Γ E (e::es) fr)(hC:Γ c=some C:=by rfl)(hk:k+1<=j:=by decide)(hg:Gl X x:=by rfl)
  (hdb:(x==("__debug__":Str))=false:=by decide) (he:starEach (e::es) X.env=(false,eval e X.env)::starEach es X.env:=by rfl) (hpl:(backTo pos (starEach es X.env)).any (·.1)=false:=by rfl):DE X Γ E (.Call (.Name x p) (e::es) [] pos) (oMk c n F fr):=by
 obtain⟨f,fd,M,G,b⟩:=N.ex
 exact dmake hC (pe_make M G (hr.mono hk) hg hm b .nil uW ha hdb he hpl)
theorem Gx{c n:Nat}{C:Addr}{F:List D->Out (List (Str×D))}(N:Ini X.prog X.w X.K X.mg X.base C k ps (spI X.K Γ c n F))(hr:cT j X.A)(hm:X.mg x=some (.ref C))(hC:Γ c=some C:=by rfl)(hk:k+1<=j:=by decide)(hg:Gl X x:=by rfl)
  (hdb:(x==("__debug__":Str))=false:=by decide):DE X Γ E (.Call (.Name x p) [] [] pos) (oMk c n F aR):=by
 obtain⟨f,fd,M,G,b⟩:=N.ex
 exact dmake0 hC (pe_make0 M G (hr.mono hk) hg hm b .nil uW hdb)
end
theorem ngc{i:Nat}(hN:X.N.Nodup:=by(show List.Nodup (_::_));decide +kernel)(hi:X.N[i]?=some x:=by rfl)(hx:Loc X.env.scope x:=by first | exact Or.inl rfl | exact Or.inr rfl)(hf:X.fn x=true∨X.env.scope.names.lookup x=some .local:=by first | exact .inl rfl | exact .inr rfl | assumption):DG X Γ (.Name x pos) (gN i):=Nq (NZ hN hi hx hf)
theorem zZ{M:List (Nat×(List D->Out D))}{fo:DSt->Out D}{pl:Sem Bool}(hM:iB X.prog X.w X.K X.mg X.base Γ m (spD X.K Γ n) k M)(hr:cT j X.A)(he:DE X Γ E o fo)(hk:k<=j:=by decide)
  (ht:eval (.Call (.Attribute o m apos) [] [] pos) X.env=(do
   let ov ←eval o X.env
   standAt apos.atName
   let (f,first) ←holding [ov] (getMethod ov m pl)
   callWith pos f first (backTo pos (starEach [] X.env)) (backToKw pos (keywordEach [] X.env))):=by rfl):DE X Γ E (.Call (.Attribute o m apos) [] [] pos) (oM m n M fo aR):=de_meth0 (wz (hM.ok (hr.mono hk)) uW he ht)
theorem napp(i:Nat){fa:DSt->Out D}{cpos:Pos}(he:DE X Γ E e fa)(hv:PE X (.Name x p) (ou i):=by exact pv _)(hh:∀{to te:TE},PE X (.Name x p) to->PE X e te->PS X (.Expr (.Call (.Attribute (.Name x p) "append" apos) [e] [] cpos) pos) (vo (tBM X.K "list" Hj to (iT te lH))):=by exact λa b=>kI (oN PySem.F.plainAttrs_list PySem.F.slot_list_append PySem.F.type_list_append Ds a (aX b bL))):
  DS X Γ E (.Expr (.Call (.Attribute (.Name x p) "append" apos) [e] [] cpos) pos) (uY i fa):=ds_app i hv he hh
variable{iter tg:Expr}{body:List Stmt}
theorem ww{fi:DSt->Out (List D)}{t:D->DSt->Option DSt}{g:DSt->Out Fl}(hi:DI X Γ E tg iter fi)(hg:DG X Γ tg t)(hb:DSs X Γ E body g)(hp:PassesOwn (model X.prog X.w) X.A X.env X.xe:=by exact PassesOwn.never)(hc:X.calm=true:=by rfl)(hs:∀x,foldedSetIterable iter X.env x=pure x:=by intro _;rfl):DS X Γ E (.For tg iter body [] pos) (nG fi t g):=ds_for (λa b c=>ps_for hp hc a b c hs) hi hg hb
theorem nforS{fi:DSt->Mem->Res (List D)}{t:D->DSt->Option DSt}{g:DSt->Mem->Res Fl}(hi:SI X Γ E tg iter fi)(hg:∀L,DG X (xt Γ L) tg t)(hb:SSs X Γ E body g)(hp:PassesOwn (model X.prog X.w) X.A X.env X.xe:=by exact PassesOwn.never)(hc:X.calm=true:=by rfl)(hs:∀x,foldedSetIterable iter X.env x=pure x:=by intro _;rfl):SS X Γ E (.For tg iter body [] pos) (Ke fi t g):=ss_for (λa b c=>ps_for hp hc a b c hs) hi hg hb
end
end DL
namespace L2
open PySem PySem.Spec PyProof.Rows
section
variable{X:Cx}{pins:List (Addr×Obj)}{σ:St}{H:Hp}{s:Shared}
open Classical in
end
end L2
namespace DL
open PySem PySem.Spec PyProof.Rows MX L2
section
variable{X:Cx}{Γ:Plc}{E:XK}{a b:Expr}{pos:Pos}{fa fb:DSt->Out D}
end
section
variable{X:Cx}{Γ:Plc}{E:XK}{a b c e o:Expr}{pos apos cpos:Pos}{f:DSt->Mem->Res D}{ft:DSt->Mem->Res Bool}
end
end DL
namespace DL
open PySem PySem.Spec PyProof.Rows MX L2 PySem.Builtin PySem.Builtin.Str
theorem DX:∀(l:List (Str×Tok)),Vals ((l.map (·.1)).map V.str) (strValues l)
 | []=>.nil
 | p::l=>.cons ⟨p.2,rfl⟩ (DX l)
section
variable{X:Cx}{pins:List (Addr×Obj)}{σ:L2.St}{H:Hp}{s:Shared}{Q:VK}
theorem wu{l:List (Str×Tok)}{ss:List Str}{tk:Nat}(I:Inv X pins σ H s)(e:l.map (·.1)=ss)(hz:ss.length<=sizeLine)(q:∀p,H p=none->Q (.ref p) (upd H p (.lst (ss.map V.str)))):
  EP X pins σ Q (.ref s.heap.objs.size) { s with heap:=s.heap.push { cls:=.type "list",data:=.seq (strValues l).toArray },toks:=tk }:=by
 refine⟨.ref s.heap.objs.size,_,I.laid (o:=.lst (ss.map V.str)) (λb u e=>Heap.get?_push_of_some _ e) (Nat.le_refl _) ?_,rfl,q _ (I.hok.fresh (Nat.le_refl _))⟩
 exact⟨by rw[List.length_map];exact hz,strValues l,0,e▸DX l,Heap.get?_push_size _ rfl⟩
def rSplit:V->List V->Hp->VK->Prop:=λx vs H Q=>∃z y:Str,x=.str z/\vs=[.str y]/\(y.length==0)=false/\z.length<=sizeLine/\(Txt.split z y).length<=sizeLine/\∀p,H p=none->Q (.ref p) (upd H p (.lst ((Txt.split z y).map V.str)))
theorem uT:MtR X "str.split" rSplit:=by
 intro pins s σ H x vs v us Q I rx rv h
 obtain⟨z,y,rfl,rfl,hy,hz,hn,k⟩:=h
 obtain⟨t,rfl⟩:=rx
 obtain⟨u,rfl,ru⟩:=rv.one
 obtain⟨u,rfl⟩:=ru
 cases h1:(decide (z.length<y.length) || decide (strKind z<strKind y))
 .cases hf:(occurrences z y 0 z.length (z.length+1)).isEmpty
  .have e:Txt.split z y=partsBetween z (occurrences z y 0 z.length (z.length+1)) y.length:=(if_neg (ne_true_of_eq_false h1)).trans (if_neg (ne_true_of_eq_false hf))
   rw[e] at hn k
   refine call_meets PySem.F.slot_str_split (typeIs_str _ _ _) PySem.F.entry_str_split (PySem.F.args_str_split_2 _ _) (meets_str_split_sep z y t u h1 hy hf hz hn) ?_
   show wants _ _ _ { s with toks:=_,heap:=s.heap.push { cls:=.type "list",data:=.seq (strsFrom s.toks (partsBetween z (occurrences z y 0 z.length (z.length+1)) y.length)).toArray } }
   rw[strsFrom_eq]
   exact wu I (numbered_texts _ _) hn k
  .have e:Txt.split z y=[z]:=(if_neg (ne_true_of_eq_false h1)).trans (if_pos hf)
   rw[e] at hn k
   exact call_meets PySem.F.slot_str_split (typeIs_str _ _ _) PySem.F.entry_str_split (PySem.F.args_str_split_2 _ _) (meets_str_split_not_found z y t u h1 hy hf) (wu (l:=[(z,t)]) (tk:=s.toks) I rfl hn k)
 .have e:Txt.split z y=[z]:=if_pos h1
  rw[e] at hn k
  exact call_meets PySem.F.slot_str_split (typeIs_str _ _ _) PySem.F.entry_str_split (PySem.F.args_str_split_2 _ _) (meets_str_split_cannot_occur z y t u h1) (wu (l:=[(z,t)]) (tk:=s.toks) I rfl hn k)
def rPart:V->List V->Hp->VK->Prop:=λx vs H Q=>∃z y:Str,x=.str z/\vs=[.str y]/\(y.length==0)=false/\z.length<=sizeLine/\∀p,H p=none->Q (.ref p) (upd H p (.tup [.str (Txt.partition z y).1,.str (Txt.partition z y).2.1,.str (Txt.partition z y).2.2]))
theorem Dq{a b c:Str}{ta tb tc:Tok}{tk:Nat}(I:Inv X pins σ H s)(q:∀p,H p=none->Q (.ref p) (upd H p (.tup [.str a,.str b,.str c]))):
  EP X pins σ Q (.ref s.heap.objs.size) { s with heap:=s.heap.push { cls:=.type "tuple",data:=.seq [.str a ta,.str b tb,.str c tc].toArray },toks:=tk }:=by
 refine⟨.ref s.heap.objs.size,_,I.laid (o:=.tup [.str a,.str b,.str c]) (λb u e=>Heap.get?_push_of_some _ e) (Nat.le_refl _) ?_,rfl,q _ (I.hok.fresh (Nat.le_refl _))⟩
 exact⟨(by show 3<=sizeLine;decide),[.str a ta,.str b tb,.str c tc],.cons ⟨ta,rfl⟩ (.cons ⟨tb,rfl⟩ (.cons ⟨tc,rfl⟩ .nil)),⟨_,Heap.get?_push_size _ rfl,rfl,_,rfl⟩⟩
theorem NK:MtR X "str.partition" rPart:=by
 intro pins s σ H x vs v us Q I rx rv h
 obtain⟨z,y,rfl,rfl,hy,hz,k⟩:=h
 obtain⟨t,rfl⟩:=rx
 obtain⟨u,rfl,ru⟩:=rv.one
 obtain⟨u,rfl⟩:=ru
 refine call_meets PySem.F.slot_str_partition (typeIs_str _ _ _) PySem.F.entry_str_partition (PySem.F.args_str_partition_2 _ _) (meets_str_partition z y t u hy hz) ?_
 unfold Txt.partition at k
 revert k
 cases occurrences z y 0 z.length 1 with
 | nil=>intro k;exact Dq I k
 | cons i r=>intro k;exact Dq I k
def rSw:V->List V->Hp->VK->Prop:=λx vs H Q=>∃z y:Str,x=.str z/\vs=[.str y]/\Q (.bl (Txt.startswith z y)) H
theorem mt_sw:MtR X "str.startswith" rSw:=by
 intro pins s σ H x vs v us Q I rx rv h
 obtain⟨z,y,rfl,rfl,k⟩:=h
 obtain⟨t,rfl⟩:=rx
 obtain⟨u,rfl,ru⟩:=rv.one
 obtain⟨u,rfl⟩:=ru
 exact call_gives PySem.F.slot_str_startswith (typeIs_str _ _ _) PySem.F.entry_str_startswith (PySem.F.args_str_startswith_2 _ _) (gives_str_startswith z y t u) ⟨.bl (Txt.startswith z y),H,I,rfl,k⟩
theorem Oo:iM X (.type "str") (λxs H Q=>∃i,xs=[.int i]/\i.natAbs.log2<1920/\Q (.str (toString i:String)) H):=by
 intro pins s σ H xs us Q I r h
 obtain⟨i,rfl,hi,q⟩:=h
 obtain⟨u,rfl,t,rfl⟩:=vals1 r
 exact P.str_of_int hi ⟨.str (toString i:String),H,I.tok _,⟨_,rfl⟩,q⟩
end
section
variable{X:Cx}{Γ:Nat->Option Addr}{E:XK}{e a b c o:Expr}{pos:Pos}{es:List Expr}{fa fb fo:DSt->Out D}{fr:DSt->Out (List D)}{ft:DSt->Out Bool}{K:Frag}{G H:Hp}
def oTx(h:Str->Str->Option D)(fo fa:DSt->Out D):DSt->Out D:=λδ=>(fo δ).bind λd=>match d with
 | .str z=>(fa δ).bind λy=>match y with
  | .str y=>.opt (h z y)
  | _=>.stuck
 | _=>.stuck
theorem de_tx{r:V->List V->Hp->VK->Prop}{h:Str->Str->Option D}{m:Str}{apos cpos:Pos}(hr:∀{G H:Hp} {z y:Str} {d:D} {Q:VK},h z y=some d->aO G H->okD X.K Γ G H Q d->r (.str z) [.str y] H Q)
  (ho:DE X Γ E o fo) (ha:DE X Γ E a fa) (hh:∀{to te:TE},PE X o to->PE X a te->PE X (.Call (.Attribute o m apos) [a] [] cpos) (tBM X.K "str" r to (iT te lH))):DE X Γ E (.Call (.Attribute o m apos) [a] [] cpos) (oTx h fo fa):=PE.imp (hh ho ha) λσ H Q ⟨G0,H0,G,δ,S,w⟩=>by
 refine⟨G0,H0,G,δ,S,(aj w).mono (λd w v G1 H1 s1 r1=>?_) λ_ k=>k⟩
 split at w
 .rename_i z
  cases r1
  refine⟨rfl,G0,H0,G1,δ,S.step s1,(aj w).mono (λy w u G2 H2 s2 r2=>?_) λ_ k=>k.step s1⟩
  split at w
  .cases r2
   obtain⟨r,e,k⟩:=bc w
   exact hr e s2.gh (k.step (s1.trans s2))
  .exact False.elim w
 .exact False.elim w
theorem J9:∀ss:List Str,aC K Γ G (ss.map V.str) (ss.map D.str)
 | []=>.nil
 | x::ss=>.cons (.str x) (J9 ss)
def gH(z y:Str):Option D:=if (y.length==0)=false/\z.length<=sizeLine/\(Txt.split z y).length<=sizeLine then some (.lst ((Txt.split z y).map D.str)) else none
theorem uw{m:Str}{apos cpos:Pos}(ho:DE X Γ E o fo)(ha:DE X Γ E a fa)(hh:∀{to te:TE},PE X o to->PE X a te->PE X (.Call (.Attribute o m apos) [a] [] cpos) (tBM X.K "str" rSplit to (iT te lH))):DE X Γ E (.Call (.Attribute o m apos) [a] [] cpos) (oTx gH fo fa) :=
 de_tx (λe s k=>by
  unfold gH at e
  split at e
  .rename_i h
   cases e
   exact⟨_,_,rfl,rfl,h.1,h.2.1,h.2.2,λp hp=>k _ _ _ (.new s hp) (.lst aP (J9 _))⟩
  .cases e) ho ha hh
def xx(z y:Str):Option D:=if (y.length==0)=false/\z.length<=sizeLine then some (.tup [.str (Txt.partition z y).1,.str (Txt.partition z y).2.1,.str (Txt.partition z y).2.2]) else none
theorem Nm{m:Str}{apos cpos:Pos}(ho:DE X Γ E o fo)(ha:DE X Γ E a fa)(hh:∀{to te:TE},PE X o to->PE X a te->PE X (.Call (.Attribute o m apos) [a] [] cpos) (tBM X.K "str" rPart to (iT te lH))):DE X Γ E (.Call (.Attribute o m apos) [a] [] cpos) (oTx xx fo fa) :=
 de_tx (λe s k=>by
  unfold xx at e
  split at e
  .rename_i h
   cases e
   exact⟨_,_,rfl,rfl,h.1,h.2,λp hp=>k _ _ _ (.new s hp) (.tup aP (.cons (.str _) (.cons (.str _) (.cons (.str _) .nil))))⟩
  .cases e) ho ha hh
def swD(z y:Str):Option D:=some (.bl (Txt.startswith z y))
theorem de_sw{m:Str}{apos cpos:Pos}(ho:DE X Γ E o fo)(ha:DE X Γ E a fa)(hh:∀{to te:TE},PE X o to->PE X a te->PE X (.Call (.Attribute o m apos) [a] [] cpos) (tBM X.K "str" rSw to (iT te lH))):DE X Γ E (.Call (.Attribute o m apos) [a] [] cpos) (oTx swD fo fa) :=
 de_tx (λe s k=>by
  cases e
  exact⟨_,_,rfl,rfl,k _ _ _ (.refl s) (.bl _)⟩) ho ha hh
def strD:D->Option D
 | .int i=>if i.natAbs.log2<1920 then some (.str (toString i:String)) else none
 | _=>none
theorem Np{p:Pos}(hg:Gl X "str")(hm:X.mg "str"=none)(ha:DE X Γ E a fa)(hs:starEach [a] X.env=[(false,eval a X.env)]:=by rfl):DE X Γ E (.Call (.Name "str" p) [a] [] pos) (o1 strD fa) :=
 dC1 (λG H v dx d Q s r e k=>by
  unfold strD at e
  split at e
  .split at e
   .cases e;cases r;exact⟨_,rfl,‹_›,k _ G H (.refl s) (.str _)⟩
   .cases e
  .cases e) (lU Oo hg hm (by decide +kernel) (aX (aL ha) bL (by rw[hs];rfl)) (by decide) (by decide) (by rw[hs];rfl) (by rfl))
def dIx(i:Nat)(fk:DSt->Out D):DSt->Out D:=λδ=>match dkOf i δ with
 | some kvs=>(fk δ).bind λk=>match zU k with
  | some key=>.opt (tO kvs key)
  | none=>.stuck
 | none=>.stuck
theorem de_dix(i:Nat){x:Str}{p:Pos}(hu:X.A.units+64<cLine)(hv:PE X (.Name x p) (ou i))(ha:DE X Γ E a fa)(hs:NoSl a):DE X Γ E (.Subscript (.Name x p) a pos) (dIx i fa) :=
 PE.imp (pe_dget (by omega) hv ha hs) λσ H Q ⟨G0,H0,G,δ,S,w⟩=>by
  unfold dIx at w
  split at w
  .rename_i kds ek
   obtain⟨aa,vs,hvi,h1,r⟩:=S.dk ek
   refine⟨_,hvi,G0,H0,G,δ,S,(aj w).mono (λd w u G1 H1 s1 r1=>?_) λ_ k=>k⟩
   split at w
   .rename_i key ekey
    have e:=r1.key ekey
    subst e
    obtain⟨d',e',k⟩:=bc w
    rcases (r.mono s1.gg).get (k:=key) with⟨z1,z2⟩| ⟨v,d'',z1,z2,z3⟩
    .rw[z2] at e';cases e'
    .rw[z2] at e'
     cases e'
     exact⟨aa,v,rfl,z1▸vD.k (s1.hh _ _ h1),k _ G1 H1 s1 z3⟩
   .exact False.elim w
  .exact False.elim w
end
end DL
namespace DL
open PySem PySem.Spec PyProof.Rows MX L2 PySem.Builtin PySem.Builtin.Str
section
variable{X:Cx}{pins:List (Addr×Obj)}{σ:L2.St}{H:Hp}{s:Shared}{a:Addr}{kvs:List (Key×V)}{k:Key}{u r:Value}{v:V}{A:Around}{E:Value->Shared->Prop}
theorem d_setdef{Q:Value->Shared->Prop}(I:Inv X pins σ H s)(e:H a=some (.dK kvs))(hl:kvs.length<sizeLine)(ry:RelV (kV k) u)(rv:RelV v r)
  (h1:∀x w' s',jT kvs k=some x->Inv X pins σ H s'->RelV x w'->Q w' s') (h2:∀s',jT kvs k=none->Inv X pins σ (upd H a (.dK (putK kvs k v))) s'->Q r s') :
  wpAny (model X.prog X.w) A (call (.builtin "dict.setdefault") [.ref a,u,r]) Q E s:=by
 obtain⟨z,hd,vs,rel,dd⟩:=dk_of I.hok e
 have hlp:(putK kvs k v).length<=sizeLine:=by have:=JP kvs k v;omega
 have rk:=rel.val k
 refine call_meetsIn PySem.F.slot_dict_setdefault dd.typeIs PySem.F.entry_dict_setdefault (PySem.F.args_dict_setdefault_3 _ _ _) (kt_meets_setdefault (cM X.prog X.w) a (JN ry) hd r)
  ⟨vs,dd,by rw[←rel.length];exact z,λw' hw=>?_,λhn h' dd' hs=>?_⟩
 .rw[hw] at rk
  cases l:jT kvs k with
  | none=>rw[l] at rk;exact(show False from rk).elim
  | some x=>rw[l] at rk;exact h1 x w' _ l (I.tok _) rk
 .have l:jT kvs k=none:=by
   rw[hn] at rk
   cases l:jT kvs k with
   | none=>rfl
   | some x=>rw[l] at rk;exact(show False from rk).elim
  have he:∃q,h'.get? a=some q:=let ⟨q,_,_,hq,_⟩:=dd';⟨q,hq⟩
  exact h2 _ l (d_write I (by rw[e];exact True.intro) hs he (dk_new hlp hd (rel.put k rv) dd'))
end
def tDSetDef(td ty tx:TE):TE:=λσ H Q=>td σ H λx H1=>∃a,x=.ref a/\IsD H1 a/\ty σ H1 λy H2=>tx σ H2 λz H3=>∃kvs k,H3 a=some (.dK kvs)/\kvs.length<sizeLine/\y=kV k /\
 (∀v,jT kvs k=some v->Q v H3)/\(jT kvs k=none->Q z (upd H3 a (.dK (putK kvs k z))))
section
variable{X:Cx}{o e f:Expr}{apos cpos:Pos}{td ty tx:TE}
theorem Px(ho:PE X o td)(he:PE X e ty)(hf:PE X f tx)(m:M2 X o "setdefault" apos e f cpos):PE X (.Call (.Attribute o "setdefault" apos) [e,f] [] cpos) (tDSetDef td ty tx):=by
 intro pins s σ H Q I h
 refine wpAny_Call_method m.base m.few m.line PySem.F.plainAttrs_dict PySem.F.slot_dict_setdefault PySem.F.type_dict_setdefault (thn (ho pins s σ H _ I h) λu s1 ⟨x,H1,I1,rx,a,ex,d,q1⟩=>?_)
 subst ex
 obtain rfl:u=Value.ref a:=rx
 obtain⟨t1,t2,_⟩:=isD_at I1 d
 refine⟨t1,t2,?_⟩
 rw[m.trees]
 refine Calls.callWith_builtin rfl (Calls.evalArgs_plain (Calls.spliced_cons (thn (he pins s1 σ H1 _ I1 q1) λiv s2 ⟨y,H2,I2,ry,q2⟩ =>
  Calls.spliced_cons (thn (hf pins s2 σ H2 _ I2 q2) λfv s3 ⟨z,H3,I3,rz,kvs,k,ea,hl,ey,q3,q4⟩=>Calls.spliced_nil ?_))))
 subst ey
 exact d_setdef I3 ea hl ry rz (λx w' s4 l I4 rw'=>⟨x,_,I4,rw',q3 x l⟩) λs4 l I4=>⟨z,_,I4,rz,q4 l⟩
end
section
variable{X:Cx}{Γ:Nat->Option Addr}{E:XK}{e a b c o:Expr}{pos:Pos}{es:List Expr}{fa fb fo:DSt->Out D}{fr:DSt->Out (List D)}{ft:DSt->Out Bool}{K:Frag}{G H:Hp}
def uZ(i:Nat)(fk fv:DSt->Out D):DSt->Out Fl:=λδ=>match δ[i]? with
 | some (some (.od kvs))=>(fk δ).bind λk=>(fv δ).bind λv=>match zU k with
  | some key=>if kvs.length<sizeLine then .ok (.nx (if zQ kvs key=true then δ else δ.set i (some (.od (Dy kvs key v))))) else .stuck
  | none=>.stuck
 | _=>.stuck
theorem Oz(i:Nat){x:Str}{p apos cpos:Pos}(hv:PE X (.Name x p) (ou i))(ha:DE X Γ E a fa)(hb:DE X Γ E b fb)(m:M2 X (.Name x p) "setdefault" apos a b cpos)(hs:swapsWith (.Call (.Attribute (.Name x p) "setdefault" apos) [a,b] [] cpos) none pos.line X.env=pure false:=by rfl):
  DS X Γ E (.Expr (.Call (.Attribute (.Name x p) "setdefault" apos) [a,b] [] cpos) pos) (uZ i fa fb) :=
 PS.imp (kI (Px hv ha hb m) hs) λN σ H ⟨G0,H0,G,δ,S,w⟩=>by
  obtain⟨O,q⟩:=id S.sl
  unfold uZ at w
  split at w
  .rename_i kvs ei
   obtain⟨v,hvi,aa,vs,ev,h1,h2,h3,h4,h5⟩:=id (q i _ ei)
   subst ev
   refine⟨_,hvi,aa,rfl,.inl ⟨vs,.inl h1⟩,G0,H0,G,δ,S,(aj w).mono (λd w u G1 H1 s1 r1=>?_) λx k=>exD.step k S.st⟩
   have S1:=S.step s1
   refine⟨G0,H0,G1,δ,S1,(aj w).mono (λd2 w u2 G2 H2 s2 r2=>?_) λx k=>exD.step k S1.st⟩
   split at w
   .rename_i key ek
    split at w
    .rename_i hz
     have S2:=S1.step s2
     have s12:=s1.trans s2
     have q1:∀i s,δ[i]?=some (some s)->∃v,σ[i]?=some (some v)/\bN X.K Γ H0 G2 H2 O i v s:=λj y e=>by
      obtain⟨v',z1,z2⟩:=q j y e
      exact⟨v',z1,z2.step s12⟩
     have ga:G2 aa=none:=s12.sep aa (by rw[h1];exact λz=>nomatch z) h2
     have e:=r1.key ek
     subst e
     refine⟨vs,key,s12.hh _ _ h1,by rw[h5.length];exact hz,rfl,λv' l=>?_,λl=>?_⟩
     .rw[if_pos (by rw[←h5.has,l];rfl)] at w
      exact w σ G2 H2 S2
     .rw[if_neg (by rw[←h5.has,l];exact Bool.false_ne_true)] at w
      exact w σ G2 _ (S2.write q1 ga h3 h4 hvi ⟨aa,_,rfl,aP,ga,h3,h4,cZ.put r2 (h5.mono s12.gg)⟩)
    .exact False.elim w
   .exact False.elim w
  .exact False.elim w
def rIdxS(K:Frag):V->List V->Hp->VK->Prop:=λx vs H Q=>∃(l:Addr)(is:List Str)(i:Str)(j:Nat),x=.ref l/\vs=[.str i]/\SqL K H l (is.map V.str)/\is[j]?=some i/\(∀m,m<j->is[m]?≠some i)/\Q (.int j) H
def eqS(i:Str):Value->Bool
 | .str k _=>k==i
 | _=>false
theorem Pr:MtR X "list.index" (rIdxS X.K):=by
 intro pins s σ H x vs v us Q I rx rv h
 obtain⟨l,is,i,j,rfl,rfl,hq,hj,hn,k⟩:=h
 cases rx
 obtain⟨u,rfl,ru⟩:=rv.one
 obtain⟨t,rfl⟩:=ru
 obtain⟨its,r',pl,hz⟩:=I.list hq
 obtain⟨ob,n0,ho,hcls,hdict,hdat⟩:=pl
 obtain⟨c,dd,dat,sl⟩:=ob
 simp only at hcls hdict hdat
 subst hcls hdict hdat
 have gi:∀(m:Nat)(w:Value),its[m]?=some w->∃k t,is[m]?=some k/\w=Value.str k t:=λm w e=>by
  cases hm:is[m]? with
  | none =>
   have l1:is.length<=m:=List.getElem?_eq_none_iff.mp hm
   have l2:=(List.getElem?_eq_some_iff.mp e).1
   have:=r'.length
   rw[List.length_map] at this
   omega
  | some k =>
   obtain⟨u,e1,t,e2⟩:=r'.get (i:=m) (x:=V.str k) (by rw[List.getElem?_map,hm];rfl)
   rw[e] at e1
   cases e1
   exact⟨k,t,rfl,e2⟩
 have lj:j<its.length:=by
  have:=r'.length
  rw[List.length_map] at this
  have:=(List.getElem?_eq_some_iff.mp hj).1
  omega
 rw[List.length_map] at hz
 have zl:its.length<=sizeLine:=by have:=r'.length;rw[List.length_map] at this;omega
 refine call_meets PySem.F.slot_list_index ⟨_,ho,rfl⟩ PySem.F.entry_list_index (PySem.F.args_list_index_2 _ _) (SeqAt.list_indexAt l its.toArray n0 none sl (.str i t) (eqS i) j (by simpa using lj) (by rw[sizeLine_eq] at zl;omega) ?_ ?_) ⟨ho,λy hy=>?_,?_⟩
 .obtain⟨k,t',e1,e2⟩:=gi j _ (List.getElem?_eq_getElem lj)
  rw[hj] at e1
  cases e1
  show eqS i its[j]=true
  rw[e2]
  simp[eqS]
 .intro m hm h2
  have lm:m<its.length:=by simpa using hm
  obtain⟨k,t',e1,e2⟩:=gi m _ (List.getElem?_eq_getElem lm)
  show eqS i its[m]=false
  rw[e2]
  show (k==i)=false
  rw[beq_eq_false_iff_ne]
  exact λz=>hn m h2 (by rw[e1,z])
 .obtain⟨m,hm,rfl⟩:=List.getElem_of_mem (show y∈its by simpa using hy)
  obtain⟨k,t',e1,e2⟩:=gi m _ (List.getElem?_eq_getElem hm)
  rw[e2]
  exact SeqAt.EqAt.str_str k t' i t
 .exact⟨.int j,H,I.tok _,⟨_,rfl⟩,k⟩
def fstS(i:Str):List Str->Nat->Option Nat
 | [],_=>none
 | x::r,k=>if x=i then some k else fstS i r (k+1)
theorem Dj{i:Str}:∀{l:List Str}{k j:Nat},fstS i l k=some j->k<=j/\l[j - k]?=some i/\∀m,m<j - k->l[m]?≠some i
 | [],_,_,h=>by cases h
 | x::r,k,j,h=>by
  unfold fstS at h
  split at h
  .rename_i z
   cases h
   exact⟨Nat.le_refl _,by rw[Nat.sub_self,z];rfl,λm hm=>by omega⟩
  .rename_i z
   obtain⟨h1,h2,h3⟩:=Dj h
   refine⟨by omega,?_,λm hm=>?_⟩
   .rw[show j - k=(j - (k+1))+1 by omega]
    exact h2
   .cases m with
    | zero=>exact λq=>z (Option.some.inj q)
    | succ m=>exact h3 m (by omega)
def JH(d x:D):Option D:=match x with
 | .str i=>(iI d).bind λds=>(lV ds).bind λis=>(fstS i is 0).map λj=>.int (j:Nat)
 | _=>none
def oIdxS(fo fa:DSt->Out D):DSt->Out D:=λδ=>(fo δ).bind λd=>if JL d=true then (fa δ).bind λy=>.opt (JH d y) else .stuck
theorem Ou{apos cpos:Pos}{m:Str}(ho:DE X Γ E o fo)(ha:DE X Γ E a fa)(hh:∀{to te:TE},PE X o to->PE X a te->PE X (.Call (.Attribute o m apos) [a] [] cpos) (tBM X.K "list" (rIdxS X.K) to (iT te lH))):DE X Γ E (.Call (.Attribute o m apos) [a] [] cpos) (oIdxS fo fa):=PE.imp (hh ho ha) λσ H Q ⟨G0,H0,G,δ,S,w⟩=>by
 refine⟨G0,H0,G,δ,S,(aj w).mono (λd w v G1 H1 s1 r1=>?_) λ_ k=>k⟩
 split at w
 .rename_i hL
  refine⟨r1.listTy hL s1.gh,G0,H0,G1,δ,S.step s1,(aj w).mono (λy w u G2 H2 s2 r2=>?_) λ_ k=>k.step s1⟩
  obtain⟨r,e,k⟩:=bc w
  unfold JH at e
  split at e
  .rename_i i
   obtain⟨ds,e1,e2⟩:=Option.bind_eq_some_iff.mp e
   obtain⟨is,e3,e4⟩:=Option.bind_eq_some_iff.mp e2
   obtain⟨j,e5,rfl⟩:=Option.map_eq_some_iff.mp e4
   obtain⟨q,vs,rfl,sq,ra⟩:=r1.iI e1
   obtain⟨_,f1,f2⟩:=Dj e5
   rw[Nat.sub_zero] at f1 f2
   cases r2
   exact⟨q,is,i,j,rfl,rfl,(ra.strs e3)▸s2.gh.seq (s2.gg.seq sq),f1,f2,k _ G2 H2 (s1.trans s2) (.int _)⟩
  .cases e
 .exact False.elim w
def Hm(ff:DSt->Out (List (List D))):DSt->Out Fl:=λδ=>(ff δ).bind λdss=>if dss.isEmpty=true then .stuck else .ok (.nx δ)
theorem ds_clrff{i:Expr}{m:Str}{p2 apos cpos:Pos}{ff:DSt->Out (List (List D))}(he:DFF X Γ E o ff)(hh:∀{to:TE},PE X o to->PS X (.Expr (.Call (.Attribute (.Subscript o i p2) m apos) [] [] cpos) pos) (vo (tBM0 X.K "list" MJ (tOp (rIxL X.K) to (tC (.int 0)))))):
  DS X Γ E (.Expr (.Call (.Attribute (.Subscript o i p2) m apos) [] [] cpos) pos) (Hm ff) :=
 PS.imp (hh he) λN σ H ⟨G0,H0,G,δ,S,w⟩=>by
  refine⟨G0,H0,G,δ,S,(aj w).mono (λdss w a vs G1 H1 s1 f h g na inn=>?_) λx k=>exD.step k S.st⟩
  cases inn with
  | nil=>exact False.elim w
  | @cons b vs ws ds dss fb hb gb r n t =>
   have S1:SR X.K Γ G0 H0 G H1 σ δ:=S.step ⟨aO.refl _,s1.hh.trans (λb u e=>e),s1.gg.trans s1.gh,λ_ _ g=>g⟩
   have ga:G b=none:=aD s1.gg gb
   refine⟨a,_,0,.ref b,rfl,rfl,SqL.of h,DL.IW _ _,.inl ⟨rfl,ws,SqL.of hb⟩,b,ws,rfl,rfl,hb,w σ G _ ?_⟩
   refine⟨⟨S1.st.gg,λc u e=>?_,λc u e=>?_,S1.st.sep⟩,S1.len,?_⟩
   .rw[aN (aJ e (aD S.st.hh fb))];exact S1.st.hh _ _ e
   .rw[aN (aJ e ga)];exact S1.st.gh _ _ e
   .obtain⟨O,q⟩:=S.sl
    refine⟨O,λi x e=>?_⟩
    obtain⟨v,h1,h2⟩:=q i x e
    refine⟨v,h1,h2.step ⟨aO.refl _,λc u e=>?_,λc u e=>?_,λ_ _ g=>g⟩⟩
    .rw[aN (aJ e fb)];exact s1.hh _ _ e
    .rw[aN (aJ e ga)];exact s1.gh _ _ (s1.gg _ _ e)
end
end DL
namespace PySem
open Sem (wp)
theorem MK:typeLookup (.type "list_reverseiterator") "__len__"=pure none:=by rw[typeLookup_type,builtinLookup_eq_fast];kernel_rfl
theorem rev_hint:typeLookup (.type "list_reverseiterator") "__length_hint__"=pure (some (.builtin "list_reverseiterator.__length_hint__")):=by rw[typeLookup_type,builtinLookup_eq_fast];kernel_rfl
theorem rev_sub:isSubtype (.type "list_reverseiterator") (.type "list_reverseiterator")=pure true:=by rw[isSubtype_type];kernel_rfl
theorem PJ:splitId "list_reverseiterator.__length_hint__"=some ("list_reverseiterator","__length_hint__"):=by decide +kernel
section
variable{prog:Program}{w:World}{A:Around}{s:Shared}{R:Result->Shared->Prop}{E:Value->Shared->Prop}
theorem rev_room{I:Addr}{Q:Bool->Shared->Prop}(hT:s.TypeIs (.ref I) "list_reverseiterator")(h:Q false s):wpAny (model prog w) A (Builtin.List.listLengthHint (.ref I)) Q E s:=by
 unfold Builtin.List.listLengthHint
 refine wpAny_bind (wpAny_specialOf hT MK ?_)
 show wpAny _ A (specialOf (Value.ref I) (Str.ofString "__length_hint__") >>= _) _ _ _
 refine wpAny_bind (wpAny_specialOf hT rev_hint ?_)
 dsimp only
 rw[PJ]
 dsimp only
 refine wpAny_bind (wpAny_isInstance (T:="list_reverseiterator") (b:=true) hT rev_sub ?_)
 exact wpAny_pure h
variable{I:Addr}{fp wr:List Addr}{G:Array GenState->Array GenState->Prop}{n:Nat}{P:Nat->Value->Prop}{St:Nat->Shared->Prop}
theorem wH(W:WalksS prog w A.in1 I fp wr G n P St)(hT:∀i s,St i s->s.TypeIs (.ref I) "list_reverseiterator")(S:Addr)(res:Value)(c₀:Nat)(hst:St 0 s)(hSf:S∉fp)(hI:I∈fp)
  (hS:s.heap.get? S=some { cls:=.type "list",data:=.seq #[] c₀ })
  (hR:∀s' acc' c',Moved (S::wr) G s s'->s'.heap.get? S=some { cls:=.type "list",dict:=none,data:=.seq acc' c',slots:=#[] }->ItemsOf P acc' n->R (.ok (.ret res)) s') (hn:n<=sizeLine) :
  wpAny (model prog w) A.in1 (Builtin.List.listExtendWith (.ref S) (.ref I) res)
   (λfin s'=>match fin with | .done f=>R (.ok f) s' | .again c'=>c'.quiet=true/\codeAny (model prog w) A c' R s') (λe s'=>R (.error e) s') s:=by
 have hSI:S≠I:=λe=>hSf (e▸hI)
 unfold Builtin.List.listExtendWith
 refine wpAny_bind (wpAny_typeOf (hT 0 _ hst) ?_)
 have h1:Builtin.List.listSameRef (.ref S) (.ref I)=false:=by simp[Builtin.List.listSameRef,hSI]
 have h2:(Value.type "list_reverseiterator"==Value.type "list")=false:=by decide
 have h3:(Value.type "list_reverseiterator"==Value.type "tuple")=false:=by decide
 simp only[h1,h2,h3,Bool.or_false,Bool.false_eq_true,if_false]
 refine wpAny_bind (W.self 0 _ _ _ hst ?_)
 refine wpAny_bind (wpAny_holding ?_)
 refine rev_room (hT 0 _ hst) ?_
 show wpAny _ A.in1 (again (.builtin "list.extend.loop" ⟨[.ref S,.ref I,res],[]⟩)) _ _ _
 exact wpAny_pure ⟨plainId_quiet F.plain_extend_loop _,codeAny_extend_loopS W hn _ hSf _ n 0 _ _ _ rfl (Nat.zero_le _) hst hS (ItemsOf.nil P) hR⟩
theorem su(W:WalksS prog w A.in1 I fp wr G n P St)(hT:∀i s,St i s->s.TypeIs (.ref I) "list_reverseiterator")(S:Addr)(hst:St 0 s)(hSf:S∉fp)(hI:I∈fp)
  (hS:s.heap.get? S=some { cls:=.type "list",data:=.seq #[] })
  (hR:∀s' acc' c',Moved (S::wr) G s s'->s'.heap.get? S=some { cls:=.type "list",dict:=none,data:=.seq acc' c',slots:=#[] }->ItemsOf P acc' n->R (.ok (.ret .none)) s') (hn:n<=sizeLine) :
  wpAny (model prog w) A.in1 (Builtin.«list.__init__» ⟨[.ref S,.ref I],[]⟩)
   (λfin s'=>match fin with | .done f=>R (.ok f) s' | .again c'=>c'.quiet=true/\codeAny (model prog w) A c' R s') (λe s'=>R (.error e) s') s:=by
 show wpAny _ A.in1 (do let old ←Builtin.List.listItems (.ref S);Builtin.List.listUpdate (.ref S) (λ_=>#[]);letGo old.toList.reverse;Builtin.List.listExtendWith (.ref S) (.ref I) .none) _ _ s
 refine wpAny_bind ?_
 unfold Builtin.List.listItems
 refine wpAny_bind (wpAny_seqItems hS rfl (wpAny_pure ?_))
 show wpAny _ A.in1 (updateSeq S (λ_=>#[]) >>= λ_=>letGo (#[]:Array Value).toList.reverse >>= λ_=>Builtin.List.listExtendWith (.ref S) (.ref I) .none) _ _ s
 refine wpAny_bind (wpAny_updateSeq hS rfl ?_)
 have hS₂:=Heap.get?_update_self (Obj.mapSeq (λ_=>(#[]:Array Value))) hS rfl
 have oth:∀b o,b≠S->s.heap.get? b=some o->(s.heap.update S (Obj.mapSeq (λ_=>(#[]:Array Value)))).get? b=some o :=
  λb o hb e=>(Heap.get?_update_other _ _ (Ne.symm hb)).trans e
 refine wpAny_bind (wpAny_letGo ?_)
 refine wH (hn:=hn) W hT S .none _ (W.frame 0 s _ s.toks hst (Nat.le_refl _) λb hb o e=>oth b o (λh=>hSf (h▸hb)) e) hSf hI hS₂ λs' acc' c' hm hS' hacc=>?_
 exact hR s' acc' c' (Moved.trans W.gtrans ((Moved.refl W.grefl).then_heap (Nat.le_refl _) λb o hb e=>oth b o (λh=>hb (h▸List.mem_cons_self)) e) hm) hS' hacc
theorem Bt{Q:Value->Shared->Prop}(W:WalksS prog w A.in1.in1 I fp wr G n P St)(hT:∀i s,St i s->s.TypeIs (.ref I) "list_reverseiterator")(hst:St 0 s)(hfp:∀b∈fp,b<s.heap.objs.size)(hI:I∈fp)
  (hQ:∀s' acc' c',Moved (s.heap.objs.size::wr) G { s with heap:=s.heap.push { cls:=.type "list",data:=.seq #[] } } s' ->
   s'.heap.get? s.heap.objs.size=some { cls:=.type "list",dict:=none,data:=.seq acc' c',slots:=#[] }->ItemsOf P acc' n->Q (.ref s.heap.objs.size) s') (hn:n<=sizeLine) :
  wpAny (model prog w) A (call (.type "list") [.ref I]) Q E s:=by
 have hSf:s.heap.objs.size∉fp:=λhm=>Nat.lt_irrefl _ (hfp _ hm)
 refine callType_codes (Q₁:=λobj s₁=>obj=.ref s.heap.objs.size/\s₁={ s with heap:=s.heap.push { cls:=.type "list",data:=.seq #[] } }) F.called_list (F.typeCall_list_1 _) F.entry_list_init
  (code_list_new _ ⟨rfl,rfl⟩) λobj s₁ h₁=>?_
 obtain⟨rfl,rfl⟩:=h₁
 have hS:(s.heap.push { cls:=.type "list",data:=.seq #[] }).get? s.heap.objs.size=some { cls:=.type "list",data:=.seq #[] }:=Heap.get?_push_size _ rfl
 refine⟨⟨_,hS,rfl⟩,F.args_list_init_2 _ _,su (hn:=hn) W hT _ (W.frame 0 s _ s.toks hst (Nat.le_refl _) λb _ o e=>Heap.get?_push_of_some _ e) hSf hI hS λs' acc' c' hm hS' hacc=>?_⟩
 exact⟨rfl,hQ s' acc' c' hm hS' hacc⟩
end
end PySem
namespace DL
open PySem PySem.Spec PyProof.Rows MX L2
theorem KR:∀{xs:List V}{us:List Value},Vals xs us->Vals xs.reverse us.reverse
 | [],_,.nil=>.nil
 | x::xs,u::us,.cons h r=>by
  rw[List.reverse_cons,List.reverse_cons]
  exact(KR r).append (.cons h .nil)
section
variable{X:Cx}{Γ:Nat->Option Addr}{E:XK}{e a b c o:Expr}{pos p p2 pos2:Pos}{fa:DSt->Out D}{te:TE}
def tRev(K:Frag)(te:TE):TE:=λσ H Q=>te σ H λx H1=>∃a xs,x=.ref a/\SqL K H1 a xs/\∀q,H1 q=none->Q (.ref q) (upd H1 q (.lst xs.reverse))
theorem Mv(hc:X.calm=true)(hgl:Gl X "list")(hml:X.mg "list"=none)(hgr:Gl X "reversed")(hmr:X.mg "reversed"=none)(he:PE X e te)(hs:starEach [e] X.env=[(false,eval e X.env)])
  (hs2:starEach [(.Call (.Name "reversed" p2) [e] [] pos2)] X.env=[(false,eval (.Call (.Name "reversed" p2) [e] [] pos2) X.env)]):PE X (.Call (.Name "list" p) [.Call (.Name "reversed" p2) [e] [] pos2] [] pos) (tRev X.K te):=by
 have bl:bootBuiltins "list"=some (.type "list"):=by decide +kernel
 have br:bootBuiltins "reversed"=some (.type "reversed"):=by decide +kernel
 intro pins s σ H Q I h
 refine wpAny_Call_Name_kw (qC I hgl hml bl ?_ (by decide) (by decide))
 refine PyProof.Rows.callWith_type1 ?_ (by rw[hs2];rfl) rfl
 rw[hs2]
 show wpAny _ _ (spliced [(false,eval (.Call (.Name "reversed" p2) [e] [] pos2) X.env)]) _ _ s
 refine Calls.spliced_cons (wpAny_Call_Name_kw (qC I hgr hmr br ?_ (by decide) (by decide)))
 refine PyProof.Rows.callWith_type1 ?_ (by rw[hs];rfl) rfl
 rw[hs]
 show wpAny _ _ (spliced [(false,eval e X.env)]) _ _ s
 refine Calls.spliced_cons (thn (he pins s σ H _ I h) λu s1 ⟨x,H1,I1,r1,a,xs,ex,sq,q1⟩=>Calls.spliced_nil ?_)
 subst ex
 obtain rfl:u=Value.ref a:=r1
 obtain⟨its,r,pl,hz⟩:=I1.list sq
 refine call_reversed_list pl.isList (Calls.spliced_nil ?_)
 have hl:=r.length
 have ha:a<s1.heap.objs.size:=by
  obtain⟨ob,_,ho,_⟩:=pl
  exact Heap.lt_size ho
 have hne:a≠s1.heap.objs.size:=Nat.ne_of_lt ha
 have e0:((its.toArray.size:Nat):Int) - 1=(its.length:Int) - 1:=by simp
 rw[e0]
 have hh:X.A.in1.in1.handled=none:=I.ok.hd hc
 have W:=(Walks.listRev (prog:=X.prog) (w:=X.w) (A:=X.A.in1.in1) hh s1.heap.objs.size a hne its.toArray).toS
 refine Bt W (λi s st=>st.2.1.typeIs) ⟨Nat.zero_le _,⟨_,Heap.get?_push_size _ rfl,rfl,?_⟩,?_⟩ (λb hb=>?_) (by simp) (λs' acc c' mv hS hacc=>?_) (by rw[List.size_toArray];omega)
 .show Data.fields #[Value.ref a,rawInt ((its.length:Int) - 1)]=_
  have:((its.toArray.size:Nat):Int) - 1 - ((0:Nat):Int)=(its.length:Int) - 1:=by simp
  rw[this]
 .exact pl.isList.at λo ho=>Heap.get?_push_of_some _ ho
 .have sz:∀ob:Obj,(s1.heap.push ob).objs.size=s1.heap.objs.size+1:=λob=>by simp[Heap.push]
  rw[sz]
  simp only[List.mem_cons,List.not_mem_nil,or_false] at hb
  rcases hb with rfl | rfl
  .exact Nat.lt_succ_self _
  .exact Nat.lt_succ_of_lt ha
 .have sz:∀ob:Obj,(s1.heap.push ob).objs.size=s1.heap.objs.size+1:=λob=>by simp[Heap.push]
  have es:s'={ s1 with heap:=s'.heap,toks:=s'.toks }:=by
   obtain⟨h1,h2,h3,h4,h5⟩:=mv
   cases s'
   simp only at h2 h3 h4 ⊢
   subst h2 h3 h4
   rfl
  have fI:H1 s1.heap.objs.size=none:=I1.fresh
  have ev:acc.toList=its.reverse:=by
   obtain⟨h1,h2⟩:=hacc
   apply List.ext_getElem?
   intro j
   by_cases hj:j<its.length
   .have lt:j<acc.size:=by rw[h1];simpa using hj
    have g:acc[j]?=some acc[j]:=Array.getElem?_eq_getElem lt
    have:=h2 j _ g
    rw[List.getElem?_reverse hj,←Array.getElem?_toList] at *
    simp only[List.size_toArray,List.getElem?_toArray] at this
    rw[this,g]
   .rw[List.getElem?_eq_none (by simp;omega),List.getElem?_eq_none (by simp at h1 ⊢;omega)]
  have T:=I1.Bb (ch:=[s1.heap.objs.size]) (h':=s'.heap) (t':=s'.toks) (a:=(s1.heap.push (revObj a ((its.length:Int) - 1))).objs.size) (o:=.lst xs.reverse) (λb hb=>by rw[List.mem_singleton.mp hb];exact I1.fpOk (Nat.le_refl _) fI)
   (λb u hb hu=>mv.heap b u (by
    have lt:=Heap.lt_size hu
    rw[sz]
    simp only[List.mem_cons,List.not_mem_nil,or_false] at hb ⊢
    rintro (z | z)
    .exact absurd lt (by rw[z];exact Nat.not_lt.mpr (Nat.le_succ _))
    .exact hb z) (Heap.get?_push_of_some _ (Heap.get?_push_of_some _ hu))) (by rw[sz];omega)
   ⟨by rw[List.length_reverse];exact hz,acc.toList,c',ev▸KR r,hS⟩
  rw[es]
  exact⟨.ref _,_,T,rfl,q1 _ (I1.hok.fresh (by rw[sz];omega))⟩
def revD:D->Option D:=λx=>(iI x).map λds=>.lst ds.reverse
theorem aC.rev{K:Frag}{H:Hp}:∀{vs:List V}{ds:List D},aC K Γ H vs ds->aC K Γ H vs.reverse ds.reverse
 | [],_,.nil=>.nil
 | v::vs,d::ds,.cons h r=>by
  rw[List.reverse_cons,List.reverse_cons]
  exact r.rev.append (.cons h .nil)
theorem Ly(hc:X.calm=true)(hgl:Gl X "list")(hml:X.mg "list"=none)(hgr:Gl X "reversed")(hmr:X.mg "reversed"=none)(he:DE X Γ E e fa)(hs:starEach [e] X.env=[(false,eval e X.env)]:=by rfl)
  (hs2:starEach [(.Call (.Name "reversed" p2) [e] [] pos2)] X.env=[(false,eval (.Call (.Name "reversed" p2) [e] [] pos2) X.env)]:=by rfl):DE X Γ E (.Call (.Name "list" p) [.Call (.Name "reversed" p2) [e] [] pos2] [] pos) (o1 revD fa) :=
 PE.imp (Mv hc hgl hml hgr hmr he hs hs2) λσ H Q ⟨G0,H0,G,δ,S,w⟩=>by
  refine⟨G0,H0,G,δ,S,(aj w).mono (λx w v G1 H1 s1 r1=>?_) λ_ k=>k⟩
  obtain⟨d,e,k⟩:=bc w
  unfold revD at e
  obtain⟨ds,e1,rfl⟩:=Option.map_eq_some_iff.mp e
  obtain⟨q,vs,rfl,sq,ra⟩:=r1.iI e1
  exact⟨q,vs,rfl,s1.gh.seq sq,λp hp=>k _ _ _ (s1.trans (.new s1.gh hp)) (.lst aP (ra.rev.mono (aO.up (aD s1.gh hp))))⟩
end
end DL
namespace DL
open PySem PySem.Spec PyProof.Rows MX L2
section
variable{X:Cx}{Γ:Nat->Option Addr}{E:XK}{a:Expr}{pos:Pos}{fa:DSt->Out D}
theorem de_dinX(i:Nat){x:Str}{p:Pos}(hu:X.A.units+64<cLine)(hv:PE X (.Name x p) (ou i))(ha:DE X Γ E a fa)(hm:behindInMarks .In (.Name x p)=false:=by rfl):DE X Γ E (.Compare a [.In] [.Name x p] pos) (bV (dInX i fa)) :=
 PE.imp (pe_cmp (pc_din (by omega) ha hv) hm) λσ H Q ⟨G0,H0,G,δ,S,w⟩=>by
  have w:=aj (aj w)
  refine⟨G0,H0,G,δ,S,w.mono (λd w v G1 H1 s1 r1=>?_) λ_ k=>k⟩
  split at w
  .rename_i key kvs ek ei
   obtain⟨aa,vs,hvi,h1,r⟩:=(S.step s1).dk ei
   have e:=r1.key ek
   subst e
   refine⟨_,hvi,aa,jT vs key,rfl,vD.k h1,?_⟩
   rw[r.has]
   exact w _ G1 H1 s1 (.bl _)
  .exact False.elim w
end
end DL
local macro_rules
 | `(tactic| walk_at $s:str)=>do
  let t:=s.getString
  if t=="o" then return ←`(tactic| first | exact Or.inl rfl | exact Or.inr rfl)
  if t.startsWith "d " || t.startsWith "e " then
   let a:=((t.splitOn " ").filter (·≠"")).toArray.map λx=>Lean.mkIdent x.toName
   let i:=λ(x:String)=>Lean.mkIdent x.toName
   let (lp,w,K,mg,base,t',X,G,T):=(i "l.prog",i "w",i "K",i "mg",i "base",i "t",i "X",i "G",i "T")
   let k:=if t.startsWith "d " then 3 else 2
   let (D,J,ok,U,tx,bd):=(a[1]!,a[k]!,a[k+1]!,a[k+2]!,a[k+3]!,a[k+4]!)
   let as:=a.extract (k+5) a.size
   let (m,ex,kp):=(Lean.mkIdent (tx.getId++`m),Lean.mkIdent (tx.getId++`x++`ex),Lean.mkIdent (U.getId++`kp))
   let L:=i "L"
   let bs ←as.mapM λx=>`(($x $L))
   if t.startsWith "d " then
    return ←`(tactic| (obtain⟨_,$U⟩:=$ex;have $D : $(a[2]!) $lp $w $K $mg $base ($(i "Ga0") $t') $J := ⟨_,_,fun $L=>$ok $U $T $bs*,$bd $U,mg_of $X $G $m,$kp⟩))
   return ←`(tactic| (obtain⟨_,$U⟩:=$ex;have $D : $(i "DDs") $lp $w $K $mg $base ($(i "Ga0") $t') $J := ⟨_,_,$ok $U $T $as*,$bd $U,mg_of $X $G $m,$kp⟩))
  unless t.startsWith "ev" || t.startsWith "vc" || t.startsWith "vs" do Lean.Macro.throwUnsupported
  let (h,r):=match t.splitOn ":" with
   | [h,r]=>(h,r)
   | _=>(t,"")
  let minus:=(h.splitOn "-").drop 1
  let l:=if t.startsWith "ev" then "cg dN uz aW cV cP iR sIf bC nG uY sClr2 sPut sAsg gv gb gvo slD o1 o2 o2b o3 oC oF oM oMk oFld rZ bV andT orT jJ tst vW orV notV aR aB lQ uR xR jR xX kc one1 frzd frz frzS yr yL dq lL kE yu Ib asB_b zX Gp Gq xm JM ixD_t Gg Gf IW atI_1 atI_2 Gs FP Gw zT iG gN oJ cO gT Out.eX Out.Fo Out.tH Out.lR Out.J4 Out.yH nxP_ok List.map_cons List.map_nil List.length_cons List.length_nil List.append_assoc List.nil_append List.cons_append List.getElem?_cons_zero List.getElem?_cons_succ List.getElem?_nil List.set_cons_zero List.set_cons_succ Nat.zero_add Nat.reduceAdd Nat.reduceSub List.replicate_succ List.replicate_zero List.lookup_cons List.lookup_nil Option.some.injEq Option.bind_some Option.map_some Nat.reduceBEq Nat.reduceEqDiff Int.reduceLT Int.reduceLE Int.reduceNeg Int.reduceAdd Int.reduceMul Int.reduceSub Nat.reduceLeDiff reduceIte ite_true decide_true decide_false Bool.not_true Bool.not_false Nat.reduceEqDiff Bool.false_eq_true Option.isNone_none Option.isNone_some yJ String.reduceBEq String.reduceEq beq_self_eq_true List.contains_cons List.contains_nil Bool.or_false Bool.or_true Bool.true_or Bool.false_or Bool.and_true Bool.and_false Bool.true_and Bool.false_and Bool.not_eq_true eq_self_iff_true Int.cast_ofNat_Int Int.reduceBEq Int.natCast_zero" else if t.startsWith "vs" then "jr aM W_noex thn_nx thn_rt thn_rl sv_0 sv_s sb_0 sb_s so_0 so_s sw_0 sw_1 sw_s W_gv W_gb W_gvo W_o1 W_o2 W_o2b W_o3 W_bV W_tst W_orT W_notT W_andV W_orV W_notV W_nil W_cons W_tup W_lst W_chk W_seqO W_lstV W_oF W_oMk W_isi as_l as_t as_r W_rng W_sl W_noI W_soI si_i cut_l W_addL W_retv W_nilS W_seq W_ret W_if W_set W_setl W_asg W_app W_for W_runF W_eR W_eL trn_nx trn_rt W_comp slD dN one1 yr yL dq lL kE yu Ib asB_b zX Gp Gq xm JM ixD_t Gg Gf IW atI_1 atI_2 Gs FP Gw zT iN_0 iN_1 iN_2 iN_3 iN_4 iN_5 iN_6 iN_7 gN oJ cO gT frzd frz frzS Out.lR Option.bind_some Option.map_some List.map_cons List.map_nil List.length_cons List.length_nil List.append_assoc List.nil_append List.cons_append List.getElem?_cons_zero List.getElem?_cons_succ List.getElem?_nil List.set_cons_zero List.set_cons_succ Nat.zero_add Nat.reduceAdd Nat.reduceSub List.replicate_succ List.replicate_zero Nat.reduceEqDiff Int.reduceLT Int.reduceLE Int.reduceNeg Int.reduceAdd Int.reduceMul Int.reduceSub Nat.reduceLeDiff decide_true decide_false decide_eq_true_eq decide_eq_false_iff_not Bool.not_true Bool.not_false Bool.false_eq_true Bool.true_eq_false not_true_eq_false not_false_eq_true if_true if_false true_and and_true and_self yJ String.reduceBEq beq_self_eq_true Int.cast_ofNat_Int Int.reduceBEq Int.natCast_zero sizeLine_eq List.lookup_cons List.lookup_nil List.contains_cons List.contains_nil Bool.or_false Bool.or_true Bool.true_or Bool.false_or Nat.reduceBEq Option.isNone_none Option.isNone_some Option.some.injEq exists_eq_left' WS_ok j0 WS_noex WS_of thS_nx thS_rt tnS_nx tnS_rt WS_fO WS_nil WS_seq WS_ret WS_if WS_for WS_run WS_eR List.length_append" else "jr aM W_noex thn_nx thn_rt thn_rl sv_0 sv_s sb_0 sb_s so_0 so_s sw_0 sw_1 sw_s W_gv W_gb W_gvo W_o1 W_o2 W_o2b W_o3 W_bV W_tst W_orT W_notT W_andV W_orV W_notV W_nil W_cons W_tup W_lst W_chk W_seqO W_lstV W_oF W_oMk W_isi as_l as_t as_r W_rng W_sl W_noI W_soI si_i cut_l W_addL W_retv W_nilS W_seq W_ret W_if W_set W_setl W_asg W_app W_for W_runF W_eR W_eL trn_nx trn_rt W_comp slD dN one1 yr yL dq lL kE yu Ib asB_b zX Gp Gq xm JM ixD_t Gg Gf IW atI_1 atI_2 Gs FP Gw zT iN_0 iN_1 iN_2 iN_3 iN_4 iN_5 iN_6 iN_7 gN oJ cO gT frzd frz frzS Out.lR Option.bind_some Option.map_some List.map_cons List.map_nil List.length_cons List.length_nil List.append_assoc List.nil_append List.cons_append List.getElem?_cons_zero List.getElem?_cons_succ List.getElem?_nil List.set_cons_zero List.set_cons_succ Nat.zero_add Nat.reduceAdd Nat.reduceSub List.replicate_succ List.replicate_zero Nat.reduceEqDiff Int.reduceLT Int.reduceLE Int.reduceNeg Int.reduceAdd Int.reduceMul Int.reduceSub Nat.reduceLeDiff decide_true decide_false decide_eq_true_eq decide_eq_false_iff_not Bool.not_true Bool.not_false Bool.false_eq_true Bool.true_eq_false not_true_eq_false not_false_eq_true if_true if_false true_and and_true and_self yJ String.reduceBEq beq_self_eq_true Int.cast_ofNat_Int Int.reduceBEq Int.natCast_zero sizeLine_eq List.lookup_cons List.lookup_nil List.contains_cons List.contains_nil Bool.or_false Bool.or_true Bool.true_or Bool.false_or Nat.reduceBEq Option.isNone_none Option.isNone_some Option.some.injEq exists_eq_left'"
  let all:=(l.splitOn " ").filter λx=>!minus.contains x
  let ids:=(all++(r.splitOn " ").filter (·≠"")).toArray.map λx=>Lean.mkIdent x.toName
  let args ←ids.mapM λi=>`(Lean.Parser.Tactic.simpLemma| $i:term)
  `(tactic| simp only[$args,*])
namespace K9
open PySem L2 MX DL
def top(i:Nat):Stmt:=PySem.Challenge.pw_mustmay_k11_plans_read.main.body.getD i (.Pass ⟨0,0,0,0⟩)
structure Ad where
 Door:Addr
 Must:Addr
 May:Addr
 Shut:Addr
 Torn:Addr
 Draft:Addr
 Plan:Addr
def Ga0(t:Ad):Plc:=λc=>[t.Door,t.Must,t.May,t.Shut,t.Torn,t.Draft,t.Plan][c]?
abbrev Ga(t:Ad)(L:Plc):Plc:=xt (Ga0 t) L
abbrev lJ:Nat:=1
abbrev vX:Nat:=2
abbrev j6:Nat:=3
abbrev j7:Nat:=4
abbrev cz:Nat:=5
abbrev bU:Nat:=6
def qu:D->Option Bool:=isiE [(cz,false),(bU,true)]
def iu:D->Option Bool:=m7 "bool" []
def km:D->Option Bool:=m7 "int" []
def cX:D->Option Bool:=m7 "list" []
def eY:D->Option Bool:=m7 "str" []
def dY:D->Option Bool:=m7 "tuple" []
structure Txt(K:Frag)(mg:Str->Option Value)(t:Ad):Prop where
 g_Door:mg "Door"=some (.ref t.Door)
 i_Door:sy K t.Door
 g_Must:mg "Must"=some (.ref t.Must)
 i_Must:sy K t.Must
 g_May:mg "May"=some (.ref t.May)
 i_May:sy K t.May
 g_Shut:mg "Shut"=some (.ref t.Shut)
 i_Shut:sy K t.Shut
 g_Torn:mg "Torn"=some (.ref t.Torn)
 i_Torn:sy K t.Torn
 g_Draft:mg "Draft"=some (.ref t.Draft)
 Ge:sy K t.Draft
 g_Plan:mg "Plan"=some (.ref t.Plan)
 LK:sy K t.Plan
 dZ:bD K t.Draft "actions"
 dI:bD K t.Draft "rooms"
 rR:bD K t.May "to"
 ni:bD K t.Must "to"
 eZ:bD K t.Plan "actions"
 eO:bD K t.Plan "rooms"
 nj:bD K t.Shut "to"
 nq:bD K t.Torn "to"
 b_all:mg "all"=none
 b_bool:mg "bool"=none
 j5:mg "enumerate"=none
 Je:mg "int"=none
 bG:mg "isinstance"=none
 fX:mg "len"=none
 yX:mg "list"=none
 dU:mg "range"=none
 Lp:mg "reversed"=none
 b_set:mg "set"=none
 b_str:mg "str"=none
 yt:mg "tuple"=none
 qu:∀L:Plc,ue K (Ga t L) (.ref t.Plan) qu
 iu:∀L:Plc,ue K (Ga t L) (.ty "bool") iu
 km:∀L:Plc,ue K (Ga t L) (.ty "int") km
 cX:∀L:Plc,ue K (Ga t L) (.ty "list") cX
 eY:∀L:Plc,ue K (Ga t L) (.ty "str") eY
 dY:∀L:Plc,ue K (Ga t L) (.ty "tuple") dY
 vY:∃u,mg "FIGURES"=some u/\RelV (.str "0123456789") u
 rK:∃u,mg "LETTERS"=some u/\RelV (.str "abcdefghijklmnopqrstuvwxyz") u
 ju:∃u,mg "MOST_ACTIONS"=some u/\RelV (.int 8) u
 mJ:∃u,mg "MOST_ROOMS"=some u/\RelV (.int 2000) u
 iZ:∃u,mg "MOST_SIGNS"=some u/\RelV (.int 8) u
 Lr:∃a,mg "SHUT"=some (.ref a)/\∃(o:Obj)(its:Array Value)(n:Nat),K.lookup a=some o/\o.cls=.type "tuple"/\o.data=.seq its n/\its.size<=sizeLine/\Vals [V.str "shut",V.non] its.toList
section
variable{P:Program}{w:World}{K:Frag}{mg:Str->Option Value}{base:Heap}{t:Ad}{L:Plc}{f:Addr}{fd:FuncData}
abbrev qK:Stmt:=inClass (top 6) 0
abbrev qP:Stmt:=inClass (top 9) 0
abbrev qR:Stmt:=inClass (top 10) 0
def pF:List D->Out (List (Str×D)):=λds=>match ds with
 | [d]=>.ok [("to",d)]
 | _=>.stuck
def CN:List D->Out (List (Str×D)):=pF
def pG:List D->Out (List (Str×D)):=λds=>match ds with
 | []=>.ok [("to",.non)]
 | _=>.stuck
def tG:List D->Out (List (Str×D)):=pG
def HD(K:Frag):Sp:=λvs H Q _=>∃a C dx v,vs=[.ref a,v]/\H a=some (.ins C dx [])/\Cls K C/\bD K C "to"/\Q .non (upd H a (.ins C dx [("to",v)]))
theorem Hn:aF ["self","to"] ["self","to"] (aq qK):=⟨rfl,rfl,rfl,by decide +kernel,rfl,by decide +kernel,by decide +kernel⟩
theorem Gz{f:Addr}{fd:FuncData}(F:L2.Fun K "__init__" "Door.__init__" qK f fd):bO P w K mg base CX0 1 f fd ["self","to"] (HD K):=by
 refine F.ok Hn (λvs H Q E h=>?_) (λcdv A outer s H vs Q E hr h=>?_)
 .obtain⟨a,C,dx,v,rfl,_⟩:=h
  rfl
 .obtain⟨a,C,dx,v,rfl,hH,cl,na,q⟩:=h
  refine⟨_,kJ (My (pv 0) (pv 1) rfl),?_⟩
  exact⟨_,rfl,_,rfl,a,C,dx,_,rfl,hH,cl,na,(by decide),q⟩
theorem HH{K:Frag}{Γ:Nat->Option Addr}{G H:Hp}{a C dx:Addr}{v:V}{d:D}{f:Str}{Q:VK}(ga:G a=none)(sg:aO G H)(r:Rep K Γ G v d)
  (w:∀fs G' H',aO G G'->(∀b o,H b=some o->b≠a->H' b=some o)->aO G' H'->(∀b,H b≠none->G b=none->G' b=none)->H' a=some (.ins C dx fs)->iC K Γ G' fs [(f,d)]->Q .non H'):Q .non (upd H a (.ins C dx [(f,v)])) :=
 w [(f,v)] G _ (aO.refl _) (λb o e hb=>by rw[aN hb];exact e) (λb o e=>by rw[aN (aJ e ga)];exact sg _ _ e) (λ_ _ g=>g) aP (.cons r .nil)
theorem ok_to{c:Nat}{f C0:Addr}{fd:FuncData}(F:bO P w K mg base CX0 1 f fd ["self","to"] (HD K))(hc:Ga t L c=some C0)(cl:Cls K C0)(na:bD K C0 "to"):bO P w K mg base CX0 1 f fd ["self","to"] (spI K (Ga t L) c 1 pF):=F.imp λvs H Q E h=>by
 obtain⟨hl,a,dx,C,us,G,ds,rfl,hH,hC,ga,sg,r,w⟩:=h
 rw[hc] at hC
 cases hC
 cases r with
 | nil=>cases hl
 | cons r1 r2 =>
  cases r2 with
  | cons _ _=>cases hl
  | nil=>exact⟨a,C0,dx,_,rfl,hH,cl,na,HH ga sg r1 w⟩
theorem Hu:aF ["self"] ["self"] (aq qP):=⟨rfl,rfl,rfl,by decide +kernel,rfl,by decide +kernel,by decide +kernel⟩
theorem Hw:aF ["self"] ["self"] (aq qR):=⟨rfl,rfl,rfl,by decide +kernel,rfl,by decide +kernel,by decide +kernel⟩
theorem GK{f fD:Addr}{fd fdD:FuncData}(F:L2.Fun K "__init__" "Shut.__init__" qP f fd)(T:Txt K mg t)(G0:bO P w K mg base CX0 1 fD fdD ["self","to"] (HD K))(ca:yp K t.Door "__init__" (.ref fD))(hk:keepIn K (.ref fD)=true)(hb:Binds K fdD ["self","to"] []):bO P w K mg base CX0 2 f fd ["self"] (spI K (Ga t L) j6 0 pG):=by
 refine F.ok Hu (λvs H Q E h=>h.1) (λcdv A outer s H vs Q E hr h=>?_)
 obtain⟨hl,a,dx,C,us,G,ds,rfl,hH,hC,ga,sg,r,w⟩:=h
 cases hC
 cases r with
 | cons _ _=>cases hl
 | nil =>
  refine⟨_,kJ (kI (J5 G0 hr rfl T.g_Door ca hk hb .nil pass0 (aX (pv 0) (aX Mw bL)))),?_⟩
  exact⟨_,rfl,a,_,dx,_,rfl,hH,T.i_Shut.cls,T.nj,HH ga sg .non w⟩
theorem GQ{f fD:Addr}{fd fdD:FuncData}(F:L2.Fun K "__init__" "Torn.__init__" qR f fd)(T:Txt K mg t)(G0:bO P w K mg base CX0 1 fD fdD ["self","to"] (HD K))(ca:yp K t.Door "__init__" (.ref fD))(hk:keepIn K (.ref fD)=true)(hb:Binds K fdD ["self","to"] []):bO P w K mg base CX0 2 f fd ["self"] (spI K (Ga t L) j7 0 tG):=by
 refine F.ok Hw (λvs H Q E h=>h.1) (λcdv A outer s H vs Q E hr h=>?_)
 obtain⟨hl,a,dx,C,us,G,ds,rfl,hH,hC,ga,sg,r,w⟩:=h
 cases hC
 cases r with
 | cons _ _=>cases hl
 | nil =>
  refine⟨_,kJ (kI (J5 G0 hr rfl T.g_Door ca hk hb .nil pass0 (aX (pv 0) (aX Mw bL)))),?_⟩
  exact⟨_,rfl,a,_,dx,_,rfl,hH,T.i_Torn.cls,T.nq,HH ga sg .non w⟩
abbrev qN:Stmt:=inClass (top 7) 0
theorem Hs:aF ["self"] ["self"] (aq qN):=scm
def qb:DSt->Out Fl:=(bC (kc (.str "must")))
def pA:List D->Out D:=λds=>(cg 1 qb ds).aY
abbrev Ir:Inf D:=⟨"word",1,["self"],pA⟩
theorem GF(F:L2.Fun K "word" "Must.word" qN f fd)(T:Txt K mg t):OD P w K mg base (Ga t L) Ir f fd:=by
 refine okJ 0 qb F Hs λ_ _ _ _ _ _ hr=>?_
 exact(au (aQ aV))
abbrev tY:Stmt:=inClass (top 8) 0
theorem Kg:aF ["self"] ["self"] (aq tY):=scm
def tM:DSt->Out Fl:=(bC (kc (.str "may")))
def tE:List D->Out D:=λds=>(cg 1 tM ds).aY
abbrev K7:Inf D:=⟨"word",1,["self"],tE⟩
theorem J0(F:L2.Fun K "word" "May.word" tY f fd)(T:Txt K mg t):OD P w K mg base (Ga t L) K7 f fd:=by
 refine okJ 0 tM F Kg λ_ _ _ _ _ _ hr=>?_
 exact(au (aQ aV))
abbrev qQ:Stmt:=inClass (top 9) 1
theorem Hv:aF ["self"] ["self"] (aq qQ):=scm
def qd:DSt->Out Fl:=(bC (kc (.str "shut")))
def pB:List D->Out D:=λds=>(cg 1 qd ds).aY
abbrev Iu:Inf D:=⟨"word",1,["self"],pB⟩
theorem GP(F:L2.Fun K "word" "Shut.word" qQ f fd)(T:Txt K mg t):OD P w K mg base (Ga t L) Iu f fd:=by
 refine okJ 0 qd F Hv λ_ _ _ _ _ _ hr=>?_
 exact(au (aQ aV))
abbrev qT:Stmt:=inClass (top 10) 1
theorem Hx:aF ["self"] ["self"] (aq qT):=scm
def qe:DSt->Out Fl:=(bC (kc (.str "torn")))
def pC:List D->Out D:=λds=>(cg 1 qe ds).aY
abbrev Iv:Inf D:=⟨"word",1,["self"],pC⟩
theorem GR(F:L2.Fun K "word" "Torn.word" qT f fd)(T:Txt K mg t):OD P w K mg base (Ga t L) Iv f fd:=by
 refine okJ 0 qe F Hx λ_ _ _ _ _ _ hr=>?_
 exact(au (aQ aV))
def vq:List (Nat×(List D->Out D)):=[(lJ,pA),(vX,tE),(j6,pB),(j7,pC)]
abbrev nQ:Stmt:=inClass (top 7) 1
theorem Cq:aF ["self"] ["self"] (aq nQ):=scm
def uK:DSt->Out Fl:=(bC (kc (.bl true)))
def Eb:List D->Out D:=λds=>(cg 1 uK ds).aY
abbrev Em:Inf D:=⟨"needs",1,["self"],Eb⟩
theorem BV(F:L2.Fun K "needs" "Must.needs" nQ f fd)(T:Txt K mg t):OD P w K mg base (Ga t L) Em f fd:=by
 refine okJ 0 uK F Cq λ_ _ _ _ _ _ hr=>?_
 exact(au (aQ ik))
abbrev qM:Stmt:=inClass (top 8) 1
theorem Hr:aF ["self"] ["self"] (aq qM):=scm
def xj:DSt->Out Fl:=(bC (kc (.bl false)))
def Il:List D->Out D:=λds=>(cg 1 xj ds).aY
abbrev Ip:Inf D:=⟨"needs",1,["self"],Il⟩
theorem GD(F:L2.Fun K "needs" "May.needs" qM f fd)(T:Txt K mg t):OD P w K mg base (Ga t L) Ip f fd:=by
 refine okJ 0 xj F Hr λ_ _ _ _ _ _ hr=>?_
 exact(au (aQ ik))
abbrev nR:Stmt:=inClass (top 9) 2
theorem Cr:aF ["self"] ["self"] (aq nR):=scm
def uL:DSt->Out Fl:=(bC (kc (.bl false)))
def Ec:List D->Out D:=λds=>(cg 1 uL ds).aY
abbrev En:Inf D:=⟨"needs",1,["self"],Ec⟩
theorem BW(F:L2.Fun K "needs" "Shut.needs" nR f fd)(T:Txt K mg t):OD P w K mg base (Ga t L) En f fd:=by
 refine okJ 0 uL F Cr λ_ _ _ _ _ _ hr=>?_
 exact(au (aQ ik))
abbrev nT:Stmt:=inClass (top 10) 2
theorem Cu:aF ["self"] ["self"] (aq nT):=scm
def uM:DSt->Out Fl:=(bC (kc (.bl true)))
def Ed:List D->Out D:=λds=>(cg 1 uM ds).aY
abbrev Eo:Inf D:=⟨"needs",1,["self"],Ed⟩
theorem BX(F:L2.Fun K "needs" "Torn.needs" nT f fd)(T:Txt K mg t):OD P w K mg base (Ga t L) Eo f fd:=by
 refine okJ 0 uM F Cu λ_ _ _ _ _ _ hr=>?_
 exact(au (aQ ik))
abbrev lC:Stmt:=inClass (top 7) 2
theorem Ah:aF ["self"] ["self"] (aq lC):=scm
def sU:DSt->Out Fl:=(bC (kc (.bl true)))
def Bf:List D->Out D:=λds=>(cg 1 sU ds).aY
abbrev Bj:Inf D:=⟨"allows",1,["self"],Bf⟩
theorem z7(F:L2.Fun K "allows" "Must.allows" lC f fd)(T:Txt K mg t):OD P w K mg base (Ga t L) Bj f fd:=by
 refine okJ 0 sU F Ah λ_ _ _ _ _ _ hr=>?_
 exact(au (aQ ik))
abbrev nP:Stmt:=inClass (top 8) 2
theorem Cp:aF ["self"] ["self"] (aq nP):=scm
def uJ:DSt->Out Fl:=(bC (kc (.bl true)))
def Ea:List D->Out D:=λds=>(cg 1 uJ ds).aY
abbrev El:Inf D:=⟨"allows",1,["self"],Ea⟩
theorem BR(F:L2.Fun K "allows" "May.allows" nP f fd)(T:Txt K mg t):OD P w K mg base (Ga t L) El f fd:=by
 refine okJ 0 uJ F Cp λ_ _ _ _ _ _ hr=>?_
 exact(au (aQ ik))
abbrev lD:Stmt:=inClass (top 9) 3
theorem Ai:aF ["self"] ["self"] (aq lD):=scm
def sV:DSt->Out Fl:=(bC (kc (.bl false)))
def Bg:List D->Out D:=λds=>(cg 1 sV ds).aY
abbrev Bk:Inf D:=⟨"allows",1,["self"],Bg⟩
theorem z8(F:L2.Fun K "allows" "Shut.allows" lD f fd)(T:Txt K mg t):OD P w K mg base (Ga t L) Bk f fd:=by
 refine okJ 0 sV F Ai λ_ _ _ _ _ _ hr=>?_
 exact(au (aQ ik))
abbrev lE:Stmt:=inClass (top 10) 3
theorem Aj:aF ["self"] ["self"] (aq lE):=scm
def sW:DSt->Out Fl:=(bC (kc (.bl false)))
def Bh:List D->Out D:=λds=>(cg 1 sW ds).aY
abbrev Bl:Inf D:=⟨"allows",1,["self"],Bh⟩
theorem z9(F:L2.Fun K "allows" "Torn.allows" lE f fd)(T:Txt K mg t):OD P w K mg base (Ga t L) Bl f fd:=by
 refine okJ 0 sW F Aj λ_ _ _ _ _ _ hr=>?_
 exact(au (aQ ik))
abbrev tZ:Stmt:=inClass (top 7) 3
theorem Kh:aF ["self","to"] ["self","to"] (aq tZ):=scm
def zL:DSt->Out Fl:=(bC (oMk lJ 1 pF (aB (gv 1) aR)))
def K1:List D->Out D:=λds=>(cg 2 zL ds).aY
abbrev K8:Inf D:=⟨"led",3,["self","to"],K1⟩
theorem J1(F:L2.Fun K "led" "Must.led" tZ f fd)(T:Txt K mg t)(vP:Ini P w K mg base t.Must 1 ["self","to"] (spI K (Ga t L) lJ 1 pF)):OD P w K mg base (Ga t L) K8 f fd:=by
 refine okJ 2 zL F Kh λ_ _ _ _ _ _ hr=>?_
 exact(au (aQ (JX vP hr T.g_Must (ak (nv 1) aH))))
abbrev wA:Stmt:=inClass (top 8) 3
theorem MT:aF ["self","to"] ["self","to"] (aq wA):=scm
def Dl:DSt->Out Fl:=(bC (oMk vX 1 CN (aB (gv 1) aR)))
def Oe:List D->Out D:=λds=>(cg 2 Dl ds).aY
abbrev Oj:Inf D:=⟨"led",3,["self","to"],Oe⟩
theorem Mp(F:L2.Fun K "led" "May.led" wA f fd)(T:Txt K mg t)(CP:Ini P w K mg base t.May 1 ["self","to"] (spI K (Ga t L) vX 1 CN)):OD P w K mg base (Ga t L) Oj f fd:=by
 refine okJ 2 Dl F MT λ_ _ _ _ _ _ hr=>?_
 exact(au (aQ (JX CP hr T.g_May (ak (nv 1) aH))))
abbrev t6:Stmt:=inClass (top 9) 4
theorem Kl:aF ["self","to"] ["self","to"] (aq t6):=scm
def zM:DSt->Out Fl:=(bC (oMk j6 0 pG aR))
def K3:List D->Out D:=λds=>(cg 2 zM ds).aY
abbrev La:Inf D:=⟨"led",4,["self","to"],K3⟩
theorem J2(F:L2.Fun K "led" "Shut.led" t6 f fd)(T:Txt K mg t)(vQ:Ini P w K mg base t.Shut 2 ["self"] (spI K (Ga t L) j6 0 pG)):OD P w K mg base (Ga t L) La f fd:=by
 refine okJ 3 zM F Kl λ_ _ _ _ _ _ hr=>?_
 exact(au (aQ (Gx vQ hr T.g_Shut)))
abbrev t7:Stmt:=inClass (top 10) 4
theorem Km:aF ["self","to"] ["self","to"] (aq t7):=scm
def zN:DSt->Out Fl:=(bC (oMk j7 0 tG aR))
def K4:List D->Out D:=λds=>(cg 2 zN ds).aY
abbrev Lb:Inf D:=⟨"led",4,["self","to"],K4⟩
theorem J3(F:L2.Fun K "led" "Torn.led" t7 f fd)(T:Txt K mg t)(vR:Ini P w K mg base t.Torn 2 ["self"] (spI K (Ga t L) j7 0 tG)):OD P w K mg base (Ga t L) Lb f fd:=by
 refine okJ 3 zN F Km λ_ _ _ _ _ _ hr=>?_
 exact(au (aQ (Gx vR hr T.g_Torn)))
abbrev qL:Stmt:=inClass (top 6) 1
theorem Ho:aF ["self"] ["self"] (aq qL):=scm
def p8:DSt->Out Fl:=(bC (lQ (aB (oM "word" 1 vq (gv 0) aR) (aB (oFld "to" [lJ,vX,j6,j7] (gv 0)) aR))))
def dw:List D->Out D:=λds=>(cg 1 p8 ds).aY
abbrev Io:Inf D:=⟨"told",2,["self"],dw⟩
theorem GC(F:L2.Fun K "told" "Door.told" qL f fd)(T:Txt K mg t)(Lf:iB P w K mg base (Ga t L) "word" (spD K (Ga t L) 1) 1 vq):OD P w K mg base (Ga t L) Io f fd:=by
 refine okJ 1 p8 F Ho λ_ _ _ _ _ _ hr=>?_
 exact(au (aQ (pY (ak (zZ Lf hr (nv 0)) (ak (Fx (cs:=[lJ,vX,j6,j7]) ⟨⟨t.Must,rfl,T.i_Must.cls,T.ni⟩,⟨t.May,rfl,T.i_May.cls,T.rR⟩,⟨t.Shut,rfl,T.i_Shut.cls,T.nj⟩,⟨t.Torn,rfl,T.i_Torn.cls,T.nq⟩,trivial⟩ (nv 0)) aH)))))
def rD:List (Nat×(List D->Out D)):=[(lJ,dw),(vX,dw),(j6,dw),(j7,dw)]
abbrev wC:Stmt:=top 11
theorem M4:aF ["needs","allows","to"] ["needs","allows","to"] (aq wC):=scm
def v9:DSt->Out Fl:=(aW (sIf (andT (tst (gb 0)) (tst (gb 1))) (bC (oMk lJ 1 pF (aB (gv 2) aR))) cV)
 (aW (sIf (tst (gb 1)) (bC (oMk vX 1 CN (aB (gv 2) aR))) cV)
 (aW (sIf (tst (gb 0)) (bC (oMk j7 0 tG aR)) cV)
 (bC (oMk j6 0 pG aR)))))
def rH:List D->Out D:=λds=>(cg 3 v9 ds).aY
abbrev vM:Inf D:=⟨"door_of",4,["needs","allows","to"],rH⟩
theorem Mr(F:L2.Fun K "door_of" "door_of" wC f fd)(T:Txt K mg t)(vP:Ini P w K mg base t.Must 1 ["self","to"] (spI K (Ga t L) lJ 1 pF))(CP:Ini P w K mg base t.May 1 ["self","to"] (spI K (Ga t L) vX 1 CN))(vR:Ini P w K mg base t.Torn 2 ["self"] (spI K (Ga t L) j7 0 tG))(vQ:Ini P w K mg base t.Shut 2 ["self"] (spI K (Ga t L) j6 0 pG)):OD P w K mg base (Ga t L) vM f fd:=by
 refine okJ 3 v9 F M4 λ_ _ _ _ _ _ hr=>?_
 exact(aA (bW (v5 (dw_and (di (aK 0 (pv 0))) (dw_and1 (di (aK 1 (pv 1)))))) (au (aQ (JX vP hr T.g_Must (ak (nv 2) aH)))) aZ)
   (aA (bW (di (aK 1 (pv 1))) (au (aQ (JX CP hr T.g_May (ak (nv 2) aH)))) aZ)
   (aA (bW (di (aK 0 (pv 0))) (au (aQ (Gx vR hr T.g_Torn))) aZ)
   (au (aQ (Gx vQ hr T.g_Shut))))))
abbrev wD:Stmt:=top 17
theorem M5:aF ["thing"] ["thing"] (aq wD):=scm
def qF:DSt->Out D:=(bV (o2b inD (gb 0) (kc (.str "abcdefghijklmnopqrstuvwxyz"))))
def wg:DSt->Out Fl:=(aW (sIf (orT (jJ (tst (rZ eY (gb 0)))) (jJ (o3 leD leD (kc (.int 1)) (o1 fC (gb 0)) (kc (.int 8))))) (bC (kc (.bl false))) cV)
 (bC (o1 allD (xX (gq [none] (strO (gv 0)) (gN 0) (λ_=>.ok true) qF)))))
def jd:List D->Out D:=λds=>(cg 1 wg ds).aY
abbrev vN:Inf D:=⟨"is_name",1,["thing"],jd⟩
theorem Ms(F:L2.Fun K "is_name" "is_name" wD f fd)(T:Txt K mg t):OD P w K mg base (Ga t L) vN f fd:=by
 obtain⟨Ie,m6,nF⟩:=T.iZ
 obtain⟨Qf,rO,rT⟩:=T.rK
 refine okJ 0 wg F M5 λ_ _ _ _ _ _ hr=>?_
 exact(aA (bW (v5 (kh (dh (di (aL (jw (cv:=.ty "str") (.inr rfl) (T.eY _) rfl T.bG (aK 0 (pv 0)) (gQ rfl T.b_str (by decide +kernel) rfl))))) (iD (dh (yz (aL az) (aL (c7 rfl T.fX (aK 0 (pv 0)))) (aL (uv (gw (v:=.int 8) rfl m6 nF) (λ_=>.int _)))))))) (au (aQ ik)) aZ)
   (au (aQ (Lx rfl rfl T.b_all (aL (zf (j9 (λa b c d=>gA (N':=["sign"]) (cap:=[none]) ⟨rfl,rfl,by decide +kernel,by decide +kernel,by rfl,trivial,⟨trivial,trivial⟩⟩ rfl a b c d) (di_str (nv 0)) (sh_n 0) (λ_ _ _ _ _=>ngc) (λ_ _ _ _ _=>gP) (λ_ _ _ _ _=>(Jl (aK 0 (pv 0)) (aL (uv (gw (v:=.str "abcdefghijklmnopqrstuvwxyz") rfl rO rT) (λ_=>.str _))))))))))))
abbrev gG:Stmt:=top 18
theorem u9:aF ["thing"] ["thing"] (aq gG):=scm
def cj:DSt->Out D:=(oF 1 jd (aB (gv 0) aR))
def dX:DSt->Out Fl:=(aW (sIf (orT (jJ (tst (rZ cX (gb 0)))) (jJ (o3 leD leD (kc (.int 1)) (o1 fC (gb 0)) (kc (.int 8))))) (bC (kc (.bl false))) cV)
 (bC (vW (o1 allD (xX (gq [none] (jR (gv 0)) (gN 0) (λ_=>.ok true) cj))) (bV (o2b eqD (o1 tQ (gv 0)) (o1 fC (gb 0)))))))
def bZ:List D->Out D:=λds=>(cg 1 dX ds).aY
abbrev dR:Inf D:=⟨"is_action_list",2,["thing"],bZ⟩
theorem uV(F:L2.Fun K "is_action_list" "is_action_list" gG f fd)(T:Txt K mg t)(vI:DD P w K mg base (Ga t L) vN):OD P w K mg base (Ga t L) dR f fd:=by
 obtain⟨u_MOST_ACTIONS,zP,Af⟩:=T.ju
 refine okJ 1 dX F u9 λ_ _ _ _ _ _ hr=>?_
 exact(aA (bW (v5 (kh (dh (di (aL (jw (cv:=.ty "list") (.inr rfl) (T.cX _) rfl T.bG (aK 0 (pv 0)) (gQ rfl T.yX (by decide +kernel) rfl))))) (iD (dh (yz (aL az) (aL (c7 rfl T.fX (aK 0 (pv 0)))) (aL (uv (gw (v:=.int 8) rfl zP Af) (λ_=>.int _)))))))) (au (aQ ik)) aZ)
   (au (aQ (pW (Lx rfl rfl T.b_all (aL (zf (j9 (λa b c d=>gA (N':=["name"]) (cap:=[none]) ⟨rfl,rfl,by decide +kernel,by decide +kernel,by rfl,trivial,⟨trivial,trivial⟩⟩ rfl a b c d) (tL (nv 0)) (sh_n 0) (λ_ _ _ _ _=>ngc) (λ_ _ _ _ _=>gP) (λ_ _ _ _ _=>(bw vI hr (ak (nv 0) aH))))))) (pX (zc hr.units (aL (Ov rfl rfl T.fX rfl T.b_set (nv 0))) (aL (c7 rfl T.fX (aK 0 (pv 0))))))))))
abbrev jO:Stmt:=top 19
theorem ym:aF ["actions"] ["actions"] (aq jO):=scm
def jA:DSt->Out Fl:=(sIf (jJ (tst (oF 1 bZ (aB (gv 0) aR)))) (λ_=>.stuck) cV)
def fP:List D->Out D:=λds=>(cg 1 jA ds).aY
abbrev jo:Inf D:=⟨"need_actions",3,["actions"],fP⟩
theorem ye(F:L2.Fun K "need_actions" "need_actions" jO f fd)(T:Txt K mg t)(bY:DD P w K mg base (Ga t L) dR):OD P w K mg base (Ga t L) jo f fd:=by
 refine okJ 2 jA F ym λ_ _ _ _ _ _ hr=>?_
 exact(au (bW (dh (di (aL (bw bY hr (ak (nv 0) aH))))) (au jx) aZ))
abbrev wF:Stmt:=top 20
theorem M6:aF ["thing","many"] ["thing","many"] (aq wF):=scm
def wj:DSt->Out Fl:=(bC (vW (rZ km (gb 0)) (vW (notV (rZ iu (gb 0))) (bV (o3 leD ltD (kc (.int 0)) (gb 0) (gb 1))))))
def rJ:List D->Out D:=λds=>(cg 2 wj ds).aY
abbrev vO:Inf D:=⟨"is_room",1,["thing","many"],rJ⟩
theorem Mt(F:L2.Fun K "is_room" "is_room" wF f fd)(T:Txt K mg t):OD P w K mg base (Ga t L) vO f fd:=by
 refine okJ 0 wj F M6 λ_ _ _ _ _ _ hr=>?_
 exact(au (aQ (pW (jw (cv:=.ty "int") (.inr rfl) (T.km _) rfl T.bG (aK 0 (pv 0)) (gQ rfl T.Je (by decide +kernel) rfl)) (pW (de_not (jw (cv:=.ty "bool") (.inr rfl) (T.iu _) rfl T.bG (aK 0 (pv 0)) (gQ rfl T.b_bool (by decide +kernel) rfl))) (pX (de_lelt (aL az) (aK 0 (pv 0)) (aK 1 (pv 1))))))))
abbrev jN:Stmt:=top 21
theorem oO:aF ["thing","many","torn_too","word"] ["thing","many","torn_too"] (aq jN):=scm
def fZ:DSt->Out Fl:=(aW (sIf (orT (jJ (tst (rZ dY (gb 0)))) (o2b neD (o1 fC (gb 0)) (kc (.int 2)))) (bC (kc (.bl false))) cV)
 (aW (cP 3 (o2 ixD (gvo 0) (kc (.int 0))))
 (aW (sIf (jJ (tst (rZ eY (gb 3)))) (bC (kc (.bl false))) cV)
 (aW (sIf (orT (o2b eqD (gb 3) (kc (.str "must"))) (o2b eqD (gb 3) (kc (.str "may")))) (bC (oF 2 rJ (aB (o2 ixD (gvo 0) (kc (.int 1))) (aB (gv 1) aR)))) cV)
 (bC (vW (bV (o2b zT (o2 ixD (gvo 0) (kc (.int 1))) (kc .non))) (orV (bV (o2b eqD (gb 3) (kc (.str "shut")))) (vW (bV (o2b eqD (gb 3) (kc (.str "torn")))) (gv 2)))))))))
def bM:List D->Out D:=λds=>(cg 4 fZ ds).aY
abbrev jm:Inf D:=⟨"is_told_door",2,["thing","many","torn_too"],bM⟩
theorem yd(F:L2.Fun K "is_told_door" "is_told_door" jN f fd)(T:Txt K mg t)(vJ:DD P w K mg base (Ga t L) vO):OD P w K mg base (Ga t L) jm f fd:=by
 refine okJ 1 fZ F oO λ_ _ _ _ _ _ hr=>?_
 exact(aA (bW (v5 (kh (dh (di (aL (jw (cv:=.ty "tuple") (.inr rfl) (T.dY _) rfl T.bG (aK 0 (pv 0)) (gQ rfl T.yt (by decide +kernel) rfl))))) (iD (uy hr.units (aL (c7 rfl T.fX (aK 0 (pv 0)))) (aL az))))) (au (aQ ik)) aZ)
   (aA (dJ 3 oO.nd (bQ 0 (pv 0) az))
   (aA (bW (dh (di (aL (jw (cv:=.ty "str") (.inr rfl) (T.eY _) rfl T.bG (aK 3 (pv 3)) (gQ rfl T.b_str (by decide +kernel) rfl))))) (au (aQ ik)) aZ)
   (aA (bW (v5 (kh (pZ hr.units (aK 3 (pv 3)) (aL aV)) (iD (pZ hr.units (aK 3 (pv 3)) (aL aV))))) (au (aQ (bw vJ hr (ak (bQ 0 (pv 0) az) (ak (nv 1) aH))))) aZ)
   (au (aQ (pW (de_is (aL (bQ 0 (pv 0) az)) (aL mL)) (pX (de_or (zc hr.units (aK 3 (pv 3)) (aL aV)) (pX (pW (zc hr.units (aK 3 (pv 3)) (aL aV)) (pX (nv 2)))))))))))))
abbrev nZ:Stmt:=top 22
theorem eU:aF ["rows","many_actions","torn_too","room","row","action","thing"] ["rows","many_actions","torn_too"] (aq nZ):=scm
def jE:DSt->Out Fl:=(sIf (jJ (tst (oF 3 bM (aB (gv 6) (aB (o1 fC (gb 0)) (aB (gv 2) aR)))))) (λ_=>.stuck) cV)
def jD:DSt->Out Fl:=(aW (sIf (orT (jJ (tst (rZ cX (gb 4)))) (o2b neD (o1 fC (gb 4)) (gb 1))) (λ_=>.stuck) cV)
 (nG (enum (gv 4)) (gT 2 (cO (gN 5) (cO (gN 6) oJ))) jE))
def mZ:DSt->Out Fl:=(aW (sIf (orT (jJ (tst (rZ cX (gb 0)))) (jJ (o3 leD leD (kc (.int 1)) (o1 fC (gb 0)) (kc (.int 2000))))) (λ_=>.stuck) cV)
 (nG (enum (gv 0)) (gT 2 (cO (gN 3) (cO (gN 4) oJ))) jD))
def dO:List D->Out D:=λds=>(cg 7 mZ ds).aY
abbrev my:Inf D:=⟨"need_rooms",3,["rows","many_actions","torn_too"],dO⟩
theorem Ce(F:L2.Fun K "need_rooms" "need_rooms" nZ f fd)(T:Txt K mg t)(ji:DD P w K mg base (Ga t L) jm):OD P w K mg base (Ga t L) my f fd:=by
 obtain⟨u_MOST_ROOMS,Gd,Hk⟩:=T.mJ
 refine okJ 2 mZ F eU λ_ _ _ _ _ _ hr=>?_
 exact(aA (bW (v5 (kh (dh (di (aL (jw (cv:=.ty "list") (.inr rfl) (T.cX _) rfl T.bG (aK 0 (pv 0)) (gQ rfl T.yX (by decide +kernel) rfl))))) (iD (dh (yz (aL az) (aL (c7 rfl T.fX (aK 0 (pv 0)))) (aL (uv (gw (v:=.int 2000) rfl Gd Hk) (λ_=>.int _)))))))) (au jx) aZ)
   (au (ww (yx rfl T.j5 (nv 0)) (zj (n:=2) (λh=>Ac rfl h) (eN (ngn eU.nd) (eN (ngn eU.nd) ux (λa b=>eQ a b)) (λa b=>eQ a b))) (aA (bW (v5 (kh (dh (di (aL (jw (cv:=.ty "list") (.inr rfl) (T.cX _) rfl T.bG (aK 4 (pv 4)) (gQ rfl T.yX (by decide +kernel) rfl))))) (iD (uy hr.units (aL (c7 rfl T.fX (aK 4 (pv 4)))) (aK 1 (pv 1)))))) (au jx) aZ)
   (au (ww (yx rfl T.j5 (nv 4)) (zj (n:=2) (λh=>Ac rfl h) (eN (ngn eU.nd) (eN (ngn eU.nd) ux (λa b=>eQ a b)) (λa b=>eQ a b))) (au (bW (dh (di (aL (bw ji hr (ak (nv 6) (ak (c7 rfl T.fX (aK 0 (pv 0))) (ak (nv 2) aH))))))) (au jx) aZ))))))))
abbrev qY:Stmt:=top 23
theorem vd:aF ["told","word"] ["told"] (aq qY):=scm
def kj:DSt->Out Fl:=(aW (cP 1 (o2 ixD (gvo 0) (kc (.int 0))))
 (bC (oF 3 rH (aB (bV (o2b inD (gb 1) (lQ (aB (kc (.str "must")) (aB (kc (.str "torn")) aR))))) (aB (bV (o2b inD (gb 1) (lQ (aB (kc (.str "must")) (aB (kc (.str "may")) aR))))) (aB (o2 ixD (gvo 0) (kc (.int 1))) aR))))))
def cA:List D->Out D:=λds=>(cg 2 kj ds).aY
abbrev pK:Inf D:=⟨"made_door",5,["told"],cA⟩
theorem G8(F:L2.Fun K "made_door" "made_door" qY f fd)(T:Txt K mg t)(vH:DD P w K mg base (Ga t L) vM):OD P w K mg base (Ga t L) pK f fd:=by
 refine okJ 4 kj F vd λ_ _ _ _ _ _ hr=>?_
 exact(aA (dJ 1 vd.nd (bQ 0 (pv 0) az))
   (au (aQ (bw vH hr (ak (Jl (aK 1 (pv 1)) (aL (pY (ak aV (ak aV aH))))) (ak (Jl (aK 1 (pv 1)) (aL (pY (ak aV (ak aV aH))))) (ak (bQ 0 (pv 0) az) aH)))))))
abbrev qZ:Stmt:=top 24
theorem Hy:aF ["row"] ["row"] (aq qZ):=scm
def lz:DSt->Out D:=(oF 1 cA (aB (gv 0) aR))
def ql:DSt->Out Fl:=(bC (oC (one1 ud) (aB (xX (gq [none] (jR (gv 0)) (gN 0) (λ_=>.ok true) lz)) aR)))
def gZ:List D->Out D:=λds=>(cg 1 ql ds).aY
abbrev pL:Inf D:=⟨"made_room",6,["row"],gZ⟩
theorem G9(F:L2.Fun K "made_room" "made_room" qZ f fd)(T:Txt K mg t)(oY:DD P w K mg base (Ga t L) pK):OD P w K mg base (Ga t L) pL f fd:=by
 refine okJ 5 ql F Hy λ_ _ _ _ _ _ hr=>?_
 exact(au (aQ (zg rfl T.yt (zf (j9 (λa b c d=>gA (N':=["told"]) (cap:=[none]) ⟨rfl,rfl,by decide +kernel,by decide +kernel,by rfl,trivial,⟨trivial,trivial⟩⟩ rfl a b c d) (tL (nv 0)) (sh_n 0) (λ_ _ _ _ _=>ngc) (λ_ _ _ _ _=>gP) (λ_ _ _ _ _=>(bw oY hr (ak (nv 0) aH))))))))
abbrev rB:Stmt:=top 25
theorem Hz:aF ["doors"] ["doors"] (aq rB):=scm
def lA:DSt->Out D:=(oM "told" 1 rD (gv 0) aR)
def qt:DSt->Out Fl:=(Dz (gq [none] (jR (gv 0)) (gN 0) (λ_=>.ok true) lA))
def g8:List D->Out (List D):=λds=>(runL 1 qt ds).aY
abbrev pO:Inf (List D):=⟨"told_room",3,["doors"],g8⟩
theorem Hd(F:L2.Fun K "told_room" "told_room" rB f fd)(T:Txt K mg t)(yR:iB P w K mg base (Ga t L) "told" (spD K (Ga t L) 1) 2 rD):ODf P w K mg base (Ga t L) pO f fd:=by
 refine okJf 2 qt F Hz λ_ _ _ _ _ _ hr=>?_
 exact(au (Nr (j9 (λa b c d=>gA (N':=["door"]) (cap:=[none]) ⟨rfl,rfl,by decide +kernel,by decide +kernel,by rfl,trivial,⟨trivial,trivial⟩⟩ rfl a b c d) (tL (nv 0)) (sh_n 0) (λ_ _ _ _ _=>ngc) (λ_ _ _ _ _=>gP) (λ_ _ _ _ _=>(zZ yR hr (nv 0))))))
abbrev nH:Stmt:=inClass (top 26) 0
theorem Ci:aF ["self","actions","rows"] ["self","actions","rows"] (aq nH):=⟨rfl,rfl,rfl,by decide +kernel,rfl,by decide +kernel,by decide +kernel⟩
def jG:DSt->Out D:=(oF 1 gZ (aB (gv 0) aR))
def yC:DSt->Out D:=(oF 1 fP (aB (gv 1) aR))
def yD:DSt->Out D:=(o1 fC (gb 1))
def yE:DSt->Out D:=(oC (one1 ud) (aB (gv 1) aR))
def yF:DSt->Out D:=(oC (one1 ud) (aB (xX (gq [none] (jR (gv 2)) (gN 0) (λ_=>.ok true) jG)) aR))
def Dm(torn:Bool)(ds:List D):Out (List (Str×D)):=match ds with
 | [acts,rows] =>
  let δ:DSt:=[none,some (.sh acts),some (.sh rows)]
  (yC δ).aY.bind λ_=>(yD δ).aY.bind λn=>(dO [rows,n,.bl torn]).aY.bind λ_=>(yE δ).aY.bind λta=>(yF δ).aY.bind λtr=>.ok [("actions",ta),("rooms",tr)]
 | _=>.stuck
def I_Draft:List D->Out (List (Str×D)):=Dm true
def Ei:List D->Out (List (Str×D)):=Dm false
def spT(b:Bool):Sp:=λvs H Q _=>∃v,vs=[v]/\Q (.bl b) H
abbrev nJ:Stmt:=inClass (top 26) 1
theorem Cj:aF ["self"] ["self"] (aq nJ):=⟨rfl,rfl,rfl,by decide +kernel,rfl,by decide +kernel,by decide +kernel⟩
theorem BK{f:Addr}{fd:FuncData}(F:L2.Fun K "lets_torn" "Draft.lets_torn" nJ f fd):bO P w K mg base CX0 1 f fd ["self"] (spT true):=by
 refine F.ok Cj (λvs H Q E h=>?_) (λcdv A outer s H vs Q E hr h=>?_)
 .obtain⟨v,rfl,_⟩:=h
  rfl
 .obtain⟨v,rfl,q⟩:=h
  exact⟨_,kJ (tX pe_bl),q⟩
abbrev qO:Stmt:=inClass (top 27) 0
theorem Ht:aF ["self"] ["self"] (aq qO):=⟨rfl,rfl,rfl,by decide +kernel,rfl,by decide +kernel,by decide +kernel⟩
theorem GJ{f:Addr}{fd:FuncData}(F:L2.Fun K "lets_torn" "Plan.lets_torn" qO f fd):bO P w K mg base CX0 1 f fd ["self"] (spT false):=by
 refine F.ok Ht (λvs H Q E h=>?_) (λcdv A outer s H vs Q E hr h=>?_)
 .obtain⟨v,rfl,_⟩:=h
  rfl
 .obtain⟨v,rfl,q⟩:=h
  exact⟨_,kJ (tX pe_bl),q⟩
theorem O9{K:Frag}{Γ:Nat->Option Addr}{G H:Hp}{a C dx:Addr}{v1 v2:V}{acts rows:D}{torn:Bool}{Q:VK}{E:XK}(hH:H a=some (.ins C dx []))(ga:G a=none)(sg:aO G H)(r1:Rep K Γ G v1 acts)(r2:Rep K Γ G v2 rows)(cl:Cls K C)(na1:bD K C "actions")(na2:bD K C "rooms")
  (w:wpO (Dm torn [acts,rows]) (λfds=>∀fs G' H',aO G G'->(∀b o,H b=some o->b≠a->H' b=some o)->aO G' H'->(∀b,H b≠none->G b=none->G' b=none)->H' a=some (.ins C dx fs)->iC K Γ G' fs fds->Q .non H')
   (λx=>∀a' G' H',aO G G'->(∀b o,H b=some o->b≠a->H' b=some o)->aO G' H'->(∀b,H b≠none->G b=none->G' b=none)->Rep K Γ G' (.ref a') x->E (.ref a') none H')) :
  tSeq (vo (teD K Γ E0 yC)) (tSeq (vo (DQ (spD K Γ 3 dO) [] E0 (iT (teD K Γ E0 (gv 2)) (iT (teD K Γ E0 yD) (iT (tMeth C "lets_torn" (spT torn) [] E0 (ou 0) lH) lH))))) (tSeq (sFld K (ou 0) (teD K Γ E0 yE) "actions") (sFld K (ou 0) (teD K Γ E0 yF) "rooms"))) { nx:=λ_ H'=>Q .non H',rt:=Q } [some (.ref a),some v1,some v2] H:=by
 have S0:SR K Γ G H G H [some (.ref a),some v1,some v2] [none,some (.sh acts),some (.sh rows)]:=by
  refine⟨.refl sg,rfl,λ_=>none,λi x e=>?_⟩
  match i,e with
  | 1,e=>cases e;exact⟨v1,rfl,r1⟩
  | 2,e=>cases e;exact⟨v2,rfl,r2⟩
  | i+3,e=>simp at e
 have g2:gv 2 [none,some (.sh acts),some (.sh rows)]=.ok rows:=rfl
 have w1:=cY (R':=exD K Γ E0 G H) (aj w)
 refine⟨G,H,G,_,S0,w1.mono (λd1 w1 u1 G1 H1 s1 _=>?_) λ_ k=>k⟩
 have S1:=S0.step s1
 refine⟨G,H,G1,_,S1,?_⟩
 rw[g2]
 intro u2 G2 H2 s2 q2
 have S2:=S1.step s2
 have w2:=cY (R':=exD K Γ E0 G2 H2) (aj w1)
 refine⟨G,H,G2,_,S2,w2.mono (λn w2 u3 G3 H3 s3 q3=>?_) λ_ k=>k⟩
 have s03:=((s1.trans s2).trans s3)
 refine⟨_,rfl,a,dx,[],rfl,s03.hh _ _ hH,rfl,_,rfl,rfl,G3,[rows,n,.bl torn],s03.gh,.cons (q2.mono s3.gg) (.cons q3 (.cons (.bl _) .nil)),?_⟩
 have w3:=cY (R':=exD K Γ E0 G3 H3) (aj w2)
 refine w3.mono (λd3 w3 u4 G4 H4 s4 _=>?_) λ_ k=>k
 have s04:=s03.trans s4
 have S4:=S0.step s04
 have w4:=cY (R':=exD K Γ E0 G4 H4) (aj w3)
 refine⟨G,H,G4,_,S4,w4.mono (λta w4 u5 G5 H5 s5 q5=>?_) λ_ k=>k⟩
 have s05:=s04.trans s5
 have g5:G5 a=none:=s05.sep a (by rw[hH];exact λz=>nomatch z) ga
 refine⟨_,rfl,a,C,dx,[],rfl,s05.hh _ _ hH,cl,na1,(by decide),?_⟩
 have st5:Step G5 (upd H5 a (.ins C dx (iK "actions" u5 []))) G5 (upd H5 a (.ins C dx (iK "actions" u5 []))):=.refl λb o e=>by rw[aN (aJ e g5)];exact s05.gh _ _ e
 have S5:SR K Γ G5 (upd H5 a (.ins C dx (iK "actions" u5 []))) G5 (upd H5 a (.ins C dx (iK "actions" u5 []))) [some (.ref a),some v1,some v2] [none,some (.sh acts),some (.sh rows)]:=by
  refine⟨st5,rfl,λ_=>none,λi x e=>?_⟩
  match i,e with
  | 1,e=>cases e;exact⟨v1,rfl,r1.mono s05.gg⟩
  | 2,e=>cases e;exact⟨v2,rfl,r2.mono s05.gg⟩
  | i+3,e=>simp at e
 have w5:=cY (R':=exD K Γ E0 G5 (upd H5 a (.ins C dx (iK "actions" u5 [])))) (aj w4)
 refine⟨_,_,G5,_,S5,w5.mono (λtr w5 u6 G6 H6 s6 q6=>?_) λ_ k=>k⟩
 have h6:=s6.hh _ _ (aP (H:=H5) (a:=a) (o:=.ins C dx (iK "actions" u5 [])))
 refine⟨_,rfl,a,C,dx,_,rfl,h6,cl,na2,(by show 1<1000;decide),?_⟩
 have g6:G6 a=none:=s6.sep a (by rw[aP];exact λz=>nomatch z) g5
 have ne:¬(("actions":Str)="rooms"):=by decide +kernel
 have ef:iK "rooms" u6 (iK "actions" u5 [])=[(("actions":Str),u5),(("rooms":Str),u6)]:=by
  show (if ("actions":Str)="rooms" then _ else (("actions":Str),u5)::iK "rooms" u6 [])=_
  rw[if_neg ne]
  rfl
 refine w5 [("actions",u5),("rooms",u6)] G6 _ (s05.gg.trans s6.gg) (λb o e hb=>?_) (λb o e=>?_) (λb hb g0=>?_) (by rw[aP,ef]) (.cons (q5.mono s6.gg) (.cons q6 .nil))
 .rw[aN hb]
  exact s6.hh _ _ (by rw[aN hb];exact s05.hh _ _ e)
 .rw[aN (aJ e g6)]
  exact s6.gh _ _ e
 .refine s6.sep b (λz=>?_) (s05.sep b hb g0)
  by_cases e:b=a
  .subst e;rw[aP] at z;cases z
  .rw[aN e] at z
   cases q:H b with
   | none=>exact hb q
   | some o=>rw[s05.hh _ _ q] at z;cases z
theorem tB{f fT C:Addr}{fd fdT:FuncData}{c:Nat}{torn:Bool}(F:L2.Fun K "__init__" "Draft.__init__" nH f fd)(T:Txt K mg t)(fH:DD P w K mg base (Ga t L) jo)(iU:DD P w K mg base (Ga t L) my)(jU:DD P w K mg base (Ga t L) pL)(hC:Ga t L c=some C)(cl:Cls K C)(na1:bD K C "actions")(na2:bD K C "rooms")(hmT:Meth K C "lets_torn" fT)(GT:bO P w K mg base CX0 1 fT fdT ["self"] (spT torn))(bT:Binds K fdT ["self"] []):bO P w K mg base CX0 7 f fd ["self","actions","rows"] (spI K (Ga t L) c 2 (Dm torn)):=by
 obtain⟨uH,fd_need_rooms,Eh,Fj,Gr,Gj⟩:=iU.ex
 refine F.ok Ci (λvs H Q E h=>h.1) (λcdv A outer s H vs Q E hr h=>?_)
 obtain⟨hl,a,dx,C',us,G,ds,rfl,hH,hC',ga,sg,r,w⟩:=h
 rw[hC] at hC'
 cases hC'
 cases r with
 | nil=>cases hl
 | @cons v1 us acts ds r1 r =>
  cases r with
  | nil=>cases hl
  | @cons v2 us rows ds r2 r =>
   cases r with
   | cons _ _=>cases hl
   | nil =>
    refine⟨tSeq (vo (teD K (Ga t L) E0 yC)) (tSeq (vo (DQ (spD K (Ga t L) 3 dO) [] E0 (iT (teD K (Ga t L) E0 (gv 2)) (iT (teD K (Ga t L) E0 yD) (iT (tMeth C "lets_torn" (spT torn) [] E0 (ou 0) lH) lH))))) (tSeq (sFld K (ou 0) (teD K (Ga t L) E0 yE) "actions") (sFld K (ou 0) (teD K (Ga t L) E0 yF) "rooms"))),qJ (kI (bw fH hr (ak (nv 1) aH))) (qJ (kI (Hh Eh (hr.mono (by decide)) rfl Gr Gj Fj .nil uW (aX (nv 2) (aX (c7 rfl T.fX (aK 1 (pv 1))) (aX (pe_meth0 (pv 0) cl hmT GT (hr.mono (by decide)) bT .nil uW) bL))))) (qJ (My (pv 0) (zg rfl T.yt (nv 1)) rfl) (kJ (My (pv 0) (zg rfl T.yt (zf (j9 (λa b c d=>gA (N':=["row"]) (cap:=[none]) ⟨rfl,rfl,by decide +kernel,by decide +kernel,by rfl,trivial,⟨trivial,trivial⟩⟩ rfl a b c d) (tL (nv 2)) (sh_n 0) (λ_ _ _ _ _=>ngc) (λ_ _ _ _ _=>gP) (λ_ _ _ _ _=>(bw jU hr (ak (nv 0) aH)))))) rfl)))),?_⟩
    exact O9 hH ga sg r1 r2 cl na1 na2 w
abbrev eF:Stmt:=inClass (top 26) 2
theorem rC:aF ["self"] ["self"] (aq eF):=scm
def cL:DSt->Out Fl:=(Dz (jR (oFld "actions" [cz,bU] (gv 0))))
def bR:List D->Out (List D):=λds=>(runL 1 cL ds).aY
abbrev rU:Inf (List D):=⟨"action_list",1,["self"],bR⟩
theorem qI(F:L2.Fun K "action_list" "Draft.action_list" eF f fd)(T:Txt K mg t):ODf P w K mg base (Ga t L) rU f fd:=by
 refine okJf 0 cL F rC λ_ _ _ _ _ _ hr=>?_
 exact(au (Nr (df_list rfl T.yX (Fx (cs:=[cz,bU]) ⟨⟨t.Draft,rfl,T.Ge.cls,T.dZ⟩,⟨t.Plan,rfl,T.LK.cls,T.eZ⟩,trivial⟩ (nv 0)))))
def bx:List (Nat×(List D->Out (List D))):=[(cz,bR),(bU,bR)]
abbrev nM:Stmt:=inClass (top 26) 3
theorem Ck:aF ["self"] ["self"] (aq nM):=scm
def mU:DSt->Out Fl:=(bC (o1 fC (oFld "rooms" [cz,bU] (gv 0))))
def iV:List D->Out D:=λds=>(cg 1 mU ds).aY
abbrev Ej:Inf D:=⟨"many",1,["self"],iV⟩
theorem BL(F:L2.Fun K "many" "Draft.many" nM f fd)(T:Txt K mg t):OD P w K mg base (Ga t L) Ej f fd:=by
 refine okJ 0 mU F Ck λ_ _ _ _ _ _ hr=>?_
 exact(au (aQ (c7 rfl T.fX (aL (Fx (cs:=[cz,bU]) ⟨⟨t.Draft,rfl,T.Ge.cls,T.dI⟩,⟨t.Plan,rfl,T.LK.cls,T.eO⟩,trivial⟩ (nv 0))))))
def lW:List (Nat×(List D->Out D)):=[(cz,iV),(bU,iV)]
abbrev nO:Stmt:=inClass (top 26) 5
theorem Cm:aF ["self"] ["self"] (aq nO):=scm
def jH:DSt->Out (List D):=(oFl 1 g8 (aB (gv 0) aR))
def mV:DSt->Out Fl:=(MN (gq [none] (jR (oFld "rooms" [cz,bU] (gv 0))) (gN 0) (λ_=>.ok true) jH))
def fK:List D->Out (List (List D)):=λds=>(runLL 1 mV ds).aY
abbrev Ek:Inf (List (List D)):=⟨"told",4,["self"],fK⟩
theorem BP(F:L2.Fun K "told" "Draft.told" nO f fd)(T:Txt K mg t)(pq:DDf P w K mg base (Ga t L) pO):ODg P w K mg base (Ga t L) Ek f fd:=by
 refine okJg 3 mV F Cm λ_ _ _ _ _ _ hr=>?_
 exact(au (ds_retff (dff_comp (λa b c d=>gA (N':=["doors"]) (cap:=[none]) ⟨rfl,rfl,by decide +kernel,by decide +kernel,by rfl,trivial,⟨trivial,trivial⟩⟩ rfl a b c d) (tL (Fx (cs:=[cz,bU]) ⟨⟨t.Draft,rfl,T.Ge.cls,T.dI⟩,⟨t.Plan,rfl,T.LK.cls,T.eO⟩,trivial⟩ (nv 0))) (sh_n 0) (λ_ _ _ _ _=>ngc) (λ_ _ _ _ _=>gP) (λ_ _ _ _ _=>(ncallF pq hr (ak (nv 0) aH))))))
def cI:List (Nat×(List D->Out (List (List D)))):=[(cz,fK),(bU,fK)]
abbrev jM:Stmt:=top 31
theorem yl:aF ["text"] ["text"] (aq jM):=scm
def lO:DSt->Out D:=(orV (bV (o2b inD (gb 0) (kc (.str "abcdefghijklmnopqrstuvwxyz")))) (bV (o2b inD (gb 0) (kc (.str "0123456789")))))
def jz:DSt->Out Fl:=(aW (sIf (orT (jJ (o3 leD leD (kc (.int 1)) (o1 fC (gb 0)) (kc (.int 8)))) (o2b gF (o2 ixD (gvo 0) (kc (.int 0))) (kc (.str "abcdefghijklmnopqrstuvwxyz")))) (bC (kc (.bl false))) cV)
 (bC (o1 allD (xX (gq [none] (strO (gv 0)) (gN 0) (λ_=>.ok true) lO)))))
def dB:List D->Out D:=λds=>(cg 1 jz ds).aY
abbrev fU:Inf D:=⟨"is_room_name",1,["text"],dB⟩
theorem yc(F:L2.Fun K "is_room_name" "is_room_name" jM f fd)(T:Txt K mg t):OD P w K mg base (Ga t L) fU f fd:=by
 obtain⟨Ie,m6,nF⟩:=T.iZ
 obtain⟨Qf,rO,rT⟩:=T.rK
 obtain⟨u_FIGURES,O5,PB⟩:=T.vY
 refine okJ 0 jz F yl λ_ _ _ _ _ _ hr=>?_
 exact(aA (bW (v5 (kh (dh (yz (aL az) (aL (c7 rfl T.fX (aK 0 (pv 0)))) (aL (uv (gw (v:=.int 8) rfl m6 nF) (λ_=>.int _))))) (iD (zq (aL (bQ 0 (pv 0) az)) (aL (uv (gw (v:=.str "abcdefghijklmnopqrstuvwxyz") rfl rO rT) (λ_=>.str _))))))) (au (aQ ik)) aZ)
   (au (aQ (Lx rfl rfl T.b_all (aL (zf (j9 (λa b c d=>gA (N':=["sign"]) (cap:=[none]) ⟨rfl,rfl,by decide +kernel,by decide +kernel,by rfl,trivial,⟨trivial,trivial⟩⟩ rfl a b c d) (di_str (nv 0)) (sh_n 0) (λ_ _ _ _ _=>ngc) (λ_ _ _ _ _=>gP) (λ_ _ _ _ _=>(de_or (Jl (aK 0 (pv 0)) (aL (uv (gw (v:=.str "abcdefghijklmnopqrstuvwxyz") rfl rO rT) (λ_=>.str _)))) (pX (Jl (aK 0 (pv 0)) (aL (uv (gw (v:=.str "0123456789") rfl O5 PB) (λ_=>.str _))))))))))))))
abbrev jP:Stmt:=top 32
theorem oR:aF ["line","words"] ["line"] (aq jP):=scm
def jB:DSt->Out Fl:=(aW (cP 1 (oTx gH (gv 0) (kc (.str " "))))
 (aW (sIf (orT (o2b neD (o2 ixD (gvo 1) (kc (.int 0))) (kc (.str "actions"))) (jJ (tst (oF 1 bZ (aB (oSl (gv 1) (soI (kc (.int 1))) noI) aR))))) (bC (kc .non)) cV)
 (bC (oSl (gv 1) (soI (kc (.int 1))) noI))))
def fQ:List D->Out D:=λds=>(cg 2 jB ds).aY
abbrev jq:Inf D:=⟨"read_actions",3,["line"],fQ⟩
theorem yf(F:L2.Fun K "read_actions" "read_actions" jP f fd)(T:Txt K mg t)(bY:DD P w K mg base (Ga t L) dR):OD P w K mg base (Ga t L) jq f fd:=by
 refine okJ 2 jB F oR λ_ _ _ _ _ _ hr=>?_
 exact(aA (dJ 1 oR.nd (uw (nv 0) aV (λa b=>oN PySem.F.plainAttrs_str PySem.F.slot_str_split PySem.F.type_str_split uT a (aX b bL))))
   (aA (bW (v5 (kh (uy hr.units (aL (bQ 1 (pv 1) az)) (aL aV)) (iD (dh (di (aL (bw bY hr (ak (eH (nv 1) (gO az) gM) aH)))))))) (au (aQ mL)) aZ)
   (au (aQ (eH (nv 1) (gO az) gM)))))
abbrev lF:Stmt:=top 33
theorem gC:aF ["lines","numbers","number","line"] ["lines"] (aq lF):=scm
def iH:DSt->Out Fl:=(sIf (o2b inD (kc (.str ":")) (gb 3)) (uZ 1 (o2 ixD (oTx xx (gv 3) (kc (.str ":"))) (kc (.int 0))) (gv 2)) cV)
def lq:DSt->Out Fl:=(aW (MP 1)
 (aW (nG (enum (gv 0)) (gT 2 (cO (gN 2) (cO (gN 3) oJ))) iH)
 (frzd 1 (bC (gv 1)))))
def gJ:List D->Out D:=λds=>(cg 4 lq ds).aY
abbrev kZ:Inf D:=⟨"named_rooms",1,["lines"],gJ⟩
theorem Aa(F:L2.Fun K "named_rooms" "named_rooms" lF f fd)(T:Txt K mg t):OD P w K mg base (Ga t L) kZ f fd:=by
 refine okJ 0 lq F gC λ_ _ _ _ _ _ hr=>?_
 exact(aA (ds_setd0 1 (λh=>Mz (i:=1) gC.nd rfl (by walk_at "o") h))
   (aA (ww (yx rfl T.j5 (nv 0)) (zj (n:=2) (λh=>Ac rfl h) (eN (ngn gC.nd) (eN (ngn gC.nd) ux (λa b=>eQ a b)) (λa b=>eQ a b))) (au (bW (dt_in (aL aV) (aK 3 (pv 3))) (au (Oz 1 (pv 1) (de_ix (Nm (nv 3) aV (λa b=>oN PySem.F.plainAttrs_str PySem.F.slot_str_partition PySem.F.type_str_partition NK a (aX b bL))) az) (nv 2) ⟨rfl,rfl,rfl,rfl⟩)) aZ)))
   (au (v4 1 (aQ (nv 1))))))
abbrev gB:Stmt:=top 34
theorem t8:aF ["words","actions","numbers"] ["words","actions","numbers"] (aq gB):=scm
def f9:DSt->Out Fl:=(aW (sIf (orT (o2b neD (o1 fC (gb 0)) (kc (.int 3))) (orT (o2b gF (o2 ixD (gvo 0) (kc (.int 0))) (gb 1)) (o2b gF (o2 ixD (gvo 0) (kc (.int 1))) (lQ (aB (kc (.str "must")) (aB (kc (.str "may")) aR)))))) (bC (kc (.bl false))) cV)
 (bC (vW (oF 1 dB (aB (o2 ixD (gvo 0) (kc (.int 2))) aR)) (bV (dInX 2 (o2 ixD (gvo 0) (kc (.int 2))))))))
def dm:List D->Out D:=λds=>(cg 3 f9 ds).aY
abbrev fV:Inf D:=⟨"is_written_door",2,["words","actions","numbers"],dm⟩
theorem tW(F:L2.Fun K "is_written_door" "is_written_door" gB f fd)(T:Txt K mg t)(cN:DD P w K mg base (Ga t L) fU):OD P w K mg base (Ga t L) fV f fd:=by
 refine okJ 1 f9 F t8 λ_ _ _ _ _ _ hr=>?_
 exact(aA (bW (v5 (kh (uy hr.units (aL (c7 rfl T.fX (aK 0 (pv 0)))) (aL az)) (kh (zq (aL (bQ 0 (pv 0) az)) (aK 1 (pv 1))) (iD (zq (aL (bQ 0 (pv 0) az)) (aL (pY (ak aV (ak aV aH))))))))) (au (aQ ik)) aZ)
   (au (aQ (pW (bw cN hr (ak (bQ 0 (pv 0) az) aH)) (pX (de_dinX 2 hr.units (pv 2) (bQ 0 (pv 0) az)))))))
abbrev n6:Stmt:=top 35
theorem eV:aF ["text","actions","numbers","doors","written","words","action"] ["text","actions","numbers"] (aq n6):=scm
def zW:DSt->Out D:=(kc (.rot [.str "shut",.non]))
def jF:DSt->Out Fl:=(aW (cP 5 (oTx gH (gv 4) (kc (.str " "))))
 (aW (sIf (jJ (tst (oF 3 dm (aB (gv 5) (aB (gv 1) (aB (gv 2) aR)))))) (bC (kc .non)) cV)
 (aW (cP 6 (oIdxS (gv 1) (o2 ixD (gvo 5) (kc (.int 0)))))
 (aW (sIf (o2b neD (o2 ixD (gvo 3) (gv 6)) (kc (.rot [.str "shut",.non]))) (bC (kc .non)) cV)
 (sPut 3 (lQ (aB (o2 ixD (gvo 5) (kc (.int 1))) (aB (dIx 2 (o2 ixD (gvo 5) (kc (.int 2)))) aR))) (gv 6))))))
def m5:DSt->Out Fl:=(aW (iR 3 (gq [none] (jR (gv 1)) (gN 0) (λ_=>.ok true) zW))
 (aW (sIf (o2b eqD (gb 0) (kc (.str ""))) (tD 3) cV)
 (aW (sIf (jJ (tst (oTx swD (gv 0) (kc (.str " "))))) (bC (kc .non)) cV)
 (aW (nG (jR (oTx gH (oSl (gv 0) (soI (kc (.int 1))) noI) (kc (.str ", ")))) (gN 4) jF)
 (tD 3)))))
def iW:List D->Out D:=λds=>(cg 7 m5 ds).aY
abbrev mz:Inf D:=⟨"read_doors",3,["text","actions","numbers"],iW⟩
theorem Cg(F:L2.Fun K "read_doors" "read_doors" n6 f fd)(T:Txt K mg t)(fG:DD P w K mg base (Ga t L) fV):OD P w K mg base (Ga t L) mz f fd:=by
 obtain⟨u_SHUT,h_SHUT,r_SHUT⟩:=T.Lr
 refine okJ 2 m5 F eV λ_ _ _ _ _ _ hr=>?_
 exact(aA (ds_setlc 3 (λa b c d=>MF (i:=3) (N':=["name"]) (cap:=[none]) ⟨rfl,rfl,by decide +kernel,by decide +kernel,by rfl,trivial,⟨trivial,trivial⟩⟩ rfl eV.nd rfl (by walk_at "o") a b c d rfl) (tL (nv 1)) (sh_n 0) (λ_ _ _ _ _=>ngc) (λ_ _ _ _ _=>gP) (λ_ _ _ _ _=>(uv (gw (v:=.ref u_SHUT) rfl h_SHUT rfl) (λ_=>.rot (.inr r_SHUT) (.cons (.str _) (.cons .non .nil))))))
   (aA (bW (pZ hr.units (aK 0 (pv 0)) (aL aV)) (au (rN 3 (pv 3))) aZ)
   (aA (bW (dh (di (aL (de_sw (nv 0) aV (λa b=>oN PySem.F.plainAttrs_str PySem.F.slot_str_startswith PySem.F.type_str_startswith mt_sw a (aX b bL)))))) (au (aQ mL)) aZ)
   (aA (ww (tL (uw (eH (nv 0) (gO az) gM) aV (λa b=>oN PySem.F.plainAttrs_str PySem.F.slot_str_split PySem.F.type_str_split uT a (aX b bL)))) (ngn eV.nd) (aA (dJ 5 eV.nd (uw (nv 4) aV (λa b=>oN PySem.F.plainAttrs_str PySem.F.slot_str_split PySem.F.type_str_split uT a (aX b bL))))
   (aA (bW (dh (di (aL (bw fG hr (ak (nv 5) (ak (nv 1) (ak (nv 2) aH))))))) (au (aQ mL)) aZ)
   (aA (dJ 6 eV.nd (Ou (nv 1) (bQ 5 (pv 5) az) (λa b=>oN PySem.F.plainAttrs_list PySem.F.slot_list_index PySem.F.type_list_index Pr a (aX b bL))))
   (aA (bW (uy hr.units (aL (bQ 3 (pv 3) (nv 6))) (aL (uv (gw (v:=.ref u_SHUT) rfl h_SHUT rfl) (λ_=>.rot (.inr r_SHUT) (.cons (.str _) (.cons .non .nil)))))) (au (aQ mL)) aZ)
   (au (ds_put 3 (pv 3) (pY (ak (bQ 5 (pv 5) az) (ak (de_dix 2 hr.units (pv 2) (bQ 5 (pv 5) az) (λ_ _=>rfl)) aH))) (nv 6) (λa b c=>ps_asg a (pg_sub b c set_list)))))))))
   (au (rN 3 (pv 3)))))))
abbrev rA:Stmt:=top 36
theorem vf:aF ["line","number","actions","numbers","name"] ["line","number","actions","numbers"] (aq rA):=scm
def qp:DSt->Out Fl:=(aW (cP 4 (o2 ixD (oTx xx (gv 0) (kc (.str ":"))) (kc (.int 0))))
 (aW (sIf (orT (jJ (tst (oF 1 dB (aB (gv 4) aR)))) (o2b neD (Jk 3 (gv 4)) (gb 1))) (bC (kc .non)) cV)
 (bC (oF 3 iW (aB (oSl (gv 0) (soI (o2 bI (o1 fC (gb 4)) (kc (.int 1)))) noI) (aB (gv 2) (aB (gv 3) aR)))))))
def jW:List D->Out D:=λds=>(cg 5 qp ds).aY
abbrev pN:Inf D:=⟨"read_room",4,["line","number","actions","numbers"],jW⟩
theorem Hc(F:L2.Fun K "read_room" "read_room" rA f fd)(T:Txt K mg t)(cN:DD P w K mg base (Ga t L) fU)(lZ:DD P w K mg base (Ga t L) mz):OD P w K mg base (Ga t L) pN f fd:=by
 refine okJ 3 qp F vf λ_ _ _ _ _ _ hr=>?_
 exact(aA (dJ 4 vf.nd (de_ix (Nm (nv 0) aV (λa b=>oN PySem.F.plainAttrs_str PySem.F.slot_str_partition PySem.F.type_str_partition NK a (aX b bL))) az))
   (aA (bW (v5 (kh (dh (di (aL (bw cN hr (ak (nv 4) aH))))) (iD (uy hr.units (aL (de_dget1 3 hr.units (pv 3) (nv 4) ⟨rfl,rfl,rfl,rfl⟩)) (aK 1 (pv 1)))))) (au (aQ mL)) aZ)
   (au (aQ (bw lZ hr (ak (eH (nv 0) (gO (bh (c7 rfl T.fX (aK 4 (pv 4))) az)) gM) (ak (nv 2) (ak (nv 3) aH))))))))
abbrev rm:Stmt:=top 37
theorem cG:aF ["text","lines","actions","numbers","rows","number","line","doors"] ["text"] (aq rm):=scm
def lu:DSt->Out Fl:=(aW (cP 7 (oF 4 jW (aB (gv 6) (aB (gv 5) (aB (gv 2) (aB (gv 3) aR))))))
 (aW (sIf (o2b zT (gb 7) (kc .non)) (λ_=>.stuck) cV)
 (uY 4 (gv 7))))
def qm:DSt->Out Fl:=(aW (cP 1 (oTx gH (gv 0) (kc (.str "\n"))))
 (aW (cP 2 (oF 1 fQ (aB (o2 ixD (gvo 1) (kc (.int 0))) aR)))
 (aW (sIf (o2b zT (gb 2) (kc .non)) (λ_=>.stuck) cV)
 (aW (sIf (o2b eqD (o1 fC (gb 1)) (kc (.int 1))) (λ_=>.stuck) cV)
 (aW (cP 3 (oF 1 gJ (aB (oSl (gv 1) (soI (kc (.int 1))) noI) aR)))
 (aW (iR 4 (xR aR))
 (aW (nG (enum (oSl (gv 1) (soI (kc (.int 1))) noI)) (gT 2 (cO (gN 5) (cO (gN 6) oJ))) lu)
 (frzd 4 (bC (oMk bU 2 Ei (aB (gv 2) (aB (gv 4) aR))))))))))))
def jV:List D->Out D:=λds=>(cg 8 qm ds).aY
abbrev pM:Inf D:=⟨"read_plan",9,["text"],jV⟩
theorem Hb(F:L2.Fun K "read_plan" "read_plan" rm f fd)(T:Txt K mg t)(jj:DD P w K mg base (Ga t L) jq)(kY:DD P w K mg base (Ga t L) kZ)(ph:DD P w K mg base (Ga t L) pN)(Lg:Ini P w K mg base t.Plan 7 ["self","actions","rows"] (spI K (Ga t L) bU 2 Ei)):OD P w K mg base (Ga t L) pM f fd:=by
 refine okJ 8 qm F cG λ_ _ _ _ _ _ hr=>?_
 exact(aA (dJ 1 cG.nd (uw (nv 0) aV (λa b=>oN PySem.F.plainAttrs_str PySem.F.slot_str_split PySem.F.type_str_split uT a (aX b bL))))
   (aA (dJ 2 cG.nd (bw jj hr (ak (bQ 1 (pv 1) az) aH)))
   (aA (bW (dt_is (aK 2 (pv 2)) (aL mL)) (au jx) aZ)
   (aA (bW (pZ hr.units (aL (c7 rfl T.fX (aK 1 (pv 1)))) (aL az)) (au jx) aZ)
   (aA (dJ 3 cG.nd (bw kY hr (ak (eH (nv 1) (gO az) gM) aH)))
   (aA (xu 4 cG.nd (tK aH))
   (aA (ww (yx rfl T.j5 (eH (nv 1) (gO az) gM)) (zj (n:=2) (λh=>Ac rfl h) (eN (ngn cG.nd) (eN (ngn cG.nd) ux (λa b=>eQ a b)) (λa b=>eQ a b))) (aA (dJ 7 cG.nd (bw ph hr (ak (nv 6) (ak (nv 5) (ak (nv 2) (ak (nv 3) aH))))))
   (aA (bW (dt_is (aK 7 (pv 7)) (aL mL)) (au jx) aZ)
   (au (napp 4 (nv 7))))))
   (au (v4 4 (aQ (JX Lg hr T.g_Plan (ak (nv 2) (ak (nv 4) aH)))))))))))))
abbrev jL:Stmt:=top 39
theorem yj:aF ["_law_script","_law_k"] ["_law_script","_law_k"] (aq jL):=scm
def fY:DSt->Out Fl:=(aW (sIf (o2b ltD (gb 1) (o1 fC (gb 0))) (bC (o2 ixD (gvo 0) (gv 1))) cV)
 (bC (o2 bI (o2 lB (gv 1) (gv 1)) (kc (.int 7)))))
def bu:List D->Out D:=λds=>(cg 2 fY ds).aY
abbrev dD:Inf D:=⟨"_law_cell_at",1,["_law_script","_law_k"],bu⟩
theorem xZ(F:L2.Fun K "_law_cell_at" "_law_cell_at" jL f fd)(T:Txt K mg t):OD P w K mg base (Ga t L) dD f fd:=by
 refine okJ 0 fY F yj λ_ _ _ _ _ _ hr=>?_
 exact(aA (bW (dt_lt (aK 1 (pv 1)) (aL (c7 rfl T.fX (aK 0 (pv 0))))) (au (aQ (bQ 0 (pv 0) (nv 1)))) aZ)
   (au (aQ (bh (d9 (nv 1) (nv 1)) az))))
abbrev nW:Stmt:=top 40
theorem lG:aF ["_law_cell","_law_k","_law_number"] ["_law_cell","_law_k"] (aq nW):=scm
def mX:DSt->Out Fl:=(aW (cP 2 (o2 fj (o2 bI (o2 bI (o2 lB (o2 fj (gv 0) (kc (.int 2147483647))) (kc (.int 48271))) (o2 lB (gv 1) (kc (.int 7919)))) (kc (.int 104729))) (kc (.int 2147483647))))
 (aW (cP 2 (o2 fj (o2 bI (o2 bI (o2 lB (o2 fj (o2 lB (gv 2) (gv 2)) (kc (.int 2147483629))) (kc (.int 16807))) (o2 lB (gv 1) (kc (.int 104729)))) (kc (.int 11))) (kc (.int 2147483587))))
 (bC (o2 fj (o2 lB (gv 2) (gv 2)) (kc (.int 2147483549))))))
def aU:List D->Out D:=λds=>(cg 3 mX ds).aY
abbrev cB:Inf D:=⟨"_law_mixed",1,["_law_cell","_law_k"],aU⟩
theorem Ca(F:L2.Fun K "_law_mixed" "_law_mixed" nW f fd)(T:Txt K mg t):OD P w K mg base (Ga t L) cB f fd:=by
 refine okJ 0 mX F lG λ_ _ _ _ _ _ hr=>?_
 exact(aA (dJ 2 lG.nd (bJ (bh (bh (d9 (bJ (nv 0) az) az) (d9 (nv 1) az)) az) az))
   (aA (dJ 2 lG.nd (bJ (bh (bh (d9 (bJ (d9 (nv 2) (nv 2)) az) az) (d9 (nv 1) az)) az) az))
   (au (aQ (bJ (d9 (nv 2) (nv 2)) az)))))
abbrev wB:Stmt:=top 41
theorem M3:aF ["_law_found","_law_due"] ["_law_found","_law_due"] (aq wB):=scm
def v8:DSt->Out Fl:=(bC (vW (rZ km (gb 0)) (vW (notV (rZ iu (gb 0))) (bV (o2b eqD (gb 0) (gb 1))))))
def rG:List D->Out D:=λds=>(cg 2 v8 ds).aY
abbrev vL:Inf D:=⟨"_law_is",1,["_law_found","_law_due"],rG⟩
theorem Mq(F:L2.Fun K "_law_is" "_law_is" wB f fd)(T:Txt K mg t):OD P w K mg base (Ga t L) vL f fd:=by
 refine okJ 0 v8 F M3 λ_ _ _ _ _ _ hr=>?_
 exact(au (aQ (pW (jw (cv:=.ty "int") (.inr rfl) (T.km _) rfl T.bG (aK 0 (pv 0)) (gQ rfl T.Je (by decide +kernel) rfl)) (pW (de_not (jw (cv:=.ty "bool") (.inr rfl) (T.iu _) rfl T.bG (aK 0 (pv 0)) (gQ rfl T.b_bool (by decide +kernel) rfl))) (pX (zc hr.units (aK 0 (pv 0)) (aK 1 (pv 1))))))))
abbrev jK:Stmt:=top 42
theorem bH:aF ["_law_cell","_law_many_here","_law_size","_law_at","_law_names","_law_k","_law_name","_law_j"] ["_law_cell","_law_many_here"] (aq jK):=scm
def lN:DSt->Out Fl:=(cP 6 (o2 bI (gv 6) (o2 ixD (kc (.str "abcdefghijklmnopqrstuvwxyz")) (o2 fj (o2 bI (oF 2 aU (aB (gv 0) (aB (o2 bI (kc (.int 4)) (gv 7)) aR))) (o2 lB (o2 lB (kc (.int 3)) (gv 5)) (o1 intD (bV (o2b eqD (gb 7) (gb 3)))))) (kc (.int 26))))))
def lM:DSt->Out Fl:=(aW (cP 6 (kc (.str "")))
 (aW (nG (yg (gv 2)) (gN 7) lN)
 (uY 4 (gv 6))))
def jy:DSt->Out Fl:=(aW (sIf (o2b eqD (o2 fj (oF 2 aU (aB (gv 0) (aB (kc (.int 1)) aR))) (kc (.int 6))) (kc (.int 0))) (bC (oSl (uR (aB (kc (.str "may")) (aB (kc (.str "must")) (aB (kc (.str "actions")) (aB (kc (.str "to")) (aB (kc (.str "r")) (aB (kc (.str "x")) (aB (kc (.str "y")) (aB (kc (.str "z")) aR))))))))) noI (soI (gv 1)))) cV)
 (aW (cP 2 (o2 bI (kc (.int 1)) (o2 fj (oF 2 aU (aB (gv 0) (aB (kc (.int 2)) aR))) (kc (.int 8)))))
 (aW (cP 3 (o2 fj (oF 2 aU (aB (gv 0) (aB (kc (.int 3)) aR))) (gv 2)))
 (aW (iR 4 (xR aR))
 (aW (nG (yg (gv 1)) (gN 5) lM)
 (tD 4))))))
def dz:List D->Out D:=λds=>(cg 8 jy ds).aY
abbrev jk:Inf D:=⟨"_law_actions",2,["_law_cell","_law_many_here"],dz⟩
theorem xY(F:L2.Fun K "_law_actions" "_law_actions" jK f fd)(T:Txt K mg t)(aG:DD P w K mg base (Ga t L) cB):OD P w K mg base (Ga t L) jk f fd:=by
 refine okJ 1 jy F bH λ_ _ _ _ _ _ hr=>?_
 exact(aA (bW (pZ hr.units (aL (bJ (bw aG hr (ak (nv 0) (ak az aH))) az)) (aL az)) (au (aQ (eH (FJ (ak aV (ak aV (ak aV (ak aV (ak aV (ak aV (ak aV (ak aV aH))))))))) gM (gO (nv 1))))) aZ)
   (aA (dJ 2 bH.nd (bh az (bJ (bw aG hr (ak (nv 0) (ak az aH))) az)))
   (aA (dJ 3 bH.nd (bJ (bw aG hr (ak (nv 0) (ak az aH))) (nv 2)))
   (aA (xu 4 bH.nd (tK aH))
   (aA (ww (dW rfl T.dU (nv 1)) (ngn bH.nd) (aA (dJ 6 bH.nd aV)
   (aA (ww (dW rfl T.dU (nv 2)) (ngn bH.nd) (au (dJ 6 bH.nd (bh (nv 6) (de_ix aV (bJ (bh (bw aG hr (ak (nv 0) (ak (bh az (nv 7)) aH))) (d9 (d9 az (nv 5)) (Fy rfl T.Je (zc hr.units (aK 7 (pv 7)) (aK 3 (pv 3)))))) az))))))
   (au (napp 4 (nv 6))))))
   (au (rN 4 (pv 4))))))))
abbrev nY:Stmt:=top 43
theorem bF:aF ["_law_cell","_law_many_here","_law_signs","_law_first","_law_size","_law_at","_law_names","_law_k","_law_name","_law_j"] ["_law_cell","_law_many_here"] (aq nY):=scm
def qD:DSt->Out D:=(o2 bI (kc (.str "r")) (o1 strD (o2 bI (kc (.int 100)) (o2 fj (o2 lB (kc (.int 13)) (gv 0)) (kc (.int 797))))))
def qG:DSt->Out D:=(o2 bI (gv 1) (o1 strD (o2 bI (kc (.int 100)) (o2 fj (o2 bI (o2 lB (kc (.int 13)) (gv 0)) (oF 2 aU (aB (gv 2) (aB (kc (.int 14)) aR)))) (kc (.int 797))))))
def qz:DSt->Out Fl:=(cP 8 (o2 bI (gv 8) (o2 ixD (gvo 2) (o2 fj (o2 bI (oF 2 aU (aB (gv 0) (aB (o2 bI (kc (.int 18)) (gv 9)) aR))) (o2 lB (o2 lB (kc (.int 4)) (gv 7)) (o1 intD (bV (o2b eqD (gb 9) (gb 5)))))) (kc (.int 36))))))
def qy:DSt->Out Fl:=(aW (cP 8 (o2 ixD (gvo 2) (o2 fj (o2 bI (oF 2 aU (aB (gv 0) (aB (kc (.int 17)) aR))) (o2 lB (o2 lB (kc (.int 3)) (gv 7)) (o1 intD (bV (o2b eqD (gb 5) (kc (.int 0))))))) (kc (.int 26)))))
 (aW (nG (rng2 (kc (.int 1)) (gv 4)) (gN 9) qz)
 (uY 6 (gv 8))))
def mY:DSt->Out Fl:=(aW (cP 2 (kc (.str "abcdefghijklmnopqrstuvwxyz0123456789")))
 (aW (cP 3 (o2 ixD (gvo 2) (o2 fj (oF 2 aU (aB (gv 0) (aB (kc (.int 12)) aR))) (kc (.int 26)))))
 (aW (sIf (o2b eqD (o2 fj (oF 2 aU (aB (gv 0) (aB (kc (.int 13)) aR))) (kc (.int 6))) (kc (.int 0))) (bC (o2 bI (oSl (uR (aB (kc (.str "must")) (aB (kc (.str "may")) (aB (kc (.str "actions")) aR)))) noI (soI (gv 1))) (xX (gq [none] (rng2 (kc (.int 3)) (gv 1)) (gN 0) (λ_=>.ok true) qD)))) cV)
 (aW (sIf (orT (o2b gtD (gb 1) (kc (.int 8))) (o2b eqD (o2 fj (oF 2 aU (aB (gv 0) (aB (kc (.int 13)) aR))) (kc (.int 6))) (kc (.int 1)))) (bC (xX (gq [none,some 3,some 0] (yg (gv 1)) (gN 0) (λ_=>.ok true) qG))) cV)
 (aW (cP 4 (o2 bI (kc (.int 1)) (o2 fj (oF 2 aU (aB (gv 0) (aB (kc (.int 15)) aR))) (kc (.int 8)))))
 (aW (cP 5 (o2 fj (oF 2 aU (aB (gv 0) (aB (kc (.int 16)) aR))) (gv 4)))
 (aW (iR 6 (xR aR))
 (aW (nG (yg (gv 1)) (gN 7) qy)
 (tD 6)))))))))
def fM:List D->Out D:=λds=>(cg 10 mY ds).aY
abbrev mq:Inf D:=⟨"_law_rooms",2,["_law_cell","_law_many_here"],fM⟩
theorem Cd(F:L2.Fun K "_law_rooms" "_law_rooms" nY f fd)(T:Txt K mg t)(aG:DD P w K mg base (Ga t L) cB):OD P w K mg base (Ga t L) mq f fd:=by
 refine okJ 1 mY F bF λ_ _ _ _ _ _ hr=>?_
 exact(aA (dJ 2 bF.nd aV)
   (aA (dJ 3 bF.nd (bQ 2 (pv 2) (bJ (bw aG hr (ak (nv 0) (ak az aH))) az)))
   (aA (bW (pZ hr.units (aL (bJ (bw aG hr (ak (nv 0) (ak az aH))) az)) (aL az)) (au (aQ (bh (eH (FJ (ak aV (ak aV (ak aV aH)))) gM (gO (nv 1))) (zf (j9 (λa b c d=>gA (N':=["_law_k"]) (cap:=[none]) ⟨rfl,rfl,by decide +kernel,by decide +kernel,by rfl,trivial,⟨trivial,trivial⟩⟩ rfl a b c d) (Dd rfl T.dU az (nv 1) (λh=>Dw rfl T.dU h)) (sh_n 0) (λ_ _ _ _ _=>ngc) (λ_ _ _ _ _=>gP) (λ_ _ _ _ _=>(bh aV (Np rfl T.b_str (bh az (bJ (d9 az (nv 0)) az)))))))))) aZ)
   (aA (bW (v5 (kh (dt_gt (aK 1 (pv 1)) (aL az)) (iD (pZ hr.units (aL (bJ (bw aG hr (ak (nv 0) (ak az aH))) az)) (aL az))))) (au (aQ (zf (j9 (λa b c d=>gA (N':=["_law_k","_law_first","_law_cell"]) (cap:=[none,some 3,some 0]) ⟨rfl,rfl,by decide +kernel,by decide +kernel,by rfl,⟨⟨rfl,by walk_at "o"⟩,⟨rfl,by walk_at "o"⟩,trivial⟩,⟨trivial,⟨rfl,rfl,by walk_at "o"⟩,⟨rfl,rfl,by walk_at "o"⟩,trivial⟩⟩ rfl a b c d) (dW rfl T.dU (nv 1)) (sh_n 0) (λ_ _ _ _ _=>ngc) (λ_ _ _ _ _=>gP) (λ_ _ _ _ _=>(bh (nv 1) (Np rfl T.b_str (bh az (bJ (bh (d9 az (nv 0)) (bw aG hr (ak (nv 2) (ak az aH)))) az))))))))) aZ)
   (aA (dJ 4 bF.nd (bh az (bJ (bw aG hr (ak (nv 0) (ak az aH))) az)))
   (aA (dJ 5 bF.nd (bJ (bw aG hr (ak (nv 0) (ak az aH))) (nv 4)))
   (aA (xu 6 bF.nd (tK aH))
   (aA (ww (dW rfl T.dU (nv 1)) (ngn bF.nd) (aA (dJ 8 bF.nd (bQ 2 (pv 2) (bJ (bh (bw aG hr (ak (nv 0) (ak az aH))) (d9 (d9 az (nv 7)) (Fy rfl T.Je (zc hr.units (aK 5 (pv 5)) (aL az))))) az)))
   (aA (ww (Dd rfl T.dU az (nv 4) (λh=>Dw rfl T.dU h)) (ngn bF.nd) (au (dJ 8 bF.nd (bh (nv 8) (bQ 2 (pv 2) (bJ (bh (bw aG hr (ak (nv 0) (ak (bh az (nv 9)) aH))) (d9 (d9 az (nv 7)) (Fy rfl T.Je (zc hr.units (aK 9 (pv 9)) (aK 5 (pv 5)))))) az))))))
   (au (napp 6 (nv 8))))))
   (au (rN 6 (pv 6)))))))))))
abbrev qX:Stmt:=top 44
theorem cW:aF ["_law_script","_law_rooms_here","_law_many_here","_law_rows_here","_law_room","_law_cell","_law_doors","_law_action","_law_number"] ["_law_script","_law_rooms_here","_law_many_here"] (aq qX):=scm
def sZ:DSt->Out Fl:=(aW (cP 8 (oF 2 aU (aB (gv 5) (aB (o2 bI (o2 bI (kc (.int 30)) (o2 lB (kc (.int 9)) (o2 fj (gv 4) (kc (.int 7))))) (gv 7)) aR))))
 (uY 6 (o2 ixD (uR (aB (lQ (aB (kc (.str "must")) (aB (o2 fj (o2 zH (gv 8) (kc (.int 3))) (gv 1)) aR))) (aB (lQ (aB (kc (.str "may")) (aB (o2 fj (o2 zH (gv 8) (kc (.int 3))) (gv 1)) aR))) (aB (lQ (aB (kc (.str "shut")) (aB (kc .non) aR))) aR)))) (o2 fj (gv 8) (kc (.int 3))))))
def sY:DSt->Out Fl:=(aW (cP 5 (oF 2 bu (aB (gv 0) (aB (o2 bI (kc (.int 3)) (gv 4)) aR))))
 (aW (iR 6 (xR aR))
 (aW (nG (yg (gv 2)) (gN 7) sZ)
 (frzd 6 (uY 3 (gv 6))))))
def qj:DSt->Out Fl:=(aW (iR 3 (xR aR))
 (aW (nG (yg (gv 1)) (gN 4) sY)
 (tD 3)))
def gY:List D->Out D:=λds=>(cg 9 qj ds).aY
abbrev pJ:Inf D:=⟨"_law_rows",2,["_law_script","_law_rooms_here","_law_many_here"],gY⟩
theorem G7(F:L2.Fun K "_law_rows" "_law_rows" qX f fd)(T:Txt K mg t)(bf:DD P w K mg base (Ga t L) dD)(aG:DD P w K mg base (Ga t L) cB):OD P w K mg base (Ga t L) pJ f fd:=by
 refine okJ 1 qj F cW λ_ _ _ _ _ _ hr=>?_
 exact(aA (xu 3 cW.nd (tK aH))
   (aA (ww (dW rfl T.dU (nv 1)) (ngn cW.nd) (aA (dJ 5 cW.nd (bw bf hr (ak (nv 0) (ak (bh az (nv 4)) aH))))
   (aA (xu 6 cW.nd (tK aH))
   (aA (ww (dW rfl T.dU (nv 2)) (ngn cW.nd) (aA (dJ 8 cW.nd (bw aG hr (ak (nv 5) (ak (bh (bh az (d9 az (bJ (nv 4) az))) (nv 7)) aH))))
   (au (napp 6 (de_ix (FJ (ak (pY (ak aV (ak (bJ (yw (nv 8) az) (nv 1)) aH))) (ak (pY (ak aV (ak (bJ (yw (nv 8) az) (nv 1)) aH))) (ak (pY (ak aV (ak mL aH))) aH)))) (bJ (nv 8) az))))))
   (au (v4 6 (napp 3 (nv 6))))))))
   (au (rN 3 (pv 3)))))
abbrev qW:Stmt:=top 45
theorem u0:aF ["_law_cell","_law_number"] ["_law_cell"] (aq qW):=scm
def qi:DSt->Out Fl:=(aW (cP 1 (oF 2 aU (aB (gv 0) (aB (kc (.int 25)) aR))))
 (aW (sIf (o2b eqD (o2 fj (gv 1) (kc (.int 8))) (kc (.int 0))) (bC (o2 bI (kc (.int 9)) (o2 fj (o2 zH (gv 1) (kc (.int 8))) (kc (.int 40))))) cV)
 (bC (o2 bI (kc (.int 1)) (o2 fj (o2 zH (gv 1) (kc (.int 8))) (kc (.int 8)))))))
def gW:List D->Out D:=λds=>(cg 2 qi ds).aY
abbrev pI:Inf D:=⟨"_law_many",2,["_law_cell"],gW⟩
theorem GZ(F:L2.Fun K "_law_many" "_law_many" qW f fd)(T:Txt K mg t)(aG:DD P w K mg base (Ga t L) cB):OD P w K mg base (Ga t L) pI f fd:=by
 refine okJ 1 qi F u0 λ_ _ _ _ _ _ hr=>?_
 exact(aA (dJ 1 u0.nd (bw aG hr (ak (nv 0) (ak az aH))))
   (aA (bW (pZ hr.units (aL (bJ (nv 1) az)) (aL az)) (au (aQ (bh az (bJ (yw (nv 1) az) az)))) aZ)
   (au (aQ (bh az (bJ (yw (nv 1) az) az))))))
abbrev qU:Stmt:=top 46
theorem cF:aF ["_law_name","_law_doors","_law_actions_here","_law_names","_law_cell","_law_told","_law_action","_law_word","_law_to","_law_turn"] ["_law_name","_law_doors","_law_actions_here","_law_names","_law_cell"] (aq qU):=scm
def sX:DSt->Out Fl:=(aW (sAsg (o2 ixD (gvo 1) (gv 6)) (gT 2 (cO (gN 7) (cO (gN 8) oJ))))
 (sIf (o2b neD (gb 7) (kc (.str "shut"))) (uY 5 (o2 bI (o2 bI (o2 bI (o2 bI (o2 ixD (gvo 2) (gv 6)) (kc (.str " "))) (gv 7)) (kc (.str " "))) (o2 ixD (gvo 3) (gv 8)))) cV))
def qg:DSt->Out Fl:=(aW (iR 5 (xR aR))
 (aW (nG (yg (o1 fC (gb 2))) (gN 6) sX)
 (aW (cP 9 (o2 fj (oF 2 aU (aB (gv 4) (aB (kc (.int 26)) aR))) (o2 bI (o1 fC (gb 5)) (kc (.int 1)))))
 (aW (frzd 5 (iR 5 (catL (oSl (gv 5) (soI (gv 9)) noI) (oSl (gv 5) noI (soI (gv 9))))))
 (aW (sIf (o2b eqD (o2 fj (oF 2 aU (aB (gv 4) (aB (kc (.int 27)) aR))) (kc (.int 2))) (kc (.int 0))) (frzd 5 (cP 5 (o1 revD (gv 5)))) cV)
 (aW (sIf (o2b eqD (gb 5) (uR aR)) (bC (o2 bI (gv 0) (kc (.str ":")))) cV)
 (frzd 5 (bC (o2 bI (o2 bI (gv 0) (kc (.str ": "))) (Dt (kc (.str ", ")) (gv 5)))))))))))
def gU:List D->Out D:=λds=>(cg 10 qg ds).aY
abbrev pH:Inf D:=⟨"_law_line",2,["_law_name","_law_doors","_law_actions_here","_law_names","_law_cell"],gU⟩
theorem GX(F:L2.Fun K "_law_line" "_law_line" qU f fd)(T:Txt K mg t)(aG:DD P w K mg base (Ga t L) cB):OD P w K mg base (Ga t L) pH f fd:=by
 refine okJ 1 qg F cF λ_ _ _ _ _ _ hr=>?_
 exact(aA (xu 5 cF.nd (tK aH))
   (aA (ww (dW rfl T.dU (c7 rfl T.fX (aK 2 (pv 2)))) (ngn cF.nd) (aA (ds_asg (λa b=>ps_asg a b) (bQ 1 (pv 1) (nv 6)) (zj (n:=2) (λh=>Ac rfl h) (eN (ngn cF.nd) (eN (ngn cF.nd) ux (λa b=>eQ a b)) (λa b=>eQ a b))))
   (au (bW (uy hr.units (aK 7 (pv 7)) (aL aV)) (au (napp 5 (bh (bh (bh (bh (bQ 2 (pv 2) (nv 6)) aV) (nv 7)) aV) (bQ 3 (pv 3) (nv 8))))) aZ))))
   (aA (dJ 9 cF.nd (bJ (bw aG hr (ak (nv 4) (ak az aH))) (bh (c7 rfl T.fX (aK 5 (pv 5))) az)))
   (aA (v4 5 (xu 5 cF.nd (df_cat (eH (nv 5) (gO (nv 9)) gM) (eH (nv 5) gM (gO (nv 9))))))
   (aA (bW (pZ hr.units (aL (bJ (bw aG hr (ak (nv 4) (ak az aH))) az)) (aL az)) (au (v4 5 (dJ 5 cF.nd (Ly rfl rfl T.yX rfl T.Lp (nv 5))))) aZ)
   (aA (bW (pZ hr.units (aK 5 (pv 5)) (aL (FJ aH))) (au (aQ (bh (nv 0) aV))) aZ)
   (au (v4 5 (aQ (bh (bh (nv 0) aV) (Fz aV (nv 5) (λa b=>oN PySem.F.plainAttrs_str PySem.F.slot_str_join PySem.F.type_str_join Gv a (aX b bL)))))))))))))
abbrev nU:Stmt:=top 47
theorem gR:aF ["_law_actions_here","_law_names","_law_rows_here","_law_script","_law_lines_here","_law_room","_law_cell"] ["_law_actions_here","_law_names","_law_rows_here","_law_script"] (aq nU):=scm
def qx:DSt->Out Fl:=(aW (cP 6 (oF 2 bu (aB (gv 3) (aB (o2 bI (kc (.int 3)) (gv 5)) aR))))
 (uY 4 (oF 5 gU (aB (o2 ixD (gvo 1) (gv 5)) (aB (o2 ixD (gvo 2) (gv 5)) (aB (gv 0) (aB (gv 1) (aB (gv 6) aR))))))))
def mW:DSt->Out Fl:=(aW (iR 4 (xR (aB (o2 bI (kc (.str "actions ")) (Dt (kc (.str " ")) (gv 0))) aR)))
 (aW (nG (yg (o1 fC (gb 2))) (gN 5) qx)
 (tD 4)))
def fL:List D->Out D:=λds=>(cg 7 mW ds).aY
abbrev mj:Inf D:=⟨"_law_lines",3,["_law_actions_here","_law_names","_law_rows_here","_law_script"],fL⟩
theorem BZ(F:L2.Fun K "_law_lines" "_law_lines" nU f fd)(T:Txt K mg t)(bf:DD P w K mg base (Ga t L) dD)(oV:DD P w K mg base (Ga t L) pH):OD P w K mg base (Ga t L) mj f fd:=by
 refine okJ 2 mW F gR λ_ _ _ _ _ _ hr=>?_
 exact(aA (xu 4 gR.nd (tK (ak (bh aV (Fz aV (nv 0) (λa b=>oN PySem.F.plainAttrs_str PySem.F.slot_str_join PySem.F.type_str_join Gv a (aX b bL)))) aH)))
   (aA (ww (dW rfl T.dU (c7 rfl T.fX (aK 2 (pv 2)))) (ngn gR.nd) (aA (dJ 6 gR.nd (bw bf hr (ak (nv 3) (ak (bh az (nv 5)) aH))))
   (au (napp 4 (bw oV hr (ak (bQ 1 (pv 1) (nv 5)) (ak (bQ 2 (pv 2) (nv 5)) (ak (nv 0) (ak (nv 1) (ak (nv 6) aH))))))))))
   (au (rN 4 (pv 4)))))
abbrev s_law:Stmt:=top 48
theorem n8:aF ["_law_script","_law_rooms_here","_law_number","_law_actions_here","_law_names","_law_rows_here","_law_text","_law_turn","_law_found"] ["_law_script"] (aq s_law):=scm
def Nz:DSt->Mem->Res Fl:=(vg (fO (cP 8 (oF 1 jV (aB (gv 6) aR))))
 (vg (ifS (fO (orT (jJ (tst (rZ qu (gb 8)))) (orT (jJ (tst (oF 2 rG (aB (oM "many" 1 lW (gv 8) aR) (aB (gv 1) aR))))) (o2b neD (oM "action_list" 1 (tabD bx) (gv 8) aR) (gb 3))))) (retS (fO (kc (.bl false)))) nilS)
 (vg (ifS (fO (o2b neD (oM "told" 1 (KJ cI) (gv 8) aR) (gb 5))) (retS (fO (kc (.bl false)))) nilS)
 (ifS (fO (o2b eqD (gb 7) (kc (.int 0)))) (vg (fO (Hm (oMF "told" cI (gv 8))))
 (fO (sExprf (oMF "action_list" bx (gv 8))))) nilS))))
def g_law:DSt->Mem->Res Fl:=(vg (fO (cP 1 (oF 1 gW (aB (oF 2 bu (aB (gv 0) (aB (kc (.int 0)) aR))) aR))))
 (vg (fO (cP 2 (oF 2 aU (aB (oF 2 bu (aB (gv 0) (aB (kc (.int 0)) aR))) (aB (kc (.int 28)) aR)))))
 (vg (fO (cP 3 (oF 2 dz (aB (oF 2 bu (aB (gv 0) (aB (kc (.int 1)) aR))) (aB (o2 bI (kc (.int 1)) (o2 fj (gv 2) (kc (.int 8)))) aR)))))
 (vg (fO (cP 4 (oF 2 fM (aB (oF 2 bu (aB (gv 0) (aB (kc (.int 2)) aR))) (aB (gv 1) aR)))))
 (vg (fO (cP 5 (oF 3 gY (aB (gv 0) (aB (gv 1) (aB (o1 fC (gb 3)) aR))))))
 (vg (fO (cP 6 (Dt (kc (.str "\n")) (oF 4 fL (aB (gv 3) (aB (gv 4) (aB (gv 5) (aB (gv 0) aR))))))))
 (vg (Ke (fO (yg (kc (.int 2)))) (gN 7) Nz)
 (retS (fO (kc (.bl true)))))))))))
def F_law:Mem->List D->Res D:=λμ ds=>(runS false 9 g_law μ ds).aY
abbrev J_law:InfS:=⟨"law",10,["_law_script"],F_law⟩
theorem ok_law(F:L2.Fun K "law" "law" s_law f fd)(T:Txt K mg t)(oW:DA' P w K mg base (Ga0 t) pI)(bf:DA' P w K mg base (Ga0 t) dD)(aG:DA' P w K mg base (Ga0 t) cB)(jh:DA' P w K mg base (Ga0 t) jk)(lY:DA' P w K mg base (Ga0 t) mq)(oX:DA' P w K mg base (Ga0 t) pJ)(lX:DA' P w K mg base (Ga0 t) mj)(oZ:DA' P w K mg base (Ga0 t) pM)(vG:DA' P w K mg base (Ga0 t) vL)(yQ:∀L:Plc,iB P w K mg base (Ga t L) "many" (spD K (Ga t L) 1) 1 lW)(gK:∀L:Plc,iB P w K mg base (Ga t L) "action_list" (spF K (Ga t L) 1) 1 bx)(uf:∀L:Plc,iB P w K mg base (Ga t L) "told" (spFF K (Ga t L) 1) 4 cI):ODs P w K mg base (Ga0 t) J_law f fd:=by
 refine okJs false 9 g_law F n8 λ_ _ _ _ _ _ hr=>?_
 exact(dM (vh λL=>(dJ 1 n8.nd (bw (oW.at L) hr (ak (bw (bf.at L) hr (ak (nv 0) (ak az aH))) aH))))
   (dM (vh λL=>(dJ 2 n8.nd (bw (aG.at L) hr (ak (bw (bf.at L) hr (ak (nv 0) (ak az aH))) (ak az aH)))))
   (dM (vh λL=>(dJ 3 n8.nd (bw (jh.at L) hr (ak (bw (bf.at L) hr (ak (nv 0) (ak az aH))) (ak (bh az (bJ (nv 2) az)) aH)))))
   (dM (vh λL=>(dJ 4 n8.nd (bw (lY.at L) hr (ak (bw (bf.at L) hr (ak (nv 0) (ak az aH))) (ak (nv 1) aH)))))
   (dM (vh λL=>(dJ 5 n8.nd (bw (oX.at L) hr (ak (nv 0) (ak (nv 1) (ak (c7 rfl T.fX (aK 3 (pv 3))) aH))))))
   (dM (vh λL=>(dJ 6 n8.nd (Fz aV (bw (lX.at L) hr (ak (nv 3) (ak (nv 4) (ak (nv 5) (ak (nv 0) aH))))) (λa b=>oN PySem.F.plainAttrs_str PySem.F.slot_str_join PySem.F.type_str_join Gv a (aX b bL)))))
   (dM (nforS (si_of λL=>(dW rfl T.dU az)) (λL=>(ngn n8.nd)) (dM (vh λL=>(dJ 8 n8.nd (bw (oZ.at L) hr (ak (nv 6) aH))))
   (dM (ss_if (st_of λL=>(v5 (kh (dh (di (aL (jw (cv:=.ref t.Plan) (.inl rfl) (T.qu _) rfl T.bG (aK 8 (pv 8)) (gw rfl T.g_Plan rfl))))) (kh (dh (di (aL (bw (vG.at L) hr (ak (zZ (yQ L) hr (nv 8)) (ak (nv 1) aH)))))) (iD (uy hr.units (aL (zZ (iB.dF (gK L)) hr (nv 8))) (aK 3 (pv 3)))))))) (vm (M8 (se_of λL=>ik))) HN)
   (dM (ss_if (st_of λL=>(uy hr.units (aL (zZ (iB.dFF (uf L)) hr (nv 8))) (aK 5 (pv 5)))) (vm (M8 (se_of λL=>ik))) HN)
   (vm (ss_if (st_of λL=>(pZ hr.units (aK 7 (pv 7)) (aL az))) (dM (vh λL=>(ds_clrff (Ow (wz ((uf L).ok (hr.mono (by decide))) uW (nv 8))) (λa=>kI (pe_bm0 PySem.F.plainAttrs_list PySem.F.slot_list_clear PySem.F.type_list_clear JW (pe_ix Nx a pe_int (λ_ _=>rfl))))))
   (vm (vh λL=>(ds_clrf (df_meth0 (wz ((gK L).ok (hr.mono (by decide))) uW (nv 8))) (λa=>kI (pe_bm0 PySem.F.plainAttrs_list PySem.F.slot_list_clear PySem.F.type_list_clear JW a)))))) HN))))))
   (vm (M8 (se_of λL=>ik))))))))))
end
end K9
namespace DL
open PySem MX L2
theorem lK{α β:Type}{fe:DSt->Out β}(g:α->D)(h:α->β):∀(xs:List α)(δ:DSt),(∀x∈xs,fe (δ.set 0 (some (.sh (g x))))=.ok (h x))->sG (gN 0) (λ_=>.ok true) fe (xs.map g) δ=.ok (xs.map h)
 | [],_,_=>rfl
 | x::xs,δ,k=>by
  have e1:=k x List.mem_cons_self
  have e2:=lK g h xs (δ.set 0 (some (.sh (g x)))) (λy hy=>by rw[List.set_set];exact k y (List.mem_cons_of_mem _ hy))
  rw[List.map_cons,List.map_cons]
  unfold sG
  simp only[gN,Out.lR,Out.eX,Out.yH,e1,e2,if_true]
theorem mK{α β:Type}{cap:List (Option Nat)}{fi:DSt->Out (List D)}{fe:DSt->Out β}{δ:DSt}(g:α->D)(h:α->β)(xs:List α)(e:fi δ=.ok (xs.map g))(hz:xs.length<1000000)(k:∀x∈xs,fe ((vZ cap δ).set 0 (some (.sh (g x))))=.ok (h x)):gq cap fi (gN 0) (λ_=>.ok true) fe δ=.ok (xs.map h):=by
 unfold gq
 rw[e]
 simp only[Out.eX]
 rw[if_pos (by rw[List.length_map];exact Nat.lt_of_lt_of_le hz (by decide)),lK g h xs _ k]
theorem Lq(l:List Bool):pU (l.map D.bl)=some l:=by
 induction l with
 | nil=>rfl
 | cons b l ih=>simp[pU,ih,asB]
theorem DP(l:List Str):lV (l.map D.str)=some l:=by
 induction l with
 | nil=>rfl
 | cons b l ih=>simp[lV,ih]
theorem uo{α:Type}(f:α->Bool)(l:List α):allD (.lst (l.map λx=>.bl (f x)))=some (.bl (l.all f)):=by
 unfold allD
 have:(l.map λx=>D.bl (f x))=(l.map f).map D.bl:=by simp
 rw[this]
 simp only[iI,Option.bind_some,Lq,Option.map_some]
 congr 2
 induction l with
 | nil=>rfl
 | cons a l ih=>simp
theorem rngL_map(n:Nat):yh 0 n=(List.range n).map λi=>D.int (i:Nat):=by
 unfold yh
 congr 1
 funext i
 rw[Int.zero_add]
theorem Gb{α:Type}{body:DSt->Out Fl}{tg:D->DSt->Option DSt}(g:α->D)(I:List α->DSt->Prop):∀(xs done:List α)(δ:DSt),(∀x done δ,I done δ->x∈xs->∃δ1,tg (g x) δ=some δ1/\nxP (body δ1) (I (done++[x])))->I done δ->∃δ',xU tg body (xs.map g) δ=.ok (.nx δ')/\I (done++xs) δ'
 | [],done,δ,_,i=>⟨δ,rfl,by simpa using i⟩
 | x::xs,done,δ,h,i=>by
  obtain⟨δ1,e1,w⟩:=h x done δ i List.mem_cons_self
  obtain⟨δ',e2,i'⟩:=nxP_get w
  obtain⟨δ2,e3,i2⟩:=Gb g I xs (done++[x]) δ' (λy dn δ hi hy=>h y dn δ hi (List.mem_cons_of_mem _ hy)) i'
  exact⟨δ2,by rw[List.map_cons];unfold xU;rw[e1];simp only[Out.lR,Out.eX,e2];exact e3,by simpa using i2⟩
theorem run_seq{A B:DSt->Out Fl}{δ δ':DSt}{r:Out D}(h:A δ=.ok (.nx δ'))(k:((B δ').bind uz).aY=r):((aW A B δ).bind uz).aY=r:=by
 unfold aW
 rw[h]
 exact k
theorem run_ret{f:DSt->Out D}{δ:DSt}{d:D}(h:f δ=.ok d):((bC f δ).bind uz).aY=.ok d:=by
 unfold bC
 rw[h]
 rfl
end DL
namespace DL
open PySem MX L2 PySem.Builtin PySem.Builtin.Str
def ofL(l:List Nat):Str:=⟨l.toArray⟩
theorem bB(l:List Nat):(ofL l).length=l.length:=by show l.toArray.size=_;simp
theorem nA{a b:List Nat}(h:ofL a=ofL b):a=b:=by
 have:=congrArg (λs:Str=>s.cps.toList) h
 simpa[ofL] using this
theorem yI(a b:List Nat):ofL a++ofL b=ofL (a++b):=by
 show Str.append (ofL a) (ofL b)=_
 unfold Str.append ofL
 simp
theorem Ag(l:List Nat):∀(m i:Nat),(List.range' i m).filterMap (λx=>l.toArray[x]?)=(l.drop i).take m
 | 0,i=>by simp
 | m+1,i=>by
  rw[List.range'_succ,List.filterMap_cons]
  have ih:=Ag l m (i+1)
  by_cases h:i<l.length
  .simp only[List.getElem?_toArray,List.getElem?_eq_getElem h]
   rw[List.drop_eq_getElem_cons h,List.take_succ_cons]
   congr 1
   simpa using ih
  .have e:l[i]?=none:=List.getElem?_eq_none (by omega)
   simp only[List.getElem?_toArray,e]
   have e2:l.drop i=[]:=List.drop_eq_nil_of_le (by omega)
   have e3:l.drop (i+1)=[]:=List.drop_eq_nil_of_le (by omega)
   rw[e3] at ih
   rw[e2]
   simpa using ih
theorem idx_ss(i j n:Nat)(h1:i<=j)(h2:j<=n):strSliceIndices (some (i:Int)) (some (j:Int)) 1 n=List.range' i (j - i):=by
 unfold strSliceIndices sliceRange
 have a1:¬((i:Int)<0):=by omega
 have a2:¬((j:Int)<0):=by omega
 have b1:max (0:Int) (min (i:Int) (n:Int))=i:=by omega
 have b2:max (0:Int) (min (j:Int) (n:Int))=j:=by omega
 simp only[show (1:Int)>0 by decide,if_true,a1,a2,if_false,b1,b2]
 have c:(if (i:Int)<j then ((j:Int) - i+1 - 1) / 1 else 0).toNat=j - i:=by
  split
  .rw[Int.ediv_one];omega
  .simp;omega
 rw[c,List.range'_eq_map_range]
 congr 1
 funext k
 omega
theorem slice_ss(l:List Nat)(i j:Nat)(h1:i<=j)(h2:j<=l.length):Txt.slice (ofL l) (some (i:Int)) (some (j:Int))=ofL ((l.drop i).take (j - i)):=by
 unfold Txt.slice
 rw[bB,idx_ss i j _ h1 h2]
 split
 .rename_i h
  simp at h
  have:i=0/\j=l.length:=by omega
  obtain⟨rfl,rfl⟩:=this
  simp
 .show (⟨((List.range' i (j - i)).filterMap λx=>l.toArray[x]?).toArray⟩:Str)=_
  rw[Ag]
  rfl
theorem abc:(Str.ofString "abcdefghijklmnopqrstuvwxyz")=ofL ((List.range 26).map (97+·)):=by decide +kernel
theorem abc_at{i:Int}(h0:0<=i)(h1:i<26):ixD (.str "abcdefghijklmnopqrstuvwxyz") (.int i)=some (.str (ofL [97+i.toNat])):=by
 obtain⟨k,rfl⟩:=Int.eq_ofNat_of_zero_le h0
 have hk:k<26:=by omega
 have key:∀k:Fin 26,ixD (.str (Str.ofString "abcdefghijklmnopqrstuvwxyz")) (.int ((k.val:Nat):Int))=some (.str (ofL [97+((k.val:Nat):Int).toNat])):=by
  intro k
  have e:(if (Str.ofString "abcdefghijklmnopqrstuvwxyz").length<=sizeLine then (atI (Str.ofString "abcdefghijklmnopqrstuvwxyz").cps.toList ((k.val:Nat):Int)).map λc=>D.str ⟨#[c]⟩ else none)=ixD (.str (Str.ofString "abcdefghijklmnopqrstuvwxyz")) (.int ((k.val:Nat):Int)):=rfl
  rw[←e,abc,bB,if_pos (by simp;decide)]
  show (atI (((List.range 26).map (97+·)).toArray.toList) ((k.val:Nat):Int)).map _=_
  have:atI (((List.range 26).map (97+·)).toArray.toList) ((k.val:Nat):Int)=some (97+k.val):=fW (by simp)
  rw[this]
  simp[ofL]
 exact key ⟨k,hk⟩
theorem abc_in{c:Nat}(h0:97<=c)(h1:c<123):inD (.str (ofL [c])) (.str "abcdefghijklmnopqrstuvwxyz")=some true:=by
 have key:∀k:Fin 26,(!(occurrences (Str.ofString "abcdefghijklmnopqrstuvwxyz") (ofL [97+k.val]) 0 (Str.ofString "abcdefghijklmnopqrstuvwxyz").length 1).isEmpty)=true:=by decide +kernel
 have:=key ⟨c - 97,by omega⟩
 rw[show 97+(c - 97)=c by omega] at this
 show some _=some true
 rw[this]
end DL
namespace DL
open PySem MX L2
section
variable{δ δ':DSt}{μ μ' μ'':Mem}{d d':D}
end
end DL
namespace DL
open PySem MX L2
def W{α:Type}(o:Out α)(Q:α->Prop):Prop:=match o with
 | .ok a=>Q a
 | _=>False
theorem wQ{α:Type}{o:Out α}{Q:α->Prop}(h:W o Q):∃a,o=.ok a/\Q a:=by
 cases o with
 | ok a=>exact⟨a,rfl,h⟩
 | ex x=>exact False.elim h
 | stuck=>exact False.elim h
theorem vV{α:Type}{o:Out α}{a:α}(h:W o (·=a)):o=.ok a:=by
 obtain⟨b,e,q⟩:=wQ h
 rw[e,q]
theorem W.imp{α:Type}{o:Out α}{P Q:α->Prop}(h:W o P)(k:∀a,P a->Q a):W o Q:=by
 obtain⟨a,e,q⟩:=wQ h
 rw[e];exact k a q
theorem W_of{α:Type}{o:Out α}{a:α}{Q:α->Prop}(e:o=.ok a)(q:Q a):W o Q:=by rw[e];exact q
def thn(fl:Fl)(k:DSt->Prop)(Q:Fl->Prop):Prop:=match fl with
 | .nx δ=>k δ
 | fl=>Q fl
def sv(δ:DSt)(i:Nat)(Q:D->Prop):Prop:=match δ[i]? with
 | some (some (.sh d))=>Q d
 | _=>False
def sb(δ:DSt)(i:Nat)(Q:D->Prop):Prop:=match δ[i]? with
 | some (some s)=>Q (slD s)
 | _=>False
def so(δ:DSt)(i:Nat)(Q:List D->Prop):Prop:=match δ[i]? with
 | some (some (.ol ds))=>Q ds
 | _=>False
def sw(δ:DSt)(i:Nat)(Q:D->Prop):Prop:=match δ[i]? with
 | some (some (.sh d))=>Q d
 | some (some (.ol ds))=>Q (.lst ds)
 | _=>False
section
variable{α β:Type}{δ:DSt}{i n c:Nat}{d:D}{ds:List D}{x:Option Sl}{s:Sl}{Q:α->Prop}{P:D->Prop}{PL:List D->Prop}{R:Fl->Prop}{B:Bool->Prop}{k:DSt->Prop}{f f' f'':DSt->Out D}{t t':DSt->Out Bool}{g g':DSt->Out Fl}{fr:DSt->Out (List D)}{F:List D->Out D}
theorem jr{a:α}:W (.ok a) Q↔Q a:=Iff.rfl
theorem aM{o:Out β}{k:β->Out α}:W (o.bind k) Q↔W o λa=>W (k a) Q:=by cases o <;> exact Iff.rfl
theorem W_noex{o:Out α}:W o.aY Q↔W o Q:=by cases o <;> exact Iff.rfl
theorem thn_nx:thn (.nx δ) k R↔k δ:=Iff.rfl
theorem thn_rt:thn (.rt d) k R↔R (.rt d):=Iff.rfl
theorem thn_rl:thn (.rl ds) k R↔R (.rl ds):=Iff.rfl
theorem sv_0:sv (some (.sh d)::δ) 0 P↔P d:=Iff.rfl
theorem sv_s:sv (x::δ) (i+1) P↔sv δ i P:=Iff.rfl
theorem sb_0:sb (some s::δ) 0 P↔P (slD s):=Iff.rfl
theorem sb_s:sb (x::δ) (i+1) P↔sb δ i P:=Iff.rfl
theorem so_0:so (some (.ol ds)::δ) 0 PL↔PL ds:=Iff.rfl
theorem so_s:so (x::δ) (i+1) PL↔so δ i PL:=Iff.rfl
theorem sw_0:sw (some (.sh d)::δ) 0 P↔P d:=Iff.rfl
theorem sw_1:sw (some (.ol ds)::δ) 0 P↔P (.lst ds):=Iff.rfl
theorem sw_s:sw (x::δ) (i+1) P↔sw δ i P:=Iff.rfl
theorem W_gv:W (gv i δ) P↔sv δ i P:=by
 unfold gv sv
 rcases δ[i]? with _ | _ | s
 .exact Iff.rfl
 .exact Iff.rfl
 .cases s <;> exact Iff.rfl
theorem W_gb:W (gb i δ) P↔sb δ i P:=by
 unfold gb sb
 rcases δ[i]? with _ | _ | s <;> exact Iff.rfl
theorem W_gvo:W (gvo i δ) P↔sw δ i P:=by
 unfold gvo sw
 rcases δ[i]? with _ | _ | s
 .exact Iff.rfl
 .exact Iff.rfl
 .cases s <;> exact Iff.rfl
theorem W_o1{h:D->Option D}:W (o1 h f δ) P↔W (f δ) λx=>W (Out.opt (h x)) P:=aM
theorem W_o2{h:D->D->Option D}:W (o2 h f f' δ) P↔W (f δ) λx=>W (f' δ) λy=>W (Out.opt (h x y)) P:=by unfold o2;rw[aM];simp only[aM]
theorem W_o2b{h:D->D->Option Bool}:W (o2b h f f' δ) B↔W (f δ) λx=>W (f' δ) λy=>W (Out.opt (h x y)) B:=by unfold o2b;rw[aM];simp only[aM]
theorem W_o3{h h':D->D->Option Bool}:W (o3 h h' f f' f'' δ) B↔W (f δ) λx=>W (f' δ) λy=>W (Out.opt (h x y)) λk=>if k=true then W (f'' δ) λz=>W (Out.opt (h' y z)) B else B false:=by
 unfold o3
 simp only[aM]
 have:∀(y:D)(k:Bool),W (if k=true then (f'' δ).bind λz=>Out.opt (h' y z) else Out.ok false) B↔if k=true then W (f'' δ) λz=>W (Out.opt (h' y z)) B else B false:=λy k=>by cases k <;> simp[aM,jr]
 simp only[this]
theorem W_bV:W (bV t δ) P↔W (t δ) λb=>P (.bl b):=by unfold bV;simp only[aM,jr]
theorem W_tst:W (tst f δ) B↔W (f δ) λd=>W (Out.opt (truD d)) B:=by unfold tst;simp only[aM]
theorem pQ{p:Prop}[Decidable p]{a b:Out α}:W (if p then a else b) Q↔if p then W a Q else W b Q:=by split <;> exact Iff.rfl
theorem W_orT:W (orT t t' δ) B↔W (t δ) λk=>if k=true then B true else W (t' δ) B:=by unfold orT;simp only[aM,pQ,jr]
theorem W_notT:W (jJ t δ) B↔W (t δ) λk=>B (!k):=by unfold jJ;simp only[aM,jr]
theorem W_andV:W (vW f f' δ) P↔W (f δ) λd=>W (Out.opt (asB d)) λk=>if k=true then W (f' δ) P else P (.bl false):=by unfold vW;simp only[aM,pQ,jr]
theorem W_orV:W (orV f f' δ) P↔W (f δ) λd=>W (Out.opt (asB d)) λk=>if k=true then P (.bl true) else W (f' δ) P:=by unfold orV;simp only[aM,pQ,jr]
theorem W_notV:W (notV f δ) P↔W (f δ) λd=>W (Out.opt (asB d)) λk=>P (.bl (!k)):=by unfold notV;simp only[aM,jr]
theorem W_nil:W (aR δ) PL↔PL []:=Iff.rfl
theorem W_cons:W (aB f fr δ) PL↔W (f δ) λd=>W (fr δ) λds=>PL (d::ds):=by unfold aB;simp only[aM,jr]
theorem W_tup:W (lQ fr δ) P↔W (fr δ) λds=>ds.length<=sizeLine/\P (.tup ds):=by
 unfold lQ
 simp only[aM,pQ,jr]
 have:∀ds:List D,(if ds.length<=sizeLine then P (.tup ds) else W Out.stuck P)↔(ds.length<=sizeLine/\P (.tup ds)):=λds=>by by_cases h:ds.length<=sizeLine <;> simp[h,W]
 simp only[this]
theorem W_lst:W (uR fr δ) P↔W (fr δ) λds=>ds.length<=sizeLine/\P (.lst ds):=by
 unfold uR
 simp only[aM,pQ,jr]
 have:∀ds:List D,(if ds.length<=sizeLine then P (.lst ds) else W Out.stuck P)↔(ds.length<=sizeLine/\P (.lst ds)):=λds=>by by_cases h:ds.length<=sizeLine <;> simp[h,W]
 simp only[this]
theorem W_chk:W (xR fr δ) PL↔W (fr δ) λds=>ds.length<=sizeLine/\PL ds:=by
 unfold xR
 simp only[aM,pQ,jr]
 have:∀ds:List D,(if ds.length<=sizeLine then PL ds else W Out.stuck PL)↔(ds.length<=sizeLine/\PL ds):=λds=>by by_cases h:ds.length<=sizeLine <;> simp[h,W]
 simp only[this]
theorem W_seqO:W (jR f δ) PL↔W (f δ) λd=>W (Out.opt (jt d)) PL:=by unfold jR;simp only[aM]
theorem W_lstV:W (xX fr δ) P↔W (fr δ) λds=>P (.lst ds):=by unfold xX;simp only[aM,jr]
theorem W_oF:W (oF n F fr δ) P↔W (fr δ) λds=>ds.length=n/\W (F ds) P:=by
 unfold oF
 simp only[aM,pQ]
 have:∀ds:List D,(if ds.length=n then W (F ds) P else W Out.stuck P)↔(ds.length=n/\W (F ds) P):=λds=>by by_cases h:ds.length=n <;> simp[h,W]
 simp only[this]
theorem W_oMk{F:List D->Out (List (Str×D))}:W (oMk c n F fr δ) P↔W (fr δ) λds=>ds.length=n/\W (F ds) λfs=>P (.obj c fs):=by
 unfold oMk
 simp only[aM,pQ,jr]
 have:∀ds:List D,(if ds.length=n then W (F ds) λfs=>P (.obj c fs) else W Out.stuck P)↔(ds.length=n/\W (F ds) λfs=>P (.obj c fs)):=λds=>by by_cases h:ds.length=n <;> simp[h,W]
 simp only[this]
theorem W_isi{h:D->Option Bool}:W (rZ h f δ) P↔W (f δ) λd=>W (Out.opt (h d)) λb=>P (.bl b):=by unfold rZ;simp only[aM,jr]
theorem as_l:jt (.lst ds)=some ds:=rfl
theorem as_t:jt (.tup ds)=some ds:=rfl
theorem as_r:jt (.rol ds)=some ds:=rfl
def rgP(d:D)(P:List D->Prop):Prop:=match d with
 | .int j=>(-(2 ^ 62)<=j/\j<2 ^ 62)/\P (yh 0 j.toNat)
 | _=>False
theorem W_rng:W (yg f δ) PL↔W (f δ) λd=>rgP d PL:=by
 unfold yg
 rw[aM]
 refine iff_of_eq (congrArg _ (funext λd=>?_))
 cases d <;> try rfl
 rename_i j
 unfold rgP
 dsimp only
 by_cases h:-(2 ^ 62)<=j/\j<2 ^ 62
 .rw[if_pos h];exact propext ⟨λw=>⟨h,w⟩,λw=>w.2⟩
 .rw[if_neg h];exact propext ⟨λw=>False.elim w,λw=>absurd w.1 h⟩
theorem rg_n{n:Nat}(h:n<=1000000):rgP (.int (n:Nat)) PL↔PL ((List.range n).map λi=>D.int (i:Nat)):=by
 rw[←rngL_map]
 unfold rgP
 dsimp only
 rw[Int.toNat_natCast]
 exact⟨λw=>w.2,λw=>⟨⟨Int.le_trans (b:=0) (by decide) (Int.natCast_nonneg n),Int.lt_of_le_of_lt (b:=1000000) (by omega) (by decide)⟩,w⟩⟩
theorem W_sl{fl fh:DSt->Out (Option Int)}:W (oSl f fl fh δ) P↔W (f δ) λx=>W (fl δ) λl=>W (fh δ) λh=>W (Out.opt (cutD x l h)) P:=by unfold oSl;simp only[aM]
theorem W_noI{Q:Option Int->Prop}:W (noI δ) Q↔Q none:=Iff.rfl
def siP(d:D)(Q:Option Int->Prop):Prop:=match d with
 | .int i=>Q (some i)
 | _=>False
theorem W_soI{Q:Option Int->Prop}:W (soI f δ) Q↔W (f δ) λd=>siP d Q:=by
 unfold soI
 rw[aM]
 refine iff_of_eq (congrArg _ (funext λd=>?_))
 cases d <;> rfl
theorem si_i{j:Int}{Q:Option Int->Prop}:siP (.int j) Q↔Q (some j):=Iff.rfl
theorem cut_l{lo hi:Option Int}:cutD (.lst ds) lo hi=some (.lst (ut ds lo hi)):=rfl
theorem W_addL{es:List D}:W (Out.opt (bI (.lst ds) (.lst es))) P↔(ds.length+es.length<=sizeLine/\P (.lst (ds++es))):=by
 show W (Out.opt (if ds.length+es.length<=sizeLine then some (.lst (ds++es)) else none)) P↔_
 by_cases h:ds.length+es.length<=sizeLine <;> simp[h,W]
theorem W_retv{R:Fl->Prop}:W (tD i δ) R↔(match δ[i]? with | some (some (.sh d))=>R (.rt d) | some (some (.ol ds))=>R (.rl ds) | some (some (.oll dss))=>R (.rll dss) | _=>False):=by
 unfold tD
 rcases δ[i]? with _ | _ | s
 .exact Iff.rfl
 .exact Iff.rfl
 .cases s <;> exact Iff.rfl
theorem W_nilS:W (cV δ) R↔R (.nx δ):=Iff.rfl
theorem W_seq:W (aW g g' δ) R↔W (g δ) λfl=>thn fl (λδ'=>W (g' δ') R) R:=by
 unfold aW
 rw[aM]
 have:∀fl:Fl,W (match fl with | .nx δ'=>g' δ' | fl=>Out.ok fl) R=thn fl (λδ'=>W (g' δ') R) R:=λfl=>by cases fl <;> rfl
 exact iff_of_eq (congrArg _ (funext this))
theorem W_ret:W (bC f δ) R↔W (f δ) λd=>R (.rt d):=by unfold bC;simp only[aM,jr]
theorem W_if:W (sIf t g g' δ) R↔W (t δ) λk=>if k=true then W (g δ) R else W (g' δ) R:=by unfold sIf;simp only[aM,pQ]
theorem W_set:W (cP i f δ) R↔W (f δ) λd=>R (.nx (δ.set i (some (.sh d)))):=by unfold cP;simp only[aM,jr]
theorem W_setl:W (iR i fr δ) R↔W (fr δ) λd=>R (.nx (δ.set i (some (.ol d)))):=by unfold iR;simp only[aM,jr]
theorem W_asg{tg:D->DSt->Option DSt}:W (sAsg f tg δ) R↔W (f δ) λd=>W (Out.opt (tg d δ)) λδ'=>R (.nx δ'):=by unfold sAsg;simp only[aM,jr]
theorem W_app:W (uY i f δ) R↔so δ i λds=>W (f δ) λd=>ds.length<sizeLine/\R (.nx (δ.set i (some (.ol (ds++[d]))))):=by
 unfold uY so
 rcases δ[i]? with _ | _ | s
 .exact Iff.rfl
 .exact Iff.rfl
 .cases s with
  | ol ds =>
   dsimp only
   simp only[aM,pQ,jr]
   have:∀d:D,(if ds.length<sizeLine then R (.nx (δ.set i (some (.ol (ds++[d]))))) else W Out.stuck R)↔(ds.length<sizeLine/\R (.nx (δ.set i (some (.ol (ds++[d])))))):=λd=>by by_cases h:ds.length<sizeLine <;> simp[h,W]
   simp only[this]
  | _=>exact Iff.rfl
theorem W_for{fi:DSt->Out (List D)}{tg:D->DSt->Option DSt}:W (nG fi tg g δ) R↔W (fi δ) λds=>W (xU tg g ds δ) R:=by unfold nG;simp only[aM]
theorem W_runF{Q:D->Prop}:W (cg n g ds) Q↔W (g (dN n ds)) λfl=>W (uz fl) Q:=aM
theorem W_eR:W (uz (.rt d)) P↔P d:=Iff.rfl
theorem W_eL:W (uz (.rl ds)) P↔P (.lst ds):=Iff.rfl
theorem iN_0:iG .non=true:=rfl
theorem iN_1{j:Int}:iG (.int j)=false:=rfl
theorem iN_2{j:Bool}:iG (.bl j)=false:=rfl
theorem iN_3{j:Str}:iG (.str j)=false:=rfl
theorem iN_4:iG (.lst ds)=false:=rfl
theorem iN_5:iG (.tup ds)=false:=rfl
theorem iN_6{fs:List (Str×D)}:iG (.obj c fs)=false:=rfl
theorem iN_7:iG (.cls c)=false:=rfl
def trn(fl:Fl)(k:DSt->Prop)(R:Fl->Prop):Prop:=match fl with
 | .nx δ=>k δ
 | .ct δ=>k δ
 | .bk δ=>R (.nx δ)
 | fl=>R fl
theorem trn_nx:trn (.nx δ) k R↔k δ:=Iff.rfl
theorem trn_rt:trn (.rt d) k R↔R (.rt d):=Iff.rfl
theorem mG{tg:D->DSt->Option DSt}{γ:Type}(e:γ->D)(I:List γ->DSt->Prop)(xs:List γ){δ:DSt}{R:Fl->Prop}(h0:I [] δ)(hs:∀x done rest δ,xs=done++x::rest->I done δ->W (Out.opt (tg (e x) δ)) λδ1=>W (g δ1) λfl=>trn fl (I (done++[x])) R)(he:∀δ,I xs δ->R (.nx δ)):W (xU tg g (xs.map e) δ) R:=by
 have go:∀(ys done:List γ)(δ:DSt),xs=done++ys->I done δ->W (xU tg g (ys.map e) δ) R:=by
  intro ys
  induction ys with
  | nil=>intro done δ q i;rw[List.append_nil] at q;subst q;exact he δ i
  | cons y ys ih =>
   intro done δ q i
   rw[List.map_cons]
   unfold xU
   rw[aM]
   refine(hs y done ys δ q i).imp λδ1 w=>?_
   rw[aM]
   refine w.imp λfl w=>?_
   cases fl with
   | nx δ2=>exact ih _ δ2 (by rw[q];simp) w
   | ct δ2=>exact ih _ δ2 (by rw[q];simp) w
   | bk δ2=>exact w
   | rt d=>exact w
   | rl d=>exact w
   | rll d=>exact w
 exact go xs [] δ rfl h0
theorem W_comp{tg:D->DSt->Option DSt}{fe:DSt->Out α}{cap:List (Option Nat)}{fi:DSt->Out (List D)}{Q:List α->Prop}:W (gq cap fi tg t fe δ) Q↔W (fi δ) λds=>ds.length<sizeLine/\W (sG tg t fe ds (vZ cap δ)) Q:=by
 unfold gq
 simp only[aM,pQ]
 have:∀ds:List D,(if ds.length<sizeLine then W (sG tg t fe ds (vZ cap δ)) Q else W Out.stuck Q)↔(ds.length<sizeLine/\W (sG tg t fe ds (vZ cap δ)) Q):=λds=>by by_cases h:ds.length<sizeLine <;> simp[h,W]
 simp only[this]
end
end DL
namespace DL
open PySem MX L2
def WS{α:Type}(r:Res α)(Q:α->Mem->Prop):Prop:=match r with
 | .ok a μ=>Q a μ
 | _=>False
theorem WS_get{α:Type}{o:Res α}{Q:α->Mem->Prop}(h:WS o Q):∃a μ,o=.ok a μ/\Q a μ:=by
 cases o with
 | ok a μ=>exact⟨a,μ,rfl,h⟩
 | ex x=>exact False.elim h
 | stuck=>exact False.elim h
theorem WS.imp{α:Type}{o:Res α}{P Q:α->Mem->Prop}(h:WS o P)(k:∀a μ,P a μ->Q a μ):WS o Q:=by
 obtain⟨a,μ,e,q⟩:=WS_get h
 rw[e];exact k a μ q
def thS(fl:Fl)(μ:Mem)(k:DSt->Mem->Prop)(Q:Fl->Mem->Prop):Prop:=match fl with
 | .nx δ=>k δ μ
 | fl=>Q fl μ
def tnS(fl:Fl)(μ:Mem)(k:DSt->Mem->Prop)(R:Fl->Mem->Prop):Prop:=match fl with
 | .nx δ=>k δ μ
 | .ct δ=>k δ μ
 | .bk δ=>R (.nx δ) μ
 | fl=>R fl μ
section
variable{α β:Type}{δ:DSt}{μ ν:Mem}{i n m c:Nat}{d:D}{ds:List D}{a:α}{Q:α->Mem->Prop}{P:D->Mem->Prop}{PL:List D->Mem->Prop}{R:Fl->Mem->Prop}{B:Bool->Mem->Prop}{k:DSt->Mem->Prop}{f f' f'':DSt->Mem->Res D}{h:DSt->Out D}{hl:DSt->Out (List D)}{t t':DSt->Mem->Res Bool}{g g':DSt->Mem->Res Fl}{fr:DSt->Mem->Res (List D)}{F:Mem->List D->Res D}{o:Option Cl}{x:Option Sl}
theorem WS_ok:WS (.ok a μ) Q↔Q a μ:=Iff.rfl
theorem j0{r:Res β}{k:β->Mem->Res α}:WS (r.bind k) Q↔WS r λa μ=>WS (k a μ) Q:=by cases r <;> exact Iff.rfl
theorem WS_noex{r:Res α}:WS r.aY Q↔WS r Q:=by cases r <;> exact Iff.rfl
theorem WS_of{o:Out α}:WS (Res.of o μ) Q↔W o λa=>Q a μ:=by cases o <;> exact Iff.rfl
theorem WS_ite{p:Prop}[Decidable p]{a b:Res α}:WS (if p then a else b) Q↔if p then WS a Q else WS b Q:=by split <;> exact Iff.rfl
theorem thS_nx:thS (.nx δ) μ k R↔k δ μ:=Iff.rfl
theorem thS_rt:thS (.rt d) μ k R↔R (.rt d) μ:=Iff.rfl
theorem tnS_nx:tnS (.nx δ) μ k R↔k δ μ:=Iff.rfl
theorem tnS_rt:tnS (.rt d) μ k R↔R (.rt d) μ:=Iff.rfl
theorem WS_fO{f:DSt->Out α}:WS (fO f δ μ) Q↔W (f δ) λa=>Q a μ:=WS_of
theorem WS_nil:WS (nilS δ μ) R↔R (.nx δ) μ:=Iff.rfl
theorem WS_seq:WS (vg g g' δ μ) R↔WS (g δ μ) λfl μ=>thS fl μ (λδ' μ=>WS (g' δ' μ) R) R:=by
 unfold vg
 rw[j0]
 have:∀(fl:Fl)(μ:Mem),WS (match fl with | .nx δ'=>g' δ' μ | fl=>Res.ok fl μ) R=thS fl μ (λδ' μ=>WS (g' δ' μ) R) R:=λfl μ=>by cases fl <;> rfl
 exact iff_of_eq (congrArg _ (funext λfl=>funext (this fl)))
theorem WS_ret:WS (retS f δ μ) R↔WS (f δ μ) λd μ=>R (.rt d) μ:=by unfold retS;simp only[j0,WS_ok]
theorem WS_if:WS (ifS t g g' δ μ) R↔WS (t δ μ) λk μ=>if k=true then WS (g δ μ) R else WS (g' δ μ) R:=by unfold ifS;simp only[j0,WS_ite]
theorem WS_for{fi:DSt->Mem->Res (List D)}{tg:D->DSt->Option DSt}:WS (Ke fi tg g δ μ) R↔WS (fi δ μ) λds μ=>WS (forS tg g ds δ μ) R:=by unfold Ke;simp only[j0]
theorem WS_run{cell:Bool}:WS (runS cell n g μ ds) P↔WS (g (dN n ds) μ) λfl μ=>WS (endS cell fl μ) P:=j0
theorem WS_eR{cell:Bool}:WS (endS cell (.rt d) μ) P↔P d μ:=Iff.rfl
theorem WS_fors{tg:D->DSt->Option DSt}{γ:Type}(e:γ->D)(I:List γ->DSt->Mem->Prop)(xs:List γ){δ:DSt}{R:Fl->Mem->Prop}(h0:I [] δ μ)(hs:∀x done rest δ μ,xs=done++x::rest->I done δ μ->W (Out.opt (tg (e x) δ)) λδ1=>WS (g δ1 μ) λfl μ=>tnS fl μ (I (done++[x])) R)(he:∀δ μ,I xs δ μ->R (.nx δ) μ):WS (forS tg g (xs.map e) δ μ) R:=by
 have go:∀(ys done:List γ)(δ:DSt)(μ:Mem),xs=done++ys->I done δ μ->WS (forS tg g (ys.map e) δ μ) R:=by
  intro ys
  induction ys with
  | nil=>intro done δ μ q i;rw[List.append_nil] at q;subst q;exact he δ μ i
  | cons y ys ih =>
   intro done δ μ q i
   rw[List.map_cons]
   unfold forS
   rw[j0,WS_of]
   refine(hs y done ys δ μ q i).imp λδ1 w=>?_
   rw[j0]
   refine w.imp λfl μ w=>?_
   cases fl with
   | nx δ2=>exact ih _ δ2 μ (by rw[q];simp) w
   | ct δ2=>exact ih _ δ2 μ (by rw[q];simp) w
   | bk δ2=>exact w
   | rt d=>exact w
   | rl d=>exact w
   | rll d=>exact w
 exact go xs [] δ μ rfl h0
end
end DL
namespace DL
open PySem MX L2
section
variable{g:DSt->Out Fl}
theorem trn_imp{fl:Fl}{k k':DSt->Prop}{R:Fl->Prop}(w:trn fl k R)(h:∀δ,k δ->k' δ):trn fl k' R:=by
 cases fl with
 | nx δ=>exact h δ w
 | ct δ=>exact h δ w
 | bk δ=>exact w
 | rt d=>exact w
 | rl d=>exact w
 | rll d=>exact w
theorem Ln{tg:D->DSt->Option DSt}{γ:Type}(P:γ->Prop)(I:List γ->DSt->Prop)(n:Nat){δ:DSt}{R:Fl->Prop}(h0:I [] δ)
  (hs:∀(a:Nat) r δ,a<n->r.length=a->(∀x∈r,P x)->I r δ->W (Out.opt (tg (.int (a:Nat)) δ)) λδ1=>W (g δ1) λfl=>trn fl (λδ'=>∃y,P y/\I (r++[y]) δ') R)
  (he:∀r δ,r.length=n->(∀x∈r,P x)->I r δ->R (.nx δ)):W (xU tg g ((List.range n).map λi:Nat=>D.int (i:Nat)) δ) R:=by
 refine mG (λi:Nat=>D.int (i:Nat)) (λdone δ=>∃r:List γ,r.length=done.length/\(∀x∈r,P x)/\I r δ) (List.range n) ⟨[],rfl,by simp,h0⟩ ?_ ?_
 .rintro a done rest δ e ⟨r,hl,hp,hi⟩
  have l:=congrArg List.length e
  have ga:=congrArg (λl=>l[done.length]?) e
  simp at l ga
  have ea:done.length=a:=by
   rw[List.getElem?_range (by omega)] at ga
   simpa using ga
  refine(hs a r δ (by omega) (by omega) hp hi).imp λδ1 w=>w.imp λfl w=>trn_imp w ?_
  rintro δ' ⟨y,py,iy⟩
  refine⟨r++[y],by simp[hl],λx hx=>?_,iy⟩
  rcases List.mem_append.mp hx with h | h
  .exact hp x h
  .rw[List.mem_singleton.mp h];exact py
 .rintro δ ⟨r,hl,hp,hi⟩
  exact he r δ (by simpa using hl) hp hi
theorem W_enum{f:DSt->Out D}{δ:DSt}{P:List D->Prop}:W (enum f δ) P↔W (f δ) λd=>W (Out.opt (iI d)) λds=>P (p6 0 ds):=by unfold enum;simp only[aM,jr]
end
end DL
namespace DL
open PySem PySem.StrLaws
open PySem.Builtin.Str hiding strKind
theorem toL_of(l:List Nat):(ofL l).cps.toList=l:=rfl
theorem ofL_to(x:Str):ofL x.cps.toList=x:=Str.ext' (by simp[ofL])
def jn(s:List Nat):List (List Nat)->List Nat
 | []=>[]
 | [p]=>p
 | p::r=>p++s++jn s r
theorem m8(s p q:List Nat)(r:List (List Nat)):jn s (p::q::r)=p++s++jn s (q::r):=rfl
theorem Gi(s:List Nat):∀ps:List (List Nat),Str.join (ofL s) (ps.map ofL)=ofL (jn s ps)
 | []=>rfl
 | [p]=>rfl
 | p::q::r=>by
  have h:=Gi s (q::r)
  show ofL p++ofL s++Str.join (ofL s) ((q::r).map ofL)=_
  rw[h,yI,yI]
  rfl
theorem txt_jn(s:List Nat)(ps:List (List Nat)):Txt.join (ofL s) (ps.map ofL)=ofL (jn s ps):=by
 show glued _ _=_
 rw[glued_eq_join,Gi]
theorem JC{c:Nat}{u v:List Nat}:∀{a b:List Nat},c∉a->c∉b->a++c::u=b++c::v->a=b/\u=v
 | [],[],_,_,e=>⟨rfl,by simpa using e⟩
 | [],y::b,_,hb,e=>by
  simp at e
  exact absurd e.1 λz=>hb (by rw[z];exact List.mem_cons_self)
 | x::a,[],ha,_,e=>by
  simp at e
  exact absurd e.1.symm λz=>ha (by rw[z];exact List.mem_cons_self)
 | x::a,y::b,ha,hb,e=>by
  simp at e
  obtain⟨e1,e2⟩:=JC (λh=>ha (List.mem_cons_of_mem _ h)) (λh=>hb (List.mem_cons_of_mem _ h)) e.2
  exact⟨by rw[e.1,e1],e2⟩
theorem jn_inj(c:Nat)(s:List Nat):∀(ps qs:List (List Nat)),ps≠[]->qs≠[]->(∀p∈ps,c∉p)->(∀p∈qs,c∉p)->jn (c::s) ps=jn (c::s) qs->ps=qs
 | [],_,h,_,_,_,_=>absurd rfl h
 | _::_,[],_,h,_,_,_=>absurd rfl h
 | [p],[q],_,_,_,_,e=>by rw[show p=q from e]
 | [p],q::q'::r,_,_,hp,_,e=>by
  rw[m8] at e
  exact absurd (show c∈p by rw[show p=_ from e];simp) (hp p List.mem_cons_self)
 | p::p'::r,[q],_,_,_,hq,e=>by
  rw[m8] at e
  exact absurd (show c∈q by rw[show q=_ from e.symm];simp) (hq q List.mem_cons_self)
 | p::p'::r,q::q'::r',_,_,hp,hq,e=>by
  rw[m8,m8,List.append_assoc,List.append_assoc] at e
  obtain⟨e1,e2⟩:=JC (hp p List.mem_cons_self) (hq q List.mem_cons_self) e
  rw[e1,jn_inj c s (p'::r) (q'::r') (by simp) (by simp) (λx hx=>hp x (List.mem_cons_of_mem _ hx)) (λx hx=>hq x (List.mem_cons_of_mem _ hx)) (List.append_cancel_left e2)]
theorem split_ne(x y:Str):Txt.split x y≠[]:=by
 unfold Txt.split
 split
 .simp
 .split
  .simp
  .rw[partsBetween_eq]
   obtain⟨p,r,e⟩:=partsFrom_ne x y.length 0 (occurrences x y 0 x.length (x.length+1))
   rw[e];simp
theorem map_to(l:List Str):(l.map λx=>x.cps.toList).map ofL=l:=by
 rw[List.map_map]
 exact(List.map_congr_left λx _=>ofL_to x).trans (List.map_id _)
theorem DK{c:Nat}{s:List Nat}{ps:List (List Nat)}(h0:ps≠[])(hf:∀p∈ps,c∉p)(hs:∀p∈Txt.split (ofL (jn (c::s) ps)) (ofL (c::s)),c∉p.cps.toList):Txt.split (ofL (jn (c::s) ps)) (ofL (c::s))=ps.map ofL:=by
 have e:=join_split (ofL (jn (c::s) ps)) (ofL (c::s))
 generalize hl:Txt.split (ofL (jn (c::s) ps)) (ofL (c::s))=l at hs e
 have ne:l≠[]:=hl▸split_ne _ _
 rw[←map_to l] at e ⊢
 rw[Gi] at e
 have:=jn_inj c s (l.map λx=>x.cps.toList) ps (by simpa using ne) h0 (λp hp=>by obtain⟨x,hx,rfl⟩:=List.mem_map.mp hp;exact hs x hx) hf (nA e)
 rw[this]
theorem split_1{c:Nat}{ps:List (List Nat)}(h0:ps≠[])(hf:∀p∈ps,c∉p):Txt.split (ofL (jn [c] ps)) (ofL [c])=ps.map ofL:=DK h0 hf λp hp=>split_free _ c p hp
theorem at_2{x:Str}{c d k:Nat}(h1:x.cps.toList[k]?=some c)(h2:x.cps.toList[k+1]?=some d):At x (ofL [c,d]) x.length k:=by
 have lt:k+1<x.cps.toList.length:=(List.getElem?_eq_some_iff.mp h2).1
 have l2:k+1<x.cps.size:=by simpa using lt
 refine⟨by rw[bB];show k+2<=x.cps.size;omega,?_⟩
 rw[subAt_eq,bB]
 show ((x.cps.toList.drop k).take 2==[c,d])=true
 rw[beq_iff_eq]
 apply List.ext_getElem?
 intro i
 match i with
 | 0=>rw[List.getElem?_take_of_lt (by decide),List.getElem?_drop];simpa using h1
 | 1=>rw[List.getElem?_take_of_lt (by decide),List.getElem?_drop];simpa using h2
 | n+2=>rw[List.getElem?_eq_none (by simp;omega)];rfl
theorem Ab(x:Str)(c d a b:Nat)(hx:∀k,x.cps.toList[k]?=some c->x.cps.toList[k+1]?=some d)(hn:∀k,a<=k->k<b->¬At x (ofL [c,d]) x.length k):c∉(strSub x a b).cps.toList:=by
 intro hm
 rw[strSub_toList] at hm
 obtain⟨j,hj⟩:=List.getElem?_of_mem hm
 have hlt:j<b - a:=by
  have h1:j<((x.cps.toList.drop a).take (b - a)).length:=(List.getElem?_eq_some_iff.mp hj).1
  simp at h1
  omega
 rw[List.getElem?_take_of_lt hlt,List.getElem?_drop] at hj
 exact hn (a+j) (by omega) (by omega) (at_2 hj (hx _ hj))
theorem xF(x:Str)(c d:Nat)(hx:∀k,x.cps.toList[k]?=some c->x.cps.toList[k+1]?=some d):∀(cuts:List Nat)(a f:Nat),ChainG x (ofL [c,d]) x.length a cuts f->(∀k,f<=k->¬At x (ofL [c,d]) x.length k)->∀p∈partsFrom x (ofL [c,d]).length a cuts,c∉p.cps.toList
 | [],a,f,h,hn,p,hp=>by
  have e:f=a:=h
  subst e
  rw[List.mem_singleton.mp hp]
  exact Ab x c d f x.length hx λk h1 _=>hn k h1
 | e::r,a,f,h,hn,p,hp=>by
  rcases List.mem_cons.mp hp with rfl | hp'
  .exact Ab x c d a e hx h.2.2.1
  .exact xF x c d hx r _ f h.2.2.2 hn p hp'
theorem uI{x:Str}{c d:Nat}(hx:∀k,x.cps.toList[k]?=some c->x.cps.toList[k+1]?=some d)(hn:∀k,¬At x (ofL [c,d]) x.length k):c∉x.cps.toList:=by
 intro hm
 obtain⟨j,hj⟩:=List.getElem?_of_mem hm
 exact hn j (at_2 hj (hx j hj))
theorem Kr(x:Str)(c d:Nat)(hk:PySem.Builtin.Str.strKind (ofL [c,d])=1)(hx:∀k,x.cps.toList[k]?=some c->x.cps.toList[k+1]?=some d):∀p∈Txt.split x (ofL [c,d]),c∉p.cps.toList:=by
 obtain⟨f,hG,hn⟩:=occ_tight x (ofL [c,d]) (by rw[bB];exact Nat.le_succ 1)
 unfold Txt.split
 split
 .rename_i hc
  intro p hp
  rw[List.mem_singleton.mp hp]
  rw[Bool.or_eq_true,decide_eq_true_eq,decide_eq_true_eq] at hc
  rcases hc with h | h
  .exact uI hx λk hA=>by have:=hA.1;omega
  .rw[hk] at h
   have:1<=PySem.Builtin.Str.strKind x:=by unfold PySem.Builtin.Str.strKind;split <;> (try split) <;> decide
   omega
 .split
  .rename_i he
   intro p hp
   rw[List.mem_singleton.mp hp]
   have e0:occurrences x (ofL [c,d]) 0 x.length (x.length+1)=[]:=List.isEmpty_iff.mp he
   rw[e0] at hG
   have ef:f=0:=hG
   subst ef
   exact uI hx λk=>hn k (Nat.zero_le _)
  .rw[partsBetween_eq]
   exact xF x c d hx _ 0 f hG hn
theorem Ny{c d:Nat}(hcd:c≠d):∀(ps:List (List Nat)),(∀p∈ps,c∉p)->∀k,(jn [c,d] ps)[k]?=some c->(jn [c,d] ps)[k+1]?=some d
 | [],_,k,h=>by simp[jn] at h
 | [p],hp,k,h=>absurd (List.mem_of_getElem? h) (hp p List.mem_cons_self)
 | p::q::r,hp,k,h=>by
  rw[m8,List.append_assoc] at h ⊢
  have n1:=hp p List.mem_cons_self
  by_cases hk:k<p.length
  .rw[List.getElem?_append_left hk] at h
   exact absurd (List.mem_of_getElem? h) n1
  .rw[List.getElem?_append_right (by omega)] at h
   rw[List.getElem?_append_right (by omega)]
   have e:k+1 - p.length=(k - p.length)+1:=by omega
   rw[e]
   generalize k - p.length=j at h
   match j with
   | 0=>rfl
   | 1=>simp at h;exact absurd h.symm hcd
   | j+2=>exact Ny hcd (q::r) (λx hx=>hp x (List.mem_cons_of_mem _ hx)) j h
theorem split_2{c d:Nat}(hcd:c≠d)(hk:PySem.Builtin.Str.strKind (ofL [c,d])=1){ps:List (List Nat)}(h0:ps≠[])(hf:∀p∈ps,c∉p):Txt.split (ofL (jn [c,d] ps)) (ofL [c,d])=ps.map ofL :=
 DK h0 hf λp hp=>Kr _ c d hk (λk h=>Ny hcd ps hf k h) p hp
theorem at_1{x:Str}{c k:Nat}:At x (ofL [c]) x.length k↔x.cps.toList[k]?=some c:=subAt_one x c k
theorem has_1(l:List Nat)(c:Nat):(!(occurrences (ofL l) (ofL [c]) 0 (ofL l).length 1).isEmpty)=decide (c∈l):=found_one (ofL l) c
theorem head_1{a b:List Nat}{c:Nat}(h:c∉a):∃r,occurrences (ofL (a++c::b)) (ofL [c]) 0 (ofL (a++c::b)).length 1=a.length::r:=by
 rcases occ_head (ofL (a++c::b)) (ofL [c]) 1 (Nat.le_refl 1) with⟨_,hn⟩| ⟨i,r,e,hA,hn⟩
 .exact absurd (at_1.mpr (by rw[toL_of];simp)) (hn a.length)
 .have h1:=at_1.mp hA
  rw[toL_of] at h1
  have:i=a.length:=by
   rcases Nat.lt_trichotomy i a.length with z | z | z
   .rw[List.getElem?_append_left z] at h1
    exact absurd (List.mem_of_getElem? h1) h
   .exact z
   .exact absurd (at_1.mpr (by rw[toL_of];simp)) (hn a.length z)
  exact⟨r,by rw[e,this]⟩
theorem sub_of(l:List Nat)(i j:Nat):strSub (ofL l) i j=ofL ((l.drop i).take (j - i)):=by
 have:=strSub_toList (ofL l) i j
 rw[←ofL_to (strSub (ofL l) i j),this]
 rfl
theorem part_1{a b:List Nat}{c:Nat}(h:c∉a):Txt.partition (ofL (a++c::b)) (ofL [c])=(ofL a,ofL [c],ofL b):=by
 obtain⟨r,e⟩:=head_1 (b:=b) h
 unfold Txt.partition
 rw[e]
 simp only[sub_of,bB]
 have e2:a.length+[c].length=(a++[c]).length:=by simp
 rw[e2,show a++c::b=(a++[c])++b by simp,List.drop_left,List.drop_zero,Nat.sub_zero,List.append_assoc,List.take_left,List.take_of_length_le (by simp;omega)]
theorem stw_1(c:Nat)(l:List Nat):Txt.startswith (ofL (c::l)) (ofL [c])=true:=by
 unfold Txt.startswith
 rw[bB,bB,subAt_eq,bB]
 show (decide (0+1<=l.length+1) && (List.take 1 (List.drop 0 (c::l))==[c]))=true
 simp
end DL
namespace DL
open PySem MX L2
def txP(d:D)(Q:Str->Prop):Prop:=match d with
 | .str z=>Q z
 | _=>False
def kyP(d:D)(Q:Key->Prop):Prop:=match zU d with
 | some k=>Q k
 | none=>False
def dkP(δ:DSt)(i:Nat)(Q:List (Key×D)->Prop):Prop:=match dkOf i δ with
 | some kvs=>Q kvs
 | none=>False
def doD(δ:DSt)(i:Nat)(Q:List (Key×D)->Prop):Prop:=match δ[i]? with
 | some (some (.od kvs))=>Q kvs
 | _=>False
section
variable{δ:DSt}{i n:Nat}{d:D}{ds:List D}{x:Option Sl}{P:D->Prop}{PL:List D->Prop}{R:Fl->Prop}{B:Bool->Prop}{f f' f'' fo fa fb:DSt->Out D}{kvs:List (Key×D)}{QD:List (Key×D)->Prop}
theorem tx_s{z:Str}{Q:Str->Prop}:txP (.str z) Q↔Q z:=Iff.rfl
theorem ky_s{z:Str}{Q:Key->Prop}:kyP (.str z) Q↔Q (.inr z):=Iff.rfl
theorem dk_1:dkP (some (.sh (.dK kvs))::δ) 0 QD↔QD kvs:=Iff.rfl
theorem dk_s:dkP (x::δ) (i+1) QD↔dkP δ i QD:=Iff.rfl
theorem doD_0:doD (some (.od kvs)::δ) 0 QD↔QD kvs:=Iff.rfl
theorem doD_s:doD (x::δ) (i+1) QD↔doD δ i QD:=Iff.rfl
theorem CT{h:Str->Str->Option D}:W (oTx h fo fa δ) P↔W (fo δ) λd=>txP d λz=>W (fa δ) λy=>txP y λy=>W (Out.opt (h z y)) P:=by
 unfold oTx
 rw[aM]
 refine iff_of_eq (congrArg _ (funext λd=>?_))
 cases d <;> try rfl
 show W ((fa δ).bind _) P=_
 unfold txP
 dsimp only
 rw[aM]
 refine congrArg _ (funext λy=>?_)
 cases y <;> rfl
theorem Ew:W (Dt fo fa δ) P↔W (fo δ) λd=>txP d λz=>W (fa δ) λy=>W (Out.opt (uO z y)) P:=by
 unfold Dt
 rw[aM]
 refine iff_of_eq (congrArg _ (funext λd=>?_))
 cases d <;> try rfl
 show W ((fa δ).bind _) P=_
 rw[aM]
 rfl
theorem W_strO:W (strO f δ) PL↔W (f δ) λd=>txP d λz=>PL (Al z):=by
 unfold strO
 rw[aM]
 refine iff_of_eq (congrArg _ (funext λd=>?_))
 cases d <;> rfl
theorem W_catL:W (catL fa fb δ) PL↔W (fa δ) λx=>W (fb δ) λy=>∃a b,x=.lst a/\y=.lst b/\a.length+b.length<=sizeLine/\PL (a++b):=by
 unfold catL
 rw[aM]
 refine iff_of_eq (congrArg _ (funext λd=>?_))
 rw[aM]
 refine congrArg _ (funext λy=>?_)
 cases d <;> cases y <;> try simp[W]
 rename_i a b
 by_cases h:a.length+b.length<=sizeLine
 .simp[h]
 .simp[h]
def rg2P(d d':D)(PL:List D->Prop):Prop:=match d,d' with
 | .int i,.int j=>(-(2 ^ 62)<=i/\i<2 ^ 62/\-(2 ^ 62)<=j/\j<2 ^ 62)/\PL (yh i (j - i).toNat)
 | _,_=>False
theorem W_rng2:W (rng2 f f' δ) PL↔W (f δ) λd=>W (f' δ) λd'=>rg2P d d' PL:=by
 unfold rng2
 rw[aM]
 refine iff_of_eq (congrArg _ (funext λd=>?_))
 rw[aM]
 refine congrArg _ (funext λy=>?_)
 cases d <;> cases y <;> try rfl
 rename_i i j
 unfold rg2P
 dsimp only
 by_cases h:-(2 ^ 62)<=i/\i<2 ^ 62/\-(2 ^ 62)<=j/\j<2 ^ 62
 .rw[if_pos h];exact propext ⟨λw=>⟨h,w⟩,λw=>w.2⟩
 .rw[if_neg h];exact propext ⟨λw=>False.elim w,λw=>absurd w.1 h⟩
theorem PK(n a:Nat):yh ((a:Nat):Int) n=(List.range' a n).map λi=>D.int (i:Nat):=by
 unfold yh
 rw[List.range'_eq_map_range,List.map_map]
 exact List.map_congr_left λi _=>by simp
theorem rg2_n{a b:Nat}(ha:a<=1000)(hb:b<=1000):rg2P (.int (a:Nat)) (.int (b:Nat)) PL↔PL ((List.range' a (b - a)).map λi=>D.int (i:Nat)):=by
 have lo:∀k:Nat,-(2 ^ 62)<=(k:Int):=λk=>Int.le_trans (b:=0) (by decide) (Int.natCast_nonneg k)
 have hi:∀k:Nat,k<=1000->(k:Int)<2 ^ 62:=λk h=>Int.lt_of_le_of_lt (b:=1000) (by omega) (by decide)
 rw[←PK,show b - a=(((b:Nat):Int) - ((a:Nat):Int)).toNat by omega]
 exact⟨λw=>w.2,λw=>⟨⟨lo a,hi a ha,lo b,hi b hb⟩,w⟩⟩
theorem W_setD0:W (MP i δ) R↔R (.nx (δ.set i (some (.od [])))):=Iff.rfl
theorem W_setdef:W (uZ i fa fb δ) R↔doD δ i λkvs=>W (fa δ) λk=>W (fb δ) λv=>kyP k λkey=>kvs.length<sizeLine/\R (.nx (if zQ kvs key=true then δ else δ.set i (some (.od (Dy kvs key v))))):=by
 unfold uZ doD
 rcases δ[i]? with _ | _ | s
 .exact Iff.rfl
 .exact Iff.rfl
 .cases s with
  | od kvs =>
   dsimp only
   rw[aM]
   refine iff_of_eq (congrArg _ (funext λk=>?_))
   rw[aM]
   refine congrArg _ (funext λv=>?_)
   unfold kyP
   cases zU k with
   | none=>rfl
   | some key =>
    dsimp only
    by_cases h:kvs.length<sizeLine
    .rw[if_pos h];exact propext ⟨λw=>⟨h,w⟩,λw=>w.2⟩
    .rw[if_neg h];exact propext ⟨λw=>False.elim w,λw=>absurd w.1 h⟩
  | _=>exact Iff.rfl
theorem W_dIx:W (dIx i f δ) P↔dkP δ i λkvs=>W (f δ) λk=>kyP k λkey=>W (Out.opt (tO kvs key)) P:=by
 unfold dIx dkP
 cases dkOf i δ with
 | none=>exact Iff.rfl
 | some kvs =>
  dsimp only
  rw[aM]
  refine iff_of_eq (congrArg _ (funext λk=>?_))
  unfold kyP
  cases zU k <;> rfl
theorem W_dGet1:W (Jk i f δ) P↔dkP δ i λkvs=>W (f δ) λk=>kyP k λkey=>P ((tO kvs key).getD .non):=by
 unfold Jk dkP
 cases dkOf i δ with
 | none=>exact Iff.rfl
 | some kvs =>
  dsimp only
  rw[aM]
  refine iff_of_eq (congrArg _ (funext λk=>?_))
  unfold kyP
  cases zU k <;> rfl
theorem W_dInX:W (dInX i f δ) B↔W (f δ) λk=>kyP k λkey=>dkP δ i λkvs=>B (zQ kvs key):=by
 unfold dInX
 rw[aM]
 refine iff_of_eq (congrArg _ (funext λk=>?_))
 unfold kyP dkP
 cases zU k <;> cases dkOf i δ <;> rfl
theorem W_idxS:W (oIdxS fo fa δ) P↔W (fo δ) λd=>JL d=true/\W (fa δ) λy=>W (Out.opt (JH d y)) P:=by
 unfold oIdxS
 rw[aM]
 refine iff_of_eq (congrArg _ (funext λd=>?_))
 by_cases h:JL d=true
 .rw[if_pos h,aM];exact propext ⟨λw=>⟨h,w⟩,λw=>w.2⟩
 .rw[if_neg h];exact propext ⟨λw=>False.elim w,λw=>absurd w.1 h⟩
theorem W_put:W (sPut i f f' δ) R↔W (f δ) λd=>so δ i λds=>W (f' δ) λk=>∃z j,k=.int z/\ixN ds.length z=some j/\R (.nx (δ.set i (some (.ol (ds.set j d))))):=by
 unfold sPut
 rw[aM]
 refine iff_of_eq (congrArg _ (funext λd=>?_))
 unfold so
 rcases δ[i]? with _ | _ | s
 .rfl
 .rfl
 .cases s with
  | ol ds =>
   dsimp only
   rw[aM]
   refine congrArg _ (funext λk=>?_)
   cases k with
   | int z =>
    dsimp only
    cases hz:ixN ds.length z with
    | none=>simp[W,hz]
    | some j=>simp[jr,hz]
   | _=>simp[W]
  | _=>rfl
theorem W_clrff{ff:DSt->Out (List (List D))}:W (Hm ff δ) R↔W (ff δ) λdss=>dss.isEmpty=false/\R (.nx δ):=by
 unfold Hm
 rw[aM]
 refine iff_of_eq (congrArg _ (funext λdss=>?_))
 cases dss <;> simp[W]
end
end DL
namespace K9
open PySem L2 MX DL
inductive Dr where
 | must (n:Nat) | may (n:Nat) | shut | torn
def Dr.w:Dr->Str
 | .must _=>"must"
 | .may _=>"may"
 | .shut=>"shut"
 | .torn=>"torn"
def Dr.to:Dr->D
 | .must n=>.int n
 | .may n=>.int n
 | .shut=>.non
 | .torn=>.non
def Dr.d(x:Dr):D:=.tup [.str x.w,x.to]
def Dr.ob:Dr->D
 | .must n=>.obj lJ [("to",.int n)]
 | .may n=>.obj vX [("to",.int n)]
 | .shut=>.obj j6 [("to",.non)]
 | .torn=>.obj j7 [("to",.non)]
def Dr.ok(many:Nat)(t:Bool):Dr->Prop
 | .must n=>n<many
 | .may n=>n<many
 | .shut=>True
 | .torn=>t=true
theorem s2:(2:Nat)<=sizeLine:=by decide
theorem q11:eqD (.str "must") (.str "must")=some true:=by decide +kernel
theorem q21:eqD (.str "may") (.str "must")=some false:=by decide +kernel
theorem q22:eqD (.str "may") (.str "may")=some true:=by decide +kernel
theorem q31:eqD (.str "shut") (.str "must")=some false:=by decide +kernel
theorem q32:eqD (.str "shut") (.str "may")=some false:=by decide +kernel
theorem q33:eqD (.str "shut") (.str "shut")=some true:=by decide +kernel
theorem q41:eqD (.str "torn") (.str "must")=some false:=by decide +kernel
theorem q42:eqD (.str "torn") (.str "may")=some false:=by decide +kernel
theorem q43:eqD (.str "torn") (.str "shut")=some false:=by decide +kernel
theorem q44:eqD (.str "torn") (.str "torn")=some true:=by decide +kernel
theorem q13:eqD (.str "must") (.str "shut")=some false:=by decide +kernel
theorem q23:eqD (.str "may") (.str "shut")=some false:=by decide +kernel
theorem n1:inD (.str "must") (.tup [.str "must",.str "torn"])=some true:=by decide +kernel
theorem n2:inD (.str "may") (.tup [.str "must",.str "torn"])=some false:=by decide +kernel
theorem n3:inD (.str "shut") (.tup [.str "must",.str "torn"])=some false:=by decide +kernel
theorem n4:inD (.str "torn") (.tup [.str "must",.str "torn"])=some true:=by decide +kernel
theorem m1:inD (.str "must") (.tup [.str "must",.str "may"])=some true:=by decide +kernel
theorem m2:inD (.str "may") (.tup [.str "must",.str "may"])=some true:=by decide +kernel
theorem m3:inD (.str "shut") (.tup [.str "must",.str "may"])=some false:=by decide +kernel
theorem m4:inD (.str "torn") (.tup [.str "must",.str "may"])=some false:=by decide +kernel
theorem ok_must:PyData.strOk "must"=true:=by decide +kernel
theorem ok_may:PyData.strOk "may"=true:=by decide +kernel
theorem NQ:PyData.strOk "shut"=true:=by decide +kernel
theorem ok_torn:PyData.strOk "torn"=true:=by decide +kernel
theorem yO(n many:Nat)(h:n<many):rJ [.int n,.int many]=.ok (.bl true):=by
 unfold rJ wj
 have h1:(n:Int)<(many:Int):=by omega
 have h0:(0:Int)<=(n:Int):=by omega
 walk_at "ev: km iu m7 h0 h1"
theorem pD(x:Dr)(many:Nat)(t:Bool)(h:x.ok many t):bM [x.d,.int many,.bl t]=.ok (.bl true):=by
 unfold bM fZ Dr.d
 cases x with
 | must n=>(have zv0:=yO n many h;walk_at "ev: dY eY m7 Dr.w Dr.to q11 zv0")
 | may n=>(have zv0:=yO n many h;walk_at "ev: dY eY m7 Dr.w Dr.to q21 q22 zv0")
 | shut=>walk_at "ev: dY eY m7 Dr.w Dr.to q31 q32 q33"
 | torn =>
  obtain rfl:t=true:=h
  walk_at "ev: dY eY m7 Dr.w Dr.to q41 q42 q43 q44"
theorem yN(n a:Bool)(to:D):rH [.bl n,.bl a,to]=.ok (match n,a with | true,true=>.obj lJ [("to",to)] | false,true=>.obj vX [("to",to)] | true,false=>.obj j7 [("to",.non)] | false,false=>.obj j6 [("to",.non)]):=by
 unfold rH v9
 cases n <;> cases a <;> walk_at "ev: pF CN tG pG" <;> rfl
theorem K6(x:Dr):cA [x.d]=.ok x.ob:=by
 unfold cA kj Dr.d
 cases x <;> walk_at "ev: Dr.w Dr.to Dr.ob s2 n1 n2 n3 n4 m1 m2 m3 m4 yN"
theorem F_told'(x:Dr):dw [x.ob]=.ok x.d:=by
 unfold dw p8
 cases x <;> walk_at "ev: Dr.d Dr.w Dr.to Dr.ob s2 lJ vX j6 j7 vq pA qb tE tM pB qd pC qe"
theorem M_told'(x:Dr)(δ:DSt)(fo:DSt->Out D)(h:fo δ=.ok x.ob):oM "told" 1 rD fo aR δ=.ok x.d:=by
 have e:=F_told' x
 cases x <;> · unfold Dr.ob at e h;simp only[cg,dN,uz,aW,cV,cP,iR,sIf,bC,nG,uY,sClr2,sPut,sAsg,gv,gb,gvo,slD,o1,o2,o2b,o3,oC,oF,oM,oMk,oFld,rZ,bV,andT,orT,jJ,tst,vW,orV,notV,aR,aB,lQ,uR,xR,jR,xX,kc,one1,frzd,frz,frzS,yr,yL,dq,lL,kE,yu,Ib,asB_b,zX,Gp,Gq,xm,JM,ixD_t,Gg,Gf,IW,atI_1,atI_2,Gs,FP,Gw,zT,iG,gN,oJ,cO,gT,Out.eX,Out.Fo,Out.tH,Out.lR,Out.J4,Out.yH,nxP_ok,List.map_cons,List.map_nil,List.length_cons,List.length_nil,List.append_assoc,List.nil_append,List.cons_append,List.getElem?_cons_zero,List.getElem?_cons_succ,List.getElem?_nil,List.set_cons_zero,List.set_cons_succ,Nat.zero_add,Nat.reduceAdd,Nat.reduceSub,List.replicate_succ,List.replicate_zero,List.lookup_cons,List.lookup_nil,Option.some.injEq,Option.bind_some,Option.map_some,Nat.reduceBEq,Nat.reduceEqDiff,Int.reduceLT,Int.reduceLE,Int.reduceNeg,Int.reduceAdd,Int.reduceMul,Int.reduceSub,Nat.reduceLeDiff,reduceIte,ite_true,decide_true,decide_false,Bool.not_true,Bool.not_false,Nat.reduceEqDiff,Bool.false_eq_true,Option.isNone_none,Option.isNone_some,yJ,String.reduceBEq,String.reduceEq,beq_self_eq_true,List.contains_cons,List.contains_nil,Bool.or_false,Bool.or_true,Bool.true_or,Bool.false_or,Bool.and_true,Bool.and_false,Bool.true_and,Bool.false_and,Bool.not_eq_true,eq_self_iff_true,Int.cast_ofNat_Int,Int.reduceBEq,Int.natCast_zero,h,rD,lJ,vX,j6,j7] at e ⊢;exact e
def alw:Dr->Bool
 | .must _=>true
 | .may _=>true
 | _=>false
theorem Ef{q:Dr->D}(hq:∀x,cA [q x]=.ok x.ob)(r:List Dr)(h:r.length<=100):gZ [.lst (r.map q)]=.ok (.tup (r.map Dr.ob)):=by
 unfold gZ ql
 have e:=mK (cap:=[none]) (fi:=jR (gv 0)) (fe:=lz) (δ:=[some (.sh (.lst (r.map q)))]) q Dr.ob r rfl (by omega) (λx _=>by
  unfold lz
  show (oF 1 cA (aB (gv 0) aR) [some (.sh (q x))])=_
  (have zv0:=hq x;walk_at "ev: zv0"))
 walk_at "ev: e ud"
def kO(rows:List (List Dr)):D:=.lst (rows.map λr=>.lst (r.map Dr.d))
def Kc(rows:List (List Dr)):D:=.tup (rows.map λr=>.tup (r.map Dr.ob))
structure Rows(many acts:Nat)(t:Bool)(rows:List (List Dr)):Prop where
 n:rows.length=many
 row:∀r∈rows,r.length=acts/\∀x∈r,x.ok many t
theorem p7{α:Type}(g:α->D):∀(xs:List α)(k:Nat),p6 k (xs.map g)=(List.zipIdx xs k).map λp=>D.tup [.int p.2,g p.1]
 | [],_=>rfl
 | x::xs,k=>by rw[List.map_cons,List.zipIdx_cons,List.map_cons,←p7 g xs (k+1)];rfl
def kW(q:Dr->D)(rows:List (List Dr)):D:=.lst (rows.map λr=>.lst (r.map q))
theorem F_rowsQ{q:Dr->D}(hQ:∀(x:Dr) (many:Nat) (t:Bool),x.ok many t->bM [q x,.int many,.bl t]=.ok (.bl true))(many acts:Nat)(t:Bool)(rows:List (List Dr))(R:Rows many acts t rows)(h1:1<=many)(h2:many<=2000)(h3:acts<=8):dO [kW q rows,.int acts,.bl t]=.ok .non:=by
 unfold dO mZ kW
 have hn:=R.n
 have a1:(1:Int)<=(rows.length:Int):=by omega
 have a2:(rows.length:Int)<=2000:=by omega
 walk_at "ev: cX m7 List.length_map a1 a2 enum iI p7"
 have step:∀(p:List Dr×Nat)(done:List (List Dr×Nat))(δ:DSt),(∃a b c d:Option Sl,δ=[some (.sh (kW q rows)),some (.sh (.int acts)),some (.sh (.bl t)),a,b,c,d])->p∈rows.zipIdx ->
   ∃δ1,gT 2 (cO (gN 3) (cO (gN 4) oJ)) (D.tup [.int p.2,.lst (p.1.map q)]) δ=some δ1/\nxP (jD δ1) λδ=>∃a b c d:Option Sl,δ=[some (.sh (kW q rows)),some (.sh (.int acts)),some (.sh (.bl t)),a,b,c,d]:=by
  rintro⟨r,i⟩ done δ ⟨a,b,c,d,rfl⟩ hp
  refine⟨_,rfl,?_⟩
  have hr:=R.row r (List.fst_mem_of_mem_zipIdx hp)
  have hl:(r.length:Int)=(acts:Int):=by rw[hr.1]
  have step2:∀(p:Dr×Nat)(done:List (Dr×Nat))(δ:DSt),(∃a b:Option Sl,δ=[some (.sh (kW q rows)),some (.sh (.int acts)),some (.sh (.bl t)),some (.sh (.int i)),some (.sh (.lst (r.map q))),a,b])->p∈r.zipIdx ->
    ∃δ1,gT 2 (cO (gN 5) (cO (gN 6) oJ)) (D.tup [.int p.2,(q p.1)]) δ=some δ1/\nxP (jE δ1) λδ=>∃a b:Option Sl,δ=[some (.sh (kW q rows)),some (.sh (.int acts)),some (.sh (.bl t)),some (.sh (.int i)),some (.sh (.lst (r.map q))),a,b]:=by
   rintro⟨x,j⟩ done δ ⟨a,b,rfl⟩ hq
   refine⟨_,rfl,?_⟩
   have e:=hQ x many t (hr.2 x (List.fst_mem_of_mem_zipIdx hq))
   unfold jE
   unfold kW
   walk_at "ev: List.length_map hn e"
   exact⟨_,_,rfl⟩
  obtain⟨δ',e1,i1⟩:=Gb (λp:Dr×Nat=>D.tup [.int p.2,(q p.1)]) (λ_ δ=>∃a b:Option Sl,δ=[some (.sh (kW q rows)),some (.sh (.int acts)),some (.sh (.bl t)),some (.sh (.int i)),some (.sh (.lst (r.map q))),a,b]) r.zipIdx [] [some (.sh (kW q rows)),some (.sh (.int acts)),some (.sh (.bl t)),some (.sh (.int i)),some (.sh (.lst (r.map q))),c,d] step2 ⟨_,_,rfl⟩
  unfold jD
  walk_at "ev: cX m7 List.length_map hl enum iI p7 e1"
  obtain⟨a,b,rfl⟩:=i1
  exact⟨_,_,_,_,rfl⟩
 obtain⟨δ',e1,i1⟩:=Gb (λp:List Dr×Nat=>D.tup [.int p.2,.lst (p.1.map q)]) (λ_ δ=>∃a b c d:Option Sl,δ=[some (.sh (kW q rows)),some (.sh (.int acts)),some (.sh (.bl t)),a,b,c,d]) rows.zipIdx [] [some (.sh (kW q rows)),some (.sh (.int acts)),some (.sh (.bl t)),none,none,none,none] step ⟨_,_,_,_,rfl⟩
 unfold kW at e1
 walk_at "ev: e1"
def NameL(l:List Nat):Prop:=1<=l.length/\l.length<=8/\∀c∈l,97<=c/\c<123
theorem F_name(l:List Nat)(h:NameL l):jd [.str (ofL l)]=.ok (.bl true):=by
 unfold jd wg
 have a1:(1:Int)<=(l.length:Int):=by have:=h.1;omega
 have a2:(l.length:Int)<=8:=by have:=h.2.1;omega
 have a3:l.length<=sizeLine:=Nat.le_trans h.2.1 (by decide)
 have e:=mK (cap:=[none]) (fi:=strO (gv 0)) (fe:=qF) (δ:=[some (.sh (.str (ofL l)))]) (λc=>D.str (ofL [c])) (λ_=>D.bl true) l rfl (by have:=h.2.1;omega) (λc hc=>by
  unfold qF
  have e:=abc_in (h.2.2 c hc).1 (h.2.2 c hc).2
  show bV (o2b inD (gb 0) (kc (.str "abcdefghijklmnopqrstuvwxyz"))) [some (.sh (.str (ofL [c])))]=_
  walk_at "ev: e")
 have e2:=uo (λ_:Nat=>true) l
 walk_at "ev: eY m7 fC bB a1 a2 a3 e e2"
 simp
def ao(ns:List (List Nat)):List D:=ns.map λl=>.str (ofL l)
structure Names(ns:List (List Nat)):Prop where
 ok:∀l∈ns,NameL l
 lo:1<=ns.length
 hi:ns.length<=8
 nd:ns.Nodup
theorem F_acts(ns:List (List Nat))(N:Names ns):fP [.lst (ao ns)]=.ok .non:=by
 unfold fP jA bZ dX
 have h1:=N.lo
 have h2:=N.hi
 have a1:(1:Int)<=(ns.length:Int):=by omega
 have a2:(ns.length:Int)<=8:=by omega
 have e:=mK (cap:=[none]) (fi:=jR (gv 0)) (fe:=cj) (δ:=[some (.sh (.lst (ao ns)))]) (λl=>D.str (ofL l)) (λ_=>D.bl true) ns rfl (by omega) (λl hl=>by
  unfold cj
  have e:=F_name l (N.ok l hl)
  show oF 1 jd (aB (gv 0) aR) [some (.sh (.str (ofL l)))]=_
  walk_at "ev: e")
 have e2:=uo (λ_:List Nat=>true) ns
 have e3:ns.all (λ_=>true)=true:=by simp
 have e4:tQ (.lst (ao ns))=some (.int ns.length):=by
  unfold tQ
  have q:ao ns=(ns.map ofL).map D.str:=by unfold ao;simp
  simp only[iI,Option.bind_some,q,DP]
  rw[if_pos (by rw[List.length_map];omega),tV _ _ (by
   simp only[List.nil_append]
   exact List.pairwise_map.mpr (N.nd.imp λh q=>h (nA q)))]
  simp
 have e5:(ao ns).length=ns.length:=by simp[ao]
 walk_at "ev: cX m7 e5 a1 a2 e e2 e3 e4"
def plan(c:Nat)(ns:List (List Nat))(rows:List (List Dr)):D:=.obj c [("actions",.tup (ao ns)),("rooms",Kc rows)]
theorem F_initQ{q:Dr->D}(hq:∀(x:Dr) (many:Nat) (t:Bool),x.ok many t->bM [q x,.int many,.bl t]=.ok (.bl true))(hm:∀x,cA [q x]=.ok x.ob)(t:Bool)(many:Nat)(ns:List (List Nat))(rows:List (List Dr))(N:Names ns)(R:Rows many ns.length t rows)(h1:1<=many)(h2:many<=60):Dm t [.lst (ao ns),kW q rows]=.ok [("actions",.tup (ao ns)),("rooms",Kc rows)]:=by
 have e5:(ao ns).length=ns.length:=by simp[ao]
 have e1:=F_acts ns N
 have e2:=F_rowsQ hq many ns.length t rows R h1 (by omega) N.hi
 have hn:=R.n
 have e3:=mK (cap:=[none]) (fi:=jR (gv 2)) (fe:=jG) (δ:=[none,some (.sh (.lst (ao ns))),some (.sh (kW q rows))]) (λr:List Dr=>D.lst (r.map q)) (λr=>D.tup (r.map Dr.ob)) rows rfl (by omega) (λr hr=>by
  unfold jG
  have h8:=N.hi
  have e:=Ef hm r (by rw[(R.row r hr).1];omega)
  show oF 1 gZ (aB (gv 0) aR) [some (.sh (.lst (r.map q)))]=_
  walk_at "ev: e")
 unfold Dm yC yD yE yF
 walk_at "ev: e1 e2 e5 e3 ud Kc"
def Dr.e:Dr->D
 | .shut=>.rot [.str "shut",.non]
 | x=>x.d
theorem F_told_e(x:Dr)(many:Nat)(t:Bool)(h:x.ok many t):bM [x.e,.int many,.bl t]=.ok (.bl true):=by
 cases x with
 | shut =>
  apply vV
  unfold bM fZ Dr.e
  have lr:fC (.rot [.str "shut",.non])=some (.int 2):=rfl
  have i0:ixD (.rot [.str "shut",.non]) (.int 0)=some (.str "shut"):=rfl
  have i1:ixD (.rot [.str "shut",.non]) (.int 1)=some .non:=rfl
  walk_at "vc: dY eY m7 lr i0 i1 q31 q32 q33"
  try rfl
 | must n=>exact pD (.must n) many t h
 | may n=>exact pD (.may n) many t h
 | torn=>exact pD .torn many t h
theorem F_made_e(x:Dr):cA [x.e]=.ok x.ob:=by
 cases x with
 | shut =>
  apply vV
  unfold cA kj Dr.e
  have i0:ixD (.rot [.str "shut",.non]) (.int 0)=some (.str "shut"):=rfl
  have i1:ixD (.rot [.str "shut",.non]) (.int 1)=some .non:=rfl
  walk_at "vc: i0 i1 n3 m3 yN"
  try rfl
 | must n=>exact K6 (.must n)
 | may n=>exact K6 (.may n)
 | torn=>exact K6 .torn
structure Pl(c many:Nat)(t:Bool)(ns:List (List Nat))(rows:List (List Dr)):Prop where
 c:c=cz∨c=bU
 N:Names ns
 R:Rows many ns.length t rows
 lo:1<=many
 hi:many<=60
section
variable{c many:Nat}{t:Bool}{ns:List (List Nat)}{rows:List (List Dr)}{δ:DSt}{fo:DSt->Out D}
end
theorem rQ{α:Type}(n:Nat)(f:α->D):∀xs:List α,(∀x∈xs,dj n (f x)=true)->jC n (xs.map f)=true
 | [],_=>by simp[jC]
 | x::xs,h=>by
  rw[List.map_cons]
  simp only[jC,Bool.and_eq_true]
  exact⟨h x List.mem_cons_self,rQ n f xs λy hy=>h y (List.mem_cons_of_mem _ hy)⟩
theorem lay_d(x:Dr)(n:Nat):dj (n+1) x.d=true:=by
 cases x <;> simp[Dr.d,Dr.w,Dr.to,dj,jC,ok_must,ok_may,NQ,ok_torn]
theorem lay_rows(rows:List (List Dr)):dj 50 (kO rows)=true:=by
 show jC 49 _=true
 exact rQ 49 _ _ λr _=>by
  show jC 48 _=true
  exact rQ 48 _ _ λx _=>lay_d x 47
theorem gm(x:Int){m:Nat}(h:1<=m):∃n:Nat,x % (m:Int)=(n:Int)/\n<m:=by
 have h1:=Int.emod_nonneg x (show (m:Int)≠0 by omega)
 have h2:=Int.emod_lt_of_pos x (show (0:Int)<m by omega)
 exact⟨(x % (m:Int)).toNat,by omega,by omega⟩
theorem ixN_nat{n j:Nat}(h:j<n):ixN n (j:Int)=some j:=by
 unfold ixN
 rw[if_pos (by omega),if_pos (by omega)]
 simp
theorem run_rt{A B:DSt->Out Fl}{δ:DSt}{d:D}(h:A δ=.ok (.rt d)):((aW A B δ).bind uz).aY=.ok d:=by
 unfold aW
 rw[h]
 rfl
theorem sIf_t{t:DSt->Out Bool}{A B:DSt->Out Fl}{δ:DSt}(h:t δ=.ok true):sIf t A B δ=A δ:=by
 unfold sIf
 rw[h]
 rfl
theorem sRet_ok{f:DSt->Out D}{δ:DSt}{d:D}(h:f δ=.ok d):bC f δ=.ok (.rt d):=by
 unfold bC
 rw[h]
 rfl
theorem nodup_range{f:Nat->List Nat}{n:Nat}(h:∀i j,i<j->j<n->f i≠f j):((List.range n).map f).Nodup:=by
 refine List.pairwise_map.mpr (List.Pairwise.imp_of_mem (fun{a b} ha hb hab=>h a b hab (List.mem_range.mp hb)) List.pairwise_lt_range)
section
variable{many acts:Nat}{rows:List (List Dr)}
end
theorem add_str{a b:List Nat}(h:a.length+b.length<=100):bI (.str (ofL a)) (.str (ofL b))=some (.str (ofL (a++b))):=by
 show (if (ofL a).length+(ofL b).length<=sizeLine then some (D.str (ofL a++ofL b)) else none)=_
 rw[bB,bB,if_pos (Nat.le_trans h (by decide)),yI]
theorem o2_ok{g:D->D->Option D}{fa fb:DSt->Out D}{δ:DSt}{x y z:D}(h1:fa δ=.ok x)(h2:fb δ=.ok y)(e:g x y=some z):o2 g fa fb δ=.ok z:=by
 unfold o2
 rw[h1,Out.eX,h2,Out.eX,e]
 rfl
theorem o1_ok{g:D->Option D}{fa:DSt->Out D}{δ:DSt}{x z:D}(h1:fa δ=.ok x)(e:g x=some z):o1 g fa δ=.ok z:=by
 unfold o1
 rw[h1,Out.eX,e]
 rfl
theorem o2b_ok{g:D->D->Option Bool}{fa fb:DSt->Out D}{δ:DSt}{x y:D}{z:Bool}(h1:fa δ=.ok x)(h2:fb δ=.ok y)(e:g x y=some z):o2b g fa fb δ=.ok z:=by
 unfold o2b
 rw[h1,Out.eX,h2,Out.eX,e]
 rfl
def Ka(f:List (List Dr)):List D:=f.map λr=>D.lst (r.map Dr.d)
theorem sIf_ok{t:DSt->Out Bool}{A:DSt->Out Fl}{δ:DSt}{b:Bool}(h:t δ=.ok b):sIf t A cV δ=if b=true then A δ else .ok (.nx δ):=by
 unfold sIf
 rw[h,Out.eX]
 rfl
theorem add_ok{fa fb:DSt->Out D}{δ:DSt}{i j:Int}(h1:fa δ=.ok (.int i))(h2:fb δ=.ok (.int j)):o2 bI fa fb δ=.ok (.int (i+j)):=o2_ok h1 h2 rfl
theorem mul_ok{fa fb:DSt->Out D}{δ:DSt}{i j:Int}(h1:fa δ=.ok (.int i))(h2:fb δ=.ok (.int j))(h:iz i j):o2 lB fa fb δ=.ok (.int (i*j)):=o2_ok h1 h2 (dq h)
theorem lt_ok{fa fb:DSt->Out D}{δ:DSt}{i j:Int}(h1:fa δ=.ok (.int i))(h2:fb δ=.ok (.int j)):o2b ltD fa fb δ=.ok (decide (i<j)):=o2b_ok h1 h2 rfl
theorem run_t{t:DSt->Out Bool}{A B:DSt->Out Fl}{δ:DSt}{d:D}(h:t δ=.ok true)(h2:A δ=.ok (.rt d)):((aW (sIf t A cV) B δ).bind uz).aY=.ok d:=run_rt (by rw[sIf_t h,h2])
theorem run_f{t:DSt->Out Bool}{A B:DSt->Out Fl}{δ:DSt}{r:Out D}(h:t δ=.ok false)(h2:((B δ).bind uz).aY=r):((aW (sIf t A cV) B δ).bind uz).aY=r:=run_seq (δ':=δ) (by rw[sIf_ok h];rfl) h2
theorem eq_nilD(xs:List D)(h:dj 50 (.lst xs)=true):eqD (.lst xs) (.lst [])=some xs.isEmpty:=by
 cases xs with
 | nil=>exact eqD_refl h
 | cons x l =>
  rw[uA h (by simp[dj,jC])]
  have e:eqB (.lst (x::l)) (.lst [])=false:=by
   have q:∃p ps,toPy (.lst (x::l))=some (.list (p::ps)):=by
    obtain⟨p,e,_,_⟩:=uP (.lst (x::l)) 50 h
    have e':=e
    simp only[toPy,toPyL] at e'
    split at e'
    .cases e'
     exact⟨_,_,e⟩
    .cases e'
   obtain⟨p,ps,q⟩:=q
   unfold eqB
   rw[q]
   show PyData.eqv (.list (p::ps)) (.list [])=false
   simp[PyData.eqv,PyData.eqvAll]
  rw[e]
  rfl
theorem Jj{α:Type}(g:α->D)(xs:List α)(a:Nat):ut (xs.map g) none (some (a:Int))=(xs.take a).map g:=by
 unfold ut
 rw[List.length_map,HT.N7,HT.Kf,Nat.sub_zero,List.drop_zero,←List.map_take]
 congr 1
 rw[Nat.min_comm,←List.take_take,List.take_of_length_le (by rw[List.length_take];omega)]
theorem zb{α:Type}(g:α->D)(xs:List α)(b:Nat):ut (xs.map g) (some (b:Int)) none=(xs.drop b).map g:=by
 unfold ut
 rw[List.length_map,HT.N7,HT.Kf,←List.map_drop,←List.map_take]
 congr 1
 by_cases h:b<=xs.length
 .rw[Nat.min_eq_left h,List.take_of_length_le (by rw[List.length_drop];omega)]
 .rw[Nat.min_eq_right (by omega),List.drop_of_length_le (Nat.le_refl _),List.drop_of_length_le (by omega)]
  simp
theorem cd(x:Int){j:Int}(h:0<j)(h2:j<1073741824):CDiv x j:=⟨h,h2⟩
end K9
namespace K9
open PySem L2 MX DL
def jb(c k:Int):Int :=
 let n:=(c % 2147483647*48271+k*7919+104729) % 2147483647
 let n:=(n*n % 2147483629*16807+k*104729+11) % 2147483587
 n*n % 2147483549
theorem cJ(c k:Int)(h0:0<=k)(h1:k<=1000000):aU [.int c,.int k]=.ok (.int (jb c k)):=by
 unfold aU mX
 have m1:∀a b:Int,iz (a % 2147483647) b:=λa b=>modb a b (by decide) (by decide)
 have m2:∀a b:Int,iz (a % 2147483629) b:=λa b=>modb a b (by decide) (by decide)
 have m3:∀a b:Int,iz (a % 2147483587) b:=λa b=>modb a b (by decide) (by decide)
 have mk:∀b:Int,iz k b:=λb=>ur (by omega) (by omega)
 walk_at "ev: m1 m2 m3 mk"
 rfl
theorem yM(ns:List Int)(k:Nat)(hk:k<=1000):∃c:Int,bu [.rol (ns.map .int),.int k]=.ok (.int c):=by
 show ∃c:Int,((fY [some (.sh (.rol (ns.map .int))),some (.sh (.int k))]).bind uz).aY=.ok (.int c)
 unfold fY
 have ln:o1 fC (gb 0) [some (.sh (.rol (ns.map .int))),some (.sh (.int k))]=.ok (.int (ns.length:Nat)):=by
  rw[o1_ok (x:=.rol (ns.map .int)) (z:=.int ((ns.map D.int).length:Nat)) rfl rfl,List.length_map]
 have t:o2b ltD (gb 1) (o1 fC (gb 0)) [some (.sh (.rol (ns.map .int))),some (.sh (.int k))]=.ok (decide ((k:Int)<(ns.length:Int))):=lt_ok rfl ln
 by_cases h:k<ns.length
 .rw[decide_eq_true (by omega)] at t
  exact⟨ns[k],run_t t (sRet_ok (o2_ok (x:=.rol (ns.map .int)) (y:=.int (k:Nat)) rfl rfl (by rw[JM,fW (by rw[List.getElem?_map,List.getElem?_eq_getElem h];rfl)])))⟩
 .rw[decide_eq_false (by omega)] at t
  exact⟨(k:Int)*k+7,run_f t (run_ret (add_ok (mul_ok rfl rfl (ur (by omega) (by omega))) rfl))⟩
def numN(cell:Int)(at' k j:Nat):Int:=jb cell (4+(j:Int))+3*(k:Int)*(if ((j:Int)==(at':Int))=true then 1 else 0)
def chN(cell:Int)(at' k j:Nat):Nat:=97+(numN cell at' k j % 26).toNat
def nmN(cell:Int)(sz at' k:Nat):List Nat:=(List.range sz).map (chN cell at' k)
theorem names_ok{cell:Int}{sz at' many:Nat}(hz1:1<=sz)(hz:sz<=8)(ha:at'<sz)(h1:1<=many)(h2:many<=8):Names ((List.range many).map (nmN cell sz at')):=by
 refine⟨λl hl=>?_,by simpa using h1,by simpa using h2,nodup_range λi j ij hj e=>?_⟩
 .obtain⟨k,_,rfl⟩:=List.mem_map.mp hl
  refine⟨by simp[nmN];omega,by simp[nmN];omega,λc hc=>?_⟩
  obtain⟨j,_,rfl⟩:=List.mem_map.mp hc
  unfold chN
  have n0:0<=numN cell at' k j % 26:=Int.emod_nonneg _ (by decide)
  have n1:numN cell at' k j % 26<26:=Int.emod_lt_of_pos _ (by decide)
  omega
 .have e1:=congrArg (λl=>l[at']?) e
  simp only[nmN,List.getElem?_map,List.getElem?_range ha,Option.map_some,Option.some.injEq] at e1
  unfold chN at e1
  have n0:0<=numN cell at' i at' % 26:=Int.emod_nonneg _ (by decide)
  have n1:0<=numN cell at' j at' % 26:=Int.emod_nonneg _ (by decide)
  have q:numN cell at' i at' % 26=numN cell at' j at' % 26:=by omega
  unfold numN at q
  simp only[beq_self_eq_true,if_true,Int.mul_one] at q
  generalize jb cell (4+(at':Int))=y at q
  omega
theorem ix_of{l:List Nat}{i c:Nat}(hl:l.length<=1000)(h:l[i]?=some c):ixD (.str (ofL l)) (.int (i:Nat))=some (.str (ofL [c])):=by
 show (if (ofL l).length<=sizeLine then (atI (ofL l).cps.toList (i:Nat)).map λc=>D.str ⟨#[c]⟩ else none)=_
 rw[bB,if_pos (Nat.le_trans hl (by decide)),toL_of,fW h]
 rfl
def sgn(i:Nat):Nat:=if i<26 then 97+i else 22+i
theorem sgs:Str.ofString "abcdefghijklmnopqrstuvwxyz0123456789"=ofL ((List.range 36).map sgn):=by decide +kernel
theorem sg_at{i:Int}(h0:0<=i)(h1:i<36):ixD (.str "abcdefghijklmnopqrstuvwxyz0123456789") (.int i)=some (.str (ofL [sgn i.toNat])):=by
 obtain⟨k,rfl⟩:=Int.eq_ofNat_of_zero_le h0
 rw[sgs,ix_of (c:=sgn k) (by simp) (by rw[List.getElem?_map,List.getElem?_range (by omega)];rfl)]
 rfl
def fix8:List (List Nat):=[[109,97,121],[109,117,115,116],[97,99,116,105,111,110,115],[116,111],[114],[120],[121],[122]]
theorem fix8_eq:[D.str "may",.str "must",.str "actions",.str "to",.str "r",.str "x",.str "y",.str "z"]=ao fix8:=by
 have a1:Str.ofString "may"=ofL [109,97,121]:=by decide +kernel
 have a2:Str.ofString "must"=ofL [109,117,115,116]:=by decide +kernel
 have a3:Str.ofString "actions"=ofL [97,99,116,105,111,110,115]:=by decide +kernel
 have a4:Str.ofString "to"=ofL [116,111]:=by decide +kernel
 have a5:Str.ofString "r"=ofL [114]:=by decide +kernel
 have a6:Str.ofString "x"=ofL [120]:=by decide +kernel
 have a7:Str.ofString "y"=ofL [121]:=by decide +kernel
 have a8:Str.ofString "z"=ofL [122]:=by decide +kernel
 rw[a1,a2,a3,a4,a5,a6,a7,a8]
 rfl
theorem fix8_ok:∀l∈fix8,NameL l:=by unfold NameL;decide
theorem Ax(ns:List (List Nat))(k:Nat):ut (ao ns) none (some (k:Nat))=ao (ns.take k):=Jj _ _ _
theorem Og(cell:Int)(many:Nat)(h1:1<=many)(h2:many<=8):∃ns,dz [.int cell,.int many]=.ok (.lst (ao ns))/\Names ns/\ns.length=many:=by
 have m1:=cJ cell 1 (by decide) (by decide)
 have ma:=cJ cell 2 (by decide) (by decide)
 have mb:=cJ cell 3 (by decide) (by decide)
 obtain⟨s,es,hs⟩:=gm (jb cell 2) (m:=8) (by decide)
 simp only[Int.cast_ofNat_Int] at es
 obtain⟨a,ea,haa⟩:=gm (jb cell 3) (m:=1+s) (by omega)
 have cs:(1:Int)+(s:Int)=((1+s:Nat):Int):=by omega
 have c0:(0:Int)<((1+s:Nat):Int):=by omega
 have r1:=λPL=>rg_n (PL:=PL) (n:=many) (by omega)
 have r2:=λPL=>rg_n (PL:=PL) (n:=1+s) (by omega)
 suffices h:∃d,dz [.int cell,.int many]=.ok d/\∃ns,d=.lst (ao ns)/\Names ns/\ns.length=many by
  obtain⟨_,e,ns,rfl,h⟩:=h
  exact⟨ns,e,h⟩
 refine wQ ?_
 unfold dz jy
 (have zv0:=λi=>kE (i:=i) (c0);walk_at "vc: m1 ma es cs mb zv0 ea r1 fix8_eq Ax")
 split
 .have hl:fix8.length=8:=rfl
  refine⟨_,rfl,⟨λl hl=>fix8_ok l (List.mem_of_mem_take hl),?_,?_,(by decide:fix8.Nodup).sublist (List.take_sublist ..)⟩,?_⟩ <;> rw[List.length_take,hl] <;> omega
 generalize 1+s=sz at *
 refine mG (λk:Nat=>D.int (k:Nat)) (λdone δ=>∃x5 x6 x7,δ=[some (.sh (.int cell)),some (.sh (.int many)),some (.sh (.int (sz:Nat))),some (.sh (.int a)),some (.ol (ao (done.map (nmN cell sz a)))),x5,x6,x7]) (List.range many) ⟨_,_,_,rfl⟩ ?_ ?_
 .rintro k done rest δ e ⟨x5,x6,x7,rfl⟩
  have hk:k<many:=List.mem_range.mp (by rw[e];simp)
  have l0:=congrArg List.length e
  simp at l0
  have e0:Str.ofString ""=ofL []:=by decide +kernel
  unfold lM
  walk_at "vc: e0 r2"
  refine mG (λj:Nat=>D.int (j:Nat)) (λdn δ=>∃y7,δ=[some (.sh (.int cell)),some (.sh (.int many)),some (.sh (.int (sz:Nat))),some (.sh (.int a)),some (.ol (ao (done.map (nmN cell sz a)))),some (.sh (.int (k:Nat))),some (.sh (.str (ofL (dn.map (chN cell a k))))),y7]) (List.range sz) ⟨_,rfl⟩ ?_ ?_
  .rintro j dn rs δ e ⟨y7,rfl⟩
   have hj:j<sz:=List.mem_range.mp (by rw[e];simp)
   have l1:=congrArg List.length e
   simp at l1
   have m:=cJ cell (4+(j:Int)) (by omega) (by omega)
   have c1:iz (3*(k:Int)) (if ((j:Int)==(a:Int))=true then 1 else 0):=ur (by omega) (by omega)
   have c3:iz 3 (k:Nat):=.inl ⟨by decide,by decide⟩
   have ab:ixD (.str "abcdefghijklmnopqrstuvwxyz") (.int (numN cell a k j % 26))=some (.str (ofL [chN cell a k j])):=abc_at (Int.emod_nonneg _ (by decide)) (Int.emod_lt_of_pos _ (by decide))
   unfold numN at ab
   have sm:=add_str (a:=dn.map (chN cell a k)) (b:=[chN cell a k j]) (by simp;omega)
   unfold lN
   (have zv0:=dq c3;have zv1:=dq c1;walk_at "vc: m zv0 zv1 ab sm")
   exact⟨_,by rw[List.map_append];rfl⟩
  .rintro δ ⟨y7,rfl⟩
   have l9:(ao (done.map (nmN cell sz a))).length<16777216:=by unfold ao;simp;omega
   walk_at "vc: l9"
   exact⟨_,_,_,by unfold ao;rw[List.map_append,List.map_append];rfl⟩
 .rintro δ ⟨x5,x6,x7,rfl⟩
  walk_at "vc"
  exact⟨_,rfl,names_ok (cell:=cell) (sz:=sz) (at':=a) (by omega) (by omega) haa h1 h2,by simp⟩
theorem F_many(cell:Int):∃n:Nat,gW [.int cell]=.ok (.int n)/\1<=n/\n<=48:=by
 have m:=cJ cell 25 (by decide) (by decide)
 generalize jb cell 25=n at m
 obtain⟨u,eu,hu⟩:=gm (n / 8) (m:=40) (by decide)
 obtain⟨v,ev,hv⟩:=gm (n / 8) (m:=8) (by decide)
 simp only[Int.cast_ofNat_Int] at eu ev
 have d8:CDiv n 8:=cd n (by decide) (by decide)
 suffices h:∃d,gW [.int cell]=.ok d/\∃n:Nat,d=.int n/\1<=n/\n<=48 by
  obtain⟨_,e,n,rfl,h⟩:=h
  exact⟨n,e,h⟩
 refine wQ ?_
 unfold gW qi
 (have zv0:=lL d8;walk_at "vc: m zv0 eu ev")
 split
 .exact⟨9+u,by rw[Int.natCast_add];rfl,by omega,by omega⟩
 .exact⟨1+v,by rw[Int.natCast_add];rfl,by omega,by omega⟩
end K9
namespace K9
open PySem L2 MX DL
def dg(n:Nat):List Nat:=[48+n / 100,48+n / 10 % 10,48+n % 10]
theorem str_dg:∀k:Fin 797,Str.ofString (toString ((100+k.val:Nat):Int))=ofL (dg (100+k.val)):=by decide +kernel
theorem strD_n{n:Nat}(h1:n<797):strD (.int ((100+n:Nat):Int))=some (.str (ofL (dg (100+n)))):=by
 have:=str_dg ⟨n,h1⟩
 unfold strD
 dsimp only
 rw[if_pos (by have:=Nat.log2_le_self (100+n);show Nat.log2 (100+n)<1920;omega)]
 show some (D.str (Str.ofString (toString ((100+n:Nat):Int))))=_
 rw[this]
theorem dg_inj{n m:Nat}(h:dg n=dg m)(hn:n<1000)(hm:m<1000):n=m:=by
 unfold dg at h
 simp only[List.cons.injEq,and_true] at h
 omega
def sgR(c:Nat):Prop:=(97<=c/\c<123)∨(48<=c/\c<58)
def CQ(l:List Nat):Prop:=l.length<=8/\(∃c r,l=c::r/\97<=c/\c<123)/\∀c∈l,sgR c
structure pP(rs:List (List Nat))(many:Nat):Prop where
 n:rs.length=many
 ok:∀l∈rs,CQ l
 nd:rs.Nodup
theorem dg_ok{n c:Nat}(h:n<1000)(hc:c∈dg n):sgR c:=by
 unfold dg at hc
 simp only[List.mem_cons,List.not_mem_nil,or_false] at hc
 unfold sgR
 omega
theorem rn_dg{f n:Nat}(h:n<1000)(h1:97<=f)(h2:f<123):CQ (f::dg n):=by
 refine⟨by simp[dg],⟨f,_,rfl,h1,h2⟩,λc hc=>?_⟩
 rcases List.mem_cons.mp hc with rfl | hc
 .exact .inl ⟨h1,h2⟩
 .exact dg_ok h hc
def fix3:List (List Nat):=[[109,117,115,116],[109,97,121],[97,99,116,105,111,110,115]]
theorem fix3_eq:[D.str "must",.str "may",.str "actions"]=ao fix3:=by
 have a1:Str.ofString "may"=ofL [109,97,121]:=by decide +kernel
 have a2:Str.ofString "must"=ofL [109,117,115,116]:=by decide +kernel
 have a3:Str.ofString "actions"=ofL [97,99,116,105,111,110,115]:=by decide +kernel
 rw[a1,a2,a3]
 rfl
def rsA(many:Nat):List (List Nat):=fix3.take many++(List.range' 3 (many - 3)).map λk=>114::dg (100+13*k % 797)
theorem rsA_ok{many:Nat}(h:many<=48):pP (rsA many) many:=by
 refine⟨by simp[rsA,fix3];omega,λl hl=>?_,?_⟩
 .rcases List.mem_append.mp hl with h1 | h1
  .have h2:=List.mem_of_mem_take h1
   simp only[fix3,List.mem_cons,List.not_mem_nil,or_false] at h2
   rcases h2 with rfl | rfl | rfl <;> exact⟨by decide,⟨_,_,rfl,by decide,by decide⟩,by unfold sgR;decide⟩
  .obtain⟨k,_,rfl⟩:=List.mem_map.mp h1
   exact rn_dg (by omega) (by decide) (by decide)
 .unfold rsA
  rw[List.nodup_append]
  refine⟨(by decide:fix3.Nodup).sublist (List.take_sublist ..),?_,λa ha b hb e=>?_⟩
  .rw[List.Nodup,List.pairwise_map]
   refine List.Pairwise.imp_of_mem ?_ (List.nodup_range' ..)
   intro i j hi hj ij e
   simp only[List.cons.injEq,true_and] at e
   have:=dg_inj e (by omega) (by omega)
   have h1:=List.mem_range'.mp hi
   have h2:=List.mem_range'.mp hj
   omega
  .subst e
   have h2:=List.mem_of_mem_take ha
   obtain⟨k,_,e⟩:=List.mem_map.mp hb
   simp only[fix3,List.mem_cons,List.not_mem_nil,or_false] at h2
   rcases h2 with rfl | rfl | rfl <;> simp[dg] at e
def rs2(f:Nat)(m:Int)(many:Nat):List (List Nat):=(List.range many).map λk:Nat=>f::dg (100+((13*(k:Int)+m) % 797).toNat)
theorem rs2_ok{f many:Nat}{m:Int}(h:many<=48)(h1:97<=f)(h2:f<123):pP (rs2 f m many) many:=by
 refine⟨by simp[rs2],λl hl=>?_,?_⟩
 .obtain⟨k,_,rfl⟩:=List.mem_map.mp hl
  exact rn_dg (by omega) h1 h2
 .refine nodup_range λi j ij hj e=>?_
  simp only[List.cons.injEq,true_and] at e
  have:=dg_inj e (by omega) (by omega)
  omega
def nuR(cell:Int)(a k j:Nat):Int:=jb cell (18+(j:Int))+4*(k:Int)*(if ((j:Int)==(a:Int))=true then 1 else 0)
def nu0(cell:Int)(a k:Nat):Int:=jb cell 17+3*(k:Int)*(if ((a:Int)==0)=true then 1 else 0)
def chR(cell:Int)(a k:Nat):Nat->Nat
 | 0=>sgn (nu0 cell a k % 26).toNat
 | j=>sgn (nuR cell a k j % 36).toNat
def rs3(cell:Int)(sz a many:Nat):List (List Nat):=(List.range many).map λk=>(List.range sz).map (chR cell a k)
theorem sgn_ok{i:Nat}(h:i<36):sgR (sgn i):=by unfold sgR sgn;split <;> omega
theorem N8{i j:Nat}(hi:i<36)(hj:j<36)(h:sgn i=sgn j):i=j:=by unfold sgn at h;split at h <;> split at h <;> omega
theorem chR_ok(cell:Int)(a k j:Nat):sgR (chR cell a k j):=by
 cases j with
 | zero=>exact sgn_ok (by have:=Int.emod_nonneg (nu0 cell a k) (show (26:Int)≠0 by decide);have:=Int.emod_lt_of_pos (nu0 cell a k) (show (0:Int)<26 by decide);omega)
 | succ j=>exact sgn_ok (by have:=Int.emod_nonneg (nuR cell a k (j+1)) (show (36:Int)≠0 by decide);have:=Int.emod_lt_of_pos (nuR cell a k (j+1)) (show (0:Int)<36 by decide);omega)
theorem rs3_ok{cell:Int}{sz a many:Nat}(hm:many<=8)(h1:1<=sz)(h8:sz<=8)(ha:a<sz):pP (rs3 cell sz a many) many:=by
 refine⟨by simp[rs3],λl hl=>?_,nodup_range λi j ij hj e=>?_⟩
 .obtain⟨k,_,rfl⟩:=List.mem_map.mp hl
  refine⟨by simp;omega,?_,λc hc=>?_⟩
  .obtain⟨n,rfl⟩:∃n,sz=n+1:=⟨sz - 1,by omega⟩
   rw[List.range_succ_eq_map,List.map_cons]
   have:=Int.emod_nonneg (nu0 cell a k) (show (26:Int)≠0 by decide)
   have:=Int.emod_lt_of_pos (nu0 cell a k) (show (0:Int)<26 by decide)
   have e0:chR cell a k 0=97+(nu0 cell a k % 26).toNat:=by
    show sgn _=_
    unfold sgn
    rw[if_pos (by omega)]
   exact⟨_,_,rfl,by omega,by omega⟩
  .obtain⟨j,_,rfl⟩:=List.mem_map.mp hc
   exact chR_ok cell a k j
 .have e1:=congrArg (λl=>l[a]?) e
  simp only[List.getElem?_map,List.getElem?_range ha,Option.map_some,Option.some.injEq] at e1
  cases a with
  | zero =>
   have n0:=Int.emod_nonneg (nu0 cell 0 i) (show (26:Int)≠0 by decide)
   have n1:=Int.emod_lt_of_pos (nu0 cell 0 i) (show (0:Int)<26 by decide)
   have n2:=Int.emod_nonneg (nu0 cell 0 j) (show (26:Int)≠0 by decide)
   have n3:=Int.emod_lt_of_pos (nu0 cell 0 j) (show (0:Int)<26 by decide)
   have q:=N8 (by omega) (by omega) e1
   unfold nu0 at q n0 n2
   simp only[Int.natCast_zero,beq_self_eq_true,if_true,Int.mul_one] at q n0 n2
   generalize jb cell 17=y at q n0 n2
   omega
  | succ a =>
   have n0:=Int.emod_nonneg (nuR cell (a+1) i (a+1)) (show (36:Int)≠0 by decide)
   have n1:=Int.emod_lt_of_pos (nuR cell (a+1) i (a+1)) (show (0:Int)<36 by decide)
   have n2:=Int.emod_nonneg (nuR cell (a+1) j (a+1)) (show (36:Int)≠0 by decide)
   have n3:=Int.emod_lt_of_pos (nuR cell (a+1) j (a+1)) (show (0:Int)<36 by decide)
   have q:=N8 (by omega) (by omega) e1
   unfold nuR at q n0 n2
   simp only[beq_self_eq_true,if_true,Int.mul_one] at q n0 n2
   generalize jb cell (18+((a+1:Nat):Int))=y at q n0 n2
   omega
end K9
namespace K9
open PySem L2 MX DL
theorem io{p q A B:Prop}[Decidable p][Decidable q](h1:p∨q->A)(h2:¬p->¬q->B):if p then A else if q then A else B:=by
 by_cases hp:p
 .rw[if_pos hp];exact h1 (.inl hp)
 .rw[if_neg hp]
  by_cases hq:q
  .rw[if_pos hq];exact h1 (.inr hq)
  .rw[if_neg hq];exact h2 hp hq
theorem F_rooms(cell:Int)(many:Nat)(h1:1<=many)(h2:many<=48):∃rs,fM [.int cell,.int many]=.ok (.lst (ao rs))/\pP rs many:=by
 have m12:=cJ cell 12 (by decide) (by decide)
 have m13:=cJ cell 13 (by decide) (by decide)
 have m14:=cJ cell 14 (by decide) (by decide)
 have m15:=cJ cell 15 (by decide) (by decide)
 have m16:=cJ cell 16 (by decide) (by decide)
 have m17:=cJ cell 17 (by decide) (by decide)
 obtain⟨f,ef,hf⟩:=gm (jb cell 12) (m:=26) (by decide)
 obtain⟨s,es,hs⟩:=gm (jb cell 15) (m:=8) (by decide)
 simp only[Int.cast_ofNat_Int] at es ef
 obtain⟨a,ea,haa⟩:=gm (jb cell 16) (m:=1+s) (by omega)
 have cs:(1:Int)+(s:Int)=((1+s:Nat):Int):=by omega
 have c0:(0:Int)<((1+s:Nat):Int):=by omega
 have r1:=λPL=>rg_n (PL:=PL) (n:=many) (by omega)
 have r3:∀PL,rg2P (.int 3) (.int (many:Nat)) PL↔_:=λPL=>rg2_n (PL:=PL) (a:=3) (b:=many) (by decide) (by omega)
 have r2:∀PL,rg2P (.int 1) (.int ((1+s:Nat):Int)) PL↔_:=λPL=>rg2_n (PL:=PL) (a:=1) (b:=1+s) (by decide) (by omega)
 have f1:ixD (.str "abcdefghijklmnopqrstuvwxyz0123456789") (.int (f:Nat))=some (.str (ofL [97+f])):=by
  rw[sg_at (by omega) (by omega)]
  show some (D.str (ofL [sgn f]))=_
  unfold sgn
  rw[if_pos (by omega)]
 have er:Str.ofString "r"=ofL [114]:=by decide +kernel
 suffices h:∃d,fM [.int cell,.int many]=.ok d/\∃rs,d=.lst (ao rs)/\pP rs many by
  obtain⟨_,e,rs,rfl,h⟩:=h
  exact⟨rs,e,h⟩
 refine wQ ?_
 unfold fM mY
 walk_at "vc: m12 ef f1 m13 fix3_eq Ax W_rng2 r3"
 split
 .refine⟨by simp;omega,W_of (lK (λk:Nat=>D.int (k:Nat)) (λk:Nat=>D.str (ofL (114::dg (100+13*k % 797)))) _ _ λk hk=>?_) ⟨by unfold ao;simp[fix3];omega,rsA many,by unfold rsA ao;rw[List.map_append,List.map_map];rfl,rsA_ok h2⟩⟩
  apply vV
  have ck:iz 13 (k:Nat):=.inl ⟨by decide,by decide⟩
  have ek:(100:Int)+13*(k:Nat) % 797=((100+13*k % 797:Nat):Int):=by omega
  have sd:=strD_n (n:=13*k % 797) (by omega)
  have ad:=add_str (a:=[114]) (b:=dg (100+13*k % 797)) (by simp[dg])
  unfold qD
  (have zv0:=dq ck;walk_at "vc: vZ zv0 ek sd er ad")
 refine io (λ_=>?_) λh8 _=>?_
 .rw[r1]
  refine⟨by simp;omega,W_of (lK (λk:Nat=>D.int (k:Nat)) (λk:Nat=>D.str (ofL ((97+f)::dg (100+((13*(k:Int)+jb cell 14) % 797).toNat)))) _ _ λk hk=>?_) ⟨rs2 (97+f) (jb cell 14) many,by unfold rs2 ao;rw[List.map_map];rfl,rs2_ok h2 (by omega) (by omega)⟩⟩
  apply vV
  have ck:iz 13 (k:Nat):=.inl ⟨by decide,by decide⟩
  have n0:=Int.emod_nonneg (13*(k:Int)+jb cell 14) (show (797:Int)≠0 by decide)
  have n1:=Int.emod_lt_of_pos (13*(k:Int)+jb cell 14) (show (0:Int)<797 by decide)
  have ek:(100:Int)+(13*(k:Nat)+jb cell 14) % 797=((100+((13*(k:Int)+jb cell 14) % 797).toNat:Nat):Int):=by omega
  have sd:=strD_n (n:=((13*(k:Int)+jb cell 14) % 797).toNat) (by omega)
  have ad:=add_str (a:=[97+f]) (b:=dg (100+((13*(k:Int)+jb cell 14) % 797).toNat)) (by simp[dg])
  unfold qG
  (have zv0:=dq ck;walk_at "vc: vZ zv0 m14 ek sd ad")
 (have zv0:=λi=>kE (i:=i) (c0);walk_at "vc: m15 es cs m16 zv0 ea r1")
 have hm8:many<=8:=by omega
 generalize 1+s=sz at *
 refine mG (λk:Nat=>D.int (k:Nat)) (λdone δ=>∃x7 x8 x9,δ=[some (.sh (.int cell)),some (.sh (.int many)),some (.sh (.str "abcdefghijklmnopqrstuvwxyz0123456789")),some (.sh (.str (ofL [97+f]))),some (.sh (.int (sz:Nat))),some (.sh (.int a)),some (.ol (ao (done.map λk=>(List.range sz).map (chR cell a k)))),x7,x8,x9]) (List.range many) ⟨_,_,_,rfl⟩ ?_ ?_
 .rintro k done rest δ e ⟨x7,x8,x9,rfl⟩
  have hk:k<many:=List.mem_range.mp (by rw[e];simp)
  have l0:=congrArg List.length e
  simp at l0
  have c3:iz 3 (k:Nat):=.inl ⟨by decide,by decide⟩
  have c4:iz 4 (k:Nat):=.inl ⟨by decide,by decide⟩
  have c1:iz (3*(k:Int)) (if ((a:Int)==0)=true then 1 else 0):=ur (by omega) (by omega)
  have g0:ixD (.str "abcdefghijklmnopqrstuvwxyz0123456789") (.int (nu0 cell a k % 26))=some (.str (ofL [chR cell a k 0])):=sg_at (Int.emod_nonneg _ (by decide)) (Int.lt_of_lt_of_le (Int.emod_lt_of_pos _ (by decide)) (by decide))
  unfold nu0 at g0
  unfold qy
  (have zv0:=dq c3;have zv1:=dq c1;walk_at "vc: m17 zv0 zv1 g0 W_rng2 r2")
  refine mG (λj:Nat=>D.int (j:Nat)) (λdn δ=>∃y9,δ=[some (.sh (.int cell)),some (.sh (.int many)),some (.sh (.str "abcdefghijklmnopqrstuvwxyz0123456789")),some (.sh (.str (ofL [97+f]))),some (.sh (.int (sz:Nat))),some (.sh (.int a)),some (.ol (ao (done.map λk=>(List.range sz).map (chR cell a k)))),some (.sh (.int (k:Nat))),some (.sh (.str (ofL ((0::dn).map (chR cell a k))))),y9]) (List.range' 1 (sz - 1)) ⟨_,rfl⟩ ?_ ?_
  .rintro j dn rs δ e ⟨y9,rfl⟩
   have hj:=List.mem_range'.mp (show j∈List.range' 1 (sz - 1) by rw[e];simp)
   have l1:=congrArg List.length e
   simp at l1
   obtain⟨j',rfl⟩:∃j',j=j'+1:=⟨j - 1,by omega⟩
   have m:=cJ cell (18+((j'+1:Nat):Int)) (by omega) (by omega)
   have c1:iz (4*(k:Int)) (if (((j'+1:Nat):Int)==(a:Int))=true then 1 else 0):=ur (by omega) (by omega)
   have gj:ixD (.str "abcdefghijklmnopqrstuvwxyz0123456789") (.int (nuR cell a k (j'+1) % 36))=some (.str (ofL [chR cell a k (j'+1)])):=sg_at (Int.emod_nonneg _ (by decide)) (Int.emod_lt_of_pos _ (by decide))
   unfold nuR at gj
   have sm:=add_str (a:=(0::dn).map (chR cell a k)) (b:=[chR cell a k (j'+1)]) (by simp;omega)
   unfold qz
   (have zv0:=dq c4;have zv1:=dq c1;walk_at "vc: m zv0 zv1 gj")
   refine W_of (by rw[←List.map_cons,sm];rfl) ⟨_,by rw[List.map_append];rfl⟩
  .rintro δ ⟨y9,rfl⟩
   have l9:(ao (done.map λk=>(List.range sz).map (chR cell a k))).length<16777216:=by unfold ao;simp;omega
   have er:0::List.range' 1 (sz - 1)=List.range sz:=by
    obtain⟨n,rfl⟩:∃n,sz=n+1:=⟨sz - 1,by omega⟩
    rw[List.range_eq_range',List.range'_succ]
    rfl
   rw[er]
   walk_at "vc: l9"
   exact⟨_,_,_,by unfold ao;rw[List.map_append,List.map_append];rfl⟩
 .rintro δ ⟨x7,x8,x9,rfl⟩
  walk_at "vc"
  exact⟨rs3 cell sz a many,rfl,rs3_ok hm8 (by omega) (by omega) haa⟩
end K9
namespace K9
open PySem L2 MX DL
theorem len_rows{m acts:Nat}{t:Bool}{rows:List (List Dr)}(R:Rows m acts t rows):fC (kO rows)=some (.int (m:Nat)):=by unfold kO;rw[zX,List.length_map,R.n]
theorem ix_rows{rows:List (List Dr)}{i:Nat}{xs:List Dr}(h:rows[i]?=some xs):ixD (kO rows) (.int (i:Nat))=some (.lst (xs.map Dr.d)):=by unfold kO;rw[xm];exact fW (by rw[List.getElem?_map,h];rfl)
theorem ix_row{xs:List Dr}{a:Nat}{x:Dr}(h:xs[a]?=some x):ixD (.lst (xs.map Dr.d)) (.int (a:Nat))=some (.tup [.str x.w,x.to]):=by rw[xm];exact fW (by rw[List.getElem?_map,h];rfl)
theorem three{u:Nat}(h:u<3):u=0∨u=1∨u=2:=by omega
def ROk(rooms many:Nat)(r:List Dr):Prop:=r.length=many/\∀x∈r,x.ok rooms false
theorem F_rowsL(ns:List Int){rooms many:Nat}(hr:1<=rooms)(hr8:rooms<=48)(hm:many<=8):∃rows,gY [.rol (ns.map .int),.int rooms,.int many]=.ok (kO rows)/\Rows rooms many false rows:=by
 have r1:=λPL=>rg_n (PL:=PL) (n:=rooms) (by omega)
 have r2:=λPL=>rg_n (PL:=PL) (n:=many) (by omega)
 suffices h:∃d,gY [.rol (ns.map .int),.int rooms,.int many]=.ok d/\∃rows,d=kO rows/\Rows rooms many false rows by
  obtain⟨_,e,rows,rfl,h⟩:=h
  exact⟨rows,e,h⟩
 refine wQ ?_
 unfold gY qj
 walk_at "vc: r1"
 refine Ln (ROk rooms many) (λf δ=>∃x4 x5 x6 x7 x8,δ=[some (.sh (.rol (ns.map .int))),some (.sh (.int rooms)),some (.sh (.int many)),some (.ol (Ka f)),x4,x5,x6,x7,x8]) rooms ⟨_,_,_,_,_,rfl⟩ ?_ ?_
 .rintro i f δ hi hf _ ⟨x4,x5,x6,x7,x8,rfl⟩
  unfold sY
  obtain⟨c,ec⟩:=yM ns (3+i) (by omega)
  rw[Int.natCast_add] at ec
  simp only[Int.cast_ofNat_Int] at ec
  walk_at "vc: ec r2"
  refine Ln (λx:Dr=>x.ok rooms false) (λr δ=>∃y7 y8,δ=[some (.sh (.rol (ns.map .int))),some (.sh (.int rooms)),some (.sh (.int many)),some (.ol (Ka f)),some (.sh (.int i)),some (.sh (.int c)),some (.ol (r.map Dr.d)),y7,y8]) many ⟨_,_,rfl⟩ ?_ ?_
  .rintro a r δ ha hl _ ⟨y7,y8,rfl⟩
   have m:=cJ c (30+9*((i:Int) % 7)+(a:Int)) (by omega) (by omega)
   generalize jb c (30+9*((i:Int) % 7)+(a:Int))=n at m
   obtain⟨t,et,ht⟩:=gm (n / 3) (m:=rooms) hr
   obtain⟨u,eu,hu⟩:=gm n (m:=3) (by decide)
   simp only[Int.cast_ofNat_Int] at eu
   have cr:(0:Int)<(rooms:Nat):=by omega
   have c9:iz 9 ((i:Int) % 7):=.inl ⟨by decide,by decide⟩
   have cd3:CDiv n 3:=cd n (by decide) (by decide)
   have l9:r.length<16777216:=by omega
   unfold sZ
   (have zv0:=dq c9;have zv1:=lL cd3;have zv2:=λi=>kE (i:=i) (cr);walk_at "vc: zv0 m zv1 zv2 et eu List.length_map")
   rcases three hu with rfl | rfl | rfl
   all_goals simp only[Int.cast_ofNat_Int,Int.natCast_zero,Int.natCast_one]
   .walk_at "vc: l9";exact⟨.must t,ht,_,_,by rw[List.map_append];rfl⟩
   .walk_at "vc: l9";exact⟨.may t,ht,_,_,by rw[List.map_append];rfl⟩
   .walk_at "vc: l9";exact⟨.shut,trivial,_,_,by rw[List.map_append];rfl⟩
  .rintro r δ hl hx ⟨y7,y8,rfl⟩
   have l9:(Ka f).length<16777216:=by unfold Ka;rw[List.length_map];omega
   walk_at "vc: l9"
   exact⟨r,⟨hl,hx⟩,_,_,_,_,_,by unfold Ka;rw[List.map_append];rfl⟩
 .rintro f δ hf hx ⟨x4,x5,x6,x7,x8,rfl⟩
  walk_at "vc"
  exact⟨f,rfl,hf,hx⟩
theorem t_sp:Str.ofString " "=ofL [32]:=by decide +kernel
theorem t_cs:Str.ofString ", "=ofL [44,32]:=by decide +kernel
theorem t_co:Str.ofString ":"=ofL [58]:=by decide +kernel
theorem t_cb:Str.ofString ": "=ofL [58,32]:=by decide +kernel
theorem t_nl:Str.ofString "\n"=ofL [10]:=by decide +kernel
theorem t_ac:Str.ofString "actions"=ofL [97,99,116,105,111,110,115]:=by decide +kernel
theorem t_ab:Str.ofString "actions "=ofL [97,99,116,105,111,110,115,32]:=by decide +kernel
theorem t_mu:Str.ofString "must"=ofL [109,117,115,116]:=by decide +kernel
theorem t_ma:Str.ofString "may"=ofL [109,97,121]:=by decide +kernel
theorem t_em:Str.ofString ""=ofL []:=by decide +kernel
theorem wR{a b:List Nat}(h:a.length+b.length<=16777216):bI (.str (ofL a)) (.str (ofL b))=some (.str (ofL (a++b))):=by
 show (if (ofL a).length+(ofL b).length<=sizeLine then some (D.str (ofL a++ofL b)) else none)=_
 rw[bB,bB,if_pos (by rw[sizeLine_eq];exact h),yI]
theorem uc:∀ts:List (List Nat),lV (ao ts)=some (ts.map ofL)
 | []=>rfl
 | t::ts=>by
  show (lV (ao ts)).map _=_
  rw[uc ts]
  rfl
theorem LR{s:List Nat}{ts:List (List Nat)}(h:(ts.map List.length).sum+ts.length*s.length<=16777216):uO (ofL s) (.lst (ao ts))=some (.str (ofL (jn s ts))):=by
 unfold uO
 show (lV (ao ts)).bind _=_
 rw[uc]
 show (if ((ts.map ofL).map (·.length)).sum+(ts.map ofL).length*(ofL s).length<=16777216 then some (D.str (Txt.join (ofL s) (ts.map ofL))) else none)=_
 rw[if_pos (by rw[List.map_map,List.length_map,bB,show ((λx:Str=>x.length)∘ofL)=List.length from funext bB];exact h),txt_jn]
theorem oh{B:Nat}:∀{ts:List (List Nat)},(∀t∈ts,t.length<=B)->(ts.map List.length).sum<=ts.length*B
 | [],_=>Nat.zero_le _
 | t::ts,h=>by
  have h1:=h t List.mem_cons_self
  have h2:=oh λx hx=>h x (List.mem_cons_of_mem _ hx)
  simp only[List.map_cons,List.sum_cons,List.length_cons,Nat.succ_mul]
  omega
theorem xn(s:List Nat):∀ts:List (List Nat),(jn s ts).length<=(ts.map List.length).sum+ts.length*s.length
 | []=>Nat.zero_le _
 | [t]=>by simp[jn]
 | t::u::ts=>by
  have:=xn s (u::ts)
  rw[m8]
  simp only[List.length_append,List.map_cons,List.sum_cons,List.length_cons,Nat.succ_mul] at this ⊢
  omega
theorem lay_s{l:List Nat}(n:Nat)(h:∀c∈l,c<1000):dj n (.str (ofL l))=true:=by
 have e:PyData.strOk (ofL l)=true:=by
  unfold PyData.strOk ofL
  simp only[List.all_toArray,List.all_eq_true,decide_eq_true_eq]
  exact λc hc=>Nat.lt_trans (h c hc) (by decide)
 cases n <;> exact e
theorem lay_ss{ts:List (List Nat)}(h:∀t∈ts,∀c∈t,c<1000):dj 50 (.lst (ao ts))=true:=by
 show jC 49 _=true
 exact rQ 49 _ _ λt ht=>lay_s 49 (h t ht)
end K9
namespace K9
open PySem L2 MX DL
def Dr.wl:Dr->List Nat
 | .must _=>[109,117,115,116]
 | _=>[109,97,121]
def Dr.tn:Dr->Nat
 | .must n=>n
 | .may n=>n
 | _=>0
def tells(row:List Dr):List Nat:=(List.range row.length).filter λa=>alw (row.getD a .shut)
def tx(acts rs:List (List Nat))(row:List Dr)(a:Nat):List Nat:=acts.getD a []++[32]++(row.getD a .shut).wl++[32]++rs.getD (row.getD a .shut).tn []
def zY(name:List Nat)(ts:List (List Nat)):List Nat:=if ts.isEmpty then name++[58] else name++[58,32]++jn [44,32] ts
theorem alw_w{x:Dr}(h:alw x=true):D.str x.w=.str (ofL x.wl)/\x.to=.int (x.tn:Nat):=by
 cases x with
 | must n=>exact⟨congrArg D.str t_mu,rfl⟩
 | may n=>exact⟨congrArg D.str t_ma,rfl⟩
 | shut=>cases h
 | torn=>cases h
theorem ne_shut{x:Dr}{many:Nat}(h:x.ok many false):neD (.str x.w) (.str "shut")=some (alw x):=by
 unfold neD
 cases x with
 | must n=>rw[show eqD (.str (Dr.must n).w) (.str "shut")=some false from q13];rfl
 | may n=>rw[show eqD (.str (Dr.may n).w) (.str "shut")=some false from q23];rfl
 | shut=>rw[show eqD (.str Dr.shut.w) (.str "shut")=some true from q33];rfl
 | torn=>cases h
theorem Jc{ns:List (List Nat)}{i:Nat}{l:List Nat}(h:ns[i]?=some l):atI (ao ns) (i:Nat)=some (.str (ofL l)):=fW (by unfold ao;rw[List.getElem?_map,h];rfl)
theorem ix_names{ns:List (List Nat)}{i:Nat}{l:List Nat}(h:ns[i]?=some l):ixD (.lst (ao ns)) (.int (i:Nat))=some (.str (ofL l)):=by rw[xm];exact fW (by unfold ao;rw[List.getElem?_map,h];rfl)
theorem tn_lt{x:Dr}{many:Nat}(h:x.ok many false)(a:alw x=true):x.tn<many:=by
 cases x with
 | must n=>exact h
 | may n=>exact h
 | shut=>cases a
 | torn=>cases a
structure In(acts rs:List (List Nat))(many:Nat)(row:List Dr):Prop where
 N:Names acts
 R:pP rs many
 l:row.length=acts.length
 ok:∀x∈row,x.ok many false
theorem wl_le(x:Dr):x.wl.length<=4:=by cases x <;> simp[Dr.wl]
theorem In.tx_le{acts rs:List (List Nat)}{many:Nat}{row:List Dr}(I:In acts rs many row)(a:Nat):(tx acts rs row a).length<=22:=by
 have h1:(acts.getD a []).length<=8:=by
  rw[List.getD_eq_getElem?_getD]
  cases h:acts[a]? with
  | none=>exact Nat.zero_le _
  | some l=>exact(I.N.ok l (List.mem_of_getElem? h)).2.1
 have h2:(rs.getD (row.getD a .shut).tn []).length<=8:=by
  rw[List.getD_eq_getElem?_getD]
  cases h:rs[(row.getD a .shut).tn]? with
  | none=>exact Nat.zero_le _
  | some l=>exact(I.R.ok l (List.mem_of_getElem? h)).1
 have h3:=wl_le (row.getD a .shut)
 unfold tx
 simp only[List.length_append,List.length_singleton]
 omega
theorem Ay(row:List Dr):(tells row).length<=row.length:=Nat.le_trans (List.length_filter_le ..) (by simp)
theorem Oq{γ:Type}(g:γ->List Nat)(xs:List γ)(k:Nat):ut (ao (xs.map g)) (some (k:Nat)) none=ao ((xs.drop k).map g)/\ut (ao (xs.map g)) none (some (k:Nat))=ao ((xs.take k).map g):=by
 constructor
 .unfold ao
  rw[List.map_map,zb,List.map_map]
 .unfold ao
  rw[List.map_map,Jj,List.map_map]
theorem In.tx_ch{acts rs:List (List Nat)}{many:Nat}{row:List Dr}(I:In acts rs many row)(a:Nat):∀c∈tx acts rs row a,c<123/\c≠44/\c≠58/\c≠10:=by
 intro c hc
 unfold tx at hc
 simp only[List.mem_append,List.mem_singleton] at hc
 have h1:∀l∈acts,∀c∈l,97<=c/\c<123:=λl hl=>(I.N.ok l hl).2.2
 have h2:∀l∈rs,∀c∈l,sgR c:=λl hl=>(I.R.ok l hl).2.2
 have h3:∀x:Dr,∀c∈x.wl,97<=c/\c<123:=λx=>by cases x <;> simp[Dr.wl]
 have gd:∀(ls:List (List Nat))(i:Nat),c∈ls.getD i []->∃l∈ls,c∈l:=λls i h=>by
  rw[List.getD_eq_getElem?_getD] at h
  cases e:ls[i]? with
  | none=>rw[e] at h;cases h
  | some l=>rw[e] at h;exact⟨l,List.mem_of_getElem? e,h⟩
 rcases hc with (((h | h) | h) | h) | h
 .obtain⟨l,hl,h⟩:=gd _ _ h
  have:=h1 l hl c h
  omega
 .omega
 .have:=h3 _ c h
  omega
 .omega
 .obtain⟨l,hl,h⟩:=gd _ _ h
  have:=h2 l hl c h
  unfold sgR at this
  omega
def Ld(acts rs:List (List Nat))(row:List Dr)(name:List Nat)(d:D):Prop:=∃os:List Nat,os.Perm (tells row)/\d=.str (ofL (zY name (os.map (tx acts rs row))))
theorem JQ{acts rs:List (List Nat)}{many:Nat}{row:List Dr}(I:In acts rs many row){name:List Nat}(hn:name.length<=8){os:List Nat}(p:os.Perm (tells row)){L:List D}(eL:L=ao (os.map (tx acts rs row))):
  W (Out.opt (eqD (.lst L) (.lst []))) λk=>if k=true then W (Out.opt (bI (.str (ofL name)) (.str (ofL [58])))) (Ld acts rs row name) else W (Out.opt (bI (.str (ofL name)) (.str (ofL [58,32])))) λx=>W (Out.opt (uO (ofL [44,32]) (.lst L))) λy=>W (Out.opt (bI x y)) (Ld acts rs row name):=by
 subst eL
 have lo:os.length<=8:=by
  have h1:=p.length_eq
  have h2:=Ay row
  have h3:=I.N.hi
  have h4:=I.l
  omega
 have sl:((os.map (tx acts rs row)).map List.length).sum<=(os.map (tx acts rs row)).length*22:=oh λt ht=>by
  obtain⟨a,_,rfl⟩:=List.mem_map.mp ht
  exact I.tx_le a
 rw[List.length_map] at sl
 have jl:=xn [44,32] (os.map (tx acts rs row))
 rw[List.length_map] at jl
 simp only[List.length_cons,List.length_nil,Nat.zero_add] at jl
 have k1:bI (.str (ofL name)) (.str (ofL [58]))=_:=wR (by simp;omega)
 have k2:bI (.str (ofL name)) (.str (ofL [58,32]))=_:=wR (by simp;omega)
 have k3:uO (ofL [44,32]) (.lst (ao (os.map (tx acts rs row))))=_:=LR (by rw[List.length_map];simp only[List.length_cons,List.length_nil,Nat.zero_add];omega)
 have k4:bI (.str (ofL (name++[58,32]))) (.str (ofL (jn [44,32] (os.map (tx acts rs row)))))=_:=wR (by simp only[List.length_append,List.length_cons,List.length_nil,Nat.zero_add];omega)
 rw[eq_nilD _ (lay_ss λt ht c hc=>by obtain⟨a,_,rfl⟩:=List.mem_map.mp ht;have:=(I.tx_ch a c hc).1;omega),k1,k2,k3]
 cases os with
 | nil=>exact⟨[],p,rfl⟩
 | cons o os =>
  show W (Out.opt (bI (.str (ofL (name++[58,32]))) (.str (ofL (jn [44,32] ((o::os).map (tx acts rs row))))))) _
  rw[k4]
  exact⟨o::os,p,rfl⟩
theorem F_line{acts rs:List (List Nat)}{many:Nat}{row:List Dr}(I:In acts rs many row){name:List Nat}(hn:name.length<=8)(cell:Int):∃os:List Nat,os.Perm (tells row)/\gU [.str (ofL name),.lst (row.map Dr.d),.lst (ao acts),.lst (ao rs),.int cell]=.ok (.str (ofL (zY name (os.map (tx acts rs row))))):=by
 have h8:=I.N.hi
 have hl:=I.l
 have r1:=λPL=>rg_n (PL:=PL) (n:=acts.length) (by omega)
 have ln:(ao acts).length=acts.length:=by simp[ao]
 have m26:=cJ cell 26 (by decide) (by decide)
 have m27:=cJ cell 27 (by decide) (by decide)
 suffices h:∃d,gU [.str (ofL name),.lst (row.map Dr.d),.lst (ao acts),.lst (ao rs),.int cell]=.ok d/\Ld acts rs row name d by
  obtain⟨_,e,os,p,rfl⟩:=h
  exact⟨os,p,e⟩
 refine wQ ?_
 unfold gU qg
 walk_at "vc: ln r1"
 refine mG (λa:Nat=>D.int (a:Nat)) (λdone δ=>∃x6 x7 x8,δ=[some (.sh (.str (ofL name))),some (.sh (.lst (row.map Dr.d))),some (.sh (.lst (ao acts))),some (.sh (.lst (ao rs))),some (.sh (.int cell)),some (.ol (ao ((done.filter λa=>alw (row.getD a .shut)).map (tx acts rs row)))),x6,x7,x8,none]) (List.range acts.length) ⟨_,_,_,rfl⟩ ?_ ?_
 .rintro a done rest δ e ⟨x6,x7,x8,rfl⟩
  have ha:a<acts.length:=List.mem_range.mp (by rw[e];simp)
  have l0:=congrArg List.length e
  simp at l0
  have ex:=List.getElem?_eq_getElem (show a<row.length by omega)
  have okx:=I.ok _ (List.getElem_mem (show a<row.length by omega))
  have gx:row.getD a .shut=row[a]'(by omega):=by rw[List.getD_eq_getElem?_getD,ex];rfl
  have ea:=List.getElem?_eq_getElem ha
  have ga:acts.getD a []=acts[a]:=by rw[List.getD_eq_getElem?_getD,ea];rfl
  have la:=(I.N.ok _ (List.getElem_mem ha)).2.1
  generalize hx:row[a]'(by omega)=x at ex okx gx
  generalize hac:acts[a]=ac at ea ga la
  unfold sX
  (have zv0:=ix_row ex;have zv1:=ne_shut okx;walk_at "vc: zv0 zv1")
  cases al:alw x with
  | false =>
   have fe:(done++[a]).filter (λa=>alw (row.getD a .shut))=done.filter λa=>alw (row.getD a .shut):=by rw[List.filter_append,show ([a].filter λa=>alw (row.getD a .shut))=[] by simp only[List.filter_cons,gx,al];rfl,List.append_nil]
   exact⟨_,_,_,by rw[fe]⟩
  | true =>
   obtain⟨w1,w2⟩:=alw_w al
   have ht:=tn_lt okx al
   have er:=List.getElem?_eq_getElem (show x.tn<rs.length by rw[I.R.n];exact ht)
   have gr:rs.getD x.tn []=rs[x.tn]'(by rw[I.R.n];exact ht):=by rw[List.getD_eq_getElem?_getD,er];rfl
   have lr:=(I.R.ok _ (List.getElem_mem (show x.tn<rs.length by rw[I.R.n];exact ht))).1
   generalize rs[x.tn]'(by rw[I.R.n];exact ht)=rn at er gr lr
   have lw:=wl_le x
   have k1:bI (.str (ofL ac)) (.str (ofL [32]))=_:=wR (by simp;omega)
   have k2:bI (.str (ofL (ac++[32]))) (.str (ofL x.wl))=_:=wR (by simp;omega)
   have k3:bI (.str (ofL (ac++[32]++x.wl))) (.str (ofL [32]))=_:=wR (by simp;omega)
   have k4:bI (.str (ofL (ac++[32]++x.wl++[32]))) (.str (ofL rn))=_:=wR (by simp;omega)
   have l9:(ao ((done.filter λa=>alw (row.getD a .shut)).map (tx acts rs row))).length<16777216:=by
    have:=List.length_filter_le (λa=>alw (row.getD a .shut)) done
    simp only[ao,List.length_map]
    omega
   rw[if_pos rfl,w1,w2]
   (have zv0:=Jc ea;have zv1:=Jc er;walk_at "vc-List.append_assoc: zv0 t_sp zv1 k1 k2 k3 k4 l9")
   have fe:ao (((done++[a]).filter λa=>alw (row.getD a .shut)).map (tx acts rs row))=ao ((done.filter λa=>alw (row.getD a .shut)).map (tx acts rs row))++[.str (ofL (ac++[32]++x.wl++[32]++rn))]:=by
    rw[List.filter_append,show ([a].filter λa=>alw (row.getD a .shut))=[a] by simp only[List.filter_cons,gx,al];rfl]
    unfold ao
    rw[List.map_append,List.map_append,List.map_cons,List.map_nil,List.map_cons,List.map_nil]
    unfold tx
    rw[ga,gx,gr]
   exact⟨_,_,_,by rw[fe]⟩
 .rintro δ ⟨x6,x7,x8,rfl⟩
  have et:(List.range acts.length).filter (λa=>alw (row.getD a .shut))=tells row:=by unfold tells;rw[hl]
  rw[et]
  have lt:(ao ((tells row).map (tx acts rs row))).length=(tells row).length:=by simp[ao]
  have tl:=Ay row
  obtain⟨u,eu,hu⟩:=gm (jb cell 26) (m:=(tells row).length+1) (by omega)
  rw[Int.natCast_add] at eu
  simp only[Int.cast_ofNat_Int] at eu
  have c0:(0:Int)<((tells row).length:Nat)+1:=by omega
  obtain⟨d1,d2⟩:=Oq (tx acts rs row) (tells row) u
  have en:ao (((tells row).drop u).map (tx acts rs row))++ao (((tells row).take u).map (tx acts rs row))=ao (((tells row).drop u++(tells row).take u).map (tx acts rs row)):=by unfold ao;rw[List.map_append,List.map_append]
  have pm:((tells row).drop u++(tells row).take u).Perm (tells row):=List.perm_append_comm.trans (by rw[List.take_append_drop])
  (have zv0:=λi=>kE (i:=i) (c0);walk_at "vc: lt m26 zv0 eu W_catL d1 d2 m27 Ew tx_s t_cs t_co t_cb")
  refine⟨_,_,rfl,rfl,by simp[ao];omega,?_⟩
  rw[en]
  split
  .exact JQ I hn ((List.reverse_perm _).trans pm) (by unfold ao;rw[List.map_reverse,List.map_reverse])
  .exact JQ I hn pm rfl
end K9
namespace K9
open PySem L2 MX DL
def bK(acts:List (List Nat)):List Nat:=jn [32] ([97,99,116,105,111,110,115]::acts)
theorem head_eq{acts:List (List Nat)}(h:1<=acts.length):[97,99,116,105,111,110,115,32]++jn [32] acts=bK acts:=by
 cases acts with
 | nil=>cases h
 | cons a acts=>rfl
def Told(acts rs:List (List Nat))(rows:List (List Dr))(lns:List (List Nat)):Prop:=∀(i:Nat)(ln:List Nat),lns[i]?=some ln->∃(row:List Dr)(nm os:List Nat),rows[i]?=some row/\rs[i]?=some nm/\List.Perm os (tells row)/\ln=zY nm (os.map (tx acts rs row))
theorem F_lines{acts rs:List (List Nat)}{many:Nat}{rows:List (List Dr)}(N:Names acts)(RN:pP rs many)(R:Rows many acts.length false rows)(hm:many<=48)(ns:List Int):∃lns,fL [.lst (ao acts),.lst (ao rs),kO rows,.rol (ns.map .int)]=.ok (.lst (ao (bK acts::lns)))/\lns.length=many/\Told acts rs rows lns:=by
 have h8:=N.hi
 have r1:=λPL=>rg_n (PL:=PL) (n:=many) (by omega)
 have sl:(acts.map List.length).sum<=acts.length*8:=oh λt ht=>(N.ok t ht).2.1
 have jl:=xn [32] acts
 have k1:uO (ofL [32]) (.lst (ao acts))=_:=LR (by simp;omega)
 have k2:bI (.str (ofL [97,99,116,105,111,110,115,32])) (.str (ofL (jn [32] acts)))=some (.str (ofL (bK acts))):=by rw[wR (by simp at jl ⊢;omega),head_eq N.lo]
 suffices h:∃d,fL [.lst (ao acts),.lst (ao rs),kO rows,.rol (ns.map .int)]=.ok d/\∃lns,d=.lst (ao (bK acts::lns))/\lns.length=many/\Told acts rs rows lns by
  obtain⟨_,e,lns,rfl,h⟩:=h
  exact⟨lns,e,h⟩
 refine wQ ?_
 unfold fL mW
 (have zv0:=len_rows R;walk_at "vc: t_ab t_sp Ew tx_s k1 k2 zv0 r1")
 refine Ln (λ_:List Nat=>True) (λlns δ=>Told acts rs rows lns/\∃x5 x6,δ=[some (.sh (.lst (ao acts))),some (.sh (.lst (ao rs))),some (.sh (kO rows)),some (.sh (.rol (ns.map .int))),some (.ol (ao (bK acts::lns))),x5,x6]) many ⟨λi ln h=>by simp at h,_,_,rfl⟩ ?_ ?_
 .rintro i lns δ hi hl _ ⟨ht,x5,x6,rfl⟩
  obtain⟨c,ec⟩:=yM ns (3+i) (by omega)
  rw[Int.natCast_add] at ec
  simp only[Int.cast_ofNat_Int] at ec
  have er:=List.getElem?_eq_getElem (show i<rows.length by rw[R.n];exact hi)
  have en:=List.getElem?_eq_getElem (show i<rs.length by rw[RN.n];exact hi)
  have hr:=R.row _ (List.getElem_mem (show i<rows.length by rw[R.n];exact hi))
  have hn:=RN.ok _ (List.getElem_mem (show i<rs.length by rw[RN.n];exact hi))
  generalize rows[i]'(by rw[R.n];exact hi)=row at er hr
  generalize rs[i]'(by rw[RN.n];exact hi)=nm at en hn
  obtain⟨os,p,el⟩:=F_line ⟨N,RN,hr.1,hr.2⟩ hn.1 c
  have l9:(ao (bK acts::lns)).length<16777216:=by simp[ao];omega
  unfold qx
  (have zv0:=ix_names en;have zv1:=ix_rows er;walk_at "vc-xm: ec zv0 zv1 el l9")
  refine⟨_,λj ln h=>?_,_,_,by unfold ao;rw[←List.cons_append,List.map_append];rfl⟩
  by_cases hj:j<lns.length
  .rw[List.getElem?_append_left hj] at h
   exact ht j ln h
  .rw[List.getElem?_append_right (by omega)] at h
   have:j=i:=by
    have:=(List.getElem?_eq_some_iff.mp h).1
    simp at this
    omega
   subst this
   rw[hl,Nat.sub_self] at h
   simp at h
   exact⟨row,nm,os,er,en,p,h.symm⟩
 .rintro lns δ hl _ ⟨ht,x5,x6,rfl⟩
  walk_at "vc"
  exact⟨lns,rfl,hl,ht⟩
theorem HJ{c:Nat}{ps:List (List Nat)}(h0:ps≠[])(hf:∀p∈ps,c∉p)(hl:(jn [c] ps).length<=16777216)(hn:ps.length<=16777216):gH (ofL (jn [c] ps)) (ofL [c])=some (.lst (ao ps)):=by
 unfold gH
 rw[split_1 h0 hf,bB,bB,List.length_map,if_pos ⟨rfl,by rw[sizeLine_eq];exact hl,by rw[sizeLine_eq];exact hn⟩]
 unfold ao
 rw[List.map_map]
 rfl
theorem split_n2{c d:Nat}(hcd:c≠d)(hk:PySem.Builtin.Str.strKind (ofL [c,d])=1){ps:List (List Nat)}(h0:ps≠[])(hf:∀p∈ps,c∉p)(hl:(jn [c,d] ps).length<=16777216)(hn:ps.length<=16777216):gH (ofL (jn [c,d] ps)) (ofL [c,d])=some (.lst (ao ps)):=by
 unfold gH
 rw[split_2 hcd hk h0 hf,bB,bB,List.length_map,if_pos ⟨rfl,by rw[sizeLine_eq];exact hl,by rw[sizeLine_eq];exact hn⟩]
 unfold ao
 rw[List.map_map]
 rfl
theorem part_n{a b:List Nat}{c:Nat}(h:c∉a)(hl:(a++c::b).length<=16777216):xx (ofL (a++c::b)) (ofL [c])=some (.tup [.str (ofL a),.str (ofL [c]),.str (ofL b)]):=by
 unfold xx
 rw[part_1 h,bB,bB,if_pos ⟨rfl,by rw[sizeLine_eq];exact hl⟩]
theorem in_1(l:List Nat)(c:Nat):inD (.str (ofL [c])) (.str (ofL l))=some (decide (c∈l)):=by
 show some (!(PySem.Builtin.Str.occurrences (ofL l) (ofL [c]) 0 (ofL l).length 1).isEmpty)=_
 rw[has_1]
theorem notin_1(l:List Nat)(c:Nat):gF (.str (ofL [c])) (.str (ofL l))=some (!decide (c∈l)):=by
 unfold gF
 rw[in_1]
 rfl
theorem figs:Str.ofString "0123456789"=ofL ((List.range 10).map (48+·)):=by decide +kernel
theorem slice_sn(l:List Nat)(i:Nat)(h:i<=l.length):Txt.slice (ofL l) (some (i:Int)) none=ofL (l.drop i):=by
 have:=slice_ss l i l.length h (Nat.le_refl _)
 unfold Txt.slice at this ⊢
 rw[bB] at this ⊢
 rw[StrLaws.sliceIdx_none_hi,this,List.take_of_length_le (by simp)]
theorem drop_s{l:List Nat}{k:Nat}(h:k<=l.length)(hl:l.length<=16777216):cutD (.str (ofL l)) (some (k:Nat)) none=some (.str (ofL (l.drop k))):=by
 show (if (ofL l).length<=sizeLine then some (D.str (Txt.slice (ofL l) (some (k:Int)) none)) else none)=_
 rw[bB,if_pos (by rw[sizeLine_eq];exact hl),slice_sn l k h]
theorem in_abc{c:Nat}(h1:97<=c)(h2:c<123):c∈(List.range 26).map (97+·):=List.mem_map.mpr ⟨c - 97,List.mem_range.mpr (by omega),by omega⟩
theorem len_s{l:List Nat}(h:l.length<=16777216):fC (.str (ofL l))=some (.int (l.length:Nat)):=by
 show (if (ofL l).length<=sizeLine then some (D.int ((ofL l).length:Nat)) else none)=_
 rw[bB,if_pos (by rw[sizeLine_eq];exact h)]
theorem F_rn{l:List Nat}(h:CQ l):dB [.str (ofL l)]=.ok (.bl true):=by
 obtain⟨h8,⟨c,r,e,c1,c2⟩,hs⟩:=h
 have a0:1<=l.length:=by rw[e];simp
 have a1:(1:Int)<=(l.length:Nat):=by omega
 have a2:((l.length:Nat):Int)<=8:=by omega
 have ln:=len_s (l:=l) (by omega)
 have i0:ixD (.str (ofL l)) (.int 0)=some (.str (ofL [c])):=ix_of (i:=0) (by omega) (by rw[e];rfl)
 have n0:gF (.str (ofL [c])) (.str "abcdefghijklmnopqrstuvwxyz")=some false:=by
  rw[abc,notin_1,decide_eq_true (in_abc c1 c2)]
  rfl
 have sg:Al (ofL l)=l.map λc=>.str (ofL [c]):=rfl
 have e2:=uo (λ_:Nat=>true) l
 apply vV
 unfold dB jz
 walk_at "vc: ln a1 a2 i0 n0 W_strO tx_s sg"
 refine⟨by rw[List.length_map];omega,W_of (lK (λc:Nat=>D.str (ofL [c])) (λ_=>D.bl true) _ _ λd hd=>?_) ?_⟩
 .apply vV
  unfold lO
  have q1:inD (.str (ofL [d])) (.str "abcdefghijklmnopqrstuvwxyz")=_:=abc▸in_1 _ d
  have q2:inD (.str (ofL [d])) (.str "0123456789")=_:=figs▸in_1 _ d
  walk_at "vc: vZ q1 q2"
  have:=hs d hd
  unfold sgR at this
  by_cases hl:d∈(List.range 26).map (97+·)
  .rw[if_pos hl];trivial
  .rw[if_neg hl,decide_eq_true]
   rcases this with h | h
   .exact absurd (in_abc h.1 h.2) hl
   .exact List.mem_map.mpr ⟨d - 48,List.mem_range.mpr (by omega),by omega⟩
 .rw[e2]
  show D.bl (l.all λ_=>true)=_
  simp
theorem Oh(ns:List (List Nat))(N:Names ns):bZ [.lst (ao ns)]=.ok (.bl true):=by
 unfold bZ dX
 have h1:=N.lo
 have h2:=N.hi
 have a1:(1:Int)<=(ns.length:Int):=by omega
 have a2:(ns.length:Int)<=8:=by omega
 have e:=mK (cap:=[none]) (fi:=jR (gv 0)) (fe:=cj) (δ:=[some (.sh (.lst (ao ns)))]) (λl=>D.str (ofL l)) (λ_=>D.bl true) ns rfl (by omega) (λl hl=>by
  unfold cj
  have e:=F_name l (N.ok l hl)
  show oF 1 jd (aB (gv 0) aR) [some (.sh (.str (ofL l)))]=_
  walk_at "ev: e")
 have e2:=uo (λ_:List Nat=>true) ns
 have e3:ns.all (λ_=>true)=true:=by simp
 have e4:tQ (.lst (ao ns))=some (.int ns.length):=by
  unfold tQ
  have q:ao ns=(ns.map ofL).map D.str:=by unfold ao;simp
  simp only[iI,Option.bind_some,q,DP]
  rw[if_pos (by rw[List.length_map];omega),tV _ _ (by
   simp only[List.nil_append]
   exact List.pairwise_map.mpr (N.nd.imp λh q=>h (nA q)))]
  simp
 have e5:(ao ns).length=ns.length:=by simp[ao]
 walk_at "ev: cX m7 e5 a1 a2 e e2 e3 e4"
end K9
namespace K9
open PySem L2 MX DL
theorem eq_s{a b:List Nat}(ha:∀c∈a,c<1000)(hb:∀c∈b,c<1000):eqD (.str (ofL a)) (.str (ofL b))=some (decide (a=b)):=by
 rw[uA (lay_s 50 ha) (lay_s 50 hb),eqB_str]
 congr 1
 by_cases h:a=b
 .subst h;simp
 .rw[decide_eq_false h,beq_eq_false_iff_ne]
  exact λe=>h (nA e)
theorem ne_s{a:List Nat}(ha:∀c∈a,c<1000):neD (.str (ofL a)) (.str (ofL a))=some false:=uU (lay_s 50 ha)
theorem zK:∀ns:List (List Nat),sO (ao ns)=some (ns.map λl=>V.str (ofL l))
 | []=>rfl
 | n::ns=>by
  show (match zJ (.str (ofL n)),sO (ao ns) with | some v,some vs=>some (v::vs) | _,_=>none)=_
  rw[zK ns]
  rfl
theorem in_names{l:List Nat}{ns:List (List Nat)}(h:l∈ns):gF (.str (ofL l)) (.lst (ao ns))=some false:=by
 have e:inD (.str (ofL l)) (.lst (ao ns))=some (inV (V.str (ofL l)) (ns.map λl=>V.str (ofL l))):=by
  show (match some (V.str (ofL l)),(some (ao ns)).bind sO with | some v,some vs=>some (inV v vs) | _,_=>none)=_
  rw[Option.bind_some,zK]
 unfold gF
 rw[e]
 have:inV (V.str (ofL l)) (ns.map λl=>V.str (ofL l))=true:=by
  unfold inV
  rw[List.any_map,List.any_eq_true]
  exact⟨l,h,by simp[eqV]⟩
 rw[this]
 rfl
theorem yq{acts:List (List Nat)}(N:Names acts):∀l∈acts,∀c∈l,97<=c/\c<123:=λl hl=>(N.ok l hl).2.2
theorem F_readA{acts:List (List Nat)}(N:Names acts):fQ [.str (ofL (bK acts))]=.ok (.lst (ao acts)):=by
 have h8:=N.hi
 have sl:(([97,99,116,105,111,110,115]::acts).map List.length).sum<=([97,99,116,105,111,110,115]::acts).length*8:=oh λt ht=>by
  rcases List.mem_cons.mp ht with rfl | ht
  .decide
  .exact(N.ok t ht).2.1
 have jl:=xn [32] ([97,99,116,105,111,110,115]::acts)
 simp only[List.length_cons,List.length_nil,Nat.zero_add] at sl jl
 have sp:gH (ofL (bK acts)) (ofL [32])=some (.lst (.str (ofL [97,99,116,105,111,110,115])::ao acts)):=HJ (by simp) (λp hp hc=>by
  rcases List.mem_cons.mp hp with rfl | hp
  .simp at hc
  .have:=yq N p hp 32 hc
   omega) (by omega) (by simp;omega)
 have n1:=ne_s (a:=[97,99,116,105,111,110,115]) (by decide)
 have cl:ut (.str (ofL [97,99,116,105,111,110,115])::ao acts) (some 1) none=ao acts:=zb (λl=>D.str (ofL l)) ([97,99,116,105,111,110,115]::acts) 1
 have fa:=Oh acts N
 apply vV
 unfold fQ jB
 walk_at "vc: CT tx_s t_sp t_ac sp n1 cl fa"
def kvF(p:List Nat×Nat):Key×D:=(.inr (ofL p.1),.int (p.2:Nat))
def kv(rs:List (List Nat)):List (Key×D):=(List.zipIdx rs 0).map kvF
theorem key_eq(a b:List Nat):decide ((Sum.inr (ofL a):Key)=.inr (ofL b))=decide (a=b):=by
 by_cases h:a=b
 .subst h;simp
 .rw[decide_eq_false h,decide_eq_false]
  intro e
  exact h (nA (Sum.inr.inj e))
theorem Mf(nm:List Nat):∀(rs:List (List Nat))(k:Nat),zQ ((List.zipIdx rs k).map kvF) (.inr (ofL nm))=decide (nm∈rs)
 | [],_=>rfl
 | r::rs,k=>by
  have ih:=Mf nm rs (k+1)
  unfold zQ at ih ⊢
  rw[List.zipIdx_cons,List.map_cons,List.any_cons,ih]
  show (decide ((Sum.inr (ofL r):Key)=.inr (ofL nm)) || _)=_
  rw[key_eq]
  simp[eq_comm]
theorem Ma{nm:List Nat}:∀(rs:List (List Nat))(k i:Nat),rs.Nodup->rs[i]?=some nm->tO ((List.zipIdx rs k).map kvF) (.inr (ofL nm))=some (.int ((k+i:Nat):Int))
 | [],_,_,_,h=>by simp at h
 | r::rs,k,0,nd,h=>by
  simp at h
  subst h
  rw[List.zipIdx_cons,List.map_cons]
  simp[tO,kvF]
 | r::rs,k,i+1,nd,h=>by
  have h:rs[i]?=some nm:=by simpa using h
  have ne:¬(Sum.inr (ofL r):Key)=.inr (ofL nm):=λe=>by
   have:=nA (Sum.inr.inj e)
   subst this
   exact(List.nodup_cons.mp nd).1 (List.mem_of_getElem? h)
  have ih:=Ma rs (k+1) i (List.nodup_cons.mp nd).2 h
  rw[List.zipIdx_cons,List.map_cons]
  unfold tO at ih ⊢
  rw[List.find?_cons_of_neg (by simpa[kvF] using ne),ih]
  congr 3
  omega
theorem Pk(nm:List Nat)(ts:List (List Nat)):zY nm ts=nm++58::(if ts.isEmpty then [] else 32::jn [44,32] ts):=by
 unfold zY
 split <;> simp
structure Pn(acts rs:List (List Nat))(many:Nat)(rows:List (List Dr))(lns:List (List Nat)):Prop where
 N:Names acts
 RN:pP rs many
 R:Rows many acts.length false rows
 m1:1<=many
 m48:many<=48
 l:lns.length=many
 T:Told acts rs rows lns
theorem nm_ch{nm:List Nat}(h:CQ nm):58∉nm/\10∉nm/\32∉nm/\∀c∈nm,c<123:=by
 have:∀c∈nm,sgR c:=h.2.2
 unfold sgR at this
 refine⟨λh=>?_,λh=>?_,λh=>?_,λc h=>?_⟩
 .have:=this _ h;omega
 .have:=this _ h;omega
 .have:=this _ h;omega
 .have:=this _ h;omega
theorem Pn.line{acts rs:List (List Nat)}{many:Nat}{rows:List (List Dr)}{lns:List (List Nat)}(P:Pn acts rs many rows lns){i:Nat}{ln:List Nat}(h:lns[i]?=some ln):∃row nm os,rows[i]?=some row/\rs[i]?=some nm/\List.Perm os (tells row)/\In acts rs many row/\CQ nm/\(os.map (tx acts rs row)).length<=8/\(jn [44,32] (os.map (tx acts rs row))).length<=200/\ln=nm++58::(if (os.map (tx acts rs row)).isEmpty then [] else 32::jn [44,32] (os.map (tx acts rs row)))/\ln.length<=300:=by
 obtain⟨row,nm,os,er,en,p,e⟩:=P.T i ln h
 have hr:=P.R.row row (List.mem_of_getElem? er)
 have hn:=P.RN.ok nm (List.mem_of_getElem? en)
 have I:In acts rs many row:=⟨P.N,P.RN,hr.1,hr.2⟩
 have lo:os.length<=8:=by
  have h1:=p.length_eq
  have h2:=Ay row
  have h3:=P.N.hi
  have h4:=I.l
  omega
 have sl:((os.map (tx acts rs row)).map List.length).sum<=(os.map (tx acts rs row)).length*22:=oh λt ht=>by
  obtain⟨a,_,rfl⟩:=List.mem_map.mp ht
  exact I.tx_le a
 have jl:=xn [44,32] (os.map (tx acts rs row))
 simp only[List.length_map,List.length_cons,List.length_nil,Nat.zero_add] at sl jl
 have j2:(jn [44,32] (os.map (tx acts rs row))).length<=200:=by omega
 rw[Pk] at e
 refine⟨row,nm,os,er,en,p,I,hn,by rw[List.length_map];exact lo,j2,e,?_⟩
 rw[e]
 have:=hn.1
 split <;> simp <;> omega
theorem F_named{acts rs:List (List Nat)}{many:Nat}{rows:List (List Dr)}{lns:List (List Nat)}(P:Pn acts rs many rows lns):gJ [.lst (ao lns)]=.ok (.dK (kv rs)):=by
 have en:=p7 (λl:List Nat=>D.str (ofL l)) lns 0
 have sq:DL.iI (.lst (ao lns))=some (lns.map λl=>D.str (ofL l)):=rfl
 have hm:=P.m48
 have hl:=P.l
 apply vV
 unfold gJ lq
 walk_at "vc: W_setD0 W_enum sq en"
 generalize hb:iH=body
 refine mG (λp:List Nat×Nat=>D.tup [.int p.2,.str (ofL p.1)]) (λdone δ=>∃x2 x3,δ=[some (.sh (.lst (ao lns))),some (.od (kv (rs.take done.length))),x2,x3]) (List.zipIdx lns 0) ⟨_,_,rfl⟩ ?_ ?_
 .rintro⟨ln,i⟩ done rest δ e ⟨x2,x3,rfl⟩
  have q:=List.mem_zipIdx (show (ln,i)∈List.zipIdx lns 0 by rw[e];simp)
  have l0:=congrArg List.length e
  have g:=congrArg (λl=>l[done.length]?) e
  simp at q l0 g
  have hi:done.length=i:=by obtain⟨_,_,g3⟩:=g;exact g3.2
  have el:lns[i]?=some ln:=by rw[q.2];exact List.getElem?_eq_getElem q.1
  obtain⟨row,nm,os,er,en,p,I,hn,_,_,ef,l3⟩:=P.line el
  have ch:=nm_ch hn
  have i1:inD (.str (ofL [58])) (.str (ofL ln))=some true:=by rw[in_1,decide_eq_true (by rw[ef];simp)]
  have p1:xx (ofL ln) (ofL [58])=some (.tup [.str (ofL nm),.str (ofL [58]),.str (ofL (if (os.map (tx acts rs row)).isEmpty then [] else 32::jn [44,32] (os.map (tx acts rs row))))]):=by
   rw[ef] at l3 ⊢
   exact part_n ch.1 (by omega)
  have hnot:nm∉rs.take i:=λh=>by
   obtain⟨j,hj⟩:=List.getElem?_of_mem h
   have lj:=(List.getElem?_eq_some_iff.mp hj).1
   rw[List.length_take] at lj
   rw[List.getElem?_take_of_lt (by omega)] at hj
   have:=(List.getElem?_inj (by omega) P.RN.nd).mp (hj.trans en.symm)
   omega
  have hk:zQ (kv (rs.take i)) (.inr (ofL nm))=false:=by unfold kv;rw[Mf,decide_eq_false hnot]
  have pk:Dy (kv (rs.take i)) (.inr (ofL nm)) (.int (i:Nat))=kv (rs.take (i+1)):=by
   have hk':=hk
   unfold zQ at hk'
   unfold Dy
   rw[hk',if_neg Bool.false_ne_true]
   unfold kv
   have lt:(rs.take i).length=i:=by rw[List.length_take,P.RN.n];omega
   rw[List.take_add_one,en]
   simp only[Option.toList_some]
   rw[List.zipIdx_append,List.map_append,lt]
   simp[kvF]
  have l9:(kv (rs.take i)).length<16777216:=by unfold kv;simp;omega
  subst hb
  unfold iH
  rw[hi]
  walk_at "vc: t_co i1 W_setdef doD_0 doD_s CT tx_s p1 ky_s l9 hk pk"
  exact⟨_,_,by rw[List.length_append,hi];rfl⟩
 .rintro δ ⟨x2,x3,rfl⟩
  walk_at "vc"
  rw[List.length_zipIdx,hl,←P.RN.n,List.take_length]
end K9
namespace K9
open PySem L2 MX DL
theorem Gh{s:List Nat}{c:Nat}:∀{ts:List (List Nat)},c∈jn s ts->c∈s∨∃t∈ts,c∈t
 | [],h=>by simp[jn] at h
 | [t],h=>.inr ⟨t,List.mem_cons_self,h⟩
 | t::u::ts,h=>by
  rw[m8] at h
  simp only[List.mem_append] at h
  rcases h with (h | h) | h
  .exact .inr ⟨t,List.mem_cons_self,h⟩
  .exact .inl h
  .rcases Gh h with h | ⟨x,hx,h⟩
   .exact .inl h
   .exact .inr ⟨x,List.mem_cons_of_mem _ hx,h⟩
theorem tx_jn(acts rs:List (List Nat))(row:List Dr)(a:Nat):tx acts rs row a=jn [32] [acts.getD a [],(row.getD a .shut).wl,rs.getD (row.getD a .shut).tn []]:=by
 unfold tx
 simp[jn]
theorem Oi{acts rs:List (List Nat)}{act nm:List Nat}{x:Dr}{t:Nat}(h1:act∈acts)(al:alw x=true)(hn:CQ nm)(ht:rs[t]?=some nm):dm [.lst [.str (ofL act),.str (ofL x.wl),.str (ofL nm)],.lst (ao acts),.dK (kv rs)]=.ok (.bl true):=by
 have n1:=in_names h1
 have n2:gF (.str (ofL x.wl)) (.tup [.str "must",.str "may"])=some false:=by
  rw[←(alw_w al).1]
  cases x with
  | must n=>unfold gF;rw[show inD (.str (Dr.must n).w) (.tup [.str "must",.str "may"])=some true from m1];rfl
  | may n=>unfold gF;rw[show inD (.str (Dr.may n).w) (.tup [.str "must",.str "may"])=some true from m2];rfl
  | shut=>cases al
  | torn=>cases al
 have f:=F_rn hn
 have hk:zQ (kv rs) (.inr (ofL nm))=true:=by unfold kv;rw[Mf,decide_eq_true (List.mem_of_getElem? ht)]
 apply vV
 unfold dm f9
 walk_at "vc: n1 n2 f W_dInX ky_s dk_1 dk_s hk"
theorem Dk:∀(acts:List (List Nat))(a k:Nat)(act:List Nat),acts.Nodup->acts[a]?=some act->fstS (ofL act) (acts.map ofL) k=some (k+a)
 | [],_,_,_,_,h=>by simp at h
 | b::acts,0,k,act,_,h=>by
  simp at h
  subst h
  simp[fstS]
 | b::acts,a+1,k,act,nd,h=>by
  have h:acts[a]?=some act:=by simpa using h
  have ne:¬ofL b=ofL act:=λe=>by
   have:=nA e
   subst this
   exact(List.nodup_cons.mp nd).1 (List.mem_of_getElem? h)
  rw[List.map_cons]
  unfold fstS
  rw[if_neg ne,Dk acts a (k+1) act (List.nodup_cons.mp nd).2 h]
  congr 1
  omega
theorem O8{acts:List (List Nat)}{a:Nat}{act:List Nat}(nd:acts.Nodup)(h:acts[a]?=some act):JH (.lst (ao acts)) (.str (ofL act))=some (.int (a:Nat)):=by
 unfold JH
 show (lV (ao acts)).bind _=_
 rw[uc]
 show (fstS (ofL act) (acts.map ofL) 0).map _=_
 rw[Dk acts a 0 act nd h,Nat.zero_add]
 rfl
def zm(row:List Dr)(done:List Nat):List D:=(List.range row.length).map λa=>if a∈done then (row.getD a .shut).d else Dr.shut.e
theorem dnow_put{row:List Dr}{done:List Nat}{a:Nat}{x:Dr}(h:row[a]?=some x):(zm row done).set a x.d=zm row (done++[a]):=by
 have la:=(List.getElem?_eq_some_iff.mp h).1
 apply List.ext_getElem?
 intro i
 unfold zm
 by_cases hi:i=a
 .subst hi
  rw[List.getElem?_set_self (by simpa using la),List.getElem?_map,List.getElem?_range la]
  simp[List.getD_eq_getElem?_getD,h]
 .rw[List.getElem?_set_ne (Ne.symm hi),List.getElem?_map,List.getElem?_map]
  by_cases li:i<row.length
  .rw[List.getElem?_range li]
   simp[hi]
  .rw[List.getElem?_eq_none (by simpa using li)]
   rfl
theorem Jo{row:List Dr}{os:List Nat}{many:Nat}(ok:∀x∈row,x.ok many false)(p:os.Perm (tells row)):zm row os=row.map Dr.e:=by
 apply List.ext_getElem?
 intro i
 unfold zm
 rw[List.getElem?_map,List.getElem?_map]
 by_cases li:i<row.length
 .have e:=List.getElem?_eq_getElem li
  have g:row.getD i .shut=row[i]:=by rw[List.getD_eq_getElem?_getD,e];rfl
  have o:=ok _ (List.getElem_mem li)
  rw[List.getElem?_range li,e]
  simp only[Option.map_some]
  congr 1
  have m:i∈os↔alw row[i]=true:=by
   rw[p.mem_iff]
   unfold tells
   rw[List.mem_filter,List.mem_range,g]
   exact⟨λh=>h.2,λh=>⟨li,h⟩⟩
  rw[g]
  cases hx:row[i] with
  | must n=>rw[if_pos (m.mpr (by rw[hx];rfl))];rfl
  | may n=>rw[if_pos (m.mpr (by rw[hx];rfl))];rfl
  | shut=>rw[if_neg λh=>by have:=m.mp h;rw[hx] at this;cases this]
  | torn=>rw[hx] at o;cases o
 .rw[List.getElem?_eq_none (by simpa using li),List.getElem?_eq_none (by simpa using li)]
  rfl
theorem lay_rot:dj 50 (.rot [.str "shut",.non])=true:=by
 show (PyData.strOk "shut" && (true && true))=true
 rw[NQ]
 rfl
theorem F_doors{acts rs:List (List Nat)}{many:Nat}{row:List Dr}(I:In acts rs many row){os:List Nat}(p:os.Perm (tells row))(l8:(os.map (tx acts rs row)).length<=8)(l2:(jn [44,32] (os.map (tx acts rs row))).length<=200):iW [.str (ofL (if (os.map (tx acts rs row)).isEmpty then [] else 32::jn [44,32] (os.map (tx acts rs row)))),.lst (ao acts),.dK (kv rs)]=.ok (.lst (row.map Dr.e)):=by
 have h8:=I.N.hi
 have hl:=I.l
 have c0:(acts.map λ_=>Dr.shut.e)=zm row []:=by
  unfold zm
  simp[hl,List.map_const',List.map_const]
 have nl:(ao acts).length=acts.length:=by simp[ao]
 have jc:∀c∈jn [44,32] (os.map (tx acts rs row)),c<1000:=λc hc=>by
  rcases Gh hc with h | ⟨t,ht,h⟩
  .simp at h;omega
  .obtain⟨a,_,rfl⟩:=List.mem_map.mp ht
   have:=(I.tx_ch a c h).1
   omega
 apply vV
 unfold iW m5
 walk_at "vc: nl"
 refine⟨by omega,W_of (lK (λl:List Nat=>D.str (ofL l)) (λ_=>Dr.shut.e) acts _ λl _=>rfl) ?_⟩
 rw[c0]
 cases hos:os with
 | nil =>
  have e1:=eq_s (a:=[]) (b:=[]) (by simp) (by simp)
  walk_at "vc: List.isEmpty_nil t_em e1"
  have:=Jo I.ok p
  rw[hos] at this
  exact congrArg D.lst this
 | cons o os' =>
  rw[←hos]
  have ne:os.map (tx acts rs row)≠[]:=by rw[hos];simp
  rw[if_neg (by rw[hos];simp)]
  have e1:=eq_s (a:=32::jn [44,32] (os.map (tx acts rs row))) (b:=[]) (λc hc=>by rcases List.mem_cons.mp hc with rfl | hc;decide;exact jc c hc) (by simp)
  rw[decide_eq_false (by simp)] at e1
  have s1:swD (ofL (32::jn [44,32] (os.map (tx acts rs row)))) (ofL [32])=some (.bl true):=by unfold swD;rw[stw_1]
  have d1:cutD (.str (ofL (32::jn [44,32] (os.map (tx acts rs row))))) (some 1) none=some (.str (ofL (jn [44,32] (os.map (tx acts rs row))))):=drop_s (k:=1) (by simp) (by simp;omega)
  have s2:=split_n2 (c:=44) (d:=32) (by decide) (by decide +kernel) ne (λt ht hc=>by
   obtain⟨a,_,rfl⟩:=List.mem_map.mp ht
   exact(I.tx_ch a 44 hc).2.1 rfl) (by omega) (by omega)
  have sq:jt (.lst (ao (os.map (tx acts rs row))))=some (os.map λa=>D.str (ofL (tx acts rs row a))):=by
   show some (ao _)=_
   unfold ao
   rw[List.map_map]
   rfl
  walk_at "vc-as_l: t_em e1 CT tx_s t_sp s1 d1 t_cs s2 sq"
  generalize hb:jF=body
  refine mG (λa:Nat=>D.str (ofL (tx acts rs row a))) (λdone δ=>∃x4 x5 x6,δ=[some (.sh (.str (ofL (32::jn [44,32] (os.map (tx acts rs row)))))),some (.sh (.lst (ao acts))),some (.sh (.dK (kv rs))),some (.ol (zm row done)),x4,x5,x6]) os ⟨_,_,_,rfl⟩ ?_ ?_
  .rintro a done rest δ e ⟨x4,x5,x6,rfl⟩
   have am:a∈tells row:=p.mem_iff.mp (by rw[e];simp)
   have nd:os.Nodup:=p.nodup_iff.mpr (List.Pairwise.filter _ List.nodup_range)
   have an:a∉done:=λh=>by
    rw[e] at nd
    exact(List.nodup_append.mp nd).2.2 a h a List.mem_cons_self rfl
   unfold tells at am
   rw[List.mem_filter,List.mem_range] at am
   obtain⟨la,al⟩:=am
   have ex:=List.getElem?_eq_getElem la
   have gx:row.getD a .shut=row[a]:=by rw[List.getD_eq_getElem?_getD,ex];rfl
   have okx:=I.ok _ (List.getElem_mem la)
   have ea:=List.getElem?_eq_getElem (show a<acts.length by omega)
   have ga:acts.getD a []=acts[a]'(by omega):=by rw[List.getD_eq_getElem?_getD,ea];rfl
   have tj:=tx_jn acts rs row a
   rw[gx] at al tj
   generalize row[a]=x at ex okx al tj
   rw[ga] at tj
   generalize acts[a]'(by omega)=act at ea tj
   have ht:=tn_lt okx al
   have er:=List.getElem?_eq_getElem (show x.tn<rs.length by rw[I.R.n];exact ht)
   have gr:rs.getD x.tn []=rs[x.tn]'(by rw[I.R.n];exact ht):=by rw[List.getD_eq_getElem?_getD,er];rfl
   rw[gr] at tj
   generalize rs[x.tn]'(by rw[I.R.n];exact ht)=nm at er tj
   have hn:=I.R.ok nm (List.mem_of_getElem? er)
   have lt:=I.tx_le a
   rw[tj] at lt
   have sp:gH (ofL (jn [32] [act,x.wl,nm])) (ofL [32])=some (.lst [.str (ofL act),.str (ofL x.wl),.str (ofL nm)]):=HJ (by simp) (λq hq hc=>by
    simp only[List.mem_cons,List.not_mem_nil,or_false] at hq
    rcases hq with rfl | rfl | rfl
    .have:=yq I.N q (List.mem_of_getElem? ea) 32 hc
     omega
    .cases x <;> simp[Dr.wl] at hc
    .exact(nm_ch hn).2.2.1 hc) (by omega) (by simp)
   have fw:=Oi (acts:=acts) (rs:=rs) (List.mem_of_getElem? ea) al hn er
   have ix:=O8 I.N.nd ea
   have da:atI (zm row done) (a:Nat)=some (.rot [.str "shut",.non]):=fW (by
    unfold zm
    rw[List.getElem?_map,List.getElem?_range la]
    simp[an]
    rfl)
   have nr:=uU lay_rot
   have gk:tO (kv rs) (.inr (ofL nm))=some (.int (x.tn:Nat)):=by unfold kv;rw[Ma rs 0 x.tn I.R.nd er,Nat.zero_add]
   subst hb
   unfold jF
   rw[tj]
   have il:JL (.lst (ao acts))=true:=rfl
   walk_at "vc: CT tx_s t_sp sp fw W_idxS il ix da nr W_put W_dIx dk_1 dk_s ky_s gk"
   have dp:=dnow_put (done:=done) ex
   unfold Dr.d at dp
   rw[(alw_w al).1,(alw_w al).2] at dp
   exact⟨_,a,rfl,ixN_nat (by simp[zm];exact la),_,_,_,by rw[dp]⟩
  .rintro δ ⟨x4,x5,x6,rfl⟩
   walk_at "vc"
   rw[Jo I.ok p]
theorem F_room{acts rs:List (List Nat)}{many:Nat}{rows:List (List Dr)}{lns:List (List Nat)}(P:Pn acts rs many rows lns){i:Nat}{ln:List Nat}(h:lns[i]?=some ln):∃row,rows[i]?=some row/\jW [.str (ofL ln),.int (i:Nat),.lst (ao acts),.dK (kv rs)]=.ok (.lst (row.map Dr.e)):=by
 obtain⟨row,nm,os,er,en,p,I,hn,l8,l2,ef,l3⟩:=P.line h
 refine⟨row,er,?_⟩
 have fd:=F_doors I p l8 l2
 generalize (if (os.map (tx acts rs row)).isEmpty then [] else 32::jn [44,32] (os.map (tx acts rs row)))=rest at ef fd
 have ch:=nm_ch hn
 have p1:xx (ofL ln) (ofL [58])=some (.tup [.str (ofL nm),.str (ofL [58]),.str (ofL rest)]):=by
  rw[ef] at l3 ⊢
  exact part_n ch.1 (by omega)
 have f:=F_rn hn
 have gk:tO (kv rs) (.inr (ofL nm))=some (.int (i:Nat)):=by unfold kv;rw[Ma rs 0 i P.RN.nd en,Nat.zero_add]
 have ln1:=len_s (l:=nm) (by have:=hn.1;omega)
 have ce:((nm.length:Nat):Int)+1=((nm.length+1:Nat):Int):=by omega
 have d1:cutD (.str (ofL ln)) (some ((nm.length+1:Nat):Int)) none=some (.str (ofL rest)):=by
  rw[drop_s (by rw[ef];simp) (by omega),ef]
  congr 3
  rw[show nm++58::rest=(nm++[58])++rest by simp,show nm.length+1=(nm++[58]).length by simp,List.drop_left]
 have ii:((i:Int)==(i:Int))=true:=by simp
 apply vV
 unfold jW qp
 walk_at "vc: CT tx_s t_co p1 f W_dGet1 dk_1 dk_s ky_s gk Option.getD_some ii ln1 ce d1 fd"
theorem F_plan{acts rs:List (List Nat)}{many:Nat}{rows:List (List Dr)}{lns:List (List Nat)}(P:Pn acts rs many rows lns):jV [.str (ofL (jn [10] (bK acts::lns)))]=.ok (plan bU acts rows):=by
 have hm:=P.m48
 have hl:=P.l
 have h1:=P.m1
 have hh:10∉bK acts/\(bK acts).length<=200:=by
  constructor
  .intro h
   rcases Gh h with h | ⟨t,ht,h⟩
   .simp at h
   .rcases List.mem_cons.mp ht with rfl | ht
    .simp at h
    .have:=yq P.N t ht 10 h
     omega
  .have h8:=P.N.hi
   have sl:(([97,99,116,105,111,110,115]::acts).map List.length).sum<=([97,99,116,105,111,110,115]::acts).length*8:=oh λt ht=>by
    rcases List.mem_cons.mp ht with rfl | ht
    .decide
    .exact(P.N.ok t ht).2.1
   have jl:=xn [32] ([97,99,116,105,111,110,115]::acts)
   simp only[List.length_cons,List.length_nil,Nat.zero_add] at sl jl
   show (jn _ _).length<=200
   omega
 have hf:∀q∈bK acts::lns,10∉q:=λq hq=>by
  rcases List.mem_cons.mp hq with rfl | hq
  .exact hh.1
  .obtain⟨i,hi⟩:=List.getElem?_of_mem hq
   obtain⟨row,nm,os,_,_,_,I,hn,_,_,ef,_⟩:=P.line hi
   intro h
   rw[ef] at h
   rcases List.mem_append.mp h with h | h
   .exact(nm_ch hn).2.1 h
   .rcases List.mem_cons.mp h with h | h
    .omega
    .split at h
     .cases h
     .rcases List.mem_cons.mp h with h | h
      .omega
      .rcases Gh h with h | ⟨t,ht,h⟩
       .simp at h
       .obtain⟨a,_,rfl⟩:=List.mem_map.mp ht
        exact(I.tx_ch a 10 h).2.2.2 rfl
 have sl:((bK acts::lns).map List.length).sum<=(bK acts::lns).length*300:=oh λt ht=>by
  rcases List.mem_cons.mp ht with rfl | ht
  .omega
  .obtain⟨i,hi⟩:=List.getElem?_of_mem ht
   obtain⟨_,_,_,_,_,_,_,_,_,_,_,l3⟩:=P.line hi
   exact l3
 have jl:=xn [10] (bK acts::lns)
 simp only[List.length_cons,List.length_nil,Nat.zero_add] at sl jl
 have sp:gH (ofL (jn [10] (bK acts::lns))) (ofL [10])=some (.lst (.str (ofL (bK acts))::ao lns)):=HJ (by simp) hf (by omega) (by simp;omega)
 have fa:=F_readA P.N
 have fn:=F_named P
 have cl:ut (.str (ofL (bK acts))::ao lns) (some 1) none=ao lns:=zb (λl=>D.str (ofL l)) (bK acts::lns) 1
 have nl:(ao lns).length=many:=by simp[ao,hl]
 have n1:((((ao lns).length+1:Nat):Int)==1)=false:=by rw[nl,beq_eq_false_iff_ne];omega
 have en:=p7 (λl:List Nat=>D.str (ofL l)) lns 0
 have sq:DL.iI (.lst (ao lns))=some (lns.map λl=>D.str (ofL l)):=rfl
 have pl:Ei [.lst (ao acts),.lst (rows.map λr=>.lst (r.map Dr.e))]=_:=F_initQ F_told_e F_made_e false many acts rows P.N P.R h1 (by omega)
 apply vV
 unfold jV qm
 walk_at "vc: CT tx_s t_nl sp fa n1 cl fn W_enum sq en"
 generalize hb:lu=body
 refine mG (λp:List Nat×Nat=>D.tup [.int p.2,.str (ofL p.1)]) (λdone δ=>∃x5 x6 x7,δ=[some (.sh (.str (ofL (jn [10] (bK acts::lns))))),some (.sh (.lst (.str (ofL (bK acts))::ao lns))),some (.sh (.lst (ao acts))),some (.sh (.dK (kv rs))),some (.ol ((rows.take done.length).map λr=>.lst (r.map Dr.e))),x5,x6,x7]) (List.zipIdx lns 0) ⟨_,_,_,rfl⟩ ?_ ?_
 .rintro⟨ln,i⟩ done rest δ e ⟨x5,x6,x7,rfl⟩
  have q:=List.mem_zipIdx (show (ln,i)∈List.zipIdx lns 0 by rw[e];simp)
  have g:=congrArg (λl=>l[done.length]?) e
  simp at q g
  have hi:done.length=i:=by obtain⟨_,_,g3⟩:=g;exact g3.2
  have el:lns[i]?=some ln:=by rw[q.2];exact List.getElem?_eq_getElem q.1
  obtain⟨row,er,fr⟩:=F_room P el
  have l9:((rows.take i).map λr=>D.lst (r.map Dr.e)).length<16777216:=by simp;omega
  have te:((rows.take (i+1)).map λr=>D.lst (r.map Dr.e))=((rows.take i).map λr=>D.lst (r.map Dr.e))++[.lst (row.map Dr.e)]:=by
   rw[List.take_add_one,er,List.map_append]
   rfl
  subst hb
  unfold lu
  rw[hi]
  walk_at "vc: fr l9"
  exact⟨_,_,_,by rw[List.length_append,hi,List.length_singleton,te]⟩
 .rintro δ ⟨x5,x6,x7,rfl⟩
  rw[List.length_zipIdx,hl,←P.R.n,List.take_length]
  walk_at "vc: pl"
  rfl
end K9
namespace K9
open PySem L2 MX DL
theorem Eg(r:List Dr)(h:r.length<=100):g8 [.tup (r.map Dr.ob)]=.ok (r.map Dr.d):=by
 unfold g8 qt runL Dz
 have e:=mK (cap:=[none]) (fi:=jR (gv 0)) (fe:=lA) (δ:=[some (.sh (.tup (r.map Dr.ob)))]) Dr.ob Dr.d r rfl (by omega) (λx _=>by
  unfold lA
  exact M_told' x _ _ rfl)
 walk_at "ev: e endF"
section
variable{c many:Nat}{t:Bool}{ns:List (List Nat)}{rows:List (List Dr)}{δ:DSt}{fo:DSt->Out D}
theorem M_acts(P:Pl c many t ns rows)(h:fo δ=.ok (plan c ns rows)):oM "action_list" 1 (tabD bx) fo aR δ=.ok (.lst (ao ns)):=by
 unfold plan at h
 rcases P.c with rfl | rfl <;> walk_at "ev: h tabD dOf bx cz bU bR cL runL Dz endF jt"
theorem MF_acts(P:Pl c many t ns rows)(h:fo δ=.ok (plan c ns rows)):oMF "action_list" bx fo δ=.ok (ao ns):=by
 unfold plan at h
 rcases P.c with rfl | rfl <;> walk_at "ev: h oMF bx cz bU bR cL runL Dz endF jt"
theorem yQ(P:Pl c many t ns rows)(h:fo δ=.ok (plan c ns rows)):oM "many" 1 lW fo aR δ=.ok (.int many):=by
 unfold plan Kc at h
 have hn:=P.R.n
 rcases P.c with rfl | rfl <;> walk_at "ev: h lW cz bU iV mU List.length_map hn"
theorem Im(P:Pl c many t ns rows):fK [plan c ns rows]=.ok (rows.map λr=>r.map Dr.d):=by
 have hn:=P.R.n
 have h8:=P.N.hi
 have h60:=P.hi
 have f:(oFld "rooms" [cz,bU] (gv 0)) [some (.sh (plan c ns rows))]=.ok (Kc rows):=by
  unfold plan
  rcases P.c with rfl | rfl <;> walk_at "ev: cz bU"
 have e:=mK (cap:=[none]) (fi:=jR (oFld "rooms" [cz,bU] (gv 0))) (fe:=jH) (δ:=[some (.sh (plan c ns rows))]) (λr:List Dr=>D.tup (r.map Dr.ob)) (λr=>r.map Dr.d) rows (by
   unfold jR;rw[f];rfl) (by omega) (λr hr=>by
  unfold jH
  have e:=Eg r (by rw[(P.R.row r hr).1];omega)
  show oFl 1 g8 (aB (gv 0) aR) [some (.sh (.tup (r.map Dr.ob)))]=_
  walk_at "ev: e oFl")
 unfold fK mV runLL MN
 walk_at "ev: e endFF"
theorem yR(P:Pl c many t ns rows)(h:fo δ=.ok (plan c ns rows)):oM "told" 1 (KJ cI) fo aR δ=.ok (kO rows):=by
 have e:=Im P
 unfold plan at h e
 have m:∀l:List (List Dr),List.map D.lst (l.map λr=>r.map Dr.d)=l.map λr=>D.lst (r.map Dr.d):=λl=>by simp
 rcases P.c with rfl | rfl <;> · simp only[cz,bU] at h e;walk_at "ev: h KJ dOff cI cz bU e kO m"
theorem MF_told(P:Pl c many t ns rows)(h:fo δ=.ok (plan c ns rows)):oMF "told" cI fo δ=.ok (rows.map λr=>r.map Dr.d):=by
 have e:=Im P
 unfold plan at h e
 rcases P.c with rfl | rfl <;> · simp only[cz,bU] at h e;walk_at "ev: h oMF cI cz bU e"
end
theorem F_isI(m:Nat):rG [.int m,.int m]=.ok (.bl true):=by
 have e:((m:Int)==(m:Int))=true:=by simp
 apply vV
 unfold rG v8
 walk_at "vc: km iu m7 e"
theorem K5(ns:List Int)(hl:ns.length<=63):∃μ,F_law [] [.rol (ns.map .int)]=.ok (.bl true) μ:=by
 obtain⟨c0,ec0⟩:=yM ns 0 (by decide)
 obtain⟨c1,ec1⟩:=yM ns 1 (by decide)
 obtain⟨c2,ec2⟩:=yM ns 2 (by decide)
 have ec0:bu [.rol (ns.map .int),.int 0]=.ok (.int c0):=ec0
 have ec1:bu [.rol (ns.map .int),.int 1]=.ok (.int c1):=ec1
 have ec2:bu [.rol (ns.map .int),.int 2]=.ok (.int c2):=ec2
 obtain⟨many,em,m1,m48⟩:=F_many c0
 have mx:=cJ c0 28 (by decide) (by decide)
 obtain⟨u,eu,hu⟩:=gm (jb c0 28) (m:=8) (by decide)
 simp only[Int.cast_ofNat_Int] at eu
 obtain⟨acts,ea,N,hn⟩:=Og c1 (1+u) (by omega) (by omega)
 rw[Int.natCast_add] at ea
 simp only[Int.cast_ofNat_Int] at ea
 obtain⟨rs,er,RN⟩:=F_rooms c2 many m1 m48
 obtain⟨rows,ew,R⟩:=F_rowsL ns (rooms:=many) (many:=acts.length) m1 m48 N.hi
 obtain⟨lns,el,ll,T⟩:=F_lines N RN R m48 ns
 have P:Pn acts rs many rows lns:=⟨N,RN,R,m1,m48,ll,T⟩
 have Q:Pl bU many false acts rows:=⟨.inr rfl,N,R,m1,by omega⟩
 have ln:(ao acts).length=acts.length:=by simp[ao]
 have lj:(((bK acts)::lns).map List.length).sum+((bK acts)::lns).length*[10].length<=16777216:=by
  have hh:(bK acts).length<=300:=by
   have h8:=N.hi
   have sl:(([97,99,116,105,111,110,115]::acts).map List.length).sum<=([97,99,116,105,111,110,115]::acts).length*8:=oh λt ht=>by
    rcases List.mem_cons.mp ht with rfl | ht
    .decide
    .exact(N.ok t ht).2.1
   have jl:=xn [32] ([97,99,116,105,111,110,115]::acts)
   simp only[List.length_cons,List.length_nil,Nat.zero_add] at sl jl
   show (jn _ _).length<=300
   omega
  have sl:((bK acts::lns).map List.length).sum<=(bK acts::lns).length*300:=oh λt ht=>by
   rcases List.mem_cons.mp ht with rfl | ht
   .exact hh
   .obtain⟨i,hi⟩:=List.getElem?_of_mem ht
    obtain⟨_,_,_,_,_,_,_,_,_,_,_,l3⟩:=P.line hi
    exact l3
  simp only[List.length_cons,List.length_nil,Nat.zero_add] at sl ⊢
  omega
 have ej:uO (ofL [10]) (.lst (ao (bK acts::lns)))=_:=LR lj
 have fp:=F_plan P
 have ip:qu (plan bU acts rows)=some true:=rfl
 have fi:=F_isI many
 have n1:=uU (lay_ss (ts:=acts) λl hl c hc=>by have:=yq N l hl c hc;omega)
 have n2:=uU (lay_rows rows)
 have a1:∀s0 s1 s2 s3 s4 s5 s6 s7:Option Sl,oM "many" 1 lW (gv 8) aR [s0,s1,s2,s3,s4,s5,s6,s7,some (.sh (plan bU acts rows))]=.ok (.int many):=λ_ _ _ _ _ _ _ _=>yQ Q rfl
 have a2:∀s0 s1 s2 s3 s4 s5 s6 s7:Option Sl,oM "action_list" 1 (tabD bx) (gv 8) aR [s0,s1,s2,s3,s4,s5,s6,s7,some (.sh (plan bU acts rows))]=.ok (.lst (ao acts)):=λ_ _ _ _ _ _ _ _=>M_acts Q rfl
 have a3:∀s0 s1 s2 s3 s4 s5 s6 s7:Option Sl,oM "told" 1 (KJ cI) (gv 8) aR [s0,s1,s2,s3,s4,s5,s6,s7,some (.sh (plan bU acts rows))]=.ok (kO rows):=λ_ _ _ _ _ _ _ _=>yR Q rfl
 have a4:∀s0 s1 s2 s3 s4 s5 s6 s7:Option Sl,oMF "told" cI (gv 8) [s0,s1,s2,s3,s4,s5,s6,s7,some (.sh (plan bU acts rows))]=.ok (rows.map λr=>r.map Dr.d):=λ_ _ _ _ _ _ _ _=>MF_told Q rfl
 have a5:∀s0 s1 s2 s3 s4 s5 s6 s7:Option Sl,oMF "action_list" bx (gv 8) [s0,s1,s2,s3,s4,s5,s6,s7,some (.sh (plan bU acts rows))]=.ok (ao acts):=λ_ _ _ _ _ _ _ _=>MF_acts Q rfl
 have ne:(rows.map λr=>r.map Dr.d).isEmpty=false:=by
  cases rows with
  | nil=>have:=R.n;simp at this;omega
  | cons r rows=>rfl
 have rn:∀PL,rgP (.int 2) PL↔PL ((List.range 2).map λi:Nat=>D.int (i:Nat)):=λPL=>rg_n (PL:=PL) (n:=2) (by decide)
 have key:WS (F_law [] [.rol (ns.map .int)]) λd _=>d=.bl true:=by
  unfold F_law g_law
  walk_at "vs: ec0 em mx ec1 eu ea ec2 er ln ew el Ew tx_s t_nl ej rn"
  refine WS_fors (λi:Nat=>D.int (i:Nat)) (λ_ δ _=>∃x2 x7 x8,δ=[some (.sh (.rol (ns.map .int))),some (.sh (.int many)),x2,some (.sh (.lst (ao acts))),some (.sh (.lst (ao rs))),some (.sh (kO rows)),some (.sh (.str (ofL (jn [10] (bK acts::lns))))),x7,x8]) (List.range 2) ⟨_,_,_,rfl⟩ ?_ ?_
  .rintro i done rest δ μ _ ⟨x2,x7,x8,rfl⟩
   unfold Nz
   walk_at "vs-W_oM-W_oMF: fp ip a1 fi a2 n1 a3 n2 W_clrff a4 ne sExprf a5"
   split <;> exact⟨_,_,_,rfl⟩
  .rintro δ μ ⟨x2,x7,x8,rfl⟩
   walk_at "vs"
 obtain⟨a,μ',e,rfl⟩:=WS_get key
 exact⟨μ',e⟩
end K9
namespace K9
open PySem L2 MX DL
def Kq(K:Frag):Sp:=λvs H Q _=>∃(a:Addr)(ns:List Int),vs=[.ref a]/\SqL K H a (ns.map V.int)/\ns.length<=63/\∀H',Q (.bl true) H'
theorem J8{K:Frag}{Γ:Nat->Option Addr}{G:Hp}:∀ns:List Int,aC K Γ G (ns.map V.int) (ns.map D.int)
 | []=>.nil
 | n::r=>.cons (.int n) (J8 r)
theorem law_sp{P:Program}{w:World}{K:Frag}{mg:Str->Option Value}{base:Heap}{t:Ad}{f:Addr}{fd:FuncData}(F:ODs P w K mg base (Ga0 t) J_law f fd):bO P w K mg base CX0 10 f fd ["_law_script"] (Kq K):=F.imp λvs H Q E ⟨a,ns,e,hS,hl,k⟩=>by
 subst e
 obtain⟨μ,e⟩:=K5 ns hl
 refine PP (ds:=[.rol (ns.map .int)]) rfl (.cons (.rol hS (J8 ns)) .nil) e λv L' G' H' r=>?_
 cases r
 exact k H'
set_option maxHeartbeats 8000000 in
theorem all_mk{l:PySem.W.OpenLaw}{w:World}{K:Frag}{h:Heap}{mg:Str->Option Value}{fa:Addr}(X:K.In h)(G:h.Ns mainGlobals mg)(hfa:mg "law"=some (.ref fa))
(gf:GetF K){vC:Addr}(c_Door:xP K "Door" vC){je:Addr}(yZ:xP K "Must" je){oU:Addr}(Jf:xP K "May" oU){jf:Addr}(Fp:xP K "Shut" jf){jg:Addr}(Fq:xP K "Torn" jg){cR:Addr}(mH:xP K "Draft" cR){du:Addr}(gD:xP K "Plan" du)(dZ:bD K cR "actions")
(dI:bD K cR "rooms")(rR:bD K oU "to")(ni:bD K je "to")(eZ:bD K du "actions")(eO:bD K du "rooms")(nj:bD K jf "to")(nq:bD K jg "to")(z_all:nsIn K mainGlobals "all"=some none)(z_bool:nsIn K mainGlobals "bool"=some none)
(KZ:nsIn K mainGlobals "enumerate"=some none)(z_int:nsIn K mainGlobals "int"=some none)(Ik:nsIn K mainGlobals "isinstance"=some none)(z_len:nsIn K mainGlobals "len"=some none)(z_list:nsIn K mainGlobals "list"=some none)(z_range:nsIn K mainGlobals "range"=some none)
(Nk:nsIn K mainGlobals "reversed"=some none)(z_set:nsIn K mainGlobals "set"=some none)(z_str:nsIn K mainGlobals "str"=some none)(z_tuple:nsIn K mainGlobals "tuple"=some none)(By:PySem.W.mroIn K cR (.ref du)=some false)(BJ:cR≠du)(Gu:PySem.W.mroIn K du (.ref du)=some true)
{fu:Addr}(k_Must:MkF K je fu)(rF:FX K "__init__" "Door.__init__" qK fu)(k_May:MkF K oU fu){wY:Addr}(k_Shut:MkF K jf wY)(xK:FX K "__init__" "Shut.__init__" qP wY){w6:Addr}(k_Torn:MkF K jg w6)
(xN:FX K "__init__" "Torn.__init__" qR w6){mO:Addr}(k_Draft:MkF K cR mO)(oA:FX K "__init__" "Draft.__init__" nH mO)(k_Plan:MkF K du mO){wW:Addr}(Ez:findIn K (.ref je) "word"=some (some (.ref wW)))
(xH:FX K "word" "Must.word" qN wW){zr:Addr}(Jb:findIn K (.ref oU) "word"=some (some (.ref zr)))(Be:FX K "word" "May.word" tY zr){wZ:Addr}(Ff:findIn K (.ref jf) "word"=some (some (.ref wZ)))(xM:FX K "word" "Shut.word" qQ wZ)
{xf:Addr}(Fi:findIn K (.ref jg) "word"=some (some (.ref xf)))(xO:FX K "word" "Torn.word" qT xf){uD:Addr}(at_Must_needs:findIn K (.ref je) "needs"=some (some (.ref uD)))(Ih:FX K "needs" "Must.needs" nQ uD){wV:Addr}
(at_May_needs:findIn K (.ref oU) "needs"=some (some (.ref wV)))(KY:FX K "needs" "May.needs" qM wV){uE:Addr}(at_Shut_needs:findIn K (.ref jf) "needs"=some (some (.ref uE)))(Ii:FX K "needs" "Shut.needs" nR uE){uF:Addr}
(at_Torn_needs:findIn K (.ref jg) "needs"=some (some (.ref uF)))(Ij:FX K "needs" "Torn.needs" nT uF){sH:Addr}(at_Must_allows:findIn K (.ref je) "allows"=some (some (.ref sH)))(Cz:FX K "allows" "Must.allows" lC sH){uC:Addr}
(at_May_allows:findIn K (.ref oU) "allows"=some (some (.ref uC)))(Ig:FX K "allows" "May.allows" nP uC){sI:Addr}(at_Shut_allows:findIn K (.ref jf) "allows"=some (some (.ref sI)))(CG:FX K "allows" "Shut.allows" lD sI){sJ:Addr}
(at_Torn_allows:findIn K (.ref jg) "allows"=some (some (.ref sJ)))(CJ:FX K "allows" "Torn.allows" lE sJ){zu:Addr}(at_Must_led:findIn K (.ref je) "led"=some (some (.ref zu)))(Nh:FX K "led" "Must.led" tZ zu){Di:Addr}
(at_May_led:findIn K (.ref oU) "led"=some (some (.ref Di)))(Qg:FX K "led" "May.led" wA Di){zx:Addr}(at_Shut_led:findIn K (.ref jf) "led"=some (some (.ref zx)))(Ni:FX K "led" "Shut.led" t6 zx){zy:Addr}(at_Torn_led:findIn K (.ref jg) "led"=some (some (.ref zy)))
(Nj:FX K "led" "Torn.led" t7 zy){ir:Addr}(Ey:findIn K (.ref je) "told"=some (some (.ref ir)))(iw:FX K "told" "Door.told" qL ir)(Ja:findIn K (.ref oU) "told"=some (some (.ref ir)))(Fe:findIn K (.ref jf) "told"=some (some (.ref ir)))
(Fg:findIn K (.ref jg) "told"=some (some (.ref ir))){eE:Addr}(pR:findIn K (.ref cR) "action_list"=some (some (.ref eE)))(eG:FX K "action_list" "Draft.action_list" eF eE)
(rY:findIn K (.ref du) "action_list"=some (some (.ref eE))){mQ:Addr}(Br:findIn K (.ref cR) "many"=some (some (.ref mQ)))(oE:FX K "many" "Draft.many" nM mQ)(Fb:findIn K (.ref du) "many"=some (some (.ref mQ))){mR:Addr}
(Bs:findIn K (.ref cR) "told"=some (some (.ref mR)))(oG:FX K "told" "Draft.told" nO mR)(Fd:findIn K (.ref du) "told"=some (some (.ref mR))){uB:Addr}(Bq:findIn K (.ref cR) "lets_torn"=some (some (.ref uB)))
(vB:FX K "lets_torn" "Draft.lets_torn" nJ uB){wX:Addr}(EY:findIn K (.ref du) "lets_torn"=some (some (.ref wX)))(xJ:FX K "lets_torn" "Plan.lets_torn" qO wX)(inD:findIn K (.ref vC) "__init__"=some (some (.ref fu)))
(ca1:PySem.W.specialIn K (.ref vC) "__getattribute__"=some (some (.builtin "type.__getattribute__")))(ca2:PySem.W.readsIn K vC (.type "type")=true)(ca3:PySem.W.findCls K (.ref vC) (.type "type") "__init__"=some (.val (.ref fu))){C_SHUT:Addr} {dt_SHUT:Option Addr} {nt_SHUT:Nat} {st_SHUT:Array (Option Value)} {tk0_SHUT:Tok}
(Lr:nsIn K mainGlobals "SHUT"=some (some (.ref C_SHUT)))(lt_SHUT:K.lookup C_SHUT=some ⟨.type "tuple",dt_SHUT,.seq (Array.mk [.str "shut" tk0_SHUT,.none]) nt_SHUT,st_SHUT⟩){Nb:Tok}(rK:nsIn K mainGlobals "LETTERS"=some (some (.str "abcdefghijklmnopqrstuvwxyz" Nb))){tk_MS:Tok}
(iZ:nsIn K mainGlobals "MOST_SIGNS"=some (some (.int 8 tk_MS))){tk_MA:Tok}(ju:nsIn K mainGlobals "MOST_ACTIONS"=some (some (.int 8 tk_MA))){tk_MR:Tok}(mJ:nsIn K mainGlobals "MOST_ROOMS"=some (some (.int 2000 tk_MR))){tk_FIG:Tok}(vY:nsIn K mainGlobals "FIGURES"=some (some (.str "0123456789" tk_FIG)))
{O1:Addr}(PX:TX K "door_of" wC O1){O2:Addr}(P0:TX K "is_name" wD O2){v6:Addr}(wG:TX K "is_action_list" gG v6){zF:Addr}(Av:TX K "need_actions" jO zF){O3:Addr}(Qa:TX K "is_room" wF O3)
{zE:Addr}(Ar:TX K "is_told_door" jN zE){uH:Addr}(HX:TX K "need_rooms" nZ uH){Jv:Addr}(Ky:TX K "made_door" qY Jv){Jw:Addr}(Kz:TX K "made_room" qZ Jw){Jz:Addr}(KH:TX K "told_room" rB Jz)
{zB:Addr}(Aq:TX K "is_room_name" jM zB){zG:Addr}(Aw:TX K "read_actions" jP zG){Bw:Addr}(Cw:TX K "named_rooms" lF Bw){uG:Addr}(vp:TX K "is_written_door" gB uG){FZ:Addr}
(HY:TX K "read_doors" n6 FZ){Jy:Addr}(KD:TX K "read_room" rA Jy){Jx:Addr}(KC:TX K "read_plan" rm Jx){zA:Addr}(Ao:TX K "_law_cell_at" jL zA){FT:Addr}(HS:TX K "_law_mixed" nW FT)
{OJ:Addr}(PQ:TX K "_law_is" wB OJ){zz:Addr}(An:TX K "_law_actions" jK zz){FW:Addr}(HW:TX K "_law_rooms" nY FW){Ju:Addr}(Kw:TX K "_law_rows" qX Ju){Jt:Addr}(Kv:TX K "_law_many" qW Jt)
{Js:Addr}(Ku:TX K "_law_line" qU Js){FQ:Addr}(HR:TX K "_law_lines" nU FQ){f_law:Addr}(t_law:TX K "law" s_law f_law)
:∃fd:FuncData,(∀(s:Shared)(v:Value),BindsTo s fd ⟨[v],[]⟩ [("_law_script",v)])/\∀base:Heap,K.In base->base.Ns mainGlobals mg->bO l.prog w K mg base CX0 10 fa fd ["_law_script"] (Kq K):=by
 have e:=hfa.symm.trans (mg_of X G t_law.m)
 cases e
 let t:Ad:=⟨vC,je,oU,jf,jg,cR,du⟩
 have Bx:=kit_f gD.ty gD.cd.choose_spec BJ By
 have Gn:=kit_t gD.ty gD.cd.choose_spec Gu
 have T:Txt K mg t:=⟨mg_of X G c_Door.a,c_Door.i gf,mg_of X G yZ.a,yZ.i gf,mg_of X G Jf.a,Jf.i gf,mg_of X G Fp.a,Fp.i gf,mg_of X G Fq.a,Fq.i gf,mg_of X G mH.a,mH.i gf,mg_of X G gD.a,gD.i gf,dZ,dI,rR,ni,eZ,eO,nj,nq,mg_none_of X G z_all,mg_none_of X G z_bool,mg_none_of X G KZ,mg_none_of X G z_int,mg_none_of X G Ik,mg_none_of X G z_len,mg_none_of X G z_list,mg_none_of X G z_range,mg_none_of X G Nk,mg_none_of X G z_set,mg_none_of X G z_str,mg_none_of X G z_tuple,(λL=>isiE_ok gD.ty gD.cd ⟨⟨cR,rfl,mH.i gf,Bx⟩,⟨du,rfl,gD.i gf,Gn⟩,trivial⟩),(λL=>uN tt_bool trivial),(λL=>uN tt_int trivial),(λL=>uN tt_list trivial),(λL=>uN tt_str trivial),(λL=>uN tt_tuple trivial),⟨_,mg_of X G vY,⟨_,rfl⟩⟩,⟨_,mg_of X G rK,⟨_,rfl⟩⟩,⟨_,mg_of X G ju,⟨_,rfl⟩⟩,⟨_,mg_of X G mJ,⟨_,rfl⟩⟩,⟨_,mg_of X G iZ,⟨_,rfl⟩⟩,⟨_,mg_of X G Lr,_,_,_,lt_SHUT,rfl,rfl,(by show 2<=sizeLine;decide),.cons ⟨_,rfl⟩ (.cons rfl (.nil))⟩⟩
 obtain⟨fd_Door_init,jZ⟩:=rF.ex
 obtain⟨fd_Shut_init,wL⟩:=xK.ex
 obtain⟨fd_Torn_init,wN⟩:=xN.ex
 obtain⟨fd_Draft_init,iY⟩:=oA.ex
 obtain⟨fd_Must_word,wJ⟩:=xH.ex
 obtain⟨fd_May_word,yV⟩:=Be.ex
 obtain⟨fd_Shut_word,wM⟩:=xM.ex
 obtain⟨fd_Torn_word,wO⟩:=xO.ex
 obtain⟨fd_Must_needs,Es⟩:=Ih.ex
 obtain⟨fd_May_needs,IV⟩:=KY.ex
 obtain⟨fd_Shut_needs,Et⟩:=Ii.ex
 obtain⟨fd_Torn_needs,Eu⟩:=Ij.ex
 obtain⟨fd_Must_allows,Bm⟩:=Cz.ex
 obtain⟨fd_May_allows,Er⟩:=Ig.ex
 obtain⟨fd_Shut_allows,Bo⟩:=CG.ex
 obtain⟨fd_Torn_allows,Bp⟩:=CJ.ex
 obtain⟨fd_Must_led,Li⟩:=Nh.ex
 obtain⟨fd_May_led,Ol⟩:=Qg.ex
 obtain⟨fd_Shut_led,Lj⟩:=Ni.ex
 obtain⟨fd_Torn_led,Lk⟩:=Nj.ex
 obtain⟨fd_Door_told,ig⟩:=iw.ex
 obtain⟨JB,d7⟩:=eG.ex
 obtain⟨fd_Draft_many,mD⟩:=oE.ex
 obtain⟨fd_Draft_told,mF⟩:=oG.ex
 obtain⟨fd_Draft_lets,ul⟩:=vB.ex
 obtain⟨fd_Plan_lets,wK⟩:=xJ.ex
 obtain⟨fd,U_law⟩:=t_law.x.ex
 refine⟨fd,λs v=>?_,λbase _ _=>law_sp (t:=t) ?_⟩
 .obtain⟨oc,od,kV,doc,pm,an,cdv,ct,osl,e,_⟩:=U_law.ex
  subst e
  exact .of_eq rfl
 have jX:=Gz (P:=l.prog) (w:=w) (mg:=mg) (base:=base) jZ
 have j4:=bd2 (ps:=["self","to"]) jZ
 have ca:yp K t.Door "__init__" (.ref fu):=⟨ca1,ca2,ca3⟩
 have vP:IniA l.prog w K mg base t.Must 1 ["self","to"] (λL=>spI K (Ga t L) lJ 1 pF):=⟨_,_,k_Must.k rF,λL=>ok_to (L:=L) (t:=t) jX rfl (yZ.i gf).cls ni,j4⟩
 have CP:IniA l.prog w K mg base t.May 1 ["self","to"] (λL=>spI K (Ga t L) vX 1 CN):=⟨_,_,k_May.k rF,λL=>ok_to (L:=L) (t:=t) jX rfl (Jf.i gf).cls rR,j4⟩
 have vQ:IniA l.prog w K mg base t.Shut 2 ["self"] (λL=>spI K (Ga t L) j6 0 pG):=⟨_,_,k_Shut.k xK,λL=>GK (L:=L) (P:=l.prog) (w:=w) (base:=base) wL T jX ca jZ.kp j4,bd1 wL⟩
 have vR:IniA l.prog w K mg base t.Torn 2 ["self"] (λL=>spI K (Ga t L) j7 0 tG):=⟨_,_,k_Torn.k xN,λL=>GQ (L:=L) (P:=l.prog) (w:=w) (base:=base) wN T jX ca jZ.kp j4,bd1 wN⟩
 have Iw:=λL:Plc=>GF (L:=L) (P:=l.prog) (w:=w) (base:=base) (t:=t) wJ T
 have Lh:=λL:Plc=>J0 (L:=L) (P:=l.prog) (w:=w) (base:=base) (t:=t) yV T
 have Iz:=λL:Plc=>GP (L:=L) (P:=l.prog) (w:=w) (base:=base) (t:=t) wM T
 have IK:=λL:Plc=>GR (L:=L) (P:=l.prog) (w:=w) (base:=base) (t:=t) wO T
 have O_Must_needs:=λL:Plc=>BV (L:=L) (P:=l.prog) (w:=w) (base:=base) (t:=t) Es T
 have O_May_needs:=λL:Plc=>GD (L:=L) (P:=l.prog) (w:=w) (base:=base) (t:=t) IV T
 have O_Shut_needs:=λL:Plc=>BW (L:=L) (P:=l.prog) (w:=w) (base:=base) (t:=t) Et T
 have O_Torn_needs:=λL:Plc=>BX (L:=L) (P:=l.prog) (w:=w) (base:=base) (t:=t) Eu T
 have O_Must_allows:=λL:Plc=>z7 (L:=L) (P:=l.prog) (w:=w) (base:=base) (t:=t) Bm T
 have O_May_allows:=λL:Plc=>BR (L:=L) (P:=l.prog) (w:=w) (base:=base) (t:=t) Er T
 have O_Shut_allows:=λL:Plc=>z8 (L:=L) (P:=l.prog) (w:=w) (base:=base) (t:=t) Bo T
 have O_Torn_allows:=λL:Plc=>z9 (L:=L) (P:=l.prog) (w:=w) (base:=base) (t:=t) Bp T
 have O_Must_led:=λL:Plc=>J1 (L:=L) (P:=l.prog) (w:=w) (base:=base) (t:=t) Li T (vP.at L)
 have O_May_led:=λL:Plc=>Mp (L:=L) (P:=l.prog) (w:=w) (base:=base) (t:=t) Ol T (CP.at L)
 have O_Shut_led:=λL:Plc=>J2 (L:=L) (P:=l.prog) (w:=w) (base:=base) (t:=t) Lj T (vQ.at L)
 have O_Torn_led:=λL:Plc=>J3 (L:=L) (P:=l.prog) (w:=w) (base:=base) (t:=t) Lk T (vR.at L)
 have Lf:∀L:Plc,iB l.prog w K mg base (Ga t L) "word" (spD K (Ga t L) 1) 1 vq:=λL=>⟨⟨je,_,_,_,rfl,(yZ.i gf).cls,xH.me Ez,(Iw L).mono (by decide),bd1 wJ⟩,⟨oU,_,_,_,rfl,(Jf.i gf).cls,Be.me Jb,(Lh L).mono (by decide),bd1 yV⟩,⟨jf,_,_,_,rfl,(Fp.i gf).cls,xM.me Ff,(Iz L).mono (by decide),bd1 wM⟩,⟨jg,_,_,_,rfl,(Fq.i gf).cls,xO.me Fi,(IK L).mono (by decide),bd1 wO⟩,trivial⟩
 have jY:=λL:Plc=>GC (L:=L) (P:=l.prog) (w:=w) (base:=base) (t:=t) ig T (Lf L)
 walk_at "d vH DA' vM Mr U_door_of PX bd3 vP.at CP.at vR.at vQ.at"
 walk_at "d vI DA' vN Ms U_is_name P0 bd1 "
 walk_at "d bY DA' dR uV U_is_action_list wG bd1 vI.at"
 walk_at "d fH DA' jo ye U_need_actions Av bd1 bY.at"
 walk_at "d vJ DA' vO Mt U_is_room Qa bd2 "
 walk_at "d ji DA' jm yd U_is_told_door Ar bd3 vJ.at"
 walk_at "d iU DA' my Ce U_need_rooms HX bd3 ji.at"
 walk_at "d oY DA' pK G8 U_made_door Ky bd1 vH.at"
 walk_at "d jU DA' pL G9 U_made_room Kz bd1 oY.at"
 have yR:∀L:Plc,iB l.prog w K mg base (Ga t L) "told" (spD K (Ga t L) 1) 2 rD:=λL=>⟨⟨je,_,_,_,rfl,(yZ.i gf).cls,iw.me Ey,(jY L).mono (by decide),bd1 ig⟩,⟨oU,_,_,_,rfl,(Jf.i gf).cls,iw.me Ja,(jY L).mono (by decide),bd1 ig⟩,⟨jf,_,_,_,rfl,(Fp.i gf).cls,iw.me Fe,(jY L).mono (by decide),bd1 ig⟩,⟨jg,_,_,_,rfl,(Fq.i gf).cls,iw.me Fg,(jY L).mono (by decide),bd1 ig⟩,trivial⟩
 walk_at "d pq DAf pO Hd U_told_room KH bd1 yR"
 have N_Draft:IniA l.prog w K mg base t.Draft 7 ["self","actions","rows"] (λL=>spI K (Ga t L) cz 2 I_Draft):=⟨_,_,k_Draft.k oA,λL=>tB (L:=L) (t:=t) iY T (fH.at L) (iU.at L) (jU.at L) rfl (mH.i gf).cls dZ dI (vB.me Bq) (BK ul) (bd1 ul),bd3 iY⟩
 have Lg:IniA l.prog w K mg base t.Plan 7 ["self","actions","rows"] (λL=>spI K (Ga t L) bU 2 Ei):=⟨_,_,k_Plan.k oA,λL=>tB (L:=L) (t:=t) iY T (fH.at L) (iU.at L) (jU.at L) rfl (gD.i gf).cls eZ eO (xJ.me EY) (GJ wK) (bd1 wK),bd3 iY⟩
 have iQ:=λL:Plc=>qI (L:=L) (P:=l.prog) (w:=w) (base:=base) (t:=t) d7 T
 have ug:=λL:Plc=>BL (L:=L) (P:=l.prog) (w:=w) (base:=base) (t:=t) mD T
 have uh:=λL:Plc=>BP (L:=L) (P:=l.prog) (w:=w) (base:=base) (t:=t) mF T (pq.at L)
 walk_at "d cN DA' fU yc U_is_room_name Aq bd1 "
 walk_at "d jj DA' jq yf U_read_actions Aw bd1 bY.at"
 walk_at "d kY DA' kZ Aa U_named_rooms Cw bd1 "
 walk_at "d fG DA' fV tW U_is_written_door vp bd3 cN.at"
 walk_at "d lZ DA' mz Cg U_read_doors HY bd3 fG.at"
 walk_at "d ph DA' pN Hc U_read_room KD bd4 cN.at lZ.at"
 walk_at "d oZ DA' pM Hb U_read_plan KC bd1 jj.at kY.at ph.at Lg.at"
 walk_at "d bf DA' dD xZ U__law_cell_at Ao bd2 "
 walk_at "d aG DA' cB Ca U__law_mixed HS bd2 "
 walk_at "d vG DA' vL Mq U__law_is PQ bd2 "
 walk_at "d jh DA' jk xY U__law_actions An bd2 aG.at"
 walk_at "d lY DA' mq Cd U__law_rooms HW bd2 aG.at"
 walk_at "d oX DA' pJ G7 U__law_rows Kw bd3 bf.at aG.at"
 walk_at "d oW DA' pI GZ U__law_many Kv bd1 aG.at"
 walk_at "d oV DA' pH GX U__law_line Ku bd5 aG.at"
 walk_at "d lX DA' mj BZ U__law_lines HR bd4 bf.at oV.at"
 have yQ:∀L:Plc,iB l.prog w K mg base (Ga t L) "many" (spD K (Ga t L) 1) 1 lW:=λL=>⟨⟨cR,_,_,_,rfl,(mH.i gf).cls,oE.me Br,(ug L).mono (by decide),bd1 mD⟩,⟨du,_,_,_,rfl,(gD.i gf).cls,oE.me Fb,(ug L).mono (by decide),bd1 mD⟩,trivial⟩
 have gK:∀L:Plc,iB l.prog w K mg base (Ga t L) "action_list" (spF K (Ga t L) 1) 1 bx:=λL=>⟨⟨cR,_,_,_,rfl,(mH.i gf).cls,eG.me pR,(iQ L).mono (by decide),bd1 d7⟩,⟨du,_,_,_,rfl,(gD.i gf).cls,eG.me rY,(iQ L).mono (by decide),bd1 d7⟩,trivial⟩
 have uf:∀L:Plc,iB l.prog w K mg base (Ga t L) "told" (spFF K (Ga t L) 1) 4 cI:=λL=>⟨⟨cR,_,_,_,rfl,(mH.i gf).cls,oG.me Bs,(uh L).mono (by decide),bd1 mF⟩,⟨du,_,_,_,rfl,(gD.i gf).cls,oG.me Fd,(uh L).mono (by decide),bd1 mF⟩,trivial⟩
 exact ok_law U_law T oW bf aG jh lY oX lX oZ vG yQ gK uf
theorem walk{l:PySem.W.OpenLaw}{q:Program}{loose:List Str}{XP:(Str->Option Value)->Heap->Prop}{YP:World->Heap->Prop}{d:DefRec}{K:Params->Frag}(hn:l.most=some 63)(hdf:d.params.defaults=[])
  (hY:∀(w:World)(h:Heap),YP w h->(K w.params).In h)
  (F:∀(w:World)(mg:Str->Option Value)(fa:Addr)(h:Heap),(K w.params).In h->h.Ns mainGlobals mg->mg d.name=some (.ref fa) ->
   ∃fd:FuncData,(∀(s:Shared)(u:Value),BindsTo s fd ⟨[u],[]⟩ [("_law_script",u)])/\∀base:Heap,(K w.params).In base->base.Ns mainGlobals mg->bO l.prog w (K w.params) mg base CX0 10 fa fd ["_law_script"] (Kq (K w.params))) :
  PySem.W.WalkO q loose XP YP l.row.toRowW d [] (λf vs=>PySem.call f vs) :=
 L2.walk_of (n:=63) (k:=10) (x:="_law_script") (CX:=λ_=>CX0) (sp:=λw=>Kq (K w.params)) hn (by decide) hdf ⟨rfl,by decide,by decide⟩ hY F (λ_ _ a ns hl _ hS=>⟨a,ns,rfl,hS,hl,λ_=>rfl⟩) λ_ _ _ _ _ z=>z
end K9
namespace K9
open PySem PySem.W L2
noncomputable abbrev pw:Program:=PySem.Challenge.pw_mustmay_k11_plans_read
noncomputable section
noncomputable abbrev hI(i:Int):Value:=.int i 0
noncomputable abbrev hS(x:Str)(t:Nat):Value:=.str x t
noncomputable abbrev hR(a:Addr):Value:=.ref a
noncomputable abbrev hE(P:Params)(x:Str)(t:Nat)(v:Value):DictEntry:=⟨PyData.keyHash P x,.str x t,v⟩
noncomputable abbrev hT(xs:List Value):Obj:=⟨.type "tuple",none,.seq (Array.mk xs) 0,Array.mk []⟩
noncomputable abbrev hN(xs:List Value):Obj:=⟨.none,none,.fields (Array.mk xs),Array.mk []⟩
noncomputable abbrev hK(xs:List Value):Obj:=⟨.type "code",none,.fields (Array.mk xs),Array.mk []⟩
noncomputable abbrev hDn(n:Nat)(es:List DictEntry):Obj:=⟨.type "dict",none,.dict (Array.mk es) n,Array.mk []⟩
noncomputable abbrev hC(n q:Str)(s:Stmt):Obj:=⟨.none,none,.func ⟨n,q,j8 s,.stmts (cU s),aq s,0,[],.none,.none,.none,.none,none,.none,.none,0⟩,Array.mk []⟩
noncomputable abbrev hF(n q:Str)(s:Stmt)(pm cd:Value):Obj:=⟨.type "function",none,.func ⟨n,q,j8 s,.stmts (cU s),aq s,3,[],.none,.none,.none,pm,none,cd,.none,0⟩,Array.mk []⟩
noncomputable abbrev nn(o:Obj)(a b:BT):BT:=.node o a b
noncomputable abbrev lf(o:Obj):BT:=.node o .nil .nil
noncomputable abbrev hQ(n q:Str)(t:Nat)(l a:Int)(r:Nat)(u v w:Value)(x:Nat):Obj:=hK [hS n t,hS q (t+1),hS "/claim/cut.py" (t+2),hI l,hI a,hI 0,hI 0,hI 3,hR r,.bool true,hI 181,hR (r+1),.none,u,v,w,hI x,hI l,hS "/claim/cut.py" (x+1)]
noncomputable abbrev hW(a b:Addr)(m:Value):Obj:=⟨.type "frame",none,.plain,Array.mk [some (hR a),some (hR 3),some (hR b),none,some m,none,some (hR 0)]⟩
noncomputable abbrev hG(n:Nat)(a:Addr):Obj:=⟨.type "getset_descriptor",none,.fields (Array.mk [hS "__dict__" n,hR a,.builtin "function.__dict__",.builtin "function.__dict__#set"]),Array.mk []⟩
noncomputable abbrev hV(n:Nat)(a:Addr):Obj:=⟨.type "getset_descriptor",none,.fields (Array.mk [hS "__weakref__" n,hR a,.builtin "ExceptionGroup.__weakref__",.none]),Array.mk []⟩
def ev2:Bool->List Obj->List Obj
 | _,[]=>[]
 | true,x::r=>x::ev2 false r
 | false,_::r=>ev2 true r
def bt:Nat->List Obj->BT
 | 0,_=>.nil
 | _,[]=>.nil
 | n+1,x::r=>.node x (bt n (ev2 true r)) (bt n (ev2 false r))
variable(P:Params)
def o0:=hK [hS "<module>" 182,hS "<module>" 183,hS "/claim/cut.py" 184,hI 1,hI 0,hI 0,hI 0,hI 0,hR 11,.bool false,hI 181,hR 12,.none,.none,.none,.none,hI 185,hI 1,hS "/claim/cut.py" 186]
def o1:=hW 13 3 (hS "__main__" 164)
def o2:=hDn 53 [hE P "__name__" 165 (hS "law_mustmay_k11_plans_read" 760),hE P "__doc__" 166 .none,hE P "__package__" 167 .none,hE P "__loader__" 168 (.builtin "__main__.__loader__#opaque"),hE P "__spec__" 169 .none,hE P "__annotations__" 170 (hR 6),hE P "__builtins__" 171 (hR 4),hE P "__file__" 173 (hS "/claim/cut.py" 172),hE P "__cached__" 174 .none,hE P "_wall" 193 (hR 21),hE P "HallError" 213 (hR 31),hE P "BadPlan" 240 (hR 51),hE P "NoText" 265 (hR 70),hE P "Door" 303 (hR 96),hE P "Must" 348 (hR 138),hE P "May" 393 (hR 178),hE P "Shut" 445 (hR 225),hE P "Torn" 497 (hR 272),hE P "door_of" 506 (hR 281),hE P "LETTERS" 510 (hS "abcdefghijklmnopqrstuvwxyz" 509),hE P "MOST_SIGNS" 512 (.int (8) 511),hE P "MOST_ACTIONS" 514 (.int (8) 513),hE P "MOST_ROOMS" 516 (.int (2000) 515),hE P "is_name" 522 (hR 286),hE P "is_action_list" 528 (hR 291),hE P "need_actions" 535 (hR 298),hE P "is_room" 543 (hR 305),hE P "is_told_door" 553 (hR 312),hE P "need_rooms" 566 (hR 319),hE P "made_door" 574 (hR 326),hE P "made_room" 580 (hR 331),hE P "told_room" 586 (hR 336),hE P "Draft" 666 (hR 398),hE P "Plan" 689 (hR 419),hE P "FIGURES" 693 (hS "0123456789" 692),hE P "SHUT" 695 (hR 422),hE P "is_room_name" 701 (hR 427),hE P "read_actions" 709 (hR 434),hE P "named_rooms" 719 (hR 441),hE P "is_written_door" 728 (hR 448),hE P "read_doors" 734 (hR 453),hE P "read_room" 745 (hR 460),hE P "read_plan" 759 (hR 467),hE P "_law_cell_at" 769 (hR 474),hE P "_law_mixed" 778 (hR 481),hE P "_law_is" 786 (hR 488),hE P "_law_actions" 800 (hR 495),hE P "_law_rooms" 806 (hR 500),hE P "_law_rows" 821 (hR 507),hE P "_law_many" 829 (hR 514),hE P "_law_line" 845 (hR 521),hE P "_law_lines" 858 (hR 528),hE P "law" 873 (hR 535)]
def o3:=hN [hI 1,hI 0,hR 20,hI 5,hI 0,hR 27,hI 7,hI 0,hR 40,hI 13,hI 0,hR 59,hI 19,hI 0,hR 78,hI 26,hI 0,hR 106,hI 39,hI 0,hR 146,hI 52,hI 0,hR 186,hI 68,hI 0,hR 233,hI 84,hI 0,hR 280,hI 97,hI 0,hR 285,hI 101,hI 0,hR 290,hI 105,hI 0,hR 297,hI 108,hI 0,hR 304,hI 110,hI 0,hR 311,hI 119,hI 0,hR 318,hI 128,hI 0,hR 325,hI 131,hI 0,hR 330,hI 133,hI 0,hR 335,hI 135,hI 0,hR 342,hI 164,hI 0,hR 408,hI 171,hI 0,hR 426,hI 175,hI 0,hR 433,hI 180,hI 0,hR 440,hI 186,hI 0,hR 447,hI 190,hI 0,hR 452,hI 205,hI 0,hR 459,hI 210,hI 0,hR 466,hI 226,hI 0,hR 473,hI 230,hI 0,hR 480,hI 234,hI 0,hR 487,hI 236,hI 0,hR 494,hI 248,hI 0,hR 499,hI 264,hI 0,hR 506,hI 274,hI 0,hR 513,hI 279,hI 0,hR 520,hI 292,hI 0,hR 527,hI 298,hI 0,hR 534]
def o4:=hT [hS "k" 190]
def o5:=hC "_wall" "_wall" (top 0)
def o6:=hQ "_wall" "_wall" 187 1 1 15 (hR 17) (hR 18) (hR 19) 191
def o7:=hF "_wall" "_wall" (top 0) (hS "__main__" 164) (hR 20)
def o8:=hT [.type "ValueError"]
def o9:Obj:=⟨(.type "builtin_function_or_method"),none,(.fields (Array.mk [.builtin "type.__prepare__",.type "type"])),Array.mk []⟩
def o10:=hDn 4 [hE P "__module__" 203 (hS "mustmay.errors" 194),hE P "__qualname__" 205 (hS "HallError" 204),hE P "__firstlineno__" 207 (.int (5) 206),hE P "__static_attributes__" 208 (hR 29)]
def o11:=hK [hS "HallError" 198,hS "HallError" 199,hS "/claim/cut.py" 200,hI 5,hI 0,hI 0,hI 0,hI 0,hR 25,.bool false,hI 181,hR 26,.none,.none,.none,.none,hI 201,hI 5,hS "/claim/cut.py" 202]
def o12:=hW 27 24 (hS "mustmay.errors" 194)
def o13:=hDn 3 [hE P "__module__" 203 (hS "mustmay.errors" 194),hE P "__firstlineno__" 207 (.int (5) 206),hE P "__static_attributes__" 208 (hR 29),hE P "__weakref__" 210 (hR 32),hE P "__doc__" 211 .none]
def o14:Obj:=⟨(.type "type"),none,(.cls ⟨"HallError",[.type "ValueError"],[hR 31,.type "ValueError",.type "Exception",.type "BaseException",.type "object"],30,"HallError",true,[],[hR 51,hR 70],false,none,false⟩),Array.mk [some (hR 22),none,some (hS "HallError" 196),some (hS "HallError" 204),some (.builtin "ValueError.__new__"),some (.bool true)]⟩
def o15:=hV 209 31
def o16:Obj:=⟨(.type "super"),none,(.fields (Array.mk [hR 31,hR 31,hR 31])),Array.mk []⟩
def o17:Obj:=⟨(.type "builtin_function_or_method"),none,(.fields (Array.mk [.builtin "object.__init_subclass__",hR 31])),Array.mk []⟩
def o18:=hDn 5 [hE P "__module__" 221 (hS "mustmay.errors" 194),hE P "__qualname__" 223 (hS "BadPlan" 222),hE P "__firstlineno__" 225 (.int (7) 224),hE P "__init__" 234 (hR 48),hE P "__static_attributes__" 237 (hR 49)]
def o19:=hN [hI 9,hI 4,hR 47]
def o20:=hK [hS "BadPlan" 216,hS "BadPlan" 217,hS "/claim/cut.py" 218,hI 7,hI 0,hI 0,hI 0,hI 0,hR 38,.bool false,hI 181,hR 39,.none,.none,.none,.none,hI 219,hI 7,hS "/claim/cut.py" 220]
def o21:=hW 40 37 (hS "mustmay.errors" 194)
def o22:=hT [hS "self" 229,hS "room" 230,hS "action" 231]
def o23:=hC "__init__" "BadPlan.__init__" (inClass (top 3) 0)
def o24:=hQ "__init__" "BadPlan.__init__" 226 9 3 42 (hR 44) (hR 45) (hR 46) 232
def o25:=hF "__init__" "BadPlan.__init__" (inClass (top 3) 0) (hS "mustmay.errors" 194) (hR 47)
def o26:=hT [hS "action" 235,hS "room" 236]
def o27:=hDn 2 [hE P "__module__" 221 (hS "mustmay.errors" 194),hE P "__firstlineno__" 225 (.int (7) 224),hE P "__init__" 234 (hR 48),hE P "__static_attributes__" 237 (hR 49),hE P "__doc__" 238 .none]
def o28:Obj:=⟨(.type "type"),none,(.cls ⟨"BadPlan",[hR 31],[hR 51,hR 31,.type "ValueError",.type "Exception",.type "BaseException",.type "object"],50,"BadPlan",true,[],[],false,none,false⟩),Array.mk [some (hR 35),none,some (hS "BadPlan" 214),some (hS "BadPlan" 222),some (.builtin "ValueError.__new__"),some (.bool true)]⟩
def o29:Obj:=⟨(.type "super"),none,(.fields (Array.mk [hR 51,hR 51,hR 51])),Array.mk []⟩
def o30:Obj:=⟨(.type "builtin_function_or_method"),none,(.fields (Array.mk [.builtin "object.__init_subclass__",hR 51])),Array.mk []⟩
def o31:=hDn 5 [hE P "__module__" 248 (hS "mustmay.errors" 194),hE P "__qualname__" 250 (hS "NoText" 249),hE P "__firstlineno__" 252 (.int (13) 251),hE P "__init__" 260 (hR 67),hE P "__static_attributes__" 262 (hR 68)]
def o32:=hN [hI 15,hI 4,hR 66]
def o33:=hK [hS "NoText" 243,hS "NoText" 244,hS "/claim/cut.py" 245,hI 13,hI 0,hI 0,hI 0,hI 0,hR 57,.bool false,hI 181,hR 58,.none,.none,.none,.none,hI 246,hI 13,hS "/claim/cut.py" 247]
def o34:=hW 59 56 (hS "mustmay.errors" 194)
def o35:=hT [hS "self" 256,hS "line" 257]
def o36:=hC "__init__" "NoText.__init__" (inClass (top 4) 0)
def o37:=hQ "__init__" "NoText.__init__" 253 15 2 61 (hR 63) (hR 64) (hR 65) 258
def o38:=hF "__init__" "NoText.__init__" (inClass (top 4) 0) (hS "mustmay.errors" 194) (hR 66)
def o39:=hT [hS "line" 261]
def o40:=hDn 2 [hE P "__module__" 248 (hS "mustmay.errors" 194),hE P "__firstlineno__" 252 (.int (13) 251),hE P "__init__" 260 (hR 67),hE P "__static_attributes__" 262 (hR 68),hE P "__doc__" 263 .none]
def o41:Obj:=⟨(.type "type"),none,(.cls ⟨"NoText",[hR 31],[hR 70,hR 31,.type "ValueError",.type "Exception",.type "BaseException",.type "object"],69,"NoText",true,[],[],false,none,false⟩),Array.mk [some (hR 54),none,some (hS "NoText" 241),some (hS "NoText" 249),some (.builtin "ValueError.__new__"),some (.bool true)]⟩
def o42:Obj:=⟨(.type "super"),none,(.fields (Array.mk [hR 70,hR 70,hR 70])),Array.mk []⟩
def o43:Obj:=⟨(.type "builtin_function_or_method"),none,(.fields (Array.mk [.builtin "object.__init_subclass__",hR 70])),Array.mk []⟩
def o44:=hDn 6 [hE P "__module__" 275 (hS "mustmay.doors" 266),hE P "__qualname__" 277 (hS "Door" 276),hE P "__firstlineno__" 279 (.int (19) 278),hE P "__init__" 287 (hR 86),hE P "told" 294 (hR 93),hE P "__static_attributes__" 296 (hR 94)]
def o45:=hN [hI 21,hI 4,hR 85,hI 24,hI 4,hR 92]
def o46:=hK [hS "Door" 270,hS "Door" 271,hS "/claim/cut.py" 272,hI 19,hI 0,hI 0,hI 0,hI 0,hR 76,.bool false,hI 181,hR 77,.none,.none,.none,.none,hI 273,hI 19,hS "/claim/cut.py" 274]
def o47:=hW 78 75 (hS "mustmay.doors" 266)
def o48:=hT [hS "self" 283,hS "to" 284]
def o49:=hC "__init__" "Door.__init__" (inClass (top 6) 0)
def o50:=hQ "__init__" "Door.__init__" 280 21 2 80 (hR 82) (hR 83) (hR 84) 285
def o51:=hF "__init__" "Door.__init__" (inClass (top 6) 0) (hS "mustmay.doors" 266) (hR 85)
def o52:=hT [hS "self" 291]
def o53:=hC "told" "Door.told" (inClass (top 6) 1)
def o54:=hQ "told" "Door.told" 288 24 1 87 (hR 89) (hR 90) (hR 91) 292
def o55:=hF "told" "Door.told" (inClass (top 6) 1) (hS "mustmay.doors" 266) (hR 92)
def o56:=hT [hS "to" 295]
def o57:=hDn 4 [hE P "__module__" 275 (hS "mustmay.doors" 266),hE P "__firstlineno__" 279 (.int (19) 278),hE P "__init__" 287 (hR 86),hE P "told" 294 (hR 93),hE P "__static_attributes__" 296 (hR 94),hE P "__dict__" 298 (hR 97),hE P "__weakref__" 300 (hR 98),hE P "__doc__" 301 .none]
def o58:Obj:=⟨(.type "type"),none,(.cls ⟨"Door",[.type "object"],[hR 96,.type "object"],95,"Door",true,[],[hR 138,hR 178,hR 225,hR 272],false,none,false⟩),Array.mk [none,none,some (hS "Door" 268),some (hS "Door" 276),some (.builtin "object.__new__"),some (.bool true)]⟩
def o59:=hG 297 96
def o60:=hV 299 96
def o61:Obj:=⟨(.type "super"),none,(.fields (Array.mk [hR 96,hR 96,hR 96])),Array.mk []⟩
def o62:Obj:=⟨(.type "builtin_function_or_method"),none,(.fields (Array.mk [.builtin "object.__init_subclass__",hR 96])),Array.mk []⟩
def o63:=hDn 8 [hE P "__module__" 311 (hS "mustmay.doors" 266),hE P "__qualname__" 313 (hS "Must" 312),hE P "__firstlineno__" 315 (.int (26) 314),hE P "word" 322 (hR 114),hE P "needs" 329 (hR 121),hE P "allows" 336 (hR 128),hE P "led" 344 (hR 135),hE P "__static_attributes__" 345 (hR 136)]
def o64:=hN [hI 28,hI 4,hR 113,hI 31,hI 4,hR 120,hI 34,hI 4,hR 127,hI 37,hI 4,hR 134]
def o65:=hK [hS "Must" 306,hS "Must" 307,hS "/claim/cut.py" 308,hI 26,hI 0,hI 0,hI 0,hI 0,hR 104,.bool false,hI 181,hR 105,.none,.none,.none,.none,hI 309,hI 26,hS "/claim/cut.py" 310]
def o66:=hW 106 103 (hS "mustmay.doors" 266)
def o67:=hT [hS "self" 319]
def o68:=hC "word" "Must.word" (inClass (top 7) 0)
def o69:=hQ "word" "Must.word" 316 28 1 108 (hR 110) (hR 111) (hR 112) 320
def o70:=hF "word" "Must.word" (inClass (top 7) 0) (hS "mustmay.doors" 266) (hR 113)
def o71:=hT [hS "self" 326]
def o72:=hC "needs" "Must.needs" (inClass (top 7) 1)
def o73:=hQ "needs" "Must.needs" 323 31 1 115 (hR 117) (hR 118) (hR 119) 327
def o74:=hF "needs" "Must.needs" (inClass (top 7) 1) (hS "mustmay.doors" 266) (hR 120)
def o75:=hT [hS "self" 333]
def o76:=hC "allows" "Must.allows" (inClass (top 7) 2)
def o77:=hQ "allows" "Must.allows" 330 34 1 122 (hR 124) (hR 125) (hR 126) 334
def o78:=hF "allows" "Must.allows" (inClass (top 7) 2) (hS "mustmay.doors" 266) (hR 127)
def o79:=hT [hS "self" 340,hS "to" 341]
def o80:=hC "led" "Must.led" (inClass (top 7) 3)
def o81:=hQ "led" "Must.led" 337 37 2 129 (hR 131) (hR 132) (hR 133) 342
def o82:=hF "led" "Must.led" (inClass (top 7) 3) (hS "mustmay.doors" 266) (hR 134)
def o83:=hDn 2 [hE P "__module__" 311 (hS "mustmay.doors" 266),hE P "__firstlineno__" 315 (.int (26) 314),hE P "word" 322 (hR 114),hE P "needs" 329 (hR 121),hE P "allows" 336 (hR 128),hE P "led" 344 (hR 135),hE P "__static_attributes__" 345 (hR 136),hE P "__doc__" 346 .none]
def o84:Obj:=⟨(.type "type"),none,(.cls ⟨"Must",[hR 96],[hR 138,hR 96,.type "object"],137,"Must",true,[],[],false,none,false⟩),Array.mk [some (hR 101),none,some (hS "Must" 304),some (hS "Must" 312),some (.builtin "object.__new__"),some (.bool true)]⟩
def o85:Obj:=⟨(.type "super"),none,(.fields (Array.mk [hR 138,hR 138,hR 138])),Array.mk []⟩
def o86:Obj:=⟨(.type "builtin_function_or_method"),none,(.fields (Array.mk [.builtin "object.__init_subclass__",hR 138])),Array.mk []⟩
def o87:=hDn 8 [hE P "__module__" 356 (hS "mustmay.doors" 266),hE P "__qualname__" 358 (hS "May" 357),hE P "__firstlineno__" 360 (.int (39) 359),hE P "word" 367 (hR 154),hE P "needs" 374 (hR 161),hE P "allows" 381 (hR 168),hE P "led" 389 (hR 175),hE P "__static_attributes__" 390 (hR 176)]
def o88:=hN [hI 41,hI 4,hR 153,hI 44,hI 4,hR 160,hI 47,hI 4,hR 167,hI 50,hI 4,hR 174]
def o89:=hK [hS "May" 351,hS "May" 352,hS "/claim/cut.py" 353,hI 39,hI 0,hI 0,hI 0,hI 0,hR 144,.bool false,hI 181,hR 145,.none,.none,.none,.none,hI 354,hI 39,hS "/claim/cut.py" 355]
def o90:=hW 146 143 (hS "mustmay.doors" 266)
def o91:=hT [hS "self" 364]
def o92:=hC "word" "May.word" (inClass (top 8) 0)
def o93:=hQ "word" "May.word" 361 41 1 148 (hR 150) (hR 151) (hR 152) 365
def o94:=hF "word" "May.word" (inClass (top 8) 0) (hS "mustmay.doors" 266) (hR 153)
def o95:=hT [hS "self" 371]
def o96:=hC "needs" "May.needs" (inClass (top 8) 1)
def o97:=hQ "needs" "May.needs" 368 44 1 155 (hR 157) (hR 158) (hR 159) 372
def o98:=hF "needs" "May.needs" (inClass (top 8) 1) (hS "mustmay.doors" 266) (hR 160)
def o99:=hT [hS "self" 378]
def o100:=hC "allows" "May.allows" (inClass (top 8) 2)
def o101:=hQ "allows" "May.allows" 375 47 1 162 (hR 164) (hR 165) (hR 166) 379
def o102:=hF "allows" "May.allows" (inClass (top 8) 2) (hS "mustmay.doors" 266) (hR 167)
def o103:=hT [hS "self" 385,hS "to" 386]
def o104:=hC "led" "May.led" (inClass (top 8) 3)
def o105:=hQ "led" "May.led" 382 50 2 169 (hR 171) (hR 172) (hR 173) 387
def o106:=hF "led" "May.led" (inClass (top 8) 3) (hS "mustmay.doors" 266) (hR 174)
def o107:=hDn 2 [hE P "__module__" 356 (hS "mustmay.doors" 266),hE P "__firstlineno__" 360 (.int (39) 359),hE P "word" 367 (hR 154),hE P "needs" 374 (hR 161),hE P "allows" 381 (hR 168),hE P "led" 389 (hR 175),hE P "__static_attributes__" 390 (hR 176),hE P "__doc__" 391 .none]
def o108:Obj:=⟨(.type "type"),none,(.cls ⟨"May",[hR 96],[hR 178,hR 96,.type "object"],177,"May",true,[],[],false,none,false⟩),Array.mk [some (hR 141),none,some (hS "May" 349),some (hS "May" 357),some (.builtin "object.__new__"),some (.bool true)]⟩
def o109:Obj:=⟨(.type "super"),none,(.fields (Array.mk [hR 178,hR 178,hR 178])),Array.mk []⟩
def o110:Obj:=⟨(.type "builtin_function_or_method"),none,(.fields (Array.mk [.builtin "object.__init_subclass__",hR 178])),Array.mk []⟩
def o111:=hDn 9 [hE P "__module__" 401 (hS "mustmay.doors" 266),hE P "__qualname__" 403 (hS "Shut" 402),hE P "__firstlineno__" 405 (.int (52) 404),hE P "__init__" 412 (hR 194),hE P "word" 419 (hR 201),hE P "needs" 426 (hR 208),hE P "allows" 433 (hR 215),hE P "led" 441 (hR 222),hE P "__static_attributes__" 442 (hR 223)]
def o112:=hN [hI 54,hI 4,hR 193,hI 57,hI 4,hR 200,hI 60,hI 4,hR 207,hI 63,hI 4,hR 214,hI 66,hI 4,hR 221]
def o113:=hK [hS "Shut" 396,hS "Shut" 397,hS "/claim/cut.py" 398,hI 52,hI 0,hI 0,hI 0,hI 0,hR 184,.bool false,hI 181,hR 185,.none,.none,.none,.none,hI 399,hI 52,hS "/claim/cut.py" 400]
def o114:=hW 186 183 (hS "mustmay.doors" 266)
def o115:=hT [hS "self" 409]
def o116:=hC "__init__" "Shut.__init__" (inClass (top 9) 0)
def o117:=hQ "__init__" "Shut.__init__" 406 54 1 188 (hR 190) (hR 191) (hR 192) 410
def o118:=hF "__init__" "Shut.__init__" (inClass (top 9) 0) (hS "mustmay.doors" 266) (hR 193)
def o119:=hT [hS "self" 416]
def o120:=hC "word" "Shut.word" (inClass (top 9) 1)
def o121:=hQ "word" "Shut.word" 413 57 1 195 (hR 197) (hR 198) (hR 199) 417
def o122:=hF "word" "Shut.word" (inClass (top 9) 1) (hS "mustmay.doors" 266) (hR 200)
def o123:=hT [hS "self" 423]
def o124:=hC "needs" "Shut.needs" (inClass (top 9) 2)
def o125:=hQ "needs" "Shut.needs" 420 60 1 202 (hR 204) (hR 205) (hR 206) 424
def o126:=hF "needs" "Shut.needs" (inClass (top 9) 2) (hS "mustmay.doors" 266) (hR 207)
def o127:=hT [hS "self" 430]
def o128:=hC "allows" "Shut.allows" (inClass (top 9) 3)
def o129:=hQ "allows" "Shut.allows" 427 63 1 209 (hR 211) (hR 212) (hR 213) 431
def o130:=hF "allows" "Shut.allows" (inClass (top 9) 3) (hS "mustmay.doors" 266) (hR 214)
def o131:=hT [hS "self" 437,hS "to" 438]
def o132:=hC "led" "Shut.led" (inClass (top 9) 4)
def o133:=hQ "led" "Shut.led" 434 66 2 216 (hR 218) (hR 219) (hR 220) 439
def o134:=hF "led" "Shut.led" (inClass (top 9) 4) (hS "mustmay.doors" 266) (hR 221)
def o135:=hDn 2 [hE P "__module__" 401 (hS "mustmay.doors" 266),hE P "__firstlineno__" 405 (.int (52) 404),hE P "__init__" 412 (hR 194),hE P "word" 419 (hR 201),hE P "needs" 426 (hR 208),hE P "allows" 433 (hR 215),hE P "led" 441 (hR 222),hE P "__static_attributes__" 442 (hR 223),hE P "__doc__" 443 .none]
def o136:Obj:=⟨(.type "type"),none,(.cls ⟨"Shut",[hR 96],[hR 225,hR 96,.type "object"],224,"Shut",true,[],[],false,none,false⟩),Array.mk [some (hR 181),none,some (hS "Shut" 394),some (hS "Shut" 402),some (.builtin "object.__new__"),some (.bool true)]⟩
def o137:Obj:=⟨(.type "super"),none,(.fields (Array.mk [hR 225,hR 225,hR 225])),Array.mk []⟩
def o138:Obj:=⟨(.type "builtin_function_or_method"),none,(.fields (Array.mk [.builtin "object.__init_subclass__",hR 225])),Array.mk []⟩
def o139:=hDn 9 [hE P "__module__" 453 (hS "mustmay.doors" 266),hE P "__qualname__" 455 (hS "Torn" 454),hE P "__firstlineno__" 457 (.int (68) 456),hE P "__init__" 464 (hR 241),hE P "word" 471 (hR 248),hE P "needs" 478 (hR 255),hE P "allows" 485 (hR 262),hE P "led" 493 (hR 269),hE P "__static_attributes__" 494 (hR 270)]
def o140:=hN [hI 70,hI 4,hR 240,hI 73,hI 4,hR 247,hI 76,hI 4,hR 254,hI 79,hI 4,hR 261,hI 82,hI 4,hR 268]
def o141:=hK [hS "Torn" 448,hS "Torn" 449,hS "/claim/cut.py" 450,hI 68,hI 0,hI 0,hI 0,hI 0,hR 231,.bool false,hI 181,hR 232,.none,.none,.none,.none,hI 451,hI 68,hS "/claim/cut.py" 452]
def o142:=hW 233 230 (hS "mustmay.doors" 266)
def o143:=hT [hS "self" 461]
def o144:=hC "__init__" "Torn.__init__" (inClass (top 10) 0)
def o145:=hQ "__init__" "Torn.__init__" 458 70 1 235 (hR 237) (hR 238) (hR 239) 462
def o146:=hF "__init__" "Torn.__init__" (inClass (top 10) 0) (hS "mustmay.doors" 266) (hR 240)
def o147:=hT [hS "self" 468]
def o148:=hC "word" "Torn.word" (inClass (top 10) 1)
def o149:=hQ "word" "Torn.word" 465 73 1 242 (hR 244) (hR 245) (hR 246) 469
def o150:=hF "word" "Torn.word" (inClass (top 10) 1) (hS "mustmay.doors" 266) (hR 247)
def o151:=hT [hS "self" 475]
def o152:=hC "needs" "Torn.needs" (inClass (top 10) 2)
def o153:=hQ "needs" "Torn.needs" 472 76 1 249 (hR 251) (hR 252) (hR 253) 476
def o154:=hF "needs" "Torn.needs" (inClass (top 10) 2) (hS "mustmay.doors" 266) (hR 254)
def o155:=hT [hS "self" 482]
def o156:=hC "allows" "Torn.allows" (inClass (top 10) 3)
def o157:=hQ "allows" "Torn.allows" 479 79 1 256 (hR 258) (hR 259) (hR 260) 483
def o158:=hF "allows" "Torn.allows" (inClass (top 10) 3) (hS "mustmay.doors" 266) (hR 261)
def o159:=hT [hS "self" 489,hS "to" 490]
def o160:=hC "led" "Torn.led" (inClass (top 10) 4)
def o161:=hQ "led" "Torn.led" 486 82 2 263 (hR 265) (hR 266) (hR 267) 491
def o162:=hF "led" "Torn.led" (inClass (top 10) 4) (hS "mustmay.doors" 266) (hR 268)
def o163:=hDn 2 [hE P "__module__" 453 (hS "mustmay.doors" 266),hE P "__firstlineno__" 457 (.int (68) 456),hE P "__init__" 464 (hR 241),hE P "word" 471 (hR 248),hE P "needs" 478 (hR 255),hE P "allows" 485 (hR 262),hE P "led" 493 (hR 269),hE P "__static_attributes__" 494 (hR 270),hE P "__doc__" 495 .none]
def o164:Obj:=⟨(.type "type"),none,(.cls ⟨"Torn",[hR 96],[hR 272,hR 96,.type "object"],271,"Torn",true,[],[],false,none,false⟩),Array.mk [some (hR 228),none,some (hS "Torn" 446),some (hS "Torn" 454),some (.builtin "object.__new__"),some (.bool true)]⟩
def o165:Obj:=⟨(.type "super"),none,(.fields (Array.mk [hR 272,hR 272,hR 272])),Array.mk []⟩
def o166:Obj:=⟨(.type "builtin_function_or_method"),none,(.fields (Array.mk [.builtin "object.__init_subclass__",hR 272])),Array.mk []⟩
def o167:=hT [hS "needs" 501,hS "allows" 502,hS "to" 503]
def o168:=hC "door_of" "door_of" (top 11)
def o169:=hQ "door_of" "door_of" 498 84 3 275 (hR 277) (hR 278) (hR 279) 504
def o170:=hF "door_of" "door_of" (top 11) (hS "mustmay.doors" 266) (hR 280)
def o171:=hC "is_name" "is_name" (top 17)
def o172:=hQ "is_name" "is_name" 517 97 1 282 .none .none (hR 284) 520
def o173:=hF "is_name" "is_name" (top 17) (hS "mustmay.plans" 507) (hR 285)
def o174:=hC "is_action_list" "is_action_list" (top 18)
def o175:=hQ "is_action_list" "is_action_list" 523 101 1 287 .none .none (hR 289) 526
def o176:=hF "is_action_list" "is_action_list" (top 18) (hS "mustmay.plans" 507) (hR 290)
def o177:=hT [hS "actions" 532]
def o178:=hC "need_actions" "need_actions" (top 19)
def o179:=hQ "need_actions" "need_actions" 529 105 1 292 (hR 294) (hR 295) (hR 296) 533
def o180:=hF "need_actions" "need_actions" (top 19) (hS "mustmay.plans" 507) (hR 297)
def o181:=hT [hS "thing" 539,hS "many" 540]
def o182:=hC "is_room" "is_room" (top 20)
def o183:=hQ "is_room" "is_room" 536 108 2 299 (hR 301) (hR 302) (hR 303) 541
def o184:=hF "is_room" "is_room" (top 20) (hS "mustmay.plans" 507) (hR 304)
def o185:=hT [hS "thing" 547,hS "many" 548,hS "torn_too" 549,hS "word" 550]
def o186:=hC "is_told_door" "is_told_door" (top 21)
def o187:=hQ "is_told_door" "is_told_door" 544 110 3 306 (hR 308) (hR 309) (hR 310) 551
def o188:=hF "is_told_door" "is_told_door" (top 21) (hS "mustmay.plans" 507) (hR 311)
def o189:=hT [hS "rows" 557,hS "many_actions" 558,hS "torn_too" 559,hS "room" 560,hS "row" 561,hS "action" 562,hS "thing" 563]
def o190:=hC "need_rooms" "need_rooms" (top 22)
def o191:=hQ "need_rooms" "need_rooms" 554 119 3 313 (hR 315) (hR 316) (hR 317) 564
def o192:=hF "need_rooms" "need_rooms" (top 22) (hS "mustmay.plans" 507) (hR 318)
def o193:=hT [hS "told" 570,hS "word" 571]
def o194:=hC "made_door" "made_door" (top 23)
def o195:=hQ "made_door" "made_door" 567 128 1 320 (hR 322) (hR 323) (hR 324) 572
def o196:=hF "made_door" "made_door" (top 23) (hS "mustmay.plans" 507) (hR 325)
def o197:=hC "made_room" "made_room" (top 24)
def o198:=hQ "made_room" "made_room" 575 131 1 327 .none .none (hR 329) 578
def o199:=hF "made_room" "made_room" (top 24) (hS "mustmay.plans" 507) (hR 330)
def o200:=hC "told_room" "told_room" (top 25)
def o201:=hQ "told_room" "told_room" 581 133 1 332 .none .none (hR 334) 584
def o202:=hF "told_room" "told_room" (top 25) (hS "mustmay.plans" 507) (hR 335)
def o203:=hDn 12 [hE P "__module__" 594 (hS "mustmay.plans" 507),hE P "__qualname__" 596 (hS "Draft" 595),hE P "__firstlineno__" 598 (.int (135) 597),hE P "__init__" 604 (hR 348),hE P "lets_torn" 611 (hR 355),hE P "action_list" 618 (hR 362),hE P "many" 625 (hR 369),hE P "door" 635 (hR 376),hE P "told" 641 (hR 381),hE P "after" 649 (hR 388),hE P "is_finished" 656 (hR 395),hE P "__static_attributes__" 659 (hR 396)]
def o204:=hN [hI 137,hI 4,hR 347,hI 143,hI 4,hR 354,hI 146,hI 4,hR 361,hI 149,hI 4,hR 368,hI 152,hI 4,hR 375,hI 156,hI 4,hR 380,hI 159,hI 4,hR 387,hI 162,hI 4,hR 394]
def o205:=hK [hS "Draft" 589,hS "Draft" 590,hS "/claim/cut.py" 591,hI 135,hI 0,hI 0,hI 0,hI 0,hR 340,.bool false,hI 181,hR 341,.none,.none,.none,.none,hI 592,hI 135,hS "/claim/cut.py" 593]
def o206:=hW 342 339 (hS "mustmay.plans" 507)
def o207:=hC "__init__" "Draft.__init__" (inClass (top 26) 0)
def o208:=hQ "__init__" "Draft.__init__" 599 137 3 344 .none .none (hR 346) 602
def o209:=hF "__init__" "Draft.__init__" (inClass (top 26) 0) (hS "mustmay.plans" 507) (hR 347)
def o210:=hT [hS "self" 608]
def o211:=hC "lets_torn" "Draft.lets_torn" (inClass (top 26) 1)
def o212:=hQ "lets_torn" "Draft.lets_torn" 605 143 1 349 (hR 351) (hR 352) (hR 353) 609
def o213:=hF "lets_torn" "Draft.lets_torn" (inClass (top 26) 1) (hS "mustmay.plans" 507) (hR 354)
def o214:=hT [hS "self" 615]
def o215:=hC "action_list" "Draft.action_list" (inClass (top 26) 2)
def o216:=hQ "action_list" "Draft.action_list" 612 146 1 356 (hR 358) (hR 359) (hR 360) 616
def o217:=hF "action_list" "Draft.action_list" (inClass (top 26) 2) (hS "mustmay.plans" 507) (hR 361)
def o218:=hT [hS "self" 622]
def o219:=hC "many" "Draft.many" (inClass (top 26) 3)
def o220:=hQ "many" "Draft.many" 619 149 1 363 (hR 365) (hR 366) (hR 367) 623
def o221:=hF "many" "Draft.many" (inClass (top 26) 3) (hS "mustmay.plans" 507) (hR 368)
def o222:=hT [hS "self" 629,hS "room" 630,hS "action" 631,hS "kept" 632]
def o223:=hC "door" "Draft.door" (inClass (top 26) 4)
def o224:=hQ "door" "Draft.door" 626 152 3 370 (hR 372) (hR 373) (hR 374) 633
def o225:=hF "door" "Draft.door" (inClass (top 26) 4) (hS "mustmay.plans" 507) (hR 375)
def o226:=hC "told" "Draft.told" (inClass (top 26) 5)
def o227:=hQ "told" "Draft.told" 636 156 1 377 .none .none (hR 379) 639
def o228:=hF "told" "Draft.told" (inClass (top 26) 5) (hS "mustmay.plans" 507) (hR 380)
def o229:=hT [hS "self" 645,hS "row" 646]
def o230:=hC "after" "Draft.after" (inClass (top 26) 6)
def o231:=hQ "after" "Draft.after" 642 159 2 382 (hR 384) (hR 385) (hR 386) 647
def o232:=hF "after" "Draft.after" (inClass (top 26) 6) (hS "mustmay.plans" 507) (hR 387)
def o233:=hT [hS "self" 653]
def o234:=hC "is_finished" "Draft.is_finished" (inClass (top 26) 7)
def o235:=hQ "is_finished" "Draft.is_finished" 650 162 1 389 (hR 391) (hR 392) (hR 393) 654
def o236:=hF "is_finished" "Draft.is_finished" (inClass (top 26) 7) (hS "mustmay.plans" 507) (hR 394)
def o237:=hT [hS "actions" 657,hS "rooms" 658]
def o238:=hDn 4 [hE P "__module__" 594 (hS "mustmay.plans" 507),hE P "__firstlineno__" 598 (.int (135) 597),hE P "__init__" 604 (hR 348),hE P "lets_torn" 611 (hR 355),hE P "action_list" 618 (hR 362),hE P "many" 625 (hR 369),hE P "door" 635 (hR 376),hE P "told" 641 (hR 381),hE P "after" 649 (hR 388),hE P "is_finished" 656 (hR 395),hE P "__static_attributes__" 659 (hR 396),hE P "__dict__" 661 (hR 399),hE P "__weakref__" 663 (hR 400),hE P "__doc__" 664 .none]
def o239:Obj:=⟨(.type "type"),none,(.cls ⟨"Draft",[.type "object"],[hR 398,.type "object"],397,"Draft",true,[],[hR 419],false,none,false⟩),Array.mk [none,none,some (hS "Draft" 587),some (hS "Draft" 595),some (.builtin "object.__new__"),some (.bool true)]⟩
def o240:=hG 660 398
def o241:=hV 662 398
def o242:Obj:=⟨(.type "super"),none,(.fields (Array.mk [hR 398,hR 398,hR 398])),Array.mk []⟩
def o243:Obj:=⟨(.type "builtin_function_or_method"),none,(.fields (Array.mk [.builtin "object.__init_subclass__",hR 398])),Array.mk []⟩
def o244:=hDn 5 [hE P "__module__" 674 (hS "mustmay.plans" 507),hE P "__qualname__" 676 (hS "Plan" 675),hE P "__firstlineno__" 678 (.int (164) 677),hE P "lets_torn" 685 (hR 416),hE P "__static_attributes__" 686 (hR 417)]
def o245:=hN [hI 166,hI 4,hR 415]
def o246:=hK [hS "Plan" 669,hS "Plan" 670,hS "/claim/cut.py" 671,hI 164,hI 0,hI 0,hI 0,hI 0,hR 406,.bool false,hI 181,hR 407,.none,.none,.none,.none,hI 672,hI 164,hS "/claim/cut.py" 673]
def o247:=hW 408 405 (hS "mustmay.plans" 507)
def o248:=hT [hS "self" 682]
def o249:=hC "lets_torn" "Plan.lets_torn" (inClass (top 27) 0)
def o250:=hQ "lets_torn" "Plan.lets_torn" 679 166 1 410 (hR 412) (hR 413) (hR 414) 683
def o251:=hF "lets_torn" "Plan.lets_torn" (inClass (top 27) 0) (hS "mustmay.plans" 507) (hR 415)
def o252:=hDn 2 [hE P "__module__" 674 (hS "mustmay.plans" 507),hE P "__firstlineno__" 678 (.int (164) 677),hE P "lets_torn" 685 (hR 416),hE P "__static_attributes__" 686 (hR 417),hE P "__doc__" 687 .none]
def o253:Obj:=⟨(.type "type"),none,(.cls ⟨"Plan",[hR 398],[hR 419,hR 398,.type "object"],418,"Plan",true,[],[],false,none,false⟩),Array.mk [some (hR 403),none,some (hS "Plan" 667),some (hS "Plan" 675),some (.builtin "object.__new__"),some (.bool true)]⟩
def o254:Obj:=⟨(.type "super"),none,(.fields (Array.mk [hR 419,hR 419,hR 419])),Array.mk []⟩
def o255:Obj:=⟨(.type "builtin_function_or_method"),none,(.fields (Array.mk [.builtin "object.__init_subclass__",hR 419])),Array.mk []⟩
def o256:=hT [hS "shut" 694,.none]
def o257:=hC "is_room_name" "is_room_name" (top 31)
def o258:=hQ "is_room_name" "is_room_name" 696 171 1 423 .none .none (hR 425) 699
def o259:=hF "is_room_name" "is_room_name" (top 31) (hS "mustmay.texts" 690) (hR 426)
def o260:=hT [hS "line" 705,hS "words" 706]
def o261:=hC "read_actions" "read_actions" (top 32)
def o262:=hQ "read_actions" "read_actions" 702 175 1 428 (hR 430) (hR 431) (hR 432) 707
def o263:=hF "read_actions" "read_actions" (top 32) (hS "mustmay.texts" 690) (hR 433)
def o264:=hT [hS "lines" 713,hS "numbers" 714,hS "number" 715,hS "line" 716]
def o265:=hC "named_rooms" "named_rooms" (top 33)
def o266:=hQ "named_rooms" "named_rooms" 710 180 1 435 (hR 437) (hR 438) (hR 439) 717
def o267:=hF "named_rooms" "named_rooms" (top 33) (hS "mustmay.texts" 690) (hR 440)
def o268:=hT [hS "words" 723,hS "actions" 724,hS "numbers" 725]
def o269:=hC "is_written_door" "is_written_door" (top 34)
def o270:=hQ "is_written_door" "is_written_door" 720 186 3 442 (hR 444) (hR 445) (hR 446) 726
def o271:=hF "is_written_door" "is_written_door" (top 34) (hS "mustmay.texts" 690) (hR 447)
def o272:=hC "read_doors" "read_doors" (top 35)
def o273:=hQ "read_doors" "read_doors" 729 190 3 449 .none .none (hR 451) 732
def o274:=hF "read_doors" "read_doors" (top 35) (hS "mustmay.texts" 690) (hR 452)
def o275:=hT [hS "line" 738,hS "number" 739,hS "actions" 740,hS "numbers" 741,hS "name" 742]
def o276:=hC "read_room" "read_room" (top 36)
def o277:=hQ "read_room" "read_room" 735 205 4 454 (hR 456) (hR 457) (hR 458) 743
def o278:=hF "read_room" "read_room" (top 36) (hS "mustmay.texts" 690) (hR 459)
def o279:=hT [hS "text" 749,hS "lines" 750,hS "actions" 751,hS "numbers" 752,hS "rows" 753,hS "number" 754,hS "line" 755,hS "doors" 756]
def o280:=hC "read_plan" "read_plan" (top 37)
def o281:=hQ "read_plan" "read_plan" 746 210 1 461 (hR 463) (hR 464) (hR 465) 757
def o282:=hF "read_plan" "read_plan" (top 37) (hS "mustmay.texts" 690) (hR 466)
def o283:=hT [hS "_law_script" 765,hS "_law_k" 766]
def o284:=hC "_law_cell_at" "_law_cell_at" (top 39)
def o285:=hQ "_law_cell_at" "_law_cell_at" 762 226 2 468 (hR 470) (hR 471) (hR 472) 767
def o286:=hF "_law_cell_at" "_law_cell_at" (top 39) (hS "law_mustmay_k11_plans_read" 760) (hR 473)
def o287:=hT [hS "_law_cell" 773,hS "_law_k" 774,hS "_law_number" 775]
def o288:=hC "_law_mixed" "_law_mixed" (top 40)
def o289:=hQ "_law_mixed" "_law_mixed" 770 230 2 475 (hR 477) (hR 478) (hR 479) 776
def o290:=hF "_law_mixed" "_law_mixed" (top 40) (hS "law_mustmay_k11_plans_read" 760) (hR 480)
def o291:=hT [hS "_law_found" 782,hS "_law_due" 783]
def o292:=hC "_law_is" "_law_is" (top 41)
def o293:=hQ "_law_is" "_law_is" 779 234 2 482 (hR 484) (hR 485) (hR 486) 784
def o294:=hF "_law_is" "_law_is" (top 41) (hS "law_mustmay_k11_plans_read" 760) (hR 487)
def o295:=hT [hS "_law_cell" 790,hS "_law_many_here" 791,hS "_law_size" 792,hS "_law_at" 793,hS "_law_names" 794,hS "_law_k" 795,hS "_law_name" 796,hS "_law_j" 797]
def o296:=hC "_law_actions" "_law_actions" (top 42)
def o297:=hQ "_law_actions" "_law_actions" 787 236 2 489 (hR 491) (hR 492) (hR 493) 798
def o298:=hF "_law_actions" "_law_actions" (top 42) (hS "law_mustmay_k11_plans_read" 760) (hR 494)
def o299:=hC "_law_rooms" "_law_rooms" (top 43)
def o300:=hQ "_law_rooms" "_law_rooms" 801 248 2 496 .none .none (hR 498) 804
def o301:=hF "_law_rooms" "_law_rooms" (top 43) (hS "law_mustmay_k11_plans_read" 760) (hR 499)
def o302:=hT [hS "_law_script" 810,hS "_law_rooms_here" 811,hS "_law_many_here" 812,hS "_law_rows_here" 813,hS "_law_room" 814,hS "_law_cell" 815,hS "_law_doors" 816,hS "_law_action" 817,hS "_law_number" 818]
def o303:=hC "_law_rows" "_law_rows" (top 44)
def o304:=hQ "_law_rows" "_law_rows" 807 264 3 501 (hR 503) (hR 504) (hR 505) 819
def o305:=hF "_law_rows" "_law_rows" (top 44) (hS "law_mustmay_k11_plans_read" 760) (hR 506)
def o306:=hT [hS "_law_cell" 825,hS "_law_number" 826]
def o307:=hC "_law_many" "_law_many" (top 45)
def o308:=hQ "_law_many" "_law_many" 822 274 1 508 (hR 510) (hR 511) (hR 512) 827
def o309:=hF "_law_many" "_law_many" (top 45) (hS "law_mustmay_k11_plans_read" 760) (hR 513)
def o310:=hT [hS "_law_name" 833,hS "_law_doors" 834,hS "_law_actions_here" 835,hS "_law_names" 836,hS "_law_cell" 837,hS "_law_told" 838,hS "_law_action" 839,hS "_law_word" 840,hS "_law_to" 841,hS "_law_turn" 842]
def o311:=hC "_law_line" "_law_line" (top 46)
def o312:=hQ "_law_line" "_law_line" 830 279 5 515 (hR 517) (hR 518) (hR 519) 843
def o313:=hF "_law_line" "_law_line" (top 46) (hS "law_mustmay_k11_plans_read" 760) (hR 520)
def o314:=hT [hS "_law_actions_here" 849,hS "_law_names" 850,hS "_law_rows_here" 851,hS "_law_script" 852,hS "_law_lines_here" 853,hS "_law_room" 854,hS "_law_cell" 855]
def o315:=hC "_law_lines" "_law_lines" (top 47)
def o316:=hQ "_law_lines" "_law_lines" 846 292 4 522 (hR 524) (hR 525) (hR 526) 856
def o317:=hF "_law_lines" "_law_lines" (top 47) (hS "law_mustmay_k11_plans_read" 760) (hR 527)
def o318:=hT [hS "_law_script" 862,hS "_law_rooms_here" 863,hS "_law_number" 864,hS "_law_actions_here" 865,hS "_law_names" 866,hS "_law_rows_here" 867,hS "_law_text" 868,hS "_law_turn" 869,hS "_law_found" 870]
def o319:=hC "law" "law" (top 48)
def o320:=hQ "law" "law" 859 298 1 529 (hR 531) (hR 532) (hR 533) 871
def o321:=hF "law" "law" (top 48) (hS "law_mustmay_k11_plans_read" 760) (hR 534)
def o322:=hDn 16 [hE P "__name__" 165 (hS "mustmay.doors" 266),hE P "__doc__" 166 .none,hE P "__package__" 167 .none,hE P "__loader__" 168 (.builtin "__main__.__loader__#opaque"),hE P "__spec__" 169 .none,hE P "__annotations__" 170 (hR 6),hE P "__builtins__" 171 (hR 4),hE P "__file__" 173 (hS "/claim/cut.py" 172),hE P "__cached__" 174 .none,hE P "_wall" 193 (hR 21),hE P "HallError" 213 (hR 31),hE P "BadPlan" 240 (hR 51),hE P "NoText" 265 (hR 70),hE P "Door" 303 (hR 96),hE P "Must" 348 (hR 138),hE P "May" 393 (hR 178)]
def o323:=hN [hI 1,hI 0,hR 20,hI 5,hI 0,hR 27,hI 7,hI 0,hR 40,hI 13,hI 0,hR 59,hI 19,hI 0,hR 78,hI 26,hI 0,hR 106,hI 39,hI 0,hR 146]
def o324:Obj:=⟨(.type "type"),none,(.cls ⟨"Door",[.type "object"],[hR 96,.type "object"],95,"Door",true,[],[hR 138,hR 178],false,none,false⟩),Array.mk [none,none,some (hS "Door" 268),some (hS "Door" 276),some (.builtin "object.__new__"),some (.bool true)]⟩
def o325:=hDn 30 [hE P "__name__" 165 (hS "mustmay.plans" 507),hE P "__doc__" 166 .none,hE P "__package__" 167 .none,hE P "__loader__" 168 (.builtin "__main__.__loader__#opaque"),hE P "__spec__" 169 .none,hE P "__annotations__" 170 (hR 6),hE P "__builtins__" 171 (hR 4),hE P "__file__" 173 (hS "/claim/cut.py" 172),hE P "__cached__" 174 .none,hE P "_wall" 193 (hR 21),hE P "HallError" 213 (hR 31),hE P "BadPlan" 240 (hR 51),hE P "NoText" 265 (hR 70),hE P "Door" 303 (hR 96),hE P "Must" 348 (hR 138),hE P "May" 393 (hR 178),hE P "Shut" 445 (hR 225),hE P "Torn" 497 (hR 272),hE P "door_of" 506 (hR 281),hE P "LETTERS" 510 (hS "abcdefghijklmnopqrstuvwxyz" 509),hE P "MOST_SIGNS" 512 (.int (8) 511),hE P "MOST_ACTIONS" 514 (.int (8) 513),hE P "MOST_ROOMS" 516 (.int (2000) 515),hE P "is_name" 522 (hR 286),hE P "is_action_list" 528 (hR 291),hE P "need_actions" 535 (hR 298),hE P "is_room" 543 (hR 305),hE P "is_told_door" 553 (hR 312),hE P "need_rooms" 566 (hR 319),hE P "made_door" 574 (hR 326)]
def o326:=hN [hI 1,hI 0,hR 20,hI 5,hI 0,hR 27,hI 7,hI 0,hR 40,hI 13,hI 0,hR 59,hI 19,hI 0,hR 78,hI 26,hI 0,hR 106,hI 39,hI 0,hR 146,hI 52,hI 0,hR 186,hI 68,hI 0,hR 233,hI 84,hI 0,hR 280,hI 97,hI 0,hR 285,hI 101,hI 0,hR 290,hI 105,hI 0,hR 297,hI 108,hI 0,hR 304,hI 110,hI 0,hR 311,hI 119,hI 0,hR 318,hI 128,hI 0,hR 325]
def HA:Heap:=⟨Array.mk [boot_o_0 P,boot_o_1 P,boot_o_2 P,boot_o_3 P,boot_o_4 P,boot_o_5 P,boot_o_6 P,boot_o_7 P,boot_o_8 P,boot_o_9 P,boot_o_10 P,hT [],hN [],o0,o1],{}⟩
def TB:BT:=(nn (boot_o_0 P) (nn (boot_o_1 P) (nn (boot_o_3 P) (lf (boot_o_7 P)) (lf (hT []))) (nn (boot_o_5 P) (lf (boot_o_9 P)) (lf o0))) (nn (boot_o_2 P) (nn (boot_o_4 P) (lf (boot_o_8 P)) (lf (hN []))) (nn (boot_o_6 P) (lf (boot_o_10 P)) (lf o1))))
def LF:List Obj:=boot_o_0 P::boot_o_1 P::boot_o_2 P::o2 P::boot_o_4 P::boot_o_5 P::boot_o_6 P::boot_o_7 P::boot_o_8 P::boot_o_9 P::boot_o_10 P::hT []::o3::o0::o1::hT []::hN []::o4::hT []::o5::o6::o7::o8::o9::o10 P::hT []::hN []::o11::o12::hT []::o13 P::o14::o15::o16::o17::hT [(hR 31)]::o9::o18 P::hT []::o19::o20::o21::hT []::hN []::o22::hT []::o23::o24::o25::o26::o27 P::o28::o29::o30::hT [(hR 31)]::o9::o31 P::hT []::o32::o33::o34::hT []::hN []::o35::hT []::o36::o37::o38::o39::o40 P::o41::o42::o43::hT []::o9::o44 P::hT []::o45::o46::o47::hT []::hN []::o48::hT []::o49::o50::o51::hT []::hN []::o52::hT []::o53::o54::o55::o56::o57 P::o58::o59::o60::o61::o62::hT [(hR 96)]::o9::o63 P::hT []::o64::o65::o66::hT []::hN []::o67::hT []::o68::o69::o70::hT []::hN []::o71::hT []::o72::o73::o74::hT []::hN []::o75::hT []::o76::o77::o78::hT []::hN []::o79::hT []::o80::o81::o82::hT []::o83 P::o84::o85::o86::hT [(hR 96)]::o9::o87 P::hT []::o88::o89::o90::hT []::hN []::o91::hT []::o92::o93::o94::hT []::hN []::o95::hT []::o96::o97::o98::hT []::hN []::o99::hT []::o100::o101::o102::hT []::hN []::o103::hT []::o104::o105::o106::hT []::o107 P::o108::o109::o110::hT [(hR 96)]::o9::o111 P::hT []::o112::o113::o114::hT []::hN []::o115::hT []::o116::o117::o118::hT []::hN []::o119::hT []::o120::o121::o122::hT []::hN []::o123::hT []::o124::o125::o126::hT []::hN []::o127::hT []::o128::o129::o130::hT []::hN []::o131::hT []::o132::o133::o134::hT []::o135 P::o136::o137::o138::hT [(hR 96)]::o9::o139 P::hT []::o140::o141::o142::hT []::hN []::o143::hT []::o144::o145::o146::hT []::hN []::o147::hT []::o148::o149::o150::hT []::hN []::o151::hT []::o152::o153::o154::hT []::hN []::o155::hT []::o156::o157::o158::hT []::hN []::o159::hT []::o160::o161::o162::hT []::o163 P::o164::o165::o166::hT []::hN []::o167::hT []::o168::o169::o170::hT []::hN []::o171::o172::o173::hT []::hN []::o174::o175::o176::hT []::hN []::o177::hT []::o178::o179::o180::hT []::hN []::o181::hT []::o182::o183::o184::hT []::hN []::o185::hT []::o186::o187::o188::hT []::hN []::o189::hT []::o190::o191::o192::hT []::hN []::o193::hT []::o194::o195::o196::hT []::hN []::o197::o198::o199::hT []::hN []::o200::o201::o202::hT []::o9::o203 P::hT []::o204::o205::o206::hT []::hN []::o207::o208::o209::hT []::hN []::o210::hT []::o211::o212::o213::hT []::hN []::o214::hT []::o215::o216::o217::hT []::hN []::o218::hT []::o219::o220::o221::hT []::hN []::o222::hT []::o223::o224::o225::hT []::hN []::o226::o227::o228::hT []::hN []::o229::hT []::o230::o231::o232::hT []::hN []::o233::hT []::o234::o235::o236::o237::o238 P::o239::o240::o241::o242::o243::hT [(hR 398)]::o9::o244 P::hT []::o245::o246::o247::hT []::hN []::o248::hT []::o249::o250::o251::hT []::o252 P::o253::o254::o255::o256::hT []::hN []::o257::o258::o259::hT []::hN []::o260::hT []::o261::o262::o263::hT []::hN []::o264::hT []::o265::o266::o267::hT []::hN []::o268::hT []::o269::o270::o271::hT []::hN []::o272::o273::o274::hT []::hN []::o275::hT []::o276::o277::o278::hT []::hN []::o279::hT []::o280::o281::o282::hT []::hN []::o283::hT []::o284::o285::o286::hT []::hN []::o287::hT []::o288::o289::o290::hT []::hN []::o291::hT []::o292::o293::o294::hT []::hN []::o295::hT []::o296::o297::o298::hT []::hN []::o299::o300::o301::hT []::hN []::o302::hT []::o303::o304::o305::hT []::hN []::o306::hT []::o307::o308::o309::hT []::hN []::o310::hT []::o311::o312::o313::hT []::hN []::o314::hT []::o315::o316::o317::hT []::hN []::o318::hT []::o319::o320::o321::[]
def TF:BT:=bt 12 (LF P)
def TM0:BT:=bt 12 (((((LF P).take 181).set 3 (o322 P)).set 12 o323).set 96 o324)
def TM1:BT:=bt 12 ((((LF P).take 327).set 3 (o325 P)).set 12 o326)
def HF:Heap:=⟨Array.mk (LF P),{}⟩
def KK:Params->Frag:=λP=>(nat_lit 2,boot_o_2 P)::(nat_lit 3,o2 P)::(nat_lit 15,hT [])::(nat_lit 17,o4)::(nat_lit 18,hT [])::(nat_lit 20,o6)::(nat_lit 21,o7)::(nat_lit 22,o8)::(nat_lit 29,hT [])::(nat_lit 30,o13 P)::(nat_lit 31,o14)::(nat_lit 32,o15)::(nat_lit 35,hT [(hR 31)])::(nat_lit 42,hT [])::(nat_lit 44,o22)::(nat_lit 45,hT [])::(nat_lit 47,o24)::(nat_lit 48,o25)::(nat_lit 49,o26)::(nat_lit 50,o27 P)::(nat_lit 51,o28)::(nat_lit 54,hT [(hR 31)])::(nat_lit 61,hT [])::(nat_lit 63,o35)::(nat_lit 64,hT [])::(nat_lit 66,o37)::(nat_lit 67,o38)::(nat_lit 68,o39)::(nat_lit 69,o40 P)::(nat_lit 70,o41)::(nat_lit 80,hT [])::(nat_lit 82,o48)::(nat_lit 83,hT [])::(nat_lit 85,o50)::(nat_lit 86,o51)::(nat_lit 87,hT [])::(nat_lit 89,o52)::(nat_lit 90,hT [])::(nat_lit 92,o54)::(nat_lit 93,o55)::(nat_lit 94,o56)::(nat_lit 95,o57 P)::(nat_lit 96,o58)::(nat_lit 97,o59)::(nat_lit 98,o60)::(nat_lit 101,hT [(hR 96)])::(nat_lit 108,hT [])::(nat_lit 110,o67)::(nat_lit 111,hT [])::(nat_lit 113,o69)::(nat_lit 114,o70)::(nat_lit 115,hT [])::(nat_lit 117,o71)::(nat_lit 118,hT [])::(nat_lit 120,o73)::(nat_lit 121,o74)::(nat_lit 122,hT [])::(nat_lit 124,o75)::(nat_lit 125,hT [])::(nat_lit 127,o77)::(nat_lit 128,o78)::(nat_lit 129,hT [])::(nat_lit 131,o79)::(nat_lit 132,hT [])::(nat_lit 134,o81)::(nat_lit 135,o82)::(nat_lit 136,hT [])::(nat_lit 137,o83 P)::(nat_lit 138,o84)::(nat_lit 141,hT [(hR 96)])::(nat_lit 148,hT [])::(nat_lit 150,o91)::(nat_lit 151,hT [])::(nat_lit 153,o93)::(nat_lit 154,o94)::(nat_lit 155,hT [])::(nat_lit 157,o95)::(nat_lit 158,hT [])::(nat_lit 160,o97)::(nat_lit 161,o98)::(nat_lit 162,hT [])::(nat_lit 164,o99)::(nat_lit 165,hT [])::(nat_lit 167,o101)::(nat_lit 168,o102)::(nat_lit 169,hT [])::(nat_lit 171,o103)::(nat_lit 172,hT [])::(nat_lit 174,o105)::(nat_lit 175,o106)::(nat_lit 176,hT [])::(nat_lit 177,o107 P)::(nat_lit 178,o108)::(nat_lit 181,hT [(hR 96)])::(nat_lit 188,hT [])::(nat_lit 190,o115)::(nat_lit 191,hT [])::(nat_lit 193,o117)::(nat_lit 194,o118)::(nat_lit 195,hT [])::(nat_lit 197,o119)::(nat_lit 198,hT [])::(nat_lit 200,o121)::(nat_lit 201,o122)::(nat_lit 202,hT [])::(nat_lit 204,o123)::(nat_lit 205,hT [])::(nat_lit 207,o125)::(nat_lit 208,o126)::(nat_lit 209,hT [])::(nat_lit 211,o127)::(nat_lit 212,hT [])::(nat_lit 214,o129)::(nat_lit 215,o130)::(nat_lit 216,hT [])::(nat_lit 218,o131)::(nat_lit 219,hT [])::(nat_lit 221,o133)::(nat_lit 222,o134)::(nat_lit 223,hT [])::(nat_lit 224,o135 P)::(nat_lit 225,o136)::(nat_lit 228,hT [(hR 96)])::(nat_lit 235,hT [])::(nat_lit 237,o143)::(nat_lit 238,hT [])::(nat_lit 240,o145)::(nat_lit 241,o146)::(nat_lit 242,hT [])::(nat_lit 244,o147)::(nat_lit 245,hT [])::(nat_lit 247,o149)::(nat_lit 248,o150)::(nat_lit 249,hT [])::(nat_lit 251,o151)::(nat_lit 252,hT [])::(nat_lit 254,o153)::(nat_lit 255,o154)::(nat_lit 256,hT [])::(nat_lit 258,o155)::(nat_lit 259,hT [])::(nat_lit 261,o157)::(nat_lit 262,o158)::(nat_lit 263,hT [])::(nat_lit 265,o159)::(nat_lit 266,hT [])::(nat_lit 268,o161)::(nat_lit 269,o162)::(nat_lit 270,hT [])::(nat_lit 271,o163 P)::(nat_lit 272,o164)::(nat_lit 275,hT [])::(nat_lit 277,o167)::(nat_lit 278,hT [])::(nat_lit 280,o169)::(nat_lit 281,o170)::(nat_lit 282,hT [])::(nat_lit 285,o172)::(nat_lit 286,o173)::(nat_lit 287,hT [])::(nat_lit 290,o175)::(nat_lit 291,o176)::(nat_lit 292,hT [])::(nat_lit 294,o177)::(nat_lit 295,hT [])::(nat_lit 297,o179)::(nat_lit 298,o180)::(nat_lit 299,hT [])::(nat_lit 301,o181)::(nat_lit 302,hT [])::(nat_lit 304,o183)::(nat_lit 305,o184)::(nat_lit 306,hT [])::(nat_lit 308,o185)::(nat_lit 309,hT [])::(nat_lit 311,o187)::(nat_lit 312,o188)::(nat_lit 313,hT [])::(nat_lit 315,o189)::(nat_lit 316,hT [])::(nat_lit 318,o191)::(nat_lit 319,o192)::(nat_lit 320,hT [])::(nat_lit 322,o193)::(nat_lit 323,hT [])::(nat_lit 325,o195)::(nat_lit 326,o196)::(nat_lit 327,hT [])::(nat_lit 330,o198)::(nat_lit 331,o199)::(nat_lit 332,hT [])::(nat_lit 335,o201)::(nat_lit 336,o202)::(nat_lit 344,hT [])::(nat_lit 347,o208)::(nat_lit 348,o209)::(nat_lit 349,hT [])::(nat_lit 351,o210)::(nat_lit 352,hT [])::(nat_lit 354,o212)::(nat_lit 355,o213)::(nat_lit 356,hT [])::(nat_lit 358,o214)::(nat_lit 359,hT [])::(nat_lit 361,o216)::(nat_lit 362,o217)::(nat_lit 363,hT [])::(nat_lit 365,o218)::(nat_lit 366,hT [])::(nat_lit 368,o220)::(nat_lit 369,o221)::(nat_lit 370,hT [])::(nat_lit 372,o222)::(nat_lit 373,hT [])::(nat_lit 375,o224)::(nat_lit 376,o225)::(nat_lit 377,hT [])::(nat_lit 380,o227)::(nat_lit 381,o228)::(nat_lit 382,hT [])::(nat_lit 384,o229)::(nat_lit 385,hT [])::(nat_lit 387,o231)::(nat_lit 388,o232)::(nat_lit 389,hT [])::(nat_lit 391,o233)::(nat_lit 392,hT [])::(nat_lit 394,o235)::(nat_lit 395,o236)::(nat_lit 396,o237)::(nat_lit 397,o238 P)::(nat_lit 398,o239)::(nat_lit 399,o240)::(nat_lit 400,o241)::(nat_lit 403,hT [(hR 398)])::(nat_lit 410,hT [])::(nat_lit 412,o248)::(nat_lit 413,hT [])::(nat_lit 415,o250)::(nat_lit 416,o251)::(nat_lit 417,hT [])::(nat_lit 418,o252 P)::(nat_lit 419,o253)::(nat_lit 422,o256)::(nat_lit 423,hT [])::(nat_lit 426,o258)::(nat_lit 427,o259)::(nat_lit 428,hT [])::(nat_lit 430,o260)::(nat_lit 431,hT [])::(nat_lit 433,o262)::(nat_lit 434,o263)::(nat_lit 435,hT [])::(nat_lit 437,o264)::(nat_lit 438,hT [])::(nat_lit 440,o266)::(nat_lit 441,o267)::(nat_lit 442,hT [])::(nat_lit 444,o268)::(nat_lit 445,hT [])::(nat_lit 447,o270)::(nat_lit 448,o271)::(nat_lit 449,hT [])::(nat_lit 452,o273)::(nat_lit 453,o274)::(nat_lit 454,hT [])::(nat_lit 456,o275)::(nat_lit 457,hT [])::(nat_lit 459,o277)::(nat_lit 460,o278)::(nat_lit 461,hT [])::(nat_lit 463,o279)::(nat_lit 464,hT [])::(nat_lit 466,o281)::(nat_lit 467,o282)::(nat_lit 468,hT [])::(nat_lit 470,o283)::(nat_lit 471,hT [])::(nat_lit 473,o285)::(nat_lit 474,o286)::(nat_lit 475,hT [])::(nat_lit 477,o287)::(nat_lit 478,hT [])::(nat_lit 480,o289)::(nat_lit 481,o290)::(nat_lit 482,hT [])::(nat_lit 484,o291)::(nat_lit 485,hT [])::(nat_lit 487,o293)::(nat_lit 488,o294)::(nat_lit 489,hT [])::(nat_lit 491,o295)::(nat_lit 492,hT [])::(nat_lit 494,o297)::(nat_lit 495,o298)::(nat_lit 496,hT [])::(nat_lit 499,o300)::(nat_lit 500,o301)::(nat_lit 501,hT [])::(nat_lit 503,o302)::(nat_lit 504,hT [])::(nat_lit 506,o304)::(nat_lit 507,o305)::(nat_lit 508,hT [])::(nat_lit 510,o306)::(nat_lit 511,hT [])::(nat_lit 513,o308)::(nat_lit 514,o309)::(nat_lit 515,hT [])::(nat_lit 517,o310)::(nat_lit 518,hT [])::(nat_lit 520,o312)::(nat_lit 521,o313)::(nat_lit 522,hT [])::(nat_lit 524,o314)::(nat_lit 525,hT [])::(nat_lit 527,o316)::(nat_lit 528,o317)::(nat_lit 529,hT [])::(nat_lit 531,o318)::(nat_lit 532,hT [])::(nat_lit 534,o320)::(nat_lit 535,o321)::[]
def as:List Addr:=[2,3,15,17,18,20,21,22,29,30,31,32,35,42,44,45,47,48,49,50,51,54,61,63,64,66,67,68,69,70,80,82,83,85,86,87,89,90,92,93,94,95,96,97,98,101,108,110,111,113,114,115,117,118,120,121,122,124,125,127,128,129,131,132,134,135,136,137,138,141,148,150,151,153,154,155,157,158,160,161,162,164,165,167,168,169,171,172,174,175,176,177,178,181,188,190,191,193,194,195,197,198,200,201,202,204,205,207,208,209,211,212,214,215,216,218,219,221,222,223,224,225,228,235,237,238,240,241,242,244,245,247,248,249,251,252,254,255,256,258,259,261,262,263,265,266,268,269,270,271,272,275,277,278,280,281,282,285,286,287,290,291,292,294,295,297,298,299,301,302,304,305,306,308,309,311,312,313,315,316,318,319,320,322,323,325,326,327,330,331,332,335,336,344,347,348,349,351,352,354,355,356,358,359,361,362,363,365,366,368,369,370,372,373,375,376,377,380,381,382,384,385,387,388,389,391,392,394,395,396,397,398,399,400,403,410,412,413,415,416,417,418,419,422,423,426,427,428,430,431,433,434,435,437,438,440,441,442,444,445,447,448,449,452,453,454,456,457,459,460,461,463,464,466,467,468,470,471,473,474,475,477,478,480,481,482,484,485,487,488,489,491,492,494,495,496,499,500,501,503,504,506,507,508,510,511,513,514,515,517,518,520,521,522,524,525,527,528,529,531,532,534,535]
def vw:Program:=PySem.W.view pw [0,2,3,4,6,7,8,9,10,11,13,14,15,16,17,18,19,20,21,22,23,24,25,26,27,29,30,31,32,33,34,35,36,37,39,40,41,42,43,44,45,46,47,48]
def en:Env:={ scope:=pw.main.scope,locals:=mainNs,globals:=mainNs,cells:=[],code:=(hR 13),frame:=some 14 }
theorem hk:∀P,as=(KK P).map (·.1):=λ_=>by kernel_rfl
noncomputable abbrev cE:Code:=.body (behindTheImports pw) en
noncomputable abbrev fB:List Frame:=[topFrame ⟨0,0,0,0⟩]
theorem t_pre(w:World)(os:OsState):topGo treeTable pw w 11 (some (.ref 6)) 12 ⟨boot_heap w.params,Array.mk [],boot_drawn,boot_toks,os⟩ (topStub pw)=some (⟨HA w.params,Array.mk [],{},187,os⟩,⟨denote treeTable cE,cE,⟨0,0,0,0⟩,fB⟩):=by kernel_rfl
theorem t_block(w:World)(os:OsState):segRun treeTable pw w 11 (some (.ref 6)) 1 1 ⟨HA w.params,Array.mk [],{},187,os⟩ (blockOf (behindTheImports pw) en cE ⟨0,0,0,0⟩ fB)=some (.next,(SharedT.mk (TB w.params) 15 {} (Array.mk []) {} 187 os).abs,cE,⟨0,0,0,0⟩):=by kernel_rfl
theorem t_body0(w:World)(os:OsState):segRunT treeTable pw w 11 (some (.ref 6)) 1 1654 (SharedT.mk (TB w.params) 15 {} (Array.mk []) {} 187 os) (piecesOf ((behindTheImports pw).take 9) en cE ⟨0,0,0,0⟩ fB)=some (.next,(SharedT.mk (TM0 w.params) 181 {} (Array.mk []) {} 394 os),cE,⟨39,0,51,22⟩):=by kernel_rfl
theorem t_body1(w:World)(os:OsState):segRunT treeTable pw w 11 (some (.ref 6)) 1 1022 (SharedT.mk (TM0 w.params) 181 {} (Array.mk []) {} 394 os) (piecesOf (((behindTheImports pw).drop 9).take 15) en cE ⟨39,0,51,22⟩ fB)=some (.next,(SharedT.mk (TM1 w.params) 327 {} (Array.mk []) {} 575 os),cE,⟨128,0,130,78⟩):=by kernel_rfl
theorem t_body2(w:World)(os:OsState):segRunT treeTable pw w 11 (some (.ref 6)) 1 1316 (SharedT.mk (TM1 w.params) 327 {} (Array.mk []) {} 575 os) (piecesOf ((behindTheImports pw).drop 24) en cE ⟨128,0,130,78⟩ fB)=some (.next,(SharedT.mk (TF w.params) 536 {} (Array.mk []) {} 874 os),cE,⟨298,0,314,15⟩):=by kernel_rfl
theorem t_split:(behindTheImports pw)=((behindTheImports pw).take 9)++((((behindTheImports pw).drop 9).take 15)++(((behindTheImports pw).drop 24)++([]))):=by kernel_rfl
theorem t_fin(w:World)(os:OsState):topRun treeTable pw w 11 (some (.ref 6)) 2 (SharedT.mk (TF w.params) 536 {} (Array.mk []) {} 874 os).abs ⟨doneF .next,cE,⟨298,0,314,15⟩,fB⟩=some ⟨HF w.params,Array.mk [],{},874,os⟩:=by kernel_rfl
theorem t_run(w:World)(os:OsState):topRun treeTable pw w 11 (some (.ref 6)) (12+(1+(1654+(1022+(1316+2))))) ⟨boot_heap w.params,Array.mk [],boot_drawn,boot_toks,os⟩ (topStub pw)=some ⟨HF w.params,Array.mk [],{},874,os⟩:=
 go_top (t_pre w os) (piece_block (q:=⟨0,0,0,0⟩) (t_block w os) (by
  have h:=piece_app (q:=⟨0,0,0,0⟩) (segRun_of (t_body0 w os)) (piece_app (q:=⟨0,0,0,0⟩) (segRun_of (t_body1 w os)) (piece_app (q:=⟨0,0,0,0⟩) (segRun_of (t_body2 w os)) (piece_nil (t_fin w os))))
  rw[←t_split] at h
  exact h))
theorem t_op(w:World):(fencedOpening treeTable pw w 8098).map (λs=>(s.heap,s.gens,s.drawn,s.toks))=some (boot_heap w.params,Array.mk [],boot_drawn,boot_toks):=boot_open (by kernel_rfl) (by decide) (λs=>by kernel_rfl) w
theorem t_size(w:World):((boot_heap w.params).isNs mainGlobals && (Array.mk []:Array GenState).size==0,(boot_heap w.params).objs.size,(boot_heap w.params).nsMap mainGlobals "__annotations__")=(true,11,(some (.ref 6))):=by kernel_rfl
theorem tk1(w:World):staticsOk (importedModules pw.main.body) (boot_heap w.params) (HF w.params)=true:=by kernel_rfl
theorem tk2(w:World):namesBound pw (HF w.params)=true:=by kernel_rfl
theorem tk3(w:World)(os:OsState):gensDone ⟨HF w.params,Array.mk [],{},874,os⟩=true:=by kernel_rfl
theorem tk4(w:World):laidKept (boot_heap w.params) (HF w.params)=true:=by kernel_rfl
open PySem.Calls PyProof.Rows in
theorem tkc0(w:World)(os:OsState):seen ((recsOf vw).map (·.name)) (ownsOf vw) [] (Shared.mk (HF w.params) #[] {} 874 os)=expectedOf vw:=by kernel_rfl
open PySem.Calls PyProof.Rows in
theorem tkc1(w:World)(os:OsState):Heap.bltView (HF w.params)=bltViewBooted:=by kernel_rfl
open PySem.Calls PyProof.Rows in
theorem tkc2a(w:World)(os:OsState):Heap.keysOk (HF w.params) (looseW vw []) ((recsOf vw).map (·.name)) ((litsOf vw).map (·.1)) ((clssOf vw (looseW vw [])).map (·.name))=true:=by kernel_rfl
open PySem.Calls PyProof.Rows in
theorem tkc2b(w:World)(os:OsState):Heap.accountedOkI (HF w.params) (importedModules pw.main.body)=true:=by kernel_rfl
open PySem.Calls PyProof.Rows in
theorem tkc2c(w:World)(os:OsState):Heap.isNs (HF w.params) mainGlobals=true:=by kernel_rfl
open PySem.Calls PyProof.Rows in
theorem tkc2d(w:World)(os:OsState):Heap.isNs (HF w.params) builtinsNs=true:=by kernel_rfl
open PySem.Calls PyProof.Rows in
theorem tkc2e(w:World)(os:OsState):tablesOk vw (HF w.params)=true:=by kernel_rfl
open PySem.Calls PyProof.Rows in
theorem tkc2f(w:World)(os:OsState):(λs=>xlAt vw [] s && recOk (RowW.records PySem.Challenge.rw_mustmay_k11_plans_read.row.toRowW) s) ⟨HF w.params,Array.mk [],{},874,os⟩=true:=by kernel_rfl
open PySem.Calls PyProof.Rows in
theorem tkc3(w:World)(os:OsState):tabsOk vw ⟨HF w.params,Array.mk [],{},874,os⟩=true:=by kernel_rfl
open PySem.Calls PyProof.Rows in
theorem tkc4(w:World)(os:OsState):pinSeenD vw (drecsOf vw) ⟨HF w.params,Array.mk [],{},874,os⟩=pinGoodD (drecsOf vw):=by kernel_rfl
open PySem.Calls PyProof.Rows in
theorem tkc5(w:World)(os:OsState):plainSeenE vw (looseW vw []) ⟨HF w.params,Array.mk [],{},874,os⟩=plainGoodE vw (looseW vw []):=by kernel_rfl
open PySem.Calls PyProof.Rows in
theorem tkc6(w:World)(os:OsState):plainSeenD vw [] ⟨HF w.params,Array.mk [],{},874,os⟩=plainGoodD vw []:=by kernel_rfl
open PySem.Calls PyProof.Rows in
theorem tkc7(w:World)(os:OsState):wideSeen vw ⟨HF w.params,Array.mk [],{},874,os⟩=wideGood vw:=by kernel_rfl
open PySem.Calls PyProof.Rows in
theorem tkc8(w:World)(os:OsState):clsSeenW vw [] ⟨HF w.params,Array.mk [],{},874,os⟩=clsGoodW vw []:=by kernel_rfl
theorem and7{a b c d e f g:Bool}(h1:a=true)(h2:b=true)(h3:c=true)(h4:d=true)(h5:e=true)(h6:f=true)(h7:g=true):(a && b && c && d && e && f && g)=true:=by rw[h1,h2,h3,h4,h5,h6,h7];rfl
theorem ext9{A0 A1 A2 A3 A4 A5 A6 A7 A8:Type}{a0 b0:A0}{a1 b1:A1}{a2 b2:A2}{a3 b3:A3}{a4 b4:A4}{a5 b5:A5}{a6 b6:A6}{a7 b7:A7}{a8 b8:A8}(h0:a0=b0)(h1:a1=b1)(h2:a2=b2)(h3:a3=b3)(h4:a4=b4)(h5:a5=b5)(h6:a6=b6)(h7:a7=b7)(h8:a8=b8):(a0,a1,a2,a3,a4,a5,a6,a7,a8)=(b0,b1,b2,b3,b4,b5,b6,b7,b8):=by rw[h0,h1,h2,h3,h4,h5,h6,h7,h8]
theorem tk5(w:World)(os:OsState):(openSeen vw [] (importedModules pw.main.body) (λs=>xlAt vw [] s && recOk (RowW.records PySem.Challenge.rw_mustmay_k11_plans_read.row.toRowW) s) true ⟨HF w.params,Array.mk [],{},874,os⟩)=openGood vw []:=by
 unfold openSeen openGood
 exact ext9 (tkc0 w os) (tkc1 w os) (and7 (tkc2a w os) (tkc2b w os) (tkc2c w os) (tkc2d w os) (tkc2e w os) (tkc2f w os) rfl) (tkc3 w os) (tkc4 w os) (tkc5 w os) (tkc6 w os) (tkc7 w os) (tkc8 w os)
theorem tk6(w:World)(os:OsState):Hook.obs (kHook KK as hk) ⟨HF w.params,Array.mk [],{},874,os⟩=Hook.val (kHook KK as hk) w:=by kernel_rfl
theorem t_left:LeftO pw vw [] (λs=>xlAt vw [] s && recOk (RowW.records PySem.Challenge.rw_mustmay_k11_plans_read.row.toRowW) s) (Hook.obs (kHook KK as hk)) (Hook.val (kHook KK as hk)) 8098 true :=
 LeftO.of_pieces (H₀:=boot_heap) (H₁:=HF) (m₀:=11) (ann:=(some (.ref 6))) (M:=(12+(1+(1654+(1022+(1316+2)))))) t_op t_size t_run (by decide) λw=>funext λos=>Prod.ext (by dsimp only;rw[tk1,tk2,tk3,tk4];rfl) (Prod.ext (tk5 w os) (tk6 w os))
end
end K9
local macro_rules
 | `(tactic| walk_at $s:str)=>do
  unless s.getString=="f" do Lean.Macro.throwUnsupported
  `(tactic| first
  | (refine' DL.xP.of ?_ ?_ ?_ ?_ ?_ ?_ ?_ ?_ ?_ <;> first | k_is | skip)
  | (refine' DL.TX.mk ?_ (DL.FX.of ?_ ?_ ?_ ?_) <;> first | k_is | skip)
  | (refine' DL.FX.of ?_ ?_ ?_ ?_ <;> first | k_is | skip)
  | (refine' DL.MkF.mk ?_ ?_ ?_ <;> first | k_is | skip)
  | (refine' DL.GetF.mk ?_ ?_ <;> first | k_is | skip)
  | (show findIn _ _ _=_;k_is)
  | k_is
  | decide
  | skip)
namespace K9
open PySem PySem.W PyProof.Rows L2 MX DL
set_option maxRecDepth 100000 in
set_option maxHeartbeats 0 in
theorem O4(w:World)(mg:Str->Option Value)(fa:Addr)(h:Heap)(KX:(KK w.params).In h)(G:h.Ns mainGlobals mg)(hmg:mg "law"=some (.ref fa)):∃fd:FuncData,(∀(s:Shared)(u:Value),BindsTo s fd ⟨[u],[]⟩ [("_law_script",u)])/\∀base:Heap,(KK w.params).In base->base.Ns mainGlobals mg->bO PySem.Challenge.rw_mustmay_k11_plans_read.prog w (KK w.params) mg base CX0 10 fa fd ["_law_script"] (Kq (KK w.params)):=by
 k_fill
 refine' all_mk (l:=PySem.Challenge.rw_mustmay_k11_plans_read) KX G hmg ?_ ?_ ?_ ?_ ?_ ?_ ?_ ?_ ?_ ?_ ?_ ?_ ?_ ?_ ?_ ?_ ?_ ?_ ?_ ?_ ?_ ?_ ?_ ?_ ?_ ?_ ?_ ?_ ?_ ?_ ?_ ?_ ?_ ?_ ?_ ?_ ?_ ?_ ?_ ?_ ?_ ?_ ?_ ?_ ?_ ?_ ?_ ?_ ?_ ?_ ?_ ?_ ?_ ?_ ?_ ?_ ?_ ?_ ?_ ?_ ?_ ?_ ?_ ?_ ?_ ?_ ?_ ?_ ?_ ?_ ?_ ?_ ?_ ?_ ?_ ?_ ?_ ?_ ?_ ?_ ?_ ?_ ?_ ?_ ?_ ?_ ?_ ?_ ?_ ?_ ?_ ?_ ?_ ?_ ?_ ?_ ?_ ?_ ?_ ?_ ?_ ?_ ?_ ?_ ?_ ?_ ?_ ?_ ?_ ?_ ?_ ?_ ?_ ?_ ?_ ?_ ?_ ?_ ?_ ?_ ?_ ?_ ?_ ?_ ?_ ?_ ?_ ?_ ?_ <;> walk_at "f"
end K9
open PySem PySem.W PyProof.Rows
set_option maxRecDepth 100000 in
set_option maxHeartbeats 0 in
theorem PySem.Challenge.cw_mustmay_k11_plans_read_holds : PySem.Challenge.rw_mustmay_k11_plans_read.Holds := by
 w_on
 refine PySem.W.holds_law h_said λsaid=>?_
 refine holds_open (q:=K9.vw) (loose:=[]) (Xt:=λs=>xlAt K9.vw [] s && recOk (RowW.records PySem.Challenge.rw_mustmay_k11_plans_read.row.toRowW) s) (XP:=XL K9.vw []) (Yf:=Hook.obs (kHook K9.KK K9.as K9.hk)) (Ya:=Hook.val (kHook K9.KK K9.as K9.hk)) (YP:=Hook.says (kHook K9.KK K9.as K9.hk)) (N:=8098) K9.t_left (Hook.of (kHook K9.KK K9.as K9.hk)) (Hook.keeps (kHook K9.KK K9.as K9.hk)) (λs e=>xl_of s (Bool.and_eq_true_iff.mp e).1) XL.keeps (by rfl) (by rfl) (by rfl) (λs e=>recFacts_of (Bool.and_eq_true_iff.mp e).2) (by rfl) said (by decide +kernel) h_bare ?hw ?hc
 (case hw=>w_witness2)
 k_fill
 refine K9.walk (l:=PySem.Challenge.rw_mustmay_k11_plans_read) rfl rfl (λw h Y=>PySem.W.kIn_of Y) ?F
 case F =>
  intro w mg fa h KX G hmg
  exact K9.O4 w mg fa h KX G hmg
