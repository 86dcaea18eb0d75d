import PyProof.Rows.All
import Wide.All
import OpenK.AllK
import Wide.FinOn
import Lean
import PyProof.EqAt
import PyProof.EqKinds
import PyProof.TupleCall
import PyProof.ExcClass2
import PyProof.NsCount
import PyProof.StationsW
import PyProof.PassesOwn
import PyProof.Commute
import PyProof.RulesAs
import PyProof.NsDelKeeps
import KE.KTryMore
import PyProof.AttrMissHeap
import PyProof.Walks
import PyProof.ListNew
import KE.KDictOf
import PyProof.FactsAll.NoneType_1
import PyProof.FactsAll.list_3
import PyProof.ZipIter
import PyProof.Rows.ZipGen
import PyProof.Rows.StrNews2
import PyProof.CallStr
import KE.KDictLaws
import KE.KRevIter
import PyProof.StrLawsTight
import PySem.Challenge.RW_mustmay_k12_plans_written
set_option Elab.async false
set_option linter.all false
set_option maxRecDepth 100000
noncomputable section
open PySem.W (Frag findIn mg_of nsIn keepIn mg_none_of)
set_option maxHeartbeats 0 in
theorem h_said:PySem.Challenge.rw_mustmay_k12_plans_written.wellSaid=true:=by kernel_rfl
set_option maxHeartbeats 0 in
theorem h_bare:PySem.Challenge.rw_mustmay_k12_plans_written.row.prog.bare:=⟨rfl,rfl,rfl,rfl,rfl,by decide +kernel⟩
namespace L2
open PySem PySem.Spec PyProof.Rows
abbrev Key:=Sum Int Str
def Fj:Key->Value->Bool
 | .inl k,v=>Value.isInt k v
 | .inr x,v=>Value.isStrOf x v
def keyH(w:World):Key->Int
 | .inl k=>hashInt k
 | .inr x=>hashStr w x
theorem cN:∀{k:Key}{v:Value},Fj k v=true->(∃i t,k=Sum.inl i/\v=Value.int i t)∨(∃x t,k=Sum.inr x/\v=Value.str x t)
 | .inl i,v,h=>by
  obtain⟨t,e⟩:=Value.isInt_shape (k:=i) (v:=v) h
  exact .inl ⟨i,t,rfl,e⟩
 | .inr x,v,h=>by
  obtain⟨t,e⟩:=Value.isStrOf_shape (x:=x) (v:=v) h
  exact .inr ⟨x,t,rfl,e⟩
theorem Q7(i:Int)(t:Tok):Fj (.inl i) (.int i t)=true:=by simp[Fj,Value.isInt]
theorem Q8(x:Str)(t:Tok):Fj (.inr x) (.str x t)=true:=by simp[Fj,Value.isStrOf]
theorem key_ll(a b:Int):decide ((Sum.inl a:Key)=Sum.inl b)=(a==b):=by
 by_cases e:a=b
 .subst e;simp
 .have h:¬(Sum.inl a:Key)=Sum.inl b:=λq=>e (Sum.inl.inj q)
  rw[decide_eq_false h]
  exact(beq_eq_false_iff_ne.mpr e).symm
theorem key_rr(a b:Str):decide ((Sum.inr a:Key)=Sum.inr b)=decide (a=b):=by
 by_cases e:a=b
 .subst e;simp
 .have h:¬(Sum.inr a:Key)=Sum.inr b:=λq=>e (Sum.inr.inj q)
  rw[decide_eq_false h,decide_eq_false e]
theorem key_lr(a:Int)(b:Str):decide ((Sum.inl a:Key)=Sum.inr b)=false:=decide_eq_false (λq=>nomatch q)
theorem key_rl(a:Str)(b:Int):decide ((Sum.inr a:Key)=Sum.inl b)=false:=decide_eq_false (λq=>nomatch q)
def cV(prog:Program)(w:World):PySem.KeyKind prog w Key where
 is:=Fj
 hash:=keyH w
 inj:=λv a b ha hb=>by
  rcases cN ha with⟨i,t,rfl,rfl⟩| ⟨x,t,rfl,rfl⟩
  .rcases cN hb with⟨j,u,rfl,e⟩| ⟨y,u,rfl,e⟩
   .injection e with e1 _;rw[e1]
   .exact nomatch e
  .rcases cN hb with⟨j,u,rfl,e⟩| ⟨y,u,rfl,e⟩
   .exact nomatch e
   .injection e with e1 _;rw[e1]
 byValue:=λk v h=>by
  rcases cN h with⟨i,t,rfl,rfl⟩| ⟨x,t,rfl,rfl⟩ <;> rfl
 pyHash:=λhv h=>by
  rcases cN hv with⟨i,t,rfl,rfl⟩| ⟨x,t,rfl,rfl⟩
  .exact wpAny_pyHash_int h
  .exact wpAny_pyHash_str h
 eqBool:=λhu hv h=>by
  rcases cN hu with⟨i,t,rfl,rfl⟩| ⟨x,t,rfl,rfl⟩
  .rcases cN hv with⟨j,u,rfl,rfl⟩| ⟨y,u,rfl,rfl⟩
   .rw[key_ll] at h;exact wpAny_eqBool_int h
   .rw[key_lr] at h;exact SeqAt.EqAt.int_str i t y u _ _ _ _ h
  .rcases cN hv with⟨j,u,rfl,rfl⟩| ⟨y,u,rfl,rfl⟩
   .rw[key_rl] at h;exact SeqAt.EqAt.str_int x t j u _ _ _ _ h
   .rw[key_rr] at h;exact wpAny_eqBool_str h
 «strs»:=λk x t v h=>by
  rcases cN h with⟨i,u,rfl,e⟩| ⟨y,u,rfl,e⟩
  .exact nomatch e
  .injection e with e1 _
   subst e1
   cases v <;> rfl
theorem Lb(prog:Program)(w:World)(i:Int)(t:Tok):(cV prog w).is (.inl i) (.int i t)=true:=Q7 i t
theorem Ld(prog:Program)(w:World)(x:Str)(t:Tok):(cV prog w).is (.inr x) (.str x t)=true:=Q8 x t
end L2
namespace L2
open PySem PySem.Spec PyProof.Rows
inductive V where
 | non | bl (b:Bool) | int (i:Int) | str (x:Str) | byt (b:Array UInt8) | flt (b:UInt64) | ref (a:Addr) | ty (n:String)
 deriving DecidableEq
def RelV:V->Value->Prop
 | .non,u=>u=Value.none
 | .bl b,u=>u=Value.bool b
 | .int i,u=>∃t,u=Value.int i t
 | .str x,u=>∃t,u=Value.str x t
 | .byt b,u=>∃t,u=Value.bytes b t
 | .flt b,u=>∃t,u=Value.float b t
 | .ref a,u=>u=Value.ref a
 | .ty n,u=>u=Value.type n
abbrev Vals:List V->List Value->Prop:=Paired RelV
theorem Vals.length{xs:List V}{us:List Value}(r:Vals xs us):xs.length=us.length:=Paired.length r
theorem Vals.get:∀{xs:List V}{us:List Value}{i:Nat}{x:V},Vals xs us->xs[i]?=some x->∃u,us[i]?=some u/\RelV x u
 | _,_,_,_,.nil,e=>by simp at e
 | _,_,0,_,.cons r _,e=>by simp at e;subst e;exact⟨_,rfl,r⟩
 | _,_,i+1,x,.cons _ t,e=>by
  obtain⟨u,h1,h2⟩:=Vals.get (i:=i) (x:=x) t (by simpa using e)
  exact⟨u,by simpa using h1,h2⟩
theorem Vals.set{x:V}{u:Value}(r:RelV x u):∀{xs:List V}{us:List Value}(i:Nat),Vals xs us->Vals (xs.set i x) (us.set i u)
 | _,_,_,.nil=>.nil
 | _,_,0,.cons _ t=>.cons r t
 | _,_,i+1,.cons q t=>.cons q (Vals.set r i t)
theorem Vals.append:∀{xs ys:List V}{us ws:List Value},Vals xs us->Vals ys ws->Vals (xs++ys) (us++ws)
 | _,_,_,_,.nil,s=>s
 | _,_,_,_,.cons r t,s=>.cons r (Vals.append t s)
theorem Vals.take:∀{xs:List V}{us:List Value}(n:Nat),Vals xs us->Vals (xs.take n) (us.take n)
 | _,_,0,_=>.nil
 | _,_,_+1,.nil=>.nil
 | _,_,n+1,.cons r t=>.cons r (Vals.take n t)
theorem Vals.drop:∀{xs:List V}{us:List Value}(n:Nat),Vals xs us->Vals (xs.drop n) (us.drop n)
 | _,_,0,r=>r
 | _,_,_+1,.nil=>.nil
 | _,_,n+1,.cons _ t=>Vals.drop n t
def nH:Option V->Option Value->Prop
 | some v,some u=>RelV v u
 | none,none=>True
 | _,_=>False
def KV{κ:Type}:List (κ×V)->List (κ×Value)->Prop:=Paired λ(p:κ×V)(q:κ×Value)=>p.1=q.1/\RelV p.2 q.2
def kV:Key->V
 | .inl i=>.int i
 | .inr x=>.str x
inductive HO where
 | lst (xs:List V)
 | tup (xs:List V)
 | dK (kvs:List (Key×V)) | dT (kvs:List (List Key×V))
 | set (S:Int->Bool) (n:Nat)
 | ins (C dx:Addr) (fs:List (Str×V))
 | own (x:Addr)
 | xd (fs:List (Str×V))
 | met (f x:Addr)
 | rng (lo hi:Int)
 | frz (o:Obj) (u:HO)
 | tbl (ps:Array Value)
 | ext (φ:Heap->Prop)
abbrev Hp:=Addr->Option HO
def upd(H:Hp)(a:Addr)(o:HO):Hp:=λb=>if b=a then some o else H b
theorem aO{H:Hp}{a:Addr}{o:HO}:upd H a o a=some o:=by unfold upd;rw[if_pos rfl]
theorem aW{H:Hp}{a b:Addr}{o:HO}(h:b≠a):upd H a o b=H b:=by unfold upd;rw[if_neg h]
theorem aV{H:Hp}{a b:Addr}{o:HO}(h:H a=some o)(h':H b=none):a≠b:=by
 intro e;subst e;rw[h] at h';cases h'
section
variable(P:Program)(w:World)
def cL(H:Hp)(h:Heap)(a:Addr):HO->Prop
 | .lst xs=>xs.length<=sizeLine/\∃(its:List Value)(n:Nat),Vals xs its/\h.get? a=some { cls:=.type "list",data:=.seq its.toArray n }
 | .tup xs=>xs.length<=sizeLine/\∃its:List Value,Vals xs its/\IsTup h a its.toArray
 | .dK kvs=>kvs.length<=sizeLine/\(a==sysModules)=false/\∃vs,KV kvs vs/\h.DictOf (cV P w) a vs
 | .dT kvs=>kvs.length<=sizeLine/\(a==sysModules)=false/\∃xs:List (List Key×Addr×Value),
   Paired (λ(p:List Key×V)(q:List Key×Addr×Value)=>p.1=q.1/\H q.2.1=some (.tup (p.1.map kV))/\RelV p.2 q.2.2) kvs xs /\
   ∃o es ep,h.get? a=some o/\o.ExactDict/\o.data=.dict es ep/\es.toList=xs.map (entryOfKey (tupleKind (cV P w)))/\(xs.map (·.1)).Nodup
 | .set S n=>h.SetOf (intKind P w) a S n
 | .ins C dx fs=>H dx=some (.own a)/\fs.length<=1000/\dx≠a/\h.get? a=some (PySem.W.instObj C dx) /\
   ∃mA,h.Ns1 dx mA/\(∀f,nH (fs.lookup f) (mA f))/\PySem.Within mA (fs.map (·.1))
 | .own _=>∃o,h.get? a=some o
 | .xd fs=>∃mA,h.Ns1 a mA/\∀f,nH (fs.lookup f) (mA f)
 | .rng lo hi=>∃t u v,h.get? a=some { cls:=.type "range",data:=.fields #[.int lo t,.int hi u,.int 1 v] }
 | .frz o u=>h.get? a=some o/\cL H h a u
 | .tbl ps=>h.get? a=some { cls:=.none,data:=.fields ps }
 | .met f x=>h.get? a=some (PySem.W.methodObj (.ref f) (.ref x))
 | .ext φ=>φ h/\(∃o,h.get? a=some o)/\∀h1 h2:Heap,φ h1->(∀o,h1.get? a=some o->h2.get? a=some o)->φ h2
def HOk(H:Hp)(h:Heap):Prop:=∀a o,H a=some o->cL P w H h a o
end
section
variable{P:Program}{w:World}{H H':Hp}{h h':Heap}{a:Addr}{o:HO}
theorem cL.lt(x:cL P w H h a o):a<h.objs.size:=by
 cases o with
 | lst xs=>obtain⟨_,_,_,_,e⟩:=x;exact Heap.lt_size e
 | tup xs=>obtain⟨_,_,_,p⟩:=x;exact p.lt
 | dK kvs=>obtain⟨_,_,_,_,o,_,_,e,_⟩:=x;exact Heap.lt_size e
 | dT kvs=>obtain⟨_,_,_,_,o,_,_,e,_⟩:=x;exact Heap.lt_size e
 | set S n=>obtain⟨o,_,_,_,e,_⟩:=x;exact Heap.lt_size e
 | ins C dx fs=>obtain⟨_,_,_,e,_⟩:=x;exact Heap.lt_size e
 | own y=>obtain⟨_,e⟩:=x;exact Heap.lt_size e
 | xd fs=>obtain⟨_,⟨_,_,_,e,_⟩,_⟩:=x;exact Heap.lt_size e
 | rng lo hi=>obtain⟨_,_,_,e⟩:=x;exact Heap.lt_size e
 | frz ob u=>obtain⟨e,_⟩:=x;exact Heap.lt_size e
 | tbl ps=>exact Heap.lt_size (show h.get? a=some _ from x)
 | met f y=>exact Heap.lt_size (show h.get? a=some _ from x)
 | ext φ=>obtain⟨_,⟨_,e⟩,_⟩:=x;exact Heap.lt_size e
theorem Paired.mapP{α β:Type}{F G:α->β->Prop}:∀{l₁:List α}{l₂:List β},Paired F l₁ l₂->(∀a b,F a b->G a b)->Paired G l₁ l₂
 | _,_,.nil,_=>.nil
 | _,_,.cons r t,f=>.cons (f _ _ r) (Paired.mapP t f)
theorem cL.stay(x:cL P w H h a o)(k:∀b u,(b=a∨H b=some (.own a))->h.get? b=some u->h'.get? b=some u)
  (ho:∀b,H b=some (.own a)->H' b=some (.own a)) (ht:∀b xs,H b=some (.tup xs)->H' b=some (.tup xs)):cL P w H' h' a o:=by
 induction o with
 | lst xs=>obtain⟨z,its,n,r,e⟩:=x;exact⟨z,its,n,r,k _ _ (.inl rfl) e⟩
 | tup xs=>obtain⟨z,its,r,ob,e,c⟩:=x;exact⟨z,its,r,ob,k _ _ (.inl rfl) e,c⟩
 | dK kvs=>obtain⟨z,y,vs,r,ob,es,ep,e,c⟩:=x;exact⟨z,y,vs,r,ob,es,ep,k _ _ (.inl rfl) e,c⟩
 | dT kvs =>
  obtain⟨z,y,xs,r,ob,es,ep,e,c⟩:=x
  exact⟨z,y,xs,Paired.mapP r λp q z=>⟨z.1,ht _ _ z.2.1,z.2.2⟩,ob,es,ep,k _ _ (.inl rfl) e,c⟩
 | set S n=>obtain⟨ob,es,ep,t,e,c⟩:=x;exact⟨ob,es,ep,t,k _ _ (.inl rfl) e,c⟩
 | ins C dx fs =>
  obtain⟨d,z,ne,e,mA,⟨od,es,ep,e2,c⟩,r⟩:=x
  exact⟨ho _ d,z,ne,k _ _ (.inl rfl) e,mA,⟨od,es,ep,k _ _ (.inr d) e2,c⟩,r⟩
 | own y=>obtain⟨ob,e⟩:=x;exact⟨ob,k _ _ (.inl rfl) e⟩
 | xd fs=>obtain⟨mA,⟨od,es,ep,e,c⟩,r⟩:=x;exact⟨mA,⟨od,es,ep,k _ _ (.inl rfl) e,c⟩,r⟩
 | rng lo hi=>obtain⟨t,u,v,e⟩:=x;exact⟨t,u,v,k _ _ (.inl rfl) e⟩
 | frz ob u ih=>obtain⟨e,q⟩:=x;exact⟨k _ _ (.inl rfl) e,ih q⟩
 | tbl ps =>
  have e:h.get? a=some { cls:=.none,data:=.fields ps }:=x
  show h'.get? a=some { cls:=.none,data:=.fields ps }
  exact k a _ (.inl rfl) e
 | met f y =>
  have e:h.get? a=some (PySem.W.methodObj (.ref f) (.ref y)):=x
  show h'.get? a=some (PySem.W.methodObj (.ref f) (.ref y))
  exact k a _ (.inl rfl) e
 | ext φ=>obtain⟨p,⟨o,e⟩,st⟩:=x;exact⟨st _ _ p λo q=>k _ _ (.inl rfl) q,⟨o,k _ _ (.inl rfl) e⟩,st⟩
theorem HOk.lt(x:HOk P w H h)(e:H a=some o):a<h.objs.size:=(x a o e).lt
theorem HOk.fresh(x:HOk P w H h)(e:h.objs.size<=a):H a=none:=by
 cases q:H a with
 | none=>rfl
 | some u=>exact absurd (Nat.lt_of_lt_of_le (x.lt q) e) (Nat.lt_irrefl _)
theorem HOk.kept(x:HOk P w H h)(k:∀b u,h.get? b=some u->h'.get? b=some u):HOk P w H h':=λa o e =>
 (x a o e).stay (λb u _ q=>k b u q) (λ_ q=>q) λ_ _ q=>q
theorem HOk.laid(x:HOk P w H h)(k:∀b u,h.get? b=some u->h'.get? b=some u)(hp:h.objs.size<=a)(new:cL P w (upd H a o) h' a o):HOk P w (upd H a o) h':=λb u e=>by
 have hn:=x.fresh hp
 by_cases hb:b=a
 .subst hb;rw[aO] at e;cases e;exact new
 .rw[aW hb] at e
  exact(x b u e).stay (λc v _ q=>k c v q) (λc q=>by rw[aW (aV q hn)];exact q) λc xs q=>by rw[aW (aV q hn)];exact q
end
def Rd(H:Hp)(a:Addr)(u:HO):Prop:=H a=some u∨∃o,H a=some (.frz o u)
theorem Rd.ok{P:Program}{w:World}{H:Hp}{h:Heap}{a:Addr}{u:HO}(r:Rd H a u)(x:HOk P w H h):cL P w H h a u:=by
 rcases r with r | ⟨o,r⟩
 .exact x a u r
 .obtain⟨_,q⟩:=x a _ r
  exact q
def Mut:Option HO->Prop
 | some (.lst _)=>True
 | some (.dK _)=>True
 | some (.dT _)=>True
 | some (.set _ _)=>True
 | some (.ins _ _ _)=>True
 | some (.ext _)=>True
 | _=>False
section
variable{P:Program}{w:World}{H:Hp}{h h':Heap}{x e:Addr}{o':HO}
theorem HOk.write(ok:HOk P w H h)(mu:Mut (H x))(he:e=x∨H e=some (.own x))(k:∀b u,b≠e->h.get? b=some u->h'.get? b=some u)(heo:∃u,h'.get? e=some u)
  (new:cL P w (upd H x o') h' x o'):HOk P w (upd H x o') h':=λb u q=>by
 have nown:∀c y,H c=some (.own y)->c≠x:=λc y r z=>by subst z;rw[r] at mu;exact mu
 have ntup:∀c xs,H c=some (.tup xs)->c≠x:=λc xs r z=>by subst z;rw[r] at mu;exact mu
 by_cases hb:b=x
 .subst hb;rw[aO] at q;cases q;exact new
 .rw[aW hb] at q
  by_cases hbe:b=e
  .have q':H b=some (.own x):=by
    rcases he with z | z
    .exact absurd (hbe.trans z) hb
    .rw[hbe];exact z
   rw[q] at q';cases q'
   obtain⟨v,hv⟩:=heo
   exact⟨v,by rw[hbe];exact hv⟩
  .refine(ok b u q).stay (λc v hc r=>k c v ?_ r) (λc r=>by rw[aW (nown c b r)];exact r) λc xs r=>by rw[aW (ntup c xs r)];exact r
   rcases hc with rfl | hc
   .exact hbe
   .rintro rfl
    rcases he with z | z
    .exact nown c b hc z
    .rw[hc] at z;cases z;exact hb rfl
end
structure Un(fs ex:List Addr)(H H':Hp)(h h':Heap):Prop where
 keep:∀b o,h.get? b=some o->H b=none->b∉fs->b∉ex->h'.get? b=some o
 slot:∀b o,h.get? b=some o->H b=none->b∈fs->b∉ex->∃sl,h'.get? b=some { o with slots:=sl }
 free:∀b o,h.get? b=some o->H b=none->b∉ex->H' b=none
 there:∀b o,h.get? b=some o->b∉ex->∃o',h'.get? b=some o'
 tups:∀b xs,H b=some (.tup xs)->H' b=some (.tup xs)
 yo:∀b o u,H b=some (.frz o u)->H' b=some (.frz o u)
 zV:∀b ps,H b=some (.tbl ps)->∃more,H' b=some (.tbl (ps++more))
section
variable{fs fs' ex ex':List Addr}{H H1 H2:Hp}{h h1 h2 h':Heap}{a x e:Addr}{o:HO}
theorem Un.any(u:Un fs ex H H1 h h1){b:Addr}{ob:Obj}(q:h.get? b=some ob)(n:H b=none)(hx:b∉ex):∃sl,h1.get? b=some { ob with slots:=sl }:=by
 by_cases hb:b∈fs
 .exact u.slot b ob q n hb hx
 .exact⟨ob.slots,u.keep b ob q n hb hx⟩
theorem Un.trans(a:Un fs ex H H1 h h1)(b:Un fs ex H1 H2 h1 h2):Un fs ex H H2 h h2 where
 keep:=λc ob q n hc hx=>b.keep c ob (a.keep c ob q n hc hx) (a.free c ob q n hx) hc hx
 slot:=λc ob q n hc hx=>by
  obtain⟨sl,e1⟩:=a.slot c ob q n hc hx
  obtain⟨sl',e2⟩:=b.slot c _ e1 (a.free c ob q n hx) hc hx
  exact⟨sl',e2⟩
 free:=λc ob q n hx=>by
  obtain⟨o',e1⟩:=a.there c ob q hx
  exact b.free c o' e1 (a.free c ob q n hx) hx
 there:=λc ob q hx=>by
  obtain⟨o',e1⟩:=a.there c ob q hx
  exact b.there c o' e1 hx
 tups:=λc xs q=>b.tups c xs (a.tups c xs q)
 yo:=λc ob xs q=>b.yo c ob xs (a.yo c ob xs q)
 zV:=λc ps q=>by
  obtain⟨m1,e1⟩:=a.zV c ps q
  obtain⟨m2,e2⟩:=b.zV c _ e1
  exact⟨m1++m2,by rw[e2,Array.append_assoc]⟩
theorem Un.kept(k:∀b u,h.get? b=some u->h'.get? b=some u):Un fs ex H H h h' :=
 ⟨λb ob q _ _ _=>k b ob q,λb ob q _ _ _=>⟨ob.slots,k b ob q⟩,λ_ _ _ n _=>n,λb ob q _=>⟨ob,k b ob q⟩,λ_ _ q=>q,λ_ _ _ q=>q,λ_ ps q=>⟨#[],by rw[q];simp⟩⟩
theorem Un.refl:Un fs ex H H h h:=Un.kept λ_ _ q=>q
theorem Un.laid(k:∀b u,h.get? b=some u->h'.get? b=some u)(hp:h.objs.size<=a)(hn:H a=none):Un fs ex H (upd H a o) h h' where
 keep:=λb u q _ _ _=>k b u q
 slot:=λb u q _ _ _=>⟨u.slots,k b u q⟩
 free:=λb u q n _=>by rw[aW (Nat.ne_of_lt (Nat.lt_of_lt_of_le (Heap.lt_size q) hp))];exact n
 there:=λb u q _=>⟨u,k b u q⟩
 tups:=λb xs q=>by rw[aW (aV q hn)];exact q
 yo:=λb u xs q=>by rw[aW (aV q hn)];exact q
 zV:=λb ps q=>⟨#[],by rw[aW (aV q hn),q];simp⟩
theorem Un.write(mu:Mut (H x))(he:e=x∨H e=some (.own x))(k:∀b u,b≠e->h.get? b=some u->h'.get? b=some u)(heo:∃u,h'.get? e=some u):Un fs ex H (upd H x o) h h':=by
 have hx:∀b,H b=none->b≠x:=λb n z=>by subst z;rw[n] at mu;exact mu
 have hb:∀b,H b=none->b≠e:=λb n z=>by
  subst z
  rcases he with r | r
  .exact hx b n r
  .rw[n] at r;cases r
 have hm:∀b u,H b=some u->¬Mut (some u)->b≠x:=λb u q nm z=>by subst z;rw[q] at mu;exact nm mu
 refine⟨λb u q n _ _=>k b u (hb b n) q,λb u q n _ _=>⟨u.slots,k b u (hb b n) q⟩,λb u q n _=>by rw[aW (hx b n)];exact n,λb u q _=>?_,
  λb xs q=>by rw[aW (hm b _ q λz=>z)];exact q,λb u xs q=>by rw[aW (hm b _ q λz=>z)];exact q,λb ps q=>⟨#[],by rw[aW (hm b _ q λz=>z),q];simp⟩⟩
 by_cases hbe:b=e
 .subst hbe;exact heo
 .exact⟨u,k b u hbe q⟩
end
def trk(h:Heap)(H:Hp):List Addr:=(List.range h.objs.size).filter λa=>(H a).isSome
def hidT(h:Heap)(H:Hp):Heap:=PySem.W.hideAll h (trk h H)
theorem QZ(h:Heap)(H:Hp):(hidT h H).objs.size=h.objs.size:=PySem.W.hideAll_size _ _
theorem hidT_get{h:Heap}{H:Hp}{b:Addr}{o:Obj}(e:h.get? b=some o)(n:H b=none):(hidT h H).get? b=some o :=
 PySem.W.hideAll_get _ e λhm=>by
  have q:(H b).isSome=true:=(List.mem_filter.mp hm).2
  rw[n] at q;simp at q
theorem of_hidT{h:Heap}{H:Hp}{b:Addr}{o:Obj}(e:(hidT h H).get? b=some o):h.get? b=some o/\H b=none:=by
 have e':h.get? b=some o:=PySem.W.of_hideAll (trk h H) e
 refine⟨e',?_⟩
 cases q:H b with
 | none=>rfl
 | some x =>
  have hm:b∈trk h H:=List.mem_filter.mpr ⟨List.mem_range.mpr (Heap.lt_size e'),by simp[q]⟩
  have z:(hidT h H).get? b=none:=PySem.W.hideAll_none (trk h H) hm
  rw[z] at e;cases e
end L2
namespace L2
open PySem PySem.Spec PyProof.Rows
structure Mod(K:Frag)(mg:Str->Option Value)(base:Heap):Prop where
 kin:K.In base
 glob:base.Ns mainGlobals mg
 blt:∃mb,base.Ns builtinsNs mb/\∀x:Str,x≠"__name__"->mb x=bootBuiltins x
 nolimit:base.NoLimit
structure Cx where
 prog:Program
 w:World
 K:Frag
 mg:Str->Option Value
 base:Heap
 A:Around
 N:List Str
 s₀:Shared
 H₀:Hp
 env:Env
 outer:List Env
 stack:List Env
 ex:List Addr
 fn:Str->Bool
 calm:Bool
 pn:List (Addr×Obj)
 xe:Value->Shared->Prop
def frs(l:List Env):List Addr:=l.filterMap (·.frame)
abbrev Cx.fs(X:Cx):List Addr:=frs X.outer
def Vis(sc:Scope)(x:Str):Prop:=sc.names.lookup x=some .local∨sc.names.lookup x=some .cell∨sc.names.lookup x=some .free
def Loc(sc:Scope)(x:Str):Prop:=sc.names.lookup x=some .local∨sc.names.lookup x=some .cell
def Look(env:Env)(h:Heap)(m:Str->Option Value)(x:Str)(u:Value):Prop :=
 (env.kindOf x=some .local/\m x=some u)∨((env.kindOf x=some .cell∨env.kindOf x=some .free)/\∃c,env.cells.lookup x=some c/\h.IsCell c (some u))
structure Cx.Ok(X:Cx):Prop where
 mod:Mod X.K X.mg X.base
 kind:X.env.scope.kind=.function
 glob:X.env.globals=mainGlobals
 blt:X.env.builtins=builtinsNs
 above:X.s₀.heap.objs.size<=X.env.locals
 inj:∀x y c,X.env.cells.lookup x=some c->X.env.cells.lookup y=some c->x=y
 has:∀x,(X.env.kindOf x=some .cell∨X.env.kindOf x=some .free)->∃c,X.env.cells.lookup x=some c
 cab:∀x c,X.fn x=true->X.env.cells.lookup x=some c->X.s₀.heap.objs.size<=c
 hd:X.calm=true->X.A.handled=none
 frames:X.A.frames=some X.stack
 stk:X.stack=X.outer∨(X.stack=X.env::X.outer/\X.env.frame=some X.env.locals)
 exf:∀b∈X.ex,b≠X.env.locals/\∀x c,X.env.cells.lookup x=some c->c≠b
 bs:∀b o,X.base.get? b=some o->X.s₀.heap.get? b=some o/\X.H₀ b=none
 bsz:X.base.objs.size<=X.s₀.heap.objs.size
 bf:∀b o,X.base.get? b=some o->b∉X.ex
 exfs:∀b∈X.ex,b∉X.fs
 zH:X.s₀.heap.FunFrames X.base X.outer
 frf:∀b∈X.fs,X.H₀ b=none
structure Inv(X:Cx)(pins:List (Addr×Obj))(σ:List (Option V))(H:Hp)(s:Shared):Prop where
 ok:X.Ok
 os:s.os=X.s₀.os
 bare:AllBare s.gens
 base:Un X.fs X.ex X.H₀ H X.s₀.heap s.heap
 loc:∃m,s.heap.Ns X.env.locals m/\∀(i:Nat)(x:Str)(v:V),X.N[i]?=some x->σ[i]?=some (some v)->Vis X.env.scope x->∃u,RelV v u/\Look X.env s.heap m x u
 cell:∀x c,X.env.cells.lookup x=some c->∃v,s.heap.IsCell c v
 free:H X.env.locals=none
 uz:∀x c,X.env.cells.lookup x=some c->H c=none
 pin:∀p∈X.pn++pins,s.heap.get? p.1=some p.2/\H p.1=none/\p.1≠X.env.locals/\p.1∉X.fs/\∀v,p.2.data≠.cell v
 hok:HOk X.prog X.w H s.heap
 len:σ.length=X.N.length
section
variable{X:Cx}{pins:List (Addr×Obj)}{σ:List (Option V)}{H H':Hp}{s:Shared}{h':Heap}
theorem Cx.Ok.nofr(ok:X.Ok){b:Addr}{o:Obj}(e:X.base.get? b=some o):b∉X.fs:=λhb=>by
 have:=(ok.zH.mem hb).1
 rw[e] at this;cases this
theorem Inv.bs(I:Inv X pins σ H s):∀b o,X.base.get? b=some o->s.heap.get? b=some o/\H b=none:=λb o e =>
 ⟨I.base.keep b o (I.ok.bs b o e).1 (I.ok.bs b o e).2 (I.ok.nofr e) (I.ok.bf b o e),I.base.free b o (I.ok.bs b o e).1 (I.ok.bs b o e).2 (I.ok.bf b o e)⟩
theorem Inv.bk(I:Inv X pins σ H s):∀b o,X.base.get? b=some o->s.heap.get? b=some o:=λb o e=>(I.bs b o e).1
theorem Inv.mod(I:Inv X pins σ H s):Mod X.K X.mg X.base:=I.ok.mod
theorem Inv.kIn(I:Inv X pins σ H s):X.K.In s.heap:=I.ok.mod.kin.keeps I.bk
theorem Inv.lt(I:Inv X pins σ H s):X.env.locals<s.heap.objs.size:=let ⟨_,hn,_⟩:=I.loc;hn.lt
theorem Inv.sz(I:Inv X pins σ H s):X.s₀.heap.objs.size<=s.heap.objs.size:=Nat.le_trans I.ok.above (Nat.le_of_lt I.lt)
theorem Inv.nofs(I:Inv X pins σ H s){a:Addr}(h:s.heap.objs.size<=a):a∉X.fs:=λhb=>by
 obtain⟨_,o,ho,_⟩:=I.ok.zH.mem hb
 exact absurd (Nat.lt_of_lt_of_le (Heap.lt_size ho) (Nat.le_trans I.sz h)) (Nat.lt_irrefl _)
theorem Inv.cne(I:Inv X pins σ H s):∀x c,X.env.cells.lookup x=some c->c≠X.env.locals:=λx c e z=>by
 obtain⟨v,o,ho,hd⟩:=I.cell x c e
 obtain⟨m,⟨o',es,ep,ho',hd',_⟩,_⟩:=I.loc
 rw[z,ho'] at ho;cases ho;rw[hd'] at hd;cases hd
theorem Inv.zH(I:Inv X pins σ H s):s.heap.FunFrames X.base X.outer:=by
 have all:∀(l:List Env),(∀b∈frs l,b∈X.fs)->X.s₀.heap.FunFrames X.base l->s.heap.FunFrames X.base l:=by
  intro l
  induction l with
  | nil=>intro _ _;trivial
  | cons env r ih =>
   intro hs hl
   obtain⟨hk,⟨L,o,hf,hn,ho,hd⟩,hr⟩:=hl
   have hL:L∈X.fs:=hs L (by unfold frs;rw[List.filterMap_cons,hf];exact List.mem_cons_self)
   obtain⟨sl,e⟩:=I.base.slot L o ho (I.ok.frf L hL) hL λz=>I.ok.exfs L z hL
   exact⟨hk,⟨L,_,hf,hn,e,hd⟩,ih (λb hb=>hs b (by unfold frs;rw[List.filterMap_cons,hf];exact List.mem_cons_of_mem _ hb)) hr⟩
 exact all X.outer (λ_ hb=>hb) I.ok.zH
theorem Inv.stack(I:Inv X pins σ H s):s.heap.FunFrames X.base X.stack:=by
 rcases I.ok.stk with e | ⟨e,hf⟩
 .rw[e];exact I.zH
 .rw[e]
  obtain⟨m,hn,_⟩:=I.loc
  refine .cons (by rw[I.ok.kind];decide) hf hn ?_ I.zH
  exact Heap.get?_none_of_le (Nat.le_trans I.ok.bsz I.ok.above)
theorem Inv.O6(I:Inv X pins σ H s):∀b∈frs X.stack,b∈X.env.locals::X.fs:=λb hb=>by
 rcases I.ok.stk with e | ⟨e,hf⟩
 .rw[e] at hb;exact List.mem_cons_of_mem _ hb
 .rw[e] at hb
  unfold frs at hb
  rw[List.filterMap_cons,hf] at hb
  exact hb
theorem Inv.Qp(I:Inv X pins σ H s):∀b∈frs X.stack,H b=none:=λb hb=>by
 rcases List.mem_cons.mp (I.O6 b hb) with e | hb
 .rw[e];exact I.free
 .obtain⟨_,o,ho,_⟩:=I.ok.zH.mem hb
  exact I.base.free b o ho (I.ok.frf b hb) λz=>I.ok.exfs b z hb
theorem Inv.step{g':Array GenState}{t':Nat}{d':Drawn}{ch:List Addr}(I:Inv X pins σ H s)
  (hch:∀b∈ch,(b∈X.ex∨X.s₀.heap.objs.size<=b)/\b≠X.env.locals/\(∀x c,X.env.cells.lookup x=some c->c≠b)/\∀p∈X.pn++pins,p.1≠b)
  (keep:∀b o,b≠X.env.locals->b∉X.fs->b∉ch->s.heap.get? b=some o->H b=none->h'.get? b=some o)
  (slot:∀b o,b≠X.env.locals->b∈X.fs->b∉ch->s.heap.get? b=some o->H b=none->∃sl,h'.get? b=some { o with slots:=sl }) (free:∀b o,b∉ch->s.heap.get? b=some o->H b=none->H' b=none)
  (there:∀b o,b∉ch->s.heap.get? b=some o->∃o',h'.get? b=some o')
  (tups:∀b xs,H b=some (.tup xs)->H' b=some (.tup xs)) (yo:∀b o u,H b=some (.frz o u)->H' b=some (.frz o u)) (zV:∀b ps,H b=some (.tbl ps)->∃more,H' b=some (.tbl (ps++more)))
  (ns:∀m,s.heap.Ns X.env.locals m->h'.Ns X.env.locals m) (hok:HOk X.prog X.w H' h') (hg:AllBare g') :
  Inv X pins σ H' { s with heap:=h',gens:=g',drawn:=d',toks:=t' }:=by
 have neL:∀b o,X.s₀.heap.get? b=some o->b≠X.env.locals:=λb o e=>Nat.ne_of_lt (Nat.lt_of_lt_of_le (Heap.lt_size e) I.ok.above)
 have neC:∀b o,X.s₀.heap.get? b=some o->b∉X.ex->b∉ch:=λb o e hx hb=>by
  rcases (hch b hb).1 with z | z
  .exact hx z
  .exact absurd (Nat.lt_of_lt_of_le (Heap.lt_size e) z) (Nat.lt_irrefl _)
 have cellK:∀x c,X.env.cells.lookup x=some c->∀v,s.heap.IsCell c v->h'.IsCell c v:=λx c e v ⟨o,ho,hd⟩=>by
  have nch:c∉ch:=λz=>(hch c z).2.2.1 x c e rfl
  by_cases hc:c∈X.fs
  .obtain⟨sl,q⟩:=slot c o (I.cne x c e) hc nch ho (I.uz x c e)
   exact⟨_,q,hd⟩
  .exact⟨o,keep c o (I.cne x c e) hc nch ho (I.uz x c e),hd⟩
 refine⟨I.ok,I.os,hg,⟨λb o e n hb hx=>?_,λb o e n hb hx=>?_,λb o e n hx=>?_,λb o e hx=>?_,λb xs e=>tups b xs (I.base.tups b xs e),λb o xs e=>yo b o xs (I.base.yo b o xs e),λb ps e=>?_⟩,?_,λx c e=>?_,?_,λx c e=>?_,λp hp=>?_,hok,I.len⟩
 .exact keep b o (neL b o e) hb (neC b o e hx) (I.base.keep b o e n hb hx) (I.base.free b o e n hx)
 .obtain⟨sl,e1⟩:=I.base.slot b o e n hb hx
  obtain⟨sl',e2⟩:=slot b _ (neL b o e) hb (neC b o e hx) e1 (I.base.free b o e n hx)
  exact⟨sl',e2⟩
 .obtain⟨o',e1⟩:=I.base.there b o e hx
  exact free b o' (neC b o e hx) e1 (I.base.free b o e n hx)
 .obtain⟨o',e1⟩:=I.base.there b o e hx
  exact there b o' (neC b o e hx) e1
 .obtain⟨m1,e1⟩:=I.base.zV b ps e
  obtain⟨m2,e2⟩:=zV b _ e1
  exact⟨m1++m2,by rw[e2,Array.append_assoc]⟩
 .obtain⟨m,hn,hl⟩:=I.loc
  refine⟨m,ns m hn,λi x v e1 e2 e3=>?_⟩
  obtain⟨u,r,l⟩:=hl i x v e1 e2 e3
  refine⟨u,r,?_⟩
  rcases l with l | ⟨k,c,e,z⟩
  .exact .inl l
  .exact .inr ⟨k,c,e,cellK x c e _ z⟩
 .obtain⟨v,z⟩:=I.cell x c e
  exact⟨v,cellK x c e v z⟩
 .obtain⟨m,⟨o,_,_,ho,_⟩,_⟩:=I.loc
  exact free _ o (λz=>(hch _ z).2.1 rfl) ho I.free
 .obtain⟨v,o,ho,hd⟩:=I.cell x c e
  exact free c o (λz=>(hch c z).2.2.1 x c e rfl) ho (I.uz x c e)
 .obtain⟨e,n,ne,nf,d⟩:=I.pin p hp
  have nch:p.1∉ch:=λz=>(hch p.1 z).2.2.2 p hp rfl
  exact⟨keep p.1 p.2 ne nf nch e n,free p.1 p.2 nch e n,ne,nf,d⟩
theorem Inv.un{t':Nat}(I:Inv X pins σ H s)(u:Un X.fs [] H H' s.heap h')(hok:HOk X.prog X.w H' h'):Inv X pins σ H' { s with heap:=h',toks:=t' }:=by
 obtain⟨m,⟨o,es,ep,ho,r⟩,_⟩:=id I.loc
 obtain⟨sl,hL⟩:=u.any ho I.free (by simp)
 exact I.step (g':=s.gens) (d':=s.drawn) (ch:=[]) (λ_ z=>nomatch z) (λb o _ hb _ e n=>u.keep b o e n hb (by simp)) (λb o _ hb _ e n=>u.slot b o e n hb (by simp)) (λb o _ e n=>u.free b o e n (by simp)) (λb o _ e=>u.there b o e (by simp)) u.tups u.yo u.zV (λm' hm=>by
  obtain⟨o',es',ep',ho',r'⟩:=hm
  rw[ho] at ho';cases ho'
  exact⟨_,es',ep',hL,r'⟩) hok I.bare
theorem Inv.call{g':Array GenState}{t':Nat}{d':Drawn}{ch:List Addr}(I:Inv X pins σ H s)(u:Un (frs X.stack) ch H H' s.heap h')(hok:HOk X.prog X.w H' h')(hg:AllBare g')
  (hch:∀b∈ch,(b∈X.ex∨X.s₀.heap.objs.size<=b)/\b≠X.env.locals/\(∀x c,X.env.cells.lookup x=some c->c≠b)/\∀p∈X.pn++pins,p.1≠b) :
  Inv X pins σ H' { s with heap:=h',gens:=g',drawn:=d',toks:=t' }:=by
 obtain⟨m,⟨o,es,ep,ho,r⟩,_⟩:=id I.loc
 obtain⟨sl,hL⟩:=u.any ho I.free λz=>(hch _ z).2.1 rfl
 exact I.step (ch:=ch) hch (λb o hL hb hc e n=>u.keep b o e n (λz=>(List.mem_cons.mp (I.O6 b z)).elim hL hb) hc) (λb o _ _ hc e n=>u.any e n hc) (λb o hc e n=>u.free b o e n hc) (λb o hc e=>u.there b o e hc) u.tups u.yo u.zV (λm' hm=>by
  obtain⟨o',es',ep',ho',r'⟩:=hm
  rw[ho] at ho';cases ho'
  exact⟨_,es',ep',hL,r'⟩) hok hg
theorem Inv.turned{t':Nat}{it:Addr}(I:Inv X pins σ H s)(k:∀b o,b≠it->s.heap.get? b=some o->h'.get? b=some o)(hn:H it=none)(hL:it≠X.env.locals)
  (h1:it∈X.ex∨X.s₀.heap.objs.size<=it) (h2:∀x c,X.env.cells.lookup x=some c->c≠it) (h3:∀p∈X.pn++pins,p.1≠it):Inv X pins σ H { s with heap:=h',toks:=t' }:=by
 have nit:∀b u,H b=some u->b≠it:=λb u e z=>by rw[z,hn] at e;cases e
 refine I.step (g':=s.gens) (d':=s.drawn) (ch:=[it]) (λb hb=>?_) (λb o _ _ hc e _=>k b o (λz=>hc (by simp[z])) e) (λb o _ _ hc e _=>⟨o.slots,k b o (λz=>hc (by simp[z])) e⟩) (λ_ _ _ _ n=>n)
  (λb o hc e=>⟨o,k b o (λz=>hc (by simp[z])) e⟩) (λ_ _ e=>e) (λ_ _ _ e=>e) (λb ps e=>⟨#[],by rw[e];simp⟩) (λm hm=>?_) (λb u e=>?_) I.bare
 .have e:b=it:=by simpa using hb
  subst e
  exact⟨h1,hL,h2,h3⟩
 .obtain⟨o,es,ep,ho,r⟩:=hm
  exact⟨o,es,ep,k _ o (Ne.symm hL) ho,r⟩
 .refine(I.hok b u e).stay (λc v hc q=>k c v ?_ q) (λ_ q=>q) λ_ _ q=>q
  rcases hc with z | z
  .rw[z];exact nit b u e
  .exact nit c _ z
theorem Inv.tok(I:Inv X pins σ H s)(t:Nat):Inv X pins σ H { s with toks:=t }:=I.un (h':=s.heap) (t':=t) Un.refl I.hok
theorem Inv.kept{t':Nat}(I:Inv X pins σ H s)(k:∀b u,s.heap.get? b=some u->h'.get? b=some u):Inv X pins σ H { s with heap:=h',toks:=t' }:=I.un (Un.kept k) (I.hok.kept k)
theorem Inv.laid{a:Addr}{o:HO}{t':Nat}(I:Inv X pins σ H s)(k:∀b u,s.heap.get? b=some u->h'.get? b=some u)(hp:s.heap.objs.size<=a)(new:cL X.prog X.w (upd H a o) h' a o):
  Inv X pins σ (upd H a o) { s with heap:=h',toks:=t' }:=I.un (Un.laid k hp (I.hok.fresh hp)) (I.hok.laid k hp new)
theorem Inv.write{x e:Addr}{o:HO}{t':Nat}(I:Inv X pins σ H s)(mu:Mut (H x))(he:e=x∨H e=some (.own x))(k:∀b u,b≠e->s.heap.get? b=some u->h'.get? b=some u)(heo:∃u,h'.get? e=some u)
  (new:cL X.prog X.w (upd H x o) h' x o):Inv X pins σ (upd H x o) { s with heap:=h',toks:=t' }:=I.un (Un.write mu he k heo) (I.hok.write mu he k heo new)
theorem Inv.Qj{pins':List (Addr×Obj)}(I:Inv X pins σ H s)(h:∀p∈pins',s.heap.get? p.1=some p.2/\H p.1=none/\p.1≠X.env.locals/\p.1∉X.fs/\∀v,p.2.data≠.cell v):Inv X pins' σ H s :=
 ⟨I.ok,I.os,I.bare,I.base,I.loc,I.cell,I.free,I.uz,λp hp=>(List.mem_append.mp hp).elim (λz=>I.pin p (List.mem_append_left _ z)) (h p),I.hok,I.len⟩
theorem Lg{N:List Str}(hN:N.Nodup){i j:Nat}{x:Str}(a:N[i]?=some x)(b:N[j]?=some x):i=j:=by
 obtain⟨h1,e1⟩:=List.getElem?_eq_some_iff.mp a
 obtain⟨h2,e2⟩:=List.getElem?_eq_some_iff.mp b
 exact(List.getElem_inj hN).mp (e1.trans e2.symm)
theorem FN{M:Model}{A:Around}{E:Value->Shared->Prop}{i:Nat}{x:Str}{v:V}{u:Value}{Q:Unit->Shared->Prop}(I:Inv X pins σ H s)(hN:X.N.Nodup)(hi:X.N[i]?=some x)(hx:Loc X.env.scope x)(r:RelV v u)
  (h:∀s',Inv X pins (σ.set i (some v)) H s'->(∃a,Heap.SameBut a s.heap s'.heap/\(a=X.env.locals∨X.env.cells.lookup x=some a))->Q () s') (hf:X.fn x=true∨X.env.scope.names.lookup x=some .local:=by first | exact .inl rfl | exact .inr rfl | assumption):wpAny M A (storeName X.env x u) Q E s:=by
 obtain⟨m,hn,hl⟩:=id I.loc
 have hcls:(X.env.scope.kind==.class || (X.env.scope.kind==.module && X.env.locals != X.env.globals))=false:=by rw[I.ok.kind];rfl
 have hiσ:i<σ.length:=by rw[I.len];exact(List.getElem?_eq_some_iff.mp hi).1
 have cne:=I.cne
 have tracked:∀{a:Addr}{h':Heap},(∃o,s.heap.get? a=some o/\H a=none)->Heap.SameBut a s.heap h'->HOk X.prog X.w H h':=fun{a h'} ha hs b ob e=>by
  obtain⟨_,_,hfree⟩:=ha
  refine(I.hok b ob e).stay (λc w' hc q=>(hs.2 c ?_).trans q) (λ_ q=>q) λ_ _ q=>q
  rintro rfl
  rcases hc with rfl | hc
  .rw[hfree] at e;cases e
  .rw[hfree] at hc;cases hc
 rcases hx with hk | hk
 .refine wpAny_storeName_local hk hn (λh' hn' hs=>?_) hcls
  obtain⟨oL,_,_,hoL,_⟩:=id hn
  refine h _ ⟨I.ok,I.os,I.bare,⟨λb o e n hb hx=>?_,λb o e n hb hx=>?_,I.base.free,λb o e hx=>?_,I.base.tups,I.base.yo,I.base.zV⟩,⟨_,hn',λj y v' e1 e2 e3=>?_⟩,λy c e=>?_,I.free,I.uz,λp hp=>?_,tracked ⟨oL,hoL,I.free⟩ hs,by simpa using I.len⟩ ⟨_,hs,.inl rfl⟩
  .exact(hs.2 b (Nat.ne_of_lt (Nat.lt_of_lt_of_le (Heap.lt_size e) I.ok.above))).trans (I.base.keep b o e n hb hx)
  .obtain⟨sl,e1⟩:=I.base.slot b o e n hb hx
   exact⟨sl,(hs.2 b (Nat.ne_of_lt (Nat.lt_of_lt_of_le (Heap.lt_size e) I.ok.above))).trans e1⟩
  .obtain⟨o',e1⟩:=I.base.there b o e hx
   exact⟨o',(hs.2 b (Nat.ne_of_lt (Nat.lt_of_lt_of_le (Heap.lt_size e) I.ok.above))).trans e1⟩
  .by_cases hj:j=i
   .subst hj
    rw[hi] at e1;cases e1
    rw[List.getElem?_set_self hiσ] at e2
    cases e2
    exact⟨u,r,.inl ⟨hk,by simp⟩⟩
   .rw[List.getElem?_set_ne (Ne.symm hj)] at e2
    obtain⟨u',r',q⟩:=hl j y v' e1 e2 e3
    refine⟨u',r',?_⟩
    rcases q with⟨k,e⟩| ⟨k,c,e,z⟩
    .refine .inl ⟨k,?_⟩
     have:y≠x:=λe=>hj (Lg hN e1 (e▸hi))
     simp[this,e]
    .exact .inr ⟨k,c,e,z.sameBut hs (cne y c e)⟩
  .obtain⟨w',z⟩:=I.cell y c e
   exact⟨w',z.sameBut hs (cne y c e)⟩
  .obtain⟨e,n,ne,nf,d⟩:=I.pin p hp
   exact⟨(hs.2 p.1 ne).trans e,n,ne,nf,d⟩
 .have hfn:X.fn x=true:=by
   rcases hf with z | z
   .exact z
   .rw[z] at hk;cases hk
  obtain⟨c,hc⟩:=I.ok.has x (.inl hk)
  obtain⟨w',z⟩:=I.cell x c hc
  refine wpAny_storeName_cell I.ok.kind hk hc z (λh' hc' hs=>?_)
  obtain⟨oc,hoc,hocd⟩:=id z
  refine h { s with heap:=h' } ⟨I.ok,I.os,I.bare,⟨λb o e n hb hx=>?_,λb o e n hb hx=>?_,I.base.free,λb o e hx=>?_,I.base.tups,I.base.yo,I.base.zV⟩,⟨m,hn.sameBut hs (Ne.symm (cne x c hc)),λj y v' e1 e2 e3=>?_⟩,λy c' e=>?_,I.free,I.uz,λp hp=>?_,tracked ⟨oc,hoc,I.uz x c hc⟩ hs,by simpa using I.len⟩ ⟨c,hs,.inr hc⟩
  .exact(hs.2 b (Nat.ne_of_lt (Nat.lt_of_lt_of_le (Heap.lt_size e) (I.ok.cab x c hfn hc)))).trans (I.base.keep b o e n hb hx)
  .obtain⟨sl,e1⟩:=I.base.slot b o e n hb hx
   exact⟨sl,(hs.2 b (Nat.ne_of_lt (Nat.lt_of_lt_of_le (Heap.lt_size e) (I.ok.cab x c hfn hc)))).trans e1⟩
  .obtain⟨o',e1⟩:=I.base.there b o e hx
   exact⟨o',(hs.2 b (Nat.ne_of_lt (Nat.lt_of_lt_of_le (Heap.lt_size e) (I.ok.cab x c hfn hc)))).trans e1⟩
  .by_cases hj:j=i
   .subst hj
    rw[hi] at e1;cases e1
    rw[List.getElem?_set_self hiσ] at e2
    cases e2
    exact⟨u,r,.inr ⟨.inl hk,c,hc,hc'⟩⟩
   .rw[List.getElem?_set_ne (Ne.symm hj)] at e2
    obtain⟨u',r',q⟩:=hl j y v' e1 e2 e3
    refine⟨u',r',?_⟩
    rcases q with q | ⟨k,c',e,z'⟩
    .exact .inl q
    .refine .inr ⟨k,c',e,z'.sameBut hs ?_⟩
     rintro rfl
     exact hj (Lg hN e1 (I.ok.inj _ _ _ e hc▸hi))
  .by_cases hcc:c'=c
   .subst hcc;exact⟨_,hc'⟩
   .obtain⟨w2,z2⟩:=I.cell y c' e
    exact⟨w2,z2.sameBut hs hcc⟩
  .obtain⟨e,n,ne,nf,d⟩:=I.pin p hp
   refine⟨(hs.2 p.1 ?_).trans e,n,ne,nf,d⟩
   intro q
   rw[q,hoc] at e
   have q':oc=p.2:=Option.some.inj e
   exact d w' (by rw[←q'];exact hocd)
theorem Mm{M:Model}{A:Around}{E:Value->Shared->Prop}{i:Nat}{x:Str}{v:V}{u:Value}{Q:Unit->Shared->Prop}(I:Inv X pins σ H s)(hN:X.N.Nodup)(hi:X.N[i]?=some x)(hx:Loc X.env.scope x)(r:RelV v u)
  (h:∀s',Inv X pins (σ.set i (some v)) H s'->Q () s') (hf:X.fn x=true∨X.env.scope.names.lookup x=some .local:=by first | exact .inl rfl | exact .inr rfl | assumption):wpAny M A (storeName X.env x u) Q E s :=
 FN I hN hi hx r (λs' I' _=>h s' I') hf
theorem Inv.call'{s':Shared}{ch:List Addr}(I:Inv X pins σ H s)(ho:s'.os=s.os)(u:Un (frs X.stack) ch H H' s.heap s'.heap)(hok:HOk X.prog X.w H' s'.heap)(hg:AllBare s'.gens)
  (hch:∀b∈ch,(b∈X.ex∨X.s₀.heap.objs.size<=b)/\b≠X.env.locals/\(∀x c,X.env.cells.lookup x=some c->c≠b)/\∀p∈X.pn++pins,p.1≠b):Inv X pins σ H' s':=by
 obtain⟨h',g',d',t',o'⟩:=s'
 have e:o'=s.os:=ho
 subst e
 exact I.call (g':=g') (t':=t') (d':=d') u hok hg hch
end
abbrev XK:=Value->Option Addr->Hp->Prop
abbrev St:=List (Option V)
abbrev VK:=V->Hp->Prop
abbrev TE:=St->Hp->VK->Prop
abbrev TT:=St->Hp->(Bool->Hp->Prop)->Prop
abbrev TA:=St->Hp->(List V->Hp->Prop)->Prop
structure Ends where
 nx:St->Hp->Prop
 rt:VK
 bk:St->Hp->Prop:=λ_ _=>False
 ct:St->Hp->Prop:=λ_ _=>False
abbrev TS:=Ends->St->Hp->Prop
def EP(X:Cx)(pins:List (Addr×Obj))(σ:St)(Q:VK)(u:Value)(s':Shared):Prop:=∃v H',Inv X pins σ H' s'/\RelV v u/\Q v H'
def TP(X:Cx)(pins:List (Addr×Obj))(σ:St)(Q:Bool->Hp->Prop)(b:Bool)(s':Shared):Prop:=∃H',Inv X pins σ H' s'/\Q b H'
def AP(X:Cx)(pins:List (Addr×Obj))(σ:St)(Q:List V->Hp->Prop)(us:List Value)(s':Shared):Prop:=∃vs H',Inv X pins σ H' s'/\Vals vs us/\Q vs H'
def SP(X:Cx)(pins:List (Addr×Obj))(D:Ends)(f:Flow)(s':Shared):Prop :=
 match f with
 | .next=>∃σ' H',Inv X pins σ' H' s'/\D.nx σ' H'
 | .brk=>∃σ' H',Inv X pins σ' H' s'/\D.bk σ' H'
 | .cont=>∃σ' H',Inv X pins σ' H' s'/\D.ct σ' H'
 | .ret u=>∃v σ' H',Inv X pins σ' H' s'/\RelV v u/\D.rt v H'
def PE(X:Cx)(e:Expr)(t:TE):Prop :=
 ∀(pins:List (Addr×Obj))(s:Shared)(σ:St)(H:Hp)(Q:VK),Inv X pins σ H s->t σ H Q->wpAny (model X.prog X.w) X.A (eval e X.env) (EP X pins σ Q) X.xe s
def PT(X:Cx)(e:Expr)(t:TT):Prop :=
 ∀(pins:List (Addr×Obj))(s:Shared)(σ:St)(H:Hp)(Q:Bool->Hp->Prop),Inv X pins σ H s->t σ H Q->wpAny (model X.prog X.w) X.A (isTrue e X.env (eval e X.env)) (TP X pins σ Q) X.xe s
def PW(X:Cx)(e:Expr)(t:TT):Prop :=
 ∀(whole:Sem Value)(pins:List (Addr×Obj))(s:Shared)(σ:St)(H:Hp)(Q:Bool->Hp->Prop),Inv X pins σ H s->t σ H Q->wpAny (model X.prog X.w) X.A (isTrue e X.env whole) (TP X pins σ Q) X.xe s
theorem PW.pt{X:Cx}{e:Expr}{t:TT}(h:PW X e t):PT X e t:=h _
def PA(X:Cx)(es:List Expr)(t:TA):Prop :=
 ∀(pos:Pos)(pins:List (Addr×Obj))(s:Shared)(σ:St)(H:Hp)(Q:List V->Hp->Prop),Inv X pins σ H s->t σ H Q->wpAny (model X.prog X.w) X.A (spliced (backTo pos (starEach es X.env))) (AP X pins σ Q) X.xe s
def PS(X:Cx)(st:Stmt)(t:TS):Prop :=
 ∀(pins:List (Addr×Obj))(s:Shared)(σ:St)(H:Hp)(D:Ends),Inv X pins σ H s->t D σ H->wpAny (model X.prog X.w) X.A (exec st X.env) (SP X pins D) X.xe s
def PSs(X:Cx)(st:List Stmt)(t:TS):Prop :=
 ∀(pins:List (Addr×Obj))(s:Shared)(σ:St)(H:Hp)(D:Ends),Inv X pins σ H s->t D σ H->wpAny (model X.prog X.w) X.A (execs st X.env) (SP X pins D) X.xe s
theorem thn{α:Type}{t:Sem α}{Q Q':α->Shared->Prop}{M:Model}{A:Around}{E:Value->Shared->Prop}{s:Shared}(h:wpAny M A t Q E s)(hQ:∀a s,Q a s->Q' a s):wpAny M A t Q' E s:=wpAny_mono h hQ λ_ _ x=>x
end L2
namespace L2
open PySem PySem.Spec PyProof.Rows
section
variable{X:Cx}
def m7(i:Nat):TE:=λσ H Q=>∃v,σ[i]?=some (some v)/\Q v H
def tC(v:V):TE:=λ_ H Q=>Q v H
theorem pe_var{i:Nat}{x:Str}{pos:Pos}(hN:X.N[i]?=some x)(hv:Vis X.env.scope x)(hd:(x==("__debug__":Str))=false:=by decide)(hcd:(x==("__classdict__":Str))=false:=by decide):PE X (.Name x pos) (m7 i):=by
 intro pins s σ H Q I h
 obtain⟨v,e,h⟩:=h
 obtain⟨m,hn,hl⟩:=I.loc
 obtain⟨u,r,l⟩:=hl i x v hN e hv
 have fin:EP X pins σ Q u s:=⟨v,H,I,r,h⟩
 rcases l with⟨hk,hm⟩| ⟨hk,c,hc,hcell⟩
 .exact wpAny_Name (wpAny_loadName_local I.ok.kind hk hn hm fin) hd
 .rcases hk with hk | hk
  .exact wpAny_Name (wpAny_loadName_cell I.ok.kind hk hc hcell fin) hd
  .exact wpAny_Name (wpAny_loadName_free I.ok.kind hk hc hcell fin hcd) hd
theorem pe_int{i j pos}:PE X (.Constant (.int i) j pos) (tC (.int i)):=λ_ _ _ H _ I h=>wpAny_Constant_int ⟨.int i,H,I.tok _,⟨_,rfl⟩,h⟩
theorem pe_bl{b j pos}:PE X (.Constant (.bool b) j pos) (tC (.bl b)):=λ_ _ _ H _ I h=>Constant_bool ⟨.bl b,H,I,rfl,h⟩
theorem Oq{j pos}:PE X (.Constant .none j pos) (tC .non):=λ_ _ _ H _ I h=>Constant_none ⟨.non,H,I,rfl,h⟩
theorem pe_str{x j pos}:PE X (.Constant (.str x) j pos) (tC (.str x)):=λ_ _ _ H _ I h=>Calls.Constant_str ⟨.str x,H,I.tok _,⟨_,rfl⟩,h⟩
def Gl(X:Cx)(x:Str):Prop:=X.env.kindOf x=some .globalImplicit
theorem wN{E:Value->Shared->Prop}{pins:List (Addr×Obj)}{s:Shared}{σ:St}{H:Hp}{x:Str}{u:Value}{pos:Pos}{Q:Value->Shared->Prop}(I:Inv X pins σ H s)(hg:Gl X x)(hm:X.mg x=some u)(h:Q u s)
  (hd:(x==("__debug__":Str))=false:=by decide):wpAny (model X.prog X.w) X.A (eval (.Name x pos) X.env) Q E s :=
 Calls.Name_function_global I.ok.kind hg (Calls.loadGlobal_global (by rw[I.ok.glob];exact I.mod.glob.keeps I.bk) hm h) hd
theorem ou{E:Value->Shared->Prop}{pins:List (Addr×Obj)}{s:Shared}{σ:St}{H:Hp}{x:Str}{u:Value}{pos:Pos}{Q:Value->Shared->Prop}(I:Inv X pins σ H s)(hg:Gl X x)(hm:X.mg x=none)(hv:bootBuiltins x=some u)(h:Q u s)
  (hn:x≠"__name__":=by decide) (hd:(x==("__debug__":Str))=false:=by decide):wpAny (model X.prog X.w) X.A (eval (.Name x pos) X.env) Q E s:=by
 obtain⟨mb,h1,h2⟩:=I.mod.blt
 exact Calls.Name_function_global I.ok.kind hg (Calls.loadGlobal_builtin (by rw[I.ok.glob];exact I.mod.glob.keeps I.bk) hm (by rw[I.ok.blt];exact h1.keeps I.bk) ((h2 x hn).trans hv) h) hd
theorem gM{x:Str}{v:V}{u:Value}{pos:Pos}(hg:Gl X x)(hm:X.mg x=some u)(r:RelV v u)(hd:(x==("__debug__":Str))=false:=by decide):PE X (.Name x pos) (tC v) :=
 λ_ _ _ H _ I h=>wN I hg hm ⟨v,H,I,r,h⟩ hd
theorem jA{x:Str}{v:V}{u:Value}{pos:Pos}(hg:Gl X x)(hm:X.mg x=none)(hv:bootBuiltins x=some u)(r:RelV v u)(hn:x≠"__name__":=by decide)(hd:(x==("__debug__":Str))=false:=by decide):PE X (.Name x pos) (tC v) :=
 λ_ _ _ H _ I h=>ou I hg hm hv ⟨v,H,I,r,h⟩ hn hd
variable{a b:Expr}{ta tb:TE}{pos:Pos}
def PC(X:Cx)(op:CmpOp)(a b:Expr)(t:TE):Prop :=
 ∀(pins:List (Addr×Obj))(s:Shared)(σ:St)(H:Hp)(Q:VK),Inv X pins σ H s->t σ H Q ->
  wpAny (model X.prog X.w) X.A (eval a X.env) (λv s₁=>wpAny (model X.prog X.w) X.A (eval b X.env) (λu s₂=>wpAny (model X.prog X.w) X.A (compareOp op v u) (EP X pins σ Q) X.xe s₂) X.xe s₁) X.xe s
theorem pe_cmp{op:CmpOp}{t:TE}(h:PC X op a b t)(h1:behindInMarks op b=false:=by first | exact nobehind _ (by decide) (by decide) | rfl):PE X (.Compare a [op] [b] pos) t:=λpins s σ H Q I hw=>wpAny_Compare1 (h pins s σ H Q I hw) h1
variable{tA tB':TT}{rest:List Expr}
def tAnd(t u:TT):TT:=λσ H Q=>t σ H λc H1=>if c=true then u σ H1 Q else Q false H1
def tOr(t u:TT):TT:=λσ H Q=>t σ H λc H1=>if c=true then Q true H1 else u σ H1 Q
def tNot(t:TT):TT:=λσ H Q=>t σ H λc H1=>Q (!c) H1
theorem pw_and1(ha:PT X a tA):PW X (.BoolOp .And [a] pos) tA:=by
 intro wh pins s σ H Q I h
 refine isTrue_and (thn (ha pins s σ H Q I h) λc s1 e=>?_)
 cases c with
 | true=>exact isTrue_and_nil e
 | false=>exact e
theorem pw_or1(ha:PT X a tA):PW X (.BoolOp .Or [a] pos) tA:=by
 intro wh pins s σ H Q I h
 refine isTrue_or (thn (ha pins s σ H Q I h) λc s1 e=>?_)
 cases c with
 | false=>exact isTrue_or_nil e
 | true=>exact e
theorem pw_and(ha:PT X a tA)(hb:PW X (.BoolOp .And (b::rest) pos) tB'):PW X (.BoolOp .And (a::b::rest) pos) (tAnd tA tB'):=by
 intro wh pins s σ H Q I h
 refine isTrue_and (thn (ha pins s σ H _ I h) λc s1 ⟨H1,I1,q1⟩=>?_)
 cases c with
 | true=>exact hb wh pins s1 σ H1 Q I1 q1
 | false=>exact⟨H1,I1,q1⟩
theorem pw_or(ha:PT X a tA)(hb:PW X (.BoolOp .Or (b::rest) pos) tB'):PW X (.BoolOp .Or (a::b::rest) pos) (tOr tA tB'):=by
 intro wh pins s σ H Q I h
 refine isTrue_or (thn (ha pins s σ H _ I h) λc s1 ⟨H1,I1,q1⟩=>?_)
 cases c with
 | true=>exact⟨H1,I1,q1⟩
 | false=>exact hb wh pins s1 σ H1 Q I1 q1
theorem pt_not(ha:PT X a tA):PT X (.UnaryOp .Not a pos) (tNot tA):=by
 intro pins s σ H Q I h
 exact isTrue_not (ha pins s σ H (λc H1=>Q (!c) H1) I h)
def tAndV(ta tb:TE):TE:=λσ H Q=>ta σ H λx H1=>∃c,x=.bl c/\if c=true then tb σ H1 Q else Q (.bl false) H1
def tOrV(ta tb:TE):TE:=λσ H Q=>ta σ H λx H1=>∃c,x=.bl c/\if c=true then Q (.bl true) H1 else tb σ H1 Q
def tNotV(ta:TE):TE:=λσ H Q=>ta σ H λx H1=>∃c,x=.bl c/\Q (.bl (!c)) H1
theorem pe_one{op}{t:TE}(h:PE X a t):PE X (.BoolOp op [a] pos) t:=λpins s σ H Q I hw=>BoolOp_one (h pins s σ H Q I hw)
theorem pe_and(ha:PE X a ta)(hb:PE X (.BoolOp .And (b::rest) pos) tb):PE X (.BoolOp .And (a::b::rest) pos) (tAndV ta tb):=by
 intro pins s σ H Q I h
 refine BoolOp_and (thn (ha pins s σ H _ I h) λv s1 ⟨x,H1,I1,r1,q1⟩=>?_)
 obtain⟨c,rfl,q1⟩:=q1
 cases r1
 refine wpAny_truthy_bool ?_
 cases c with
 | true=>exact hb pins s1 σ H1 Q I1 q1
 | false=>exact⟨.bl false,H1,I1,rfl,q1⟩
theorem pe_or(ha:PE X a ta)(hb:PE X (.BoolOp .Or (b::rest) pos) tb):PE X (.BoolOp .Or (a::b::rest) pos) (tOrV ta tb):=by
 intro pins s σ H Q I h
 refine BoolOp_or (thn (ha pins s σ H _ I h) λv s1 ⟨x,H1,I1,r1,q1⟩=>?_)
 obtain⟨c,rfl,q1⟩:=q1
 cases r1
 refine wpAny_truthy_bool ?_
 cases c with
 | false=>exact hb pins s1 σ H1 Q I1 q1
 | true=>exact⟨.bl true,H1,I1,rfl,q1⟩
theorem pe_not(ha:PE X a ta):PE X (.UnaryOp .Not a pos) (tNotV ta):=by
 intro pins s σ H Q I h
 refine UnaryOp_ (thn (ha pins s σ H _ I h) λv s1 ⟨x,H1,I1,r1,q1⟩=>?_)
 obtain⟨c,rfl,q1⟩:=q1
 cases r1
 exact not_of (wpAny_truthy_bool ⟨.bl (!c),H1,I1,rfl,q1⟩)
end
end L2
namespace L2
open PySem PySem.Spec PyProof.Rows
def SqL(K:Frag)(H:Hp)(a:Addr)(xs:List V):Prop :=
 Rd H a (.lst xs) ∨
  ∃(o:Obj)(its:Array Value)(n:Nat),K.lookup a=some o/\o.cls=.type "list"/\o.dict=none/\o.data=.seq its n/\its.size<=sizeLine/\Vals xs its.toList
def SqT(K:Frag)(H:Hp)(a:Addr)(xs:List V):Prop :=
 Rd H a (.tup xs) ∨
  ∃(o:Obj)(its:Array Value)(n:Nat),K.lookup a=some o/\o.cls=.type "tuple"/\o.data=.seq its n/\its.size<=sizeLine/\Vals xs its.toList
def absV:Value->Option V
 | .none=>some .non
 | .bool b=>some (.bl b)
 | .int i _=>some (.int i)
 | .str x _=>some (.str x)
 | .bytes b _=>some (.byt b)
 | .float b _=>some (.flt b)
 | .ref a=>some (.ref a)
 | .type n=>some (.ty n)
 | _=>none
theorem RelV.abs{x:V}{u:Value}(r:RelV x u):absV u=some x:=by
 cases x with
 | non=>cases r;rfl
 | bl _=>cases r;rfl
 | int _=>obtain⟨t,rfl⟩:=r;rfl
 | str _=>obtain⟨t,rfl⟩:=r;rfl
 | byt _=>obtain⟨t,rfl⟩:=r;rfl
 | flt _=>obtain⟨t,rfl⟩:=r;rfl
 | ref _=>cases r;rfl
 | ty _=>cases r;rfl
theorem RelV.inj{x y:V}{u:Value}(r:RelV x u)(q:RelV y u):x=y:=Option.some.inj (r.abs.symm.trans q.abs)
theorem Vals.inj:∀{xs ys:List V}{us:List Value},Vals xs us->Vals ys us->xs=ys
 | _,_,_,.nil,.nil=>rfl
 | _,_,_,.cons r t,.cons r' t'=>by rw[r.inj r',Vals.inj t t']
section
variable{X:Cx}{pins:List (Addr×Obj)}{σ:St}{H:Hp}{s:Shared}{a:Addr}{xs ys:List V}
theorem SqL.of{K:Frag}(h:H a=some (.lst xs)):SqL K H a xs:=.inl (.inl h)
theorem SqT.of{K:Frag}(h:H a=some (.tup xs)):SqT K H a xs:=.inl (.inl h)
theorem Inv.list(I:Inv X pins σ H s)(h:SqL X.K H a xs):∃its:List Value,Vals xs its/\PlainL s.heap a its.toArray/\xs.length<=sizeLine:=by
 rcases h with h | ⟨o,its,n,hk,hc,hd,hs,hz,r⟩
 .obtain⟨z,its,n,r,e⟩:=h.ok I.hok
  exact⟨its,r,⟨_,n,e,rfl,rfl,rfl⟩,z⟩
 .refine⟨its.toList,r,⟨o,n,I.kIn a o hk,hc,hd,by simpa using hs⟩,?_⟩
  have e:=r.length
  simp only[Array.length_toList] at e
  omega
theorem Inv.tuple(I:Inv X pins σ H s)(h:SqT X.K H a xs):∃its:List Value,Vals xs its/\IsTup s.heap a its.toArray/\xs.length<=sizeLine:=by
 rcases h with h | ⟨o,its,n,hk,hc,hs,hz,r⟩
 .obtain⟨z,its,r,p⟩:=h.ok I.hok
  exact⟨its,r,p,z⟩
 .refine⟨its.toList,r,⟨o,I.kIn a o hk,hc,n,by simpa using hs⟩,?_⟩
  have e:=r.length
  simp only[Array.length_toList] at e
  omega
theorem Inv.wO(I:Inv X pins σ H s)(h:SqL X.K H a xs)(h':SqL X.K H a ys):xs=ys:=by
 obtain⟨its,r,⟨o,n,e,_,_,d⟩,_⟩:=I.list h
 obtain⟨its',r',⟨o',n',e',_,_,d'⟩,_⟩:=I.list h'
 rw[e] at e';cases e'
 rw[d] at d'
 injection d' with d1 _
 have:its=its':=by simpa using congrArg Array.toList d1
 subst this
 exact r.inj r'
theorem Inv.Rw(I:Inv X pins σ H s)(h:SqT X.K H a xs)(h':SqT X.K H a ys):xs=ys:=by
 obtain⟨its,r,⟨o,e,_,n,d⟩,_⟩:=I.tuple h
 obtain⟨its',r',⟨o',e',_,n',d'⟩,_⟩:=I.tuple h'
 rw[e] at e';cases e'
 rw[d] at d'
 injection d' with d1 _
 have:its=its':=by simpa using congrArg Array.toList d1
 subst this
 exact r.inj r'
end
abbrev Cx.wish(X:Cx)(E:Value->Shared->Prop):Cx:={ X with xe:=E }
abbrev Cx.nox(X:Cx):Cx:=X.wish λ_ _=>False
theorem Cx.Ok.wish{X:Cx}(ok:X.Ok)(E:Value->Shared->Prop):(X.wish E).Ok :=
 ⟨ok.mod,ok.kind,ok.glob,ok.blt,ok.above,ok.inj,ok.has,ok.cab,ok.hd,ok.frames,ok.stk,ok.exf,ok.bs,ok.bsz,ok.bf,ok.exfs,ok.zH,ok.frf⟩
theorem Cx.Ok.tU{X:Cx}{E:Value->Shared->Prop}(ok:(X.wish E).Ok):X.Ok :=
 ⟨ok.mod,ok.kind,ok.glob,ok.blt,ok.above,ok.inj,ok.has,ok.cab,ok.hd,ok.frames,ok.stk,ok.exf,ok.bs,ok.bsz,ok.bf,ok.exfs,ok.zH,ok.frf⟩
section
variable{X:Cx}{pins:List (Addr×Obj)}{σ:St}{H:Hp}{s:Shared}{E:Value->Shared->Prop}
theorem Inv.wish(I:Inv X pins σ H s)(E:Value->Shared->Prop):Inv (X.wish E) pins σ H s:=⟨I.ok.wish E,I.os,I.bare,I.base,I.loc,I.cell,I.free,I.uz,I.pin,I.hok,I.len⟩
theorem Inv.tU(I:Inv (X.wish E) pins σ H s):Inv X pins σ H s:=⟨I.ok.tU,I.os,I.bare,I.base,I.loc,I.cell,I.free,I.uz,I.pin,I.hok,I.len⟩
theorem SP.tU{D:Ends}{f:Flow}{s':Shared}(h:SP (X.wish E) pins D f s'):SP X pins D f s':=by
 cases f with
 | next=>obtain⟨σ',H',I,q⟩:=h;exact⟨σ',H',I.tU,q⟩
 | brk=>obtain⟨σ',H',I,q⟩:=h;exact⟨σ',H',I.tU,q⟩
 | cont=>obtain⟨σ',H',I,q⟩:=h;exact⟨σ',H',I.tU,q⟩
 | ret u=>obtain⟨v,σ',H',I,r,q⟩:=h;exact⟨v,σ',H',I.tU,r,q⟩
theorem PSs.nox{st:List Stmt}{t:TS}(h:PSs X.nox st t):PSs X st t:=λpins s σ H D I hw =>
 wpAny_mono (h pins s σ H D (I.wish _) hw) (λ_ _ q=>q.tU) λ_ _ z=>False.elim z
end
section
variable{X:Cx}{st:Stmt}{rest:List Stmt}{t u:TS}{e:Expr}{te:TE}{pos:Pos}
def tNext:TS:=λD σ H=>D.nx σ H
def tSeq(t u:TS):TS:=λD σ H=>t { D with nx:=u D } σ H
theorem Qk:PSs X [] tNext:=λ_ _ σ H _ I h=>wpAny_execs_nil ⟨σ,H,I,h⟩
theorem sE(h1:PS X st t)(h2:PSs X rest u):PSs X (st::rest) (tSeq t u):=by
 intro pins s σ H D I h
 refine wpAny_execs_cons (thn (h1 pins s σ H { D with nx:=u D } I h) λf s1 q=>?_)
 cases f with
 | next =>
  obtain⟨σ',H',I',q⟩:=q
  exact h2 pins s1 σ' H' D I' q
 | ret v=>exact q
 | brk=>exact q
 | cont=>exact q
theorem lU(h1:PS X st t):PSs X [st] t:=by
 intro pins s σ H D I h
 refine wpAny_execs_cons (thn (h1 pins s σ H D I h) λf s1 q=>?_)
 cases f with
 | next=>exact wpAny_execs_nil q
 | ret v=>exact q
 | brk=>exact q
 | cont=>exact q
theorem Inv.quiet{pins:List (Addr×Obj)}{σ:St}{H:Hp}{s:Shared}(I:Inv X pins σ H s):interactive X.env=false:=by simp[interactive,I.ok.kind]
def zm(te:TE):TS:=λD σ H=>te σ H λ_ H1=>D.nx σ H1
theorem oO(he:PE X e te)(hs:swapsWith e none pos.line X.env=pure false:=by rfl):PS X (.Expr e pos) (zm te):=by
 intro pins s σ H D I h
 exact wpAny_Expr_any (thn (he pins s σ H _ I h) λv s1 ⟨x,H1,I1,r1,q1⟩=>⟨σ,H1,I1,q1⟩) I.quiet hs
def tRet(te:TE):TS:=λD σ H=>te σ H D.rt
theorem vh(he:PE X e te):PS X (.Return (some e) pos) (tRet te):=by
 intro pins s σ H D I h
 exact wpAny_Return_some (thn (he pins s σ H _ I h) λv s1 ⟨x,H1,I1,r1,q1⟩=>⟨x,σ,H1,I1,r1,q1⟩)
def tIfS(c:TT)(t u:TS):TS:=λD σ H=>c σ H λb H1=>if b=true then t D σ H1 else u D σ H1
theorem ps_if{c:Expr}{a b:List Stmt}{tc:TT}(hc:PT X c tc)(ha:PSs X a t)(hb:PSs X b u):PS X (.If c a b pos) (tIfS tc t u):=by
 intro pins s σ H D I h
 refine wpAny_If (thn (hc pins s σ H _ I h) λd s1 ⟨H1,I1,q1⟩=>?_)
 cases d with
 | true=>exact ha pins s1 σ H1 D I1 q1
 | false=>exact hb pins s1 σ H1 D I1 q1
def tNever:TS:=λ_ _ _=>False
theorem ps_never:PS X st tNever:=λ_ _ _ _ _ _ h=>h.elim
end
abbrev TG:=V->St->Hp->(St->Hp->Prop)->Prop
abbrev TGs:=List V->St->Hp->(St->Hp->Prop)->Prop
def PG(X:Cx)(target:Expr)(t:TG):Prop :=
 ∀(pins:List (Addr×Obj))(s:Shared)(σ:St)(H:Hp)(v:V)(u:Value)(Q:St->Hp->Prop),Inv X pins σ H s->RelV v u->t v σ H Q ->
  wpAny (model X.prog X.w) X.A (assign target X.env u) (λ_ s'=>∃σ' H',Inv X pins σ' H' s'/\Q σ' H') X.xe s
def PGs(X:Cx)(ts:List Expr)(t:TGs):Prop :=
 ∀(pins:List (Addr×Obj))(s:Shared)(σ:St)(H:Hp)(vs:List V)(us:List Value)(Q:St->Hp->Prop),Inv X pins σ H s->Vals vs us->t vs σ H Q ->
  wpAny (model X.prog X.w) X.A (assignInOrder ((assignEach ts X.env).map (·.2)) us) (λ_ s'=>∃σ' H',Inv X pins σ' H' s'/\Q σ' H') X.xe s
abbrev TSet:=V->V->V->Hp->(Hp->Prop)->Prop
def PSet(X:Cx)(t:TSet):Prop :=
 ∀(pins:List (Addr×Obj))(s:Shared)(σ:St)(H:Hp)(o i v:V)(ov iv u:Value)(Q:Hp->Prop),Inv X pins σ H s->RelV o ov->RelV i iv->RelV v u->t o i v H Q ->
  wpAny (model X.prog X.w) X.A (setItem ov iv u) (λ_ s'=>∃H',Inv X pins σ H' s'/\Q H') X.xe s
section
variable{X:Cx}{pos:Pos}
def wC(i:Nat):TG:=λv σ H Q=>Q (σ.set i (some v)) H
theorem Qi{i:Nat}{x:Str}(hN:X.N.Nodup)(hi:X.N[i]?=some x)(hx:Loc X.env.scope x)(hf:X.fn x=true∨X.env.scope.names.lookup x=some .local:=by first | exact .inl rfl | exact .inr rfl | assumption):PG X (.Name x pos) (wC i):=by
 intro pins s σ H v u Q I r h
 exact wpAny_assign_Name (Mm I hN hi hx r (λs' I'=>⟨_,H,I',h⟩) hf)
def gNil:TGs:=λvs σ H Q=>vs=[]/\Q σ H
def gCons(t:TG)(u:TGs):TGs:=λvs σ H Q=>∃v r,vs=v::r/\t v σ H λσ' H'=>u r σ' H' Q
theorem pgs_nil:PGs X [] gNil:=by
 intro pins s σ H vs us Q I r h
 obtain⟨e,h⟩:=h
 subst e
 cases r
 exact assignInOrder_nil ⟨σ,H,I,h⟩
theorem cg{e:Expr}{es:List Expr}{t:TG}{u:TGs}(h1:PG X e t)(h2:PGs X es u)
  (hs:(assignEach (e::es) X.env).map (·.2)=assign e X.env::(assignEach es X.env).map (·.2):=by rfl):PGs X (e::es) (gCons t u):=by
 intro pins s σ H vs us Q I r h
 obtain⟨v,vr,e1,h⟩:=h
 subst e1
 cases r with
 | cons r rr =>
  rw[hs]
  refine assignInOrder_cons (thn (h1 pins s σ H _ _ _ I r h) λ_ s1 ⟨σ1,H1,I1,q1⟩=>?_)
  exact h2 pins s1 σ1 H1 _ _ Q I1 rr q1
def gTup(K:Frag)(n:Nat)(t:TGs):TG:=λv σ H Q=>∃a xs,v=.ref a/\SqT K H a xs/\xs.length=n/\t xs σ H Q
theorem sy{es:List Expr}{k:Nat}{t:TGs}{n:Nat}(hc:X.calm=true)(h:PGs X es t)
  (hn:(assignEach es X.env).length=n:=by rfl) (hst:(assignEach es X.env).findIdx? (·.1)=none:=by rfl):PG X (.Tuple es k pos) (gTup X.K n t):=by
 intro pins s σ H v u Q I r hw
 obtain⟨a,xs,e1,hq,hl,hw⟩:=hw
 subst e1
 cases r
 obtain⟨its,rv,ht,hz⟩:=I.tuple hq
 refine assign_Tuple_tuple (I.ok.hd hc) ht (by simp[hn,←hl,rv.length]) hst λh' hx=>?_
 have I1:Inv X pins σ H { s with heap:=h' }:=I.kept (t':=s.toks) λb o e=>hx b o (Nat.ne_of_lt (Heap.lt_size e)) e
 exact h pins _ σ H xs _ Q I1 (by simpa using rv) hw
def gSub(to ti:TE)(t:TSet):TG:=λv σ H Q=>to σ H λo H1=>ti σ H1 λi H2=>t o i v H2 λH3=>Q σ H3
theorem pg_sub{o i:Expr}{to ti:TE}{t:TSet}(ho:PE X o to)(hi:PE X i ti)(hs:PSet X t)
  (ha:∀v,assign (.Subscript o i pos) X.env v=(do
   let ov ←holding [v] (eval o X.env)
   let iv ←holding [v,ov] (eval i X.env)
   standAt pos
   holding [v,ov,iv] (setItem ov iv v)
   release [v,ov,iv] []):=by intro _;rfl):PG X (.Subscript o i pos) (gSub to ti t):=by
 intro pins s σ H v u Q I r h
 rw[ha]
 refine wpAny_bind (wpAny_holding (thn (ho pins s σ H _ I h) λov s1 ⟨x,H1,I1,r1,q1⟩=>?_))
 refine wpAny_bind (wpAny_holding (thn (hi pins s1 σ H1 _ I1 q1) λiv s2 ⟨y,H2,I2,r2,q2⟩=>?_))
 refine wpAny_bind (wpAny_standAt (wpAny_bind (wpAny_holding (thn (hs pins s2 σ H2 x y v ov iv u _ I2 r1 r2 r q2) λ_ s3 ⟨H3,I3,q3⟩=>?_))))
 exact wpAny_release ⟨σ,H3,I3,q3⟩
def tAsg(te:TE)(g:TG):TS:=λD σ H=>te σ H λx H1=>g x σ H1 D.nx
theorem Ot{tg e:Expr}{te:TE}{g:TG}(he:PE X e te)(hg:PG X tg g)(hs:swapsWithSole [tg] e pos.line X.env=pure false:=by rfl)(hw:swappedStores [tg] e X.env=pure none:=by rfl)
  (h1:(assignEach [tg] X.env).map (·.2)=[assign tg X.env]:=by rfl):PS X (.Assign [tg] e pos) (tAsg te g):=by
 intro pins s σ H D I h
 refine wpAny_Assign_stores (thn (he pins s σ H _ I h) λv s1 ⟨x,H1,I1,r1,q1⟩=>?_) hs hw
 rw[h1]
 exact thn (hg pins s1 σ H1 x v _ I1 r1 q1) λ_ s2 q=>q
theorem Ov{i:Nat}{x:Str}{e:Expr}{te:TE}{pos':Pos}(hN:X.N.Nodup)(hi:X.N[i]?=some x)(hx:Loc X.env.scope x)(he:PE X e te)(hs:swapsWith e (some (.Name x pos')) pos.line X.env=pure false:=by rfl)(hf:X.fn x=true∨X.env.scope.names.lookup x=some .local:=by first | exact .inl rfl | exact .inr rfl | assumption):
  PS X (.Assign [.Name x pos'] e pos) (tAsg te (wC i)):=by
 intro pins s σ H D I h
 refine wpAny_Assign_Name (thn (he pins s σ H _ I h) λv s1 ⟨y,H1,I1,r1,q1⟩=>?_) hs
 exact Mm I1 hN hi hx r1 (λs2 I2=>⟨_,H1,I2,q1⟩) hf
end
section
variable{X:Cx}{pos:Pos}
end
structure It where
 go:Nat->Hp->Prop
 yld:Nat->Hp->V->Hp->Prop
 stop:Nat->Hp->Prop
def xP(X:Cx)(pins:List (Addr×Obj))(H:Hp)(b:Addr):Prop :=
 H b=none/\b≠X.env.locals/\b∉X.fs/\(b∈X.ex∨X.s₀.heap.objs.size<=b)/\(∀x c,X.env.cells.lookup x=some c->c≠b)/\∀p∈X.pn++pins,p.1≠b
theorem Inv.fpOk{X:Cx}{pins:List (Addr×Obj)}{σ:St}{H H':Hp}{s:Shared}{b:Addr}(I:Inv X pins σ H s)(hb:s.heap.objs.size<=b)(hn:H' b=none):xP X pins H' b:=by
 refine⟨hn,Nat.ne_of_gt (Nat.lt_of_lt_of_le I.lt hb),I.nofs hb,.inr (Nat.le_trans I.sz hb),λx c e z=>?_,λp hp z=>?_⟩
 .obtain⟨v,q⟩:=I.cell x c e
  exact absurd (Nat.lt_of_lt_of_le q.lt (by rw[z];exact hb)) (Nat.lt_irrefl _)
 .exact absurd (Nat.lt_of_lt_of_le (Heap.lt_size (I.pin p hp).1) (by rw[z];exact hb)) (Nat.lt_irrefl _)
structure Turn(P:Program)(w:World)(K:Frag)(tg:Expr)(J:It)(fp:List Addr)(it:Addr)(tn:Nat->Heap->Prop):Prop where
 mem:it∈fp
 obj:∀i h,tn i h->∀b∈fp,∃o,h.get? b=some o/\∀v,o.data≠.cell v
 keep:∀i h h',tn i h->(∀b∈fp,∀o,h.get? b=some o->h'.get? b=some o)->tn i h'
 item:∀(X:Cx),X.prog=P->X.w=w->X.K=K->X.calm=true->∀(i:Nat)(pins:List (Addr×Obj))(s:Shared)(σ:St)(H:Hp)(E:Value->Shared->Prop),Inv X pins σ H s->(∀b∈fp,xP X pins H b)->tn i s.heap->J.go i H ->
  wpAny (model P w) X.A (pyNext (.ref it)) (λr s1=>∃u,r=some u /\
   wpAny (model P w) X.A (letOwnedTupleGo tg (.ref it) u) (λ_ s2=>∃x H',Inv X pins σ H' s2/\RelV x u/\J.yld i H x H'/\tn (i+1) s2.heap/\∀b∈fp,H' b=none) E s1) E s
 done:∀(X:Cx),X.prog=P->X.w=w->X.K=K->X.calm=true->∀(i:Nat)(pins:List (Addr×Obj))(s:Shared)(σ:St)(H:Hp)(E:Value->Shared->Prop),Inv X pins σ H s->(∀b∈fp,xP X pins H b)->tn i s.heap->J.stop i H ->
  wpAny (model P w) X.A (pyNext (.ref it)) (λr s1=>r=none/\Inv X pins σ H s1) E s
 self:∀(A:Around)(i:Nat)(s:Shared)(Q:Value->Shared->Prop)(E:Value->Shared->Prop),tn i s.heap->Q (.ref it) s->wpAny (model P w) A (pyIter (.ref it)) Q E s
abbrev TI:=St->Hp->(It->Hp->Prop)->Prop
def PIE(X:Cx)(pins:List (Addr×Obj))(σ:St)(tg:Expr)(R:It->Hp->Prop)(itv:Value)(s2:Shared):Prop :=
 ∃(it:Addr)(fp:List Addr)(tn:Nat->Heap->Prop)(J:It)(H':Hp),itv=.ref it/\Inv X pins σ H' s2/\Turn X.prog X.w X.K tg J fp it tn/\tn 0 s2.heap/\(∀b∈fp,xP X pins H' b)/\R J H'
def PI(X:Cx)(tg iter:Expr)(wi:TI):Prop :=
 ∀(pins:List (Addr×Obj))(s:Shared)(σ:St)(H:Hp)(R:It->Hp->Prop),Inv X pins σ H s->wi σ H R ->
  wpAny (model X.prog X.w) X.A (eval iter X.env) (λv s1=>wpAny (model X.prog X.w) X.A (pyIter v) (PIE X pins σ tg R) X.xe s1) X.xe s
theorem KQ{M:Model}{A:Around}{E:Value->Shared->Prop}{s:Shared}{tg:Expr}{it:Addr}{u:Value}{o:Obj}{n:String}{vs:Array Value}{Q:Unit->Shared->Prop}(ho:s.heap.get? it=some o)(hc:o.cls=.type n)(hd:o.data=.fields vs)
  (hn:["enumerate","zip","dict_itemiterator","dict_reverseitemiterator","odict_iterator","itertools.zip_longest","itertools.pairwise"].contains n=false) (hQ:Q () s):wpAny M A (letOwnedTupleGo tg (.ref it) u) Q E s:=by
 unfold letOwnedTupleGo
 cases tg <;> first
  | exact wpAny_pure hQ
  | (cases u <;> first
    | exact wpAny_pure hQ
    | (refine wpAny_bind (wpAny_load ho ?_)
       rw[hc,hd]
       show wpAny M A (if (["enumerate","zip","dict_itemiterator","dict_reverseitemiterator","odict_iterator","itertools.zip_longest","itertools.pairwise"].contains n && vs[0]?==some (rawInt _))=true then _ else _) Q E s
       rw[if_neg (by intro h;rw[hn,Bool.false_and] at h;cases h)]
       exact wpAny_pure hQ))
def Itl(K:Frag)(a:Addr):It :=
 ⟨λi H=>∃xs x,SqL K H a xs/\xs[i]?=some x,λi H x H'=>H'=H/\∀xs,SqL K H a xs->xs[i]?=some x,λi H=>∃xs,SqL K H a xs/\xs.length<=i⟩
def Itt(K:Frag)(a:Addr):It :=
 ⟨λi H=>∃xs x,SqT K H a xs/\xs[i]?=some x,λi H x H'=>H'=H/\∀xs,SqT K H a xs->xs[i]?=some x,λi H=>∃xs,SqT K H a xs/\xs.length<=i⟩
def Itr(lo:Int)(n:Nat):It:=⟨λi _=>i<n,λi H x H'=>H'=H/\x=.int (lo+i),λi _=>n<=i⟩
theorem Ry{P:Program}{w:World}{K:Frag}{tg:Expr}(a it:Addr):Turn P w K tg (Itl K a) [it] it (λi h=>h.IsListIter it a i) where
 mem:=by simp
 obj:=λi h st b hb=>by
  have e:b=it:=by simpa using hb
  subst e
  obtain⟨o,e,c,d⟩:=st
  exact⟨o,e,λv z=>by rw[d] at z;cases z⟩
 keep:=λi h h' st k=>st.at λo e=>k it (by simp) o e
 item:=by
  intro X hP hw hK hc i pins s σ H E I hf st hg
  subst hP hw hK
  obtain⟨xs,x,hq,hx⟩:=hg
  obtain⟨its,rv,p,hz⟩:=I.list hq
  obtain⟨u,hu,ru⟩:=rv.get hx
  obtain⟨f0,f1,f2,f3,f4,f5⟩:=hf it (by simp)
  refine wpAny_pyNext_list_item st p.isList (x:=u) (by simpa using hu) λh' st' sb=>?_
  have I1:Inv X pins σ H { s with heap:=h' }:=I.turned (t':=s.toks) (λb o hb e=>(sb.2 b hb).trans e) f0 f1 f3 f4 f5
  obtain⟨o,e,c,d⟩:=id st'
  exact⟨u,rfl,KQ (s:={ s with heap:=h' }) e c d (by decide) ⟨x,H,I1,ru,⟨rfl,λys hy=>by rw[I.wO hy hq];exact hx⟩,st',λb hb=>(hf b hb).1⟩⟩
 done:=by
  intro X hP hw hK hc i pins s σ H E I hf st hg
  subst hP hw hK
  obtain⟨xs,hq,hx⟩:=hg
  obtain⟨its,rv,p,hz⟩:=I.list hq
  obtain⟨f0,f1,f2,f3,f4,f5⟩:=hf it (by simp)
  have hl:=rv.length
  exact wpAny_pyNext_list_end (I.ok.hd hc) st p.isList (by simp;omega) λh' eb=>⟨rfl,I.turned (t':=s.toks) (λb o hb e=>eb b o hb e) f0 f1 f3 f4 f5⟩
 self:=λ_ _ _ _ _ st h=>wpAny_pyIter_listiter st h
theorem Pb{P:Program}{w:World}{K:Frag}{tg:Expr}(a it:Addr):Turn P w K tg (Itt K a) [it] it (λi h=>h.IsTupleIter it a i) where
 mem:=by simp
 obj:=λi h st b hb=>by
  have e:b=it:=by simpa using hb
  subst e
  obtain⟨o,e,c,d⟩:=st
  exact⟨o,e,λv z=>by rw[d] at z;cases z⟩
 keep:=λi h h' st k=>st.at λo e=>k it (by simp) o e
 item:=by
  intro X hP hw hK hc i pins s σ H E I hf st hg
  subst hP hw hK
  obtain⟨xs,x,hq,hx⟩:=hg
  obtain⟨its,rv,p,hz⟩:=I.tuple hq
  obtain⟨u,hu,ru⟩:=rv.get hx
  obtain⟨f0,f1,f2,f3,f4,f5⟩:=hf it (by simp)
  refine wpAny_pyNext_tuple_item st (show s.heap.IsTuple a its.toArray from p) (x:=u) (by simpa using hu) λh' st' sb=>?_
  have I1:Inv X pins σ H { s with heap:=h' }:=I.turned (t':=s.toks) (λb o hb e=>(sb.2 b hb).trans e) f0 f1 f3 f4 f5
  obtain⟨o,e,c,d⟩:=id st'
  exact⟨u,rfl,KQ (s:={ s with heap:=h' }) e c d (by decide) ⟨x,H,I1,ru,⟨rfl,λys hy=>by rw[I.Rw hy hq];exact hx⟩,st',λb hb=>(hf b hb).1⟩⟩
 done:=by
  intro X hP hw hK hc i pins s σ H E I hf st hg
  subst hP hw hK
  obtain⟨xs,hq,hx⟩:=hg
  obtain⟨its,rv,p,hz⟩:=I.tuple hq
  obtain⟨f0,f1,f2,f3,f4,f5⟩:=hf it (by simp)
  have hl:=rv.length
  exact wpAny_pyNext_tuple_end (I.ok.hd hc) st (show s.heap.IsTuple a its.toArray from p) (by simp;omega) λh' eb=>⟨rfl,I.turned (t':=s.toks) (λb o hb e=>eb b o hb e) f0 f1 f3 f4 f5⟩
 self:=λ_ _ _ _ _ st h=>wpAny_pyIter_tupleiter st h
theorem Pa{P:Program}{w:World}{K:Frag}{tg:Expr}(it:Addr)(lo:Int)(n:Nat):Turn P w K tg (Itr lo n) [it] it (λi h=>IsRangeIter h it (lo+(i:Nat)*1) ((n:Int) - (i:Nat)) 1) where
 mem:=by simp
 obj:=λi h st b hb=>by
  have e:b=it:=by simpa using hb
  subst e
  exact⟨_,st,λv z=>by
   have z':Data.fields _=Data.cell v:=z
   cases z'⟩
 keep:=λi h h' st k=>k it (by simp) _ st
 item:=by
  intro X hP hw hK hc i pins s σ H E I hf st hg
  subst hP hw hK
  obtain⟨f0,f1,f2,f3,f4,f5⟩:=hf it (by simp)
  have W:=Walks.range (prog:=X.prog) (w:=X.w) (I.ok.hd hc) it lo 1 n
  refine W.item i s _ _ hg st λv h' tk hv st' kk=>?_
  obtain⟨t,rfl⟩:=hv
  have I1:Inv X pins σ H { s with heap:=h',toks:=tk }:=I.turned (λb o hb e=>kk b o (by simpa using hb) e) f0 f1 f3 f4 f5
  refine⟨_,rfl,KQ (s:={ s with heap:=h',toks:=tk }) (n:="range_iterator") st' rfl rfl (by decide) ⟨.int (lo+i),H,I1,⟨t,?_⟩,⟨rfl,rfl⟩,st',λb hb=>(hf b hb).1⟩⟩
  rw[Int.mul_one]
 done:=by
  intro X hP hw hK hc i pins s σ H E I hf st hg
  subst hP hw hK
  obtain⟨f0,f1,f2,f3,f4,f5⟩:=hf it (by simp)
  exact wpAny_pyNext_range_end (I.ok.hd hc) st (by have:n<=i:=hg;omega) λh' eb=>⟨rfl,I.turned (t':=s.toks) (λb o hb e=>eb b o hb e) f0 f1 f3 f4 f5⟩
 self:=λ_ _ _ _ _ st h=>wpAny_pyIter_rangeiter st h
end L2
namespace L2
open PySem PySem.Spec PyProof.Rows
section
variable{X:Cx}{tg:Expr}
def iList(K:Frag)(tl:TE):TI:=λσ H R=>tl σ H λx H1=>∃a,x=.ref a/\(∃xs,SqL K H1 a xs)/\R (Itl K a) H1
def iTup(K:Frag)(tl:TE):TI:=λσ H R=>tl σ H λx H1=>∃a,x=.ref a/\(∃xs,SqT K H1 a xs)/\R (Itt K a) H1
theorem pi_list{l:Expr}{tl:TE}(hl:PE X l tl):PI X tg l (iList X.K tl):=by
 intro pins s σ H R I h
 refine thn (hl pins s σ H _ I h) λv s1 ⟨x,H1,I1,r1,q1⟩=>?_
 obtain⟨a,e,⟨xs,hq⟩,q⟩:=q1
 subst e
 cases r1
 obtain⟨its,rv,p,hz⟩:=I1.list hq
 refine wpAny_pyIter_list p.isList ?_
 refine⟨s1.heap.objs.size,[s1.heap.objs.size],_,_,H1,rfl,I1.kept (t':=s1.toks) λb o e=>Heap.get?_push_of_some _ e,Ry a _,⟨_,Heap.get?_push_size _ rfl,rfl,rfl⟩,λb hb=>?_,q⟩
 have e:b=s1.heap.objs.size:=by simpa using hb
 subst e
 exact I1.fpOk (Nat.le_refl _) (I1.hok.fresh (Nat.le_refl _))
theorem pi_tup{l:Expr}{tl:TE}(hl:PE X l tl):PI X tg l (iTup X.K tl):=by
 intro pins s σ H R I h
 refine thn (hl pins s σ H _ I h) λv s1 ⟨x,H1,I1,r1,q1⟩=>?_
 obtain⟨a,e,⟨xs,hq⟩,q⟩:=q1
 subst e
 cases r1
 obtain⟨its,rv,p,hz⟩:=I1.tuple hq
 refine wpAny_pyIter_tuple (show s1.heap.IsTuple a its.toArray from p) ?_
 refine⟨s1.heap.objs.size,[s1.heap.objs.size],_,_,H1,rfl,I1.kept (t':=s1.toks) λb o e=>Heap.get?_push_of_some _ e,Pb a _,⟨_,Heap.get?_push_size _ rfl,rfl,rfl⟩,λb hb=>?_,q⟩
 have e:b=s1.heap.objs.size:=by simpa using hb
 subst e
 exact I1.fpOk (Nat.le_refl _) (I1.hok.fresh (Nat.le_refl _))
theorem Lw{pins:List (Addr×Obj)}{σ:St}{H:Hp}{s:Shared}{R:It->Hp->Prop}{E:Value->Shared->Prop}{lo hi:Int}{t u v:Tok}{tk:Nat}(I:Inv X pins σ H s)(h1:-(2 ^ 62)<=lo)(h2:lo<2 ^ 62)(h3:-(2 ^ 62)<=hi)(h4:hi<2 ^ 62)
  (q:R (Itr lo (hi - lo).toNat) H):wpAny (model X.prog X.w) X.A (pyIter (.ref s.heap.objs.size)) (PIE X pins σ tg R) E { s with heap:=s.heap.push { cls:=.type "range",data:=.fields #[.int lo t,.int hi u,.int 1 v] },toks:=tk }:=by
 refine wpAny_pyIter_range (IsRange.new ..) (small_one h1 h2 h3 h4) ?_
 have I1:Inv X pins σ H { s with heap:=s.heap.push { cls:=.type "range",data:=.fields #[.int lo t,.int hi u,.int 1 v] },toks:=tk }:=I.kept λb o e=>Heap.get?_push_of_some _ e
 refine⟨(s.heap.push { cls:=.type "range",data:=.fields #[.int lo t,.int hi u,.int 1 v] }).objs.size,[(s.heap.push { cls:=.type "range",data:=.fields #[.int lo t,.int hi u,.int 1 v] }).objs.size],_,_,H,rfl,
  I1.kept (t':=tk) λb o e=>Heap.get?_push_of_some _ e,Pa _ lo (hi - lo).toNat,?_,λb hb=>?_,q⟩
 .have e1:lo+((0:Nat):Int)*1=lo:=by simp
  have e2:(((hi - lo).toNat:Nat):Int) - ((0:Nat):Int)=Builtin.Range.rangeSize lo hi 1:=by rw[rangeSize_one];split <;> omega
  show IsRangeIter _ _ (lo+((0:Nat):Int)*1) ((((hi - lo).toNat:Nat):Int) - ((0:Nat):Int)) 1
  rw[e1,e2]
  exact Heap.get?_push_size _ rfl
 .have e:b=(s.heap.push { cls:=.type "range",data:=.fields #[.int lo t,.int hi u,.int 1 v] }).objs.size:=by simpa using hb
  subst e
  exact I1.fpOk (Nat.le_refl _) (I1.hok.fresh (Nat.le_refl _))
def iRng1(ta:TA):TI:=λσ H R=>ta σ H λvs H1=>∃j:Int,vs=[.int j]/\-(2 ^ 62)<=j/\j<2 ^ 62/\R (Itr 0 j.toNat) H1
def iRng2(ta:TA):TI:=λσ H R=>ta σ H λvs H1=>∃i j:Int,vs=[.int i,.int j]/\(-(2 ^ 62)<=i/\i<2 ^ 62/\-(2 ^ 62)<=j/\j<2 ^ 62)/\R (Itr i (j - i).toNat) H1
theorem Rj{a:Expr}{ta:TA}{p pos:Pos}(hg:Gl X "range")(hm:X.mg "range"=none)(ha:PA X [a] ta)(hs:starEach [a] X.env=[(false,eval a X.env)]:=by rfl):PI X tg (.Call (.Name "range" p) [a] [] pos) (iRng1 ta):=by
 intro pins s σ H R I h
 refine Call_ (ou I hg hm boot_range (PyProof.Rows.callWith_type1 (thn (ha pos pins s σ H _ I h) λus s1 ⟨vs,H1,I1,r1,q1⟩=>?_) hs rfl))
 obtain⟨j,e,q1,q2,q⟩:=q1
 subst e
 cases r1 with
 | cons r rr =>
  cases rr
  obtain⟨t,rfl⟩:=r
  exact call_range_1 (Lw I1 (by omega) (by omega) q1 q2 (by simpa using q))
theorem Fx{a b:Expr}{ta:TA}{p pos:Pos}(hg:Gl X "range")(hm:X.mg "range"=none)(ha:PA X [a,b] ta)(hs:starEach [a,b] X.env=[(false,eval a X.env),(false,eval b X.env)]:=by rfl)(hs2:starEach [b] X.env=[(false,eval b X.env)]:=by rfl):
  PI X tg (.Call (.Name "range" p) [a,b] [] pos) (iRng2 ta):=by
 intro pins s σ H R I h
 refine Call_ (ou I hg hm boot_range (PyProof.Rows.callWith_type1 (thn (ha pos pins s σ H _ I h) λus s1 ⟨vs,H1,I1,r1,q1⟩=>?_) (by rw[hs,hs2]) (by rw[hs2];rfl)))
 obtain⟨i,j,e,⟨q1,q2,q3,q4⟩,q⟩:=q1
 subst e
 cases r1 with
 | cons r rr =>
  cases rr with
  | cons r' rr =>
   cases rr
   obtain⟨t,rfl⟩:=r
   obtain⟨t',rfl⟩:=r'
   exact call_range_2 (Lw I1 q1 q2 q3 q4 q)
def tFor(wi:TI)(g:TG)(tb:TS):TS:=λD σ H=>wi σ H λJ H1=>∃W:Nat->Nat->St->Hp->Prop,(∃m,W 0 m σ H1)/\∀i m σ H,W i m σ H ->
 (J.stop i H/\D.nx σ H)∨(J.go i H/\∃N:St->Hp->Prop,(∀σ' H',N σ' H'->∃m',m'<m/\W (i+1) m' σ' H')/\∀x H',J.yld i H x H'->g x σ H' λσ2 H2=>tb { D with nx:=N,ct:=N,bk:=D.nx } σ2 H2)
def Ce(fp:List Addr)(h:Heap):List (Addr×Obj):=fp.filterMap λb=>(h.get? b).map λo=>(b,o)
theorem oA{fp:List Addr}{h:Heap}{b:Addr}{o:Obj}(hb:b∈fp)(e:h.get? b=some o):(b,o)∈Ce fp h:=List.mem_filterMap.mpr ⟨b,hb,by rw[e];rfl⟩
theorem Rg{fp:List Addr}{h:Heap}{p:Addr×Obj}(hp:p∈Ce fp h):p.1∈fp/\h.get? p.1=some p.2:=by
 obtain⟨b,hb,e⟩:=List.mem_filterMap.mp hp
 cases q:h.get? b with
 | none=>rw[q] at e;cases e
 | some o =>
  rw[q] at e
  have e':(b,o)=p:=Option.some.inj e
  subst e'
  exact⟨hb,q⟩
theorem Inv.pinned{pins:List (Addr×Obj)}{σ:St}{H:Hp}{s:Shared}{fp:List Addr}(I:Inv X pins σ H s)(hf:∀b∈fp,xP X pins H b)(ho:∀b∈fp,∃o,s.heap.get? b=some o/\∀v,o.data≠.cell v):Inv X (pins++Ce fp s.heap) σ H s :=
 I.Qj λp hp=>(List.mem_append.mp hp).elim (λz=>I.pin p (List.mem_append_right _ z)) λz=>by
  obtain⟨hb,e⟩:=Rg z
  obtain⟨f0,f1,f2,_⟩:=hf p.1 hb
  obtain⟨o,e',d⟩:=ho p.1 hb
  rw[e] at e';cases e'
  exact⟨e,f0,f1,f2,d⟩
theorem Inv.xr{pins pl:List (Addr×Obj)}{σ:St}{H:Hp}{s:Shared}(I:Inv X (pins++pl) σ H s):Inv X pins σ H s:=I.Qj λp hp=>I.pin p (List.mem_append_right _ (List.mem_append_left _ hp))
theorem ps_for{iter:Expr}{body:List Stmt}{wi:TI}{g:TG}{tb:TS}{pos:Pos}(hp:PassesOwn (model X.prog X.w) X.A X.env X.xe)(hc:X.calm=true)(hi:PI X tg iter wi)(hg:PG X tg g)(hb:PSs X body tb)
  (hs:∀x,foldedSetIterable iter X.env x=pure x:=by intro _;rfl):PS X (.For tg iter body [] pos) (tFor wi g tb):=by
 intro pins s σ H D I h
 refine wpAny_For (thn (hi pins s σ H _ I h) λv s1 h1=>thn h1 λitv s2 h2=>?_) hs
 obtain⟨it,fp,tn,J,H2,e,I2,T,st2,f2,W,⟨m0,w0⟩,turn⟩:=h2
 subst e
 have stat:∀{H':Hp},(∀b∈fp,H' b=none)->∀b∈fp,xP X pins H' b:=λhn b hb=>⟨hn b hb,(f2 b hb).2⟩
 refine codeAny_forLoop_any (λn s'=>∃i σ' H',Inv X pins σ' H' s'/\tn i s'.heap/\(∀b∈fp,H' b=none)/\W i n σ' H') ?_ m0 ⟨0,σ,H2,I2,st2,λb hb=>(f2 b hb).1,w0⟩
 rintro n s3 ⟨i,σ3,H3,I3,st3,fr3,w3⟩
 rcases turn i n σ3 H3 w3 with⟨stop,qn⟩| ⟨go,N,hN,step⟩
 .refine wpAny_passesOwn hp (thn (T.done X rfl rfl rfl hc i pins s3 σ3 H3 X.xe I3 (stat fr3) st3 stop) λr s4 ⟨hr,I4⟩=>?_)
  subst hr
  exact wpAny_execs_nil ⟨σ3,H3,I4,qn⟩
 .refine wpAny_passesOwn hp (thn (T.item X rfl rfl rfl hc i pins s3 σ3 H3 X.xe I3 (stat fr3) st3 go) λr s4 ⟨u,hr,h4⟩=>?_)
  subst hr
  refine wpAny_passesOwn hp (thn h4 λ_ s5 ⟨x,H5,I5,r5,y5,st5,fr5⟩=>?_)
  have I5':=I5.pinned (stat fr5) (T.obj _ _ st5)
  refine wpAny_passesOwn hp (thn (hg _ s5 σ3 H5 x u _ I5' r5 (step x H5 y5)) λ_ s6 ⟨σ6,H6,I6,q6⟩=>?_)
  refine wpAny_passesOwn hp (thn (hb _ s6 σ6 H6 _ I6 q6) λf s7 q7=>?_)
  have again:∀{σ7:St}{H7:Hp},Inv X (pins++Ce fp s5.heap) σ7 H7 s7->N σ7 H7->∃m,m<n/\∃i σ' H',Inv X pins σ' H' s7/\tn i s7.heap/\(∀b∈fp,H' b=none)/\W i m σ' H':=fun{σ7 H7} I7 n7=>by
   obtain⟨m',hm,w7⟩:=hN σ7 H7 n7
   refine⟨m',hm,i+1,σ7,H7,I7.xr,T.keep _ _ _ st5 λb hb o e=>(I7.pin (b,o) (List.mem_append_right _ (List.mem_append_right _ (oA hb e)))).1,λb hb=>?_,w7⟩
   obtain⟨o,e,d⟩:=T.obj _ _ st5 b hb
   exact(I7.pin (b,o) (List.mem_append_right _ (List.mem_append_right _ (oA hb e)))).2.1
  cases f with
  | next=>obtain⟨σ7,H7,I7,n7⟩:=q7;exact again I7 n7
  | cont=>obtain⟨σ7,H7,I7,n7⟩:=q7;exact again I7 n7
  | brk=>obtain⟨σ7,H7,I7,q7⟩:=q7;exact⟨σ7,H7,I7.xr,q7⟩
  | ret v=>obtain⟨x7,σ7,H7,I7,r7,q7⟩:=q7;exact⟨x7,σ7,H7,I7.xr,r7,q7⟩
end
end L2
namespace L2
open PySem PySem.Spec PyProof.Rows
abbrev R2:=V->V->Hp->VK->Prop
def OpR(X:Cx)(f:Value->Value->Sem Value)(r:R2):Prop :=
 ∀(pins:List (Addr×Obj))(s:Shared)(σ:St)(H:Hp)(x y:V)(v u:Value)(Q:VK),Inv X pins σ H s->RelV x v->RelV y u->r x y H Q ->
  wpAny (model X.prog X.w) X.A (f v u) (EP X pins σ Q) X.xe s
def UnR(X:Cx)(f:Value->Sem Value)(r:V->Hp->VK->Prop):Prop :=
 ∀(pins:List (Addr×Obj))(s:Shared)(σ:St)(H:Hp)(x:V)(v:Value)(Q:VK),Inv X pins σ H s->RelV x v->r x H Q ->
  wpAny (model X.prog X.w) X.A (f v) (EP X pins σ Q) X.xe s
def jo(X:Cx)(f:Value)(r:List V->Hp->VK->Prop):Prop :=
 ∀(pins:List (Addr×Obj))(s:Shared)(σ:St)(H:Hp)(xs:List V)(us:List Value)(Q:VK),Inv X pins σ H s->Vals xs us->r xs H Q ->
  wpAny (model X.prog X.w) X.A (call f us) (EP X pins σ Q) X.xe s
def TruR(X:Cx)(r:V->Hp->(Bool->Hp->Prop)->Prop):Prop :=
 ∀(pins:List (Addr×Obj))(s:Shared)(σ:St)(H:Hp)(x:V)(v:Value)(Q:Bool->Hp->Prop),Inv X pins σ H s->RelV x v->r x H Q ->
  wpAny (model X.prog X.w) X.A (truthy v) (TP X pins σ Q) X.xe s
def tOp(r:R2)(ta tb:TE):TE:=λσ H Q=>ta σ H λx H1=>tb σ H1 λy H2=>r x y H2 Q
def tUn(r:V->Hp->VK->Prop)(ta:TE):TE:=λσ H Q=>ta σ H λx H1=>r x H1 Q
def rI(C:Int->Int->Prop)(g:Int->Int->V):R2:=λx y H Q=>∃i j,x=.int i/\y=.int j/\C i j/\Q (g i j) H
def rI0(g:Int->Int->V):R2:=λx y H Q=>∃i j,x=.int i/\y=.int j/\Q (g i j) H
def rU(g:Int->V):V->Hp->VK->Prop:=λx H Q=>∃i,x=.int i/\Q (g i) H
section
variable{X:Cx}{a b c:Expr}{ta tb tc:TE}{pos:Pos}
theorem binT(ha:PE X a ta)(hb:PE X b tb){pins:List (Addr×Obj)}{s:Shared}{σ:St}{H:Hp}{R:V->V->Hp->Prop}(I:Inv X pins σ H s)
  (h:ta σ H λx H1=>tb σ H1 λy H2=>R x y H2) {Q:Value->Shared->Prop} {f:Value->Value->Sem Value}
  (hf:∀v u s2 x y H2,Inv X pins σ H2 s2->RelV x v->RelV y u->R x y H2->wpAny (model X.prog X.w) X.A (f v u) Q X.xe s2) :
  wpAny (model X.prog X.w) X.A (eval a X.env) (λv s₁=>wpAny (model X.prog X.w) X.A (eval b X.env) (λu s₂=>wpAny (model X.prog X.w) X.A (f v u) Q X.xe s₂) X.xe s₁) X.xe s:=by
 refine thn (ha pins s σ H _ I h) λv s1 ⟨x,H1,I1,r1,q1⟩=>?_
 refine thn (hb pins s1 σ H1 _ I1 q1) λu s2 ⟨y,H2,I2,r2,q2⟩=>?_
 exact hf v u s2 x y H2 I2 r1 r2 q2
theorem Ls{op:Operator}{r:R2}(ho:OpR X (binaryOp op) r)(ha:PE X a ta)(hb:PE X b tb):PE X (.BinOp a op b pos) (tOp r ta tb):=by
 intro pins s σ H Q I h
 exact wpAny_BinOp (binT ha hb I h λv u s2 x y H2 I2 rx ry q=>ho pins s2 σ H2 x y v u Q I2 rx ry q)
theorem pe_un{op:UnaryOp}{r:V->Hp->VK->Prop}(ho:UnR X (unaryOp op) r)(ha:PE X a ta):PE X (.UnaryOp op a pos) (tUn r ta):=by
 intro pins s σ H Q I h
 exact UnaryOp_ (thn (ha pins s σ H _ I h) λv s1 ⟨x,H1,I1,r1,q1⟩=>ho pins s1 σ H1 x v Q I1 r1 q1)
theorem opI{f:Value->Value->Sem Value}{C:Int->Int->Prop}{g:Int->Int->Int}
  (rule:∀(i j:Int)(t u:Tok)(s:Shared)(Q:Value->Shared->Prop)(E:Value->Shared->Prop),C i j->Q (.int (g i j) s.toks) { s with toks:=s.toks+1 }->wpAny (model X.prog X.w) X.A (f (.int i t) (.int j u)) Q E s) :
  OpR X f (rI C λi j=>.int (g i j)):=by
 intro pins s σ H x y v u Q I rx ry h
 obtain⟨i,j,rfl,rfl,hc,q⟩:=h
 obtain⟨t,rfl⟩:=rx
 obtain⟨t',rfl⟩:=ry
 exact rule i j t t' s _ _ hc ⟨.int (g i j),H,I.tok _,⟨_,rfl⟩,q⟩
theorem opI0{f:Value->Value->Sem Value}{g:Int->Int->Int}
  (rule:∀(i j:Int)(t u:Tok)(s:Shared)(Q:Value->Shared->Prop)(E:Value->Shared->Prop),Q (.int (g i j) s.toks) { s with toks:=s.toks+1 }->wpAny (model X.prog X.w) X.A (f (.int i t) (.int j u)) Q E s) :
  OpR X f (rI0 λi j=>.int (g i j)):=by
 intro pins s σ H x y v u Q I rx ry h
 obtain⟨i,j,rfl,rfl,q⟩:=h
 obtain⟨t,rfl⟩:=rx
 obtain⟨t',rfl⟩:=ry
 exact rule i j t t' s _ _ ⟨.int (g i j),H,I.tok _,⟨_,rfl⟩,q⟩
theorem opB0{f:Value->Value->Sem Value}{g:Int->Int->Bool}
  (rule:∀(i j:Int)(t u:Tok)(s:Shared)(Q:Value->Shared->Prop)(E:Value->Shared->Prop),Q (.bool (g i j)) s->wpAny (model X.prog X.w) X.A (f (.int i t) (.int j u)) Q E s) :
  OpR X f (rI0 λi j=>.bl (g i j)):=by
 intro pins s σ H x y v u Q I rx ry h
 obtain⟨i,j,rfl,rfl,q⟩:=h
 obtain⟨t,rfl⟩:=rx
 obtain⟨t',rfl⟩:=ry
 exact rule i j t t' s _ _ ⟨.bl (g i j),H,I,rfl,q⟩
def CDiv(i j:Int):Prop:=0<j/\j<1073741824
def jg(i j:Int):Prop:=(-(2 ^ 64)<i/\i<2 ^ 64)∨(-(2 ^ 64)<j/\j<2 ^ 64)
theorem jg.ok{i j:Int}(h:jg i j):IntMulOk i j:=by
 rcases h with⟨h1,h2⟩| ⟨h1,h2⟩
 .exact .of_left (intBits_le_64 h1 h2)
 .exact .of_right (intBits_le_64 h1 h2)
theorem op_add:OpR X (binaryOp .Add) (rI0 λi j=>.int (i+j)):=opI0 λ_ _ _ _ _ _ _ q=>add_int q
theorem op_mul:OpR X (binaryOp .Mult) (rI jg λi j=>.int (i*j)):=opI λ_ _ _ _ _ _ _ hc q=>mul_int q hc.ok
theorem op_fdiv:OpR X (binaryOp .FloorDiv) (rI CDiv λi j=>.int (i / j)):=opI λi j _ _ _ _ _ hc q=>by
 have h1:(0:Int)<j:=hc.1
 have h2:j<1073741824:=hc.2
 exact floordiv_int (by omega) (by rw[Int.fdiv_eq_ediv_of_nonneg i (by omega)];exact q) (.inl (PyProof.noPylong_small (by omega)))
theorem op_mod:OpR X (binaryOp .Mod) (rI (λ_ j=>0<j) λi j=>.int (i % j)):=opI λi j _ _ _ _ _ hc q=>by
 have h1:(0:Int)<j:=hc
 exact mod_int' (by omega) (by rw[Int.fmod_eq_emod_of_nonneg i (by omega)];exact q)
theorem unI{f:Value->Sem Value}{g:Int->Int}
  (rule:∀(i:Int)(t:Tok)(s:Shared)(Q:Value->Shared->Prop)(E:Value->Shared->Prop),Q (.int (g i) s.toks) { s with toks:=s.toks+1 }->wpAny (model X.prog X.w) X.A (f (.int i t)) Q E s) :
  UnR X f (rU λi=>.int (g i)):=by
 intro pins s σ H x v Q I rx h
 obtain⟨i,rfl,q⟩:=h
 obtain⟨t,rfl⟩:=rx
 exact rule i t s _ _ ⟨.int (g i),H,I.tok _,⟨_,rfl⟩,q⟩
theorem un_neg:UnR X (unaryOp .USub) (rU λi=>.int (-i)):=unI λ_ _ _ _ _ q=>neg_int q
end
section
variable{X:Cx}{a b c:Expr}{ta tb tc:TE}{pos:Pos}
theorem NT{pins:List (Addr×Obj)}{σ:St}{H:Hp}{s:Shared}{Q:VK}{k k':Bool}(I:Inv X pins σ H s)(q:Q (.bl k) H)(e:k=k'):EP X pins σ Q (.bool k') s:=by
 subst e
 exact⟨.bl k,H,I,rfl,q⟩
theorem op_lt:OpR X (compareOp .Lt) (rI0 λi j=>.bl (decide (i<j))):=opB0 λ_ _ _ _ _ _ _ q=>lt_int q
theorem op_le:OpR X (compareOp .LtE) (rI0 λi j=>.bl (decide (i<=j))):=opB0 λ_ _ _ _ _ _ _ q=>le_int q
theorem op_gt:OpR X (compareOp .Gt) (rI0 λi j=>.bl (decide (j<i))):=opB0 λ_ _ _ _ _ _ _ q=>gt_int q
theorem Fw:OpR X (compareOp .In) (λx y H Q=>∃i j,x=.str i/\y=.str j/\Q (.bl (!(Builtin.Str.occurrences j i 0 j.length 1).isEmpty)) H):=by
 intro pins s σ H x y v u Q I rx ry h
 obtain⟨i,j,rfl,rfl,q⟩:=h
 obtain⟨t,rfl⟩:=rx
 obtain⟨t',rfl⟩:=ry
 exact in_str (NT I q rfl)
theorem op_isN:OpR X (compareOp .Is) (λx y H Q=>y=.non/\Q (.bl (decide (x=.non))) H):=by
 intro pins s σ H x y v u Q I rx ry h
 obtain⟨rfl,q⟩:=h
 cases ry
 refine is_none_gen (NT I q ?_)
 cases x <;> first
  | (cases rx;rfl)
  | (obtain⟨t,rfl⟩:=rx;rfl)
theorem IW:OpR X (compareOp .NotIn) (λx y H Q=>∃i j,x=.str i/\y=.str j/\Q (.bl (!(!(Builtin.Str.occurrences j i 0 j.length 1).isEmpty))) H):=by
 intro pins s σ H x y v u Q I rx ry h
 obtain⟨i,j,rfl,rfl,q⟩:=h
 obtain⟨t,rfl⟩:=rx
 obtain⟨t',rfl⟩:=ry
 exact notIn_str (NT I q rfl)
theorem OpR.or{f:Value->Value->Sem Value}{r r':R2}(h:OpR X f r)(h':OpR X f r'):OpR X f (λx y H Q=>r x y H Q∨r' x y H Q):=by
 intro pins s σ H x y v u Q I rx ry q
 rcases q with q | q
 .exact h pins s σ H x y v u Q I rx ry q
 .exact h' pins s σ H x y v u Q I rx ry q
theorem vd(b:Expr){op:CmpOp}(h:op≠.In:=by decide)(h2:op≠.NotIn:=by decide):behindInMarks op b=false:=by
 have e1:(op==CmpOp.In)=false:=by cases op <;> first | rfl | exact absurd rfl h
 have e2:(op==CmpOp.NotIn)=false:=by cases op <;> first | rfl | exact absurd rfl h2
 cases b <;> simp[behindInMarks,e1,e2]
theorem Jb{op:CmpOp}{r:R2}(ho:OpR X (compareOp op) r)(ha:PE X a ta)(hb:PE X b tb)(hm:behindInMarks op b=false):PE X (.Compare a [op] [b] pos) (tOp r ta tb):=by
 intro pins s σ H Q I h
 exact wpAny_Compare1 (binT ha hb I h λv u s2 x y H2 I2 rx ry q=>ho pins s2 σ H2 x y v u Q I2 rx ry q) hm
def tTest(t:TE):TT:=λσ H Q=>t σ H λx H'=>∃k,x=.bl k/\Q k H'
theorem oR{op:CmpOp}{r:R2}(ho:OpR X (compareOp op) r)(ha:PE X a ta)(hb:PE X b tb)(hm:behindInMarks op b=false):PT X (.Compare a [op] [b] pos) (tTest (tOp r ta tb)):=by
 intro pins s σ H Q I h
 refine wpAny_isTrue_Compare1 (thn (ha pins s σ H _ I h) λv s1 ⟨x,H1,I1,r1,q1⟩=>thn (hb pins s1 σ H1 _ I1 q1) λu s2 ⟨y,H2,I2,r2,q2⟩ =>
  thn (ho pins s2 σ H2 x y v u _ I2 r1 r2 q2) λc s3 ⟨z,H3,I3,r3,k,e,q3⟩=>?_) hm
 subst e
 cases r3
 exact wpAny_truthy_bool ⟨H3,I3,q3⟩
def Cu(r r':R2)(ta tb tc:TE):TE:=λσ H Q=>ta σ H λx H1=>tb σ H1 λy H2=>r x y H2 λz H3=>∃k,z=.bl k /\
 (if k=true then tc σ H3 λw' H4=>r' y w' H4 Q else Q (.bl false) H3)
theorem pe_chain{op op':CmpOp}{r r':R2}(ho:OpR X (compareOp op) r)(ho':OpR X (compareOp op') r')(ha:PE X a ta)(hb:PE X b tb)(hc:PE X c tc)
  (hm:lastMarks [op,op'] [b,c]=false:=by with_unfolding_all rfl):PE X (.Compare a [op,op'] [b,c] pos) (Cu r r' ta tb tc):=by
 intro pins s σ H Q I h
 refine Compare_chain (thn (ha pins s σ H _ I h) λv s1 ⟨x,H1,I1,r1,q1⟩=>chain_link (thn (hb pins s1 σ H1 _ I1 q1) λu s2 ⟨y,H2,I2,r2,q2⟩ =>
  thn (ho pins s2 σ H2 x y v u _ I2 r1 r2 q2) λd s3 ⟨z,H3,I3,r3,k,e,q3⟩=>?_)) hm
 subst e
 cases r3
 refine wpAny_truthy_bool ?_
 cases k with
 | false=>exact ite_ff ⟨.bl false,H3,I3,rfl,q3⟩
 | true=>exact ite_tt (chain_last (thn (hc pins s3 σ H3 _ I3 q3) λw' s4 ⟨z',H4,I4,r4,q4⟩=>ho' pins s4 σ H4 y z' u w' Q I4 r2 r4 q4))
theorem pt_chain{op op':CmpOp}{r r':R2}(ho:OpR X (compareOp op) r)(ho':OpR X (compareOp op') r')(ha:PE X a ta)(hb:PE X b tb)(hc:PE X c tc)
  (hm:lastMarks [op,op'] [b,c]=false:=by with_unfolding_all rfl):PT X (.Compare a [op,op'] [b,c] pos) (tTest (Cu r r' ta tb tc)):=by
 intro pins s σ H Q I h
 refine isTrue_chain (thn (ha pins s σ H _ I h) λv s1 ⟨x,H1,I1,r1,q1⟩=>test_link (thn (hb pins s1 σ H1 _ I1 q1) λu s2 ⟨y,H2,I2,r2,q2⟩ =>
  thn (ho pins s2 σ H2 x y v u _ I2 r1 r2 q2) λd s3 ⟨z,H3,I3,r3,k,e,q3⟩=>?_)) hm
 subst e
 cases r3
 refine wpAny_truthy_bool ?_
 cases k with
 | false =>
  obtain⟨k',e',q'⟩:=q3
  cases e'
  exact ite_ff ⟨H3,I3,q'⟩
 | true =>
  refine ite_tt (test_last (thn (hc pins s3 σ H3 _ I3 q3) λw' s4 ⟨z',H4,I4,r4,q4⟩=>thn (ho' pins s4 σ H4 y z' u w' _ I4 r2 r4 q4) λd' s5 ⟨z2,H5,I5,r5,k2,e2,q5⟩=>?_))
  subst e2
  cases r5
  exact wpAny_truthy_bool ⟨H5,I5,q5⟩
def TruV(K:Frag)(x:V)(H:Hp)(k:Bool):Prop :=
 match x with
 | .non=>k=false
 | .bl b=>k=b
 | .int i=>k=(i != 0)
 | .str y=>y.length<=sizeLine/\k=((y.length:Int) != 0)
 | .byt y=>y.size<=sizeLine/\k=((y.size:Int) != 0)
 | .ref p=>(∃xs,SqL K H p xs/\k=!xs.isEmpty)∨(∃xs,SqT K H p xs/\k=!xs.isEmpty)∨∃kvs,H p=some (.dK kvs)/\k=!kvs.isEmpty
 | _=>False
theorem N5{κ:Type}{kvs:List (κ×V)}{vs:List (κ×Value)}(r:KV kvs vs):(!vs.isEmpty)=!kvs.isEmpty:=by
 cases r <;> rfl
theorem Bw{xs:List V}{its:List Value}(r:Vals xs its):(!its.toArray.isEmpty)=!xs.isEmpty:=by
 cases r <;> simp
theorem uY:(sizeLine:Nat)<2 ^ 63:=by rw[sizeLine_eq];decide
theorem tru_ok:TruR X (λx H Q=>∃k,TruV X.K x H k/\Q k H):=by
 intro pins s σ H x v Q I rx h
 obtain⟨k,e,q⟩:=h
 have hl:=uY
 have hs:sizeLine=16777216:=sizeLine_eq
 cases x with
 | non =>
  cases rx
  have e':k=false:=e
  subst e'
  exact truthy_none ⟨H,I,q⟩
 | bl b =>
  cases rx
  have e':k=b:=e
  subst e'
  exact wpAny_truthy_bool ⟨H,I,q⟩
 | int i =>
  obtain⟨t,rfl⟩:=rx
  have e':k=(i != 0):=e
  subst e'
  exact PySem.P.truthy_int ⟨H,I,q⟩
 | str y =>
  obtain⟨t,rfl⟩:=rx
  obtain⟨hy,e'⟩:y.length<=sizeLine/\k=((y.length:Int) != 0):=e
  subst e'
  exact PySem.P.truthy_str (by omega) ⟨H,I.tok _,q⟩
 | byt y =>
  obtain⟨t,rfl⟩:=rx
  obtain⟨hy,e'⟩:y.size<=sizeLine/\k=((y.size:Int) != 0):=e
  subst e'
  exact PySem.W.truthy_bytes (by omega) ⟨H,I.tok _,q⟩
 | ref p =>
  cases rx
  have e':(∃xs,SqL X.K H p xs/\k=!xs.isEmpty)∨(∃xs,SqT X.K H p xs/\k=!xs.isEmpty)∨∃kvs,H p=some (.dK kvs)/\k=!kvs.isEmpty:=e
  rcases e' with⟨xs,hx,e'⟩| ⟨xs,hx,e'⟩| ⟨kvs,hx,e'⟩
  .subst e'
   obtain⟨its,r,pl,hz⟩:=I.list hx
   have hlen:=r.length
   exact wpAny_truthy_list pl.isList (by simp only[List.size_toArray];omega) ⟨H,I.tok _,by rw[Bw r];exact q⟩
  .subst e'
   obtain⟨its,r,pl,hz⟩:=I.tuple hx
   have hlen:=r.length
   exact truthy_tuple pl (by simp only[List.size_toArray];omega) ⟨H,I.tok _,by rw[Bw r];exact q⟩
  .subst e'
   obtain⟨hz,hS,vs,r,m⟩:kvs.length<=sizeLine/\(p==sysModules)=false/\∃vs,KV kvs vs/\s.heap.DictOf (cV X.prog X.w) p vs:=I.hok p _ hx
   have hlen:kvs.length=vs.length:=Paired.length r
   exact wpAny_truthy_dict hS m (by omega) ⟨H,I.tok _,by rw[N5 r];exact q⟩
 | _=>exact(show False from e).elim
theorem pt_truth(ha:PE X a ta)(he:∀whole,isTrue a X.env whole=(do let v ←whole;standAt a.pos;holding [v] (truthy v))):
  PT X a (λσ H Q=>ta σ H λx H'=>∃k,TruV X.K x H' k/\Q k H'):=by
 intro pins s σ H Q I h
 exact isTrue_plain (thn (ha pins s σ H _ I h) λv s1 ⟨x,H1,I1,r1,q1⟩=>tru_ok pins s1 σ H1 x v Q I1 r1 q1) (he _)
theorem Om:OpR X (binaryOp .Add) (λx y H Q=>∃i j,x=.str i/\y=.str j/\i.length+j.length<=sizeLine/\Q (.str (i++j)) H):=by
 intro pins s σ H x y v u Q I rx ry h
 obtain⟨i,j,rfl,rfl,hz,q⟩:=h
 obtain⟨t,rfl⟩:=rx
 obtain⟨t',rfl⟩:=ry
 exact add_str (λt' tk=>⟨.str (i++j),H,I.tok _,⟨_,rfl⟩,q⟩) hz
theorem vals1{x:V}{us:List Value}(r:Vals [x] us):∃u,us=[u]/\RelV x u:=by
 cases r with
 | cons r1 r2=>cases r2;exact⟨_,rfl,r1⟩
theorem QF:jo X (.type "int") (λxs H Q=>(∃i,xs=[.int i]/\Q (.int i) H)∨∃k,xs=[.bl k]/\Q (.int (if k then 1 else 0)) H):=by
 intro pins s σ H xs us Q I r h
 rcases h with⟨i,rfl,q⟩| ⟨k,rfl,q⟩
 .obtain⟨u,rfl,t,rfl⟩:=vals1 r
  exact call_int_int ⟨.int i,H,I,⟨_,rfl⟩,q⟩
 .obtain⟨u,rfl,r1⟩:=vals1 r
  cases r1
  exact call_int_bool ⟨.int (if k then 1 else 0),H,I.tok _,⟨_,rfl⟩,q⟩
end
end L2
namespace L2
open PySem PySem.Spec PyProof.Rows
structure ObjM(h:Heap)(x dx C:Addr)(mA:Str->Option Value):Prop where
 obj:h.get? x=some (PySem.W.instObj C dx)
 ns:h.Ns1 dx mA
 ne:dx≠x
theorem Rb{h:Heap}{dx:Addr}{mA:Str->Option Value}(n:h.Ns1 dx mA):∃od,h.get? dx=some od/\∀name,PySem.W.lookIn name od=some (mA name):=by
 obtain⟨o,es,ep,ho,hd,hk,_,hm⟩:=n
 refine⟨o,ho,λname=>?_⟩
 have e:=hm name
 unfold nsFind findBy at e
 rw[←Array.find?_toList] at e
 unfold PySem.W.lookIn
 rw[hd]
 dsimp only
 split
 .rename_i y q
  rw[q] at e
  exact congrArg some e
 .rename_i q
  rw[q] at e
  have a:es.toList.any (·.refKey)=false:=by
   rw[List.any_eq_false]
   intro y hy
   obtain⟨z,t,hkey⟩:=hk y (Array.mem_toList_iff.mp hy)
   simp[DictEntry.refKey,hkey]
  have a':¬es.toList.any (·.refKey)=true:=by rw[a];exact Bool.false_ne_true
  rw[if_neg a']
  exact congrArg some e
theorem ObjM.look{h:Heap}{x dx C:Addr}{mA:Str->Option Value}(I:ObjM h x dx C mA):∃od,PySem.W.InstAt h x (PySem.W.instObj C dx) C (some od)/\∀name,PySem.W.lookIn name od=some (mA name) :=
 let ⟨od,ho,hl⟩:=Rb I.ns
 ⟨od,⟨I.obj,rfl,rfl,ho⟩,hl⟩
section
variable{prog:Program}{w:World}{A:Around}{E:Value->Shared->Prop}{s:Shared}{K:Frag}{x dx C f:Addr}{mA:Str->Option Value}{name:Str}{v:Value}
theorem get_map{expr:Bool}{Q:Value->Shared->Prop}(X:K.In s.heap)(I:ObjM s.heap x dx C mA)(hg:PySem.W.plainGet K C name=true)(hh:PySem.W.hasDictIn K C=true)
  (ha:findIn K (.ref C) name=some none) (hv:mA name=some v) (hv':PySem.W.handedIn v=true) (h:Q v { s with toks:=s.toks+1 }) :
  wpAny (model prog w) A (getAttr (.ref x) name expr) Q E s:=by
 obtain⟨od,J,hl⟩:=I.look
 exact PySem.W.get_value X J (PySem.W.plainGet_of hg).1 (PySem.W.findObj_own hh ha rfl (by rw[hl,hv])) hv' h
theorem get_meth{pl:Sem Bool}{Q:Value×List Value->Shared->Prop}(X:K.In s.heap)(I:ObjM s.heap x dx C mA)(hg:PySem.W.plainGet K C name=true)
  (hf:findIn K (.ref C) name=some (some (.ref f))) (ht:PySem.W.isFn K (.ref f)=true) (hv:mA name=none) (h:Q (.ref f,[.ref x]) s) :
  wpAny (model prog w) A (getMethod (.ref x) name pl) Q E s:=by
 obtain⟨od,J,hl⟩:=I.look
 exact PySem.W.method_fn X J (PySem.W.plainGet_of hg).1 (PySem.W.plainGet_of hg).2 hf (beq_iff_eq.mp ht) (by show (PySem.W.lookIn name od).map (·.isSome)=some false;rw[hl,hv];rfl) h
theorem set_map{ns:List Str}{Q:Unit->Shared->Prop}(X:K.In s.heap)(I:ObjM s.heap x dx C mA)
  (hs:findIn K (.ref C) "__setattr__"=some (some (.builtin "object.__setattr__"))) (hp:PySem.W.plainOver K C=true) (ht:PySem.W.takerIn K C name=some none) (hh:PySem.W.hasDictIn K C=true)
  (hw:PySem.Within mA ns) (hsz:ns.length<=sizeLine)
  (h:∀h',ObjM h' x dx C (λy=>if y=name then some v else mA y)->Heap.SameBut dx s.heap h'->Q () { s with heap:=h',toks:=s.toks+2 }) :
  wpAny (model prog w) A (setAttr (.ref x) name v) Q E s:=by
 obtain⟨od,J,hl⟩:=I.look
 refine PySem.W.set_plain X J hs (PySem.W.osa_open (s:={ s with toks:=s.toks+1 }) (r:=none) X J hp ht λb=>?_)
 obtain⟨cd,hc,hd'⟩:=PySem.W.any_some hh
 have hx:s.heap.get? x=some ⟨.ref C,some dx,.plain,#[]⟩:=I.obj
 refine wpAny_bind (wpAny_pure (wpAny_bind (wpAny_bind (wpAny_loadPart hx (wpAny_bind (PySem.W.Looks.here (s:={ s with toks:=s.toks+1 }) (PySem.W.looks_clsIn X hc) ?_))))))
 rw[hd']
 refine wpAny_pure (a:=some dx) (wpAny_bind (wpAny_pure (wpAny_bind ?_)))
 refine wpAny_nsSet1 (s:={ s with toks:=s.toks+1 }) I.ns λh' hn2 hs2=>?_
 obtain⟨oD,esD,epD,hoD,hdD,hcD⟩:=hn2.count (PySem.Within.cons name v hw)
 refine wpAny_bind (wpAny_lookBehind hoD (by rw[hdD];exact pastItsLine_dict (Nat.le_trans hcD (by rw[List.length_cons];omega))) ?_)
 exact wpAny_pure (h _ ⟨(hs2.2 _ (Ne.symm I.ne)).trans I.obj,hn2,I.ne⟩ hs2)
theorem make_map{R:Result->Shared->Prop}{vs:List Value}{kw:List (Str×Value)}(X:K.In s.heap)(hm:PySem.W.makesIn K C=true)
  (hi:findIn K (.ref C) "__init__"=some (some (.ref f))) (hf:PySem.W.typeIn K (.ref f)=some (.type "function"))
  (h:codeAny (model prog w) (A.under (.builtin "type.__call__" ⟨.ref C::vs,kw⟩)) (.call (.ref f) ⟨.ref (s.heap.objs.size+1)::vs,kw⟩) (PySem.W.InitBack (s.heap.objs.size+1) R)
   { s with heap:=(s.heap.push PySem.W.emptyDict).push (PySem.W.instObj C s.heap.objs.size) }) :
  codeAny (model prog w) A (.call (.ref C) ⟨vs,kw⟩) R s:=by
 obtain⟨hh,g,d,t,os⟩:=s
 exact PySem.W.make_core (PySem.W.makes_of X hm) (PySem.W.looks_findIn X hi) (λself=>PySem.W.bind_fn X self hf) (.inl rfl) h
end
def jm(f:Str)(v:V):List (Str×V)->List (Str×V)
 | []=>[(f,v)]
 | (g,x)::r=>if g=f then (g,v)::r else (g,x)::jm f v r
theorem zc(f g:Str)(v:V):∀fs:List (Str×V),(jm f v fs).lookup g=if g=f then some v else fs.lookup g
 | []=>by
  show List.lookup g [(f,v)]=_
  by_cases h:g=f
  .have hb:(g==f)=true:=beq_iff_eq.mpr h
   simp only[List.lookup,hb,if_pos h]
  .have hb:(g==f)=false:=beq_eq_false_iff_ne.mpr h
   simp only[List.lookup,hb,if_neg h]
 | (k,x)::r=>by
  have ih:=zc f g v r
  rw[show jm f v ((k,x)::r)=(if k=f then (k,v)::r else (k,x)::jm f v r) from rfl]
  by_cases hk:k=f
  .rw[if_pos hk]
   by_cases h:g=k
   .have hb:(g==k)=true:=beq_iff_eq.mpr h
    simp only[List.lookup,hb,if_pos (h.trans hk)]
   .have hb:(g==k)=false:=beq_eq_false_iff_ne.mpr h
    simp only[List.lookup,hb,if_neg (λe:g=f=>h (e.trans hk.symm))]
  .rw[if_neg hk]
   by_cases h:g=k
   .have hb:(g==k)=true:=beq_iff_eq.mpr h
    simp only[List.lookup,hb,if_neg (λe:g=f=>hk (h.symm.trans e))]
   .have hb:(g==k)=false:=beq_eq_false_iff_ne.mpr h
    simp only[List.lookup,hb]
    exact ih
theorem yt(f:Str)(v:V):∀fs:List (Str×V),f∈(jm f v fs).map (·.1)/\∀g,g∈fs.map (·.1)->g∈(jm f v fs).map (·.1)
 | []=>⟨by simp[jm],λg h=>by simp at h⟩
 | (k,x)::r=>by
  obtain⟨i1,i2⟩:=yt f v r
  rw[show jm f v ((k,x)::r)=(if k=f then (k,v)::r else (k,x)::jm f v r) from rfl]
  by_cases hk:k=f
  .rw[if_pos hk]
   subst hk
   exact⟨by simp,λg h=>by simpa using h⟩
  .rw[if_neg hk]
   refine⟨?_,λg h=>?_⟩
   .rw[List.map_cons]
    exact List.mem_cons_of_mem _ i1
   .rw[List.map_cons] at h ⊢
    rcases List.mem_cons.mp h with e | e
    .exact List.mem_cons.mpr (.inl e)
    .exact List.mem_cons_of_mem _ (i2 g e)
theorem zb(f:Str)(v:V):∀fs:List (Str×V),(jm f v fs).length<=fs.length+1
 | []=>by simp[jm]
 | (k,x)::r=>by
  have ih:=zb f v r
  rw[show jm f v ((k,x)::r)=(if k=f then (k,v)::r else (k,x)::jm f v r) from rfl]
  by_cases hk:k=f
  .rw[if_pos hk,List.length_cons,List.length_cons];omega
  .rw[if_neg hk,List.length_cons,List.length_cons];omega
theorem nH.some_of{v:V}{o:Option Value}(r:nH (some v) o):∃u,o=some u/\RelV v u:=by
 cases o with
 | none=>exact(show False from r).elim
 | some u=>exact⟨u,rfl,r⟩
theorem nH.none_of{o:Option Value}(r:nH none o):o=none:=by
 cases o with
 | none=>rfl
 | some u=>exact(show False from r).elim
theorem QX{v:V}{u:Value}(r:RelV v u):PySem.W.handedIn u=true:=by
 cases v with
 | non=>cases (show u=Value.none from r);rfl
 | bl b=>cases (show u=Value.bool b from r);rfl
 | int i=>obtain⟨t,e⟩:=(show ∃t,u=Value.int i t from r);cases e;rfl
 | str x=>obtain⟨t,e⟩:=(show ∃t,u=Value.str x t from r);cases e;rfl
 | byt b=>obtain⟨t,e⟩:=(show ∃t,u=Value.bytes b t from r);cases e;rfl
 | flt b=>obtain⟨t,e⟩:=(show ∃t,u=Value.float b t from r);cases e;rfl
 | ref a=>cases (show u=Value.ref a from r);rfl
 | ty n=>cases (show u=Value.type n from r);rfl
section
variable{P:Program}{w:World}{H H':Hp}{h h':Heap}{a C dx:Addr}{fs fs':List (Str×V)}
theorem z9(hok:HOk P w H h)(e:H a=some (.ins C dx fs)):∃mA,ObjM h a dx C mA/\(∀f,nH (fs.lookup f) (mA f))/\PySem.Within mA (fs.map (·.1))/\fs.length<=1000/\H dx=some (.own a):=by
 obtain⟨d,z,ne,ob,mA,n,r,q⟩:=(show cL P w H h a (.ins C dx fs) from hok a _ e)
 exact⟨mA,⟨ob,n,ne⟩,r,q,z,d⟩
end
structure Cls(K:Frag)(C:Addr):Prop where
 pg:PySem.W.plainGet K C Str.empty=true
 hd:PySem.W.hasDictIn K C=true
 po:PySem.W.plainOver K C=true
 sa:findIn K (.ref C) "__setattr__"=some (some (.builtin "object.__setattr__"))
theorem Cls.get{K:Frag}{C:Addr}(c:Cls K C)(f:Str):PySem.W.plainGet K C f=true:=c.pg
def bI(K:Frag)(C:Addr)(f:Str):Prop:=findIn K (.ref C) f=some none
theorem bI.taker{K:Frag}{C:Addr}{f:Str}(n:bI K C f):PySem.W.takerIn K C f=some none:=by
 unfold PySem.W.takerIn
 rw[show findIn K (.ref C) f=some none from n]
 rfl
structure Meth(K:Frag)(C:Addr)(m:Str)(f:Addr):Prop where
 at_:findIn K (.ref C) m=some (some (.ref f))
 fn:PySem.W.isFn K (.ref f)=true
 kp:keepIn K (.ref f)=true
section
variable{X:Cx}{pins:List (Addr×Obj)}{σ:St}{H:Hp}{s:Shared}{a C dx:Addr}{fs:List (Str×V)}{f:Str}{v:V}{A:Around}{E:Value->Shared->Prop}
theorem NZ{b:Bool}{Q:Value->Shared->Prop}(I:Inv X pins σ H s)(e:H a=some (.ins C dx fs))(c:Cls X.K C)(n:bI X.K C f)(l:fs.lookup f=some v)
  (h:∀u s',Inv X pins σ H s'->RelV v u->Q u s'):wpAny (model X.prog X.w) A (getAttr (.ref a) f b) Q E s:=by
 obtain⟨mA,O,r,_,_,_⟩:=z9 I.hok e
 obtain⟨u,hu,ru⟩:=nH.some_of (v:=v) (o:=mA f) (by rw[←l];exact r f)
 exact get_map I.kIn O (c.get f) c.hd n hu (QX ru) (h u _ (I.tok _) ru)
theorem Bt{m:Str}{g:Addr}{pl:Sem Bool}{Q:Value×List Value->Shared->Prop}(I:Inv X pins σ H s)(e:H a=some (.ins C dx fs))(c:Cls X.K C)(k:Meth X.K C m g)(l:fs.lookup m=none)
  (h:Q (.ref g,[.ref a]) s):wpAny (model X.prog X.w) A (getMethod (.ref a) m pl) Q E s:=by
 obtain⟨mA,O,r,_,_,_⟩:=z9 I.hok e
 have hn:mA m=none:=nH.none_of (by rw[←l];exact r m)
 exact get_meth I.kIn O (c.get m) k.at_ k.fn hn h
theorem O5{y:V}{u:Value}{Q:Unit->Shared->Prop}(I:Inv X pins σ H s)(e:H a=some (.ins C dx fs))(c:Cls X.K C)(n:bI X.K C f)(hl:fs.length<1000)(ry:RelV y u)
  (h:∀s',Inv X pins σ (upd H a (.ins C dx (jm f y fs))) s'->Q () s'):wpAny (model X.prog X.w) A (setAttr (.ref a) f u) Q E s:=by
 obtain⟨mA,O,r,wi,_,ho⟩:=z9 I.hok e
 have hz:(fs.map (·.1)).length<=sizeLine:=by rw[List.length_map,sizeLine_eq];omega
 refine set_map I.kIn O c.sa c.po n.taker c.hd wi hz λh' O' sb=>h _ ?_
 have hd:∃o,h'.get? dx=some o:=let ⟨o,_,_,e',_⟩:=O'.ns;⟨o,e'⟩
 refine I.write (x:=a) (e:=dx) (by rw[e];exact True.intro) (.inr ho) (λb q hb z=>(sb.2 b hb).trans z) hd ?_
 refine⟨by rw[aW O.ne];exact ho,?_,O.ne,O'.obj,_,O'.ns,λg=>?_,λg hg=>?_⟩
 .have:=zb f y fs;omega
 .show nH ((jm f y fs).lookup g) (if g=f then some u else mA g)
  rw[zc]
  by_cases q:g=f
  .rw[if_pos q,if_pos q];exact ry
  .rw[if_neg q,if_neg q];exact r g
 .by_cases q:g=f
  .rw[q];exact(yt f y fs).1
  .refine(yt f y fs).2 g (wi g λz=>hg ?_)
   show (if g=f then some u else mA g)=none
   rw[if_neg q];exact z
theorem Inv.made(I:Inv X pins σ H s):Inv X pins σ (upd (upd H s.heap.objs.size (.own (s.heap.objs.size+1))) (s.heap.objs.size+1) (.ins C s.heap.objs.size []))
  { s with heap:=(s.heap.push PySem.W.emptyDict).push (PySem.W.instObj C s.heap.objs.size) }:=by
 have e1:(s.heap.push PySem.W.emptyDict).get? s.heap.objs.size=some PySem.W.emptyDict:=Heap.get?_push_size s.heap rfl
 have e2:((s.heap.push PySem.W.emptyDict).push (PySem.W.instObj C s.heap.objs.size)).get? (s.heap.objs.size+1)=some (PySem.W.instObj C s.heap.objs.size):=by
  have:=Heap.get?_push_size (s.heap.push PySem.W.emptyDict) (o:=PySem.W.instObj C s.heap.objs.size) rfl
  rwa [Heap.size_push] at this
 have e3:(s.heap.push PySem.W.emptyDict).Ns s.heap.objs.size (λ_=>none):=⟨PySem.W.emptyDict,#[],_,e1,rfl,(λe he=>absurd he (by simp)),λ_=>rfl⟩
 have I1:=I.laid (a:=s.heap.objs.size) (o:=.own (s.heap.objs.size+1)) (h':=s.heap.push PySem.W.emptyDict) (t':=s.toks) (λb u q=>Heap.get?_push_of_some _ q) (Nat.le_refl _) ⟨_,e1⟩
 refine I1.laid (a:=s.heap.objs.size+1) (o:=.ins C s.heap.objs.size []) (t':=s.toks) (λb u q=>Heap.get?_push_of_some _ q) (Nat.le_of_eq (Heap.size_push _ _)) ?_
 have ne:s.heap.objs.size≠s.heap.objs.size+1:=Nat.ne_of_lt (Nat.lt_succ_self _)
 refine⟨by rw[aW ne,aO],Nat.zero_le _,ne,e2,λ_=>none,(Heap.Ns1.of_empty e3).at λo q=>Heap.get?_push_of_some _ q,λ_=>True.intro,λy hy=>absurd rfl hy⟩
theorem attr_of{prog:Program}{w:World}{env:Env}{e:Expr}{f:Str}{pos:Pos}{s:Shared}{Q:Value->Shared->Prop}(hb:attributeBase e f env (eval e env)=eval e env)
  (h:wpAny (model prog w) A (eval e env) (λo s₁=>wpAny (model prog w) A (getAttr o f true) Q E s₁) E s):wpAny (model prog w) A (eval (.Attribute e f pos) env) Q E s :=
 Attribute_any_ h (by rw[arm_eval_Attribute,hb])
end
def tFld(K:Frag)(ta:TE)(f:Str):TE:=λσ H Q=>ta σ H λx H1=>∃a C dx fs v,x=.ref a/\H1 a=some (.ins C dx fs)/\Cls K C/\bI K C f/\fs.lookup f=some v/\Q v H1
def sFld(K:Frag)(ta tv:TE)(f:Str):TS:=λD σ H=>tv σ H λy H1=>ta σ H1 λx H2=>∃a C dx fs,x=.ref a/\H2 a=some (.ins C dx fs)/\Cls K C/\bI K C f/\fs.length<1000 /\
 D.nx σ (upd H2 a (.ins C dx (jm f y fs)))
section
variable{X:Cx}{o e value:Expr}{f:Str}{pos pos' tpos:Pos}{ta tv:TE}
theorem pe_fld(he:PE X e ta)(hb:attributeBase e f X.env (eval e X.env)=eval e X.env):PE X (.Attribute e f pos) (tFld X.K ta f):=by
 intro pins s σ H Q I h
 refine attr_of hb (thn (he pins s σ H _ I h) λu s1 ⟨x,H1,I1,rx,a,C,dx,fs,v,ex,ea,c,n,l,q⟩=>?_)
 subst ex
 obtain rfl:u=Value.ref a:=rx
 exact NZ I1 ea c n l λu' s2 I2 ru=>⟨v,H1,I2,ru,q⟩
theorem Ou(ha:PE X o ta)(hv:PE X value tv)(hs:swapsWith value (some (.Attribute o f pos')) pos.line X.env=pure false):PS X (.Assign [.Attribute o f pos'] value pos) (sFld X.K ta tv f):=by
 intro pins s σ H D I h
 refine plainObj_wpAny_Assign_Attribute (thn (hv pins s σ H _ I h) λu s1 ⟨y,H1,I1,ry,q⟩=>thn (ha pins s1 σ H1 _ I1 q) λov s2 ⟨x,H2,I2,rx,a,C,dx,fs,ex,ea,c,n,l,q2⟩=>?_) hs
 subst ex
 obtain rfl:ov=Value.ref a:=rx
 exact O5 I2 ea c n l ry λs3 I3=>⟨σ,_,I3,q2⟩
end
section
variable{X:Cx}{pins:List (Addr×Obj)}{σ:St}{H:Hp}{s:Shared}{A:Around}{E:Value->Shared->Prop}{Q:Value->Shared->Prop}{c:Value}{b:Bool}
inductive xY (K:Frag) (H:Hp):V->Value->Prop where
 | non:xY K H .non (.type "NoneType")
 | bl (x:Bool):xY K H (.bl x) (.type "bool")
 | int (i:Int):xY K H (.int i) (.type "int")
 | str (x:Str):xY K H (.str x) (.type "str")
 | flt (x:UInt64):xY K H (.flt x) (.type "float")
 | lst {a:Addr} {xs:List V} (e:H a=some (.lst xs)):xY K H (.ref a) (.type "list")
 | frz {a:Addr} {o:Obj} {xs:List V} (e:H a=some (.frz o (.lst xs))):xY K H (.ref a) (.type "list")
 | tup {a:Addr} {xs:List V} (e:H a=some (.tup xs)):xY K H (.ref a) (.type "tuple")
 | dK {a:Addr} {kvs:List (Key×V)} (e:H a=some (.dK kvs)):xY K H (.ref a) (.type "dict")
 | dT {a:Addr} {kvs:List (List Key×V)} (e:H a=some (.dT kvs)):xY K H (.ref a) (.type "dict")
 | ins {a C dx:Addr} {fs:List (Str×V)} (e:H a=some (.ins C dx fs)) (cl:Cls K C) (ha:findIn K (.ref C) "__class__"=some (some (.builtin "object.__class__")))
   (hn:PySem.W.specialIn K (.builtin "object.__class__") "__get__"=some (some (.builtin "getset_descriptor.__get__"))) (htk:PySem.W.takesIn K (.builtin "object.__class__")=some true)
   (hm:PySem.W.mroIn K C (.type "object")=some true):xY K H (.ref a) (.ref C)
theorem Q6{x:V}{u t:Value}(I:Inv X pins σ H s)(rx:RelV x u)(ty:xY X.K H x t)(e:PySem.W.kitOne X.K t c=some b)(h:∀tk,Q (.bool b) { s with toks:=tk }):
  wpAny (model X.prog X.w) A (call (.builtin "isinstance") [u,c]) Q E s:=by
 cases ty with
 | non=>cases (show u=Value.none from rx);exact PySem.W.kia_one PySem.W.kitx_none I.kIn True.intro e (λz=>nomatch z) h
 | bl y=>cases (show u=Value.bool y from rx);exact PySem.W.kia_one PySem.W.kitx_bool I.kIn True.intro e (λz=>nomatch z) h
 | int i=>obtain⟨t,q⟩:=(show ∃t,u=Value.int i t from rx);cases q;exact PySem.W.kia_one PySem.W.kitx_int I.kIn True.intro e (λz=>nomatch z) h
 | str y=>obtain⟨t,q⟩:=(show ∃t,u=Value.str y t from rx);cases q;exact PySem.W.kia_one PySem.W.kitx_str I.kIn True.intro e (λz=>nomatch z) h
 | flt y=>obtain⟨t,q⟩:=(show ∃t,u=Value.float y t from rx);cases q;exact PySem.W.kia_one PySem.W.kitx_float I.kIn True.intro e (λz=>nomatch z) h
 | @lst a xs ea =>
  cases (show u=Value.ref a from rx)
  obtain⟨_,_,n,_,h1⟩:=(show cL X.prog X.w H s.heap a (.lst xs) from I.hok a _ ea)
  exact PySem.W.kia_one PySem.W.kitx_list I.kIn ⟨_,h1,rfl⟩ e (λz=>nomatch z) h
 | @frz a ob xs ea =>
  cases (show u=Value.ref a from rx)
  obtain⟨_,_,_,n,_,h1⟩:=(show cL X.prog X.w H s.heap a (.frz ob (.lst xs)) from I.hok a _ ea)
  exact PySem.W.kia_one PySem.W.kitx_list I.kIn ⟨_,h1,rfl⟩ e (λz=>nomatch z) h
 | @tup a xs ea =>
  cases (show u=Value.ref a from rx)
  obtain⟨_,_,_,p⟩:=(show cL X.prog X.w H s.heap a (.tup xs) from I.hok a _ ea)
  obtain⟨o,h1,h2,_⟩:=p
  exact PySem.W.kia_one PySem.W.kitx_tuple I.kIn ⟨o,h1,h2⟩ e (λz=>nomatch z) h
 | @dK a kvs ea =>
  cases (show u=Value.ref a from rx)
  obtain⟨_,_,vs,_,p⟩:=(show cL X.prog X.w H s.heap a (.dK kvs) from I.hok a _ ea)
  obtain⟨o,es,ep,h1,h2,_⟩:=p
  exact PySem.W.kia_one PySem.W.kitx_dict I.kIn ⟨o,h1,h2.1⟩ e (λz=>nomatch z) h
 | @dT a kvs ea =>
  cases (show u=Value.ref a from rx)
  obtain⟨_,_,xs,_,o,es,ep,h1,h2,_⟩:=(show cL X.prog X.w H s.heap a (.dT kvs) from I.hok a _ ea)
  exact PySem.W.kia_one PySem.W.kitx_dict I.kIn ⟨o,h1,h2.1⟩ e (λz=>nomatch z) h
 | @ins a C dx fs ea cl ha hn htk hm =>
  cases (show u=Value.ref a from rx)
  obtain⟨mA,O,_⟩:=z9 I.hok ea
  obtain⟨od,J,_⟩:=O.look
  exact PySem.W.kia_one (PySem.W.kitx_own (cl.get _) cl.hd ha hn htk hm) I.kIn J e (λz=>nomatch z) h
end
end L2
namespace L2
open PySem PySem.Spec PyProof.Rows
structure cZ(k:Nat)(A:Around):Prop where
 hd:A.handled=none
 dp:A.depth+3*k+5<recursionLimit
 un:A.units+16*k+200<cLine
theorem cZ.mono{j k:Nat}{A:Around}(r:cZ k A)(h:j<=k):cZ j A:=⟨r.hd,by have:=r.dp;omega,by have:=r.un;omega⟩
theorem cZ.deeper{k:Nat}{A:Around}(r:cZ (k+1) A)(env:Env):cZ k (A.deeper env) :=
 ⟨r.hd,by have:=r.dp;show A.depth+1+3*k+5<_;omega,by have:=r.un;show A.units+3+16*k+200<_;omega⟩
theorem Oc{A:Around}{C:Addr}{us:List Value}{kw:List (Str×Value)}:(A.under (.builtin "type.__call__" ⟨.ref C::us,kw⟩)).depth=A.depth+1:=by
 first | rfl | simp[Around.under,Code.weight,Code.isCreation,Code.isGuard,Code.isCaller,Code.frames,Code.isFrame,guardIds]
theorem Od{A:Around}{C:Addr}{us:List Value}{kw:List (Str×Value)}:(A.under (.builtin "type.__call__" ⟨.ref C::us,kw⟩)).units=A.units+1:=by
 first | rfl | simp[Around.under,Code.cUnits,Code.frames,Code.isFrame]
theorem cZ.make{k:Nat}{A:Around}(r:cZ (k+1) A)(C:Addr)(us:List Value)(kw:List (Str×Value)):cZ k (A.under (.builtin "type.__call__" ⟨.ref C::us,kw⟩)) :=
 ⟨r.hd,by have:=r.dp;rw[Oc];omega,by have:=r.un;rw[Od];omega⟩
theorem cZ.depth{k:Nat}{A:Around}(r:cZ k A):A.depth<recursionLimit:=by have:=r.dp;omega
theorem cZ.units{k:Nat}{A:Around}(r:cZ k A):A.units+64<cLine:=by have:=r.un;omega
def m6:TA:=λ_ H Q=>Q [] H
def je(ta:TE)(tr:TA):TA:=λσ H Q=>ta σ H λx H1=>tr σ H1 λxs H2=>Q (x::xs) H2
section
variable{X:Cx}{e:Expr}{es:List Expr}{te:TE}{t:TA}{pos:Pos}
theorem bD:PA X [] m6:=λ_ _ _ _ H Q I h=>Calls.spliced_nil ⟨[],H,I,.nil,h⟩
theorem aU(ha:PE X e te)(hr:PA X es t)(hs:starEach (e::es) X.env=(false,eval e X.env)::starEach es X.env:=by rfl):PA X (e::es) (je te t):=by
 intro pos pins s σ H Q I h
 rw[hs]
 show wpAny _ _ (spliced ((false,eval e X.env)::backTo pos (starEach es X.env))) _ _ s
 refine Calls.spliced_cons (thn (ha pins s σ H _ I h) λu s1 ⟨x,H1,I1,r1,q1⟩=>?_)
 exact thn (hr pos pins s1 σ H1 _ I1 q1) λus s2 ⟨xs,H2,I2,r2,q2⟩=>⟨x::xs,H2,I2,.cons r1 r2,q2⟩
def tTup(t:TA):TE:=λσ H Q=>t σ H λxs H1=>xs.length<=sizeLine/\∀p,H1 p=none->Q (.ref p) (upd H1 p (.tup xs))
def tLst(t:TA):TE:=λσ H Q=>t σ H λxs H1=>xs.length<=sizeLine/\∀p,H1 p=none->Q (.ref p) (upd H1 p (.lst xs))
theorem pe_tup{x1}(h:PA X es t):PE X (.Tuple es x1 pos) (tTup t):=by
 intro pins s σ H Q I hq
 refine wpAny_Tuple_spliced (thn (h pos pins s σ H _ I hq) λus s1 ⟨xs,H1,I1,r,z,q⟩=>⟨by rw[←r.length];exact z,?_⟩)
 have hf:H1 s1.heap.objs.size=none:=I1.hok.fresh (Nat.le_refl _)
 refine⟨.ref s1.heap.objs.size,upd H1 s1.heap.objs.size (.tup xs),I1.laid (t':=s1.toks) (λb u e=>Heap.get?_push_of_some _ e) (Nat.le_refl _) ?_,rfl,q _ hf⟩
 exact⟨z,us,r,⟨_,Heap.get?_push_size _ rfl,rfl,_,rfl⟩⟩
theorem pe_lst(h:PA X es t):PE X (.List es pos) (tLst t):=by
 intro pins s σ H Q I hq
 refine wpAny_List_spliced (thn (h pos pins s σ H _ I hq) λus s1 ⟨xs,H1,I1,r,z,q⟩=>⟨by rw[←r.length];exact z,?_⟩)
 have hf:H1 s1.heap.objs.size=none:=I1.hok.fresh (Nat.le_refl _)
 refine⟨.ref s1.heap.objs.size,upd H1 s1.heap.objs.size (.lst xs),I1.laid (t':=s1.toks) (λb u e=>Heap.get?_push_of_some _ e) (Nat.le_refl _) ?_,rfl,q _ hf⟩
 exact⟨z,us,0,r,Heap.get?_push_size _ rfl⟩
end
abbrev Sp:=List V->Hp->VK->XK->Prop
abbrev CXT:=List Env->Hp->Shared->XK->Value->Shared->Prop
structure Env0(P:Program)(w:World)(K:Frag)(mg:Str->Option Value)(base:Heap)(A:Around)(outer:List Env)(s:Shared)(H:Hp):Prop where
 frames:A.frames=some outer
 mod:Mod K mg base
 bs:∀b o,base.get? b=some o->s.heap.get? b=some o/\H b=none
 bsz:base.objs.size<=s.heap.objs.size
 zH:s.heap.FunFrames base outer
 frf:∀b∈frs outer,H b=none
 hok:HOk P w H s.heap
 bare:AllBare s.gens
def CE(outer:List Env)(P:Program)(w:World)(H:Hp)(s:Shared)(Q:VK)(u:Value)(s':Shared):Prop :=
 ∃v H',s'.os=s.os/\AllBare s'.gens/\Un (frs outer) [] H H' s.heap s'.heap/\HOk P w H' s'.heap/\RelV v u/\Q v H'
def CR(CX:CXT)(outer:List Env)(P:Program)(w:World)(H:Hp)(s:Shared)(Q:VK)(E:XK)(r:Result)(s':Shared):Prop :=
 match r with
 | .ok (.ret u)=>CE outer P w H s Q u s'
 | .ok _=>False
 | .error e=>CX outer H s E e s'
structure bY(P:Program)(w:World)(K:Frag)(mg:Str->Option Value)(base:Heap)(CX:CXT)(k:Nat)(f:Addr)(fd:FuncData)(ps:List Str)(sp:Sp):Prop where
 len:∀vs H Q E,sp vs H Q E->vs.length=ps.length
 run:∀(A:Around)(outer:List Env)(s:Shared)(H:Hp)(args:Args)(us:List Value)(vs:List V)(Q:VK)(E:XK),cZ k A->Env0 P w K mg base A outer s H->BindsTo s fd args (ps.zip us)->Vals vs us->sp vs H Q E ->
  codeAny (model P w) A (.call (.ref f) args) (CR CX outer P w H s Q E) s
theorem bY.mono{P:Program}{w:World}{K:Frag}{mg:Str->Option Value}{base:Heap}{CX:CXT}{j k:Nat}{f:Addr}{fd:FuncData}{ps:List Str}{sp:Sp}(F:bY P w K mg base CX j f fd ps sp)(h:j<=k):
  bY P w K mg base CX k f fd ps sp:=⟨F.len,λA outer s H args us vs Q E hr=>F.run A outer s H args us vs Q E (hr.mono h)⟩
theorem bY.imp{P:Program}{w:World}{K:Frag}{mg:Str->Option Value}{base:Heap}{CX:CXT}{k:Nat}{f:Addr}{fd:FuncData}{ps:List Str}{sp sp':Sp}(F:bY P w K mg base CX k f fd ps sp)
  (h:∀vs H Q E,sp' vs H Q E->sp vs H Q E):bY P w K mg base CX k f fd ps sp' :=
 ⟨λvs H Q E q=>F.len vs H Q E (h _ _ _ _ q),λA outer s H args us vs Q E hr he hb hv hs=>F.run A outer s H args us vs Q E hr he hb hv (h _ _ _ _ hs)⟩
theorem Env0.make{P:Program}{w:World}{K:Frag}{mg:Str->Option Value}{base:Heap}{A:Around}{outer:List Env}{s:Shared}{H:Hp}(e:Env0 P w K mg base A outer s H)(C:Addr)(us:List Value)(kw:List (Str×Value)):
  Env0 P w K mg base (A.under (.builtin "type.__call__" ⟨.ref C::us,kw⟩)) outer s H:=⟨by first | exact e.frames | (simpa[Around.under,Code.envs,Code.isFrame,pushEnvs] using e.frames),e.mod,e.bs,e.bsz,e.zH,e.frf,e.hok,e.bare⟩
section
variable{X:Cx}{pins:List (Addr×Obj)}{σ:St}{H:Hp}{s s':Shared}
theorem Inv.env0(I:Inv X pins σ H s):Env0 X.prog X.w X.K X.mg X.base X.A X.stack s H :=
 ⟨I.ok.frames,I.ok.mod,I.bs,Nat.le_trans I.ok.bsz I.sz,I.stack,I.Qp,I.hok,I.bare⟩
theorem Inv.after{Q:VK}{u:Value}(I:Inv X pins σ H s)(h:CE X.stack X.prog X.w H s Q u s'):EP X pins σ Q u s':=by
 obtain⟨v,H',os,bare,un,hok,r,q⟩:=h
 obtain⟨hh,g,d,t,os'⟩:=s'
 obtain rfl:os'=s.os:=os
 exact⟨v,H',I.call (h':=hh) (g':=g) (d':=d) (t':=t) (ch:=[]) un hok bare (λb z=>absurd z (by simp)),r,q⟩
end
def FQ(sp:Sp)(dvs:List V)(E:XK)(t:TA):TE:=λσ H Q=>t σ H λvs H1=>sp (vs++dvs) H1 Q E
def tMeth(C:Addr)(m:Str)(sp:Sp)(dvs:List V)(E:XK)(ta:TE)(t:TA):TE:=λσ H Q=>ta σ H λx H1=>∃a dx fs,x=.ref a/\H1 a=some (.ins C dx fs)/\fs.lookup m=none /\
 t σ H1 λvs H2=>sp (x::(vs++dvs)) H2 Q E
def tMake(C:Addr)(sp:Sp)(dvs:List V)(E:XK)(t:TA):TE:=λσ H Q=>t σ H λvs H1=>∀x dx,H1 x=none->H1 dx=none->dx≠x ->
 sp (.ref x::(vs++dvs)) (upd (upd H1 dx (.own x)) x (.ins C dx [])) (λv H2=>v=.non/\Q (.ref x) H2) E
def Binds(K:Frag)(fd:FuncData)(ps:List Str)(ds:List Value):Prop :=
 ∀(s:Shared)(us:List Value),K.In s.heap->(us++ds).length=ps.length->BindsTo s fd ⟨us,[]⟩ (ps.zip (us++ds))
theorem Binds.all{K:Frag}{fd:FuncData}{ps:List Str}(h:∀us:List Value,us.length=ps.length->bindArgs fd ⟨us,[]⟩=pure (ps.zip us)):Binds K fd ps []:=λs us _ hl=>by
 rw[List.append_nil] at hl ⊢
 exact .of_eq (h us hl)
def lZ(CX:CXT)(X:Cx)(E:XK):Prop:=∀(pins:List (Addr×Obj))(σ:St)(H:Hp)(s:Shared)(e:Value)(s':Shared),Inv X pins σ H s->CX X.stack H s E e s'->X.xe e s'
section
variable{X:Cx}{CX:CXT}{k:Nat}{f C:Addr}{fd:FuncData}{ps:List Str}{sp:Sp}{dvs:List V}{ds:List Value}{E:XK}{x m:Str}{p pos apos:Pos}{e o:Expr}{es:List Expr}{ta:TE}{t:TA}
theorem Jf{pins:List (Addr×Obj)}{σ:St}{H:Hp}{s:Shared}{Q:VK}{us:List Value}{vs:List V}(F:bY X.prog X.w X.K X.mg X.base CX k f fd ps sp)(hr:cZ k X.A)(hb:Binds X.K fd ps ds)(hd:Vals dvs ds)(hx:lZ CX X E)
  (I:Inv X pins σ H s) (r:Vals vs us) (h:sp (vs++dvs) H Q E):wpAny (model X.prog X.w) X.A (call (.ref f) us) (EP X pins σ Q) X.xe s:=by
 have r2:Vals (vs++dvs) (us++ds):=r.append hd
 have hl:(us++ds).length=ps.length:=by rw[←r2.length];exact F.len _ _ _ _ h
 refine wpAny_call (codeAny_mono (F.run X.A X.stack s H ⟨us,[]⟩ (us++ds) (vs++dvs) Q E hr I.env0 (hb s us I.kIn hl) r2 h) λr s' hq=>?_)
 cases r with
 | error e=>exact hx pins σ H s e s' I hq
 | ok fl =>
  cases fl with
  | ret u=>exact I.after hq
  | next=>exact False.elim hq
  | brk=>exact False.elim hq
  | cont=>exact False.elim hq
theorem Ja(F:bY X.prog X.w X.K X.mg X.base CX k f fd ps sp)(hr:cZ k X.A)(hg:Gl X x)(hm:X.mg x=some (.ref f))(hk:keepIn X.K (.ref f)=true)(hb:Binds X.K fd ps ds)(hd:Vals dvs ds)(hx:lZ CX X E)
  (ha:PA X (e::es) t) (hdb:(x==("__debug__":Str))=false:=by decide) (he:starEach (e::es) X.env=(false,eval e X.env)::starEach es X.env:=by rfl) (hpl:(backTo pos (starEach es X.env)).any (·.1)=false:=by rfl) :
  PE X (.Call (.Name x p) (e::es) [] pos) (FQ sp dvs E t):=by
 intro pins s σ H Q I h
 refine wpAny_Call_Name_kw (wN I hg hm ?_ hdb)
 refine PySem.W.callWith_K (h₀:=X.base) I.ok.mod.kin hk (thn (ha pos pins s σ H _ I h) λus s1 ⟨vs,H1,I1,r,q⟩=>⟨I1.kIn,?_⟩) he hpl
 exact Jf F hr hb hd hx I1 r q
theorem pe_meth0{pl:Sem Bool}(he:PE X o ta)(c:Cls X.K C)(hm:Meth X.K C m f)(F:bY X.prog X.w X.K X.mg X.base CX k f fd ps sp)(hr:cZ k X.A)(hb:Binds X.K fd ps ds)(hd:Vals dvs ds)(hx:lZ CX X E)
  (ht:eval (.Call (.Attribute o m apos) [] [] pos) X.env=(do
   let ov ←eval o X.env
   standAt apos.atName
   let (f,first) ←holding [ov] (getMethod ov m pl)
   callWith pos f first (backTo pos (starEach [] X.env)) (backToKw pos (keywordEach [] X.env))):=by rfl) :
  PE X (.Call (.Attribute o m apos) [] [] pos) (tMeth C m sp dvs E ta m6):=by
 intro pins s σ H Q I h
 refine PySem.W.methodCall_KW (pl:=pl) (thn (he pins s σ H _ I h) λu s1 ⟨x,H1,I1,rx,a,dx,fs,ex,ea,l,q⟩=>?_) ht
 subst ex
 obtain rfl:u=Value.ref a:=rx
 refine Bt I1 ea c hm l ?_
 exact PySem.W.callWith_K0 (first:=[.ref a]) I1.kIn hm.kp (Jf (us:=[.ref a]) (vs:=[.ref a]) F hr hb hd hx I1 (.cons rfl .nil) q)
structure Mk(K:Frag)(C f:Addr):Prop where
 makes:PySem.W.makesIn K C=true
 init:findIn K (.ref C) "__init__"=some (some (.ref f))
 fn:PySem.W.isFn K (.ref f)=true
 kp:keepIn K (.ref C)=true
theorem LC{pins:List (Addr×Obj)}{σ:St}{H:Hp}{s:Shared}{Q:VK}{us:List Value}{vs:List V}(M:Mk X.K C f)(F:bY X.prog X.w X.K X.mg X.base CX k f fd ps sp)(hr:cZ (k+1) X.A)(hb:Binds X.K fd ps ds)(hd:Vals dvs ds)
  (hx:lZ CX X E) (I:Inv X pins σ H s) (r:Vals vs us)
  (h:∀x dx,H x=none->H dx=none->dx≠x->sp (.ref x::(vs++dvs)) (upd (upd H dx (.own x)) x (.ins C dx [])) (λv H2=>v=.non/\Q (.ref x) H2) E) :
  wpAny (model X.prog X.w) X.A (call (.ref C) us) (EP X pins σ Q) X.xe s:=by
 have hq:=h (s.heap.objs.size+1) s.heap.objs.size (I.hok.fresh (Nat.le_succ _)) (I.hok.fresh (Nat.le_refl _)) (Nat.ne_of_lt (Nat.lt_succ_self _))
 have I2:=Inv.made (C:=C) I
 have r2:Vals (V.ref (s.heap.objs.size+1)::(vs++dvs)) (Value.ref (s.heap.objs.size+1)::(us++ds)):=.cons rfl (r.append hd)
 have hl:(Value.ref (s.heap.objs.size+1)::us++ds).length=ps.length:=by
  have e:=r2.length
  rw[F.len _ _ _ _ hq] at e
  exact e.symm
 refine wpAny_call (make_map (f:=f) I.kIn M.makes M.init (beq_iff_eq.mp M.fn) (codeAny_mono (F.run _ X.stack _ _ ⟨Value.ref (s.heap.objs.size+1)::us,[]⟩ (Value.ref (s.heap.objs.size+1)::(us++ds)) _ _ E (hr.make C us [])
  (I2.env0.make C us []) (hb _ (Value.ref (s.heap.objs.size+1)::us) I2.kIn hl) r2 hq) λr s' hq'=>?_))
 cases r with
 | error e=>exact hx pins σ _ _ e s' I2 hq'
 | ok fl =>
  cases fl with
  | ret u =>
   obtain⟨v,H',I3,rv,ev,q3⟩:=I2.after hq'
   subst ev
   exact⟨rv,⟨V.ref (s.heap.objs.size+1),H',I3,rfl,q3⟩⟩
  | next=>exact False.elim hq'
  | brk=>exact False.elim hq'
  | cont=>exact False.elim hq'
theorem pe_make(M:Mk X.K C f)(F:bY X.prog X.w X.K X.mg X.base CX k f fd ps sp)(hr:cZ (k+1) X.A)(hg:Gl X x)(hm:X.mg x=some (.ref C))(hb:Binds X.K fd ps ds)(hd:Vals dvs ds)(hx:lZ CX X E)
  (ha:PA X (e::es) t) (hdb:(x==("__debug__":Str))=false:=by decide) (he:starEach (e::es) X.env=(false,eval e X.env)::starEach es X.env:=by rfl) (hpl:(backTo pos (starEach es X.env)).any (·.1)=false:=by rfl) :
  PE X (.Call (.Name x p) (e::es) [] pos) (tMake C sp dvs E t):=by
 intro pins s σ H Q I h
 refine wpAny_Call_Name_kw (wN I hg hm ?_ hdb)
 refine PySem.W.callWith_K (h₀:=X.base) I.ok.mod.kin M.kp (thn (ha pos pins s σ H _ I h) λus s1 ⟨vs,H1,I1,r,q⟩=>⟨I1.kIn,?_⟩) he hpl
 exact LC M F hr hb hd hx I1 r q
theorem pe_make0(M:Mk X.K C f)(F:bY X.prog X.w X.K X.mg X.base CX k f fd ps sp)(hr:cZ (k+1) X.A)(hg:Gl X x)(hm:X.mg x=some (.ref C))(hb:Binds X.K fd ps ds)(hd:Vals dvs ds)(hx:lZ CX X E)
  (hdb:(x==("__debug__":Str))=false:=by decide):PE X (.Call (.Name x p) [] [] pos) (tMake C sp dvs E m6):=by
 intro pins s σ H Q I h
 refine wpAny_Call_Name_kw (wN I hg hm ?_ hdb)
 exact PySem.W.callWith_K0 I.kIn M.kp (LC (us:=[]) M F hr hb hd hx I .nil h)
end
section
variable{X:Cx}{CX:CXT}{k:Nat}{f C:Addr}{fd:FuncData}{ps ks:List Str}{sp:Sp}{E:XK}{x m:Str}{p pos apos kpos:Pos}{e o:Expr}{es:List Expr}{kws:List Keyword}{te ta:TE}{t tk:TA}{nm:Option Str}
variable{g:List Value->List Value->List Value}{gV:List V->List V->List V}
end
structure aG(N P:List Str)(sc:Scope):Prop where
 kind:sc.kind=.function
 co:sc.isCoroutine=false
 gen:sc.isGenerator=false
 nd:N.Nodup
 pre:N.take P.length=P
 par:∀x∈P,sc.names.lookup x=some .local∨sc.names.lookup x=some .cell
 Og:∀y∈sc.names,y.2≠.free
theorem Eu{kindOf:Str->Option NameKind}{x:Str}:∀{binds:List (Str×Value)}{m:Str->Option Value},(∀v,(x,v)∉binds)->bindL kindOf binds m x=m x
 | [],_,_=>rfl
 | (n,v)::r,m,h=>by
  unfold bindL
  rw[Eu λw hw=>h w (List.mem_cons_of_mem _ hw)]
  split
  .have:x≠n:=by rintro rfl;exact h v List.mem_cons_self
   simp[this]
  .rfl
theorem Es{kindOf:Str->Option NameKind}{x:Str}:∀{binds:List (Str×Value)}{m:Str->Option Value},(∀v,(x,v)∉binds)->bindC kindOf binds m x=m x
 | [],_,_=>rfl
 | (n,v)::r,m,h=>by
  unfold bindC
  rw[Es λw hw=>h w (List.mem_cons_of_mem _ hw)]
  split
  .rfl
  .have:x≠n:=by rintro rfl;exact h v List.mem_cons_self
   simp[this]
theorem Et{kindOf:Str->Option NameKind}{x:Str}{v:Value}:∀{P:List Str}{vs:List Value}{i:Nat}{m:Str->Option Value},P.Nodup->P[i]?=some x->vs[i]?=some v->kindOf x=some .local ->
  bindL kindOf (P.zip vs) m x=some v
 | [],_,_,_,_,h,_,_=>by simp at h
 | _::_,[],_,_,_,_,h,_=>by simp at h
 | p::P,w::vs,0,m,nd,h1,h2,hk=>by
  simp at h1 h2;subst h1;subst h2
  show bindL kindOf ((p,w)::P.zip vs) m p=_
  unfold bindL
  rw[Eu λv hv=>(List.nodup_cons.mp nd).1 (List.of_mem_zip hv).1,if_pos hk]
  simp
 | p::P,w::vs,i+1,m,nd,h1,h2,hk=>by
  show bindL kindOf ((p,w)::P.zip vs) m x=_
  unfold bindL
  exact Et (i:=i) (List.nodup_cons.mp nd).2 (by simpa using h1) (by simpa using h2) hk
theorem Er{kindOf:Str->Option NameKind}{x:Str}{v:Value}:∀{P:List Str}{vs:List Value}{i:Nat}{m:Str->Option Value},P.Nodup->P[i]?=some x->vs[i]?=some v->kindOf x≠some .local ->
  bindC kindOf (P.zip vs) m x=some v
 | [],_,_,_,_,h,_,_=>by simp at h
 | _::_,[],_,_,_,_,h,_=>by simp at h
 | p::P,w::vs,0,m,nd,h1,h2,hk=>by
  simp at h1 h2;subst h1;subst h2
  show bindC kindOf ((p,w)::P.zip vs) m p=_
  unfold bindC
  rw[Es λv hv=>(List.nodup_cons.mp nd).1 (List.of_mem_zip hv).1,if_neg hk]
  simp
 | p::P,w::vs,i+1,m,nd,h1,h2,hk=>by
  show bindC kindOf ((p,w)::P.zip vs) m x=_
  unfold bindC
  exact Er (i:=i) (List.nodup_cons.mp nd).2 (by simpa using h1) (by simpa using h2) hk
def start(N:List Str)(vs:List V):St:=vs.map some++List.replicate (N.length - vs.length) none
def zE(CX:CXT)(P:Program)(w:World)(K:Frag)(mg:Str->Option Value)(base:Heap)(N:List Str)(qual:Str)(scope:Scope)(f:Addr)(cd:Value)(A:Around)(outer:List Env)(s:Shared)(H:Hp)(E:XK):Cx where
 prog:=P
 w:=w
 K:=K
 mg:=mg
 base:=base
 A:=A.deeper (envOfC qual scope s.heap.objs.size f cd)
 N:=N
 s₀:=s
 H₀:=H
 env:=envOfC qual scope s.heap.objs.size f cd
 outer:=outer
 stack:=envOfC qual scope s.heap.objs.size f cd::outer
 ex:=[]
 calm:=true
 fn:=λ_=>true
 pn:=[]
 xe:=λe s'=>wpAny (model P w) (A.deeper (envOfC qual scope s.heap.objs.size f cd)) (leaving (envOfC qual scope s.heap.objs.size f cd) e) (λ_ s''=>CX outer H s E e s'') (λe' s''=>CX outer H s E e' s'') s'
theorem J7{sc:Scope}{n:Nat}{x:Str}(h:sc.names.lookup x=some .cell):∃c,(cellsFrom n sc.names []).lookup x=some c:=by
 have q:=PySem.W.cellsFrom_some sc.names n [] (.inl h)
 exact Option.isSome_iff_exists.mp q
theorem Q4{CX:CXT}{P:Program}{w:World}{K:Frag}{mg:Str->Option Value}{base:Heap}{N ps:List Str}{qual:Str}{scope:Scope}{f:Addr}{cd:Value}{A:Around}{outer:List Env}{s s1:Shared}{H:Hp}{E:XK}{us:List Value}{vs:List V}
  (S:aG N ps scope) (hd:A.handled=none) (e0:Env0 P w K mg base A outer s H) (hl:vs.length=ps.length) (r:Vals vs us)
  (x:InCallC s s.heap.objs.size (bindL (envOfC qual scope s.heap.objs.size f cd).kindOf (ps.zip us) λ_=>none) (cellsFrom (s.heap.objs.size+1) scope.names []) (bindC (envOfC qual scope s.heap.objs.size f cd).kindOf (ps.zip us) λ_=>none) s1) :
  Inv (zE CX P w K mg base N qual scope f cd A outer s H E) [] (start N vs) H s1:=by
 have hpl:ps.length<=N.length:=by have:=congrArg List.length S.pre;rw[List.length_take] at this;omega
 obtain⟨h1,tk,rfl,hk⟩:=x.done
 have noA:∀b:Addr,b∉(zE CX P w K mg base N qual scope f cd A outer s H E).ex:=λb z=>absurd (show b∈([]:List Addr) from z) (by simp)
 refine⟨⟨e0.mod,S.kind,rfl,rfl,Nat.le_refl _,λy z c h1 h2=>?_,λy hy=>?_,λy c _ h=>?_,λ_=>hd,Around.frames_deeper e0.frames,.inr ⟨rfl,rfl⟩,λb z=>absurd z (noA b),e0.bs,e0.bsz,λb _ _=>noA b,λb z=>absurd z (noA b),e0.zH,e0.frf⟩,
  rfl,e0.bare,Un.kept hk,⟨_,x.toInCall.ns,λi y v h1 h2 h3=>?_⟩,λy c h=>⟨_,x.cell y c h⟩,e0.hok.fresh (Nat.le_refl _),λy c h=>?_,λp hp=>absurd (show p∈([]:List (Addr×Obj)) from hp) (by simp),e0.hok.kept hk,?_⟩
 .exact name_of_addr x.apart (PySem.mem_of_lookup h1) (PySem.mem_of_lookup h2)
 .have hy:scope.names.lookup y=some .cell∨scope.names.lookup y=some .free:=hy
  rcases hy with hy | hy
  .exact J7 hy
  .exact absurd rfl (S.Og _ (PySem.mem_of_lookup hy))
 .exact Nat.le_of_lt (x.above y c (PySem.mem_of_lookup h))
 .have hi:i<vs.length:=by
   unfold start at h2
   by_cases hi:i<vs.length
   .exact hi
   .rw[List.getElem?_append_right (by simpa using hi)] at h2
    rw[List.getElem?_replicate] at h2
    split at h2 <;> cases h2
  have ha:vs[i]?=some v:=by
   unfold start at h2
   rw[List.getElem?_append_left (by simpa using hi),List.getElem?_map] at h2
   cases e:vs[i]? with
   | none=>rw[e] at h2;cases h2
   | some a=>rw[e] at h2;cases h2;rfl
  obtain⟨u,hu,rv⟩:=r.get ha
  have hp:ps[i]?=some y:=by
   rw[←S.pre,List.getElem?_take_of_lt (by omega)];exact h1
  have ndP:ps.Nodup:=by rw[←S.pre];exact S.nd.sublist (List.take_sublist _ _)
  refine⟨u,rv,?_⟩
  rcases S.par y (List.mem_of_getElem? hp) with k | k
  .exact .inl ⟨k,Et ndP hp hu k⟩
  .obtain⟨c,e⟩:=J7 (n:=s.heap.objs.size+1) k
   refine .inr ⟨.inl k,c,e,?_⟩
   have q:=x.cell y c e
   rw[Er ndP hp hu (by show scope.names.lookup y≠_;rw[k];decide)] at q
   exact q
 .exact e0.hok.fresh (Nat.le_of_lt (x.above y c (PySem.mem_of_lookup h)))
 .unfold start
  show _=N.length
  rw[List.length_append,List.length_map,List.length_replicate]
  omega
theorem fn_of{CX:CXT}{P:Program}{w:World}{K:Frag}{mg:Str->Option Value}{base:Heap}{k:Nat}{f:Addr}{name qual:Str}{params:Arguments}{body:List Stmt}{scope:Scope}{dV kV doc pm cdv ct oc:Value}{an od:Option Addr}
  {osl:Array (Option Value)} {N ps:List Str} {sp:Sp} (lk:K.lookup f=some ⟨oc,od,.func (PySem.W.fnOf name qual params body scope dV kV doc pm an cdv ct),osl⟩) (hcd:PySem.W.codeIn K cdv qual=true) (S:aG N ps scope)
  (len:∀vs H Q E,sp vs H Q E->vs.length=ps.length)
  (hbody:∀(A:Around)(outer:List Env)(s:Shared)(H:Hp)(vs:List V)(Q:VK)(E:XK),cZ k (A.deeper (envOfC qual scope s.heap.objs.size f cdv))->sp vs H Q E ->
   ∃t,PSs (zE CX P w K mg base N qual scope f cdv A outer s H E) body t/\t { nx:=λ_ H'=>Q .non H',rt:=Q } (start N vs) H) :
  bY P w K mg base CX (k+1) f (PySem.W.fnOf name qual params body scope dV kV doc pm an cdv ct) ps sp:=by
 refine⟨len,λA outer s H args us vs Q E hr e0 hb r hsp=>?_⟩
 have hl:=len _ _ _ _ hsp
 have KX:K.In s.heap:=e0.mod.kin.keeps λb o e=>(e0.bs b o e).1
 have lim:s.heap.NoLimit:=e0.mod.nolimit.keeps λb o e=>(e0.bs b o e).1
 have hkind:∀y∈ps.zip us,scope.names.lookup y.1=some .local∨(scope.names.lookup y.1=some .cell/\((cellsFrom (s.heap.objs.size+1) scope.names []).lookup y.1).isSome=true):=λ⟨n,v⟩ hy=>by
  rcases S.par n (List.of_mem_zip hy).1 with q | q
  .exact .inl q
  .exact .inr ⟨q,PySem.W.cellsFrom_some _ _ _ (.inl q)⟩
 refine codeAny_call_function hr.depth (KX _ _ lk) rfl S.co S.gen rfl (PySem.W.codeRec_of KX hcd) (hb _ _ _ _ ?_)
 refine wpAny_newFunctionEnv_cells S.kind hkind λenv he s1 x=>?_
 subst he
 refine⟨lim.keeps x.toInCall.keep,codeAny_func ?_⟩
 obtain⟨t,ht,hq⟩:=hbody A outer s H vs Q E (hr.deeper _) hsp
 have I:Inv (zE CX P w K mg base N qual scope f cdv A outer s H E) [] (start N vs) H s1:=Q4 S hr.hd e0 hl r x
 refine wpAny_mono (ht [] s1 (start N vs) H _ I hq) (λfl s' hs=>?_) λe s' hs=>hs
 have fin:∀{σ':St}{H':Hp}{v:V}{u:Value},Inv (zE CX P w K mg base N qual scope f cdv A outer s H E) [] σ' H' s'->RelV v u->Q v H'->CE outer P w H s Q u s' :=
  fun{σ' H' v u} J rv q=>⟨v,H',J.os,J.bare,J.base,J.hok,rv,q⟩
 cases fl with
 | ret u =>
  obtain⟨v,σ',H',J,rv,q⟩:=hs
  exact fin J rv q
 | next =>
  obtain⟨σ',H',J,q⟩:=hs
  exact fin (v:=V.non) (u:=Value.none) J rfl q
 | brk =>
  obtain⟨_,_,_,q⟩:=hs
  exact False.elim q
 | cont =>
  obtain⟨_,_,_,q⟩:=hs
  exact False.elim q
end L2
namespace L2
open PySem PySem.Spec PyProof.Rows
section
variable{X:Cx}{x:Str}{p pos:Pos}{e:Expr}{es:List Expr}{t:TA}{id T:String}{r:List V->Hp->VK->Prop}
def tCB(r:List V->Hp->VK->Prop)(t:TA):TE:=λσ H Q=>t σ H λvs H1=>r vs H1 Q
theorem wW(hc:jo X (.builtin id) r)(hg:Gl X x)(hm:X.mg x=none)(hv:bootBuiltins x=some (.builtin id))(ha:PA X (e::es) t)(hn:x≠"__name__":=by decide)(hdb:(x==("__debug__":Str))=false:=by decide)
  (he:starEach (e::es) X.env=(false,eval e X.env)::starEach es X.env:=by rfl) (hpl:(backTo pos (starEach es X.env)).any (·.1)=false:=by rfl):PE X (.Call (.Name x p) (e::es) [] pos) (tCB r t):=by
 intro pins s σ H Q I h
 refine wpAny_Call_Name_kw (ou I hg hm hv ?_ hn hdb)
 exact PyProof.Rows.callWith_builtin1 (thn (ha pos pins s σ H _ I h) λus s1 ⟨vs,H1,I1,r1,q1⟩=>hc pins s1 σ H1 vs us Q I1 r1 q1) he hpl
theorem jC(hc:jo X (.type T) r)(hg:Gl X x)(hm:X.mg x=none)(hv:bootBuiltins x=some (.type T))(ha:PA X (e::es) t)(hn:x≠"__name__":=by decide)(hdb:(x==("__debug__":Str))=false:=by decide)
  (he:starEach (e::es) X.env=(false,eval e X.env)::starEach es X.env:=by rfl) (hpl:(backTo pos (starEach es X.env)).any (·.1)=false:=by rfl):PE X (.Call (.Name x p) (e::es) [] pos) (tCB r t):=by
 intro pins s σ H Q I h
 refine wpAny_Call_Name_kw (ou I hg hm hv ?_ hn hdb)
 exact PyProof.Rows.callWith_type1 (thn (ha pos pins s σ H _ I h) λus s1 ⟨vs,H1,I1,r1,q1⟩=>hc pins s1 σ H1 vs us Q I1 r1 q1) he hpl
end
end L2
namespace HT
open PySem PyProof.Rows
section
open PySem.SeqAt
open PySem.AutoSeq1 (wpAny_loadPart')
open PySem.MeetsSeq PySem.MeetsSeq2 PySem.MeetsSeq3
end
section
variable{prog:Program}{w:World}{A:Around}{E:Value->Shared->Prop}{s:Shared}
def sIx(n d:Nat):Option Int->Nat
 | none=>d
 | some v=>if v<0 then (v+(n:Int)).toNat else min v.toNat n
theorem LK(n d:Nat):sIx n d none=d:=rfl
theorem Qn(n d k:Nat):sIx n d (some (k:Int))=min k n:=by
 show (if (k:Int)<0 then ((k:Int)+(n:Int)).toNat else min (k:Int).toNat n)=min k n
 rw[if_neg (by omega),Int.toNat_natCast]
end
end HT
namespace L2
open PySem PySem.Spec PyProof.Rows
abbrev TO:=St->Hp->(Option Int->Hp->Prop)->Prop
def PO(X:Cx)(e:Option Expr)(t:TO):Prop :=
 ∀(pins:List (Addr×Obj))(s:Shared)(σ:St)(H:Hp)(Q:Option Int->Hp->Prop),Inv X pins σ H s->t σ H Q ->
  wpAny (model X.prog X.w) X.A (evalPart e X.env) (λu s'=>∃o H',Inv X pins σ H' s'/\IsPart u o/\Q o H') X.xe s
def tNoPart:TO:=λ_ H Q=>Q none H
def tPart(t:TE):TO:=λσ H Q=>t σ H λx H1=>∃i,x=.int i/\Q (some i) H1
section
variable{X:Cx}{e:Expr}{te:TE}{lo hi:Option Expr}{tl th:TO}{pos p2:Pos}
theorem po_none:PO X none tNoPart:=by
 intro pins s σ H Q I h
 rw[evalPart_none]
 exact wpAny_pure ⟨none,H,I,.none,h⟩
theorem po_some(h:PE X e te):PO X (some e) (tPart te):=by
 intro pins s σ H Q I hw
 rw[evalPart_some]
 refine thn (h pins s σ H _ I hw) λu s1 ⟨x,H1,I1,r1,q1⟩=>?_
 obtain⟨i,rfl,q⟩:=q1
 obtain⟨t,rfl⟩:=r1
 exact⟨some i,H1,I1,.int i t,q⟩
def SlR(X:Cx)(r:V->Option Int->Option Int->Hp->VK->Prop):Prop :=
 ∀(pins:List (Addr×Obj))(s:Shared)(σ:St)(H:Hp)(x:V)(v vl vu:Value)(lo hi:Option Int)(sl:Addr)(Q:VK),Inv X pins σ H s->RelV x v->s.heap.IsSliceOf sl vl vu .none->IsPart vl lo->IsPart vu hi->r x lo hi H Q ->
  ∃T id,typeLookup (.type T) "__getitem__"=pure (some (.builtin id))/\s.TypeIs v T/\wpAny (model X.prog X.w) X.A (getItem v (.ref sl)) (EP X pins σ Q) X.xe s
theorem SlR.or{r r':V->Option Int->Option Int->Hp->VK->Prop}(h:SlR X r)(h':SlR X r'):SlR X (λx lo hi H Q=>r x lo hi H Q∨r' x lo hi H Q):=by
 intro pins s σ H x v vl vu lo hi sl Q I rx hs pl pu q
 rcases q with q | q
 .exact h pins s σ H x v vl vu lo hi sl Q I rx hs pl pu q
 .exact h' pins s σ H x v vl vu lo hi sl Q I rx hs pl pu q
def tSl(r:V->Option Int->Option Int->Hp->VK->Prop)(te:TE)(tl th:TO):TE:=λσ H Q=>te σ H λx H1=>tl σ H1 λl H2=>th σ H2 λu H3=>r x l u H3 Q
theorem pe_slice{r:V->Option Int->Option Int->Hp->VK->Prop}(hr:SlR X r)(he:PE X e te)(hl:PO X lo tl)(hu:PO X hi th):PE X (.Subscript e (.Slice lo hi none p2) pos) (tSl r te tl th):=by
 intro pins s σ H Q I h
 refine Subscript_ (thn (he pins s σ H _ I h) λv s1 ⟨x,H1,I1,r1,q1⟩=>?_)
 refine wpAny_Slice (thn (hl pins s1 σ H1 _ I1 q1) λvl s2 ⟨l,H2,I2,pl,q2⟩=>thn (hu pins s2 σ H2 _ I2 q2) λvu s3 ⟨u,H3,I3,pu,q3⟩=>?_)
 rw[evalPart_none]
 refine wpAny_pure ?_
 have I4:Inv X pins σ H3 { s3 with heap:=s3.heap.push { cls:=.type "slice",data:=.fields #[vl,vu,.none] } }:=I3.kept (t':=s3.toks) λb ob q=>Heap.get?_push_of_some _ q
 obtain⟨T,id,hT,ht,hg⟩:=hr pins { s3 with heap:=s3.heap.push { cls:=.type "slice",data:=.fields #[vl,vu,.none] } } σ H3 x v vl vu l u s3.heap.objs.size Q I4 r1 (Heap.IsSliceOf.new ..) pl pu q3
 show wpAny (model X.prog X.w) X.A (subscriptTail e (.Slice lo hi none p2) v (.ref s3.heap.objs.size)) (EP X pins σ Q) X.xe { s3 with heap:=s3.heap.push { cls:=.type "slice",data:=.fields #[vl,vu,.none] } }
 exact tail_any (ops:=[.ref s3.heap.objs.size,v]) ht hT hg (by with_unfolding_all rfl)
def cutV(xs:List V)(lo hi:Option Int):List V:=(xs.drop (HT.sIx xs.length 0 lo)).take (HT.sIx xs.length xs.length hi - HT.sIx xs.length 0 lo)
theorem J9(xs:List V)(lo hi:Option Int):(cutV xs lo hi).length<=xs.length:=by
 unfold cutV
 rw[List.length_take,List.length_drop]
 omega
end
end L2
namespace L2
open PySem PySem.Spec PyProof.Rows
def ixN(n:Nat)(i:Int):Option Nat:=if 0<=i then (if i<n then some i.toNat else none) else if -(n:Int)<=i then some (i+n).toNat else none
def atI{α:Type}(xs:List α)(i:Int):Option α:=(ixN xs.length i).bind λj=>xs[j]?
theorem PP{n:Nat}{i:Int}{j:Nat}(h:ixN n i=some j):seqIndex? i n=some j/\j<n/\-(n:Int)<=i/\i<n:=by
 unfold ixN at h
 by_cases h0:0<=i
 .rw[if_pos h0] at h
  by_cases h1:i<n
  .rw[if_pos h1] at h
   have e:i.toNat=j:=Option.some.inj h
   exact⟨by rw[seqIndex_of h0 h1,e],by omega,by omega,h1⟩
  .rw[if_neg h1] at h;cases h
 .rw[if_neg h0] at h
  by_cases h1:-(n:Int)<=i
  .rw[if_pos h1] at h
   have e:(i+n).toNat=j:=Option.some.inj h
   exact⟨by rw[seqIndex_neg (by omega) h1,e],by omega,h1,by omega⟩
  .rw[if_neg h1] at h;cases h
theorem GD{α:Type}{xs:List α}{i:Int}{v:α}(h:atI xs i=some v):∃j,seqIndex? i xs.length=some j/\xs[j]?=some v/\j<xs.length/\-(xs.length:Int)<=i/\i<xs.length:=by
 unfold atI at h
 cases e:ixN xs.length i with
 | none=>rw[e] at h;cases h
 | some j =>
  rw[e] at h
  obtain⟨h1,h2,h3,h4⟩:=PP e
  exact⟨j,h1,h,h2,h3,h4⟩
theorem gC{α:Type}{xs:List α}{j:Nat}{v:α}(h:xs[j]?=some v):atI xs (j:Int)=some v:=by
 have hj:j<xs.length:=(List.getElem?_eq_some_iff.mp h).1
 have e:ixN xs.length (j:Int)=some j:=by
  unfold ixN
  rw[if_pos (by omega),if_pos (by omega)];simp
 unfold atI;rw[e];exact h
def Gv(b:Expr):Prop:=∀o i,subscripted b false o i=operate [o,i] (getItem o i)
def IxR(X:Cx)(r:R2):Prop :=
 ∀(value slice:Expr)(pins:List (Addr×Obj))(s:Shared)(σ:St)(H:Hp)(x y:V)(v u:Value)(Q:VK),Inv X pins σ H s->RelV x v->RelV y u->r x y H Q ->
  subscripted slice false v u=operate [v,u] (getItem v u)->wpAny (model X.prog X.w) X.A (subscriptTail value slice v u) (EP X pins σ Q) X.xe s
def MtR(X:Cx)(id:String)(r:V->List V->Hp->VK->Prop):Prop :=
 ∀(pins:List (Addr×Obj))(s:Shared)(σ:St)(H:Hp)(x:V)(xs:List V)(v:Value)(us:List Value)(Q:VK),Inv X pins σ H s->RelV x v->Vals xs us->r x xs H Q ->
  wpAny (model X.prog X.w) X.A (call (.builtin id) (v::us)) (EP X pins σ Q) X.xe s
section
variable{X:Cx}{a b:Expr}{ta tb:TE}{pos:Pos}
theorem IxR.or{r r':R2}(h:IxR X r)(h':IxR X r'):IxR X (λx y H Q=>r x y H Q∨r' x y H Q):=by
 intro value slice pins s σ H x y v u Q I rx ry q hs
 rcases q with q | q
 .exact h value slice pins s σ H x y v u Q I rx ry q hs
 .exact h' value slice pins s σ H x y v u Q I rx ry q hs
theorem pe_ix{r:R2}(hr:IxR X r)(ha:PE X a ta)(hb:PE X b tb)(hs:Gv b):PE X (.Subscript a b pos) (tOp r ta tb):=by
 intro pins s σ H Q I h
 exact Subscript_ (binT ha hb I h λv u s2 x y H2 I2 rx ry q=>hr a b pins s2 σ H2 x y v u Q I2 rx ry q (hs _ _))
def rIxL(K:Frag):R2:=λx y H Q=>∃p xs i v,x=.ref p/\y=.int i/\SqL K H p xs/\atI xs i=some v/\Q v H
def rIxT(K:Frag):R2:=λx y H Q=>∃p xs i v,x=.ref p/\y=.int i/\SqT K H p xs/\atI xs i=some v/\Q v H
def rIxS:R2:=λx y H Q=>∃z i c,x=.str z/\y=.int i/\z.length<=sizeLine/\atI z.cps.toList i=some c/\Q (.str ⟨#[c]⟩) H
theorem ix_list:IxR X (rIxL X.K):=by
 intro value slice pins s σ H x y v u Q I rx ry h hs
 obtain⟨p,xs,i,z,rfl,rfl,hq,he,q⟩:=h
 cases rx
 obtain⟨t,rfl⟩:=ry
 obtain⟨its,r,pl,hz⟩:=I.list hq
 obtain⟨j,h1,h2,h3,h4,h5⟩:=GD he
 obtain⟨w,ew,rw'⟩:=r.get h2
 have hl:=r.length
 have hn:=uY
 have fin:EP X pins σ Q w s:=⟨z,H,I,rw',q⟩
 by_cases h0:0<=i
 .have hj:i.toNat=j:=by
   rw[seqIndex_of h0 h5] at h1
   exact Option.some.inj h1
  exact item_listR pl.isList h0 (by omega) (by rw[hj];simpa using ew) fin hs
 .have hj:(i+(its.toArray.size:Int)).toNat=j:=by
   rw[seqIndex_neg (by omega) h4] at h1
   rw[List.size_toArray,←hl]
   exact Option.some.inj h1
  exact subscriptTail_builtinR (x:=w) pl.isList.typeIs slot_list_getitem.lookup
   (wpAny_getItem_list_neg (Q:=λr s'=>r=w/\EP X pins σ Q r s') pl.isList (by omega) (by rw[List.size_toArray] <;> omega) (by omega) (by rw[hj];simpa using ew) ⟨rfl,fin⟩) hs
theorem ix_tup:IxR X (rIxT X.K):=by
 intro value slice pins s σ H x y v u Q I rx ry h hs
 obtain⟨p,xs,i,z,rfl,rfl,hq,he,q⟩:=h
 cases rx
 obtain⟨t,rfl⟩:=ry
 obtain⟨its,r,pl,hz⟩:=I.tuple hq
 obtain⟨j,h1,h2,h3,h4,h5⟩:=GD he
 obtain⟨w,ew,rw'⟩:=r.get h2
 have hl:=r.length
 have hn:=uY
 have fin:EP X pins σ Q w s:=⟨z,H,I,rw',q⟩
 exact subscriptTail_builtinR (x:=w) pl.typeIs slot_tuple_getitem.lookup
  (getItem_tuple (j:=j) (Q:=λr s'=>r=w/\EP X pins σ Q r s') pl (by omega) (by omega) (by rw[List.size_toArray,←hl];exact h1) (by simpa using ew) ⟨rfl,fin⟩) hs
theorem ix_str:IxR X rIxS:=by
 intro value slice pins s σ H x y v u Q I rx ry h hs
 obtain⟨z,i,c,rfl,rfl,hz,he,q⟩:=h
 obtain⟨t,rfl⟩:=rx
 obtain⟨t',rfl⟩:=ry
 obtain⟨j,h1,h2,h3,h4,h5⟩:=GD he
 have hl:z.cps.toList.length=z.length:=by simp[Str.length]
 rw[hl] at h1 h4 h5
 have hn:=uY
 exact tail_any (typeIs_str s z t) slot_str_getitem.lookup (getItem_str (c:=c) (by
  have e1:decide (i < -(2 ^ 63:Int))=false:=decide_eq_false (by omega)
  have e2:decide (i≥2 ^ 63)=false:=decide_eq_false (by omega)
  rw[e1,e2,Bool.or_false]) (by rw[h1];simpa using h2) ⟨.str ⟨#[c]⟩,H,I.tok _,⟨_,rfl⟩,q⟩) hs
def rIx(K:Frag):R2:=λx y H Q=>rIxL K x y H Q∨rIxT K x y H Q∨rIxS x y H Q
theorem ix_seq:IxR X (rIx X.K):=ix_list.or (ix_tup.or ix_str)
theorem Oe(its:List Value)(n j:Nat)(u:Value):Obj.mapSeq (·.setIfInBounds j u) { cls:=.type "list",data:=.seq its.toArray n }={ cls:=.type "list",data:=.seq (its.set j u).toArray n }:=by
 simp[Obj.mapSeq]
theorem Inv.lst{pins:List (Addr×Obj)}{σ:St}{H:Hp}{s:Shared}{p:Addr}{xs:List V}(I:Inv X pins σ H s)(h:H p=some (.lst xs)):
  ∃(its:List Value)(n:Nat),Vals xs its/\s.heap.get? p=some { cls:=.type "list",data:=.seq its.toArray n }/\xs.length<=sizeLine:=by
 obtain⟨z,its,n,r,e⟩:=I.hok p _ h
 exact⟨its,n,r,e,z⟩
theorem Inv.lstUpd{pins:List (Addr×Obj)}{σ:St}{H:Hp}{s:Shared}{p:Addr}{xs ys:List V}{its its':List Value}{n n':Nat}{f:Obj->Obj}(I:Inv X pins σ H s)(h:H p=some (.lst xs))
  (ho:s.heap.get? p=some { cls:=.type "list",data:=.seq its.toArray n }) (hf:f { cls:=.type "list",data:=.seq its.toArray n }={ cls:=.type "list",data:=.seq its'.toArray n' }) (r:Vals ys its') (hz:ys.length<=sizeLine) (t:Nat) :
  Inv X pins σ (upd H p (.lst ys)) { s with heap:=s.heap.update p f,toks:=t }:=by
 have e:(s.heap.update p f).get? p=some { cls:=.type "list",data:=.seq its'.toArray n' }:=by
  rw[Heap.get?_update_self f ho (by rw[hf] <;> rfl),hf]
 refine I.write (x:=p) (e:=p) (by rw[h];trivial) (.inl rfl) (λb u hb q=>(Heap.get?_update_other _ _ (Ne.symm hb)).trans q) ⟨_,e⟩ ?_
 exact⟨hz,its',n',r,e⟩
def rSetL:V->V->V->Hp->(Hp->Prop)->Prop:=λo i v H Q=>∃p xs k j,o=.ref p/\i=.int k/\H p=some (.lst xs)/\ixN xs.length k=some j/\Q (upd H p (.lst (xs.set j v)))
theorem set_list:PSet X rSetL:=by
 intro pins s σ H o i v ov iv u Q I ro ri rv h
 obtain⟨p,xs,k,j,rfl,rfl,hp,hj,q⟩:=h
 cases ro
 obtain⟨t,rfl⟩:=ri
 obtain⟨its,n,r,ho,hz⟩:=I.lst hp
 obtain⟨h1,h2,h3,h4⟩:=PP hj
 have hl:=r.length
 have hn:=uY
 have I':Inv X pins σ (upd H p (.lst (xs.set j v))) { s with heap:=s.heap.update p (Obj.mapSeq (·.setIfInBounds j u)) } :=
  I.lstUpd hp ho (Oe its n j u) (r.set rv j) (by rw[List.length_set];exact hz) s.toks
 by_cases h0:0<=k
 .have hk:k.toNat=j:=by
   rw[seqIndex_of h0 h4] at h1
   exact Option.some.inj h1
  exact PySem.W.ki_setAt ho h0 (by omega) (by rw[List.size_toArray,←hl];exact h4) (by rw[hk];exact⟨_,I',q⟩)
 .have hk:(k+(its.toArray.size:Int)).toNat=j:=by
   rw[seqIndex_neg (by omega) h3] at h1
   rw[List.size_toArray,←hl]
   exact Option.some.inj h1
  exact PySem.W.ki_setBack ho (by omega) (by rw[List.size_toArray,←hl];exact h3) (by omega) (by rw[hk];exact⟨_,I',q⟩)
theorem Js(lo hi:Option Int)(n:Nat):(sliceBounds lo hi none n).1=((HT.sIx n 0 lo:Nat):Int)/\(sliceBounds lo hi none n).2.1=((HT.sIx n n hi:Nat):Int)/\(sliceBounds lo hi none n).2.2=1:=by
 refine⟨?_,?_,rfl⟩
 .cases lo with
  | none=>simp[sliceBounds,HT.sIx]
  | some i =>
   simp only[sliceBounds,HT.sIx,Option.getD_none,show (1:Int)>0 by decide,if_true]
   by_cases h:i<0
   .simp only[h,if_true] <;> omega
   .simp only[h,if_false] <;> omega
 .cases hi with
  | none=>simp[sliceBounds,HT.sIx]
  | some i =>
   simp only[sliceBounds,HT.sIx,Option.getD_none,show (1:Int)>0 by decide,if_true]
   by_cases h:i<0
   .simp only[h,if_true] <;> omega
   .simp only[h,if_false] <;> omega
theorem Ef(its:List Value)(lo hi:Option Int):slicePick its.toArray lo hi none=((its.drop (HT.sIx its.length 0 lo)).take (HT.sIx its.length its.length hi - HT.sIx its.length 0 lo)).toArray:=by
 obtain⟨h1,h2,h3⟩:=Js lo hi its.toArray.size
 unfold slicePick
 rw[h1,h2,h3]
 simp only[sliceRange_one,pick_run,List.size_toArray] <;> rfl
def rSlL(K:Frag):V->Option Int->Option Int->Hp->VK->Prop:=λx lo hi H Q=>∃a xs,x=.ref a/\SqL K H a xs/\∀p,H p=none->Q (.ref p) (upd H p (.lst (cutV xs lo hi)))
theorem sl_list:SlR X (rSlL X.K):=by
 intro pins s σ H x v vl vu lo hi sl Q I rx hs pl pu h
 obtain⟨a,xs,rfl,hx,q⟩:=h
 cases rx
 obtain⟨its,r,ht,hz⟩:=I.list hx
 have hlen:=r.length
 refine⟨"list",_,slot_list_getitem.lookup,ht.isList.typeIs,?_⟩
 refine wpAny_getItem_list_slice ht.isList hs pl pu .none (by simp) ?_ (by rw[List.size_toArray] <;> omega)
 rw[Ef,←hlen]
 refine⟨.ref s.heap.objs.size,_,I.laid (t':=s.toks) (o:=.lst (cutV xs lo hi)) (λb ob q=>Heap.get?_push_of_some _ q) (Nat.le_refl _) ?_,rfl,q _ (I.hok.fresh (Nat.le_refl _))⟩
 exact⟨Nat.le_trans (J9 xs lo hi) hz,_,0,(r.drop (HT.sIx xs.length 0 lo)).take (HT.sIx xs.length xs.length hi - HT.sIx xs.length 0 lo),Heap.get?_push_size _ rfl⟩
def pP:V->Bool
 | .non=>true
 | .bl _=>true
 | .int _=>true
 | .str _=>true
 | _=>false
def eqV:V->V->Bool
 | .non,.non=>true
 | .bl a,.bl b=>a==b
 | .bl a,.int b=>(if a then 1 else 0)==b
 | .int a,.bl b=>a==(if b then 1 else 0)
 | .int a,.int b=>a==b
 | .str a,.str b=>a==b
 | _,_=>false
theorem eqAt_V{A:Around}{s:Shared}{y x:V}{u v:Value}(ry:RelV y u)(rx:RelV x v)(fy:pP y=true)(fx:pP x=true):SeqAt.EqAt A s u v (eqV y x):=by
 cases y with
 | non =>
  cases ry
  cases x with
  | non=>cases rx;exact SeqAt.EqAt.same _
  | bl b=>cases rx;exact SeqAt.EqAt.none_bool b
  | int b=>obtain⟨t,rfl⟩:=rx;exact SeqAt.EqAt.none_int b t
  | str b=>obtain⟨t,rfl⟩:=rx;exact SeqAt.EqAt.none_str b t
  | _=>exact absurd (show false=true from fx) Bool.false_ne_true
 | bl a =>
  cases ry
  cases x with
  | non=>cases rx;exact SeqAt.EqAt.bool_none a
  | bl b=>cases rx;exact SeqAt.EqAt.bool_bool a b
  | int b=>obtain⟨t,rfl⟩:=rx;exact SeqAt.EqAt.bool_int a b t
  | str b=>obtain⟨t,rfl⟩:=rx;exact SeqAt.EqAt.bool_str a b t
  | _=>exact absurd (show false=true from fx) Bool.false_ne_true
 | int a =>
  obtain⟨t',rfl⟩:=ry
  cases x with
  | non=>cases rx;exact SeqAt.EqAt.int_none a t'
  | bl b=>cases rx;exact SeqAt.EqAt.int_bool a t' b
  | int b=>obtain⟨t,rfl⟩:=rx;exact SeqAt.EqAt.int_int a t' b t
  | str b=>obtain⟨t,rfl⟩:=rx;exact SeqAt.EqAt.int_str a t' b t
  | _=>exact absurd (show false=true from fx) Bool.false_ne_true
 | str a =>
  obtain⟨t',rfl⟩:=ry
  cases x with
  | non=>cases rx;exact SeqAt.EqAt.str_none a t'
  | bl b=>cases rx;exact SeqAt.EqAt.str_bool a t' b
  | int b=>obtain⟨t,rfl⟩:=rx;exact SeqAt.EqAt.str_int a t' b t
  | str b=>obtain⟨t,rfl⟩:=rx;exact SeqAt.EqAt.str_str a t' b t
  | _=>exact absurd (show false=true from fx) Bool.false_ne_true
 | _=>exact absurd (show false=true from fy) Bool.false_ne_true
def eqU(x:V)(u:Value):Bool:=match u with
 | .none=>eqV .non x
 | .bool b=>eqV (.bl b) x
 | .int i _=>eqV (.int i) x
 | .str z _=>eqV (.str z) x
 | _=>false
theorem eqU_of{x y:V}{u:Value}(r:RelV y u)(f:pP y=true):eqU x u=eqV y x:=by
 cases y with
 | non=>cases r;rfl
 | bl b=>cases r;rfl
 | int i=>obtain⟨t,rfl⟩:=r;rfl
 | str z=>obtain⟨t,rfl⟩:=r;rfl
 | _=>exact absurd (show false=true from f) Bool.false_ne_true
theorem vN{x:V}:∀{xs:List V}{us:List Value},Vals xs us->xs.all pP=true->us.any (eqU x)=xs.any λy=>eqV y x
 | _,_,.nil,_=>rfl
 | y::xs,u::us,.cons r t,f=>by
  rw[List.all_cons,Bool.and_eq_true] at f
  rw[List.any_cons,List.any_cons,eqU_of r f.1,vN t f.2]
theorem rT{A:Around}{s:Shared}{x:V}{v:Value}(rx:RelV x v)(fx:pP x=true):∀{xs:List V}{us:List Value},Vals xs us->xs.all pP=true->∀u∈us,SeqAt.EqAt A s u v (eqU x u)
 | _,_,.nil,_=>λu hu=>by cases hu
 | y::xs,u::us,.cons r t,f=>λu' hu=>by
  rw[List.all_cons,Bool.and_eq_true] at f
  rcases List.mem_cons.mp hu with rfl | hu
  .rw[eqU_of r f.1];exact eqAt_V r rx f.1 fx
  .exact rT rx fx t f.2 u' hu
def inV(x:V)(xs:List V):Bool:=xs.any λy=>eqV y x
def rIn(K:Frag)(neg:Bool):R2:=λx y H Q=>∃p xs,y=.ref p/\(SqL K H p xs∨SqT K H p xs)/\pP x=true/\xs.all pP=true/\Q (.bl (if neg then !inV x xs else inV x xs)) H
theorem Fv:OpR X (compareOp .In) (rIn X.K false):=by
 intro pins s σ H x y v u Q I rx ry h
 obtain⟨p,xs,rfl,hq,fx,fs,q⟩:=h
 cases ry
 rcases hq with hq | hq
 .obtain⟨its,r,pl,hz⟩:=I.list hq
  refine SeqAt.in_listAt (eqU x) pl.isList (λw hw=>rT rx fx r fs w (by simpa using hw)) ⟨.bl _,H,I,rfl,?_⟩
  rw[show its.toArray.any (eqU x)=its.any (eqU x) by simp,vN r fs]
  exact q
 .obtain⟨its,r,pl,hz⟩:=I.tuple hq
  refine SeqAt.in_tupleAt (eqU x) pl (λw hw=>rT rx fx r fs w (by simpa using hw)) ⟨.bl _,H,I,rfl,?_⟩
  rw[show its.toArray.any (eqU x)=its.any (eqU x) by simp,vN r fs]
  exact q
theorem IV:OpR X (compareOp .NotIn) (rIn X.K true):=by
 intro pins s σ H x y v u Q I rx ry h
 obtain⟨p,xs,rfl,hq,fx,fs,q⟩:=h
 cases ry
 rcases hq with hq | hq
 .obtain⟨its,r,pl,hz⟩:=I.list hq
  refine SeqAt.notIn_listAt (eqU x) pl.isList (λw hw=>rT rx fx r fs w (by simpa using hw)) ⟨.bl _,H,I,rfl,?_⟩
  rw[show its.toArray.any (eqU x)=its.any (eqU x) by simp,vN r fs]
  exact q
 .obtain⟨its,r,pl,hz⟩:=I.tuple hq
  refine SeqAt.notIn_tupleAt (eqU x) pl (λw hw=>rT rx fx r fs w (by simpa using hw)) ⟨.bl _,H,I,rfl,?_⟩
  rw[show its.toArray.any (eqU x)=its.any (eqU x) by simp,vN r fs]
  exact q
theorem Hd:jo X (.builtin "len") (λxs H Q=>∃p ys,xs=[.ref p]/\(SqL X.K H p ys∨SqT X.K H p ys)/\Q (.int ys.length) H):=by
 intro pins s σ H xs us Q I r h
 obtain⟨p,ys,rfl,hq,q⟩:=h
 obtain⟨u,rfl,rx⟩:=vals1 r
 cases rx
 have hn:=uY
 rcases hq with hq | hq
 .obtain⟨its,r',pl,hz⟩:=I.list hq
  have hlen:=r'.length
  exact Calls.call_len_list pl.isList (by simp only[List.size_toArray] <;> omega) ⟨.int ys.length,H,I.tok _,⟨s.toks+1,by rw[List.size_toArray,hlen]⟩,q⟩
 .obtain⟨its,r',pl,hz⟩:=I.tuple hq
  have hlen:=r'.length
  exact len_tuple pl (by simp only[List.size_toArray] <;> omega) ⟨.int ys.length,H,I.tok _,⟨s.toks+1,by rw[List.size_toArray,hlen]⟩,q⟩
theorem Hf:jo X (.builtin "len") (λxs H Q=>∃z,xs=[.str z]/\z.length<=sizeLine/\Q (.int z.length) H):=by
 intro pins s σ H xs us Q I r h
 obtain⟨z,rfl,hz,q⟩:=h
 obtain⟨u,rfl,t,rfl⟩:=vals1 r
 have hn:=uY
 exact len_str (by omega) ⟨.int z.length,H,I.tok _,⟨_,rfl⟩,q⟩
theorem jo.or{f:Value}{r r':List V->Hp->VK->Prop}(h:jo X f r)(h':jo X f r'):jo X f (λxs H Q=>r xs H Q∨r' xs H Q):=by
 intro pins s σ H xs us Q I rs q
 rcases q with q | q
 .exact h pins s σ H xs us Q I rs q
 .exact h' pins s σ H xs us Q I rs q
theorem vP:jo X (.type "list") (λxs H Q=>∃p ys,xs=[.ref p]/\(SqL X.K H p ys∨SqT X.K H p ys)/\∀l,H l=none->Q (.ref l) (upd H l (.lst ys))):=by
 intro pins s σ H xs us Q I r h
 obtain⟨p,ys,rfl,hq,q⟩:=h
 obtain⟨u,rfl,rx⟩:=vals1 r
 cases rx
 have fin:∀(its:List Value),Vals ys its->ys.length<=sizeLine->∀(h':Heap)(c':Nat),(∀b o',s.heap.get? b=some o'->h'.get? b=some o') ->
   h'.get? s.heap.objs.size=some { cls:=.type "list",dict:=none,data:=.seq its.toArray c',slots:=#[] }->EP X pins σ Q (.ref s.heap.objs.size) { s with heap:=h' }:=λits r' hz h' c' kp e =>
  ⟨.ref s.heap.objs.size,_,I.laid (t':=s.toks) kp (Nat.le_refl _) (show cL X.prog X.w _ h' _ (.lst ys) from ⟨hz,its,c',r',e⟩),rfl,q _ (I.hok.fresh (Nat.le_refl _))⟩
 rcases hq with hq | hq
 .obtain⟨its,r',pl,hz⟩:=I.list hq
  have hlen:=r'.length
  obtain⟨o,ho,hc,n,hd⟩:=pl.isList
  exact call_list_seq p (.inl rfl) ho hc hd (λh' c' kp e=>fin its r' hz h' c' kp e) (by simp only[List.size_toArray] <;> omega)
 .obtain⟨its,r',pl,hz⟩:=I.tuple hq
  have hlen:=r'.length
  obtain⟨o,ho,hc,n,hd⟩:=pl
  exact call_list_seq p (.inr rfl) ho hc hd (λh' c' kp e=>fin its r' hz h' c' kp e) (by simp only[List.size_toArray] <;> omega)
theorem Dp:jo X (.type "tuple") (λxs H Q=>∃p ys,xs=[.ref p]/\((SqL X.K H p ys/\∀l,H l=none->Q (.ref l) (upd H l (.tup ys)))∨(SqT X.K H p ys/\Q (.ref p) H))):=by
 intro pins s σ H xs us Q I r h
 obtain⟨p,ys,rfl,h⟩:=h
 obtain⟨u,rfl,rx⟩:=vals1 r
 cases rx
 rcases h with⟨hq,q⟩| ⟨hq,q⟩
 .obtain⟨its,r',pl,hz⟩:=I.list hq
  have hlen:=r'.length
  refine call_tuple_list pl.isList (λh' kp=>?_) (by simp only[List.size_toArray] <;> omega)
  have I1:Inv X pins σ H { s with heap:=h' }:=I.kept (t':=s.toks) kp
  have I2:Inv X pins σ (upd H h'.objs.size (.tup ys)) { s with heap:=h'.push { cls:=.type "tuple",data:=.seq its.toArray } } :=
   I1.laid (t':=s.toks) (λb o e=>Heap.get?_push_of_some _ e) (Nat.le_refl _) (show cL X.prog X.w _ _ _ (.tup ys) from ⟨hz,its,r',IsTup.new _ _⟩)
  exact⟨.ref h'.objs.size,_,I2,rfl,q _ (I1.hok.fresh (Nat.le_refl _))⟩
 .obtain⟨its,r',pl,hz⟩:=I.tuple hq
  exact call_tuple_same pl ⟨.ref p,H,I,rfl,q⟩
def tyV(K:Frag)(T:String)(x:V)(H:Hp):Prop:=match x with
 | .str _=>T="str"
 | .int _=>T="int"
 | .ref p=>(T="list"/\∃xs,SqL K H p xs)∨(T="tuple"/\∃o,K.lookup p=some o/\o.cls=.type "tuple"/\o.dict=none) ∨
   (T="dict"/\((∃kvs,H p=some (.dK kvs))∨∃kvs,H p=some (.dT kvs)))∨(T="set"/\∃S n,H p=some (.set S n))
 | _=>False
theorem tyV_is{pins:List (Addr×Obj)}{σ:St}{H:Hp}{s:Shared}{T:String}{x:V}{v:Value}(I:Inv X pins σ H s)(r:RelV x v)(ty:tyV X.K T x H):
  s.TypeIs v T/\∀a,v=.ref a->∃ob,s.heap.get? a=some ob/\ob.dict=none:=by
 cases x with
 | str z =>
  obtain⟨t,rfl⟩:=r
  cases (show T="str" from ty)
  exact⟨typeIs_str s z t,λ_ e=>nomatch e⟩
 | int i =>
  obtain⟨t,rfl⟩:=r
  cases (show T="int" from ty)
  exact⟨typeIs_int s i t,λ_ e=>nomatch e⟩
 | ref p =>
  cases r
  rcases ty with⟨rfl,xs,hq⟩| ⟨rfl,o,hk,hc,hd⟩| ⟨rfl,hk⟩| ⟨rfl,S,n,hk⟩
  .obtain⟨its,_,pl,_⟩:=I.list hq
   refine⟨pl.isList.typeIs,λa e=>?_⟩
   cases e
   obtain⟨o,n,e,c,hd,_⟩:=pl
   exact⟨o,e,hd⟩
  .refine⟨⟨o,I.kIn p o hk,hc⟩,λa e=>?_⟩
   cases e
   exact⟨o,I.kIn _ o hk,hd⟩
  .have z:∃o,s.heap.get? p=some o/\o.ExactDict:=by
    rcases hk with⟨kvs,hk⟩| ⟨kvs,hk⟩
    .obtain⟨_,_,_,_,o,_,_,e,ex,_⟩:=I.hok p _ hk
     exact⟨o,e,ex⟩
    .obtain⟨_,_,_,_,o,_,_,e,ex,_⟩:=I.hok p _ hk
     exact⟨o,e,ex⟩
   obtain⟨o,e,ex⟩:=z
   refine⟨⟨o,e,ex.1⟩,λa e2=>?_⟩
   cases e2
   exact⟨o,e,ex.2.1⟩
  .obtain⟨o,_,_,_,e,ex,_⟩:=I.hok p _ hk
   refine⟨⟨o,e,ex.1⟩,λa e2=>?_⟩
   cases e2
   exact⟨o,e,ex.2.1⟩
 | _=>exact False.elim ty
def tBM(K:Frag)(T:String)(r:V->List V->Hp->VK->Prop)(to:TE)(t:TA):TE:=λσ H Q=>to σ H λx H1=>tyV K T x H1/\t σ H1 λxs H2=>r x xs H2 Q
variable{o e:Expr}{es:List Expr}{to:TE}{t:TA}{name:Str}{apos cpos:Pos}{T id:String}{r:V->List V->Hp->VK->Prop}
theorem gR(pa:PlainAttrs T)(slot:Slot T name id)(hty:typeOf (.builtin id)=pure (.type "method_descriptor"))(hm:MtR X id r)(ho:PE X o to)(ha:PA X (e::es) t)
  (hbase:attributeBase o name X.env (eval o X.env)=eval o X.env:=by rfl)
  (hfew:((backTo cpos (starEach (e::es) X.env)).all (λx=>!x.1) && (backToKw cpos (keywordEach [] X.env)).all (λx=>x.1.isSome)
   && decide ((e::es).length+([]:List Keyword).length+(if ([]:List Keyword).isEmpty then 0 else 1)<30))=true:=by rfl)
  (hline:(apos.endLine==cpos.line)=true:=by rfl) (hs:starEach (e::es) X.env=(false,eval e X.env)::starEach es X.env:=by rfl) (hplain:(backTo cpos (starEach es X.env)).any (·.1)=false:=by rfl) :
  PE X (.Call (.Attribute o name apos) (e::es) [] cpos) (tBM X.K T r to t):=by
 intro pins s σ H Q I h
 refine wpAny_Call_method_late hbase hfew hline rfl (thn (ho pins s σ H _ I h) λv s1 ⟨x,H1,I1,r1,ty,q1⟩=>?_)
 obtain⟨h1,h2⟩:=tyV_is I1 r1 ty
 refine⟨T,id,pa,slot,hty,h1,h2,?_⟩
 have hA:=ha cpos pins s1 σ H1 _ I1 q1
 rw[hs] at hA ⊢
 refine Calls.callWith_builtin (by show (false || (backTo cpos (starEach es X.env)).any (·.1))=false;rw[hplain] <;> rfl) (Calls.evalArgs_plain ?_)
 exact thn hA λus s2 ⟨vs,H2,I2,r2,q2⟩=>hm pins s2 σ H2 x vs v us Q I2 r1 r2 q2
end
end L2
namespace L2
open PySem PySem.Spec PyProof.Rows
def MtM(X:Cx)(id:String)(r:V->List V->Hp->VK->Prop):Prop :=
 ∀(pins:List (Addr×Obj))(s:Shared)(σ:St)(H:Hp)(x:V)(xs:List V)(v:Value)(us:List Value)(Q:VK),Inv X pins σ H s->RelV x v->Vals xs us->r x xs H Q ->
  wpAny (model X.prog X.w) X.A (call (.builtin id) (v::us)) (EP X pins σ Q) X.xe s
theorem Vals.one:∀{x:V}{us:List Value},Vals [x] us->∃u,us=[u]/\RelV x u
 | _,_,.cons r .nil=>⟨_,rfl,r⟩
theorem Vals.rep{xs:List V}{us:List Value}(h:Vals xs us):∀k:Nat,Vals (List.replicate k xs).flatten (List.replicate k us).flatten
 | 0=>.nil
 | k+1=>by
  rw[List.replicate_succ,List.replicate_succ,List.flatten_cons,List.flatten_cons]
  exact Vals.append h (Vals.rep h k)
theorem foldl_rep(its:List Value):∀(k:Nat)(acc:List Value),
  List.foldl (λx1 x2=>x1++x2) acc.toArray (List.replicate k its.toArray)=(acc++(List.replicate k its).flatten).toArray
 | 0,acc=>by simp
 | k+1,acc=>by
  have e:acc.toArray++its.toArray=(acc++its).toArray:=by simp
  have e2:(acc++its)++(List.replicate k its).flatten=acc++(List.replicate (k+1) its).flatten:=by
   rw[List.replicate_succ,List.flatten_cons,List.append_assoc]
  rw[←e2,←foldl_rep its k (acc++its),←e,List.replicate_succ,List.foldl_cons]
section
variable{X:Cx}{pins:List (Addr×Obj)}{σ:St}{H:Hp}{s:Shared}{l b:Addr}{xs ys zs:List V}
theorem Inv.lset{its its':List Value}{n:Nat}{f:Array Value->Array Value}{t':Nat}(I:Inv X pins σ H s)(hH:H l=some (.lst xs))
  (e:s.heap.get? l=some { cls:=.type "list",data:=.seq its.toArray n }) (hf:f its.toArray=its'.toArray) (hv:Vals ys its') (hz:ys.length<=sizeLine) :
  Inv X pins σ (upd H l (.lst ys)) { s with heap:=s.heap.update l (Obj.mapSeq f),toks:=t' }:=by
 have q:=PySem.IsL.update e f
 rw[hf] at q
 refine I.write (x:=l) (e:=l) (by rw[hH];exact trivial) (.inl rfl) (λb' u hb hu=>(Heap.get?_update_other s.heap (Obj.mapSeq f) (Ne.symm hb)).trans hu) ⟨_,q⟩ ?_
 exact⟨hz,its',_,hv,q⟩
theorem Inv.lnew{its:List Value}{t':Nat}(I:Inv X pins σ H s)(hv:Vals ys its)(hz:ys.length<=sizeLine):
  Inv X pins σ (upd H s.heap.objs.size (.lst ys)) { s with heap:=s.heap.push { cls:=.type "list",data:=.seq its.toArray },toks:=t' } :=
 I.laid (λ_ _ q=>Heap.get?_push_of_some _ q) (Nat.le_refl _) ⟨hz,its,0,hv,Heap.get?_push_size _ rfl⟩
theorem Inv.fresh(I:Inv X pins σ H s):H s.heap.objs.size=none:=I.hok.fresh (Nat.le_refl _)
theorem Inv.lstM(I:Inv X pins σ H s)(hH:H l=some (.lst xs)):xs.length<=sizeLine/\∃(its:List Value)(n:Nat),Vals xs its/\xs.length=its.length/\s.heap.get? l=some { cls:=.type "list",data:=.seq its.toArray n }:=by
 obtain⟨z,its,n,r,e⟩:=I.hok l _ hH
 exact⟨z,its,n,r,r.length,e⟩
theorem Lh{n:Nat}(h:n<=sizeLine):Builtin.List.listTooLong n=false:=by
 unfold Builtin.List.listTooLong
 exact decide_eq_false (by omega)
end
section
variable{X:Cx}
def Jc:V->List V->Hp->VK->Prop:=λx vs H Q=>∃l xs y,x=.ref l/\vs=[y]/\H l=some (.lst xs)/\xs.length<sizeLine/\Q .non (upd H l (.lst (xs++[y])))
theorem Fq:MtM X "list.append" Jc:=by
 intro pins s σ H x vs v us Q I rx rv h
 obtain⟨l,xs,y,rfl,rfl,hH,hz,q⟩:=h
 cases rx
 obtain⟨u,rfl,ru⟩:=rv.one
 obtain⟨z,its,n,r,hl,e⟩:=I.lstM hH
 refine call_meets F.slot_list_append ⟨_,e,rfl⟩ F.entry_list_append (F.args_list_append_2 _ _) (PySem.list_append l its.toArray n u (by rw[List.size_toArray];omega)) ⟨e,?_⟩
 refine⟨.non,_,I.lset (its':=its++[u]) hH e (by simp) (r.append (.cons ru .nil)) ?_,rfl,q⟩
 rw[List.length_append,List.length_singleton]
 omega
def Qm:V->List V->Hp->VK->Prop:=λx vs H Q=>∃l b xs zs,x=.ref l/\vs=[.ref b]/\H l=some (.lst xs)/\H b=some (.lst zs)/\xs.length+zs.length<=sizeLine/\Q .non (upd H l (.lst (xs++zs)))
theorem Rc:MtM X "list.extend" Qm:=by
 intro pins s σ H x vs v us Q I rx rv h
 obtain⟨l,b,xs,zs,rfl,rfl,hH,hB,hz,q⟩:=h
 cases rx
 obtain⟨u,rfl,ru⟩:=rv.one
 cases ru
 obtain⟨z,its,n,r,hl,e⟩:=I.lstM hH
 obtain⟨z2,its2,n2,r2,hl2,e2⟩:=I.lstM hB
 have hsz:its.toArray.size+its2.toArray.size<=sizeLine:=by rw[List.size_toArray,List.size_toArray];omega
 have hlong:¬(!its.toArray.isEmpty && Builtin.List.listTooLong (its.toArray.size+its2.toArray.size))=true:=by
  rw[Lh hsz,Bool.and_false]
  exact Bool.false_ne_true
 refine call_meets F.slot_list_extend ⟨_,e,rfl⟩ F.entry_list_extend (F.args_list_extend_2 _ _)
  (AutoSeq1.list_extend_list_list_0 l its.toArray n b its2.toArray n2 hlong (by rw[List.size_toArray];omega) (by omega)) ⟨e,e2,?_⟩
 refine⟨.non,_,I.lset (its':=its++its2) hH e (by simp) (r.append r2) ?_,rfl,q⟩
 rw[List.length_append]
 omega
def rCat:R2:=λx y H Q=>∃l b xs zs,x=.ref l/\y=.ref b/\H l=some (.lst xs)/\H b=some (.lst zs)/\xs.length+zs.length<=sizeLine/\∀p,H p=none->Q (.ref p) (upd H p (.lst (xs++zs)))
theorem op_cat:OpR X (binaryOp .Add) rCat:=by
 intro pins s σ H x y v u Q I rx ry h
 obtain⟨l,b,xs,zs,rfl,rfl,hH,hB,hz,q⟩:=h
 cases rx
 cases ry
 obtain⟨z,its,n,r,hl,e⟩:=I.lstM hH
 obtain⟨z2,its2,n2,r2,hl2,e2⟩:=I.lstM hB
 refine PySem.P.add_list e e2 ?_ (by rw[List.size_toArray,List.size_toArray];omega)
 have ea:its.toArray++its2.toArray=(its++its2).toArray:=by simp
 rw[ea]
 exact⟨.ref _,_,I.lnew (t':=s.toks) (r.append r2) (by rw[List.length_append];omega),rfl,q _ I.fresh⟩
def rRep:R2:=λx y H Q=>∃l k xs,x=.ref l/\y=.int k/\H l=some (.lst xs)/\-(2 ^ 63)<=k/\k<2 ^ 63/\xs.length*k.toNat<=sizeLine /\
 ∀p,H p=none->Q (.ref p) (upd H p (.lst (List.replicate k.toNat xs).flatten))
theorem len_rep{α:Type}(xs:List α)(k:Nat):(List.replicate k xs).flatten.length=k*xs.length:=by
 induction k with
 | zero=>simp
 | succ k ih=>rw[List.replicate_succ,List.flatten_cons,List.length_append,ih,Nat.succ_mul,Nat.add_comm]
theorem op_rep:OpR X (binaryOp .Mult) rRep:=by
 intro pins s σ H x y v u Q I rx ry h
 obtain⟨l,k,xs,rfl,rfl,hH,h1,h2,hz,q⟩:=h
 cases rx
 obtain⟨t,rfl⟩:=ry
 obtain⟨z,its,n,r,hl,e⟩:=I.lstM hH
 have hlen:its.toArray.size*k.toNat<=sizeLine:=by rw[List.size_toArray,←hl];exact hz
 have hcap:¬its.toArray.size*k.toNat>(2 ^ 63 - 1) / 8:=by
  have:(sizeLine:Nat)<=(2 ^ 63 - 1) / 8:=by decide
  omega
 have hfit:¬(!Builtin.List.listFitsIndex k)=true:=by
  rw[fitsIndex_both h1 h2]
  exact Bool.false_ne_true
 have hlong:¬Builtin.List.listTooLong (its.toArray.size*k.toNat)=true:=by
  rw[Lh hlen]
  exact Bool.false_ne_true
 have hnew:List.foldl (λx1 x2=>x1++x2) #[] (List.replicate (if its.toArray.isEmpty=true then 0 else k.toNat) its.toArray)=(List.replicate k.toNat its).flatten.toArray:=by
  have f0:∀m:Nat,List.foldl (λx1 x2=>x1++x2) #[] (List.replicate m its.toArray)=(List.replicate m its).flatten.toArray:=λm=>by
   have:=foldl_rep its m []
   rw[List.nil_append] at this
   exact this
  rw[f0]
  cases its with
  | nil=>simp
  | cons a r'=>rw[if_neg (by simp)]
 refine wpAny_binaryOp_repeat_ref (T:="list") (U:="int") (by decide) ⟨_,e,rfl⟩ (λs'=>typeIs_int s' k t) noFill_list_mul F.fills_int_mul F.slot_int_rmul repeat_list F.slot_int_index.lookup
  (call_meets F.slot_int_rmul (typeIs_int s k t) F.entry_int_rmul (F.args_int_rmul_2 _ _) (int___rmul___int_list k t l its.toArray n)
   ⟨e,rfl,⟨_,e,rfl⟩,call_meets F.slot_list_mul ⟨_,e,rfl⟩ F.entry_list_mul (F.args_list_mul_2 _ _) (AutoListH.list___mul___list_int_3 l its.toArray n k t hfit hcap hlong) ⟨e,?_⟩⟩)
 rw[hnew]
 exact⟨.ref _,_,I.lnew (t':=s.toks) (r.rep k.toNat) (by rw[len_rep,Nat.mul_comm];exact hz),rfl,q _ I.fresh⟩
end
section
variable{prog:Program}{w:World}{A:Around}{E:Value->Shared->Prop}{s:Shared}
end
section
variable{X:Cx}
end
end L2
namespace Att
open PySem PySem.W PySem.Calls PyProof.Rows
theorem zJ{P:Params}{h:Heap}:∀(ns:List Int)(vs:List Value),WellAll P h vs (ns.map WData.int)->IntsAre vs ns:=by
 intro ns
 induction ns with
 | nil =>
  intro vs w
  rw[List.map_nil] at w
  cases w
  exact .nil
 | cons n ns ih =>
  intro vs w
  rw[List.map_cons] at w
  cases w with
  | cons a b =>
   cases a
   exact .cons _ _ (ih _ b)
theorem Rp{l:OpenLaw}{n:Nat}(hn:l.most=some n){P:Params}{h:Heap}{args:List WData}{vals:List Value}
  (hpre:l.row.toRowW.claim.pre args=true) (hwl:WellAll P h vals args) :
  ∃a vs ns,vals=[Value.ref a]/\args=[WData.list (ns.map WData.int)]/\h.get? a=some { cls:=.type "list",data:=.seq vs.toArray }/\IntsAre vs ns/\ns.length<=n:=by
 have hsh:WShape.hasAll [] args [.list .int]=true:=(pre_splitW hpre).1
 have hc:l.pre.holds [] { args:=args }=true:=(pre_splitW hpre).2
 obtain⟨d,r,rfl,h1,h2⟩:=hasAllW_cons hsh
 obtain rfl:=hasAllW_nil h2
 obtain⟨xs,rfl,h3⟩:=hasW_list h1
 obtain⟨ns,rfl⟩:=items_int h3
 have hlen:ns.length<=n:=by
  unfold OpenLaw.pre at hc
  have h4:(WTm.not (.lt (.lit (.int (n:Int))) (.len (.arg 0)))).holds [] { args:=[.list (ns.map .int)] }=true:=by
   have h4:=(holds_andW hc).1
   rw[hn] at h4
   exact h4
  have h5:=condW_of h4 (w_not (w_lt w_lit (w_len_list (w_arg rfl))))
  rw[List.length_map] at h5
  refine Nat.le_of_not_lt λq=>?_
  have q':(n:Int)<((ns.length:Nat):Int):=by omega
  first
   | (rw[decide_eq_true q'] at h5;exact absurd h5 (by decide))
   | (simp at h5;omega)
 cases hwl with
 | cons w1 w2 =>
  cases w2
  cases w1 with
  | list ho hall=>exact⟨_,_,ns,rfl,rfl,ho,zJ ns _ hall,hlen⟩
theorem Rk(l:OpenLaw)(args:List WData):l.row.toRowW.claim.post args (.bool true) args=true :=
 postW_of (r:=l.row.toRowW) (X:=(true==true))
  (show WShape.has [] (.bool true) .bool=true by first | rfl | decide | simp[WShape.has,WShape.arms,WShape.armsAll])
  (show (WTm.eq .res (.lit (.bool true))).value [] { args:=args,res:=some (.bool true),after:=args }=some (.bool (true==true)) from w_eq_bool (w_res rfl) w_lit) rfl
theorem J5{l:OpenLaw}{n:Nat}{q:Program}{loose:List Str}{XP:(Str->Option Value)->Heap->Prop}{YP:World->Heap->Prop}{d:DefRec}
  (hn:l.most=some n) (hdf:d.params.defaults=[])
  (call:∀(w:World)(s₀ s₁:Shared)(mg mb:Str->Option Value)(fa:Addr)(o:Obj)(pm cd doc:Value)(a:Addr)(vs:List Value)(ns:List Int),
   Ground q loose [] XP w s₀ mg mb s₁.heap->YP w s₁.heap ->
   s₁.heap.get? fa=some o->o.data=.func (docDef d.name d.params d.body d.scope pm cd doc)->s₁.heap.CodeRec cd d.name->mg d.name=some (.ref fa) ->
   s₁.heap.get? a=some { cls:=.type "list",data:=.seq vs.toArray }->IntsAre vs ns->ns.length<=n->s₁.gens=#[] ->
   codeAny (model l.prog w) callerA (.call (.ref fa) ⟨[.ref a],[]⟩) (λr s'=>r=.ok (.ret (.bool true))/\OldK s₁.heap s'.heap/\s'.os=s₁.os/\AllBare s'.gens) s₁) :
  WalkO q loose XP YP l.row.toRowW d [] (λf vs=>PySem.call f vs):=by
 intro w s₀ s₁ mg mb G Y fa o pm cd doc dV kV ho hd hcd hD hmg hg args vals as hpre hlay hrd hwl hlo
 obtain rfl:dV=.none:=Dflts.none hD hdf
 obtain rfl:kV=.none:=Dflts.noKw hD
 obtain⟨a,vs,ns,rfl,rfl,hobj,hints,hlen⟩:=Rp hn hpre hwl
 refine enter_call (codeAny_mono (call w s₀ s₁ mg mb fa o pm cd doc a vs ns G Y ho (fd_plain hd) hcd hmg hobj hints hlen hg) λr s' hq=>?_)
 obtain⟨rfl,h2,h3,h4⟩:=hq
 exact⟨.inl ⟨.bool true,.bool true,[],rfl,λ_=>rfl,.bool true,Rk l _,λ_=>⟨List.Pairwise.nil,λ_ hm=>(nomatch hm)⟩⟩,h2,h3,h4⟩
section
variable{prog:Program}{w:World}{A:Around}{E:Value->Shared->Prop}{s:Shared}{K:Frag}
end
end Att
namespace L2
open PySem PySem.Spec PyProof.Rows
theorem FW:∀{vs:List Value}{ns:List Int},IntsAre vs ns->Vals (ns.map V.int) vs
 | _,_,.nil=>.nil
 | _,_,.cons n t h=>.cons ⟨t,rfl⟩ (FW h)
def Only(H:Hp):Prop:=∀b,H b=none∨∃o xs,H b=some (.frz o (.lst xs))
theorem law_call{P:Program}{w:World}{K:Frag}{mg mb:Str->Option Value}{CX:CXT}{k:Nat}{fa a:Addr}{fd:FuncData}{x:Str}{sp:Sp}{s₁:Shared}{vs:List Value}{ns:List Int}
  (KX:K.In s₁.heap) (hns:s₁.heap.Ns mainGlobals mg) (hb:s₁.heap.Ns builtinsNs mb) (hbb:∀x:Str,x≠"__name__"->mb x=bootBuiltins x) (hlim:s₁.heap.NoLimit) (hg:s₁.gens=#[])
  (ha:s₁.heap.get? a=some { cls:=.type "list",data:=.seq vs.toArray }) (hi:IntsAre vs ns) (hl:ns.length<=sizeLine) (hr:cZ k callerA)
  (F:∀base:Heap,K.In base->base.Ns mainGlobals mg->bY P w K mg base CX k fa fd [x] sp) (hbind:∀(s:Shared)(u:Value),BindsTo s fd ⟨[u],[]⟩ [(x,u)])
  (hsp:∀H:Hp,Only H->SqL K H a (ns.map V.int)->sp [.ref a] H (λv _=>v=.bl true) λ_ _ _=>False)
  (hCX:∀H e s',CX [] H s₁ (λ_ _ _=>False) e s'->False) :
  codeAny (model P w) callerA (.call (.ref fa) ⟨[.ref a],[]⟩) (λr s'=>r=.ok (.ret (.bool true))/\OldK s₁.heap s'.heap/\s'.os=s₁.os/\AllBare s'.gens) s₁:=by
 have rv:=FW hi
 have lenV:=hi.length
 have core:∀H:Hp,Only H->SqL K H a (ns.map V.int)->HOk P w H s₁.heap->(∀b,H b≠none->b=a)->(H a≠none->K.lookup a=none) ->
   codeAny (model P w) callerA (.call (.ref fa) ⟨[.ref a],[]⟩) (λr s'=>r=.ok (.ret (.bool true))/\OldK s₁.heap s'.heap/\s'.os=s₁.os/\AllBare s'.gens) s₁:=by
  intro H hO hS hok hA hK
  have base_of:∀{b:Addr}{o:Obj},s₁.heap.get? b=some o->H b=none->(hidT s₁.heap H).get? b=some o:=λe n=>hidT_get e n
  have noA:∀{b:Addr}{o:Obj}{es:Array DictEntry}{ep:Nat},s₁.heap.get? b=some o->o.data=.dict es ep->H b=none:=fun{b o es ep} e d=>by
   cases q:H b with
   | none=>rfl
   | some u =>
    have e':b=a:=hA b (by rw[q];simp)
    subst e'
    rw[ha] at e;cases e
    have d':Data.seq vs.toArray _=Data.dict es ep:=d
    cases d'
  have nsK:∀{b:Addr}{m:Str->Option Value},s₁.heap.Ns b m->(hidT s₁.heap H).Ns b m:=λ{b m} ⟨o,es,ep,e,d,r⟩=>⟨o,es,ep,base_of e (noA e d),d,r⟩
  have hKb:K.In (hidT s₁.heap H):=λb o e=>base_of (KX b o e) (by
   cases q:H b with
   | none=>rfl
   | some u =>
    have e':b=a:=hA b (by rw[q];simp)
    subst e'
    rw[hK (by rw[q];simp)] at e;cases e)
  have hM:Mod K mg (hidT s₁.heap H):=⟨hKb,nsK hns,⟨mb,nsK hb,hbb⟩,let ⟨mc,h1,h2⟩:=hlim;⟨mc,nsK h1,h2⟩⟩
  have e0:Env0 P w K mg (hidT s₁.heap H) callerA [] s₁ H:=⟨rfl,hM,λb o e=>of_hidT e,Nat.le_of_eq (QZ _ _),trivial,λb hb=>absurd (show b∈([]:List Addr) from hb) (by simp),hok,.of_eq hg⟩
  refine codeAny_mono ((F _ hKb (nsK hns)).run callerA [] s₁ H ⟨[.ref a],[]⟩ [.ref a] [.ref a] _ _ hr e0 (hbind s₁ (.ref a)) (.cons rfl .nil) (hsp H hO hS)) λr s' h=>?_
  cases r with
  | error e=>exact(hCX H e s' h).elim
  | ok fl =>
   cases fl with
   | next=>exact False.elim h
   | brk=>exact False.elim h
   | cont=>exact False.elim h
   | ret u =>
    obtain⟨v,H',os,bare,un,hok',r',q⟩:=h
    have q':v=.bl true:=q
    subst q'
    obtain rfl:u=Value.bool true:=r'
    refine⟨rfl,OldK.of_keep λb o e=>?_,os,bare⟩
    cases q:H b with
    | none=>exact un.keep b o e q (by intro z;exact absurd (show b∈([]:List Addr) from z) (by simp)) (by simp)
    | some u =>
     rcases hO b with z | ⟨ob,xs,z⟩
     .rw[q] at z;cases z
     .have z2:=un.yo b ob _ z
      obtain⟨e1,_⟩:=hok b _ z
      obtain⟨e2,_⟩:=hok' b _ z2
      rw[e] at e1;cases e1
      exact e2
 cases hk:K.lookup a with
 | some o =>
  have e:=KX a o hk
  rw[ha] at e
  cases e
  refine core (λ_=>none) (λ_=>.inl rfl) (.inr ⟨_,vs.toArray,_,hk,rfl,rfl,rfl,by rw[List.size_toArray,lenV];exact hl,by simpa using rv⟩) (λb u z=>by have z':(none:Option HO)=some u:=z;cases z') (λb z=>absurd rfl z) λz=>absurd rfl z
 | none =>
  refine core (λb=>if b=a then some (.frz { cls:=.type "list",data:=.seq vs.toArray } (.lst (ns.map V.int))) else none) (λb=>?_) (.inl (.inr ⟨{ cls:=.type "list",data:=.seq vs.toArray },if_pos rfl⟩)) (λb u z=>?_) (λb z=>?_) λ_=>hk
  .by_cases hb:b=a
   .exact .inr ⟨_,_,if_pos hb⟩
   .exact .inl (if_neg hb)
  .by_cases hb:b=a
   .have z':=(if_pos hb).symm.trans z
    cases z'
    subst hb
    exact⟨ha,by rw[List.length_map];exact hl,vs,_,rv,ha⟩
   .have z':=(if_neg hb).symm.trans z
    cases z'
  .by_cases hb:b=a
   .exact hb
   .exact absurd (if_neg hb) z
end L2
namespace L2
open PySem PySem.Spec PyProof.Rows
theorem walk_of{l:PySem.W.OpenLaw}{n k:Nat}{q:Program}{loose:List Str}{XP:(Str->Option Value)->Heap->Prop}{YP:World->Heap->Prop}{d:DefRec}{K:Params->Frag}{CX:World->CXT}{sp:World->Sp}{x:Str}
  (hn:l.most=some n) (hn2:n<=sizeLine) (hdf:d.params.defaults=[]) (hr:cZ k callerA)
  (hY:∀(w:World)(h:Heap),YP w h->(K w.params).In h)
  (F:∀(w:World)(mg:Str->Option Value)(fa:Addr)(h:Heap),(K w.params).In h->h.Ns mainGlobals mg->mg d.name=some (.ref fa) ->
   ∃fd:FuncData,(∀(s:Shared)(u:Value),BindsTo s fd ⟨[u],[]⟩ [(x,u)]) /\
    ∀base:Heap,(K w.params).In base->base.Ns mainGlobals mg->bY l.prog w (K w.params) mg base (CX w) k fa fd [x] (sp w))
  (hsp:∀(w:World)(H:Hp)(a:Addr)(ns:List Int),ns.length<=n->Only H->SqL (K w.params) H a (ns.map V.int)->sp w [.ref a] H (λv _=>v=.bl true) λ_ _ _=>False)
  (hCX:∀(w:World)(H:Hp)(s:Shared)(e:Value)(s':Shared),CX w [] H s (λ_ _ _=>False) e s'->False) :
  PySem.W.WalkO q loose XP YP l.row.toRowW d [] (λf vs=>PySem.call f vs):=by
 refine Att.J5 hn hdf λw s₀ s₁ mg mb fa o pm cd doc a vs ns G Y ho hd hcd hmg hobj hints hlen hg=>?_
 have KX:=hY w _ Y
 obtain⟨fd,hb,hF⟩:=F w mg fa _ KX G.T.g hmg
 exact law_call KX G.T.g G.T.b G.T.builtins G.T.nolimit hg hobj hints (Nat.le_trans hlen hn2) hr hF hb (λH hO hS=>hsp w H a ns hlen hO hS) λH e s'=>hCX w H s₁ e s'
end L2
namespace L2
open PySem PySem.Spec PyProof.Rows
def inClass(s:Stmt)(j:Nat):Stmt:=match s with
 | .ClassDef _ _ _ body _ _ _ _ _ _ _=>body.getD j (.Pass ⟨0,0,0,0⟩)
 | _=>.Pass ⟨0,0,0,0⟩
def lL(s:Stmt):Arguments:=match s with
 | .FunctionDef _ a _ _ _ _ _ _ _ _=>a
 | _=>{ posonlyargs:=[],args:=[],vararg:=none,kwonlyargs:=[],kw_defaults:=[],kwarg:=none,defaults:=[] }
def dh(s:Stmt):List Stmt:=match s with
 | .FunctionDef _ _ b _ _ _ _ _ _ _=>b
 | _=>[]
def au(s:Stmt):Scope:=match s with
 | .FunctionDef _ _ _ _ _ _ sc _ _ _=>sc
 | _=>{ kind:=.function,names:=[],isGenerator:=false,isCoroutine:=false }
abbrev CX0:CXT:=λ_ _ _ _ _ _=>False
abbrev E0:XK:=λ_ _ _=>False
theorem pass0{X:Cx}:lZ CX0 X E0:=λ_ _ _ _ _ _ _ h=>h.elim
structure Fun(K:Frag)(x qual:Str)(st:Stmt)(f:Addr)(fd:FuncData):Prop where
 ex:∃(oc:Value)(od:Option Addr)(kV doc pm:Value)(an:Option Addr)(cdv ct:Value)(osl:Array (Option Value)),
  fd=PySem.W.fnOf x qual (lL st) (dh st) (au st) .none kV doc pm an cdv ct/\K.lookup f=some ⟨oc,od,.func fd,osl⟩/\PySem.W.codeIn K cdv qual=true
 kp:keepIn K (.ref f)=true
section
variable{P:Program}{w:World}{K:Frag}{mg:Str->Option Value}{base:Heap}
theorem Fun.ok{x qual:Str}{st:Stmt}{f:Addr}{fd:FuncData}{N ps:List Str}{k:Nat}{sp:Sp}(F:Fun K x qual st f fd)(S:aG N ps (au st))(len:∀vs H Q E,sp vs H Q E->vs.length=ps.length)
  (hbody:∀(cdv:Value)(A:Around)(outer:List Env)(s:Shared)(H:Hp)(vs:List V)(Q:VK)(E:XK),cZ k (A.deeper (envOfC qual (au st) s.heap.objs.size f cdv))->sp vs H Q E ->
   ∃t,PSs (zE CX0 P w K mg base N qual (au st) f cdv A outer s H E).nox (dh st) t/\t { nx:=λ_ H'=>Q .non H',rt:=Q } (start N vs) H):bY P w K mg base CX0 (k+1) f fd ps sp:=by
 obtain⟨oc,od,kV,doc,pm,an,cdv,ct,osl,rfl,lk,hcd⟩:=F.ex
 refine fn_of lk hcd S len λA outer s H vs Q E hr hsp=>?_
 obtain⟨t,h,q⟩:=hbody cdv A outer s H vs Q E hr hsp
 exact⟨t,h.nox,q⟩
theorem Fun.binds{x qual:Str}{st:Stmt}{f:Addr}{fd:FuncData}{ps:List Str}(F:Fun K x qual st f fd)
  (h:∀(kV doc pm:Value)(an:Option Addr)(cdv ct:Value)(us:List Value),us.length=ps.length->bindArgs (PySem.W.fnOf x qual (lL st) (dh st) (au st) .none kV doc pm an cdv ct) ⟨us,[]⟩=pure (ps.zip us)):Binds K fd ps []:=by
 obtain⟨oc,od,kV,doc,pm,an,cdv,ct,osl,rfl,lk,hcd⟩:=F.ex
 exact .all (h kV doc pm an cdv ct)
theorem fun_mk{x qual:Str}{st:Stmt}{f:Addr}{oc:Value}{od an:Option Addr}{osl:Array (Option Value)}{kV doc pm cdv ct:Value}(l:K.lookup f=some ⟨oc,od,.func (PySem.W.fnOf x qual (lL st) (dh st) (au st) .none kV doc pm an cdv ct),osl⟩)
  (c:PySem.W.codeIn K cdv qual=true) (k:keepIn K (.ref f)=true):Fun K x qual st f (PySem.W.fnOf x qual (lL st) (dh st) (au st) .none kV doc pm an cdv ct):=⟨⟨oc,od,kV,doc,pm,an,cdv,ct,osl,rfl,l,c⟩,k⟩
end
section
variable{X:Cx}
theorem pv(i:Nat){x:Str}{pos:Pos}(hN:X.N[i]?=some x:=by rfl)(hv:Vis X.env.scope x:=by first | exact Or.inl rfl | exact Or.inr (Or.inl rfl) | exact Or.inr (Or.inr rfl))(hd:(x==("__debug__":Str))=false:=by decide)
  (hcd:(x==("__classdict__":Str))=false:=by decide):PE X (.Name x pos) (m7 i):=pe_var hN hv hd hcd
end
def aQ(H H':Hp):Prop:=∀b o,H b=some o->H' b=some o
theorem aQ.refl(H:Hp):aQ H H:=λ_ _ h=>h
theorem aQ.trans{H H1 H2:Hp}(a:aQ H H1)(b:aQ H1 H2):aQ H H2:=λc o h=>b c o (a c o h)
theorem aQ.free{H H':Hp}(e:aQ H H'){l:Addr}(h:H' l=Option.none):H l=Option.none:=by
 cases q:H l with
 | none=>rfl
 | some o =>
  rw[e l o q] at h
  cases h
theorem aQ.seq{K:Frag}{H H':Hp}{a:Addr}{xs:List V}(e:aQ H H')(h:SqL K H a xs):SqL K H' a xs:=by
 rcases h with (h | ⟨o,h⟩) | h
 .exact .inl (.inl (e _ _ h))
 .exact .inl (.inr ⟨o,e _ _ h⟩)
 .exact .inr h
end L2
set_option maxHeartbeats 1000000
namespace MX
open PySem
section
variable{prog:Program}{w:World}{A:Around}{E:Value->Shared->Prop}{h:Heap}{g:Array GenState}{d:Drawn}{t:Nat}{os:OsState}
variable{nm q:Str}{C N:Addr}{bs bm bmB:List Value}{hdct:Bool}{sn:List Str}{sub:List Value}{ab:Bool}{col:Option Bool}{dd:Option Addr}{k0 k1 k2 k3 k5:Option Value}{B newId initId:String}
end
section
variable{prog:Program}{w:World}{A:Around}{E:Value->Shared->Prop}{h:Heap}{g:Array GenState}{d:Drawn}{t:Nat}{os:OsState}{x C:Addr}{ox:Obj}{cd:ClassData}{name:Str}{v:Value}{tk:Tok}
open Builtin Builtin.ObjectAttr
end
end MX
namespace MX
open PySem PySem.W PySem.Calls PyProof.Rows Builtin Builtin.ObjectAttr
abbrev bmV:List Value:=[.type "ValueError",.type "Exception",.type "BaseException",.type "object"]
def onlyRefs:List Value->Bool
 | []=>true
 | .ref _::r=>onlyRefs r
 | _=>false
structure ExcGet(K:Frag)(C:Addr):Prop where
 ga:findIn K (.ref C) "__getattribute__"=some (some (.builtin "BaseException.__getattribute__"))
 gh:findIn K (.ref C) "__getattr__"=some none
 sa:findIn K (.ref C) "__setattr__"=some (some (.builtin "object.__setattr__"))
 sub:mroIn K C (.type "BaseException")=some true
 top:mroIn K C (.type "object")=some true
 cl:findIn K (.ref C) "__class__"=some (some (.builtin "object.__class__"))
 get:specialIn K (.builtin "object.__class__") "__get__"=some (some (.builtin "getset_descriptor.__get__"))
 tk:takesIn K (.builtin "object.__class__")=some true
 cls:∃cd l,clsIn K C=some cd/\cd.hasDict=true/\cd.mro=l++bmV/\onlyRefs l=true
section
variable{prog:Program}{w:World}{A:Around}{E:Value->Shared->Prop}{s:Shared}{K:Frag}{x C:Addr}{ox:Obj}{od:Option Obj}{name:Str}
theorem excBy{fill expr:Bool}{tk:Tok}{Q:Value->Shared->Prop}{v:Value}(G:ExcGet K C)(X:K.In s.heap)(I:InstAt s.heap x ox C od)(hh:handedIn v=true)
  (hf:wpAny (model prog w) A.in1 (Builtin.«object.__getattribute__» ⟨[.ref x,.str name tk],[]⟩) (λfin s'=>fin=.done (.ret v)/\Q v s') (λ_ _=>False) s) :
  wpAny (model prog w) A (getAttrBy (.ref x) (.str name tk) fill expr) Q E s:=by
 have L0:=I.type (M:=model prog w)
 have L1:=looks_findIn (M:=model prog w) X G.ga
 have L2:Looks (model prog w) s.heap (hookBefore (.ref C)) none:=looks_findIn (M:=model prog w) X G.gh
 have b:=PySem.F.attr_ValueError.ga.bind (.ref x)
 unfold getAttrBy
 refine wpAny_holding (wpAny_bind (L0.here (wpAny_bind (L1.here ?_))))
 have c1:(onTheHeap (Value.ref C) && Value.builtin "BaseException.__getattribute__"==Value.builtin "object.__getattribute__")=false:=by
  rw[show (Value.builtin "BaseException.__getattribute__"==Value.builtin "object.__getattribute__")=false by decide +kernel]
  simp
 show wpAny _ _ (if (onTheHeap (Value.ref C) && Value.builtin "BaseException.__getattribute__"==Value.builtin "object.__getattribute__")=true then _ else _) _ _ _
 rw[c1,if_neg Bool.false_ne_true]
 unfold getAttrByItsOwn
 refine wpAny_bind (L2.here (wpAny_bind (wpAny_attempt (wpAny_holding ?_))))
 have c2:callGetattribute (.ref x) (.str name tk) (.builtin "BaseException.__getattribute__") expr=boundAndCalled (.builtin "BaseException.__getattribute__") (.ref x) (.str name tk):=by cases expr <;> rfl
 rw[c2]
 unfold boundAndCalled
 rw[b]
 refine wpAny_bind (wpAny_pure ?_)
 have hk:builtinKind "BaseException.__getattribute__"=some .slot:=by decide +kernel
 have hs:splitId "BaseException.__getattribute__"=some ("BaseException","__getattribute__"):=by decide +kernel
 show wpAny (model prog w) A (call (.builtin "BaseException.__getattribute__") [.ref x,.str name tk]) _ _ s
 have sub:Looks (model prog w) s.heap (isInstance (.ref x) (.type "BaseException")) true:=L0.andThen (looks_mroIn X G.sub)
 refine wpAny_call (codeAny_call_builtin PySem.F.attr_ValueError.ga.plain PySem.F.entry_bexc_ga (@check_slot (model prog w) _ _ s "BaseException.__getattribute__" "BaseException" "__getattribute__" (.ref x) [.str name tk] [] _ hk hs sub (PySem.F.args_bexc_ga (.ref x) (.str name tk)) ?_))
 refine wpAny_mono hf (λfin s' z=>?_) λ_ _ z=>z.elim
 obtain⟨rfl,z⟩:=z
 show wpAny _ _ (handedOut v) _ _ _
 rw[handedOut_of hh]
 exact wpAny_pure z
theorem excClass{Q:Option Value->Shared->Prop}(G:ExcGet K C)(X:K.In s.heap)(I:InstAt s.heap x ox C od)(h:Q (some (.ref C)) { s with toks:=s.toks+1 }):
  wpAny (model prog w) A (getAttr? (.ref x) "__class__") Q E s:=by
 obtain⟨cd,l,hc,hd,hm,hr⟩:=G.cls
 have hf:findObj K C od "__class__"=some (.bind (.builtin "getset_descriptor.__get__") (.builtin "object.__class__")):=by
  unfold findObj
  rw[hc,Option.bind_some,G.cl,Option.bind_some]
  dsimp only
  rw[G.get,Option.bind_some]
  dsimp only
  rw[G.tk,Option.bind_some]
 unfold getAttr? getAttrBy?
 refine wpAny_bind (wpAny_mkText (wpAny_bind (wpAny_attempt (excBy (v:=.ref C) (s:={ s with toks:=s.toks+1 }) G X I rfl ?_))))
 .obtain⟨hp,g,d,t,os⟩:=s
  have L0:=I.type (M:=model prog w)
  have L3:=looks_find (M:=model prog w) X I hf
  unfold Builtin.«object.__getattribute__»
  repeat (first | with_reducible refine wpAny_call ?_ | lk)
  refine class_get X I G.top ?_
  exact wpAny_pure ⟨rfl,wpAny_pure h⟩
theorem excKit(G:ExcGet K C):KitX K (.ref x) (.ref C) (λh=>InstAt h x ox C od) where
 ty:=λ_ _ _ I=>I.type
 it:=λ_ _ X _=>by
  obtain⟨cd,l,hc,_⟩:=G.cls
  unfold clsIn at hc
  split at hc
  .rename_i ho
   intro A' Q' E' s' k q
   unfold isType loadHead
   exact wpAny_bind (wpAny_loadPart (k _ _ (X _ _ ho)) (wpAny_pure q))
  .cases hc
 ne:=λh tp dd its n sl X htp=>by
  obtain⟨cd,l,hc,_⟩:=G.cls
  refine Bool.eq_false_iff.mpr λq=>?_
  obtain rfl:C=tp:=Value.ref.inj (beq_iff_eq.mp q)
  unfold clsIn at hc
  split at hc
  .rename_i ho
   have z:=(X _ _ ho).symm.trans htp
   cases z
  .cases hc
 ca:=λX I k=>excClass G X I k
end
end MX
namespace L2
open PySem PySem.Spec PyProof.Rows
section
variable{prog:Program}{w:World}{A:Around}{R:Result->Shared->Prop}{s:Shared}
theorem J8{elt tg iter:Expr}{ifs:List Expr}{sc:Scope}{pos:Pos}{it acc:Value}{env:Env}(J:Nat->Shared->Prop)
  (turn:∀n s,J n s->wpAny (model prog w) A (pyNext it) (λr s1=>match r with
   | none=>R (.ok .next) s1
   | some v=>wpAny (model prog w) A (letOwnedTupleGo tg it v) (λ_ s2=>wpAny (model prog w) A (assign tg env v) (λ_ s3 =>
     wpAny (model prog w) A (forIn ifs true λc r=>if r=true then do let ok ←isTrue c env (eval c env);pure (ForInStep.yield ok) else pure (ForInStep.yield r)) (λok s4 =>
      if ok=true then wpAny (model prog w) A (eval elt env) (λx s5=>wpAny (model prog w) A (call (.builtin "list.append") [acc,x]) (λ_ s6=>∃m,m<n/\J m s6) (λ_ _=>False) s5) (λ_ _=>False) s4
      else ∃m,m<n/\J m s4) (λ_ _=>False) s3) (λ_ _=>False) s2) (λ_ _=>False) s1) (λ_ _=>False) s)
  (n:Nat) (h:J n s):codeAny (model prog w) A (.compLoop (.ListComp elt [⟨tg,iter,ifs,0⟩] sc pos) 0 it acc env) R s:=by
 refine codeAny_loop rfl J (λn s hJ=>?_) n h
 show wpAny _ A ((compTurn (.ListComp elt [⟨tg,iter,ifs,0⟩] sc pos) 0 it acc env).onRaise (λx=>do noteFrame x env;theTreesLotGoes x)) _ _ s
 refine wpAny_noted ?_
 rw[compTurn_list]
 refine wpAny_bind (wpAny_standAt (wpAny_bind (wpAny_mono (turn n s hJ) (λr s1 h1=>?_) λ_ _ z=>z.elim)))
 cases r with
 | none=>exact wpAny_pure h1
 | some v =>
  refine wpAny_bind (wpAny_mono h1 (λ_ s2 h2=>?_) λ_ _ z=>z.elim)
  refine wpAny_bind (wpAny_mono h2 (λ_ s3 h3=>?_) λ_ _ z=>z.elim)
  refine wpAny_bind (wpAny_mono h3 (λok s4 h4=>?_) λ_ _ z=>z.elim)
  cases ok with
  | false=>exact wpAny_pure ⟨rfl,h4⟩
  | true =>
   refine wpAny_bind (wpAny_bind (wpAny_mono h4 (λx s5 h5=>?_) λ_ _ z=>z.elim))
   exact wpAny_bind (wpAny_mono h5 (λ_ s6 h6=>wpAny_pure (wpAny_pure ⟨rfl,h6⟩)) λ_ _ z=>z.elim)
end
abbrev bc(X:Cx)(N':List Str)(sc:Scope)(cl:List (Str×Addr))(s₀:Shared)(H₀:Hp)(C:Addr)(fp:List Addr)(pn:List (Addr×Obj)):Cx :=
 { X with N:=N',s₀:=s₀,H₀:=H₀,env:=compEnvC sc cl C X.env,outer:=X.stack,ex:=fp,fn:=λ_=>false,pn:=pn,xe:=λ_ _=>False }
def CellsOk(X:Cx):List (Str×Addr)->Prop
 | []=>True
 | (y,c)::r=>(X.env.cells.lookup y=some c/\(X.env.kindOf y=some .cell∨X.env.kindOf y=some .free))/\CellsOk X r
def yI(X:Cx)(sc:Scope)(cl:List (Str×Addr)):List Str->List (Option Nat)->Prop
 | [],[]=>True
 | y::r,o::q=>(match o with
   | none=>True
   | some j=>X.N[j]?=some y/\(cl.lookup y).isSome=true/\((relabel sc X.env).names.lookup y=some .cell∨(relabel sc X.env).names.lookup y=some .free))/\yI X sc cl r q
 | _,_=>False
def capS(cap:List (Option Nat))(σ:St):St:=cap.map λo=>match o with | none=>none | some j=>(σ[j]?).join
structure Gb(X:Cx)(sc:Scope)(cl:List (Str×Addr))(N':List Str)(cap:List (Option Nat)):Prop where
 clos:closureFor sc X.env=pure cl
 kind:sc.kind=.function
 oJ:(sc.names.all λy=>y.2 != .cell)=true
 locals:(sc.names.all λy=>y.2 != .local || sc.names.lookup y.1==some .local)=true
 frees:(sc.names.all λy=>y.2 != .free || (cl.lookup y.1).isSome)=true
 cells:CellsOk X cl
 caps:yI X sc cl N' cap
theorem CellsOk.get{X:Cx}:∀{cl:List (Str×Addr)}{y:Str}{c:Addr},CellsOk X cl->cl.lookup y=some c->X.env.cells.lookup y=some c/\(X.env.kindOf y=some .cell∨X.env.kindOf y=some .free)
 | [],_,_,_,e=>by simp at e
 | (z,d)::r,y,c,h,e=>by
  by_cases q:y=z
  .subst q
   simp only[List.lookup_cons,beq_self_eq_true] at e
   cases e
   exact h.1
  .have q':(y==z)=false:=beq_eq_false_iff_ne.mpr q
   simp only[List.lookup_cons,q'] at e
   exact CellsOk.get h.2 e
theorem yI.get{X:Cx}{sc:Scope}{cl:List (Str×Addr)}:∀{N':List Str}{cap:List (Option Nat)}{i j:Nat}{y:Str},yI X sc cl N' cap->N'[i]?=some y->cap[i]?=some (some j) ->
  X.N[j]?=some y/\(cl.lookup y).isSome=true/\((relabel sc X.env).names.lookup y=some .cell∨(relabel sc X.env).names.lookup y=some .free)
 | [],_,_,_,_,_,e,_=>by simp at e
 | _::_,[],_,_,_,_,_,e=>by simp at e
 | z::r,o::q,0,j,y,h,e1,e2=>by
  simp at e1 e2
  subst e1 e2
  exact h.1
 | z::r,o::q,i+1,j,y,h,e1,e2=>yI.get (i:=i) h.2 (by simpa using e1) (by simpa using e2)
theorem yI.len{X:Cx}{sc:Scope}{cl:List (Str×Addr)}:∀{N':List Str}{cap:List (Option Nat)},yI X sc cl N' cap->cap.length=N'.length
 | [],[],_=>rfl
 | [],_::_,h=>h.elim
 | _::_,[],h=>h.elim
 | _::_,_::_,h=>by simp[yI.len h.2]
theorem Un.sameBut{fs ex:List Addr}{H H':Hp}{h h' h'':Heap}{C:Addr}(u:Un fs ex H H' h h')(sb:Heap.SameBut C h' h'')(hC:h.get? C=none):Un fs ex H H' h h'':=by
 have ne:∀b o,h.get? b=some o->b≠C:=λb o e z=>by rw[z,hC] at e;cases e
 refine⟨λb o e n h1 h2=>(sb.2 b (ne b o e)).trans (u.keep b o e n h1 h2),λb o e n h1 h2=>?_,u.free,λb o e hx=>?_,u.tups,u.yo,u.zV⟩
 .obtain⟨sl,q⟩:=u.slot b o e n h1 h2
  exact⟨sl,(sb.2 b (ne b o e)).trans q⟩
 .obtain⟨o',q⟩:=u.there b o e hx
  exact⟨o',(sb.2 b (ne b o e)).trans q⟩
theorem HOk.sameBut{P:Program}{w:World}{H:Hp}{h h':Heap}{C:Addr}(x:HOk P w H h)(sb:Heap.SameBut C h h')(hC:H C=none):HOk P w H h':=λb o e=>by
 refine(x b o e).stay (λc u hc q=>(sb.2 c ?_).trans q) (λ_ q=>q) λ_ _ q=>q
 rintro rfl
 rcases hc with z | z
 .rw[←z,hC] at e;cases e
 .rw[hC] at z;cases z
def vH(X:Cx)(ifs:List Expr)(t:TT):Prop :=
 ∀(pins:List (Addr×Obj))(s:Shared)(σ:St)(H:Hp)(Q:Bool->Hp->Prop),Inv X pins σ H s->t σ H Q ->
  wpAny (model X.prog X.w) X.A (forIn ifs true λc r=>if r=true then do let ok ←isTrue c X.env (eval c X.env);pure (ForInStep.yield ok) else pure (ForInStep.yield r)) (TP X pins σ Q) X.xe s
def tTrue:TT:=λ_ H Q=>Q true H
theorem pf_nil{X:Cx}:vH X [] tTrue:=λ_ _ _ H _ I h=>wpAny_tests_nil ⟨H,I,h⟩
theorem pf_one{X:Cx}{c:Expr}{t:TT}(h:PT X c t):vH X [c] t:=λpins s σ H Q I hw=>wpAny_tests_one (h pins s σ H Q I hw)
def CompGo(J:It)(g:TG)(tt:TT)(te:TE)(acc:Addr)(τ0:St)(H1:Hp)(Q:VK):Prop:=∃W:Nat->Nat->List V->St->Hp->Prop,
 (∃m,W 0 m [] τ0 (upd H1 acc (.lst [])))/\∀i m ys τ H,W i m ys τ H->H acc=some (.lst ys)/\ys.length<sizeLine /\
  ((J.stop i H/\Q (.ref acc) H)∨(J.go i H/\∀x H',J.yld i H x H'->g x τ H' λτ2 H2=>tt τ2 H2 λb H3 =>
   if b=true then te τ2 H3 λy H4=>H4 acc=some (.lst ys)/\∃m',m'<m/\W (i+1) m' (ys++[y]) τ2 (upd H4 acc (.lst (ys++[y])))
   else ∃m',m'<m/\W (i+1) m' ys τ2 H3))
def xg(cap:List (Option Nat))(wi:TI)(g:TG)(tt:TT)(te:TE):TE:=λσ H Q=>wi σ H λJ H1=>∀acc,H1 acc=none->CompGo J g tt te acc (capS cap σ) H1 Q
section
variable{X:Cx}{tg iter elt:Expr}{ifs:List Expr}{sc:Scope}{pos:Pos}{cl:List (Str×Addr)}{N':List Str}{cap:List (Option Nat)}{wi:TI}{g:TG}{tt:TT}{te:TE}
theorem inv_comp{pins:List (Addr×Obj)}{σ:St}{H:Hp}{s:Shared}{fp:List Addr}{h1:Heap}(S:Gb X sc cl N' cap)(I:Inv X pins σ H s)(hf:∀b∈fp,xP X pins H b)(hlt:∀b∈fp,b<s.heap.objs.size)
  (hns:h1.Ns s.heap.objs.size (λx=>([]:List (Str×Value)).reverse.lookup x)) (keep:∀b o,s.heap.get? b=some o->h1.get? b=some o) :
  Inv (bc X N' sc cl s H s.heap.objs.size fp (X.pn++pins)) [] (capS cap σ) H { s with heap:=h1 }:=by
 have nC:∀b o,s.heap.get? b=some o->b≠s.heap.objs.size:=λb o e=>Nat.ne_of_lt (Heap.lt_size e)
 have fsub:∀b,b≠X.env.locals->b∉X.fs->b∉frs X.stack:=λb h1 h2 z=>(List.mem_cons.mp (I.O6 b z)).elim h1 h2
 refine⟨⟨I.ok.mod,?_,I.ok.glob,I.ok.blt,Nat.le_refl _,λx y c e1 e2=>?_,λx hx=>?_,λx c e=>absurd e (by simp),I.ok.hd,I.ok.frames,.inl rfl,λb hb=>?_,I.bs,Nat.le_trans I.ok.bsz I.sz,λb o e hb=>?_,λb hb=>?_,I.stack,I.Qp⟩,
  rfl,I.bare,Un.kept keep,⟨_,hns,λi y v e1 e2 e3=>?_⟩,λy c e=>?_,I.hok.fresh (Nat.le_refl _),λy c e=>?_,λp hp=>?_,I.hok.kept keep,?_⟩
 .show (relabel sc X.env).kind=.function
  exact S.kind
 .exact I.ok.inj _ _ c (S.cells.get e1).1 (S.cells.get e2).1
 ·
  have key:∀k,(relabel sc X.env).names.lookup x=some k->k≠.local->k≠.globalImplicit->(x,NameKind.free)∈sc.names∨(x,k)∈sc.names:=λk hk h1 h2=>by
   obtain⟨⟨n,k0⟩,hm,e⟩:=List.mem_map.mp (PySem.mem_of_lookup hk)
   dsimp only at e
   split at e
   .rename_i q
    have q1:k0=NameKind.free:=by
     rw[Bool.and_eq_true,Bool.and_eq_true] at q
     exact beq_iff_eq.mp q.1.1
    cases e
    subst q1
    exact .inl hm
   .cases e
    exact .inr hm
  have fin:(x,NameKind.free)∈sc.names->∃c,cl.lookup x=some c:=λhm=>by
   have z:=List.all_eq_true.mp S.frees _ hm
   simp only[bne_self_eq_false,Bool.false_or] at z
   exact Option.isSome_iff_exists.mp z
  have hx:(relabel sc X.env).names.lookup x=some .cell∨(relabel sc X.env).names.lookup x=some .free:=hx
  rcases hx with hx | hx
  .rcases key _ hx (by decide) (by decide) with z | z
   .exact fin z
   .exact absurd (List.all_eq_true.mp S.oJ _ z) (by simp)
  .rcases key _ hx (by decide) (by decide) with z | z <;> exact fin z
 .obtain⟨_,_,_,_,h5,_⟩:=hf b hb
  exact⟨Nat.ne_of_lt (hlt b hb),λx c e=>h5 x c (S.cells.get e).1⟩
 .obtain⟨_,_,_,h4,_,_⟩:=hf b hb
  rcases h4 with z | z
  .exact I.ok.bf b o e z
  .exact absurd (Nat.lt_of_lt_of_le (Nat.lt_of_lt_of_le (Heap.lt_size e) I.ok.bsz) z) (Nat.lt_irrefl _)
 .obtain⟨_,h2,h3,_,_,_⟩:=hf b hb
  exact fsub b h2 h3
 ·
  unfold capS at e2
  rw[List.getElem?_map] at e2
  cases ec:cap[i]? with
  | none=>rw[ec] at e2;cases e2
  | some o =>
   rw[ec] at e2
   cases o with
   | none=>cases e2
   | some j =>
    have e2:(σ[j]?).join=some v:=Option.some.inj e2
    obtain⟨hj,hs,hk⟩:=S.caps.get e1 ec
    obtain⟨c,hc⟩:=Option.isSome_iff_exists.mp hs
    obtain⟨c1,c2⟩:=S.cells.get hc
    have ej:σ[j]?=some (some v):=by
     cases q:σ[j]? with
     | none=>rw[q] at e2;cases e2
     | some z=>rw[q] at e2;exact congrArg some e2
    obtain⟨m,hm,hl⟩:=id I.loc
    obtain⟨u,ru,lk⟩:=hl j y v hj ej (c2.elim (λz=>.inr (.inl z)) λz=>.inr (.inr z))
    refine⟨u,ru,?_⟩
    rcases lk with⟨z,_⟩| ⟨_,c',e',⟨oc,eo,ed⟩⟩
    .rcases c2 with q | q <;> · rw[q] at z;cases z
    .rw[c1] at e'
     cases e'
     exact .inr ⟨hk,c,hc,oc,keep _ _ eo,ed⟩
 .obtain⟨v,o,e1,e2⟩:=I.cell y c (S.cells.get e).1
  exact⟨v,o,keep _ _ e1,e2⟩
 .exact I.uz y c (S.cells.get e).1
 .have hp:p∈X.pn++pins:=by simpa using hp
  obtain⟨e,n,ne,nf,d⟩:=I.pin p hp
  exact⟨keep _ _ e,n,nC _ _ e,fsub _ ne nf,d⟩
 .show (capS cap σ).length=N'.length
  unfold capS
  rw[List.length_map]
  exact S.caps.len
theorem BK{pp:Pos}{use:Option (Value->Sem Unit)}{Q':Value->Shared->Prop}{pins:List (Addr×Obj)}{s:Shared}{σ:St}{H:Hp}{Q:VK}(S:Gb X sc cl N' cap)(hc:X.calm=true)(hi:PI X tg iter wi)(hg:∀s₀ H₀ C fp pn,PG (bc X N' sc cl s₀ H₀ C fp pn) tg g)(ht:∀s₀ H₀ C fp pn,vH (bc X N' sc cl s₀ H₀ C fp pn) ifs tt)
  (he:∀s₀ H₀ C fp pn,PE (bc X N' sc cl s₀ H₀ C fp pn) elt te) (hs:∀x,foldedSetIterable iter X.env x=pure x) (I:Inv X pins σ H s) (h:xg cap wi g tt te σ H Q)
  (fin:∀(s6:Shared)(C a:Addr)(H6:Hp)(m:Str->Option Value),s6.heap.Ns C m->xP X pins H6 C->(∀h',Heap.SameBut C s6.heap h'->Inv X pins σ H6 { s6 with heap:=h' })->Q (.ref a) H6->compPost (model X.prog X.w) X.A X.xe use Q' (.ref a) C (.ok .next) s6) :
  wpAny (model X.prog X.w) X.A (comprehension (.ListComp elt [⟨tg,iter,ifs,0⟩] sc pos) sc X.env pp (newList []) false (eval iter X.env) use) Q' X.xe s:=by
 have oJ:∀y∈sc.names,y.2≠.cell:=λy hy z=>absurd (List.all_eq_true.mp S.oJ y hy) (by rw[z];decide)
 have locals:∀y∈sc.names,y.2=.local->sc.names.lookup y.1=some .local:=λy hy z=>by
  have q:=List.all_eq_true.mp S.locals y hy
  rw[z] at q
  simpa using q
 refine wpAny_comprehension_free (use:=use) rfl hs S.clos S.kind locals (thn (hi pins s σ H _ I h) λv s1 h1=>thn h1 λitv s2 h2=>?_)
 obtain⟨it,fp,tn,J,H2,e,I2,T,st2,f2,hR⟩:=h2
 subst e
 have nAcc:H2 s2.heap.objs.size=none:=I2.hok.fresh (Nat.le_refl _)
 obtain⟨W,⟨m0,w0⟩,step⟩:=hR s2.heap.objs.size nAcc
 refine wpAny_newObj_type (wpAny_newFunctionEnv oJ (by intro y hy;simp at hy) (λh1 hns hsb=>?_) S.kind)
 have I3:Inv X pins σ (upd H2 s2.heap.objs.size (.lst [])) { s2 with heap:=s2.heap.push { cls:=.type "list",data:=.seq ([]:List Value).toArray } } :=
  I2.laid (t':=s2.toks) (λb u e=>Heap.get?_push_of_some _ e) (Nat.le_refl _) ⟨Nat.zero_le _,[],0,.nil,Heap.get?_push_size _ rfl⟩
 have fpn:∀b∈fp,b<s2.heap.objs.size:=λb hb=>by
  obtain⟨o,e,_⟩:=T.obj _ _ st2 b hb
  exact Heap.lt_size e
 have f3:∀b∈fp,xP X pins (upd H2 s2.heap.objs.size (.lst [])) b:=λb hb=>⟨by rw[aW (Nat.ne_of_lt (fpn b hb))];exact(f2 b hb).1,(f2 b hb).2⟩
 have hC:(s2.heap.push { cls:=.type "list",data:=.seq ([]:List Value).toArray }).get? (s2.heap.push { cls:=.type "list",data:=.seq ([]:List Value).toArray }).objs.size=none:=Heap.get?_none_of_le (Nat.le_refl _)
 have keep:∀b o,(s2.heap.push { cls:=.type "list",data:=.seq ([]:List Value).toArray }).get? b=some o->h1.get? b=some o:=λb o e =>
  (hsb.2 b (Nat.ne_of_lt (Heap.lt_size e))).trans (Heap.get?_push_of_some _ e)
 have I4:=inv_comp S I3 f3 (λb hb=>by
  show b<(s2.heap.push _).objs.size
  rw[Heap.size_push]
  exact Nat.lt_succ_of_lt (fpn b hb)) hns keep
 have fpc:∀{H':Hp},(∀b∈fp,H' b=none)->∀b∈fp,xP (bc X N' sc cl { s2 with heap:=s2.heap.push { cls:=.type "list",data:=.seq ([]:List Value).toArray } } (upd H2 s2.heap.objs.size (.lst [])) (s2.heap.push { cls:=.type "list",data:=.seq ([]:List Value).toArray }).objs.size fp (X.pn++pins)) [] H' b :=
  λhn b hb=>⟨hn b hb,(I4.ok.exf b hb).1,I4.ok.exfs b hb,.inl hb,(I4.ok.exf b hb).2,λp hp=>(f2 b hb).2.2.2.2.2 p (by simpa using hp)⟩
 have loop:∀s5:Shared,(∃i m ys τ H',Inv (bc X N' sc cl { s2 with heap:=s2.heap.push { cls:=.type "list",data:=.seq ([]:List Value).toArray } } (upd H2 s2.heap.objs.size (.lst [])) (s2.heap.push { cls:=.type "list",data:=.seq ([]:List Value).toArray }).objs.size fp (X.pn++pins)) [] τ H' s5 /\
   tn i s5.heap/\(∀b∈fp,H' b=none)/\W i m ys τ H')->codeAny (model X.prog X.w) X.A (.compLoop (.ListComp elt [⟨tg,iter,ifs,0⟩] sc pos) 0 (.ref it) (.ref s2.heap.objs.size) (compEnvC sc cl (s2.heap.push { cls:=.type "list",data:=.seq ([]:List Value).toArray }).objs.size X.env))
   (compPost (model X.prog X.w) X.A X.xe use Q' (.ref s2.heap.objs.size) (s2.heap.push { cls:=.type "list",data:=.seq ([]:List Value).toArray }).objs.size) s5:=by
  rintro s5 ⟨i0,m0',ys0,τ0,H0',I0,st0,fr0,w0'⟩
  refine J8 (λn s'=>∃i ys τ H',Inv (bc X N' sc cl { s2 with heap:=s2.heap.push { cls:=.type "list",data:=.seq ([]:List Value).toArray } } (upd H2 s2.heap.objs.size (.lst [])) (s2.heap.push { cls:=.type "list",data:=.seq ([]:List Value).toArray }).objs.size fp (X.pn++pins)) [] τ H' s' /\
   tn i s'.heap/\(∀b∈fp,H' b=none)/\W i n ys τ H') ?_ m0' ⟨i0,ys0,τ0,H0',I0,st0,fr0,w0'⟩
  rintro n s' ⟨i,ys,τ,H',I',st,fr,wv⟩
  obtain⟨hacc,hlen,alt⟩:=step i n ys τ H' wv
  rcases alt with⟨stop,q⟩| ⟨go,stp⟩
  .refine thn (T.done (bc X N' sc cl { s2 with heap:=s2.heap.push { cls:=.type "list",data:=.seq ([]:List Value).toArray } } (upd H2 s2.heap.objs.size (.lst [])) (s2.heap.push { cls:=.type "list",data:=.seq ([]:List Value).toArray }).objs.size fp (X.pn++pins)) rfl rfl rfl hc i [] s' τ H' _ I' (fpc fr) st stop) λr s6 ⟨hr,I6⟩=>?_
   subst hr
   obtain⟨m,hn,_⟩:=id I6.loc
   refine fin s6 _ _ H' m hn (I2.fpOk (by rw[Heap.size_push];exact Nat.le_succ _) I6.free) (λh' sb=>?_) q
   have un:Un (frs X.stack) fp H2 H' s2.heap h':=(Un.laid (o:=.lst []) (h':=s2.heap.push { cls:=.type "list",data:=.seq ([]:List Value).toArray }) (λb u e=>Heap.get?_push_of_some _ e) (Nat.le_refl _) nAcc).trans (I6.base.sameBut sb hC)
   exact I2.call' (s':={ s6 with heap:=h' }) (ch:=fp) I6.os un (I6.hok.sameBut sb I6.free) I6.bare λb hb=>⟨(f2 b hb).2.2.2.1,(f2 b hb).2.1,(f2 b hb).2.2.2.2.1,(f2 b hb).2.2.2.2.2⟩
  .refine thn (T.item (bc X N' sc cl { s2 with heap:=s2.heap.push { cls:=.type "list",data:=.seq ([]:List Value).toArray } } (upd H2 s2.heap.objs.size (.lst [])) (s2.heap.push { cls:=.type "list",data:=.seq ([]:List Value).toArray }).objs.size fp (X.pn++pins)) rfl rfl rfl hc i [] s' τ H' _ I' (fpc fr) st go) λr s6 ⟨u,hr,h6⟩=>?_
   subst hr
   refine thn h6 λ_ s7 ⟨x,H7,I7,rx,y7,st7,fr7⟩=>?_
   have I7':=I7.pinned (fpc fr7) (T.obj _ _ st7)
   refine thn (hg _ _ _ _ _ _ s7 τ H7 x u _ I7' rx (stp x H7 y7)) λ_ s8 ⟨τ8,H8,I8,q8⟩=>?_
   refine thn (ht _ _ _ _ _ _ s8 τ8 H8 _ I8 q8) λok s9 ⟨H9,I9,q9⟩=>?_
   have again:∀{τa:St}{Ha:Hp}{sa:Shared}{ysa:List V},Inv (bc X N' sc cl { s2 with heap:=s2.heap.push { cls:=.type "list",data:=.seq ([]:List Value).toArray } } (upd H2 s2.heap.objs.size (.lst [])) (s2.heap.push { cls:=.type "list",data:=.seq ([]:List Value).toArray }).objs.size fp (X.pn++pins)) ([]++Ce fp s7.heap) τa Ha sa ->
     (∃m',m'<n/\W (i+1) m' ysa τa Ha)->∃m',m'<n/\∃i ys τ H',Inv (bc X N' sc cl { s2 with heap:=s2.heap.push { cls:=.type "list",data:=.seq ([]:List Value).toArray } } (upd H2 s2.heap.objs.size (.lst [])) (s2.heap.push { cls:=.type "list",data:=.seq ([]:List Value).toArray }).objs.size fp (X.pn++pins)) [] τ H' sa /\
      tn i sa.heap/\(∀b∈fp,H' b=none)/\W i m' ys τ H':=fun{τa Ha sa ysa} Ia ⟨m',lt,wa⟩=>by
    refine⟨m',lt,i+1,ysa,τa,Ha,Ia.xr,T.keep _ _ _ st7 λb hb o e=>(Ia.pin (b,o) (List.mem_append_right _ (List.mem_append_right _ (oA hb e)))).1,λb hb=>?_,wa⟩
    obtain⟨o,e,_⟩:=T.obj _ _ st7 b hb
    exact(Ia.pin (b,o) (List.mem_append_right _ (List.mem_append_right _ (oA hb e)))).2.1
   cases ok with
   | false=>exact again I9 q9
   | true =>
    refine thn (he _ _ _ _ _ _ s9 τ8 H9 _ I9 q9) λv s10 ⟨y,H10,I10,ry,ha,hw⟩=>?_
    refine thn (Fq _ s10 τ8 H10 (.ref s2.heap.objs.size) [y] (.ref s2.heap.objs.size) [v] (λ_ Hq=>Hq=upd H10 s2.heap.objs.size (.lst (ys++[y]))) I10 rfl (.cons ry .nil) ⟨_,_,_,rfl,rfl,ha,hlen,rfl⟩) λ_ s11 ⟨_,H11,I11,_,e11⟩=>?_
    subst e11
    exact again I11 hw
 have start:∃i m ys τ H',Inv (bc X N' sc cl { s2 with heap:=s2.heap.push { cls:=.type "list",data:=.seq ([]:List Value).toArray } } (upd H2 s2.heap.objs.size (.lst [])) (s2.heap.push { cls:=.type "list",data:=.seq ([]:List Value).toArray }).objs.size fp (X.pn++pins)) [] τ H' { s2 with heap:=h1 } /\
   tn i h1/\(∀b∈fp,H' b=none)/\W i m ys τ H' :=
  ⟨0,m0,[],capS cap σ,_,I4,T.keep _ _ _ st2 λb hb o e=>keep _ _ (Heap.get?_push_of_some _ e),λb hb=>(f3 b hb).1,w0⟩
 exact codeAny_compStart_list (loop _ start) (T.self _ 0 _ _ _ (T.keep _ _ _ st2 λb hb o e=>keep _ _ (Heap.get?_push_of_some _ e)) (loop _ start))
theorem eF(S:Gb X sc cl N' cap)(hc:X.calm=true)(hi:PI X tg iter wi)(hg:∀s₀ H₀ C fp pn,PG (bc X N' sc cl s₀ H₀ C fp pn) tg g)(ht:∀s₀ H₀ C fp pn,vH (bc X N' sc cl s₀ H₀ C fp pn) ifs tt)
  (he:∀s₀ H₀ C fp pn,PE (bc X N' sc cl s₀ H₀ C fp pn) elt te) (hs:∀x,foldedSetIterable iter X.env x=pure x:=by intro _;rfl) :
  PE X (.ListComp elt [⟨tg,iter,ifs,0⟩] sc pos) (xg cap wi g tt te):=by
 intro pins s σ H Q I h
 rw[eval_ListComp]
 exact BK (use:=none) (Q':=EP X pins σ Q) S hc hi hg ht he hs I h λs6 C a H6 m hn _ hI q=>⟨m,hn,λh' sb=>⟨.ref a,H6,hI h' sb,rfl,q⟩⟩
theorem Cg{i:Nat}{x:Str}{pos' spos:Pos}(S:Gb X sc cl N' cap)(hc:X.calm=true)(hN:X.N.Nodup)(hi':X.N[i]?=some x)(hx:Loc X.env.scope x)(hi:PI X tg iter wi)(hg:∀s₀ H₀ C fp pn,PG (bc X N' sc cl s₀ H₀ C fp pn) tg g)(ht:∀s₀ H₀ C fp pn,vH (bc X N' sc cl s₀ H₀ C fp pn) ifs tt)
  (he:∀s₀ H₀ C fp pn,PE (bc X N' sc cl s₀ H₀ C fp pn) elt te) (hsw:swapsWith (.ListComp elt [⟨tg,iter,ifs,0⟩] sc pos) (some (.Name x pos')) spos.line X.env=pure true) (hs:∀x,foldedSetIterable iter X.env x=pure x:=by intro _;rfl)
  (hf:X.fn x=true∨X.env.scope.names.lookup x=some .local:=by first | exact .inl rfl | exact .inr rfl | assumption) :
  PS X (.Assign [.Name x pos'] (.ListComp elt [⟨tg,iter,ifs,0⟩] sc pos) spos) (tAsg (xg cap wi g tt te) (wC i)):=by
 intro pins s σ H D I h
 rw[exec_Assign_Name_used _ _ _ _ hsw]
 refine wpAny_bind (wpAny_standAt (wpAny_bind ?_))
 show wpAny _ _ (do let _ ←comprehension (.ListComp elt [⟨tg,iter,ifs,0⟩] sc pos) sc X.env _ (newList []) false (eval iter X.env) (some (assign (.Name x pos') X.env))) _ _ s
 refine wpAny_bind (wpAny_mono (BK (use:=some (assign (.Name x pos') X.env)) (Q':=λ_ s'=>SP X pins D .next s') S hc hi hg ht he hs I h λs6 C a H6 m hn fp hI q=>?_) (λ_ s' hq=>wpAny_pure (wpAny_pure hq)) λ_ _ e=>e)
 refine wpAny_assign_Name (FN (v:=.ref a) (hI _ (Heap.SameBut.refl _ _)) hN hi' hx rfl (λs7 I7 ⟨a7,sb7,ha7⟩=>?_) hf)
 have ne:C≠a7:=by
  rintro rfl
  rcases ha7 with e | e
  .exact fp.2.1 e
  .exact fp.2.2.2.2.1 _ _ e rfl
 refine⟨m,hn.sameBut sb7 ne,λh' sb=>?_⟩
 have un:Un (frs X.stack) [C] H6 H6 s7.heap h':=by
  have k:∀b o,s7.heap.get? b=some o->b∉[C]->h'.get? b=some o:=λb o e n=>(sb.2 b (λz=>n (by simp[z]))).trans e
  exact⟨λb o e _ _ n=>k b o e n,λb o e _ _ n=>⟨o.slots,k b o e n⟩,λ_ _ _ n _=>n,λb o e n=>⟨o,k b o e n⟩,λ_ _ q=>q,λ_ _ _ q=>q,λ_ ps q=>⟨#[],by simpa using q⟩⟩
 refine⟨_,H6,I7.call' (s':={ s7 with heap:=h' }) (ch:=[C]) rfl un (I7.hok.sameBut sb fp.1) I7.bare λb hb=>?_,q⟩
 obtain rfl:=List.mem_singleton.mp hb
 exact⟨fp.2.2.2.1,fp.2.1,fp.2.2.2.2.1,fp.2.2.2.2.2⟩
end
end L2
namespace L2
open PySem PySem.Spec PyProof.Rows
section
variable{X:Cx}{pins:List (Addr×Obj)}{σ:St}{H:Hp}{s:Shared}{h':Heap}
theorem Inv.vD{ch:List Addr}{a:Addr}{o:HO}{t':Nat}(I:Inv X pins σ H s)(hch:∀b∈ch,xP X pins H b)(k:∀b u,b∉ch->s.heap.get? b=some u->h'.get? b=some u)(ha:s.heap.objs.size<=a)
  (new:cL X.prog X.w (upd H a o) h' a o):Inv X pins σ (upd H a o) { s with heap:=h',toks:=t' }:=by
 have hn:H a=none:=I.hok.fresh ha
 have nch:∀b u,H b=some u->b∉ch:=λb u e z=>by rw[(hch b z).1] at e;cases e
 have nea:∀b u,s.heap.get? b=some u->b≠a:=λb u e=>Nat.ne_of_lt (Nat.lt_of_lt_of_le (Heap.lt_size e) ha)
 refine I.step (g':=s.gens) (d':=s.drawn) (ch:=ch) (λb hb=>?_) (λb u _ _ hc e _=>k b u hc e) (λb u _ _ hc e _=>⟨u.slots,k b u hc e⟩) (λb u hc e n=>by rw[aW (nea b u e)];exact n) (λb u hc e=>⟨u,k b u hc e⟩)
  (λb xs e=>by rw[aW (aV e hn)];exact e) (λb u xs e=>by rw[aW (aV e hn)];exact e) (λb ps e=>⟨#[],by rw[aW (aV e hn),e];simp⟩) (λm hm=>?_) (λb u e=>?_) I.bare
 .obtain⟨_,h2,_,h4,h5,h6⟩:=hch b hb
  exact⟨h4,h2,h5,h6⟩
 .obtain⟨o',es,ep,ho,r⟩:=hm
  exact⟨o',es,ep,k _ o' (λz=>(hch _ z).2.1 rfl) ho,r⟩
 .by_cases hb:b=a
  .subst hb
   rw[aO] at e
   cases e
   exact new
  .rw[aW hb] at e
   refine(I.hok b u e).stay (λc v hc q=>k c v ?_ q) (λc q=>by rw[aW (aV q hn)];exact q) λc xs q=>by rw[aW (aV q hn)];exact q
   rcases hc with z | z
   .rw[z];exact nch b u e
   .exact nch c _ z
end
def Ite(K:Frag)(a:Addr):It :=
 ⟨λi H=>∃xs x,SqL K H a xs/\xs[i]?=some x,λi H v H'=>∃p x,v=.ref p/\H p=none/\H'=upd H p (.tup [.int i,x])/\∀xs,SqL K H a xs->xs[i]?=some x,λi H=>∃xs,SqL K H a xs/\xs.length<=i⟩
theorem Rx{P:Program}{w:World}{K:Frag}{es:List Expr}{kk:Nat}{tp:Pos}(a e it:Addr)(hne:e≠it):
  Turn P w K (.Tuple es kk tp) (Ite K a) [e,it] e (λi h=>(∃old,IsEnum h e it (i:Nat) old)/\h.IsListIter it a i) where
 mem:=by simp
 obj:=λi h st b hb=>by
  obtain⟨⟨old,s1⟩,s2⟩:=st
  rcases List.mem_cons.mp hb with z | z
  .subst z
   exact⟨_,s1,λv q=>by
    have q':Data.fields _=Data.cell v:=q
    cases q'⟩
  .have z:b=it:=by simpa using z
   subst z
   obtain⟨o,e1,c,d⟩:=s2
   exact⟨o,e1,λv q=>by rw[d] at q;cases q⟩
 keep:=λi h h' st k=>by
  obtain⟨⟨old,s1⟩,s2⟩:=st
  exact⟨⟨old,k e (by simp) _ s1⟩,s2.at λo q=>k it (by simp) o q⟩
 item:=by
  intro X hP hw hK hc i pins s σ H E I hf st hg
  subst hP hw hK
  obtain⟨xs,x,hq,hx⟩:=hg
  obtain⟨⟨old,s1⟩,s2⟩:=st
  obtain⟨its,rv,p,hz⟩:=I.list hq
  obtain⟨u,hu,ru⟩:=rv.get hx
  refine wpAny_pyNext_enum_item s1 s2 p.isList (x:=u) (by simpa using hu) hne λh1 eo li tu sz kk'=>⟨_,rfl,wpAny_letOwnedTupleGo_enum eo λh2 ie sb=>?_⟩
  have hp:H s.heap.objs.size=none:=I.hok.fresh (Nat.le_refl _)
  have lt1:e<s.heap.objs.size:=Heap.lt_size s1
  have ne1:s.heap.objs.size≠e:=Nat.ne_of_gt lt1
  have tu2:h2.get? s.heap.objs.size=some { cls:=.type "tuple",data:=.seq #[.int i s.toks,u] }:=(sb.2 _ ne1).trans tu
  have I2:Inv X pins σ (upd H s.heap.objs.size (.tup [.int i,x])) { s with heap:=h2,toks:=s.toks+1 }:=I.vD (ch:=[e,it]) hf (λb o hb q=>by
    have hb1:b≠e:=λz=>hb (by simp[z])
    have hb2:b≠it:=λz=>hb (by simp[z])
    exact(sb.2 b hb1).trans (kk' b o hb1 hb2 q)) (Nat.le_refl _) ⟨by show 2<=sizeLine;decide,[.int i s.toks,u],.cons ⟨_,rfl⟩ (.cons ru .nil),_,tu2,rfl,0,rfl⟩
  refine⟨.ref s.heap.objs.size,_,I2,rfl,⟨_,x,rfl,hp,rfl,λys hy=>by rw[I.wO hy hq];exact hx⟩,⟨⟨u,?_⟩,?_⟩,λb hb=>?_⟩
  .have q:IsEnum h2 e it ((i:Int)+1) u:=ie
   rw[show ((i:Int)+1)=((i+1:Nat):Int) by omega] at q
   exact q
  .obtain⟨o,e1,r⟩:=li
   exact⟨o,(sb.2 it (Ne.symm hne)).trans e1,r⟩
  .have lt2:b<s.heap.objs.size:=by
    rcases List.mem_cons.mp hb with z | z
    .rw[z];exact lt1
    .have z:b=it:=by simpa using z
     rw[z]
     obtain⟨o,e1,_⟩:=s2
     exact Heap.lt_size e1
   rw[aW (Nat.ne_of_lt lt2)]
   exact(hf b hb).1
 done:=by
  intro X hP hw hK hc i pins s σ H E I hf st hg
  subst hP hw hK
  obtain⟨xs,hq,hx⟩:=hg
  obtain⟨⟨old,s1⟩,s2⟩:=st
  obtain⟨its,rv,p,hz⟩:=I.list hq
  obtain⟨f0,f1,f2,f3,f4,f5⟩:=hf it (by simp)
  have hl:=rv.length
  exact wpAny_pyNext_enum_end (I.ok.hd hc) s1 s2 p.isList (by simp;omega) λh' eb=>⟨rfl,I.turned (t':=s.toks) (λb o hb q=>eb b o hb q) f0 f1 f3 f4 f5⟩
 self:=λ_ _ _ _ _ st h=>wpAny_pyIter_enum st.1.choose_spec h
section
variable{X:Cx}
def iEnum(K:Frag)(ta:TA):TI:=λσ H R=>ta σ H λvs H1=>∃a,vs=[.ref a]/\(∃xs,SqL K H1 a xs)/\R (Ite K a) H1
theorem pi_enum{es:List Expr}{kk:Nat}{tp:Pos}{l:Expr}{ta:TA}{p pos:Pos}(hg:Gl X "enumerate")(hm:X.mg "enumerate"=none)(ha:PA X [l] ta)(hs:starEach [l] X.env=[(false,eval l X.env)]:=by rfl):
  PI X (.Tuple es kk tp) (.Call (.Name "enumerate" p) [l] [] pos) (iEnum X.K ta):=by
 intro pins s σ H R I h
 refine Call_ (ou I hg hm PyProof.Rows.boot_enumerate (PyProof.Rows.callWith_type1 (thn (ha pos pins s σ H _ I h) λus s1 ⟨vs,H1,I1,r1,q1⟩=>?_) hs rfl))
 obtain⟨a,e,⟨xs,hq⟩,q⟩:=q1
 subst e
 cases r1 with
 | cons r rr =>
  cases rr
  cases r
  obtain⟨its,rv,pl,hz⟩:=I1.list hq
  refine call_enumerate_list pl.isList λh' ie li sz kp=>?_
  refine wpAny_pyIter_enum (it:=s1.heap.objs.size) (i:=0) (old:=.none) ie ?_
  have I2:Inv X pins σ H1 { s1 with heap:=h' }:=I1.kept (t':=s1.toks) kp
  refine⟨s1.heap.objs.size+1,[s1.heap.objs.size+1,s1.heap.objs.size],_,_,H1,rfl,I2,Rx a (s1.heap.objs.size+1) s1.heap.objs.size (Nat.succ_ne_self _),⟨⟨.none,ie⟩,li⟩,λb hb=>?_,q⟩
  have hb':s1.heap.objs.size<=b:=by
   rcases List.mem_cons.mp hb with z | z
   .rw[z];exact Nat.le_succ _
   .have z:b=s1.heap.objs.size:=by simpa using z
    exact Nat.le_of_eq z.symm
  obtain⟨g1,g2,g3,g4,g5,g6⟩:=I1.fpOk hb' (I1.hok.fresh hb')
  exact⟨g1,g2,g3,g4,g5,g6⟩
end
theorem Rr(a b c:Str):a++b++c=a++(b++c):=by
 obtain⟨a⟩:=a
 obtain⟨b⟩:=b
 obtain⟨c⟩:=c
 show Str.mk (a++b++c)=Str.mk (a++(b++c))
 rw[Array.append_assoc]
theorem str_nil(a:Str):a++Str.empty=a:=by
 obtain⟨a⟩:=a
 show Str.mk (a++#[])=Str.mk a
 rw[Array.append_empty]
theorem nil_str(a:Str):Str.empty++a=a:=by
 obtain⟨a⟩:=a
 show Str.mk (#[]++a)=Str.mk a
 rw[Array.empty_append]
theorem str_len(a b:Str):(a++b).length=a.length+b.length:=by
 obtain⟨a⟩:=a
 obtain⟨b⟩:=b
 show (a++b).size=a.size+b.size
 rw[Array.size_append]
abbrev TX:=St->Hp->(Str->Hp->Prop)->Prop
def PX(X:Cx)(e:Expr)(t:TX):Prop :=
 ∀(pins:List (Addr×Obj))(s:Shared)(σ:St)(H:Hp)(Q:Str->Hp->Prop),Inv X pins σ H s->t σ H Q ->
  wpAny (model X.prog X.w) X.A (eval e X.env) (λu s'=>∃x k H',u=.str x k/\Inv X pins σ H' s'/\Q x H') X.xe s
def PXs(X:Cx)(es:List Expr)(t:TX):Prop :=
 ∀(out:Str)(pins:List (Addr×Obj))(s:Shared)(σ:St)(H:Hp)(Q:Str->Hp->Prop),out.length+1000000*(es.length+1)<=sizeLine->Inv X pins σ H s->t σ H (λy H'=>Q (out++y) H') ->
  wpAny (model X.prog X.w) X.A (joinParts out (evalEach es X.env)) (λu s'=>∃x k H',u=.str x k/\Inv X pins σ H' s'/\Q x H') X.xe s
section
variable{X:Cx}{e:Expr}{es:List Expr}{pos:Pos}
def xLit(x:Str):TX:=λ_ H Q=>Q x H
def fmtS:V->Str
 | .int i=>toString i
 | .str y=>y
 | _=>Str.empty
def fmtOk:V->Prop
 | .int i=>i.natAbs.log2<1920
 | .str y=>y.length<=100000
 | _=>False
def xFld(te:TE):TX:=λσ H Q=>te σ H λv H1=>fmtOk v/\Q (fmtS v) H1
theorem px_lit{x:Str}{k}:PX X (.Constant (.str x) k pos) (xLit x):=λ_ _ _ H _ I h=>Calls.Constant_str ⟨x,_,H,rfl,I.tok _,h⟩
theorem px_fld{te:TE}(he:PE X e te):PX X (.FormattedValue e (-1) none pos) (xFld te):=by
 intro pins s σ H Q I h
 refine FormattedValue_plain (thn (he pins s σ H _ I h) λu s1 ⟨v,H1,I1,r,q⟩=>?_)
 obtain⟨hd,q⟩:=q
 cases v with
 | int i =>
  obtain⟨t,rfl⟩:=r
  exact formatField_int_small hd ⟨_,_,H1,rfl,(I1.tok _).tok _,q⟩
 | str y =>
  obtain⟨t,rfl⟩:=r
  exact formatField_str (λt' tk=>⟨y,t',H1,rfl,I1.tok tk,q⟩) (Nat.le_trans (show y.length<=100000 from hd) (by rw[sizeLine_eq];decide))
 | _=>exact(show False from hd).elim
def xNil:TX:=λ_ H Q=>Q Str.empty H
def xCons(ta tr:TX):TX:=λσ H Q=>ta σ H λx H1=>x.length<=1000000/\tr σ H1 λy H2=>Q (x++y) H2
theorem pxs_nil:PXs X [] xNil:=λout pins s σ H Q hz I h=>joinParts_nil ⟨_,_,H,rfl,I.tok _,by
 have z:Q (out++Str.empty) H:=h
 rw[str_nil] at z
 exact z⟩ (by omega)
theorem pxs_cons{ta tr:TX}(ha:PX X e ta)(hr:PXs X es tr):PXs X (e::es) (xCons ta tr):=by
 intro out pins s σ H Q hz I h
 refine joinParts_consE (joinParts_cons (thn (ha pins s σ H _ I h) λu s1 ⟨x,k,H1,eu,I1,lx,q⟩=>?_))
 subst eu
 have hl:(out++x).length<=out.length+1000000:=by rw[str_len];omega
 rw[List.length_cons] at hz
 have ar:∀S a b M c:Nat,a<=b+c->b+(M+c)<=S->a<=S/\a+M<=S:=λS a b M c h1 h2=>⟨by omega,by omega⟩
 rw[Nat.mul_succ] at hz
 obtain⟨z1,z2⟩:=ar _ _ _ _ _ hl hz
 refine⟨z1,hr (out++x) pins s1 σ H1 Q z2 I1 ?_⟩
 have e:(λy H2=>Q (out++x++y) H2)=λy H2=>Q (out++(x++y)) H2:=by
  funext y H2
  rw[Rr]
 rw[e]
 exact q
theorem pe_fstr{e1 e2:Expr}{t:TX}(h:PXs X (e1::e2::es) t)(hz:es.length<=10):PE X (.JoinedStr (e1::e2::es) pos) (λσ H Q=>t σ H λy H'=>Q (.str y) H'):=by
 intro pins s σ H Q I hq
 refine JoinedStr_many (thn (h Str.empty pins s σ H (λy H'=>Q (.str y) H') (by
  rw[List.length_cons,List.length_cons,sizeLine_eq]
  show 0+_<=_
  omega) I (by
   have e:(λy H'=>Q (.str (Str.empty++y)) H')=λy H'=>Q (.str y) H':=by
    funext y H'
    rw[nil_str]
   show t σ H (λy H'=>Q (.str (Str.empty++y)) H')
   rw[e]
   exact hq)) λu s1 ⟨x,k,H1,eu,I1,q⟩=>⟨.str x,H1,I1,⟨k,eu⟩,q⟩)
end
end L2
namespace L2
open PySem PySem.Spec PyProof.Rows MX
section
variable{X:Cx}{CX:CXT}{k:Nat}{f C:Addr}{fd:FuncData}{ps:List Str}{sp:Sp}{dvs:List V}{ds:List Value}{E:XK}{x m:Str}{p pos apos:Pos}{e:Expr}{es:List Expr}{t:TA}
structure zW(K:Frag)(C:Addr)(m:Str)(v:Value):Prop where
 sp:PySem.W.specialIn K (.ref C) "__getattribute__"=some (some (.builtin "type.__getattribute__"))
 rd:PySem.W.readsIn K C (.type "type")=true
 at_:PySem.W.findCls K (.ref C) (.type "type") m=some (.val v)
theorem Lr{pl:Sem Bool}(F:bY X.prog X.w X.K X.mg X.base CX k f fd ps sp)(hr:cZ k X.A)(hg:Gl X x)(hm:X.mg x=some (.ref C))(ca:zW X.K C m (.ref f))(hk:keepIn X.K (.ref f)=true)(hb:Binds X.K fd ps ds)(hd:Vals dvs ds)(hx:lZ CX X E)
  (ha:PA X (e::es) t) (hdb:(x==("__debug__":Str))=false:=by decide) (he:starEach (e::es) X.env=(false,eval e X.env)::starEach es X.env:=by rfl) (hpl:(backTo pos (starEach es X.env)).any (·.1)=false:=by rfl)
  (ht:eval (.Call (.Attribute (.Name x p) m apos) (e::es) [] pos) X.env=(do
   let ov ←eval (.Name x p) X.env
   standAt apos.atName
   let (f,first) ←holding [ov] (getMethod ov m pl)
   callWith pos f first (backTo pos (starEach (e::es) X.env)) (backToKw pos (keywordEach [] X.env))):=by rfl) :
  PE X (.Call (.Attribute (.Name x p) m apos) (e::es) [] pos) (FQ sp dvs E t):=by
 intro pins s σ H Q I h
 refine PySem.W.methodCall_KW (pl:=pl) (wN I hg hm ?_ hdb) ht
 refine PySem.W.method_cls I.kIn ca.sp (PySem.W.cls_value I.kIn ca.rd ca.at_ rfl ?_)
 have I1:=I.tok (s.toks+1)
 refine PySem.W.callWith_K (first:=[]) (h₀:=X.base) I.ok.mod.kin hk (thn (ha pos pins _ σ H _ I1 h) λus s1 ⟨vs,H1,I2,r,q⟩=>⟨I2.kIn,?_⟩) he hpl
 exact Jf F hr hb hd hx I2 r q
end
def excP(n:Bool)(C:Addr)(dd:Option Addr)(e:Addr)(h:Heap):Prop:=∃o vs t,h.get? e=some o/\o.cls=.ref C/\o.dict=dd/\o.data=.fields vs/\vs[0]?=some (.ref t)/\(n=true->vs=#[.ref t,.none,.none,.none,.bool false,.none])
def xdP(fs:List (Str×V))(d:Addr)(h:Heap):Prop:=∃mA,h.Ns1 d mA/\(∀f,nH (fs.lookup f) (mA f))/\PySem.Within mA (fs.map (·.1))
abbrev HO.exc(n:Bool)(C:Addr)(dd:Option Addr)(e:Addr):HO:=.ext (excP n C dd e)
abbrev HO.xds(fs:List (Str×V))(d:Addr):HO:=.ext (xdP fs d)
section
variable{X:Cx}{CX:CXT}{k:Nat}{f C N:Addr}{fd:FuncData}{ps:List Str}{sp:Sp}{dvs:List V}{ds:List Value}{E:XK}{x m:Str}{p pos apos:Pos}{e:Expr}{es:List Expr}{t:TA}
end
end L2
namespace L2
open PySem PySem.Spec PyProof.Rows MX
section
variable{X:Cx}{pins:List (Addr×Obj)}{σ:St}{H:Hp}{s:Shared}{h':Heap}
end
section
variable{X:Cx}{o e value:Expr}{f:Str}{pos pos':Pos}{ta tv:TE}
inductive TyX (K:Frag) (H:Hp):V->Value->Prop where
 | of {x:V} {t:Value} (h:xY K H x t):TyX K H x t
 | e0 {n:Bool} {a C:Addr} (h:H a=some (.exc n C none a)) (g:ExcGet K C):TyX K H (.ref a) (.ref C)
 | e1 {n:Bool} {a C d:Addr} {fs:List (Str×V)} (h:H a=some (.exc n C (some d) a)) (h':H d=some (.xds fs d)) (g:ExcGet K C):TyX K H (.ref a) (.ref C)
 | kt {a:Addr} {xs:List V} (h:SqT K H a xs):TyX K H (.ref a) (.type "tuple")
def clsV:V->Value
 | .ref C=>.ref C
 | .ty n=>.type n
 | _=>.none
def rIsi(K:Frag)(xs:List V)(H:Hp)(Q:VK):Prop:=∃x c t b,xs=[x,c]/\(c=.ref (match c with | .ref C=>C | _=>0)∨c=.ty (match c with | .ty n=>n | _=>""))/\TyX K H x t/\PySem.W.kitOne K t (clsV c)=some b/\Q (.bl b) H
theorem call_isi:jo X (.builtin "isinstance") (rIsi X.K):=by
 intro pins s σ H xs us Q I r h
 obtain⟨x,c,t,b,rfl,hc,ty,ek,q⟩:=h
 cases r with
 | @cons _ u _ _ rx rr =>
  cases rr with
  | @cons _ cu _ _ rc rr =>
   cases rr
   have ec:cu=clsV c:=by
    rcases hc with z | z <;> · rw[z] at rc ⊢;exact rc
   subst ec
   have fin:∀tk,EP X pins σ Q (.bool b) { s with toks:=tk }:=λtk=>⟨.bl b,H,I.tok tk,rfl,q⟩
   cases ty with
   | of ty=>exact Q6 I rx ty ek fin
   | @e0 n a C hH G =>
    cases rx
    obtain⟨⟨ob,vs,t0,e1,e2,e3,e4,e5⟩,_,_⟩:=I.hok a _ hH
    have IA:PySem.W.InstAt s.heap a ob C none:=⟨e1,e2,by unfold PySem.W.notCls;rw[e4],by rw[e3];trivial⟩
    exact PySem.W.kia_one (excKit G) I.kIn IA ek (λz=>nomatch z) fin
   | @e1 n a C d fs hH hD G =>
    cases rx
    obtain⟨⟨ob,vs,t0,e1,e2,e3,e4,e5⟩,_,_⟩:=I.hok a _ hH
    obtain⟨⟨mA,n1,rl,wi⟩,_,_⟩:=I.hok d _ hD
    obtain⟨oD,esD,epD,eD,_⟩:=n1
    have IA:PySem.W.InstAt s.heap a ob C (some oD):=⟨e1,e2,by unfold PySem.W.notCls;rw[e4],by rw[e3];exact eD⟩
    exact PySem.W.kia_one (excKit G) I.kIn IA ek (λz=>nomatch z) fin
   | @kt a xs hs =>
    cases rx
    obtain⟨its,_,⟨o,h1,h2,_⟩,_⟩:=I.tuple hs
    exact PySem.W.kia_one PySem.W.kitx_tuple I.kIn ⟨o,h1,h2⟩ ek (λz=>nomatch z) fin
end
end L2
namespace L2
open PySem PySem.Spec PyProof.Rows
mutual
inductive xO (K:Frag) (H:Hp):V->PyData->Prop
 | non:xO K H .non .none
 | bl (b:Bool):xO K H (.bl b) (.bool b)
 | int (i:Int):xO K H (.int i) (.int i)
 | str (x:Str):xO K H (.str x) (.str x)
 | lst {a:Addr} {xs:List V} {ds:List PyData} (h:SqL K H a xs) (r:fY K H xs ds):xO K H (.ref a) (.list ds)
 | tup {a:Addr} {xs:List V} {ds:List PyData} (h:SqT K H a xs) (r:fY K H xs ds):xO K H (.ref a) (.tuple ds)
inductive fY (K:Frag) (H:Hp):List V->List PyData->Prop
 | nil:fY K H [] []
 | cons {x:V} {xs:List V} {d:PyData} {ds:List PyData} (h:xO K H x d) (r:fY K H xs ds):fY K H (x::xs) (d::ds)
end
section
variable{X:Cx}{pins:List (Addr×Obj)}{σ:St}{H:Hp}{s:Shared}
mutual
theorem xO.reads(I:Inv X pins σ H s):∀{x:V}{d:PyData}{u:Value},xO X.K H x d->RelV x u->∃as,Reads s.heap u d as
 | _,_,_,.non,r=>by cases r;exact⟨_,.none⟩
 | _,_,_,.bl b,r=>by cases r;exact⟨_,.bool b⟩
 | _,_,_,.int i,r=>by obtain⟨t,rfl⟩:=r;exact⟨_,.int i t⟩
 | _,_,_,.str x,r=>by obtain⟨t,rfl⟩:=r;exact⟨_,.str x t⟩
 | _,_,_,.lst h q,r=>by
  cases r
  obtain⟨its,rv,p,_⟩:=I.list h
  obtain⟨as,z⟩:=fY.reads I q rv
  obtain⟨o,e,c,n,dd⟩:=p.isList
  exact⟨_,.list e c dd (by simpa using z)⟩
 | _,_,_,.tup h q,r=>by
  cases r
  obtain⟨its,rv,p,_⟩:=I.tuple h
  obtain⟨as,z⟩:=fY.reads I q rv
  obtain⟨o,e,c,n,dd⟩:=p
  exact⟨_,.tuple e c dd (by simpa using z)⟩
theorem fY.reads(I:Inv X pins σ H s):∀{xs:List V}{ds:List PyData}{us:List Value},fY X.K H xs ds->Vals xs us->∃as,ReadsAll s.heap us ds as
 | _,_,_,.nil,.nil=>⟨_,.nil⟩
 | _,_,_,.cons h q,.cons r rr=>by
  obtain⟨as,z⟩:=xO.reads I h r
  obtain⟨bs,y⟩:=fY.reads I q rr
  exact⟨_,.cons z y⟩
end
end
def rEqD(K:Frag)(neg:Bool):R2:=λx y H Q=>∃da db,xO K H x da/\xO K H y db/\da.canLay0=true/\db.canLay0=true/\da.depth<=50/\Q (.bl (PyData.eqv da db != neg)) H
section
variable{X:Cx}
theorem op_eqD(hu:X.A.units+64<cLine):OpR X (compareOp .Eq) (rEqD X.K false):=by
 intro pins s σ H x y v u Q I rx ry h
 obtain⟨da,db,d1,d2,c1,c2,dp,q⟩:=h
 obtain⟨as,r1⟩:=d1.reads I rx
 obtain⟨bs,r2⟩:=d2.reads I ry
 exact SeqAt.compareEq_reads r1 r2 c1 c2 (by omega) ⟨.bl (PyData.eqv da db),H,I,rfl,by simpa using q⟩
theorem op_neD(hu:X.A.units+64<cLine):OpR X (compareOp .NotEq) (rEqD X.K true):=by
 intro pins s σ H x y v u Q I rx ry h
 obtain⟨da,db,d1,d2,c1,c2,dp,q⟩:=h
 obtain⟨as,r1⟩:=d1.reads I rx
 obtain⟨bs,r2⟩:=d2.reads I ry
 exact SeqAt.compareNe_reads r1 r2 c1 c2 (by omega) ⟨.bl (!PyData.eqv da db),H,I,rfl,by simpa using q⟩
theorem op_mulS:OpR X (binaryOp .Mult) (λx y H Q=>∃i n,x=.str i/\y=.int n/\i.length<=1000/\0<=n/\n<=1000/\Q (.str (Txt.mul i n)) H):=by
 intro pins s σ H x y v u Q I rx ry h
 obtain⟨i,n,rfl,rfl,h1,h2,h3,q⟩:=h
 obtain⟨t,rfl⟩:=rx
 obtain⟨t',rfl⟩:=ry
 exact PySem.SB.mul (mulOk_of 1000 1000 h1 (by omega) (by omega) (by decide) (by decide)) λt'' k=>⟨.str (Txt.mul i n),H,I.tok k,⟨_,rfl⟩,q⟩
end
end L2
namespace L2
open PySem PySem.Spec PyProof.Rows
section
variable{κ:Type}[DecidableEq κ]
def kY(kvs:List (κ×V))(k:κ):Option V:=(kvs.find? λkv=>decide (kv.1=k)).map (·.2)
def putK(kvs:List (κ×V))(k:κ)(v:V):List (κ×V) :=
 if (kvs.any λkv=>decide (kv.1=k))=true then kvs.map (λkv=>if kv.1=k then (kv.1,v) else kv) else kvs++[(k,v)]
theorem xx{p:κ×V}{r:List (κ×V)}{k:κ}(e:p.1=k):kY (p::r) k=some p.2:=by simp[kY,List.find?_cons,e]
theorem xu{p:κ×V}{r:List (κ×V)}{k:κ}(e:¬p.1=k):kY (p::r) k=kY r k:=by simp[kY,List.find?_cons,e]
theorem MK(k:κ):∀kvs:List (κ×V),(kvs.any λkv=>decide (kv.1=k))=(kY kvs k).isSome
 | []=>rfl
 | p::r=>by
  rw[List.any_cons]
  by_cases e:p.1=k
  .simp only[xx e,decide_eq_true e,Bool.true_or,Option.isSome_some]
  .rw[xu e,decide_eq_false e,Bool.false_or];exact MK k r
theorem K7(kvs:List (κ×V))(k:κ)(v:V):(putK kvs k v).length<=kvs.length+1:=by
 unfold putK
 split
 .rw[List.length_map];omega
 .rw[List.length_append,List.length_cons,List.length_nil];omega
theorem nH.Fg{o:Option V}{u:Option Value}(r:nH o u):o.isSome=u.isSome:=by
 cases o with
 | none=>cases u with
  | none=>rfl
  | some _=>exact(show False from r).elim
 | some _=>cases u with
  | none=>exact(show False from r).elim
  | some _=>rfl
theorem nH.getD{o:Option V}{u:Option Value}{d:V}{d':Value}(r:nH o u)(rd:RelV d d'):RelV (o.getD d) (u.getD d'):=by
 cases o with
 | none=>cases u with
  | none=>exact rd
  | some _=>exact(show False from r).elim
 | some _=>cases u with
  | none=>exact(show False from r).elim
  | some _=>exact r
theorem KV.val{kvs:List (κ×V)}{vs:List (κ×Value)}(r:KV kvs vs)(k:κ):nH (kY kvs k) (valueAt vs k):=by
 unfold KV at r
 induction r with
 | nil=>exact True.intro
 | @cons p q ps qs h t ih =>
  obtain⟨h1,h2⟩:=h
  by_cases e:p.1=k
  .have e':q.1=k:=h1.symm.trans e
   have b:valueAt (q::qs) k=some q.2:=by simp[valueAt,List.find?_cons,e']
   rw[xx e,b];exact h2
  .have e':¬q.1=k:=λz=>e (h1.trans z)
   have b:valueAt (q::qs) k=valueAt qs k:=by simp[valueAt,List.find?_cons,e']
   rw[xu e,b];exact ih
theorem KV.any{kvs:List (κ×V)}{vs:List (κ×Value)}(r:KV kvs vs)(k:κ):(kvs.any λkv=>decide (kv.1=k))=vs.any λkv=>decide (kv.1=k):=by
 unfold KV at r
 induction r with
 | nil=>rfl
 | cons h t ih=>rw[List.any_cons,List.any_cons,ih,h.1]
theorem KV.repl{kvs:List (κ×V)}{vs:List (κ×Value)}(r:KV kvs vs)(k:κ){y:V}{u:Value}(ry:RelV y u):
  KV (kvs.map λkv=>if kv.1=k then (kv.1,y) else kv) (vs.map λkv=>if kv.1=k then (kv.1,u) else kv):=by
 unfold KV at r ⊢
 induction r with
 | nil=>exact .nil
 | @cons p q ps qs h t ih =>
  rw[List.map_cons,List.map_cons]
  refine .cons ?_ ih
  obtain⟨h1,h2⟩:=h
  by_cases e:p.1=k
  .rw[if_pos e,if_pos (h1.symm.trans e)];exact⟨h1,ry⟩
  .rw[if_neg e,if_neg (λz=>e (h1.trans z))];exact⟨h1,h2⟩
theorem KV.put{kvs:List (κ×V)}{vs:List (κ×Value)}(r:KV kvs vs)(k:κ){y:V}{u:Value}(ry:RelV y u):KV (putK kvs k y) (stored vs k u):=by
 unfold putK stored
 rw[r.any k]
 by_cases e:(vs.any λkv=>decide (kv.1=k))=true
 .rw[if_pos e,if_pos e];exact r.repl k ry
 .rw[if_neg e,if_neg e];exact Paired.snoc r ⟨rfl,ry⟩
theorem KV.length{kvs:List (κ×V)}{vs:List (κ×Value)}(r:KV kvs vs):kvs.length=vs.length:=Paired.length r
end
theorem K4{P:Program}{w:World}{k:Key}{u:Value}(r:RelV (kV k) u):(cV P w).is k u=true:=by
 cases k with
 | inl i=>obtain⟨t,e⟩:=(show ∃t,u=Value.int i t from r);subst e;exact Lb P w i t
 | inr x=>obtain⟨t,e⟩:=(show ∃t,u=Value.str x t from r);subst e;exact Ld P w x t
theorem Fi{P:Program}{w:World}:∀{ks:List Key}{us:List Value},Vals (ks.map kV) us->ItemsAre (cV P w) ks us
 | [],_,r=>by rw[List.map_nil] at r;cases r;exact .nil
 | k::ks,_,r=>by
  rw[List.map_cons] at r
  cases r with
  | cons h t=>exact .cons (K4 h) (Fi t)
abbrev KT(H:Hp):List (List Key×V)->List (List Key×Addr×Value)->Prop:=Paired λp q=>p.1=q.1/\H q.2.1=some (.tup (p.1.map kV))/\RelV p.2 q.2.2
theorem KT.val{H:Hp}{kvs:List (List Key×V)}{xs:List (List Key×Addr×Value)}(r:KT H kvs xs)(k:List Key):nH (kY kvs k) ((atKey xs k).map (·.2)):=by
 induction r with
 | nil=>exact True.intro
 | @cons p q ps qs h t ih =>
  obtain⟨h1,_,h2⟩:=h
  by_cases e:p.1=k
  .have e':q.1=k:=h1.symm.trans e
   have b:atKey (q::qs) k=some q.2:=by simp[atKey,List.find?_cons,e']
   rw[xx e,b];exact h2
  .have e':¬q.1=k:=λz=>e (h1.trans z)
   have b:atKey (q::qs) k=atKey qs k:=by simp[atKey,List.find?_cons,e']
   rw[xu e,b];exact ih
section
variable{P:Program}{w:World}{H:Hp}{h:Heap}{a:Addr}
theorem rd_of{u:HO}(ok:HOk P w H h)(e:Rd H a u):cL P w H h a u:=e.ok ok
theorem Ex{kvs:List (Key×V)}(ok:HOk P w H h)(e:Rd H a (.dK kvs)):kvs.length<=sizeLine/\(a==sysModules)=false/\∃vs,KV kvs vs/\h.DictOf (cV P w) a vs :=
 show cL P w H h a (.dK kvs) from rd_of ok e
theorem dk_of{kvs:List (Key×V)}(ok:HOk P w H h)(e:H a=some (.dK kvs)):kvs.length<=sizeLine/\(a==sysModules)=false/\∃vs,KV kvs vs/\h.DictOf (cV P w) a vs:=Ex ok (.inl e)
theorem Hy{ks:List Key}(ok:HOk P w H h)(e:H a=some (.tup (ks.map kV))):(tupleKind (cV P w)).is h ks a:=by
 obtain⟨_,its,r,o,h1,h2,n,h3⟩:=(show cL P w H h a (.tup (ks.map kV)) from ok a _ e)
 exact⟨o,its.toArray,n,h1,h2,h3,by simpa using Fi r⟩
theorem Kh{kvs:List (List Key×V)}(ok:HOk P w H h)(e:Rd H a (.dT kvs)):kvs.length<=sizeLine/\(a==sysModules)=false /\
  ∃xs,KT H kvs xs/\h.DictOfH (tupleKind (cV P w)) a xs:=by
 obtain⟨z,y,xs,r,o,es,ep,h1,h2,h3,h4,h5⟩:=(show cL P w H h a (.dT kvs) from rd_of ok e)
 refine⟨z,y,xs,r,o,es,ep,h1,h2,h3,h4,λx hx=>?_,h5⟩
 have all:∀{l:List (List Key×V)}{m:List (List Key×Addr×Value)},KT H l m->∀x∈m,(tupleKind (cV P w)).is h x.1 x.2.1:=by
  intro l m q
  induction q with
  | nil=>intro x hx;exact nomatch hx
  | @cons p q ps qs hq t ih =>
   intro x hx
   rcases List.mem_cons.mp hx with e | hx
   .subst e
    exact Hy ok (by rw[←hq.1];exact hq.2.1)
   .exact ih x hx
 exact all r x hx
end
def xJ(H:Hp)(a:Addr)(y:V)(r:Option V):Prop :=
 (∃kvs k,Rd H a (.dK kvs)/\y=kV k/\r=kY kvs k)∨∃kvs k b,Rd H a (.dT kvs)/\y=.ref b/\H b=some (.tup (k.map kV))/\r=kY kvs k
theorem xJ.k{H:Hp}{a:Addr}{kvs:List (Key×V)}{k:Key}(e:H a=some (.dK kvs)):xJ H a (kV k) (kY kvs k):=.inl ⟨kvs,k,.inl e,rfl,rfl⟩
section
variable{X:Cx}{pins:List (Addr×Obj)}{σ:St}{H:Hp}{s:Shared}{a:Addr}{y v:V}{u r:Value}{o:Option V}{A:Around}{E:Value->Shared->Prop}
theorem Inv.big(I:Inv X pins σ H s):sysModules<s.heap.objs.size:=by
 have h:mainGlobals<s.heap.objs.size:=(I.mod.glob.keeps I.bk).lt
 exact Nat.lt_trans (by decide) h
theorem QJ{Q:Value->Shared->Prop}(hu:A.units+1<cLine)(I:Inv X pins σ H s)(g:xJ H a y (some v))(ry:RelV y u)(h:∀w' s',Inv X pins σ H s'->RelV v w'->Q w' s'):
  wpAny (model X.prog X.w) A (getItem (.ref a) u) Q E s:=by
 rcases g with⟨kvs,k,e,ey,l⟩| ⟨kvs,k,b,e,ey,eb,l⟩
 .subst ey
  obtain⟨z,hd,vs,rel,dd⟩:=Ex I.hok e
  obtain⟨w',hw,rw'⟩:=nH.some_of (v:=v) (o:=valueAt vs k) (by rw[l];exact rel.val k)
  exact wpAny_getItem_of (K4 ry) dd.mapOf hw (h w' _ (I.tok _) rw')
 .subst ey
  cases (show u=Value.ref b from ry)
  obtain⟨z,hd,xs,rel,dd⟩:=Kh I.hok e
  obtain⟨w',hw,rw'⟩:=nH.some_of (v:=v) (o:=(atKey xs k).map (·.2)) (by rw[l];exact rel.val k)
  obtain⟨p,hp,hp2⟩:=Option.map_eq_some_iff.mp hw
  refine wpAny_getItem_heap (tupleKind_room_in1 hu) (Hy I.hok eb) dd hp ?_
  rw[hp2]
  exact h w' _ (I.tok _) rw'
theorem d_in{Q:Value->Shared->Prop}(hu:A.units+1<cLine)(I:Inv X pins σ H s)(g:xJ H a y o)(ry:RelV y u)(h:∀s',Inv X pins σ H s'->Q (.bool o.isSome) s'):
  wpAny (model X.prog X.w) A (compareOp .In u (.ref a)) Q E s:=by
 rcases g with⟨kvs,k,e,ey,l⟩| ⟨kvs,k,b,e,ey,eb,l⟩
 .subst ey
  obtain⟨z,hd,vs,rel,dd⟩:=Ex I.hok e
  refine wpAny_in_of (K4 ry) hd dd.mapOf ?_
  rw[←(rel.val k).Fg,←l]
  exact h _ (I.tok _)
 .subst ey
  cases (show u=Value.ref b from ry)
  obtain⟨z,hd,xs,rel,dd⟩:=Kh I.hok e
  refine wpAny_in_heap (tupleKind_room_in1 hu) (Hy I.hok eb) hd dd ?_
  have q:=(rel.val k).Fg
  rw[Option.isSome_map] at q
  rw[←q,←l]
  exact h _ (I.tok _)
theorem d_write{h':Heap}{t':Nat}{ob:HO}(I:Inv X pins σ H s)(mu:Mut (H a))(hs:Heap.SameBut a s.heap h')(he:∃q,h'.get? a=some q)(new:cL X.prog X.w (upd H a ob) h' a ob):
  Inv X pins σ (upd H a ob) { s with heap:=h',toks:=t' } :=
 I.write (x:=a) (e:=a) mu (.inl rfl) (λb q hb z=>(hs.2 b hb).trans z) he new
theorem dk_new{P:Program}{w:World}{H':Hp}{h':Heap}{kvs:List (Key×V)}{vs:List (Key×Value)}(z:kvs.length<=sizeLine)(hd:(a==sysModules)=false)(rel:KV kvs vs)(dd:h'.DictOf (cV P w) a vs):
  cL P w H' h' a (.dK kvs):=⟨z,hd,vs,rel,dd⟩
end
section
variable{X:Cx}{pins:List (Addr×Obj)}{σ:St}{H:Hp}{s:Shared}{a:Addr}{kvs:List (Key×V)}{k:Key}{u:Value}{A:Around}{E:Value->Shared->Prop}
end
def NoSl(i:Expr):Prop:=∀ov iv,subscripted i false ov iv=operate [ov,iv] (getItem ov iv)
theorem subD_of{prog:Program}{w:World}{A:Around}{E:Value->Shared->Prop}{s:Shared}{env:Env}{value slice:Expr}{pos:Pos}{T id:String}{Q:Value->Shared->Prop}
  (hl:typeLookup (.type T) "__getitem__"=pure (some (.builtin id))) (hs:NoSl slice)
  (h:wpAny (model prog w) A (eval value env) (λo s₁=>wpAny (model prog w) A (eval slice env) (λi s₂=>s₂.TypeIs o T/\wpAny (model prog w) A (getItem o i) Q E s₂) E s₁) E s) :
  wpAny (model prog w) A (eval (.Subscript value slice pos) env) Q E s:=by
 refine Subscript_ (wpAny_mono h (λo s₁ h₁=>wpAny_mono h₁ (λi s₂ h₂=>?_) λ_ _ x=>x) λ_ _ x=>x)
 obtain⟨hT,h₂⟩:=h₂
 unfold subscriptTail
 refine wpAny_bind ?_
 rw[getitemInPython_of_ne hT.not_modules]
 refine wpAny_bind (wpAny_specialOf hT hl ?_)
 have fin:wpAny (model prog w) A (subscripted slice false o i) (λr s₃=>wpAny (model prog w) A (letTemporaryGo value o r >>= λ_=>pure r) Q E s₃) E s₂:=by
  rw[hs o i]
  exact wpAny_operating (wpAny_mono h₂ (λr s₃ h₃=>wpAny_bind (wpAny_letTemporaryGo (wpAny_pure h₃))) λ_ _ x=>x)
 first
  | exact wpAny_pure (wpAny_bind fin)
  | exact wpAny_bind (wpAny_pure (wpAny_bind fin))
  | exact wpAny_bind fin
theorem Kf{X:Cx}{pins:List (Addr×Obj)}{σ:St}{H:Hp}{s:Shared}{a:Addr}{y:V}{o:Option V}(I:Inv X pins σ H s)(g:xJ H a y o):s.TypeIs (.ref a) "dict":=by
 rcases g with⟨kvs,k,e,_,_⟩| ⟨kvs,k,b,e,_,_,_⟩
 .obtain⟨_,_,vs,_,dd⟩:=Ex I.hok e
  exact dd.typeIs
 .obtain⟨_,_,xs,_,dd⟩:=Kh I.hok e
  exact dd.typeIs
def tDGet(td ty:TE):TE:=λσ H Q=>td σ H λx H1=>ty σ H1 λy H2=>∃a v,x=.ref a/\xJ H2 a y (some v)/\Q v H2
def tDIn(ty td:TE):TE:=λσ H Q=>ty σ H λy H1=>td σ H1 λx H2=>∃a o,x=.ref a/\xJ H2 a y o/\Q (.bl o.isSome) H2
section
variable{X:Cx}{o i e value:Expr}{pos pos' tpos:Pos}{td ty tv:TE}
theorem pe_dget(hu:X.A.units+1<cLine)(ho:PE X o td)(hi:PE X i ty)(hs:NoSl i):PE X (.Subscript o i pos) (tDGet td ty):=by
 intro pins s σ H Q I h
 refine subD_of PySem.F.slot_dict_getitem.lookup hs (thn (ho pins s σ H _ I h) λu s1 ⟨x,H1,I1,rx,q1⟩=>thn (hi pins s1 σ H1 _ I1 q1) λiv s2 ⟨y,H2,I2,ry,a,v,ex,g,q2⟩=>?_)
 subst ex
 obtain rfl:u=Value.ref a:=rx
 exact⟨Kf I2 g,QJ hu I2 g ry λw' s3 I3 rw'=>⟨v,H2,I3,rw',q2⟩⟩
theorem pc_din(hu:X.A.units+1<cLine)(hi:PE X i ty)(ho:PE X o td):PC X .In i o (tDIn ty td):=by
 intro pins s σ H Q I h
 refine thn (hi pins s σ H _ I h) λiv s1 ⟨y,H1,I1,ry,q1⟩=>thn (ho pins s1 σ H1 _ I1 q1) λu s2 ⟨x,H2,I2,rx,a,ov,ex,g,q2⟩=>?_
 subst ex
 obtain rfl:u=Value.ref a:=rx
 exact d_in hu I2 g ry λs3 I3=>⟨.bl ov.isSome,H2,I3,rfl,q2⟩
end
theorem dk_empty{P:Program}{w:World}{H:Hp}(h:Heap)(hb:sysModules<h.objs.size):cL P w H (h.push { cls:=.type "dict",data:=.dict #[] }) h.objs.size (.dK []) :=
 ⟨Nat.zero_le _,beq_eq_false_iff_ne.mpr (Ne.symm (Nat.ne_of_lt hb)),[],.nil,Heap.DictOf.new h⟩
def tDNewK:TE:=λ_ H Q=>∀p,H p=none->Q (.ref p) (upd H p (.dK []))
section
variable{X:Cx}{pos:Pos}
theorem pe_dnewK:PE X (.Dict [] [] pos) tDNewK:=λpins s σ H Q I h =>
 wpAny_Dict_empty ⟨.ref s.heap.objs.size,_,I.laid (a:=s.heap.objs.size) (o:=.dK []) (t':=s.toks) (λ_ _ q=>Heap.get?_push_of_some _ q) (Nat.le_refl _) (dk_empty s.heap I.big),rfl,h _ (I.hok.fresh (Nat.le_refl _))⟩
end
structure M1(X:Cx)(o:Expr)(m:Str)(apos:Pos)(e:Expr)(cpos:Pos):Prop where
 base:attributeBase o m X.env (eval o X.env)=eval o X.env
 few:((backTo cpos (starEach [e] X.env)).all (λx=>!x.1) && (backToKw cpos (keywordEach [] X.env)).all (λx=>x.1.isSome)
  && decide (([e]:List Expr).length+([]:List Keyword).length+(if ([]:List Keyword).isEmpty then 0 else 1)<30))=true
 line:(apos.endLine==cpos.line)=true
 trees:backTo cpos (starEach [e] X.env)=[(false,eval e X.env)]
structure M2(X:Cx)(o:Expr)(m:Str)(apos:Pos)(e f:Expr)(cpos:Pos):Prop where
 base:attributeBase o m X.env (eval o X.env)=eval o X.env
 few:((backTo cpos (starEach [e,f] X.env)).all (λx=>!x.1) && (backToKw cpos (keywordEach [] X.env)).all (λx=>x.1.isSome)
  && decide (([e,f]:List Expr).length+([]:List Keyword).length+(if ([]:List Keyword).isEmpty then 0 else 1)<30))=true
 line:(apos.endLine==cpos.line)=true
 trees:backTo cpos (starEach [e,f] X.env)=[(false,eval e X.env),(false,eval f X.env)]
def IsD(H:Hp)(a:Addr):Prop:=(∃kvs,Rd H a (.dK kvs))∨∃kvs,Rd H a (.dT kvs)
theorem isD_at{X:Cx}{pins:List (Addr×Obj)}{σ:St}{H:Hp}{s:Shared}{a:Addr}(I:Inv X pins σ H s)(d:IsD H a):
  s.TypeIs (.ref a) "dict"/\(∀b,Value.ref a=.ref b->∃ob,s.heap.get? b=some ob/\ob.dict=none)/\(a==sysModules)=false:=by
 rcases d with⟨kvs,e⟩| ⟨kvs,e⟩
 .obtain⟨_,hd,vs,_,dd⟩:=Ex I.hok e
  refine⟨dd.typeIs,λb q=>?_,hd⟩
  cases q
  obtain⟨ob,_,_,h1,h2,_⟩:=dd
  exact⟨ob,h1,h2.2.1⟩
 .obtain⟨_,hd,xs,_,dd⟩:=Kh I.hok e
  refine⟨dd.typeIs,λb q=>?_,hd⟩
  cases q
  obtain⟨ob,_,_,h1,h2,_⟩:=dd
  exact⟨ob,h1,h2.2.1⟩
section
variable{X:Cx}{pins:List (Addr×Obj)}{σ:St}{H:Hp}{s:Shared}{a:Addr}{y d:V}{u r:Value}{o:Option V}{A:Around}{E:Value->Shared->Prop}
theorem d_get1{Q:Value->Shared->Prop}(hu:A.units+1<cLine)(I:Inv X pins σ H s)(g:xJ H a y o)(ry:RelV y u)(h:∀w' s',Inv X pins σ H s'->RelV (o.getD .non) w'->Q w' s'):
  wpAny (model X.prog X.w) A (call (.builtin "dict.get") [.ref a,u]) Q E s:=by
 rcases g with⟨kvs,k,e,ey,l⟩| ⟨kvs,k,b,e,ey,eb,l⟩
 .subst ey
  obtain⟨z,hd,vs,rel,dd⟩:=Ex I.hok e
  refine call_meetsIn PySem.F.slot_dict_get dd.typeIs PySem.F.entry_dict_get (PySem.F.args_dict_get_2 _ _) (meets_dict_get (cV X.prog X.w) a (K4 ry) hd) ⟨_,dd.mapOf,h _ _ (I.tok _) ?_⟩
  rw[l]
  exact(rel.val k).getD rfl
 .subst ey
  cases (show u=Value.ref b from ry)
  obtain⟨z,hd,xs,rel,dd⟩:=Kh I.hok e
  refine call_meetsIn PySem.F.slot_dict_get dd.typeIs PySem.F.entry_dict_get (PySem.F.args_dict_get_2 _ _) (meetsH_dict_get (tupleKind (cV X.prog X.w)) a b hd) ⟨tupleKind_room_in1 hu,k,xs,Hy I.hok eb,dd,h _ _ (I.tok _) ?_⟩
  rw[l]
  exact(rel.val k).getD rfl
end
def tDGet1(td ty:TE):TE:=λσ H Q=>td σ H λx H1=>∃a,x=.ref a/\IsD H1 a/\ty σ H1 λy H2=>∃o,xJ H2 a y o/\Q (o.getD .non) H2
section
variable{X:Cx}{o e f:Expr}{apos cpos:Pos}{td ty tx:TE}
theorem pe_dget1(hu:X.A.units+1<cLine)(ho:PE X o td)(he:PE X e ty)(m:M1 X o "get" apos e cpos):PE X (.Call (.Attribute o "get" apos) [e] [] cpos) (tDGet1 td ty):=by
 intro pins s σ H Q I h
 refine wpAny_Call_method m.base m.few m.line PySem.F.plainAttrs_dict PySem.F.slot_dict_get PySem.F.type_dict_get (thn (ho pins s σ H _ I h) λu s1 ⟨x,H1,I1,rx,a,ex,d,q1⟩=>?_)
 subst ex
 obtain rfl:u=Value.ref a:=rx
 obtain⟨t1,t2,_⟩:=isD_at I1 d
 refine⟨t1,t2,?_⟩
 rw[m.trees]
 refine Calls.callWith_builtin rfl (Calls.evalArgs_plain (Calls.spliced_cons (thn (he pins s1 σ H1 _ I1 q1) λiv s2 ⟨y,H2,I2,ry,ov,g,q2⟩=>Calls.spliced_nil ?_)))
 exact d_get1 hu I2 g ry λw' s3 I3 rw'=>⟨_,H2,I3,rw',q2⟩
end
section
variable{X:Cx}{pins:List (Addr×Obj)}{σ:St}{H:Hp}{s:Shared}{a:Addr}{kvs:List (Key×V)}{A:Around}{E:Value->Shared->Prop}
end
section
variable{X:Cx}{pins:List (Addr×Obj)}{σ:St}{H:Hp}{s:Shared}{a:Addr}{y:V}{u:Value}{A:Around}{E:Value->Shared->Prop}
end
end L2
namespace PySem
open Sem (wp)
section
variable{prog:Program}{w:World}{K:Type}[DecidableEq K]{knd:KeyKind prog w K}{A:Around}{R:Result->Shared->Prop}
end
end PySem
namespace L2
open PySem PySem.Spec PyProof.Rows
section
variable{X:Cx}{pins:List (Addr×Obj)}{σ:St}{H:Hp}{s:Shared}
end
end L2
namespace L2
open PySem PySem.Spec PyProof.Rows
section
variable{prog:Program}{w:World}{A:Around}{E:Value->Shared->Prop}{s:Shared}
end
section
variable{X:Cx}{pins:List (Addr×Obj)}{σ:St}{H:Hp}{s:Shared}{a:Addr}{A:Around}{E:Value->Shared->Prop}
end
end L2
namespace DL
open PySem PySem.Spec PyProof.Rows MX L2
inductive D where
 | non | bl (b:Bool) | int (i:Int) | str (x:Str) | ty (n:String) | cls (c:Nat)
 | lst (xs:List D) | tup (xs:List D) | rol (xs:List D) | rot (xs:List D)
 | dK (kvs:List (Key×D)) | dT (kvs:List (List Key×D))
 | obj (c:Nat) (fs:List (Str×D)) | exc (c:Nat) (fs:List (Str×D))
inductive Out (α:Type) where
 | ok (a:α) | ex (x:D) | stuck
namespace Out
noncomputable def bind{α β:Type}(o:Out α)(k:α->Out β):Out β:=match o with
 | .ok a=>k a
 | .ex x=>.ex x
 | .stuck=>.stuck
def opt{α:Type}:Option α->Out α
 | some a=>.ok a
 | none=>.stuck
def bf{α:Type}:Out α->Out α
 | .ok a=>.ok a
 | _=>.stuck
@[simp] theorem dJ{α β:Type}(a:α)(k:α->Out β):(Out.ok a).bind k=k a:=rfl
@[simp] theorem G8{α β:Type}(x:D)(k:α->Out β):(Out.ex x).bind k=.ex x:=rfl
@[simp] theorem uQ{α β:Type}(k:α->Out β):(Out.stuck:Out α).bind k=.stuck:=rfl
@[simp] theorem j7{α:Type}(a:α):opt (some a)=.ok a:=rfl
@[simp] theorem Lq{α:Type}:(opt none:Out α)=.stuck:=rfl
@[simp] theorem ue{α:Type}(a:α):bf (Out.ok a)=.ok a:=rfl
end Out
def wpO{α:Type}(o:Out α)(P:α->Prop)(R:D->Prop):Prop:=match o with
 | .ok a=>P a
 | .ex x=>R x
 | .stuck=>False
theorem ao{α β:Type}{o:Out α}{k:α->Out β}{P:β->Prop}{R:D->Prop}(h:wpO (o.bind k) P R):wpO o (λa=>wpO (k a) P R) R:=by
 cases o <;> exact h
theorem wpO.mono{α:Type}{o:Out α}{P P':α->Prop}{R R':D->Prop}(h:wpO o P R)(k:∀a,P a->P' a)(r:∀x,R x->R' x):wpO o P' R':=by
 cases o with
 | ok a=>exact k a h
 | ex x=>exact r x h
 | stuck=>exact h
theorem bh{α:Type}{o:Option α}{P:α->Prop}{R:D->Prop}(h:wpO (Out.opt o) P R):∃a,o=some a/\P a:=by
 cases o with
 | none=>exact False.elim h
 | some a=>exact⟨a,rfl,h⟩
theorem dz{α:Type}{o:Out α}{P:α->Prop}{R R':D->Prop}(h:wpO o.bf P R):wpO o P R':=by
 cases o with
 | ok a=>exact h
 | ex x=>exact False.elim h
 | stuck=>exact h
section
variable(K:Frag)(Γ:Nat->Option Addr)
mutual
inductive Rep (G:Hp):V->D->Prop
 | non:Rep G .non .non
 | bl (b:Bool):Rep G (.bl b) (.bl b)
 | int (i:Int):Rep G (.int i) (.int i)
 | str (x:Str):Rep G (.str x) (.str x)
 | ty (n:String):Rep G (.ty n) (.ty n)
 | cls {c:Nat} {C:Addr} (h:Γ c=some C):Rep G (.ref C) (.cls c)
 | lst {a:Addr} {vs:List V} {ds:List D} (h:G a=some (.lst vs)) (r:aC G vs ds):Rep G (.ref a) (.lst ds)
 | tup {a:Addr} {vs:List V} {ds:List D} (h:G a=some (.tup vs)) (r:aC G vs ds):Rep G (.ref a) (.tup ds)
 | rol {a:Addr} {vs:List V} {ds:List D} (h:SqL K G a vs) (r:aC G vs ds):Rep G (.ref a) (.rol ds)
 | rot {a:Addr} {vs:List V} {ds:List D} (h:SqT K G a vs) (r:aC G vs ds):Rep G (.ref a) (.rot ds)
 | dK {a:Addr} {kvs:List (Key×V)} {kds:List (Key×D)} (h:G a=some (.dK kvs)) (r:dG G kvs kds):Rep G (.ref a) (.dK kds)
 | dT {a:Addr} {kvs:List (List Key×V)} {kds:List (List Key×D)} (h:G a=some (.dT kvs)) (r:uh G kvs kds):Rep G (.ref a) (.dT kds)
 | obj {a:Addr} {c:Nat} {C dx:Addr} {fs:List (Str×V)} {fds:List (Str×D)} (h:G a=some (.ins C dx fs)) (g:Γ c=some C) (r:jh G fs fds):Rep G (.ref a) (.obj c fds)
 | e0 {n:Bool} {a:Addr} {c:Nat} {C:Addr} (h:G a=some (.exc n C none a)) (g:Γ c=some C):Rep G (.ref a) (.exc c [])
 | e1 {n:Bool} {a:Addr} {c:Nat} {C d:Addr} {fs:List (Str×V)} {fds:List (Str×D)} (h:G a=some (.exc n C (some d) a)) (h':G d=some (.xds fs d)) (g:Γ c=some C) (r:jh G fs fds):Rep G (.ref a) (.exc c fds)
inductive aC (G:Hp):List V->List D->Prop
 | nil:aC G [] []
 | cons {v:V} {vs:List V} {d:D} {ds:List D} (h:Rep G v d) (r:aC G vs ds):aC G (v::vs) (d::ds)
inductive jh (G:Hp):List (Str×V)->List (Str×D)->Prop
 | nil:jh G [] []
 | cons {f:Str} {v:V} {fs:List (Str×V)} {d:D} {fds:List (Str×D)} (h:Rep G v d) (r:jh G fs fds):jh G ((f,v)::fs) ((f,d)::fds)
inductive dG (G:Hp):List (Key×V)->List (Key×D)->Prop
 | nil:dG G [] []
 | cons {k:Key} {v:V} {fs:List (Key×V)} {d:D} {fds:List (Key×D)} (h:Rep G v d) (r:dG G fs fds):dG G ((k,v)::fs) ((k,d)::fds)
inductive uh (G:Hp):List (List Key×V)->List (List Key×D)->Prop
 | nil:uh G [] []
 | cons {k:List Key} {v:V} {fs:List (List Key×V)} {d:D} {fds:List (List Key×D)} (h:Rep G v d) (r:uh G fs fds):uh G ((k,v)::fs) ((k,d)::fds)
end
end
section
variable{K:Frag}{Γ:Nat->Option Addr}{G G':Hp}
theorem SqT.same(e:aQ G G'){a:Addr}{xs:List V}(h:SqT K G a xs):SqT K G' a xs:=by
 rcases h with h | h
 .rcases h with h | ⟨o,h⟩
  .exact .inl (.inl (e _ _ h))
  .exact .inl (.inr ⟨o,e _ _ h⟩)
 .exact .inr h
mutual
theorem Rep.mono(e:aQ G G'):∀{v:V}{d:D},Rep K Γ G v d->Rep K Γ G' v d
 | _,_,.non=>.non
 | _,_,.bl b=>.bl b
 | _,_,.int i=>.int i
 | _,_,.str x=>.str x
 | _,_,.ty n=>.ty n
 | _,_,.cls h=>.cls h
 | _,_,.lst h r=>.lst (e _ _ h) (aC.mono e r)
 | _,_,.tup h r=>.tup (e _ _ h) (aC.mono e r)
 | _,_,.rol h r=>.rol (e.seq h) (aC.mono e r)
 | _,_,.rot h r=>.rot (SqT.same e h) (aC.mono e r)
 | _,_,.dK h r=>.dK (e _ _ h) (dG.mono e r)
 | _,_,.dT h r=>.dT (e _ _ h) (uh.mono e r)
 | _,_,.obj h g r=>.obj (e _ _ h) g (jh.mono e r)
 | _,_,.e0 h g=>.e0 (e _ _ h) g
 | _,_,.e1 h h' g r=>.e1 (e _ _ h) (e _ _ h') g (jh.mono e r)
theorem aC.mono(e:aQ G G'):∀{v:List V}{d:List D},aC K Γ G v d->aC K Γ G' v d
 | _,_,.nil=>.nil
 | _,_,.cons h r=>.cons (Rep.mono e h) (aC.mono e r)
theorem jh.mono(e:aQ G G'):∀{v:List (Str×V)}{d:List (Str×D)},jh K Γ G v d->jh K Γ G' v d
 | _,_,.nil=>.nil
 | _,_,.cons h r=>.cons (Rep.mono e h) (jh.mono e r)
theorem dG.mono(e:aQ G G'):∀{v:List (Key×V)}{d:List (Key×D)},dG K Γ G v d->dG K Γ G' v d
 | _,_,.nil=>.nil
 | _,_,.cons h r=>.cons (Rep.mono e h) (dG.mono e r)
theorem uh.mono(e:aQ G G'):∀{v:List (List Key×V)}{d:List (List Key×D)},uh K Γ G v d->uh K Γ G' v d
 | _,_,.nil=>.nil
 | _,_,.cons h r=>.cons (Rep.mono e h) (uh.mono e r)
end
theorem aC.length:∀{vs:List V}{ds:List D},aC K Γ G vs ds->vs.length=ds.length
 | _,_,.nil=>rfl
 | _,_,.cons _ r=>by rw[List.length_cons,List.length_cons,r.length]
theorem aC.get:∀{vs:List V}{ds:List D}{i:Nat}{d:D},aC K Γ G vs ds->ds[i]?=some d->∃v,vs[i]?=some v/\Rep K Γ G v d
 | _,_,_,_,.nil,e=>by simp at e
 | _,_,0,_,.cons h _,e=>by simp at e;subst e;exact⟨_,rfl,h⟩
 | _,_,i+1,d,.cons _ r,e=>by
  obtain⟨v,h1,h2⟩:=aC.get (i:=i) (d:=d) r (by simpa using e)
  exact⟨v,by simpa using h1,h2⟩
theorem aC.append:∀{vs ws:List V}{ds es:List D},aC K Γ G vs ds->aC K Γ G ws es->aC K Γ G (vs++ws) (ds++es)
 | _,_,_,_,.nil,s=>s
 | _,_,_,_,.cons h r,s=>.cons h (r.append s)
theorem aC.take:∀{vs:List V}{ds:List D}(n:Nat),aC K Γ G vs ds->aC K Γ G (vs.take n) (ds.take n)
 | _,_,0,_=>by simpa using aC.nil
 | _,_,_+1,.nil=>.nil
 | _,_,n+1,.cons h r=>.cons h (r.take n)
theorem aC.drop:∀{vs:List V}{ds:List D}(n:Nat),aC K Γ G vs ds->aC K Γ G (vs.drop n) (ds.drop n)
 | _,_,0,r=>r
 | _,_,_+1,.nil=>.nil
 | _,_,n+1,.cons _ r=>r.drop n
theorem aC.set{v:V}{d:D}(h:Rep K Γ G v d):∀{vs:List V}{ds:List D}(n:Nat),aC K Γ G vs ds->aC K Γ G (vs.set n v) (ds.set n d)
 | _,_,_,.nil=>.nil
 | _,_,0,.cons _ r=>.cons h r
 | _,_,n+1,.cons h' r=>.cons h' (aC.set h n r)
theorem aC.rep{vs:List V}{ds:List D}(h:aC K Γ G vs ds):∀k:Nat,aC K Γ G (List.replicate k vs).flatten (List.replicate k ds).flatten
 | 0=>.nil
 | k+1=>by
  rw[List.replicate_succ,List.replicate_succ,List.flatten_cons,List.flatten_cons]
  exact h.append (h.rep k)
theorem jh.look{f:Str}:∀{fs:List (Str×V)}{fds:List (Str×D)}{d:D},jh K Γ G fs fds->fds.lookup f=some d->∃v,fs.lookup f=some v/\Rep K Γ G v d
 | _,_,_,.nil,e=>by simp at e
 | _,_,d,.cons (f:=g) h r,e=>by
  by_cases q:f=g
  .subst q
   simp only[List.lookup_cons,beq_self_eq_true] at e
   cases e
   exact⟨_,by simp[List.lookup_cons],h⟩
  .have q':(f==g)=false:=beq_eq_false_iff_ne.mpr q
   simp only[List.lookup_cons,q'] at e
   obtain⟨v,h1,h2⟩:=r.look e
   exact⟨v,by simp only[List.lookup_cons,q'];exact h1,h2⟩
theorem jh.none{f:Str}:∀{fs:List (Str×V)}{fds:List (Str×D)},jh K Γ G fs fds->fds.lookup f=none->fs.lookup f=none
 | _,_,.nil,_=>rfl
 | _,_,.cons (f:=g) h r,e=>by
  by_cases q:f=g
  .subst q
   simp only[List.lookup_cons,beq_self_eq_true] at e
   cases e
  .have q':(f==g)=false:=beq_eq_false_iff_ne.mpr q
   simp only[List.lookup_cons,q'] at e ⊢
   exact r.none e
end
structure Step(G H G' H':Hp):Prop where
 gg:aQ G G'
 hh:aQ H H'
 gh:aQ G' H'
 sep:∀b,H b≠none->G b=none->G' b=none
theorem Step.refl{G H:Hp}(s:aQ G H):Step G H G H:=⟨aQ.refl _,aQ.refl _,s,λ_ _ h=>h⟩
theorem Step.trans{G H G1 H1 G2 H2:Hp}(a:Step G H G1 H1)(b:Step G1 H1 G2 H2):Step G H G2 H2 :=
 ⟨a.gg.trans b.gg,a.hh.trans b.hh,b.gh,λx h g=>b.sep x (λq=>by
  cases e:H x with
  | none=>exact h e
  | some o=>rw[a.hh _ _ e] at q;cases q) (a.sep x h g)⟩
theorem aQ.up{H:Hp}{p:Addr}{o:HO}(h:H p=none):aQ H (upd H p o):=λb u q=>by rw[aW (aV q h)];exact q
theorem aD{G H:Hp}(s:aQ G H){p:Addr}(h:H p=none):G p=none:=s.free h
theorem Step.new{G H:Hp}(s:aQ G H){p:Addr}{o:HO}(h:H p=none):Step G H (upd G p o) (upd H p o):=by
 refine⟨aQ.up (aD s h),aQ.up h,λb u q=>?_,λb hb g=>?_⟩
 .by_cases e:b=p
  .subst e;rw[aO] at q ⊢;exact q
  .rw[aW e] at q ⊢;exact s _ _ q
 .have e:b≠p:=λe=>hb (e▸h)
  rw[aW e];exact g
theorem Step.aside{G H:Hp}(s:aQ G H){p:Addr}{o:HO}(h:H p=none):Step G H G (upd H p o) :=
 ⟨aQ.refl _,aQ.up h,s.trans (aQ.up h),λ_ _ g=>g⟩
inductive Mx where
 | own (ds:List D) | fix (d:D)
def Mx.d:Mx->D
 | .own ds=>.lst ds
 | .fix d=>d
inductive Sl where
 | sh (d:D) | ol (ds:List D) | oll (dss:List (List D)) | od (kvs:List (Key×D)) | odT (kvs:List (List Key×D)) | omx (es:List Mx)
abbrev DSt:=List (Option Sl)
section
variable(K:Frag)(Γ:Nat->Option Addr)(G0 H0 G H:Hp)(O:Addr->Option Nat)
inductive Inner (i:Nat):List V->List (List D)->Prop
 | nil:Inner i [] []
 | cons {b:Addr} {vs ws:List V} {ds:List D} {dss:List (List D)} (h:H b=some (.lst ws)) (g:G b=none) (h0:H0 b=none) (o:O b=some i) (r:aC K Γ G ws ds) (n:V.ref b∉vs) (t:Inner i vs dss):Inner i (.ref b::vs) (ds::dss)
inductive bG (i:Nat):List V->List Mx->List Addr->Prop
 | nil:bG i [] [] []
 | own {b:Addr} {vs ws:List V} {ds:List D} {es:List Mx} {bs:List Addr} (h:H b=some (.lst ws)) (g:G b=none) (h0:H0 b=none) (o:O b=some i) (r:aC K Γ G ws ds) (n:b∉bs) (t:bG i vs es bs):bG i (.ref b::vs) (.own ds::es) (b::bs)
 | fix {v:V} {vs:List V} {d:D} {es:List Mx} {bs:List Addr} (r:Rep K Γ G v d) (t:bG i vs es bs):bG i (v::vs) (.fix d::es) bs
def bN(i:Nat)(v:V):Sl->Prop
 | .sh d=>Rep K Γ G v d
 | .ol ds=>∃a vs,v=.ref a/\H a=some (.lst vs)/\G a=none/\H0 a=none/\O a=some i/\aC K Γ G vs ds
 | .oll dss=>∃a vs,v=.ref a/\H a=some (.lst vs)/\G a=none/\H0 a=none/\O a=some i/\V.ref a∉vs/\Inner K Γ H0 G H O i vs dss
 | .od kvs=>∃a vs,v=.ref a/\H a=some (.dK vs)/\G a=none/\H0 a=none/\O a=some i/\dG K Γ G vs kvs
 | .odT kvs=>∃a vs,v=.ref a/\H a=some (.dT vs)/\G a=none/\H0 a=none/\O a=some i/\uh K Γ G vs kvs
 | .omx es=>∃a vs bs,v=.ref a/\H a=some (.lst vs)/\G a=none/\H0 a=none/\O a=some i/\a∉bs/\bG K Γ H0 G H O i vs es bs
def Slots(σ:L2.St)(δ:DSt):Prop:=∃O:Addr->Option Nat,∀i s,δ[i]?=some (some s)->∃v,σ[i]?=some (some v)/\bN K Γ H0 G H O i v s
structure SR(σ:L2.St)(δ:DSt):Prop where
 st:Step G0 H0 G H
 len:δ.length=σ.length
 sl:Slots K Γ H0 G H σ δ
end
section
variable{K:Frag}{Γ:Nat->Option Addr}{G0 H0 G H G' H':Hp}{O:Addr->Option Nat}{σ:L2.St}{δ:DSt}
theorem Inner.step(s:Step G H G' H'){i:Nat}:∀{vs:List V}{dss:List (List D)},Inner K Γ H0 G H O i vs dss->Inner K Γ H0 G' H' O i vs dss
 | _,_,.nil=>.nil
 | _,_,.cons h g h0 o r n t=>.cons (s.hh _ _ h) (s.sep _ (by rw[h];exact λq=>nomatch q) g) h0 o (r.mono s.gg) n (t.step s)
theorem bG.step(s:Step G H G' H'){i:Nat}:∀{vs:List V}{es:List Mx}{bs:List Addr},bG K Γ H0 G H O i vs es bs->bG K Γ H0 G' H' O i vs es bs
 | _,_,_,.nil=>.nil
 | _,_,_,.own h g h0 o r n t=>.own (s.hh _ _ h) (s.sep _ (by rw[h];exact λq=>nomatch q) g) h0 o (r.mono s.gg) n (t.step s)
 | _,_,_,.fix r t=>.fix (r.mono s.gg) (t.step s)
theorem bN.step(s:Step G H G' H'){i:Nat}{v:V}{x:Sl}(h:bN K Γ H0 G H O i v x):bN K Γ H0 G' H' O i v x:=by
 have sp:∀{a:Addr}{o:HO},H a=some o->G a=none->G' a=none:=λh g=>s.sep _ (by rw[h];exact λq=>nomatch q) g
 cases x with
 | sh d=>exact Rep.mono s.gg h
 | ol ds =>
  obtain⟨a,vs,e,h1,h2,h3,h4,h5⟩:=h
  exact⟨a,vs,e,s.hh _ _ h1,sp h1 h2,h3,h4,h5.mono s.gg⟩
 | oll ds =>
  obtain⟨a,vs,e,h1,h2,h3,h4,h5,h6⟩:=h
  exact⟨a,vs,e,s.hh _ _ h1,sp h1 h2,h3,h4,h5,h6.step s⟩
 | od ds =>
  obtain⟨a,vs,e,h1,h2,h3,h4,h5⟩:=h
  exact⟨a,vs,e,s.hh _ _ h1,sp h1 h2,h3,h4,h5.mono s.gg⟩
 | odT ds =>
  obtain⟨a,vs,e,h1,h2,h3,h4,h5⟩:=h
  exact⟨a,vs,e,s.hh _ _ h1,sp h1 h2,h3,h4,h5.mono s.gg⟩
 | omx ds =>
  obtain⟨a,vs,bs,e,h1,h2,h3,h4,h5,h6⟩:=h
  exact⟨a,vs,bs,e,s.hh _ _ h1,sp h1 h2,h3,h4,h5,h6.step s⟩
theorem SR.step(S:SR K Γ G0 H0 G H σ δ)(s:Step G H G' H'):SR K Γ G0 H0 G' H' σ δ:=by
 obtain⟨O,q⟩:=S.sl
 refine⟨S.st.trans s,S.len,O,λi x e=>?_⟩
 obtain⟨v,h1,h2⟩:=q i x e
 exact⟨v,h1,h2.step s⟩
theorem SR.set(S:SR K Γ G0 H0 G H σ δ){i:Nat}{v:V}{d:D}(r:Rep K Γ G v d):SR K Γ G0 H0 G H (σ.set i (some v)) (δ.set i (some (.sh d))):=by
 obtain⟨O,q⟩:=S.sl
 refine⟨S.st,by rw[List.length_set,List.length_set];exact S.len,O,λj x e=>?_⟩
 by_cases ij:i=j
 .subst ij
  rw[List.getElem?_set_self'] at e
  cases h:δ[i]? with
  | none=>rw[h] at e;simp at e
  | some y =>
   rw[h] at e
   simp at e
   have lt:i<σ.length:=by rw[←S.len];exact(List.getElem?_eq_some_iff.mp h).1
   subst e
   exact⟨v,by rw[List.getElem?_set_self lt],r⟩
 .rw[List.getElem?_set_ne ij] at e
  obtain⟨v',h1,h2⟩:=q j x e
  exact⟨v',by rw[List.getElem?_set_ne ij];exact h1,h2⟩
end
inductive bC (K:Frag) (Γ:Nat->Option Addr) (H G' H':Hp):List V->List (List D)->Prop
 | nil:bC K Γ H G' H' [] []
 | cons {b:Addr} {vs ws:List V} {ds:List D} {dss:List (List D)} (f:H b=none) (h:H' b=some (.lst ws)) (g:G' b=none) (r:aC K Γ G' ws ds) (n:V.ref b∉vs) (t:bC K Γ H G' H' vs dss):bC K Γ H G' H' (.ref b::vs) (ds::dss)
section
variable(K:Frag)(Γ:Nat->Option Addr)(E:XK)
def okD(G H:Hp)(Q:VK)(d:D):Prop:=∀v G' H',Step G H G' H'->Rep K Γ G' v d->Q v H'
def exD(G H:Hp)(x:D):Prop:=∀a G' H',Step G H G' H'->Rep K Γ G' (.ref a) x->E (.ref a) none H'
def teD(f:DSt->Out D):TE:=λσ H Q=>∃G0 H0 G δ,SR K Γ G0 H0 G H σ δ/\wpO (f δ) (okD K Γ G H Q) (exD K Γ E G H)
def ttD(f:DSt->Out Bool):TT:=λσ H Q=>∃G0 H0 G δ,SR K Γ G0 H0 G H σ δ/\wpO (f δ) (λb=>∀G' H',Step G H G' H'->Q b H') (exD K Γ E G H)
def taD(f:DSt->Out (List D)):TA:=λσ H Q=>∃G0 H0 G δ,SR K Γ G0 H0 G H σ δ/\wpO (f δ) (λds=>∀vs G' H',Step G H G' H'->aC K Γ G' vs ds->Q vs H') (exD K Γ E G H)
def tbD(f:DSt->Out D):TE:=λσ H Q=>∃G0 H0 G δ,SR K Γ G0 H0 G H σ δ/\wpO (f δ) (λd=>∀v G' H',Step G H G' H'->Rep K Γ H' v d->Q v H') (exD K Γ E G H)
inductive Fl where
 | nx (δ:DSt) | rt (d:D) | bk (δ:DSt) | ct (δ:DSt) | rl (ds:List D) | rll (dss:List (List D))
def FlOk(G0 H0:Hp)(N:Ends):Fl->Prop
 | .nx δ=>∀σ G H,SR K Γ G0 H0 G H σ δ->N.nx σ H
 | .rt d=>∀v G H,Step G0 H0 G H->Rep K Γ G v d->N.rt v H
 | .bk δ=>∀σ G H,SR K Γ G0 H0 G H σ δ->N.bk σ H
 | .ct δ=>∀σ G H,SR K Γ G0 H0 G H σ δ->N.ct σ H
 | .rl ds=>∀a vs G H,Step G0 H0 G H->H0 a=none->H a=some (.lst vs)->G a=none->aC K Γ G vs ds->N.rt (.ref a) H
 | .rll dss=>∀a vs G H,Step G0 H0 G H->H0 a=none->H a=some (.lst vs)->G a=none->V.ref a∉vs->bC K Γ H0 G H vs dss->N.rt (.ref a) H
def tsD(g:DSt->Out Fl):TS:=λN σ H=>∃G0 H0 G δ,SR K Γ G0 H0 G H σ δ/\wpO (g δ) (FlOk K Γ G0 H0 N) (exD K Γ E G0 H0)
end
section
variable{K:Frag}{Γ:Nat->Option Addr}{E:XK}{G H G1 H1:Hp}
theorem okD.step{Q:VK}{d:D}(h:okD K Γ G H Q d)(s:Step G H G1 H1):okD K Γ G1 H1 Q d:=λv G' H' s' r=>h v G' H' (s.trans s') r
theorem exD.step{x:D}(h:exD K Γ E G H x)(s:Step G H G1 H1):exD K Γ E G1 H1 x:=λv G' H' s' r=>h v G' H' (s.trans s') r
end
abbrev DE(X:Cx)(Γ:Nat->Option Addr)(E:XK)(e:Expr)(f:DSt->Out D):Prop:=PE X e (teD X.K Γ E f)
abbrev DB(X:Cx)(Γ:Nat->Option Addr)(E:XK)(e:Expr)(f:DSt->Out D):Prop:=PE X e (tbD X.K Γ E f)
abbrev DT(X:Cx)(Γ:Nat->Option Addr)(E:XK)(e:Expr)(f:DSt->Out Bool):Prop:=PT X e (ttD X.K Γ E f)
abbrev DW(X:Cx)(Γ:Nat->Option Addr)(E:XK)(e:Expr)(f:DSt->Out Bool):Prop:=PW X e (ttD X.K Γ E f)
abbrev DA(X:Cx)(Γ:Nat->Option Addr)(E:XK)(es:List Expr)(f:DSt->Out (List D)):Prop:=PA X es (taD X.K Γ E f)
abbrev DS(X:Cx)(Γ:Nat->Option Addr)(E:XK)(st:Stmt)(g:DSt->Out Fl):Prop:=PS X st (tsD X.K Γ E g)
abbrev DSs(X:Cx)(Γ:Nat->Option Addr)(E:XK)(st:List Stmt)(g:DSt->Out Fl):Prop:=PSs X st (tsD X.K Γ E g)
section
variable{X:Cx}
theorem PE.imp{e:Expr}{t t':TE}(h:PE X e t)(k:∀σ H Q,t' σ H Q->t σ H Q):PE X e t':=λpins s σ H Q I q=>h pins s σ H Q I (k _ _ _ q)
theorem PT.imp{e:Expr}{t t':TT}(h:PT X e t)(k:∀σ H Q,t' σ H Q->t σ H Q):PT X e t':=λpins s σ H Q I q=>h pins s σ H Q I (k _ _ _ q)
theorem PW.imp{e:Expr}{t t':TT}(h:PW X e t)(k:∀σ H Q,t' σ H Q->t σ H Q):PW X e t':=λwh pins s σ H Q I q=>h wh pins s σ H Q I (k _ _ _ q)
theorem PA.imp{e:List Expr}{t t':TA}(h:PA X e t)(k:∀σ H Q,t' σ H Q->t σ H Q):PA X e t':=λp pins s σ H Q I q=>h p pins s σ H Q I (k _ _ _ q)
theorem PS.imp{e:Stmt}{t t':TS}(h:PS X e t)(k:∀D σ H,t' D σ H->t D σ H):PS X e t':=λpins s σ H Q I q=>h pins s σ H Q I (k _ _ _ q)
theorem PSs.imp{e:List Stmt}{t t':TS}(h:PSs X e t)(k:∀D σ H,t' D σ H->t D σ H):PSs X e t':=λpins s σ H Q I q=>h pins s σ H Q I (k _ _ _ q)
end
end DL
namespace DL
open PySem PySem.Spec PyProof.Rows MX L2
def gv(i:Nat):DSt->Out D:=λδ=>match δ[i]? with
 | some (some (.sh d))=>.ok d
 | _=>.stuck
def slD:Sl->D
 | .sh d=>d
 | .ol ds=>.lst ds
 | .oll dss=>.lst (dss.map .lst)
 | .od kvs=>.dK kvs
 | .odT kvs=>.dT kvs
 | .omx es=>.lst (es.map Mx.d)
def gb(i:Nat):DSt->Out D:=λδ=>match δ[i]? with
 | some (some s)=>.ok (slD s)
 | _=>.stuck
section
variable{X:Cx}{Γ:Nat->Option Addr}{E:XK}{e a b c:Expr}{pos:Pos}
theorem de_var(i:Nat){x:Str}(h:PE X (.Name x pos) (m7 i)):DE X Γ E (.Name x pos) (gv i):=PE.imp h λσ H Q ⟨G0,H0,G,δ,S,w⟩=>by
 unfold gv at w
 split at w
 .rename_i d e
  obtain⟨O,q⟩:=S.sl
  obtain⟨v,h1,h2⟩:=q i _ e
  exact⟨v,h1,w v G H (.refl S.st.gh) h2⟩
 .exact False.elim w
theorem Inner.rep{K:Frag}{H0 G H:Hp}{O:Addr->Option Nat}(s:aQ G H){i:Nat}:∀{vs:List V}{dss:List (List D)},Inner K Γ H0 G H O i vs dss->aC K Γ H vs (dss.map .lst)
 | _,_,.nil=>.nil
 | _,_,.cons h g h0 o r n t=>.cons (.lst h (r.mono s)) (t.rep s)
theorem bG.rep{K:Frag}{H0 G H:Hp}{O:Addr->Option Nat}(s:aQ G H){i:Nat}:∀{vs:List V}{es:List Mx}{bs:List Addr},bG K Γ H0 G H O i vs es bs->aC K Γ H vs (es.map Mx.d)
 | _,_,_,.nil=>.nil
 | _,_,_,.own h g h0 o r n t=>.cons (.lst h (r.mono s)) (t.rep s)
 | _,_,_,.fix r t=>.cons (r.mono s) (t.rep s)
theorem bN.rep{K:Frag}{H0 G H:Hp}{O:Addr->Option Nat}(s:aQ G H){i:Nat}{v:V}{x:Sl}(h:bN K Γ H0 G H O i v x):Rep K Γ H v (slD x):=by
 cases x with
 | sh d=>exact Rep.mono s h
 | ol ds=>obtain⟨a,vs,e,h1,h2,h3,h4,h5⟩:=h;subst e;exact .lst h1 (h5.mono s)
 | oll ds=>obtain⟨a,vs,e,h1,h2,h3,h4,h5,h6⟩:=h;subst e;exact .lst h1 (h6.rep s)
 | od ds=>obtain⟨a,vs,e,h1,h2,h3,h4,h5⟩:=h;subst e;exact .dK h1 (h5.mono s)
 | odT ds=>obtain⟨a,vs,e,h1,h2,h3,h4,h5⟩:=h;subst e;exact .dT h1 (h5.mono s)
 | omx ds=>obtain⟨a,vs,bs,e,h1,h2,h3,h4,h5,h6⟩:=h;subst e;exact .lst h1 (h6.rep s)
theorem aJ(i:Nat){x:Str}(h:PE X (.Name x pos) (m7 i)):DB X Γ E (.Name x pos) (gb i):=PE.imp h λσ H Q ⟨G0,H0,G,δ,S,w⟩=>by
 unfold gb at w
 split at w
 .rename_i d e
  obtain⟨O,q⟩:=S.sl
  obtain⟨v,h1,h2⟩:=q i _ e
  exact⟨v,h1,w v G H (.refl S.st.gh) (h2.rep S.st.gh)⟩
 .exact False.elim w
theorem aK{f:DSt->Out D}(h:DE X Γ E e f):DB X Γ E e f:=PE.imp h λσ H Q ⟨G0,H0,G,δ,S,w⟩ =>
 ⟨G0,H0,G,δ,S,w.mono (λd k v G' H' s r=>k v G' H' s (r.mono s.gh)) λ_ k=>k⟩
theorem uR{v:V}{d:D}(h:PE X e (tC v))(r:∀G,Rep X.K Γ G v d):DE X Γ E e (λ_=>.ok d):=PE.imp h λσ H Q ⟨G0,H0,G,δ,S,w⟩=>w v G H (.refl S.st.gh) (r G)
theorem aB{i j}:DE X Γ E (.Constant (.int i) j pos) (λ_=>.ok (.int i)):=uR pe_int λ_=>.int i
theorem iZ{i j}:DE X Γ E (.Constant (.bool i) j pos) (λ_=>.ok (.bl i)):=uR pe_bl λ_=>.bl i
theorem nQ{j}:DE X Γ E (.Constant .none j pos) (λ_=>.ok .non):=uR Oq λ_=>.non
theorem aL{x j}:DE X Γ E (.Constant (.str x) j pos) (λ_=>.ok (.str x)):=uR pe_str λ_=>.str x
def o2(g:D->D->Option D)(fa fb:DSt->Out D):DSt->Out D:=λδ=>(fa δ).bind λx=>(fb δ).bind λy=>.opt (g x y)
def DR2(K:Frag)(Γ:Nat->Option Addr)(r:R2)(g:D->D->Option D):Prop :=
 ∀G H x y dx dy d Q,aQ G H->Rep K Γ G x dx->Rep K Γ G y dy->g dx dy=some d->okD K Γ G H Q d->r x y H Q
theorem d2{r:R2}{g:D->D->Option D}{fa fb:DSt->Out D}(hr:DR2 X.K Γ r g)(h:PE X e (tOp r (teD X.K Γ E fa) (teD X.K Γ E fb))):DE X Γ E e (o2 g fa fb):=PE.imp h λσ H Q ⟨G0,H0,G,δ,S,w⟩=>by
 refine⟨G0,H0,G,δ,S,(ao w).mono (λx w v G1 H1 s1 r1=>?_) λ_ k=>k⟩
 refine⟨G0,H0,G1,δ,S.step s1,(ao w).mono (λy w u G2 H2 s2 r2=>?_) λ_ k=>k.step s1⟩
 obtain⟨d,e,k⟩:=bh w
 exact hr G2 H2 v u x y d Q s2.gh (r1.mono s2.gg) r2 e (k.step (s1.trans s2))
def o2b(g:D->D->Option Bool)(fa fb:DSt->Out D):DSt->Out Bool:=λδ=>(fa δ).bind λx=>(fb δ).bind λy=>.opt (g x y)
def bV(f:DSt->Out Bool):DSt->Out D:=λδ=>(f δ).bind λb=>.ok (.bl b)
def DRB(K:Frag)(Γ:Nat->Option Addr)(r:R2)(g:D->D->Option Bool):Prop :=
 ∀H x y dx dy b Q,Rep K Γ H x dx->Rep K Γ H y dy->g dx dy=some b->Q (.bl b) H->r x y H Q
theorem d2b{r:R2}{g:D->D->Option Bool}{fa fb:DSt->Out D}(hr:DRB X.K Γ r g)(h:PE X e (tOp r (tbD X.K Γ E fa) (tbD X.K Γ E fb))):DE X Γ E e (bV (o2b g fa fb)):=PE.imp h λσ H Q ⟨G0,H0,G,δ,S,w⟩=>by
 refine⟨G0,H0,G,δ,S,(ao (ao w)).mono (λx w v G1 H1 s1 r1=>?_) λ_ k=>k⟩
 refine⟨G0,H0,G1,δ,S.step s1,(ao w).mono (λy w u G2 H2 s2 r2=>?_) λ_ k=>k.step s1⟩
 obtain⟨d,e,k⟩:=bh w
 exact hr H2 v u x y d Q (r1.mono s2.hh) r2 e (k _ G2 H2 (s1.trans s2) (.bl d))
theorem d2t{r:R2}{g:D->D->Option Bool}{fa fb:DSt->Out D}(hr:DRB X.K Γ r g)(h:PT X e (tTest (tOp r (tbD X.K Γ E fa) (tbD X.K Γ E fb)))):DT X Γ E e (o2b g fa fb):=PT.imp h λσ H Q ⟨G0,H0,G,δ,S,w⟩=>by
 refine⟨G0,H0,G,δ,S,(ao w).mono (λx w v G1 H1 s1 r1=>?_) λ_ k=>k⟩
 refine⟨G0,H0,G1,δ,S.step s1,(ao w).mono (λy w u G2 H2 s2 r2=>?_) λ_ k=>k.step s1⟩
 obtain⟨d,e,k⟩:=bh w
 exact hr H2 v u x y d _ (r1.mono s2.hh) r2 e ⟨d,rfl,k G2 H2 (s1.trans s2)⟩
def bw:D->D->Option D
 | .int i,.int j=>some (.int (i+j))
 | .str i,.str j=>if i.length+j.length<=sizeLine then some (.str (i++j)) else none
 | .lst i,.lst j=>if i.length+j.length<=sizeLine then some (.lst (i++j)) else none
 | _,_=>none
def subD:D->D->Option D
 | .int i,.int j=>some (.int (i - j))
 | _,_=>none
instance (i j:Int):Decidable (jg i j):=by unfold jg;infer_instance
instance (i j:Int):Decidable (CDiv i j):=by unfold CDiv;infer_instance
def mD:D->D->Option D
 | .int i,.int j=>if jg i j then some (.int (i*j)) else none
 | .str i,.int j=>if i.length<=1000/\0<=j/\j<=1000 then some (.str (Txt.mul i j)) else none
 | .lst i,.int j=>if -(2 ^ 63)<=j/\j<2 ^ 63/\i.length*j.toNat<=sizeLine then some (.lst (List.replicate j.toNat i).flatten) else none
 | _,_=>none
def Bm:D->D->Option D
 | .int i,.int j=>if CDiv i j then some (.int (i / j)) else none
 | _,_=>none
def fM:D->D->Option D
 | .int i,.int j=>if 0<j then some (.int (i % j)) else none
 | _,_=>none
theorem dr_add{K:Frag}:DR2 K Γ (λx y H Q=>(rI0 λi j=>.int (i+j)) x y H Q∨(∃i j,x=.str i/\y=.str j/\i.length+j.length<=sizeLine/\Q (.str (i++j)) H)∨rCat x y H Q) bw:=by
 intro G H x y dx dy d Q s rx ry e k
 unfold bw at e
 split at e
 .cases e;cases rx;cases ry;exact .inl ⟨_,_,rfl,rfl,k _ G H (.refl s) (.int _)⟩
 .split at e
  .cases e;cases rx;cases ry;rename_i h;exact .inr (.inl ⟨_,_,rfl,rfl,h,k _ G H (.refl s) (.str _)⟩)
  .cases e
 .split at e
  .cases e
   rename_i h
   cases rx with
   | lst h1 r1 =>
    cases ry with
    | lst h2 r2 =>
     refine .inr (.inr ⟨_,_,_,_,rfl,rfl,s _ _ h1,s _ _ h2,by rw[r1.length,r2.length];exact h,λp hp=>k _ _ _ (.new s hp) (.lst aO ?_)⟩)
     exact(r1.append r2).mono (aQ.up (aD s hp))
  .cases e
 .cases e
theorem aY{fa fb:DSt->Out D}(ha:DE X Γ E a fa)(hb:DE X Γ E b fb):DE X Γ E (.BinOp a .Add b pos) (o2 bw fa fb):=d2 dr_add (Ls (op_add.or (Om.or op_cat)) ha hb)
theorem dr_mul{K:Frag}:DR2 K Γ (λx y H Q=>(rI jg λi j=>.int (i*j)) x y H Q∨(∃i n,x=.str i/\y=.int n/\i.length<=1000/\0<=n/\n<=1000/\Q (.str (Txt.mul i n)) H)∨rRep x y H Q) mD:=by
 intro G H x y dx dy d Q s rx ry e k
 unfold mD at e
 split at e
 .split at e
  .rename_i h;cases e;cases rx;cases ry;exact .inl ⟨_,_,rfl,rfl,h,k _ G H (.refl s) (.int _)⟩
  .cases e
 .split at e
  .rename_i h;cases e;cases rx;cases ry;exact .inr (.inl ⟨_,_,rfl,rfl,h.1,h.2.1,h.2.2,k _ G H (.refl s) (.str _)⟩)
  .cases e
 .split at e
  .rename_i h
   cases e
   cases ry
   cases rx with
   | lst h1 r1 =>
    refine .inr (.inr ⟨_,_,_,rfl,rfl,s _ _ h1,h.1,h.2.1,by rw[r1.length];exact h.2.2,λp hp=>k _ _ _ (.new s hp) (.lst aO ?_)⟩)
    exact(r1.rep _).mono (aQ.up (aD s hp))
  .cases e
 .cases e
theorem eV{fa fb:DSt->Out D}(ha:DE X Γ E a fa)(hb:DE X Γ E b fb):DE X Γ E (.BinOp a .Mult b pos) (o2 mD fa fb):=d2 dr_mul (Ls (op_mul.or (op_mulS.or op_rep)) ha hb)
theorem z6{fa fb:DSt->Out D}(ha:DE X Γ E a fa)(hb:DE X Γ E b fb):DE X Γ E (.BinOp a .FloorDiv b pos) (o2 Bm fa fb):=d2 (λG H x y dx dy d Q s rx ry e k=>by
 unfold Bm at e
 split at e
 .split at e
  .rename_i h;cases e;cases rx;cases ry;exact⟨_,_,rfl,rfl,h,k _ G H (.refl s) (.int _)⟩
  .cases e
 .cases e) (Ls op_fdiv ha hb)
theorem bM{fa fb:DSt->Out D}(ha:DE X Γ E a fa)(hb:DE X Γ E b fb):DE X Γ E (.BinOp a .Mod b pos) (o2 fM fa fb):=d2 (λG H x y dx dy d Q s rx ry e k=>by
 unfold fM at e
 split at e
 .split at e
  .rename_i h;cases e;cases rx;cases ry;exact⟨_,_,rfl,rfl,h,k _ G H (.refl s) (.int _)⟩
  .cases e
 .cases e) (Ls op_mod ha hb)
def o1(g:D->Option D)(fa:DSt->Out D):DSt->Out D:=λδ=>(fa δ).bind λx=>.opt (g x)
def negD:D->Option D
 | .int i=>some (.int (-i))
 | _=>none
theorem de_neg{fa:DSt->Out D}(ha:DE X Γ E a fa):DE X Γ E (.UnaryOp .USub a pos) (o1 negD fa):=PE.imp (pe_un un_neg ha) λσ H Q ⟨G0,H0,G,δ,S,w⟩=>by
 refine⟨G0,H0,G,δ,S,(ao w).mono (λx w v G1 H1 s1 r1=>?_) λ_ k=>k⟩
 obtain⟨d,e,k⟩:=bh w
 unfold negD at e
 split at e
 .cases e;cases r1;exact⟨_,rfl,k _ G1 H1 s1 (.int _)⟩
 .cases e
def cmpI(p:Int->Int->Bool):D->D->Option Bool
 | .int i,.int j=>some (p i j)
 | _,_=>none
theorem tZ{K:Frag}{p:Int->Int->Bool}:DRB K Γ (rI0 λi j=>.bl (p i j)) (cmpI p):=λH x y dx dy b Q rx ry e k=>by
 unfold cmpI at e
 split at e
 .cases e;cases rx;cases ry;exact⟨_,_,rfl,rfl,k⟩
 .cases e
abbrev ltD:D->D->Option Bool:=cmpI λi j=>decide (i<j)
abbrev leD:D->D->Option Bool:=cmpI λi j=>decide (i<=j)
abbrev gtD:D->D->Option Bool:=cmpI λi j=>decide (j<i)
mutual
def toPy:D->Option PyData
 | .non=>some .none
 | .bl b=>some (.bool b)
 | .int i=>some (.int i)
 | .str x=>some (.str x)
 | .lst xs=>(toPyL xs).map .list
 | .rol xs=>(toPyL xs).map .list
 | .tup xs=>(toPyL xs).map .tuple
 | .rot xs=>(toPyL xs).map .tuple
 | _=>none
def toPyL:List D->Option (List PyData)
 | []=>some []
 | d::r=>match toPy d,toPyL r with
  | some p,some q=>some (p::q)
  | _,_=>none
end
mutual
theorem Rep.deep{K:Frag}{H:Hp}:∀{v:V}{d:D}{p:PyData},Rep K Γ H v d->toPy d=some p->xO K H v p
 | _,_,_,.non,e=>by simp only[toPy] at e;cases e;exact .non
 | _,_,_,.bl b,e=>by simp only[toPy] at e;cases e;exact .bl b
 | _,_,_,.int b,e=>by simp only[toPy] at e;cases e;exact .int b
 | _,_,_,.str b,e=>by simp only[toPy] at e;cases e;exact .str b
 | _,_,_,.lst h r,e=>by
  simp only[toPy] at e
  obtain⟨q,e1,rfl⟩:=Option.map_eq_some_iff.mp e
  exact .lst (SqL.of h) (aC.deep r e1)
 | _,_,_,.rol h r,e=>by
  simp only[toPy] at e
  obtain⟨q,e1,rfl⟩:=Option.map_eq_some_iff.mp e
  exact .lst h (aC.deep r e1)
 | _,_,_,.tup h r,e=>by
  simp only[toPy] at e
  obtain⟨q,e1,rfl⟩:=Option.map_eq_some_iff.mp e
  exact .tup (SqT.of h) (aC.deep r e1)
 | _,_,_,.rot h r,e=>by
  simp only[toPy] at e
  obtain⟨q,e1,rfl⟩:=Option.map_eq_some_iff.mp e
  exact .tup h (aC.deep r e1)
 | _,_,_,.ty n,e=>by simp only[toPy] at e;cases e
 | _,_,_,.cls h,e=>by simp only[toPy] at e;cases e
 | _,_,_,.dK h r,e=>by simp only[toPy] at e;cases e
 | _,_,_,.dT h r,e=>by simp only[toPy] at e;cases e
 | _,_,_,.obj h g r,e=>by simp only[toPy] at e;cases e
 | _,_,_,.e0 h g,e=>by simp only[toPy] at e;cases e
 | _,_,_,.e1 h h' g r,e=>by simp only[toPy] at e;cases e
theorem aC.deep{K:Frag}{H:Hp}:∀{v:List V}{d:List D}{p:List PyData},aC K Γ H v d->toPyL d=some p->fY K H v p
 | _,_,_,.nil,e=>by simp only[toPyL] at e;cases e;exact .nil
 | _,_,_,.cons (d:=d) (ds:=ds) h r,e=>by
  simp only[toPyL] at e
  cases h1:toPy d with
  | none=>rw[h1] at e;cases e
  | some p =>
   cases h2:toPyL ds with
   | none=>rw[h1,h2] at e;cases e
   | some q =>
    rw[h1,h2] at e
    cases e
    exact .cons (Rep.deep h h1) (aC.deep r h2)
end
def layP(p:PyData):Bool:=p.canLay0 && decide (p.depth<=50)
def eqD(x y:D):Option Bool:=match toPy x,toPy y with
 | some p,some q=>if layP p && layP q then some (PyData.eqv p q) else none
 | _,_=>none
def neD(x y:D):Option Bool:=(eqD x y).map (! ·)
theorem Ko{x y:D}{b:Bool}(h:eqD x y=some b):∃p q,toPy x=some p/\toPy y=some q/\p.canLay0=true/\q.canLay0=true/\p.depth<=50/\PyData.eqv p q=b:=by
 unfold eqD at h
 split at h
 .rename_i p q h1 h2
  split at h
  .rename_i z
   unfold layP at z
   simp only[Bool.and_eq_true,decide_eq_true_eq] at z
   exact⟨p,q,h1,h2,z.1.1,z.2.1,z.1.2,Option.some.inj h⟩
  .cases h
 .cases h
theorem drb_eq{K:Frag}:DRB K Γ (rEqD K false) eqD:=λH x y dx dy b Q rx ry e k=>by
 obtain⟨p,q,h1,h2,c1,c2,c3,e⟩:=Ko e
 exact⟨p,q,rx.deep h1,ry.deep h2,c1,c2,c3,by rw[e];simpa using k⟩
theorem drb_ne{K:Frag}:DRB K Γ (rEqD K true) neD:=λH x y dx dy b Q rx ry e k=>by
 obtain⟨b',e',rfl⟩:=Option.map_eq_some_iff.mp e
 obtain⟨p,q,h1,h2,c1,c2,c3,e⟩:=Ko e'
 exact⟨p,q,rx.deep h1,ry.deep h2,c1,c2,c3,by rw[e];simpa using k⟩
def ji:D->Bool
 | .non=>true
 | _=>false
def Bx(x y:D):Option Bool:=match y with
 | .non=>some (ji x)
 | _=>none
theorem Rep.isNon{K:Frag}{H:Hp}{v:V}{d:D}(r:Rep K Γ H v d):decide (v=.non)=ji d:=by
 cases r <;> first | rfl | exact decide_eq_false (λq=>nomatch q)
theorem drb_is{K:Frag}:DRB K Γ (λx y H Q=>y=.non/\Q (.bl (decide (x=.non))) H) Bx:=λH x y dx dy b Q rx ry e k=>by
 unfold Bx at e
 split at e
 .cases e;cases ry;exact⟨rfl,by rw[rx.isNon];exact k⟩
 .cases e
def Bo:D->Option V
 | .non=>some .non
 | .bl b=>some (.bl b)
 | .int i=>some (.int i)
 | .str x=>some (.str x)
 | _=>none
def uy:List D->Option (List V)
 | []=>some []
 | d::r=>match Bo d,uy r with
  | some v,some vs=>some (v::vs)
  | _,_=>none
theorem Rep.flat{K:Frag}{H:Hp}{v u:V}{d:D}(r:Rep K Γ H v d)(e:Bo d=some u):v=u/\pP v=true:=by
 cases r <;> simp only[Bo] at e <;> cases e <;> exact⟨rfl,rfl⟩
theorem aC.flat{K:Frag}{H:Hp}:∀{vs us:List V}{ds:List D},aC K Γ H vs ds->uy ds=some us->vs=us/\vs.all pP=true
 | _,_,_,.nil,e=>by simp only[uy] at e;cases e;exact⟨rfl,rfl⟩
 | _,_,_,.cons (d:=d) (ds:=ds) h r,e=>by
  simp only[uy] at e
  cases h1:Bo d with
  | none=>rw[h1] at e;cases e
  | some p =>
   cases h2:uy ds with
   | none=>rw[h1,h2] at e;cases e
   | some q =>
    rw[h1,h2] at e
    cases e
    obtain⟨e1,f1⟩:=h.flat h1
    obtain⟨e2,f2⟩:=r.flat h2
    exact⟨by rw[e1,e2],by rw[List.all_cons,f1,f2];rfl⟩
def jQ:D->Option (List D)
 | .lst xs=>some xs
 | .rol xs=>some xs
 | .tup xs=>some xs
 | .rot xs=>some xs
 | _=>none
theorem Rep.seq{K:Frag}{H:Hp}{v:V}{d:D}{ds:List D}(r:Rep K Γ H v d)(e:jQ d=some ds):∃a vs,v=.ref a/\(SqL K H a vs∨SqT K H a vs)/\aC K Γ H vs ds:=by
 cases r <;> simp only[jQ] at e <;> cases e
 .exact⟨_,_,rfl,.inl (SqL.of ‹_›),‹_›⟩
 .exact⟨_,_,rfl,.inr (SqT.of ‹_›),‹_›⟩
 .exact⟨_,_,rfl,.inl ‹_›,‹_›⟩
 .exact⟨_,_,rfl,.inr ‹_›,‹_›⟩
def inD(x y:D):Option Bool:=match x,y with
 | .str i,.str j=>some (!(Builtin.Str.occurrences j i 0 j.length 1).isEmpty)
 | x,y=>match Bo x,(jQ y).bind uy with
  | some v,some vs=>some (inV v vs)
  | _,_=>none
def gZ(x y:D):Option Bool:=(inD x y).map (! ·)
theorem KZ{K:Frag}{H:Hp}{x y:V}{dx dy:D}{b:Bool}(rx:Rep K Γ H x dx)(ry:Rep K Γ H y dy)(h:inD dx dy=some b):
  (∃i j,x=.str i/\y=.str j/\b=!(Builtin.Str.occurrences j i 0 j.length 1).isEmpty)∨∃p xs,y=.ref p/\(SqL K H p xs∨SqT K H p xs)/\pP x=true/\xs.all pP=true/\b=inV x xs:=by
 unfold inD at h
 split at h
 .cases h;cases rx;cases ry;exact .inl ⟨_,_,rfl,rfl,rfl⟩
 .cases h1:Bo dx with
  | none=>rw[h1] at h;cases h
  | some v =>
   cases h2:jQ dy with
   | none=>rw[h1,h2] at h;cases h
   | some ds =>
    rw[h1,h2] at h
    dsimp only[Option.bind_some] at h
    cases h3:uy ds with
    | none=>rw[h3] at h;cases h
    | some vs =>
     rw[h3] at h
     cases h
     obtain⟨e1,f1⟩:=rx.flat h1
     obtain⟨a,ws,e2,sq,ra⟩:=ry.seq h2
     obtain⟨e3,f3⟩:=ra.flat h3
     exact .inr ⟨a,ws,e2,sq,f1,f3,by rw[e1,e3]⟩
theorem drb_in{K:Frag}:DRB K Γ (λx y H Q=>(∃i j,x=.str i/\y=.str j/\Q (.bl (!(Builtin.Str.occurrences j i 0 j.length 1).isEmpty)) H)∨rIn K false x y H Q) inD:=λH x y dx dy b Q rx ry e k=>by
 rcases KZ rx ry e with⟨i,j,e1,e2,rfl⟩| ⟨p,xs,e1,sq,f1,f2,rfl⟩
 .exact .inl ⟨i,j,e1,e2,k⟩
 .exact .inr ⟨p,xs,e1,sq,f1,f2,k⟩
theorem QM{K:Frag}:DRB K Γ (λx y H Q=>(∃i j,x=.str i/\y=.str j/\Q (.bl (!(!(Builtin.Str.occurrences j i 0 j.length 1).isEmpty))) H)∨rIn K true x y H Q) gZ:=λH x y dx dy b Q rx ry e k=>by
 obtain⟨b',e',rfl⟩:=Option.map_eq_some_iff.mp e
 rcases KZ rx ry e' with⟨i,j,e1,e2,rfl⟩| ⟨p,xs,e1,sq,f1,f2,rfl⟩
 .exact .inl ⟨i,j,e1,e2,k⟩
 .exact .inr ⟨p,xs,e1,sq,f1,f2,k⟩
section
variable{fa fb:DSt->Out D}(hu:X.A.units+64<cLine)(ha:DB X Γ E a fa)(hb:DB X Γ E b fb)
theorem Ax(hu:X.A.units+64<cLine)(ha:DB X Γ E a fa)(hb:DB X Γ E b fb):DE X Γ E (.Compare a [.Eq] [b] pos) (bV (o2b eqD fa fb)):=d2b drb_eq (Jb (op_eqD hu) ha hb (vd _))
theorem de_is(ha:DB X Γ E a fa)(hb:DB X Γ E b fb):DE X Γ E (.Compare a [.Is] [b] pos) (bV (o2b Bx fa fb)):=d2b drb_is (Jb op_isN ha hb (vd _))
theorem Kd(ha:DB X Γ E a fa)(hb:DB X Γ E b fb)(hm:behindInMarks .In b=false:=by rfl):DE X Γ E (.Compare a [.In] [b] pos) (bV (o2b inD fa fb)):=d2b drb_in (Jb (Fw.or Fv) ha hb hm)
theorem dt_lt(ha:DB X Γ E a fa)(hb:DB X Γ E b fb):DT X Γ E (.Compare a [.Lt] [b] pos) (o2b ltD fa fb):=d2t tZ (oR op_lt ha hb (vd _))
theorem dt_gt(ha:DB X Γ E a fa)(hb:DB X Γ E b fb):DT X Γ E (.Compare a [.Gt] [b] pos) (o2b gtD fa fb):=d2t tZ (oR op_gt ha hb (vd _))
theorem qO(hu:X.A.units+64<cLine)(ha:DB X Γ E a fa)(hb:DB X Γ E b fb):DT X Γ E (.Compare a [.Eq] [b] pos) (o2b eqD fa fb):=d2t drb_eq (oR (op_eqD hu) ha hb (vd _))
theorem jU(hu:X.A.units+64<cLine)(ha:DB X Γ E a fa)(hb:DB X Γ E b fb):DT X Γ E (.Compare a [.NotEq] [b] pos) (o2b neD fa fb):=d2t drb_ne (oR (op_neD hu) ha hb (vd _))
theorem dt_is(ha:DB X Γ E a fa)(hb:DB X Γ E b fb):DT X Γ E (.Compare a [.Is] [b] pos) (o2b Bx fa fb):=d2t drb_is (oR op_isN ha hb (vd _))
theorem dt_in(ha:DB X Γ E a fa)(hb:DB X Γ E b fb)(hm:behindInMarks .In b=false:=by rfl):DT X Γ E (.Compare a [.In] [b] pos) (o2b inD fa fb):=d2t drb_in (oR (Fw.or Fv) ha hb hm)
theorem Ba(ha:DB X Γ E a fa)(hb:DB X Γ E b fb)(hm:behindInMarks .NotIn b=false:=by rfl):DT X Γ E (.Compare a [.NotIn] [b] pos) (o2b gZ fa fb):=d2t QM (oR (IW.or IV) ha hb hm)
end
def o3(g g':D->D->Option Bool)(fa fb fc:DSt->Out D):DSt->Out Bool:=λδ=>(fa δ).bind λx=>(fb δ).bind λy=>(Out.opt (g x y)).bind λk=>if k=true then (fc δ).bind λz=>.opt (g' y z) else .ok false
theorem d3_aux{r r':R2}{g g':D->D->Option Bool}{fa fb fc:DSt->Out D}(hr:DRB X.K Γ r g)(hr':DRB X.K Γ r' g'){P:Bool->Hp->Prop}{σ:L2.St}{H:Hp}
  (w:ttD X.K Γ E (o3 g g' fa fb fc) σ H P):Cu r r' (tbD X.K Γ E fa) (tbD X.K Γ E fb) (tbD X.K Γ E fc) σ H λv H'=>∃k,v=.bl k/\P k H':=by
 obtain⟨G0,H0,G,δ,S,w⟩:=w
 refine⟨G0,H0,G,δ,S,(ao w).mono (λx w v G1 H1 s1 r1=>?_) λ_ k=>k⟩
 refine⟨G0,H0,G1,δ,S.step s1,(ao w).mono (λy w u G2 H2 s2 r2=>?_) λ_ k=>k.step s1⟩
 obtain⟨k,e,w⟩:=bh (ao w)
 refine hr H2 v u x y k _ (r1.mono s2.hh) r2 e ⟨k,rfl,?_⟩
 cases k with
 | false =>
  rw[if_neg Bool.false_ne_true] at w ⊢
  exact⟨false,rfl,w G2 H2 (s1.trans s2)⟩
 | true =>
  rw[if_pos rfl] at w ⊢
  refine⟨G0,H0,G2,δ,(S.step s1).step s2,(ao w).mono (λz w t G3 H3 s3 r3=>?_) λ_ k=>k.step (s1.trans s2)⟩
  obtain⟨k,e,w⟩:=bh w
  exact hr' H3 u t y z k _ (r2.mono s3.hh) r3 e ⟨k,rfl,w G3 H3 ((s1.trans s2).trans s3)⟩
theorem d3t{r r':R2}{g g':D->D->Option Bool}{fa fb fc:DSt->Out D}(hr:DRB X.K Γ r g)(hr':DRB X.K Γ r' g')(h:PT X e (tTest (Cu r r' (tbD X.K Γ E fa) (tbD X.K Γ E fb) (tbD X.K Γ E fc)))):DT X Γ E e (o3 g g' fa fb fc):=PT.imp h λσ H Q w=>d3_aux hr hr' w
theorem d3v{r r':R2}{g g':D->D->Option Bool}{fa fb fc:DSt->Out D}(hr:DRB X.K Γ r g)(hr':DRB X.K Γ r' g')(h:PE X e (Cu r r' (tbD X.K Γ E fa) (tbD X.K Γ E fb) (tbD X.K Γ E fc))):DE X Γ E e (bV (o3 g g' fa fb fc)):=PE.imp h λσ H Q ⟨G0,H0,G,δ,S,w⟩=>by
 have w:=ao w
 refine⟨G0,H0,G,δ,S,(ao w).mono (λx w v G1 H1 s1 r1=>?_) λ_ k=>k⟩
 refine⟨G0,H0,G1,δ,S.step s1,(ao w).mono (λy w u G2 H2 s2 r2=>?_) λ_ k=>k.step s1⟩
 obtain⟨k,e,w⟩:=bh (ao w)
 refine hr H2 v u x y k _ (r1.mono s2.hh) r2 e ⟨k,rfl,?_⟩
 cases k with
 | false =>
  rw[if_neg Bool.false_ne_true] at w ⊢
  exact w _ G2 H2 (s1.trans s2) (.bl _)
 | true =>
  rw[if_pos rfl] at w ⊢
  refine⟨G0,H0,G2,δ,(S.step s1).step s2,(ao w).mono (λz w t G3 H3 s3 r3=>?_) λ_ k=>k.step (s1.trans s2)⟩
  obtain⟨k,e,w⟩:=bh w
  exact hr' H3 u t y z k _ (r2.mono s3.hh) r3 e (w _ G3 H3 ((s1.trans s2).trans s3) (.bl _))
theorem z8{fa fb fc:DSt->Out D}(ha:DB X Γ E a fa)(hb:DB X Γ E b fb)(hc:DB X Γ E c fc)(hm:lastMarks [.LtE,.LtE] [b,c]=false:=by with_unfolding_all rfl):DT X Γ E (.Compare a [.LtE,.LtE] [b,c] pos) (o3 leD leD fa fb fc):=d3t tZ tZ (pt_chain op_le op_le ha hb hc hm)
theorem de_lelt{fa fb fc:DSt->Out D}(ha:DB X Γ E a fa)(hb:DB X Γ E b fb)(hc:DB X Γ E c fc)(hm:lastMarks [.LtE,.Lt] [b,c]=false:=by with_unfolding_all rfl):DE X Γ E (.Compare a [.LtE,.Lt] [b,c] pos) (bV (o3 leD ltD fa fb fc)):=d3v tZ tZ (pe_chain op_le op_lt ha hb hc hm)
def truD:D->Option Bool
 | .non=>some false
 | .bl b=>some b
 | .int i=>some (i != 0)
 | .str y=>if y.length<=sizeLine then some ((y.length:Int) != 0) else none
 | .lst xs=>some (!xs.isEmpty)
 | .rol xs=>some (!xs.isEmpty)
 | .tup xs=>some (!xs.isEmpty)
 | .rot xs=>some (!xs.isEmpty)
 | .dK xs=>some (!xs.isEmpty)
 | _=>none
def tst(f:DSt->Out D):DSt->Out Bool:=λδ=>(f δ).bind λd=>.opt (truD d)
theorem t8{K:Frag}{H:Hp}{vs:List V}{ds:List D}(r:aC K Γ H vs ds):(!ds.isEmpty)=!vs.isEmpty:=by cases r <;> rfl
theorem Q5{K:Frag}{H:Hp}{vs:List (Key×V)}{ds:List (Key×D)}(r:dG K Γ H vs ds):(!ds.isEmpty)=!vs.isEmpty:=by cases r <;> rfl
theorem Rep.tru{K:Frag}{H:Hp}{v:V}{d:D}{k:Bool}(r:Rep K Γ H v d)(e:truD d=some k):TruV K v H k:=by
 cases r <;> simp only[truD] at e
 case non=>cases e;exact rfl
 case bl=>cases e;exact rfl
 case int=>cases e;exact rfl
 case str =>
  split at e
  .cases e;exact⟨‹_›,rfl⟩
  .cases e
 case lst h r=>cases e;rw[t8 r];exact .inl ⟨_,SqL.of h,rfl⟩
 case rol h r=>cases e;rw[t8 r];exact .inl ⟨_,h,rfl⟩
 case tup h r=>cases e;rw[t8 r];exact .inr (.inl ⟨_,SqT.of h,rfl⟩)
 case rot h r=>cases e;rw[t8 r];exact .inr (.inl ⟨_,h,rfl⟩)
 case dK h r=>cases e;rw[Q5 r];exact .inr (.inr ⟨_,h,rfl⟩)
 all_goals cases e
theorem dY{f:DSt->Out D}(h:DB X Γ E e f)(he:∀whole,isTrue e X.env whole=(do let v ←whole;standAt e.pos;holding [v] (truthy v)):=by intro _;rfl):DT X Γ E e (tst f):=PT.imp (pt_truth h he) λσ H Q ⟨G0,H0,G,δ,S,w⟩=>by
 refine⟨G0,H0,G,δ,S,(ao w).mono (λx w v G1 H1 s1 r1=>?_) λ_ k=>k⟩
 obtain⟨k,e,q⟩:=bh w
 exact⟨k,r1.tru e,q G1 H1 s1⟩
def andT(f g:DSt->Out Bool):DSt->Out Bool:=λδ=>(f δ).bind λk=>if k=true then g δ else .ok false
def orT(f g:DSt->Out Bool):DSt->Out Bool:=λδ=>(f δ).bind λk=>if k=true then .ok true else g δ
def kW(f:DSt->Out Bool):DSt->Out Bool:=λδ=>(f δ).bind λk=>.ok (!k)
variable{rest:List Expr}{ft gt:DSt->Out Bool}
theorem dw_and1(ha:DT X Γ E a ft):DW X Γ E (.BoolOp .And [a] pos) ft:=pw_and1 ha
theorem gW(ha:DT X Γ E a ft):DW X Γ E (.BoolOp .Or [a] pos) ft:=pw_or1 ha
theorem dw_and(ha:DT X Γ E a ft)(hb:DW X Γ E (.BoolOp .And (b::rest) pos) gt):DW X Γ E (.BoolOp .And (a::b::rest) pos) (andT ft gt):=PW.imp (pw_and ha hb) λσ H Q ⟨G0,H0,G,δ,S,w⟩=>by
 refine⟨G0,H0,G,δ,S,(ao w).mono (λk w G1 H1 s1=>?_) λ_ k=>k⟩
 cases k with
 | false=>rw[if_neg Bool.false_ne_true] at w ⊢;exact w G1 H1 s1
 | true=>rw[if_pos rfl] at w ⊢;exact⟨G0,H0,G1,δ,S.step s1,w.mono (λb q G2 H2 s2=>q G2 H2 (s1.trans s2)) λ_ k=>k.step s1⟩
theorem jV(ha:DT X Γ E a ft)(hb:DW X Γ E (.BoolOp .Or (b::rest) pos) gt):DW X Γ E (.BoolOp .Or (a::b::rest) pos) (orT ft gt):=PW.imp (pw_or ha hb) λσ H Q ⟨G0,H0,G,δ,S,w⟩=>by
 refine⟨G0,H0,G,δ,S,(ao w).mono (λk w G1 H1 s1=>?_) λ_ k=>k⟩
 cases k with
 | true=>rw[if_pos rfl] at w ⊢;exact w G1 H1 s1
 | false=>rw[if_neg Bool.false_ne_true] at w ⊢;exact⟨G0,H0,G1,δ,S.step s1,w.mono (λb q G2 H2 s2=>q G2 H2 (s1.trans s2)) λ_ k=>k.step s1⟩
theorem vZ(h:DW X Γ E e ft):DT X Γ E e ft:=L2.PW.pt h
theorem dX(ha:DT X Γ E a ft):DT X Γ E (.UnaryOp .Not a pos) (kW ft):=PT.imp (pt_not ha) λσ H Q ⟨G0,H0,G,δ,S,w⟩ =>
 ⟨G0,H0,G,δ,S,(ao w).mono (λk w G1 H1 s1=>w G1 H1 s1) λ_ k=>k⟩
def asB:D->Option Bool
 | .bl b=>some b
 | _=>none
def An(f g:DSt->Out D):DSt->Out D:=λδ=>(f δ).bind λd=>(Out.opt (asB d)).bind λk=>if k=true then g δ else .ok (.bl false)
def orV(f g:DSt->Out D):DSt->Out D:=λδ=>(f δ).bind λd=>(Out.opt (asB d)).bind λk=>if k=true then .ok (.bl true) else g δ
def notV(f:DSt->Out D):DSt->Out D:=λδ=>(f δ).bind λd=>(Out.opt (asB d)).bind λk=>.ok (.bl (!k))
theorem Rep.asB{K:Frag}{H:Hp}{v:V}{d:D}{k:Bool}(r:Rep K Γ H v d)(e:asB d=some k):v=.bl k:=by
 cases r <;> simp only[DL.asB] at e <;> cases e;rfl
variable{fa fb:DSt->Out D}
theorem uT{op}(ha:DE X Γ E a fa):DE X Γ E (.BoolOp op [a] pos) fa:=pe_one ha
theorem yf(ha:DE X Γ E a fa)(hb:DE X Γ E (.BoolOp .And (b::rest) pos) fb):DE X Γ E (.BoolOp .And (a::b::rest) pos) (An fa fb):=PE.imp (pe_and ha hb) λσ H Q ⟨G0,H0,G,δ,S,w⟩=>by
 refine⟨G0,H0,G,δ,S,(ao w).mono (λx w v G1 H1 s1 r1=>?_) λ_ k=>k⟩
 obtain⟨k,e,w⟩:=bh (ao w)
 refine⟨k,r1.asB e,?_⟩
 cases k with
 | false=>rw[if_neg Bool.false_ne_true] at w ⊢;exact w _ G1 H1 s1 (.bl false)
 | true=>rw[if_pos rfl] at w ⊢;exact⟨G0,H0,G1,δ,S.step s1,w.mono (λb q=>q.step s1) λ_ k=>k.step s1⟩
theorem de_or(ha:DE X Γ E a fa)(hb:DE X Γ E (.BoolOp .Or (b::rest) pos) fb):DE X Γ E (.BoolOp .Or (a::b::rest) pos) (orV fa fb):=PE.imp (pe_or ha hb) λσ H Q ⟨G0,H0,G,δ,S,w⟩=>by
 refine⟨G0,H0,G,δ,S,(ao w).mono (λx w v G1 H1 s1 r1=>?_) λ_ k=>k⟩
 obtain⟨k,e,w⟩:=bh (ao w)
 refine⟨k,r1.asB e,?_⟩
 cases k with
 | true=>rw[if_pos rfl] at w ⊢;exact w _ G1 H1 s1 (.bl true)
 | false=>rw[if_neg Bool.false_ne_true] at w ⊢;exact⟨G0,H0,G1,δ,S.step s1,w.mono (λb q=>q.step s1) λ_ k=>k.step s1⟩
theorem de_not(ha:DE X Γ E a fa):DE X Γ E (.UnaryOp .Not a pos) (notV fa):=PE.imp (pe_not ha) λσ H Q ⟨G0,H0,G,δ,S,w⟩=>by
 refine⟨G0,H0,G,δ,S,(ao w).mono (λx w v G1 H1 s1 r1=>?_) λ_ k=>k⟩
 obtain⟨k,e,w⟩:=bh (ao w)
 exact⟨k,r1.asB e,w _ G1 H1 s1 (.bl _)⟩
def aM:DSt->Out (List D):=λ_=>.ok []
def az(f:DSt->Out D)(r:DSt->Out (List D)):DSt->Out (List D):=λδ=>(f δ).bind λd=>(r δ).bind λds=>.ok (d::ds)
variable{es:List Expr}{fr:DSt->Out (List D)}
theorem aF:DA X Γ E [] aM:=PA.imp bD λσ H Q ⟨G0,H0,G,δ,S,w⟩=>w _ G H (.refl S.st.gh) .nil
theorem aj(ha:DE X Γ E e fa)(hr:DA X Γ E es fr)(hs:starEach (e::es) X.env=(false,eval e X.env)::starEach es X.env:=by rfl):DA X Γ E (e::es) (az fa fr):=PA.imp (aU ha hr hs) λσ H Q ⟨G0,H0,G,δ,S,w⟩=>by
 refine⟨G0,H0,G,δ,S,(ao w).mono (λx w v G1 H1 s1 r1=>?_) λ_ k=>k⟩
 refine⟨G0,H0,G1,δ,S.step s1,(ao w).mono (λds w vs G2 H2 s2 r2=>?_) λ_ k=>k.step s1⟩
 exact w _ G2 H2 (s1.trans s2) (.cons (r1.mono s2.gg) r2)
def mY(f:DSt->Out (List D)):DSt->Out D:=λδ=>(f δ).bind λds=>if ds.length<=sizeLine then .ok (.tup ds) else .stuck
def rW(f:DSt->Out (List D)):DSt->Out D:=λδ=>(f δ).bind λds=>if ds.length<=sizeLine then .ok (.lst ds) else .stuck
theorem qJ{x1}(h:DA X Γ E es fr):DE X Γ E (.Tuple es x1 pos) (mY fr):=PE.imp (pe_tup h) λσ H Q ⟨G0,H0,G,δ,S,w⟩=>by
 refine⟨G0,H0,G,δ,S,(ao w).mono (λds w vs G1 H1 s1 r1=>?_) λ_ k=>k⟩
 split at w
 .rename_i h
  exact⟨by rw[r1.length];exact h,λp hp=>w _ _ _ (s1.trans (.new s1.gh hp)) (.tup aO (r1.mono (aQ.up (aD s1.gh hp))))⟩
 .exact False.elim w
theorem yg(h:DA X Γ E es fr):DE X Γ E (.List es pos) (rW fr):=PE.imp (pe_lst h) λσ H Q ⟨G0,H0,G,δ,S,w⟩=>by
 refine⟨G0,H0,G,δ,S,(ao w).mono (λds w vs G1 H1 s1 r1=>?_) λ_ k=>k⟩
 split at w
 .rename_i h
  exact⟨by rw[r1.length];exact h,λp hp=>w _ _ _ (s1.trans (.new s1.gh hp)) (.lst aO (r1.mono (aQ.up (aD s1.gh hp))))⟩
 .exact False.elim w
theorem aC.atI{K:Frag}{H:Hp}{vs:List V}{ds:List D}{i:Int}{d:D}(r:aC K Γ H vs ds)(e:atI ds i=some d):∃v,atI vs i=some v/\Rep K Γ H v d:=by
 unfold L2.atI at e ⊢
 rw[r.length]
 cases q:ixN ds.length i with
 | none=>rw[q] at e;cases e
 | some j =>
  rw[q] at e
  exact r.get e
def ixD:D->D->Option D
 | .str z,.int i=>if z.length<=sizeLine then (atI z.cps.toList i).map λc=>.str ⟨#[c]⟩ else none
 | x,.int i=>(jQ x).bind λds=>atI ds i
 | _,_=>none
theorem dr_ix{K:Frag}:DR2 K Γ (rIx K) ixD:=by
 intro G H x y dx dy d Q s rx ry e k
 unfold ixD at e
 split at e
 .split at e
  .obtain⟨c,e1,rfl⟩:=Option.map_eq_some_iff.mp e
   cases rx;cases ry
   exact .inr (.inr ⟨_,_,c,rfl,rfl,‹_›,e1,k _ G H (.refl s) (.str _)⟩)
  .cases e
 .cases ry
  obtain⟨ds,e1,e2⟩:=Option.bind_eq_some_iff.mp e
  obtain⟨a,vs,rfl,sq,ra⟩:=rx.seq e1
  obtain⟨v,h1,h2⟩:=ra.atI e2
  rcases sq with sq | sq
  .exact .inl ⟨a,vs,_,v,rfl,rfl,s.seq sq,h1,k _ G H (.refl s) h2⟩
  .exact .inr (.inl ⟨a,vs,_,v,rfl,rfl,SqT.same s sq,h1,k _ G H (.refl s) h2⟩)
 .cases e
theorem Ke(ha:DE X Γ E a fa)(hb:DE X Γ E b fb)(hs:Gv b:=by exact λ_ _=>rfl):DE X Γ E (.Subscript a b pos) (o2 ixD fa fb):=d2 dr_ix (pe_ix ix_seq ha hb hs)
def gvo(i:Nat):DSt->Out D:=λδ=>match δ[i]? with
 | some (some (.sh d))=>.ok d
 | some (some (.ol ds))=>.ok (.lst ds)
 | _=>.stuck
theorem bJ(i:Nat){x:Str}{p:Pos}(h:PE X (.Name x p) (m7 i))(hb:DE X Γ E b fb)(hs:Gv b:=by exact λ_ _=>rfl):DE X Γ E (.Subscript (.Name x p) b pos) (o2 ixD (gvo i) fb):=PE.imp (pe_ix ix_seq h hb hs) λσ H Q ⟨G0,H0,G,δ,S,w⟩=>by
 obtain⟨O,q⟩:=id S.sl
 unfold o2 gvo at w
 split at w
 .rename_i d e
  obtain⟨v,h1,h2⟩:=q i _ e
  refine⟨v,h1,G0,H0,G,δ,S,(ao (o:=fb δ) w).mono (λy w u G2 H2 s2 r2=>?_) λ_ k=>k⟩
  obtain⟨d,e,k⟩:=bh w
  exact dr_ix G2 H2 v u _ y d Q s2.gh (Rep.mono s2.gg h2) r2 e (k.step s2)
 .rename_i ds e
  obtain⟨v,h1,a,vs,ev,ha,ga,h0,hO,ra⟩:=q i _ e
  subst ev
  refine⟨_,h1,G0,H0,G,δ,S,(ao (o:=fb δ) w).mono (λy w u G2 H2 s2 r2=>?_) λ_ k=>k⟩
  obtain⟨d,e,k⟩:=bh w
  unfold ixD at e
  split at e
  .exact absurd (‹D.lst ds=D.str _›) (λq=>by cases q)
  .cases r2
   obtain⟨ds',e1,e2⟩:=Option.bind_eq_some_iff.mp e
   cases e1
   obtain⟨v,h1,h2⟩:=ra.atI e2
   exact .inl ⟨a,vs,_,v,rfl,rfl,SqL.of (s2.hh _ _ ha),h1,k _ G2 H2 s2 (h2.mono s2.gg)⟩
  .cases e
 .exact False.elim w
def DRC(K:Frag)(Γ:Nat->Option Addr)(r:List V->Hp->VK->Prop)(g:List D->Option D):Prop :=
 ∀G H vs ds d Q,aQ G H->aC K Γ G vs ds->g ds=some d->okD K Γ G H Q d->r vs H Q
def oC(g:List D->Option D)(f:DSt->Out (List D)):DSt->Out D:=λδ=>(f δ).bind λds=>.opt (g ds)
theorem dC{r:List V->Hp->VK->Prop}{g:List D->Option D}(hr:DRC X.K Γ r g)(h:PE X e (tCB r (taD X.K Γ E fr))):DE X Γ E e (oC g fr):=PE.imp h λσ H Q ⟨G0,H0,G,δ,S,w⟩=>by
 refine⟨G0,H0,G,δ,S,(ao w).mono (λds w vs G1 H1 s1 r1=>?_) λ_ k=>k⟩
 obtain⟨d,e,k⟩:=bh w
 exact hr G1 H1 vs ds d Q s1.gh r1 e (k.step s1)
def DRC1(K:Frag)(Γ:Nat->Option Addr)(r:List V->Hp->VK->Prop)(g:D->Option D):Prop :=
 ∀G H v dx d Q,aQ G H->Rep K Γ H v dx->g dx=some d->okD K Γ G H Q d->r [v] H Q
theorem dC1{r:List V->Hp->VK->Prop}{g:D->Option D}(hr:DRC1 X.K Γ r g)(h:PE X e (tCB r (je (tbD X.K Γ E fa) m6))):DE X Γ E e (o1 g fa):=PE.imp h λσ H Q ⟨G0,H0,G,δ,S,w⟩=>by
 refine⟨G0,H0,G,δ,S,(ao w).mono (λx w v G1 H1 s1 r1=>?_) λ_ k=>k⟩
 obtain⟨d,e,k⟩:=bh w
 exact hr G1 H1 v x d Q s1.gh r1 e (k.step s1)
def fL:D->Option D
 | .str z=>if z.length<=sizeLine then some (.int z.length) else none
 | x=>(jQ x).map λds=>.int ds.length
theorem drc_len{K:Frag}:DRC1 K Γ (λxs H Q=>(∃p ys,xs=[.ref p]/\(SqL K H p ys∨SqT K H p ys)/\Q (.int ys.length) H)∨∃z,xs=[.str z]/\z.length<=sizeLine/\Q (.int z.length) H) fL:=by
 intro G H v dx d Q s r e k
 unfold fL at e
 split at e
 .split at e
  .cases e;cases r;exact .inr ⟨_,rfl,‹_›,k _ G H (.refl s) (.int _)⟩
  .cases e
 .obtain⟨ds,e1,rfl⟩:=Option.map_eq_some_iff.mp e
  obtain⟨a,vs,rfl,sq,ra⟩:=r.seq e1
  exact .inl ⟨a,vs,rfl,sq,by rw[ra.length];exact k _ G H (.refl s) (.int _)⟩
variable{p:Pos}
theorem c7(hg:Gl X "len")(hm:X.mg "len"=none)(ha:DB X Γ E a fa)(hs:starEach [a] X.env=[(false,eval a X.env)]:=by rfl):DE X Γ E (.Call (.Name "len" p) [a] [] pos) (o1 fL fa) :=
 dC1 drc_len (wW (Hd.or Hf) hg hm PySem.boot_len (aU ha bD (by rw[hs];rfl)) (by decide) (by decide) (by rw[hs];rfl) (by rfl))
def intD:D->Option D
 | .int i=>some (.int i)
 | .bl k=>some (.int (if k then 1 else 0))
 | _=>none
theorem Hi(hg:Gl X "int")(hm:X.mg "int"=none)(ha:DE X Γ E a fa)(hs:starEach [a] X.env=[(false,eval a X.env)]:=by rfl):DE X Γ E (.Call (.Name "int" p) [a] [] pos) (o1 intD fa) :=
 dC1 (λG H v dx d Q s r e k=>by
  unfold intD at e
  split at e
  .cases e;cases r;exact .inl ⟨_,rfl,k _ G H (.refl s) (.int _)⟩
  .cases e;cases r;exact .inr ⟨_,rfl,k _ G H (.refl s) (.int _)⟩
  .cases e) (jC QF hg hm (by decide +kernel) (aU (aK ha) bD (by rw[hs];rfl)) (by decide) (by decide) (by rw[hs];rfl) (by rfl))
def maxD:List D->Option D
 | [.int i,.int j]=>some (.int (if j>i then j else i))
 | _=>none
def Fo:D->Option D:=λx=>(jQ x).map .lst
theorem Pr(hg:Gl X "list")(hm:X.mg "list"=none)(ha:DE X Γ E a fa)(hs:starEach [a] X.env=[(false,eval a X.env)]:=by rfl):DE X Γ E (.Call (.Name "list" p) [a] [] pos) (oC (λds=>match ds with | [x]=>Fo x | _=>none) (az fa aM)) :=
 dC (λG H vs ds d Q s r e k=>by
  cases r with
  | nil=>cases e
  | cons r1 r2 =>
   cases r2 with
   | cons _ _=>cases e
   | nil =>
    dsimp only at e
    unfold Fo at e
    obtain⟨xs,e1,rfl⟩:=Option.map_eq_some_iff.mp e
    obtain⟨a,vs,rfl,sq,ra⟩:=r1.seq e1
    exact⟨a,vs,rfl,sq.imp (λz=>s.seq z) (λz=>SqT.same s z),λl hl=>k _ _ _ (.new s hl) (.lst aO (ra.mono (aQ.up (aD s hl))))⟩) (jC vP hg hm (by decide +kernel) (aj ha aF (by rw[hs];rfl)) (by decide) (by decide) (by rw[hs];rfl) (by rfl))
def pJ:D->Option D
 | .lst xs=>some (.tup xs)
 | .rol xs=>some (.tup xs)
 | .tup xs=>some (.tup xs)
 | _=>none
theorem Ay(hg:Gl X "tuple")(hm:X.mg "tuple"=none)(ha:DE X Γ E a fa)(hs:starEach [a] X.env=[(false,eval a X.env)]:=by rfl):DE X Γ E (.Call (.Name "tuple" p) [a] [] pos) (oC (λds=>match ds with | [x]=>pJ x | _=>none) (az fa aM)) :=
 dC (λG H vs ds d Q s r e k=>by
  cases r with
  | nil=>cases e
  | cons r1 r2 =>
   cases r2 with
   | cons _ _=>cases e
   | nil =>
    dsimp only at e
    unfold pJ at e
    split at e
    .cases e
     cases r1 with
     | lst h ra=>exact⟨_,_,rfl,.inl ⟨s.seq (SqL.of h),λl hl=>k _ _ _ (.new s hl) (.tup aO (ra.mono (aQ.up (aD s hl))))⟩⟩
    .cases e
     cases r1 with
     | rol h ra=>exact⟨_,_,rfl,.inl ⟨s.seq h,λl hl=>k _ _ _ (.new s hl) (.tup aO (ra.mono (aQ.up (aD s hl))))⟩⟩
    .cases e
     cases r1 with
     | tup h ra=>exact⟨_,_,rfl,.inr ⟨SqT.of (s _ _ h),k _ G H (.refl s) (.tup h ra)⟩⟩
    .cases e) (jC Dp hg hm (by decide +kernel) (aj ha aF (by rw[hs];rfl)) (by decide) (by decide) (by rw[hs];rfl) (by rfl))
end
end DL
namespace DL
open PySem PySem.Spec PyProof.Rows MX L2
section
variable{K:Frag}{Γ:Nat->Option Addr}{G0 H0 G H G' H':Hp}{O O':Addr->Option Nat}{σ:L2.St}{δ:DSt}
theorem Inner.reO(k:∀b,H b≠none->O' b=O b){i:Nat}:∀{vs:List V}{dss:List (List D)},Inner K Γ H0 G H O i vs dss->Inner K Γ H0 G H O' i vs dss
 | _,_,.nil=>.nil
 | _,_,.cons h g h0 o r n t=>.cons h g h0 (by rw[k _ (by rw[h];exact λq=>nomatch q)];exact o) r n (t.reO k)
theorem bG.reO(k:∀b,H b≠none->O' b=O b){i:Nat}:∀{vs:List V}{es:List Mx}{bs:List Addr},bG K Γ H0 G H O i vs es bs->bG K Γ H0 G H O' i vs es bs
 | _,_,_,.nil=>.nil
 | _,_,_,.own h g h0 o r n t=>.own h g h0 (by rw[k _ (by rw[h];exact λq=>nomatch q)];exact o) r n (t.reO k)
 | _,_,_,.fix r t=>.fix r (t.reO k)
theorem bN.reO{i:Nat}{v:V}{x:Sl}(h:bN K Γ H0 G H O i v x)(k:∀b,H b≠none->O' b=O b):bN K Γ H0 G H O' i v x:=by
 have kk:∀{a:Addr}{o:HO},H a=some o->O' a=O a:=λh=>k _ (by rw[h];exact λq=>nomatch q)
 cases x with
 | sh d=>exact h
 | ol ds=>obtain⟨a,vs,e,h1,h2,h3,h4,h5⟩:=h;exact⟨a,vs,e,h1,h2,h3,(kk h1).trans h4,h5⟩
 | oll ds=>obtain⟨a,vs,e,h1,h2,h3,h4,h5,h6⟩:=h;exact⟨a,vs,e,h1,h2,h3,(kk h1).trans h4,h5,h6.reO k⟩
 | od ds=>obtain⟨a,vs,e,h1,h2,h3,h4,h5⟩:=h;exact⟨a,vs,e,h1,h2,h3,(kk h1).trans h4,h5⟩
 | odT ds=>obtain⟨a,vs,e,h1,h2,h3,h4,h5⟩:=h;exact⟨a,vs,e,h1,h2,h3,(kk h1).trans h4,h5⟩
 | omx ds=>obtain⟨a,vs,bs,e,h1,h2,h3,h4,h5,h6⟩:=h;exact⟨a,vs,bs,e,h1,h2,h3,(kk h1).trans h4,h5,h6.reO k⟩
theorem Inner.frame{i j:Nat}(ij:j≠i)(hh:∀b,O b≠some i->H' b=H b)(gg:aQ G G')(gn:∀b,O b≠some i->G b=none->G' b=none):∀{vs:List V}{dss:List (List D)},Inner K Γ H0 G H O j vs dss->Inner K Γ H0 G' H' O j vs dss
 | _,_,.nil=>.nil
 | _,_,.cons h g h0 o r n t=>.cons ((hh _ (by rw[o];exact λq=>ij (Option.some.inj q))).trans h) (gn _ (by rw[o];exact λq=>ij (Option.some.inj q)) g) h0 o (r.mono gg) n (t.frame ij hh gg gn)
theorem bG.frame{i j:Nat}(ij:j≠i)(hh:∀b,O b≠some i->H' b=H b)(gg:aQ G G')(gn:∀b,O b≠some i->G b=none->G' b=none):∀{vs:List V}{es:List Mx}{bs:List Addr},bG K Γ H0 G H O j vs es bs->bG K Γ H0 G' H' O j vs es bs
 | _,_,_,.nil=>.nil
 | _,_,_,.own h g h0 o r n t=>.own ((hh _ (by rw[o];exact λq=>ij (Option.some.inj q))).trans h) (gn _ (by rw[o];exact λq=>ij (Option.some.inj q)) g) h0 o (r.mono gg) n (t.frame ij hh gg gn)
 | _,_,_,.fix r t=>.fix (r.mono gg) (t.frame ij hh gg gn)
theorem bN.frame{i j:Nat}{v:V}{x:Sl}(h:bN K Γ H0 G H O j v x)(ij:j≠i)(hh:∀b,O b≠some i->H' b=H b)(gg:aQ G G')(gn:∀b,O b≠some i->G b=none->G' b=none):bN K Γ H0 G' H' O j v x:=by
 have nz:∀{a:Addr},O a=some j->O a≠some i:=λo=>by rw[o];exact λq=>ij (Option.some.inj q)
 cases x with
 | sh d=>exact Rep.mono gg h
 | ol ds=>obtain⟨a,vs,e,h1,h2,h3,h4,h5⟩:=h;exact⟨a,vs,e,(hh _ (nz h4)).trans h1,gn _ (nz h4) h2,h3,h4,h5.mono gg⟩
 | oll ds=>obtain⟨a,vs,e,h1,h2,h3,h4,h5,h6⟩:=h;exact⟨a,vs,e,(hh _ (nz h4)).trans h1,gn _ (nz h4) h2,h3,h4,h5,h6.frame ij hh gg gn⟩
 | od ds=>obtain⟨a,vs,e,h1,h2,h3,h4,h5⟩:=h;exact⟨a,vs,e,(hh _ (nz h4)).trans h1,gn _ (nz h4) h2,h3,h4,h5.mono gg⟩
 | odT ds=>obtain⟨a,vs,e,h1,h2,h3,h4,h5⟩:=h;exact⟨a,vs,e,(hh _ (nz h4)).trans h1,gn _ (nz h4) h2,h3,h4,h5.mono gg⟩
 | omx ds=>obtain⟨a,vs,bs,e,h1,h2,h3,h4,h5,h6⟩:=h;exact⟨a,vs,bs,e,(hh _ (nz h4)).trans h1,gn _ (nz h4) h2,h3,h4,h5,h6.frame ij hh gg gn⟩
theorem Slots.put{i:Nat}{v:V}{x:Sl}(hl:δ.length=σ.length)(q:∀j s,δ[j]?=some (some s)->j≠i->∃v,σ[j]?=some (some v)/\bN K Γ H0 G H O j v s)(n:bN K Γ H0 G H O i v x):Slots K Γ H0 G H (σ.set i (some v)) (δ.set i (some x)):=by
 refine⟨O,λj y e=>?_⟩
 by_cases ij:i=j
 .subst ij
  rw[List.getElem?_set_self'] at e
  cases h:δ[i]? with
  | none=>rw[h] at e;simp at e
  | some z =>
   rw[h] at e
   simp at e
   have lt:i<σ.length:=by rw[←hl];exact(List.getElem?_eq_some_iff.mp h).1
   subst e
   exact⟨v,by rw[List.getElem?_set_self lt],n⟩
 .rw[List.getElem?_set_ne ij] at e
  obtain⟨v',h1,h2⟩:=q j y e (λz=>ij z.symm)
  exact⟨v',by rw[List.getElem?_set_ne ij];exact h1,h2⟩
theorem Cq{α:Type}{l:List α}{i:Nat}{x:α}(h:l[i]?=some x):l.set i x=l:=by
 obtain⟨lt,e⟩:=List.getElem?_eq_some_iff.mp h
 subst e
 exact List.set_getElem_self lt
theorem SR.setl(S:SR K Γ G0 H0 G H σ δ)(s:Step G H G' H'){i:Nat}{a:Addr}{vs:List V}{ds:List D}(f:H a=none)(h:H' a=some (.lst vs))(g:G' a=none)(r:aC K Γ G' vs ds):
  SR K Γ G0 H0 G' H' (σ.set i (some (.ref a))) (δ.set i (some (.ol ds))):=by
 obtain⟨O,q⟩:=S.sl
 have k:∀b,H b≠none->(λb=>if b=a then some i else O b) b=O b:=λb hb=>by
  have:b≠a:=λz=>hb (z▸f)
  simp[this]
 refine⟨S.st.trans s,by rw[List.length_set,List.length_set];exact S.len,Slots.put (O:=λb=>if b=a then some i else O b) S.len (λj y e ij=>?_) ⟨a,vs,rfl,h,g,aD S.st.hh f,by simp,r⟩⟩
 obtain⟨v,h1,h2⟩:=q j y e
 exact⟨v,h1,(h2.reO k).step s⟩
theorem bC.mem{G' H':Hp}:∀{vs:List V}{dss:List (List D)},bC K Γ H G' H' vs dss->∀b,V.ref b∈vs->H b=none/\H' b≠none
 | _,_,.nil,b,hb=>by cases hb
 | _,_,.cons f h g r n t,b,hb=>by
  rcases List.mem_cons.mp hb with z | z
  .cases z;exact⟨f,by rw[h];exact λq=>nomatch q⟩
  .exact t.mem b z
theorem SR.write(S:SR K Γ G0 H0 G H σ δ)(q:∀i s,δ[i]?=some (some s)->∃v,σ[i]?=some (some v)/\bN K Γ H0 G H O i v s){i:Nat}{a:Addr}{o:HO}{v:V}{x:Sl}(g:G a=none)(h0:H0 a=none)(oa:O a=some i)(hv:σ[i]?=some (some v))
  (n:bN K Γ H0 G (upd H a o) O i v x):SR K Γ G0 H0 G (upd H a o) σ (δ.set i (some x)):=by
 have hh:∀b,O b≠some i->upd H a o b=H b:=λb hb=>aW λz=>hb (z▸oa)
 refine⟨⟨S.st.gg,λb u e=>?_,λb u e=>?_,S.st.sep⟩,by rw[List.length_set];exact S.len,?_⟩
 .rw[aW (aV e h0)];exact S.st.hh _ _ e
 .rw[aW (aV e g)];exact S.st.gh _ _ e
 .have z:=Slots.put (v:=v) (i:=i) (x:=x) S.len (λj y e ij=>by
   obtain⟨v',h1,h2⟩:=q j y e
   exact⟨v',h1,h2.frame ij hh (aQ.refl _) (λ_ _ g=>g)⟩) n
  rwa [Cq hv] at z
def dN(G H:Hp)(p:Addr->Bool):Hp:=λb=>if p b=true then H b else G b
theorem SR.KN(S:SR K Γ G0 H0 G H σ δ)(q:∀i s,δ[i]?=some (some s)->∃v,σ[i]?=some (some v)/\bN K Γ H0 G H O i v s){i:Nat}(p:Addr->Bool)(hp:∀b,p b=true->O b=some i/\G b=none/\H0 b=none){v:V}{d:D}(hv:σ[i]?=some (some v))
  (n:Rep K Γ (dN G H p) v d):SR K Γ G0 H0 (dN G H p) H σ (δ.set i (some (.sh d))):=by
 have gg:aQ G (dN G H p):=λb u e=>by
  unfold dN
  split
  .rw[(hp b ‹_›).2.1] at e;cases e
  .exact e
 have gn:∀b,O b≠some i->G b=none->dN G H p b=none:=λb hb g=>by
  unfold dN
  split
  .exact absurd (hp b ‹_›).1 hb
  .exact g
 refine⟨⟨S.st.gg.trans gg,S.st.hh,λb u e=>?_,λb hb g0=>?_⟩,by rw[List.length_set];exact S.len,?_⟩
 .unfold dN at e
  split at e
  .exact e
  .exact S.st.gh _ _ e
 .unfold dN
  split
  .exact absurd (hp b ‹_›).2.2 hb
  .exact S.st.sep b hb g0
 .have z:=Slots.put (v:=v) (i:=i) (x:=.sh d) S.len (λj y e ij=>by
   obtain⟨v',h1,h2⟩:=q j y e
   exact⟨v',h1,h2.frame ij (λ_ _=>rfl) gg gn⟩) n
  rwa [Cq hv] at z
theorem Inner.facts{i:Nat}:∀{vs:List V}{dss:List (List D)},Inner K Γ H0 G H O i vs dss->∀b,V.ref b∈vs->O b=some i/\G b=none/\H0 b=none
 | _,_,.nil,b,hb=>by cases hb
 | _,_,.cons h g h0 o r n t,b,hb=>by
  rcases List.mem_cons.mp hb with z | z
  .cases z;exact⟨o,g,h0⟩
  .exact t.facts b z
theorem Inner.frozen{i:Nat}{p:Addr->Bool}(gg:aQ G (dN G H p)):∀{vs:List V}{dss:List (List D)},(∀b,V.ref b∈vs->p b=true)->Inner K Γ H0 G H O i vs dss->aC K Γ (dN G H p) vs (dss.map .lst)
 | _,_,_,.nil=>.nil
 | _,_,m,.cons h g h0 o r n t=>.cons (.lst (by unfold dN;rw[if_pos (m _ List.mem_cons_self)];exact h) (r.mono gg)) (Inner.frozen gg (λb' hb=>m b' (List.mem_cons_of_mem _ hb)) t)
theorem bG.facts{i:Nat}:∀{vs:List V}{es:List Mx}{bs:List Addr},bG K Γ H0 G H O i vs es bs->∀b∈bs,O b=some i/\G b=none/\H0 b=none
 | _,_,_,.nil,b,hb=>by cases hb
 | _,_,_,.own h g h0 o r n t,b,hb=>by
  rcases List.mem_cons.mp hb with z | z
  .cases z;exact⟨o,g,h0⟩
  .exact t.facts b z
 | _,_,_,.fix r t,b,hb=>t.facts b hb
theorem bG.frozen{i:Nat}{p:Addr->Bool}(gg:aQ G (dN G H p)):∀{vs:List V}{es:List Mx}{bs:List Addr},(∀b∈bs,p b=true)->bG K Γ H0 G H O i vs es bs->aC K Γ (dN G H p) vs (es.map Mx.d)
 | _,_,_,_,.nil=>.nil
 | _,_,_,m,.own h g h0 o r n t=>.cons (.lst (by unfold dN;rw[if_pos (m _ List.mem_cons_self)];exact h) (r.mono gg)) (bG.frozen gg (λb' hb=>m b' (List.mem_cons_of_mem _ hb)) t)
 | _,_,_,m,.fix r t=>.cons (r.mono gg) (bG.frozen gg m t)
def frzS:Sl->Sl
 | .sh d=>.sh d
 | .ol ds=>.sh (.lst ds)
 | .oll dss=>.sh (.lst (dss.map .lst))
 | .od kvs=>.sh (.dK kvs)
 | .odT kvs=>.sh (.dT kvs)
 | .omx es=>.sh (.lst (es.map Mx.d))
def frz(i:Nat)(δ:DSt):DSt:=match δ[i]? with
 | some (some s)=>δ.set i (some (frzS s))
 | _=>δ
theorem du{p:Addr->Bool}(hp:∀b,p b=true->G b=none):aQ G (dN G H p):=λb u e=>by
 unfold dN
 split
 .rw[hp b ‹_›] at e;cases e
 .exact e
theorem SR.freeze(S:SR K Γ G0 H0 G H σ δ)(i:Nat):∃G',SR K Γ G0 H0 G' H σ (frz i δ):=by
 obtain⟨O,q⟩:=id S.sl
 unfold frz
 split
 .rename_i s e
  obtain⟨v,hv,h⟩:=q i s e
  cases s with
  | sh d=>exact⟨G,by rw[show frzS (.sh d)=.sh d from rfl,Cq e];exact S⟩
  | ol ds =>
   obtain⟨a,vs,ev,h1,h2,h3,h4,h5⟩:=h
   subst ev
   have hp:∀b,decide (b=a)=true->O b=some i/\G b=none/\H0 b=none:=λb z=>by obtain rfl:=of_decide_eq_true z;exact⟨h4,h2,h3⟩
   exact⟨_,S.KN q (λb=>decide (b=a)) hp hv (.lst (by unfold dN;rw[if_pos (by simp)];exact h1) (h5.mono (du λb z=>(hp b z).2.1)))⟩
  | oll ds =>
   obtain⟨a,vs,ev,h1,h2,h3,h4,h5,h6⟩:=h
   subst ev
   have hp:∀b,decide (b=a∨V.ref b∈vs)=true->O b=some i/\G b=none/\H0 b=none:=λb z=>by
    rcases of_decide_eq_true z with z | z
    .subst z;exact⟨h4,h2,h3⟩
    .exact h6.facts b z
   exact⟨_,S.KN q (λb=>decide (b=a∨V.ref b∈vs)) hp hv (.lst (by unfold dN;rw[if_pos (by simp)];exact h1) (h6.frozen (du λb z=>(hp b z).2.1) λb hb=>by simp[hb]))⟩
  | od ds =>
   obtain⟨a,vs,ev,h1,h2,h3,h4,h5⟩:=h
   subst ev
   have hp:∀b,decide (b=a)=true->O b=some i/\G b=none/\H0 b=none:=λb z=>by obtain rfl:=of_decide_eq_true z;exact⟨h4,h2,h3⟩
   exact⟨_,S.KN q (λb=>decide (b=a)) hp hv (.dK (by unfold dN;rw[if_pos (by simp)];exact h1) (h5.mono (du λb z=>(hp b z).2.1)))⟩
  | odT ds =>
   obtain⟨a,vs,ev,h1,h2,h3,h4,h5⟩:=h
   subst ev
   have hp:∀b,decide (b=a)=true->O b=some i/\G b=none/\H0 b=none:=λb z=>by obtain rfl:=of_decide_eq_true z;exact⟨h4,h2,h3⟩
   exact⟨_,S.KN q (λb=>decide (b=a)) hp hv (.dT (by unfold dN;rw[if_pos (by simp)];exact h1) (h5.mono (du λb z=>(hp b z).2.1)))⟩
  | omx ds =>
   obtain⟨a,vs,bs,ev,h1,h2,h3,h4,h5,h6⟩:=h
   subst ev
   have hp:∀b,decide (b=a∨b∈bs)=true->O b=some i/\G b=none/\H0 b=none:=λb z=>by
    rcases of_decide_eq_true z with z | z
    .subst z;exact⟨h4,h2,h3⟩
    .exact h6.facts b z
   exact⟨_,S.KN q (λb=>decide (b=a∨b∈bs)) hp hv (.lst (by unfold dN;rw[if_pos (by simp)];exact h1) (h6.frozen (du λb z=>(hp b z).2.1) λb hb=>by simp[hb]))⟩
 .exact⟨G,S⟩
end
section
variable(K:Frag)(Γ:Nat->Option Addr)(E:XK)
def okF(G H:Hp)(Q:VK)(ds:List D):Prop:=∀a vs G' H',Step G H G' H'->H a=none->H' a=some (.lst vs)->G' a=none->aC K Γ G' vs ds->Q (.ref a) H'
def okFF(G H:Hp)(Q:VK)(dss:List (List D)):Prop:=∀a vs G' H',Step G H G' H'->H a=none->H' a=some (.lst vs)->G' a=none->V.ref a∉vs->bC K Γ H G' H' vs dss->Q (.ref a) H'
def tfD(f:DSt->Out (List D)):TE:=λσ H Q=>∃G0 H0 G δ,SR K Γ G0 H0 G H σ δ/\wpO (f δ) (okF K Γ G H Q) (exD K Γ E G H)
def tffD(f:DSt->Out (List (List D))):TE:=λσ H Q=>∃G0 H0 G δ,SR K Γ G0 H0 G H σ δ/\wpO (f δ) (okFF K Γ G H Q) (exD K Γ E G H)
end
abbrev DF(X:Cx)(Γ:Nat->Option Addr)(E:XK)(e:Expr)(f:DSt->Out (List D)):Prop:=PE X e (tfD X.K Γ E f)
abbrev DFF(X:Cx)(Γ:Nat->Option Addr)(E:XK)(e:Expr)(f:DSt->Out (List (List D))):Prop:=PE X e (tffD X.K Γ E f)
section
variable{X:Cx}{Γ:Nat->Option Addr}{E:XK}{e a b c:Expr}{pos:Pos}{es:List Expr}{fa fb:DSt->Out D}{fr:DSt->Out (List D)}
theorem bC.frozen{K:Frag}{G0 H0 G H:Hp}{p:Addr->Bool}(gg:aQ G (dN G H p)):∀{vs:List V}{dss:List (List D)},(∀b,V.ref b∈vs->p b=true)->bC K Γ H0 G H vs dss->aC K Γ (dN G H p) vs (dss.map .lst)
 | _,_,_,.nil=>.nil
 | _,_,m,.cons f h g r n t=>.cons (.lst (by unfold dN;rw[if_pos (m _ List.mem_cons_self)];exact h) (r.mono gg)) (bC.frozen (G0:=G0) gg (λb' hb=>m b' (List.mem_cons_of_mem _ hb)) t)
theorem bC.gnone{K:Frag}{H G' H':Hp}:∀{vs:List V}{dss:List (List D)},bC K Γ H G' H' vs dss->∀b,V.ref b∈vs->G' b=none
 | _,_,.nil,b,hb=>by cases hb
 | _,_,.cons f h g r n t,b,hb=>by
  rcases List.mem_cons.mp hb with z | z
  .cases z;exact g
  .exact t.gnone b z
theorem Step.frz{G H G' H':Hp}(s:Step G H G' H')(p:Addr->Bool)(hp:∀b,p b=true->G' b=none/\H b=none):Step G H (dN G' H' p) H' :=
 ⟨s.gg.trans (du λb z=>(hp b z).1),s.hh,λb u e=>by
  unfold dN at e
  split at e
  .exact e
  .exact s.gh _ _ e,λb hb g=>by
  unfold dN
  split
  .exact absurd (hp b ‹_›).2 hb
  .exact s.sep b hb g⟩
def rR(f:DSt->Out (List D)):DSt->Out D:=λδ=>(f δ).bind λds=>.ok (.lst ds)
theorem vV{f:DSt->Out (List D)}(h:DF X Γ E e f):DE X Γ E e (rR f):=PE.imp h λσ H Q ⟨G0,H0,G,δ,S,w⟩=>by
 refine⟨G0,H0,G,δ,S,(ao w).mono (λds w a vs G1 H1 s1 f h g r=>?_) λ_ k=>k⟩
 have hp:∀b,decide (b=a)=true->G1 b=none/\H b=none:=λb z=>by obtain rfl:=of_decide_eq_true z;exact⟨g,f⟩
 exact w _ _ H1 (s1.frz (λb=>decide (b=a)) hp) (.lst (by unfold dN;rw[if_pos (by simp)];exact h) (r.mono (du λb z=>(hp b z).1)))
def vQ(f:DSt->Out (List D)):DSt->Out (List D):=λδ=>(f δ).bind λds=>if ds.length<=sizeLine then .ok ds else .stuck
theorem nR(h:DA X Γ E es fr):DF X Γ E (.List es pos) (vQ fr):=PE.imp (pe_lst h) λσ H Q ⟨G0,H0,G,δ,S,w⟩=>by
 refine⟨G0,H0,G,δ,S,(ao w).mono (λds w vs G1 H1 s1 r1=>?_) λ_ k=>k⟩
 split at w
 .rename_i h
  exact⟨by rw[r1.length];exact h,λp hp=>w p vs G1 _ (s1.trans (.aside s1.gh hp)) (aD s1.hh hp) aO (aD s1.gh hp) r1⟩
 .exact False.elim w
def ik(f:DSt->Out D):DSt->Out (List D):=λδ=>(f δ).bind λd=>.opt (jQ d)
theorem df_list{p:Pos}(hg:Gl X "list")(hm:X.mg "list"=none)(ha:DE X Γ E a fa)(hs:starEach [a] X.env=[(false,eval a X.env)]:=by rfl):DF X Γ E (.Call (.Name "list" p) [a] [] pos) (ik fa) :=
 PE.imp (jC vP hg hm (by decide +kernel) (aU ha bD (by rw[hs];rfl)) (by decide) (by decide) (by rw[hs];rfl) (by rfl)) λσ H Q ⟨G0,H0,G,δ,S,w⟩=>by
  refine⟨G0,H0,G,δ,S,(ao w).mono (λd w v G1 H1 s1 r1=>?_) λ_ k=>k⟩
  obtain⟨ds,e,w⟩:=bh w
  obtain⟨a,vs,rfl,sq,ra⟩:=r1.seq e
  exact⟨a,vs,rfl,sq.imp (λz=>s1.gh.seq z) (λz=>SqT.same s1.gh z),λl hl=>w l vs G1 _ (s1.trans (.aside s1.gh hl)) (aD s1.hh hl) aO (aD s1.gh hl) ra⟩
end
section
variable{X:Cx}{Γ:Nat->Option Addr}{E:XK}{e a b c:Expr}{pos:Pos}{es:List Expr}{fa fb:DSt->Out D}{fr:DSt->Out (List D)}{ft:DSt->Out Bool}{st:Stmt}{rest sa sb:List Stmt}{g g':DSt->Out Fl}
def cR:DSt->Out Fl:=λδ=>.ok (.nx δ)
def aX(g g':DSt->Out Fl):DSt->Out Fl:=λδ=>(g δ).bind λfl=>match fl with
 | .nx δ'=>g' δ'
 | fl=>.ok fl
theorem aZ:DSs X Γ E [] cR:=PSs.imp Qk λN σ H ⟨G0,H0,G,δ,S,w⟩=>w σ G H S
theorem aq(h1:DS X Γ E st g)(h2:DSs X Γ E rest g'):DSs X Γ E (st::rest) (aX g g'):=PSs.imp (sE h1 h2) λN σ H ⟨G0,H0,G,δ,S,w⟩=>by
 refine⟨G0,H0,G,δ,S,(ao w).mono (λfl w=>?_) λ_ k=>k⟩
 cases fl with
 | nx δ'=>exact λσ' G' H' S'=>⟨G0,H0,G',δ',S',w⟩
 | rt d=>exact w
 | bk d=>exact w
 | ct d=>exact w
 | rl d=>exact w
 | rll d=>exact w
theorem aA(h1:DS X Γ E st g):DSs X Γ E [st] g:=lU h1
theorem qN(i:Nat)(h:DS X Γ E st g):DS X Γ E st (λδ=>g (frz i δ)):=PS.imp h λN σ H ⟨G0,H0,G,δ,S,w⟩=>by
 obtain⟨G',S'⟩:=S.freeze i
 exact⟨G0,H0,G',_,S',w⟩
theorem jT:DS X Γ E st (λ_=>.stuck):=PS.imp ps_never λN σ H ⟨G0,H0,G,δ,S,w⟩=>w
def bF(f:DSt->Out D):DSt->Out Fl:=λδ=>(f δ).bind λd=>.ok (.rt d)
theorem aP(he:DE X Γ E e fa):DS X Γ E (.Return (some e) pos) (bF fa):=PS.imp (vh he) λN σ H ⟨G0,H0,G,δ,S,w⟩ =>
 ⟨G0,H0,G,δ,S,(ao w).mono (λd w v G' H' s r=>w v G' H' (S.st.trans s) r) λx k=>exD.step k S.st⟩
def LQ(f:DSt->Out (List D)):DSt->Out Fl:=λδ=>(f δ).bind λd=>.ok (.rl d)
theorem Py(he:DF X Γ E e fr):DS X Γ E (.Return (some e) pos) (LQ fr):=PS.imp (vh he) λN σ H ⟨G0,H0,G,δ,S,w⟩ =>
 ⟨G0,H0,G,δ,S,(ao w).mono (λd w a vs G' H' s f h g r=>w a vs G' H' (S.st.trans s) (aD S.st.hh f) h g r) λx k=>exD.step k S.st⟩
theorem bC.reF{K:Frag}{H H2 G' H':Hp}(k:∀b,H b=none->H2 b=none):∀{vs:List V}{dss:List (List D)},bC K Γ H G' H' vs dss->bC K Γ H2 G' H' vs dss
 | _,_,.nil=>.nil
 | _,_,.cons f h g r n t=>.cons (k _ f) h g r n (bC.reF k t)
def Oz(f:DSt->Out (List (List D))):DSt->Out Fl:=λδ=>(f δ).bind λd=>.ok (.rll d)
theorem ds_retff{ff:DSt->Out (List (List D))}(he:DFF X Γ E e ff):DS X Γ E (.Return (some e) pos) (Oz ff):=PS.imp (vh he) λN σ H ⟨G0,H0,G,δ,S,w⟩ =>
 ⟨G0,H0,G,δ,S,(ao w).mono (λd w a vs G' H' s f h g n r=>w a vs G' H' (S.st.trans s) (aD S.st.hh f) h g n (r.reF λb z=>aD S.st.hh z)) λx k=>exD.step k S.st⟩
def uI(i:Nat):DSt->Out Fl:=λδ=>match δ[i]? with
 | some (some (.sh d))=>.ok (.rt d)
 | some (some (.ol ds))=>.ok (.rl ds)
 | some (some (.oll dss))=>.ok (.rll dss)
 | _=>.stuck
theorem Inner.toN{K:Frag}{H0 G H:Hp}{O:Addr->Option Nat}{i:Nat}:∀{vs:List V}{dss:List (List D)},Inner K Γ H0 G H O i vs dss->bC K Γ H0 G H vs dss
 | _,_,.nil=>.nil
 | _,_,.cons h g h0 o r n t=>.cons h0 h g r n t.toN
theorem t6(i:Nat){x:Str}{p:Pos}(hv:PE X (.Name x p) (m7 i)):DS X Γ E (.Return (some (.Name x p)) pos) (uI i):=PS.imp (vh hv) λN σ H ⟨G0,H0,G,δ,S,w⟩=>by
 obtain⟨O,q⟩:=id S.sl
 unfold uI at w
 split at w
 .rename_i d e
  obtain⟨v,hv,h⟩:=q i _ e
  exact⟨v,hv,w v G H S.st h⟩
 .rename_i d e
  obtain⟨v,hv,a,vs,ev,h1,h2,h3,h4,h5⟩:=q i _ e
  subst ev
  exact⟨_,hv,w a vs G H S.st h3 h1 h2 h5⟩
 .rename_i d e
  obtain⟨v,hv,a,vs,ev,h1,h2,h3,h4,h5,h6⟩:=q i _ e
  subst ev
  exact⟨_,hv,w a vs G H S.st h3 h1 h2 h5 h6.toN⟩
 .exact False.elim w
def sIf(t:DSt->Out Bool)(g g':DSt->Out Fl):DSt->Out Fl:=λδ=>(t δ).bind λk=>if k=true then g δ else g' δ
theorem bW(hc:DT X Γ E c ft)(ha:DSs X Γ E sa g)(hb:DSs X Γ E sb g'):DS X Γ E (.If c sa sb pos) (sIf ft g g'):=PS.imp (ps_if hc ha hb) λN σ H ⟨G0,H0,G,δ,S,w⟩=>by
 refine⟨G0,H0,G,δ,S,(ao w).mono (λk w G1 H1 s1=>?_) λx k=>exD.step k S.st⟩
 cases k with
 | true=>rw[if_pos rfl] at w ⊢;exact⟨G0,H0,G1,δ,S.step s1,w⟩
 | false=>rw[if_neg Bool.false_ne_true] at w ⊢;exact⟨G0,H0,G1,δ,S.step s1,w⟩
def tgD(K:Frag)(Γ:Nat->Option Addr)(f:D->DSt->Option DSt):TG:=λv σ H Q=>∃G0 H0 G δ d δ',SR K Γ G0 H0 G H σ δ/\Rep K Γ G v d/\f d δ=some δ'/\∀σ',SR K Γ G0 H0 G H σ' δ'->Q σ' H
def tgsD(K:Frag)(Γ:Nat->Option Addr)(f:List D->DSt->Option DSt):TGs:=λvs σ H Q=>∃G0 H0 G δ ds δ',SR K Γ G0 H0 G H σ δ/\aC K Γ G vs ds/\f ds δ=some δ'/\∀σ',SR K Γ G0 H0 G H σ' δ'->Q σ' H
abbrev DG(X:Cx)(Γ:Nat->Option Addr)(e:Expr)(f:D->DSt->Option DSt):Prop:=PG X e (tgD X.K Γ f)
abbrev DGs(X:Cx)(Γ:Nat->Option Addr)(es:List Expr)(f:List D->DSt->Option DSt):Prop:=PGs X es (tgsD X.K Γ f)
theorem PG.imp{e:Expr}{t t':TG}(h:PG X e t)(k:∀v σ H Q,t' v σ H Q->t v σ H Q):PG X e t':=λpins s σ H v u Q I r q=>h pins s σ H v u Q I r (k _ _ _ _ q)
theorem PGs.imp{e:List Expr}{t t':TGs}(h:PGs X e t)(k:∀v σ H Q,t' v σ H Q->t v σ H Q):PGs X e t':=λpins s σ H v u Q I r q=>h pins s σ H v u Q I r (k _ _ _ _ q)
def gN(i:Nat):D->DSt->Option DSt:=λd δ=>some (δ.set i (some (.sh d)))
theorem Px{i:Nat}{x:Str}(h:PG X (.Name x pos) (wC i)):DG X Γ (.Name x pos) (gN i):=PG.imp h λv σ H Q ⟨G0,H0,G,δ,d,δ',S,r,e,q⟩=>by
 cases e
 exact q _ (S.set r)
def dZ:List D->DSt->Option DSt:=λds δ=>match ds with
 | []=>some δ
 | _=>none
def bj(f:D->DSt->Option DSt)(g:List D->DSt->Option DSt):List D->DSt->Option DSt:=λds δ=>match ds with
 | d::r=>(f d δ).bind (g r)
 | []=>none
theorem lM:DGs X Γ [] dZ:=PGs.imp pgs_nil λvs σ H Q ⟨G0,H0,G,δ,ds,δ',S,r,e,q⟩=>by
 cases r with
 | nil=>cases e;exact⟨rfl,q _ S⟩
 | cons _ _=>cases e
theorem bZ{f:D->DSt->Option DSt}{h:List D->DSt->Option DSt}(h1:DG X Γ e f)(h2:DGs X Γ es h)(hh:∀{t:TG} {u:TGs},PG X e t->PGs X es u->PGs X (e::es) (gCons t u)):DGs X Γ (e::es) (bj f h):=PGs.imp (hh h1 h2) λvs σ H Q ⟨G0,H0,G,δ,ds,δ',S,r,e,q⟩=>by
 cases r with
 | nil=>cases e
 | cons r1 r2 =>
  unfold bj at e
  obtain⟨δ1,e1,e2⟩:=Option.bind_eq_some_iff.mp e
  exact⟨_,_,rfl,G0,H0,G,δ,_,δ1,S,r1,e1,λσ' S'=>⟨G0,H0,G,δ1,_,δ',S',r2,e2,q⟩⟩
def gT(n:Nat)(f:List D->DSt->Option DSt):D->DSt->Option DSt:=λd δ=>match d with
 | .tup ds=>if ds.length=n then f ds δ else none
 | _=>none
theorem qL{f:List D->DSt->Option DSt}{n:Nat}(hh:∀{t:TGs},PGs X es t->PG X e (gTup X.K n t))(h:DGs X Γ es f):DG X Γ e (gT n f):=PG.imp (hh h) λv σ H Q ⟨G0,H0,G,δ,d,δ',S,r,e,q⟩=>by
 unfold gT at e
 split at e
 .split at e
  .cases r with
   | tup h1 r1=>exact⟨_,_,rfl,SqT.of (S.st.gh _ _ h1),by rw[r1.length];assumption,G0,H0,G,δ,_,δ',S,r1,e,q⟩
  .cases e
 .cases e
def sAsg(f:DSt->Out D)(g:D->DSt->Option DSt):DSt->Out Fl:=λδ=>(f δ).bind λd=>(Out.opt (g d δ)).bind λδ'=>.ok (.nx δ')
theorem ds_asg{tg:Expr}{f:D->DSt->Option DSt}(hh:∀{te:TE} {g:TG},PE X e te->PG X tg g->PS X (.Assign [tg] e pos) (tAsg te g))(he:DE X Γ E e fa)(hg:DG X Γ tg f):DS X Γ E (.Assign [tg] e pos) (sAsg fa f):=PS.imp (hh he hg) λN σ H ⟨G0,H0,G,δ,S,w⟩=>by
 refine⟨G0,H0,G,δ,S,(ao w).mono (λd w v G1 H1 s1 r1=>?_) λx k=>exD.step k S.st⟩
 obtain⟨δ',e,w⟩:=bh (ao w)
 exact⟨G0,H0,G1,δ,d,δ',S.step s1,r1,e,λσ' S'=>w σ' G1 H1 S'⟩
def bR(i:Nat)(f:DSt->Out D):DSt->Out Fl:=λδ=>(f δ).bind λd=>.ok (.nx (δ.set i (some (.sh d))))
theorem ds_set(i:Nat){x:Str}{pos':Pos}(hh:∀{te:TE},PE X e te->PS X (.Assign [.Name x pos'] e pos) (tAsg te (wC i)))(he:DE X Γ E e fa):DS X Γ E (.Assign [.Name x pos'] e pos) (bR i fa):=PS.imp (hh he) λN σ H ⟨G0,H0,G,δ,S,w⟩ =>
 ⟨G0,H0,G,δ,S,(ao w).mono (λd w v G1 H1 s1 r1=>w _ G1 H1 ((S.step s1).set r1)) λx k=>exD.step k S.st⟩
def gU(i:Nat)(f:DSt->Out (List D)):DSt->Out Fl:=λδ=>(f δ).bind λd=>.ok (.nx (δ.set i (some (.ol d))))
theorem ds_setl(i:Nat){x:Str}{pos':Pos}(hh:∀{te:TE},PE X e te->PS X (.Assign [.Name x pos'] e pos) (tAsg te (wC i)))(he:DF X Γ E e fr):DS X Γ E (.Assign [.Name x pos'] e pos) (gU i fr):=PS.imp (hh he) λN σ H ⟨G0,H0,G,δ,S,w⟩ =>
 ⟨G0,H0,G,δ,S,(ao w).mono (λd w a vs G1 H1 s1 f h g r=>w _ G1 H1 (S.setl s1 f h g r)) λx k=>exD.step k S.st⟩
end
end DL
namespace DL
open PySem PySem.Spec PyProof.Rows MX L2
section
variable{X:Cx}{Γ:Nat->Option Addr}{E:XK}{e a b c:Expr}{pos:Pos}{es:List Expr}{fa fb:DSt->Out D}{fr:DSt->Out (List D)}{ft:DSt->Out Bool}{st:Stmt}{rest sa sb:List Stmt}{g g':DSt->Out Fl}
def vm(i:Nat)(f:DSt->Out D):DSt->Out Fl:=λδ=>match δ[i]? with
 | some (some (.ol ds))=>(f δ).bind λd=>if ds.length<sizeLine then .ok (.nx (δ.set i (some (.ol (ds++[d]))))) else .stuck
 | _=>.stuck
theorem ds_app(i:Nat){x m:Str}{p apos cpos:Pos}(hv:PE X (.Name x p) (m7 i))(he:DE X Γ E e fa)(hh:∀{to te:TE},PE X (.Name x p) to->PE X e te->PS X (.Expr (.Call (.Attribute (.Name x p) m apos) [e] [] cpos) pos) (zm (tBM X.K "list" Jc to (je te m6)))):
  DS X Γ E (.Expr (.Call (.Attribute (.Name x p) m apos) [e] [] cpos) pos) (vm i fa) :=
 PS.imp (hh hv he) λN σ H ⟨G0,H0,G,δ,S,w⟩=>by
  obtain⟨O,q⟩:=id S.sl
  unfold vm at w
  split at w
  .rename_i ds ei
   obtain⟨v,hvi,h⟩:=id (q i _ ei)
   obtain⟨aa,vs,ev,h1,h2,h3,h4,h5⟩:=h
   subst ev
   refine⟨_,hvi,.inl ⟨rfl,vs,SqL.of h1⟩,G0,H0,G,δ,S,(ao w).mono (λd w u G1 H1 s1 r1=>?_) λx k=>exD.step k S.st⟩
   split at w
   .rename_i hz
    have S1:=S.step s1
    have q1:∀i s,δ[i]?=some (some s)->∃v,σ[i]?=some (some v)/\bN X.K Γ H0 G1 H1 O i v s:=λj y e=>by
     obtain⟨v',z1,z2⟩:=q j y e
     exact⟨v',z1,z2.step s1⟩
    refine⟨aa,vs,u,rfl,rfl,s1.hh _ _ h1,by rw[h5.length];exact hz,w σ G1 _ (S1.write q1 (s1.sep aa (by rw[h1];exact λz=>nomatch z) h2) h3 h4 hvi ?_)⟩
    exact⟨aa,vs++[u],rfl,aO,s1.sep aa (by rw[h1];exact λz=>nomatch z) h2,h3,h4,(h5.mono s1.gg).append (.cons r1 .nil)⟩
   .exact False.elim w
  .exact False.elim w
theorem Inner.length{K:Frag}{H0 G H:Hp}{O:Addr->Option Nat}{i:Nat}:∀{vs:List V}{dss:List (List D)},Inner K Γ H0 G H O i vs dss->vs.length=dss.length
 | _,_,.nil=>rfl
 | _,_,.cons h g h0 o r n t=>by rw[List.length_cons,List.length_cons,t.length]
def sExt(i:Nat)(f:DSt->Out D):DSt->Out Fl:=λδ=>match δ[i]? with
 | some (some (.ol ds))=>(f δ).bind λd=>match d with
  | .lst zs=>if ds.length+zs.length<=sizeLine then .ok (.nx (δ.set i (some (.ol (ds++zs))))) else .stuck
  | _=>.stuck
 | _=>.stuck
theorem ds_ext(i:Nat){x m:Str}{p apos cpos:Pos}(hv:PE X (.Name x p) (m7 i))(he:DE X Γ E e fa)(hh:∀{to te:TE},PE X (.Name x p) to->PE X e te->PS X (.Expr (.Call (.Attribute (.Name x p) m apos) [e] [] cpos) pos) (zm (tBM X.K "list" Qm to (je te m6)))):
  DS X Γ E (.Expr (.Call (.Attribute (.Name x p) m apos) [e] [] cpos) pos) (sExt i fa) :=
 PS.imp (hh hv he) λN σ H ⟨G0,H0,G,δ,S,w⟩=>by
  obtain⟨O,q⟩:=id S.sl
  unfold sExt at w
  split at w
  .rename_i ds ei
   obtain⟨v,hvi,aa,vs,ev,h1,h2,h3,h4,h5⟩:=id (q i _ ei)
   subst ev
   refine⟨_,hvi,.inl ⟨rfl,vs,SqL.of h1⟩,G0,H0,G,δ,S,(ao w).mono (λd w u G1 H1 s1 r1=>?_) λx k=>exD.step k S.st⟩
   split at w
   .rename_i zs
    split at w
    .rename_i hz
     have S1:=S.step s1
     have q1:∀i s,δ[i]?=some (some s)->∃v,σ[i]?=some (some v)/\bN X.K Γ H0 G1 H1 O i v s:=λj y e=>by
      obtain⟨v',z1,z2⟩:=q j y e
      exact⟨v',z1,z2.step s1⟩
     cases r1 with
     | lst hb rb =>
      refine⟨aa,_,vs,_,rfl,rfl,s1.hh _ _ h1,s1.gh _ _ hb,by rw[h5.length,rb.length];exact hz,w σ G1 _ (S1.write q1 (s1.sep aa (by rw[h1];exact λz=>nomatch z) h2) h3 h4 hvi ?_)⟩
      exact⟨aa,_,rfl,aO,s1.sep aa (by rw[h1];exact λz=>nomatch z) h2,h3,h4,(h5.mono s1.gg).append rb⟩
    .exact False.elim w
   .exact False.elim w
  .exact False.elim w
def sClr2(i:Nat)(fk:DSt->Out D):DSt->Out Fl:=λδ=>match δ[i]? with
 | some (some (.oll dss))=>(fk δ).bind λk=>match k with
  | .int k=>match ixN dss.length k with
   | some j=>.ok (.nx (δ.set i (some (.oll (dss.set j [])))))
   | none=>.stuck
  | _=>.stuck
 | _=>.stuck
def sPut(i:Nat)(fe fk:DSt->Out D):DSt->Out Fl:=λδ=>(fe δ).bind λd=>match δ[i]? with
 | some (some (.ol ds))=>(fk δ).bind λk=>match k with
  | .int k=>match ixN ds.length k with
   | some j=>.ok (.nx (δ.set i (some (.ol (ds.set j d)))))
   | none=>.stuck
  | _=>.stuck
 | _=>.stuck
theorem ds_put(i:Nat){x:Str}{p p2:Pos}(hv:PE X (.Name x p) (m7 i))(he:DE X Γ E e fa)(hb:DE X Γ E b fb)(hh:∀{te to ti:TE},PE X e te->PE X (.Name x p) to->PE X b ti->PS X (.Assign [.Subscript (.Name x p) b p2] e pos) (tAsg te (gSub to ti rSetL))):
  DS X Γ E (.Assign [.Subscript (.Name x p) b p2] e pos) (sPut i fa fb) :=
 PS.imp (hh he hv hb) λN σ H ⟨G0,H0,G,δ,S,w⟩=>by
  refine⟨G0,H0,G,δ,S,(ao w).mono (λd w u G1 H1 s1 r1=>?_) λx k=>exD.step k S.st⟩
  have S1:=S.step s1
  obtain⟨O,q⟩:=id S1.sl
  split at w
  .rename_i ds ei
   obtain⟨v,hvi,aa,vs,ev,h1,h2,h3,h4,h5⟩:=id (q i _ ei)
   subst ev
   refine⟨_,hvi,G0,H0,G1,δ,S1,(ao w).mono (λd2 w u2 G2 H2 s2 r2=>?_) λx k=>exD.step k S1.st⟩
   split at w
   .rename_i k
    split at w
    .rename_i j hj
     cases r2
     have S2:=S1.step s2
     have q1:∀i s,δ[i]?=some (some s)->∃v,σ[i]?=some (some v)/\bN X.K Γ H0 G2 H2 O i v s:=λj y e=>by
      obtain⟨v',z1,z2⟩:=q j y e
      exact⟨v',z1,z2.step s2⟩
     have ga:G2 aa=none:=s2.sep aa (by rw[h1];exact λz=>nomatch z) h2
     refine⟨aa,vs,k,j,rfl,rfl,s2.hh _ _ h1,by rw[h5.length];exact hj,w σ G2 _ (S2.write q1 ga h3 h4 hvi ⟨aa,_,rfl,aO,ga,h3,h4,aC.set (r1.mono s2.gg) j (h5.mono s2.gg)⟩)⟩
    .exact False.elim w
   .exact False.elim w
  .exact False.elim w
structure Yl(K:Frag)(Γ:Nat->Option Addr)(G1:Hp)(J:It)(ds:List D):Prop where
 go:∀i H,aQ G1 H->i<ds.length->J.go i H
 yld:∀i G H x H' d,aQ G1 G->aQ G H->J.yld i H x H'->ds[i]?=some d->∃G',Step G H G' H'/\Rep K Γ G' x d
 stop:∀i H,aQ G1 H->ds.length<=i->J.stop i H
def tiD(K:Frag)(Γ:Nat->Option Addr)(E:XK)(f:DSt->Out (List D)):TI:=λσ H R=>∃G0 H0 G δ,SR K Γ G0 H0 G H σ δ/\wpO (f δ) (λds=>∀J G' H',Step G H G' H'->Yl K Γ G' J ds->R J H') (exD K Γ E G H)
abbrev DI(X:Cx)(Γ:Nat->Option Addr)(E:XK)(tg iter:Expr)(f:DSt->Out (List D)):Prop:=PI X tg iter (tiD X.K Γ E f)
theorem PI.imp{tg iter:Expr}{t t':TI}(h:PI X tg iter t)(k:∀σ H R,t' σ H R->t σ H R):PI X tg iter t':=λpins s σ H R I q=>h pins s σ H R I (k _ _ _ q)
theorem Qu{K:Frag}{G:Hp}{a:Addr}{vs:List V}{ds:List D}(h:SqL K G a vs)(r:aC K Γ G vs ds):Yl K Γ G (Itl K a) ds:=by
 refine⟨λi H s lt=>?_,λi G' H x H' d s s' y e=>?_,λi H s le=>⟨vs,s.seq h,by rw[r.length];exact le⟩⟩
 .obtain⟨v,e,_⟩:=r.get (i:=i) (d:=ds[i]) (by simp[lt])
  exact⟨vs,v,s.seq h,e⟩
 .obtain⟨rfl,y⟩:=y
  obtain⟨v,e1,e2⟩:=r.get e
  have:=y vs ((s.trans s').seq h)
  rw[e1] at this
  cases this
  exact⟨G',.refl s',e2.mono s⟩
theorem yl_tup{K:Frag}{G:Hp}{a:Addr}{vs:List V}{ds:List D}(h:SqT K G a vs)(r:aC K Γ G vs ds):Yl K Γ G (Itt K a) ds:=by
 refine⟨λi H s lt=>?_,λi G' H x H' d s s' y e=>?_,λi H s le=>⟨vs,SqT.same s h,by rw[r.length];exact le⟩⟩
 .obtain⟨v,e,_⟩:=r.get (i:=i) (d:=ds[i]) (by simp[lt])
  exact⟨vs,v,SqT.same s h,e⟩
 .obtain⟨rfl,y⟩:=y
  obtain⟨v,e1,e2⟩:=r.get e
  have:=y vs (SqT.same (s.trans s') h)
  rw[e1] at this
  cases this
  exact⟨G',.refl s',e2.mono s⟩
theorem pi_or{tg iter:Expr}{w w':TI}(h:PI X tg iter w)(h':PI X tg iter w'):PI X tg iter (λσ H R=>w σ H R∨w' σ H R):=λpins s σ H R I q=>by
 rcases q with q | q
 .exact h pins s σ H R I q
 .exact h' pins s σ H R I q
theorem qM{tg:Expr}(ha:DE X Γ E a fa):DI X Γ E tg a (ik fa):=PI.imp (pi_or (pi_list ha) (pi_tup ha)) λσ H R ⟨G0,H0,G,δ,S,w⟩=>by
 unfold ik at w
 cases h:fa δ with
 | stuck=>rw[h] at w;exact False.elim w
 | ex x=>rw[h] at w;exact .inl ⟨G0,H0,G,δ,S,by rw[h];exact w⟩
 | ok d =>
  rw[h] at w
  obtain⟨ds,e,k⟩:=bh w
  cases d <;> simp only[jQ] at e <;> cases e
  .refine .inl ⟨G0,H0,G,δ,S,?_⟩
   rw[h]
   intro v G1 H1 s1 r1
   cases r1 with
   | lst h r=>exact⟨_,rfl,⟨_,SqL.of (s1.gh _ _ h)⟩,k _ G1 H1 s1 (Qu (SqL.of h) r)⟩
  .refine .inr ⟨G0,H0,G,δ,S,?_⟩
   rw[h]
   intro v G1 H1 s1 r1
   cases r1 with
   | tup h r=>exact⟨_,rfl,⟨_,SqT.of (s1.gh _ _ h)⟩,k _ G1 H1 s1 (yl_tup (SqT.of h) r)⟩
  .refine .inl ⟨G0,H0,G,δ,S,?_⟩
   rw[h]
   intro v G1 H1 s1 r1
   cases r1 with
   | rol h r=>exact⟨_,rfl,⟨_,s1.gh.seq h⟩,k _ G1 H1 s1 (Qu h r)⟩
  .refine .inr ⟨G0,H0,G,δ,S,?_⟩
   rw[h]
   intro v G1 H1 s1 r1
   cases r1 with
   | rot h r=>exact⟨_,rfl,⟨_,SqT.same s1.gh h⟩,k _ G1 H1 s1 (yl_tup h r)⟩
def zQ(lo:Int)(n:Nat):List D:=(List.range n).map λi=>.int (lo+(i:Nat))
theorem yl_rng{K:Frag}{G:Hp}{lo:Int}{n:Nat}:Yl K Γ G (Itr lo n) (zQ lo n):=by
 have hl:(zQ lo n).length=n:=by simp[zQ]
 refine⟨λi H s lt=>by rw[hl] at lt;exact lt,λi G' H x H' d s s' y e=>?_,λi H s le=>by rw[hl] at le;exact le⟩
 obtain⟨rfl,rfl⟩:=y
 unfold zQ at e
 rw[List.getElem?_map] at e
 obtain⟨j,e1,e2⟩:=Option.map_eq_some_iff.mp e
 obtain⟨lt,e3⟩:=List.getElem?_eq_some_iff.mp e1
 rw[List.getElem_range] at e3
 subst e2 e3
 exact⟨G',.refl s',.int _⟩
def yx(f:DSt->Out D):DSt->Out (List D):=λδ=>(f δ).bind λd=>match d with
 | .int j=>if -(2 ^ 62)<=j/\j<2 ^ 62 then .ok (zQ 0 j.toNat) else .stuck
 | _=>.stuck
theorem dD{tg:Expr}{p:Pos}(hg:Gl X "range")(hm:X.mg "range"=none)(ha:DE X Γ E a fa)(hs:starEach [a] X.env=[(false,eval a X.env)]:=by rfl):DI X Γ E tg (.Call (.Name "range" p) [a] [] pos) (yx fa) :=
 PI.imp (Rj hg hm (aU ha bD (by rw[hs];rfl)) hs) λσ H R ⟨G0,H0,G,δ,S,w⟩=>by
  refine⟨G0,H0,G,δ,S,(ao w).mono (λd w v G1 H1 s1 r1=>?_) λ_ k=>k⟩
  split at w
  .split at w
   .rename_i h;cases r1;exact⟨_,rfl,h.1,h.2,w _ G1 H1 s1 yl_rng⟩
   .exact False.elim w
  .exact False.elim w
def rng2(f f':DSt->Out D):DSt->Out (List D):=λδ=>(f δ).bind λd=>(f' δ).bind λd'=>match d,d' with
 | .int i,.int j=>if -(2 ^ 62)<=i/\i<2 ^ 62/\-(2 ^ 62)<=j/\j<2 ^ 62 then .ok (zQ i (j - i).toNat) else .stuck
 | _,_=>.stuck
theorem Ew{tg:Expr}{p:Pos}(hg:Gl X "range")(hm:X.mg "range"=none)(ha:DE X Γ E a fa)(hb:DE X Γ E b fb)(hh:∀{ta:TA},PA X [a,b] ta->PI X tg (.Call (.Name "range" p) [a,b] [] pos) (iRng2 ta))(hs:starEach [a,b] X.env=(false,eval a X.env)::starEach [b] X.env:=by rfl)(hs2:starEach [b] X.env=[(false,eval b X.env)]:=by rfl):DI X Γ E tg (.Call (.Name "range" p) [a,b] [] pos) (rng2 fa fb) :=
 PI.imp (hh (aU ha (aU hb bD (by rw[hs2];rfl)) hs)) λσ H R ⟨G0,H0,G,δ,S,w⟩=>by
  refine⟨G0,H0,G,δ,S,(ao w).mono (λd w v G1 H1 s1 r1=>?_) λ_ k=>k⟩
  refine⟨G0,H0,G1,δ,S.step s1,(ao w).mono (λd' w v' G2 H2 s2 r2=>?_) λ_ k=>k.step s1⟩
  split at w
  .split at w
   .rename_i h;cases r1;cases r2;exact⟨_,_,rfl,h,w _ G2 H2 (s1.trans s2) yl_rng⟩
   .exact False.elim w
  .exact False.elim w
def pO:Nat->List D->List D
 | _,[]=>[]
 | n,d::ds=>.tup [.int n,d]::pO (n+1) ds
theorem Ey:∀(ds:List D)(n i:Nat),(pO n ds)[i]?=(ds[i]?).map λd=>.tup [.int ((n+i:Nat):Int),d]
 | [],n,i=>by simp[pO]
 | d::ds,n,0=>by simp[pO]
 | d::ds,n,i+1=>by
  have:=Ey ds (n+1) i
  simp only[pO,List.getElem?_cons_succ]
  rw[this]
  congr 1
  funext d
  congr 2
  simp only[List.cons.injEq,D.int.injEq,and_true]
  omega
theorem Ez(ds:List D):∀n,(pO n ds).length=ds.length:=by
 induction ds with
 | nil=>intro n;rfl
 | cons d ds ih=>intro n;simp[pO,ih]
theorem Qt{K:Frag}{G:Hp}{a:Addr}{vs:List V}{ds:List D}(h:SqL K G a vs)(r:aC K Γ G vs ds):Yl K Γ G (Ite K a) (pO 0 ds):=by
 refine⟨λi H s lt=>?_,λi G' H x H' d s s' y e=>?_,λi H s le=>⟨vs,s.seq h,by rw[Ez] at le;rw[r.length];exact le⟩⟩
 .rw[Ez] at lt
  obtain⟨v,e,_⟩:=r.get (i:=i) (d:=ds[i]) (by simp[lt])
  exact⟨vs,v,s.seq h,e⟩
 .obtain⟨p,x0,rfl,hp,rfl,y⟩:=y
  rw[Ey] at e
  obtain⟨d0,e0,rfl⟩:=Option.map_eq_some_iff.mp e
  obtain⟨v,e1,e2⟩:=r.get e0
  have:=y vs ((s.trans s').seq h)
  rw[e1] at this
  cases this
  refine⟨_,.new s' hp,.tup aO (.cons ?_ (.cons ((e2.mono s).mono (aQ.up (aD s' hp))) .nil))⟩
  rw[Nat.zero_add]
  exact .int _
def gY:D->Option (List D)
 | .lst xs=>some xs
 | .rol xs=>some xs
 | _=>none
def enum(f:DSt->Out D):DSt->Out (List D):=λδ=>(f δ).bind λd=>(Out.opt (gY d)).bind λds=>.ok (pO 0 ds)
theorem vX{es':List Expr}{kk:Nat}{tp p:Pos}(hg:Gl X "enumerate")(hm:X.mg "enumerate"=none)(ha:DE X Γ E a fa)(hs:starEach [a] X.env=[(false,eval a X.env)]:=by rfl):DI X Γ E (.Tuple es' kk tp) (.Call (.Name "enumerate" p) [a] [] pos) (enum fa) :=
 PI.imp (pi_enum hg hm (aU ha bD (by rw[hs];rfl)) hs) λσ H R ⟨G0,H0,G,δ,S,w⟩=>by
  refine⟨G0,H0,G,δ,S,(ao w).mono (λd w v G1 H1 s1 r1=>?_) λ_ k=>k⟩
  obtain⟨ds,e,w⟩:=bh (ao w)
  unfold gY at e
  split at e
  .cases e
   cases r1 with
   | lst h r=>exact⟨_,rfl,⟨_,SqL.of (s1.gh _ _ h)⟩,w _ G1 H1 s1 (Qt (SqL.of h) r)⟩
  .cases e
   cases r1 with
   | rol h r=>exact⟨_,rfl,⟨_,s1.gh.seq h⟩,w _ G1 H1 s1 (Qt h r)⟩
  .cases e
def zF(tg:D->DSt->Option DSt)(body:DSt->Out Fl):List D->DSt->Out Fl
 | [],δ=>.ok (.nx δ)
 | d::ds,δ=>(Out.opt (tg d δ)).bind λδ1=>(body δ1).bind λfl=>match fl with
  | .nx δ2=>zF tg body ds δ2
  | .ct δ2=>zF tg body ds δ2
  | .bk δ2=>.ok (.nx δ2)
  | fl=>.ok fl
def mF(fi:DSt->Out (List D))(tg:D->DSt->Option DSt)(body:DSt->Out Fl):DSt->Out Fl:=λδ=>(fi δ).bind λds=>zF tg body ds δ
def un2(H0 G1:Hp):Hp:=λb=>match H0 b with
 | some o=>some o
 | none=>G1 b
theorem kJ{H0 G1:Hp}{b:Addr}:un2 H0 G1 b=none↔H0 b=none/\G1 b=none:=by
 unfold un2
 cases h:H0 b <;> simp
theorem un2_some{H0 G1:Hp}{b:Addr}{o:HO}(h:un2 H0 G1 b=some o):H0 b=some o∨G1 b=some o:=by
 unfold un2 at h
 cases h0:H0 b with
 | none=>rw[h0] at h;exact .inr h
 | some u=>rw[h0] at h;exact .inl h
theorem Inner.reH{K:Frag}{H0 H0' G H:Hp}{O:Addr->Option Nat}{i:Nat}(k:∀b,H0 b=none->G b=none->H0' b=none):∀{vs:List V}{dss:List (List D)},Inner K Γ H0 G H O i vs dss->Inner K Γ H0' G H O i vs dss
 | _,_,.nil=>.nil
 | _,_,.cons h g h0 o r n t=>.cons h g (k _ h0 g) o r n (Inner.reH k t)
theorem bG.reH{K:Frag}{H0 H0' G H:Hp}{O:Addr->Option Nat}{i:Nat}(k:∀b,H0 b=none->G b=none->H0' b=none):∀{vs:List V}{es:List Mx}{bs:List Addr},bG K Γ H0 G H O i vs es bs->bG K Γ H0' G H O i vs es bs
 | _,_,_,.nil=>.nil
 | _,_,_,.own h g h0 o r n t=>.own h g (k _ h0 g) o r n (bG.reH k t)
 | _,_,_,.fix r t=>.fix r (bG.reH k t)
theorem bN.reH{K:Frag}{H0 H0' G H:Hp}{O:Addr->Option Nat}{i:Nat}{v:V}{x:Sl}(h:bN K Γ H0 G H O i v x)(k:∀b,H0 b=none->G b=none->H0' b=none):bN K Γ H0' G H O i v x:=by
 cases x with
 | sh d=>exact h
 | ol ds=>obtain⟨a,vs,e,h1,h2,h3,h4,h5⟩:=h;exact⟨a,vs,e,h1,h2,k _ h3 h2,h4,h5⟩
 | oll ds=>obtain⟨a,vs,e,h1,h2,h3,h4,h5,h6⟩:=h;exact⟨a,vs,e,h1,h2,k _ h3 h2,h4,h5,h6.reH k⟩
 | od ds=>obtain⟨a,vs,e,h1,h2,h3,h4,h5⟩:=h;exact⟨a,vs,e,h1,h2,k _ h3 h2,h4,h5⟩
 | odT ds=>obtain⟨a,vs,e,h1,h2,h3,h4,h5⟩:=h;exact⟨a,vs,e,h1,h2,k _ h3 h2,h4,h5⟩
 | omx ds=>obtain⟨a,vs,bs,e,h1,h2,h3,h4,h5,h6⟩:=h;exact⟨a,vs,bs,e,h1,h2,k _ h3 h2,h4,h5,h6.reH k⟩
theorem SR.later{K:Frag}{G0 H0 G1 H1 G H:Hp}{σ:L2.St}{δ:DSt}(s1:Step G0 H0 G1 H1)(S:SR K Γ G0 H0 G H σ δ)(s:aQ G1 G):SR K Γ G1 (un2 H0 G1) G H σ δ:=by
 refine⟨⟨s,λb o e=>?_,S.st.gh,λb hb g=>?_⟩,S.len,?_⟩
 .rcases un2_some e with e | e
  .exact S.st.hh _ _ e
  .exact S.st.gh _ _ (s _ _ e)
 .have h0:H0 b≠none:=λz=>hb (kJ.mpr ⟨z,g⟩)
  exact S.st.sep b h0 (s1.gg.free g)
 .obtain⟨O,q⟩:=S.sl
  refine⟨O,λi x e=>?_⟩
  obtain⟨v,h1,h2⟩:=q i x e
  exact⟨v,h1,h2.reH λb z g=>kJ.mpr ⟨z,s.free g⟩⟩
theorem Step.back{G0 H0 G1 H1 G H:Hp}(s1:Step G0 H0 G1 H1)(s:Step G1 (un2 H0 G1) G H):Step G0 H0 G H :=
 ⟨s1.gg.trans s.gg,λb o e=>s.hh _ _ (by unfold un2;rw[e]),s.gh,λb hb g=>s.sep b (λz=>hb (kJ.mp z).1) (s1.sep b hb g)⟩
theorem SR.back{K:Frag}{G0 H0 G1 H1 G H:Hp}{σ:L2.St}{δ:DSt}(s1:Step G0 H0 G1 H1)(S:SR K Γ G1 (un2 H0 G1) G H σ δ):SR K Γ G0 H0 G H σ δ:=by
 refine⟨s1.back S.st,S.len,?_⟩
 obtain⟨O,q⟩:=S.sl
 refine⟨O,λi x e=>?_⟩
 obtain⟨v,h1,h2⟩:=q i x e
 exact⟨v,h1,h2.reH λb z _=>(kJ.mp z).1⟩
theorem ds_for{tg iter:Expr}{body:List Stmt}{fi:DSt->Out (List D)}{t:D->DSt->Option DSt}(hh:∀{wi:TI} {g:TG} {tb:TS},PI X tg iter wi->PG X tg g->PSs X body tb->PS X (.For tg iter body [] pos) (tFor wi g tb))(hi:DI X Γ E tg iter fi)(hg:DG X Γ tg t)(hb:DSs X Γ E body g):
  DS X Γ E (.For tg iter body [] pos) (mF fi t g):=PS.imp (hh hi hg hb) λN σ H ⟨G0,H0,G,δ,S,w⟩=>by
 refine⟨G0,H0,G,δ,S,(ao w).mono (λds w J G1 H1 s1 Y=>?_) λx k=>exD.step k S.st⟩
 have sb:Step G0 H0 G1 H1:=S.st.trans s1
 refine⟨λi m σ H=>∃G δ,SR X.K Γ G0 H0 G H σ δ/\aQ G1 G/\m=ds.length - i/\i<=ds.length/\wpO (zF t g (ds.drop i) δ) (FlOk X.K Γ G0 H0 N) (exD X.K Γ E G0 H0),⟨_,G1,δ,S.step s1,aQ.refl _,rfl,Nat.zero_le _,w⟩,?_⟩
 rintro i m σ H ⟨G2,δ2,S2,s2,rfl,hi,w⟩
 by_cases lt:i<ds.length
 .refine .inr ⟨Y.go i H (s2.trans S2.st.gh) lt,λσ' H'=>∃G δ,SR X.K Γ G0 H0 G H' σ' δ/\aQ G1 G/\wpO (zF t g (ds.drop (i+1)) δ) (FlOk X.K Γ G0 H0 N) (exD X.K Γ E G0 H0),λσ' H' ⟨G',δ',a1,a2,a3⟩=>⟨ds.length - (i+1),by omega,G',δ',a1,a2,rfl,lt,a3⟩,λx H' y=>?_⟩
  obtain⟨G3,s3,r3⟩:=Y.yld i G2 H x H' ds[i] s2 S2.st.gh y (by simp[lt])
  rw[List.drop_eq_getElem_cons lt] at w
  obtain⟨δ3,e3,w⟩:=bh (ao w)
  have S3:=(S2.step s3).later sb (s2.trans s3.gg)
  refine⟨G1,un2 H0 G1,G3,δ2,ds[i],δ3,S3,r3,e3,λσ4 S4=>?_⟩
  refine⟨G1,un2 H0 G1,G3,δ3,S4,(ao w).mono (λfl w=>?_) λx k a G' H' s' r'=>k a G' H' (sb.back s') r'⟩
  cases fl with
  | nx δ'=>exact λσ' G' H' S'=>⟨G',δ',S'.back sb,S'.st.gg,w⟩
  | ct δ'=>exact λσ' G' H' S'=>⟨G',δ',S'.back sb,S'.st.gg,w⟩
  | bk δ'=>exact λσ' G' H' S'=>w σ' G' H' (S'.back sb)
  | rt d=>exact λv G' H' s' r'=>w v G' H' (sb.back s') r'
  | rl d=>exact λa vs G' H' s' f h g r=>w a vs G' H' (sb.back s') (kJ.mp f).1 h g r
  | rll d=>exact λa vs G' H' s' f h g n r=>w a vs G' H' (sb.back s') (kJ.mp f).1 h g n (r.reF λb z=>(kJ.mp z).1)
 .obtain rfl:i=ds.length:=by omega
  rw[List.drop_length] at w
  exact .inl ⟨Y.stop _ H (s2.trans S2.st.gh) (Nat.le_refl _),w σ G2 H S2⟩
def ye(cap:List (Option Nat))(δ:DSt):DSt:=cap.map λo=>match o with
 | none=>none
 | some j=>match δ[j]? with
  | some (some (.sh d))=>some (.sh d)
  | _=>none
def pN{α:Type}(tg:D->DSt->Option DSt)(t:DSt->Out Bool)(fe:DSt->Out α):List D->DSt->Out (List α)
 | [],_=>.ok []
 | d::ds,δ=>(Out.opt (tg d δ)).bind λδ1=>(t δ1).bf.bind λk=>if k=true then (fe δ1).bf.bind λy=>(pN tg t fe ds δ1).bind λys=>.ok (y::ys) else pN tg t fe ds δ1
def cO{α:Type}(cap:List (Option Nat))(fi:DSt->Out (List D))(tg:D->DSt->Option DSt)(t:DSt->Out Bool)(fe:DSt->Out α):DSt->Out (List α):=λδ=>(fi δ).bind λds=>if ds.length<sizeLine then pN tg t fe ds (ye cap δ) else .stuck
abbrev DTs(X:Cx)(Γ:Nat->Option Addr)(E:XK)(ifs:List Expr)(f:DSt->Out Bool):Prop:=vH X ifs (ttD X.K Γ E f)
theorem fJ:DTs X Γ E [] (λ_=>.ok true):=λpins s σ H Q I ⟨G0,H0,G,δ,S,w⟩=>pf_nil pins s σ H Q I (w G H (.refl S.st.gh))
theorem dts_one(h:DT X Γ E c ft):DTs X Γ E [c] ft:=pf_one h
theorem SR.cap{K:Frag}{G0 H0 G H:Hp}{σ:L2.St}{δ:DSt}(S:SR K Γ G0 H0 G H σ δ)(cap:List (Option Nat)):SR K Γ G H G H (capS cap σ) (ye cap δ):=by
 refine⟨.refl S.st.gh,by simp[capS,ye],λ_=>none,λi x e=>?_⟩
 obtain⟨O,q⟩:=S.sl
 unfold ye at e
 rw[List.getElem?_map] at e
 obtain⟨o,e1,e2⟩:=Option.map_eq_some_iff.mp e
 cases o with
 | none=>cases e2
 | some j =>
  dsimp only at e2
  split at e2
  .rename_i d ej
   cases e2
   obtain⟨v,h1,h2⟩:=q j _ ej
   exact⟨v,by unfold capS;rw[List.getElem?_map,e1];simp[h1],h2⟩
  .cases e2
def yH(δ:DSt):Prop:=∀(i:Nat) x,δ[i]?=some (some x)->∃d,x=.sh d
def ShT(t:D->DSt->Option DSt):Prop:=∀d δ δ',t d δ=some δ'->yH δ->yH δ'
def ShTs(t:List D->DSt->Option DSt):Prop:=∀d δ δ',t d δ=some δ'->yH δ->yH δ'
theorem sh_cap(cap:List (Option Nat))(δ:DSt):yH (ye cap δ):=λi x e=>by
 unfold ye at e
 rw[List.getElem?_map] at e
 obtain⟨o,e1,e2⟩:=Option.map_eq_some_iff.mp e
 cases o with
 | none=>cases e2
 | some j =>
  dsimp only at e2
  split at e2
  .cases e2;exact⟨_,rfl⟩
  .cases e2
theorem vB(i:Nat):ShT (gN i):=λd δ δ' e h j x ej=>by
 cases e
 rw[List.getElem?_set] at ej
 split at ej
 .split at ej
  .cases ej;exact⟨_,rfl⟩
  .cases ej
 .exact h j x ej
theorem sh_nil:ShTs dZ:=λd δ δ' e h=>by
 unfold dZ at e
 split at e
 .cases e;exact h
 .cases e
theorem Ab{f:D->DSt->Option DSt}{g:List D->DSt->Option DSt}(h1:ShT f)(h2:ShTs g):ShTs (bj f g):=λd δ δ' e h=>by
 unfold bj at e
 split at e
 .obtain⟨δ1,e1,e2⟩:=Option.bind_eq_some_iff.mp e
  exact h2 _ _ _ e2 (h1 _ _ _ e1 h)
 .cases e
theorem sh_t{n:Nat}{f:List D->DSt->Option DSt}(h1:ShTs f):ShT (gT n f):=λd δ δ' e h=>by
 unfold gT at e
 split at e
 .split at e
  .exact h1 _ _ _ e h
  .cases e
 .cases e
theorem SR.beside{K:Frag}{G0 H0 G H:Hp}{σ:L2.St}{δ:DSt}(S:SR K Γ G0 H0 G H σ δ)(sh:yH δ){a:Addr}{o:HO}(g:G a=none)(h0:H0 a=none):SR K Γ G0 H0 G (upd H a o) σ δ:=by
 have sx:=S.st
 refine⟨⟨sx.gg,λb u e=>by rw[aW (aV e h0)];exact sx.hh _ _ e,λb u e=>by rw[aW (aV e g)];exact sx.gh _ _ e,sx.sep⟩,S.len,?_⟩
 obtain⟨O,q⟩:=S.sl
 refine⟨O,λi x e=>?_⟩
 obtain⟨d,rfl⟩:=sh i x e
 exact q i _ e
theorem qK{cap:List (Option Nat)}{fi:DSt->Out (List D)}{t:D->DSt->Option DSt}{ft:DSt->Out Bool}{fe:DSt->Out D}(sh:ShT t)(σ:L2.St)(H:Hp)(Q:VK):tfD X.K Γ E (cO cap fi t ft fe) σ H Q->xg cap (tiD X.K Γ E fi) (tgD X.K Γ t) (ttD X.K Γ E0 ft) (teD X.K Γ E0 fe) σ H Q:=λ⟨G0,H0,G,δ,S,w⟩=>by
 refine⟨G0,H0,G,δ,S,(ao w).mono (λds w J G1 H1 s1 Y=>?_) λx k=>k⟩
 by_cases hz:ds.length<sizeLine
 .rw[if_pos hz] at w
  intro acc hacc
  have Sc:=(S.step s1).cap cap
  refine⟨λi m ys τ H=>∃G δ done,Step G1 H1 G H/\SR X.K Γ G1 H1 G H τ δ/\yH δ/\H acc=some (.lst ys)/\G acc=none/\aC X.K Γ G ys done/\m=ds.length - i/\i<=ds.length/\ys.length<=i /\
   wpO (pN t ft fe (ds.drop i) δ) (λrest=>∀G' H' vs,Step G1 H1 G' H'->H' acc=some (.lst vs)->G' acc=none->aC X.K Γ G' vs (done++rest)->Q (.ref acc) H') (λ_=>True),?_,?_⟩
  .have g1:G1 acc=none:=aD s1.gh hacc
   have st:=Step.aside s1.gh (o:=.lst []) hacc
   refine⟨_,G1,_,[],st,Sc.step st,sh_cap _ _,aO,g1,.nil,rfl,Nat.zero_le _,Nat.le_refl _,w.mono (λrest k G' H' vs s' h' g' r'=>k acc vs G' H' (s1.trans s') (aD s1.hh hacc) h' g' r') λ_ _=>trivial⟩
  .rintro i m ys τ H ⟨G2,δ2,done,st,S2,sh2,h2,g2,r2,rfl,hi,hl,w⟩
   refine⟨h2,Nat.lt_of_le_of_lt (Nat.le_trans hl hi) hz,?_⟩
   by_cases lt:i<ds.length
   .refine .inr ⟨Y.go i H (st.gg.trans st.gh) lt,λx H' y=>?_⟩
    obtain⟨G3,s3,r3⟩:=Y.yld i G2 H x H' ds[i] st.gg st.gh y (by simp[lt])
    rw[List.drop_eq_getElem_cons lt] at w
    obtain⟨δ3,e3,w⟩:=bh (ao w)
    refine⟨G1,H1,G3,δ2,ds[i],δ3,S2.step s3,r3,e3,λσ4 S4=>?_⟩
    have w:=dz (R':=exD X.K Γ E0 G3 H') (ao w)
    refine⟨G1,H1,G3,δ3,S4,w.mono (λk w G5 H5 s5=>?_) λ_ k=>k⟩
    have s25:=s3.trans s5
    have sh3:=sh _ _ _ e3 sh2
    cases k with
    | false =>
     rw[if_neg Bool.false_ne_true] at w
     dsimp only
     rw[if_neg Bool.false_ne_true]
     exact⟨_,Nat.sub_lt_sub_left lt (Nat.lt_succ_self i),G5,δ3,done,st.trans s25,S4.step s5,sh3,s25.hh _ _ h2,s25.sep acc (by rw[h2];exact λz=>nomatch z) g2,r2.mono s25.gg,rfl,lt,Nat.le_succ_of_le hl,w⟩
    | true =>
     rw[if_pos rfl] at w
     dsimp only
     rw[if_pos rfl]
     have w:=dz (R':=exD X.K Γ E0 G5 H5) (ao w)
     refine⟨G1,H1,G5,δ3,S4.step s5,w.mono (λy w v G6 H6 s6 r6=>?_) λ_ k=>k⟩
     have s26:=s25.trans s6
     have h6:=s26.hh _ _ h2
     have g6:G6 acc=none:=s26.sep acc (by rw[h2];exact λz=>nomatch z) g2
     have n1:H1 acc=none:=hacc
     refine⟨h6,_,Nat.sub_lt_sub_left lt (Nat.lt_succ_self i),G6,δ3,done++[y],?_,?_,sh3,aO,g6,(r2.mono s26.gg).append (.cons r6 .nil),rfl,lt,by rw[List.length_append];exact Nat.succ_le_succ hl,?_⟩
     .have sx:=st.trans s26
      exact⟨sx.gg,λb u e=>by rw[aW (aV e n1)];exact sx.hh _ _ e,λb u e=>by rw[aW (aV e g6)];exact sx.gh _ _ e,sx.sep⟩
     .exact((S4.step s5).step s6).beside sh3 g6 n1
     .refine(ao w).mono (λrest k G' H' vs s' h' g' r'=>k G' H' vs s' h' g' (by simpa using r')) λ_ k=>k
   .obtain rfl:i=ds.length:=by omega
    rw[List.drop_length] at w
    exact .inl ⟨Y.stop _ H (st.gg.trans st.gh) (Nat.le_refl _),w G2 H ys st h2 g2 (by simpa using r2)⟩
 .rw[if_neg hz] at w
  exact False.elim w
theorem iD{tg iter elt:Expr}{ifs:List Expr}{sc:Scope}{cl:List (Str×Addr)}{N':List Str}{cap:List (Option Nat)}{fi:DSt->Out (List D)}{t:D->DSt->Option DSt}{ft:DSt->Out Bool}{fe:DSt->Out D}
  (hh:∀{wi:TI}{g:TG}{tt:TT}{te:TE},PI X tg iter wi->(∀s₀ H₀ C fp pn,PG (bc X N' sc cl s₀ H₀ C fp pn) tg g)->(∀s₀ H₀ C fp pn,vH (bc X N' sc cl s₀ H₀ C fp pn) ifs tt)->(∀s₀ H₀ C fp pn,PE (bc X N' sc cl s₀ H₀ C fp pn) elt te)->PE X (.ListComp elt [⟨tg,iter,ifs,0⟩] sc pos) (xg cap wi g tt te))
  (hi:DI X Γ E tg iter fi) (sh:ShT t) (hg:∀s₀ H₀ C fp pn,PG (bc X N' sc cl s₀ H₀ C fp pn) tg (tgD X.K Γ t)) (ht:∀s₀ H₀ C fp pn,vH (bc X N' sc cl s₀ H₀ C fp pn) ifs (ttD X.K Γ E0 ft)) (he:∀s₀ H₀ C fp pn,PE (bc X N' sc cl s₀ H₀ C fp pn) elt (teD X.K Γ E0 fe)) :
  DF X Γ E (.ListComp elt [⟨tg,iter,ifs,0⟩] sc pos) (cO cap fi t ft fe):=PE.imp (hh hi hg ht he) (qK sh)
theorem bC.snoc{K:Frag}{H G' H':Hp}{b:Addr}{ws:List V}{ds:List D}(f:H b=none)(h:H' b=some (.lst ws))(g:G' b=none)(r:aC K Γ G' ws ds):∀{vs:List V}{dss:List (List D)},V.ref b∉vs->bC K Γ H G' H' vs dss->bC K Γ H G' H' (vs++[.ref b]) (dss++[ds])
 | _,_,_,.nil=>.cons f h g r (by simp) .nil
 | _,_,m,.cons f' h' g' r' n' t=>.cons f' h' g' r' (λz=>by
   rcases List.mem_append.mp z with z | z
   .exact n' z
   .exact m (by rw[List.mem_singleton.mp z];exact List.mem_cons_self)) (bC.snoc f h g r (λz=>m (List.mem_cons_of_mem _ z)) t)
theorem bC.step{K:Frag}{H G H1 G2 H2:Hp}(s:Step G H1 G2 H2):∀{vs:List V}{dss:List (List D)},bC K Γ H G H1 vs dss->bC K Γ H G2 H2 vs dss
 | _,_,.nil=>.nil
 | _,_,.cons f h g r n t=>.cons f (s.hh _ _ h) (s.sep _ (by rw[h];exact λq=>nomatch q) g) (r.mono s.gg) n (bC.step s t)
theorem bC.updI{K:Frag}{H G' H':Hp}{a:Addr}{o:HO}:∀{vs:List V}{dss:List (List D)},V.ref a∉vs->bC K Γ H G' H' vs dss->bC K Γ H G' (upd H' a o) vs dss
 | _,_,_,.nil=>.nil
 | _,_,m,.cons f h g r n t=>.cons f ((aW λz=>m (by rw[z];exact List.mem_cons_self)).trans h) g r n (bC.updI (λz=>m (List.mem_cons_of_mem _ z)) t)
theorem Hj{cap:List (Option Nat)}{fi:DSt->Out (List D)}{t:D->DSt->Option DSt}{ft:DSt->Out Bool}{fe:DSt->Out (List D)}(sh:ShT t)(σ:L2.St)(H:Hp)(Q:VK):tffD X.K Γ E (cO cap fi t ft fe) σ H Q->xg cap (tiD X.K Γ E fi) (tgD X.K Γ t) (ttD X.K Γ E0 ft) (tfD X.K Γ E0 fe) σ H Q:=λ⟨G0,H0,G,δ,S,w⟩=>by
 refine⟨G0,H0,G,δ,S,(ao w).mono (λds w J G1 H1 s1 Y=>?_) λx k=>k⟩
 by_cases hz:ds.length<sizeLine
 .rw[if_pos hz] at w
  intro acc hacc
  have Sc:=(S.step s1).cap cap
  refine⟨λi m ys τ H=>∃G δ done,Step G1 H1 G H/\SR X.K Γ G1 H1 G H τ δ/\yH δ/\H acc=some (.lst ys)/\G acc=none/\V.ref acc∉ys/\bC X.K Γ H1 G H ys done/\m=ds.length - i/\i<=ds.length/\ys.length<=i /\
   wpO (pN t ft fe (ds.drop i) δ) (λrest=>∀G' H' vs,Step G1 H1 G' H'->H' acc=some (.lst vs)->G' acc=none->V.ref acc∉vs->bC X.K Γ H1 G' H' vs (done++rest)->Q (.ref acc) H') (λ_=>True),?_,?_⟩
  .have g1:G1 acc=none:=aD s1.gh hacc
   have st:=Step.aside s1.gh (o:=.lst []) hacc
   refine⟨_,G1,_,[],st,Sc.step st,sh_cap _ _,aO,g1,(by simp),.nil,rfl,Nat.zero_le _,Nat.le_refl _,w.mono (λrest k G' H' vs s' h' g' n' r'=>k acc vs G' H' (s1.trans s') (aD s1.hh hacc) h' g' n' (r'.reF λb z=>aD s1.hh z)) λ_ _=>trivial⟩
  .rintro i m ys τ H ⟨G2,δ2,done,st,S2,sh2,h2,g2,n2,r2,rfl,hi,hl,w⟩
   refine⟨h2,Nat.lt_of_le_of_lt (Nat.le_trans hl hi) hz,?_⟩
   by_cases lt:i<ds.length
   .refine .inr ⟨Y.go i H (st.gg.trans st.gh) lt,λx H' y=>?_⟩
    obtain⟨G3,s3,r3⟩:=Y.yld i G2 H x H' ds[i] st.gg st.gh y (by simp[lt])
    rw[List.drop_eq_getElem_cons lt] at w
    obtain⟨δ3,e3,w⟩:=bh (ao w)
    refine⟨G1,H1,G3,δ2,ds[i],δ3,S2.step s3,r3,e3,λσ4 S4=>?_⟩
    have w:=dz (R':=exD X.K Γ E0 G3 H') (ao w)
    refine⟨G1,H1,G3,δ3,S4,w.mono (λk w G5 H5 s5=>?_) λ_ k=>k⟩
    have s25:=s3.trans s5
    have sh3:=sh _ _ _ e3 sh2
    cases k with
    | false =>
     rw[if_neg Bool.false_ne_true] at w
     dsimp only
     rw[if_neg Bool.false_ne_true]
     exact⟨_,Nat.sub_lt_sub_left lt (Nat.lt_succ_self i),G5,δ3,done,st.trans s25,S4.step s5,sh3,s25.hh _ _ h2,s25.sep acc (by rw[h2];exact λz=>nomatch z) g2,n2,r2.step s25,rfl,lt,Nat.le_succ_of_le hl,w⟩
    | true =>
     rw[if_pos rfl] at w
     dsimp only
     rw[if_pos rfl]
     have w:=dz (R':=exD X.K Γ E0 G5 H5) (ao w)
     refine⟨G1,H1,G5,δ3,S4.step s5,w.mono (λy w bb wv G6 H6 s6 fb hb gb rb=>?_) λ_ k=>k⟩
     have s26:=s25.trans s6
     have h6:=s26.hh _ _ h2
     have g6:G6 acc=none:=s26.sep acc (by rw[h2];exact λz=>nomatch z) g2
     have n1:H1 acc=none:=hacc
     have neb:acc≠bb:=λz=>by
      have:=s25.hh _ _ h2
      rw[z,fb] at this
      cases this
     have nbm:V.ref bb∉ys:=λz=>(r2.step s25).mem bb z |>.2 fb
     have f1:H1 bb=none:=aD ((st.trans s25).hh) fb
     refine⟨h6,_,Nat.sub_lt_sub_left lt (Nat.lt_succ_self i),G6,δ3,done++[y],?_,?_,sh3,aO,g6,(λz=>by
      rcases List.mem_append.mp z with z | z
      .exact n2 z
      .exact neb (V.ref.inj (List.mem_singleton.mp z))),bC.snoc f1 ((aW (Ne.symm neb)).trans hb) gb rb nbm (bC.updI n2 (r2.step s26)),rfl,lt,by rw[List.length_append];exact Nat.succ_le_succ hl,?_⟩
     .have sx:=st.trans s26
      exact⟨sx.gg,λb u e=>by rw[aW (aV e n1)];exact sx.hh _ _ e,λb u e=>by rw[aW (aV e g6)];exact sx.gh _ _ e,sx.sep⟩
     .exact((S4.step s5).step s6).beside sh3 g6 n1
     .refine(ao w).mono (λrest k G' H' vs s' h' g' n' r'=>k G' H' vs s' h' g' n' (by simpa using r')) λ_ k=>k
   .obtain rfl:i=ds.length:=by omega
    rw[List.drop_length] at w
    exact .inl ⟨Y.stop _ H (st.gg.trans st.gh) (Nat.le_refl _),w G2 H ys st h2 g2 n2 (by simpa using r2)⟩
 .rw[if_neg hz] at w
  exact False.elim w
theorem dff_comp{tg iter elt:Expr}{ifs:List Expr}{sc:Scope}{cl:List (Str×Addr)}{N':List Str}{cap:List (Option Nat)}{fi:DSt->Out (List D)}{t:D->DSt->Option DSt}{ft:DSt->Out Bool}{fe:DSt->Out (List D)}
  (hh:∀{wi:TI}{g:TG}{tt:TT}{te:TE},PI X tg iter wi->(∀s₀ H₀ C fp pn,PG (bc X N' sc cl s₀ H₀ C fp pn) tg g)->(∀s₀ H₀ C fp pn,vH (bc X N' sc cl s₀ H₀ C fp pn) ifs tt)->(∀s₀ H₀ C fp pn,PE (bc X N' sc cl s₀ H₀ C fp pn) elt te)->PE X (.ListComp elt [⟨tg,iter,ifs,0⟩] sc pos) (xg cap wi g tt te))
  (hi:DI X Γ E tg iter fi) (sh:ShT t) (hg:∀s₀ H₀ C fp pn,PG (bc X N' sc cl s₀ H₀ C fp pn) tg (tgD X.K Γ t)) (ht:∀s₀ H₀ C fp pn,vH (bc X N' sc cl s₀ H₀ C fp pn) ifs (ttD X.K Γ E0 ft)) (he:∀s₀ H₀ C fp pn,PE (bc X N' sc cl s₀ H₀ C fp pn) elt (tfD X.K Γ E0 fe)) :
  DFF X Γ E (.ListComp elt [⟨tg,iter,ifs,0⟩] sc pos) (cO cap fi t ft fe):=PE.imp (hh hi hg ht he) (Hj sh)
section
variable{tg iter elt:Expr}{ifs:List Expr}{sc:Scope}{cl:List (Str×Addr)}{N':List Str}{cap:List (Option Nat)}{fi:DSt->Out (List D)}{t:D->DSt->Option DSt}{ft:DSt->Out Bool}{x:Str}{pos' spos:Pos}
theorem ds_setlc(i:Nat){fe:DSt->Out D}
  (hh:∀{wi:TI}{g:TG}{tt:TT}{te:TE},PI X tg iter wi->(∀s₀ H₀ C fp pn,PG (bc X N' sc cl s₀ H₀ C fp pn) tg g)->(∀s₀ H₀ C fp pn,vH (bc X N' sc cl s₀ H₀ C fp pn) ifs tt)->(∀s₀ H₀ C fp pn,PE (bc X N' sc cl s₀ H₀ C fp pn) elt te)->PS X (.Assign [.Name x pos'] (.ListComp elt [⟨tg,iter,ifs,0⟩] sc pos) spos) (tAsg (xg cap wi g tt te) (wC i)))
  (hi:DI X Γ E tg iter fi) (sh:ShT t) (hg:∀s₀ H₀ C fp pn,PG (bc X N' sc cl s₀ H₀ C fp pn) tg (tgD X.K Γ t)) (ht:∀s₀ H₀ C fp pn,vH (bc X N' sc cl s₀ H₀ C fp pn) ifs (ttD X.K Γ E0 ft)) (he:∀s₀ H₀ C fp pn,PE (bc X N' sc cl s₀ H₀ C fp pn) elt (teD X.K Γ E0 fe)) :
  DS X Γ E (.Assign [.Name x pos'] (.ListComp elt [⟨tg,iter,ifs,0⟩] sc pos) spos) (gU i (cO cap fi t ft fe)):=PS.imp (hh hi hg ht he) λN σ H ⟨G0,H0,G,δ,S,w⟩=>qK sh _ _ _
 ⟨G0,H0,G,δ,S,(ao w).mono (λd w a vs G1 H1 s1 f h g r=>w _ G1 H1 (S.setl s1 f h g r)) λx k=>exD.step k S.st⟩
theorem ds_setc(i:Nat){fe:DSt->Out D}
  (hh:∀{wi:TI}{g:TG}{tt:TT}{te:TE},PI X tg iter wi->(∀s₀ H₀ C fp pn,PG (bc X N' sc cl s₀ H₀ C fp pn) tg g)->(∀s₀ H₀ C fp pn,vH (bc X N' sc cl s₀ H₀ C fp pn) ifs tt)->(∀s₀ H₀ C fp pn,PE (bc X N' sc cl s₀ H₀ C fp pn) elt te)->PS X (.Assign [.Name x pos'] (.ListComp elt [⟨tg,iter,ifs,0⟩] sc pos) spos) (tAsg (xg cap wi g tt te) (wC i)))
  (hi:DI X Γ E tg iter fi) (sh:ShT t) (hg:∀s₀ H₀ C fp pn,PG (bc X N' sc cl s₀ H₀ C fp pn) tg (tgD X.K Γ t)) (ht:∀s₀ H₀ C fp pn,vH (bc X N' sc cl s₀ H₀ C fp pn) ifs (ttD X.K Γ E0 ft)) (he:∀s₀ H₀ C fp pn,PE (bc X N' sc cl s₀ H₀ C fp pn) elt (teD X.K Γ E0 fe)) :
  DS X Γ E (.Assign [.Name x pos'] (.ListComp elt [⟨tg,iter,ifs,0⟩] sc pos) spos) (bR i (rR (cO cap fi t ft fe))):=PS.imp (hh hi hg ht he) λN σ H ⟨G0,H0,G,δ,S,w⟩=>qK sh _ _ _
 ⟨G0,H0,G,δ,S,(ao (ao w)).mono (λds w a vs G1 H1 s1 f h g r=>by
  have hp:∀b,decide (b=a)=true->G1 b=none/\H b=none:=λb z=>by obtain rfl:=of_decide_eq_true z;exact⟨g,f⟩
  have s2:=s1.frz (λb=>decide (b=a)) hp
  exact w _ _ H1 ((S.step s2).set (.lst (by unfold dN;rw[if_pos (by simp)];exact h) (r.mono (du λb z=>(hp b z).1))))) λx k=>exD.step k S.st⟩
end
end
end DL
namespace DL
open PySem PySem.Spec PyProof.Rows MX L2
def eG(n:Nat)(ds:List D):DSt:=ds.map (λd=>some (.sh d))++List.replicate (n - ds.length) none
def v4:Fl->Out D
 | .nx _=>.ok .non
 | .rt d=>.ok d
 | .rl ds=>.ok (.lst ds)
 | .rll dss=>.ok (.lst (dss.map .lst))
 | _=>.stuck
def endF:Fl->Out (List D)
 | .rl ds=>.ok ds
 | _=>.stuck
def endFF:Fl->Out (List (List D))
 | .rll ds=>.ok ds
 | _=>.stuck
def cj(n:Nat)(g:DSt->Out Fl)(ds:List D):Out D:=(g (eG n ds)).bind v4
def runL(n:Nat)(g:DSt->Out Fl)(ds:List D):Out (List D):=(g (eG n ds)).bind endF
def runLL(n:Nat)(g:DSt->Out Fl)(ds:List D):Out (List (List D)):=(g (eG n ds)).bind endFF
def spF(K:Frag)(Γ:Nat->Option Addr)(n:Nat)(F:List D->Out (List D)):Sp:=λvs H Q E=>vs.length=n/\∃G ds,aQ G H/\aC K Γ G vs ds/\wpO (F ds) (okF K Γ G H Q) (exD K Γ E G H)
def spFF(K:Frag)(Γ:Nat->Option Addr)(n:Nat)(F:List D->Out (List (List D))):Sp:=λvs H Q E=>vs.length=n/\∃G ds,aQ G H/\aC K Γ G vs ds/\wpO (F ds) (okFF K Γ G H Q) (exD K Γ E G H)
def spD(K:Frag)(Γ:Nat->Option Addr)(n:Nat)(F:List D->Out D):Sp:=λvs H Q E=>vs.length=n/\∃G ds,aQ G H/\aC K Γ G vs ds/\wpO (F ds) (okD K Γ G H Q) (exD K Γ E G H)
theorem SR.Ae{K:Frag}{Γ:Nat->Option Addr}{G H:Hp}{vs:List V}{ds:List D}{N:List Str}(s:aQ G H)(r:aC K Γ G vs ds):SR K Γ G H G H (L2.start N vs) (eG N.length ds):=by
 refine⟨.refl s,by simp[eG,L2.start,r.length],λ_=>none,λi x e=>?_⟩
 unfold eG at e
 by_cases h:i<ds.length
 .rw[List.getElem?_append_left (by simpa using h),List.getElem?_map] at e
  obtain⟨d,e1,e2⟩:=Option.map_eq_some_iff.mp e
  cases e2
  obtain⟨v,h1,h2⟩:=r.get e1
  refine⟨v,?_,h2⟩
  unfold L2.start
  rw[List.getElem?_append_left (by rw[List.length_map,r.length];exact h),List.getElem?_map,h1]
  rfl
 .rw[List.getElem?_append_right (by simpa using h),List.getElem?_replicate] at e
  split at e <;> cases e
theorem frz_rl{K:Frag}{Γ:Nat->Option Addr}{G H:Hp}{Q:VK}{ds:List D}(q:okD K Γ G H Q (.lst ds)):okF K Γ G H Q ds:=λa vs G1 H1 s1 f h g r=>by
 have hp:∀b,decide (b=a)=true->G1 b=none/\H b=none:=λb z=>by obtain rfl:=of_decide_eq_true z;exact⟨g,f⟩
 exact q _ _ H1 (s1.frz (λb=>decide (b=a)) hp) (.lst (by unfold dN;rw[if_pos (by simp)];exact h) (r.mono (du λb z=>(hp b z).1)))
theorem PJ{K:Frag}{Γ:Nat->Option Addr}{G H:Hp}{Q:VK}{dss:List (List D)}(q:okD K Γ G H Q (.lst (dss.map .lst))):okFF K Γ G H Q dss:=λa vs G1 H1 s1 f h g n r=>by
 have hp:∀b,decide (b=a∨V.ref b∈vs)=true->G1 b=none/\H b=none:=λb z=>by
  rcases of_decide_eq_true z with z | z
  .subst z;exact⟨g,f⟩
  .exact⟨r.gnone b z,(r.mem b z).1⟩
 exact q _ _ H1 (s1.frz (λb=>decide (b=a∨V.ref b∈vs)) hp) (.lst (by unfold dN;rw[if_pos (by simp)];exact h) (bC.frozen (G0:=G) (du λb z=>(hp b z).1) (λb hb=>by simp[hb]) r))
section
variable{P:Program}{w:World}{K:Frag}{mg:Str->Option Value}{base:Heap}{Γ:Nat->Option Addr}
theorem Fun.okD{x qual:Str}{st:Stmt}{f:Addr}{fd:FuncData}{N ps:List Str}{k:Nat}{g:DSt->Out Fl}(F:L2.Fun K x qual st f fd)(S:aG N ps (au st))
  (h:∀(cdv:Value)(A:Around)(outer:List Env)(s:Shared)(H:Hp)(E:XK),cZ k (A.deeper (envOfC qual (au st) s.heap.objs.size f cdv))->DSs (zE CX0 P w K mg base N qual (au st) f cdv A outer s H E).nox Γ E0 (dh st) g) :
  bY P w K mg base CX0 (k+1) f fd ps (spD K Γ ps.length λds=>(cj N.length g ds).bf) :=
 L2.Fun.ok F S (λvs H Q E h=>h.1) λcdv A outer s H vs Q E hr ⟨hl,G,ds,sg,r,q⟩=>by
  refine⟨_,h cdv A outer s H E hr,G,H,G,eG N.length ds,SR.Ae sg r,(ao (dz (R':=exD K Γ E0 G H) q)).mono (λfl q=>?_) λ_ k=>k⟩
  cases fl with
  | nx δ=>exact λσ G' H' S'=>q _ G' H' S'.st .non
  | rt d=>exact λv G' H' s' r'=>q v G' H' s' r'
  | bk δ=>exact False.elim q
  | ct δ=>exact False.elim q
  | rl ds=>exact frz_rl q
  | rll dss=>exact PJ q
theorem Fun.okF{x qual:Str}{st:Stmt}{f:Addr}{fd:FuncData}{N ps:List Str}{k:Nat}{g:DSt->Out Fl}(F:L2.Fun K x qual st f fd)(S:aG N ps (au st))
  (h:∀(cdv:Value)(A:Around)(outer:List Env)(s:Shared)(H:Hp)(E:XK),cZ k (A.deeper (envOfC qual (au st) s.heap.objs.size f cdv))->DSs (zE CX0 P w K mg base N qual (au st) f cdv A outer s H E).nox Γ E0 (dh st) g) :
  bY P w K mg base CX0 (k+1) f fd ps (spF K Γ ps.length λds=>(runL N.length g ds).bf) :=
 L2.Fun.ok F S (λvs H Q E h=>h.1) λcdv A outer s H vs Q E hr ⟨hl,G,ds,sg,r,q⟩=>by
  refine⟨_,h cdv A outer s H E hr,G,H,G,eG N.length ds,SR.Ae sg r,(ao (dz (R':=exD K Γ E0 G H) q)).mono (λfl q=>?_) λ_ k=>k⟩
  cases fl with
  | rl ds=>exact λa vs G' H' s f h g r=>q a vs G' H' s f h g r
  | _=>exact False.elim q
theorem Fun.okFF{x qual:Str}{st:Stmt}{f:Addr}{fd:FuncData}{N ps:List Str}{k:Nat}{g:DSt->Out Fl}(F:L2.Fun K x qual st f fd)(S:aG N ps (au st))
  (h:∀(cdv:Value)(A:Around)(outer:List Env)(s:Shared)(H:Hp)(E:XK),cZ k (A.deeper (envOfC qual (au st) s.heap.objs.size f cdv))->DSs (zE CX0 P w K mg base N qual (au st) f cdv A outer s H E).nox Γ E0 (dh st) g) :
  bY P w K mg base CX0 (k+1) f fd ps (spFF K Γ ps.length λds=>(runLL N.length g ds).bf) :=
 L2.Fun.ok F S (λvs H Q E h=>h.1) λcdv A outer s H vs Q E hr ⟨hl,G,ds,sg,r,q⟩=>by
  refine⟨_,h cdv A outer s H E hr,G,H,G,eG N.length ds,SR.Ae sg r,(ao (dz (R':=exD K Γ E0 G H) q)).mono (λfl q=>?_) λ_ k=>k⟩
  cases fl with
  | rll ds=>exact λa vs G' H' s f h g n r=>q a vs G' H' s f h g n r
  | _=>exact False.elim q
theorem okF_D{CX:CXT}{k n:Nat}{f:Addr}{fd:FuncData}{ps:List Str}{F:List D->Out (List D)}(h:bY P w K mg base CX k f fd ps (spF K Γ n F)):bY P w K mg base CX k f fd ps (spD K Γ n λds=>(F ds).bind λxs=>.ok (.lst xs)) :=
 h.imp λvs H Q E ⟨hl,G,ds,sg,r,q⟩=>⟨hl,G,ds,sg,r,(ao q).mono (λxs q=>frz_rl q) λ_ k=>k⟩
theorem okFF_D{CX:CXT}{k n:Nat}{f:Addr}{fd:FuncData}{ps:List Str}{F:List D->Out (List (List D))}(h:bY P w K mg base CX k f fd ps (spFF K Γ n F)):bY P w K mg base CX k f fd ps (spD K Γ n λds=>(F ds).bind λxs=>.ok (.lst (xs.map .lst))) :=
 h.imp λvs H Q E ⟨hl,G,ds,sg,r,q⟩=>⟨hl,G,ds,sg,r,(ao q).mono (λxs q=>PJ q) λ_ k=>k⟩
end
section
variable{X:Cx}{Γ:Nat->Option Addr}{E:XK}{e a b c o:Expr}{pos apos:Pos}{es:List Expr}{fa fb fo:DSt->Out D}{fr:DSt->Out (List D)}{CX:CXT}
def oF(n:Nat)(F:List D->Out D)(fr:DSt->Out (List D)):DSt->Out D:=λδ=>(fr δ).bind λds=>if ds.length=n then F ds else .stuck
theorem dcall{n:Nat}{F:List D->Out D}(h:PE X e (FQ (spD X.K Γ n F) [] E (taD X.K Γ E fr))):DE X Γ E e (oF n F fr):=PE.imp h λσ H Q ⟨G0,H0,G,δ,S,w⟩=>by
 refine⟨G0,H0,G,δ,S,(ao w).mono (λds w vs G1 H1 s1 r1=>?_) λ_ k=>k⟩
 split at w
 .rename_i h
  rw[List.append_nil]
  exact⟨by rw[r1.length];exact h,G1,ds,s1.gh,r1,w.mono (λd k=>k.step s1) λx k=>k.step s1⟩
 .exact False.elim w
def Ak{α:Type}(X:Cx)(Γ:Nat->Option Addr)(CX:CXT)(m:Str)(sp:(List D->Out α)->Sp):List (Nat×(List D->Out α))->Prop
 | []=>True
 | (c,F)::r=>(∃C f fd ps k,Γ c=some C/\Cls X.K C/\Meth X.K C m f/\bY X.prog X.w X.K X.mg X.base CX k f fd ps (sp F)/\cZ k X.A/\Binds X.K fd ps [])/\Ak X Γ CX m sp r
theorem Ak.get{α:Type}{m:Str}{sp:(List D->Out α)->Sp}:∀{M:List (Nat×(List D->Out α))}{c:Nat}{F:List D->Out α},Ak X Γ CX m sp M->M.lookup c=some F ->
  ∃C f fd ps k,Γ c=some C/\Cls X.K C/\Meth X.K C m f/\bY X.prog X.w X.K X.mg X.base CX k f fd ps (sp F)/\cZ k X.A/\Binds X.K fd ps []
 | [],_,_,_,e=>by cases e
 | (c',F')::r,c,F,h,e=>by
  by_cases q:c=c'
  .subst q
   simp only[List.lookup_cons,beq_self_eq_true] at e
   cases e
   exact h.1
  .have q':(c==c')=false:=beq_eq_false_iff_ne.mpr q
   simp only[List.lookup_cons,q'] at e
   exact h.2.get e
def tMethD{α:Type}(Γ:Nat->Option Addr)(m:Str)(sp:(List D->Out α)->Sp)(M:List (Nat×(List D->Out α)))(E:XK)(ta:TE)(t:TA):TE:=λσ H Q=>ta σ H λx H1=>∃c a C dx fs F,x=.ref a/\H1 a=some (.ins C dx fs)/\Γ c=some C/\M.lookup c=some F/\fs.lookup m=none /\
 t σ H1 λvs H2=>sp F (x::vs) H2 Q E
theorem Rh{α:Type}{m:Str}{sp:(List D->Out α)->Sp}{M:List (Nat×(List D->Out α))}{ta:TE}{pl:Sem Bool}(hM:Ak X Γ CX m sp M)(hx:lZ CX X E)(he:PE X o ta)
  (ht:eval (.Call (.Attribute o m apos) [] [] pos) X.env=(do
   let ov ←eval o X.env
   standAt apos.atName
   let (f,first) ←holding [ov] (getMethod ov m pl)
   callWith pos f first (backTo pos (starEach [] X.env)) (backToKw pos (keywordEach [] X.env))):=by rfl) :
  PE X (.Call (.Attribute o m apos) [] [] pos) (tMethD Γ m sp M E ta m6):=by
 intro pins s σ H Q I h
 refine PySem.W.methodCall_KW (pl:=pl) (thn (he pins s σ H _ I h) λu s1 ⟨x,H1,I1,rx,c,a,C,dx,fs,F,ex,ea,hc,hF,l,q⟩=>?_) ht
 subst ex
 obtain rfl:u=Value.ref a:=rx
 obtain⟨C',f,fd,ps,k,hc',cl,hm,G,hr,hb⟩:=hM.get hF
 rw[hc] at hc'
 cases hc'
 refine Bt I1 ea cl hm l ?_
 exact PySem.W.callWith_K0 (first:=[.ref a]) I1.kIn hm.kp (Jf (dvs:=[]) (us:=[.ref a]) (vs:=[.ref a]) G hr hb .nil hx I1 (.cons rfl .nil) (by rw[List.append_nil];exact q))
def oM(m:Str)(n:Nat)(M:List (Nat×(List D->Out D)))(fo:DSt->Out D)(fr:DSt->Out (List D)):DSt->Out D:=λδ=>(fo δ).bind λo=>match o with
 | .obj c fs=>match M.lookup c with
  | some F=>if (fs.lookup m).isNone=true then (fr δ).bind λds=>if ds.length+1=n then F (o::ds) else .stuck else .stuck
  | none=>.stuck
 | _=>.stuck
theorem de_meth0{m:Str}{n:Nat}{M:List (Nat×(List D->Out D))}(h:PE X e (tMethD Γ m (spD X.K Γ n) M E (teD X.K Γ E fo) m6)):DE X Γ E e (oM m n M fo aM):=PE.imp h λσ H Q ⟨G0,H0,G,δ,S,w⟩=>by
 refine⟨G0,H0,G,δ,S,(ao w).mono (λd w v G1 H1 s1 r1=>?_) λ_ k=>k⟩
 split at w
 .rename_i c fs
  split at w
  .rename_i F hF
   split at w
   .rename_i hn
    have r1':=r1
    cases r1 with
    | obj ha hc rf =>
     refine⟨c,_,_,_,_,F,rfl,s1.gh _ _ ha,hc,hF,rf.none (Option.isNone_iff_eq_none.mp hn),?_⟩
     have w:wpO (if 0+1=n then F [.obj c fs] else .stuck) (okD X.K Γ G H Q) (exD X.K Γ E G H):=w
     split at w
     .rename_i hl
      exact⟨hl,G1,_,s1.gh,.cons r1' .nil,w.mono (λd k=>k.step s1) λx k=>k.step s1⟩
     .exact False.elim w
   .exact False.elim w
  .exact False.elim w
 .exact False.elim w
def oFl{α:Type}(n:Nat)(F:List D->Out α)(fr:DSt->Out (List D)):DSt->Out α:=λδ=>(fr δ).bind λds=>if ds.length=n then F ds else .stuck
theorem dcallF{n:Nat}{F:List D->Out (List D)}(h:PE X e (FQ (spF X.K Γ n F) [] E (taD X.K Γ E fr))):DF X Γ E e (oFl n F fr):=PE.imp h λσ H Q ⟨G0,H0,G,δ,S,w⟩=>by
 refine⟨G0,H0,G,δ,S,(ao w).mono (λds w vs G1 H1 s1 r1=>?_) λ_ k=>k⟩
 split at w
 .rename_i h
  rw[List.append_nil]
  exact⟨by rw[r1.length];exact h,G1,ds,s1.gh,r1,w.mono (λd k a vs G' H' s f h g r=>k a vs G' H' (s1.trans s) (aD s1.hh f) h g r) λx k=>k.step s1⟩
 .exact False.elim w
def FldOk(K:Frag)(Γ:Nat->Option Addr)(f:Str):List Nat->Prop
 | []=>True
 | c::r=>(∃C,Γ c=some C/\Cls K C/\bI K C f)/\FldOk K Γ f r
theorem FldOk.get{K:Frag}{f:Str}:∀{cs:List Nat}{c:Nat},FldOk K Γ f cs->cs.contains c=true->∃C,Γ c=some C/\Cls K C/\bI K C f
 | [],_,_,e=>by cases e
 | d::r,c,h,e=>by
  by_cases q:c=d
  .subst q;exact h.1
  .exact h.2.get (by simpa[q] using e)
def oFld(f:Str)(cs:List Nat)(fo:DSt->Out D):DSt->Out D:=λδ=>(fo δ).bind λo=>match o with
 | .obj c fs=>if cs.contains c=true then .opt (fs.lookup f) else .stuck
 | _=>.stuck
theorem NB{f:Str}{cs:List Nat}(hf:FldOk X.K Γ f cs)(he:DE X Γ E o fo)(hb:attributeBase o f X.env (eval o X.env)=eval o X.env:=by rfl):DE X Γ E (.Attribute o f pos) (oFld f cs fo):=PE.imp (pe_fld he hb) λσ H Q ⟨G0,H0,G,δ,S,w⟩=>by
 refine⟨G0,H0,G,δ,S,(ao w).mono (λd w v G1 H1 s1 r1=>?_) λ_ k=>k⟩
 split at w
 .rename_i c fs
  split at w
  .rename_i hc
   obtain⟨d,e,k⟩:=bh w
   cases r1 with
   | obj ha hC rf =>
    obtain⟨C',hC',cl,na⟩:=hf.get hc
    rw[hC] at hC'
    cases hC'
    obtain⟨v,h1,h2⟩:=rf.look e
    exact⟨_,_,_,_,v,rfl,s1.gh _ _ ha,cl,na,h1,k _ G1 H1 s1 h2⟩
  .exact False.elim w
 .exact False.elim w
def spI(K:Frag)(Γ:Nat->Option Addr)(c n:Nat)(F:List D->Out (List (Str×D))):Sp:=λvs H Q E=>vs.length=n+1/\∃a dx C us G ds,vs=.ref a::us/\H a=some (.ins C dx [])/\Γ c=some C/\G a=none/\aQ G H/\aC K Γ G us ds /\
 wpO (F ds) (λfds=>∀fs G' H',aQ G G'->(∀b o,H b=some o->b≠a->H' b=some o)->aQ G' H'->(∀b,H b≠none->G b=none->G' b=none)->H' a=some (.ins C dx fs)->jh K Γ G' fs fds->Q .non H')
  (λx=>∀a' G' H',aQ G G'->(∀b o,H b=some o->b≠a->H' b=some o)->aQ G' H'->(∀b,H b≠none->G b=none->G' b=none)->Rep K Γ G' (.ref a') x->E (.ref a') none H')
def oMk(c n:Nat)(F:List D->Out (List (Str×D)))(fr:DSt->Out (List D)):DSt->Out D:=λδ=>(fr δ).bind λds=>if ds.length=n then (F ds).bind λfds=>.ok (.obj c fds) else .stuck
theorem Qd{c n:Nat}{C:Addr}{F:List D->Out (List (Str×D))}{G H G1 H1:Hp}{Q:VK}{vs:List V}{ds:List D}(hC:Γ c=some C)(s1:Step G H G1 H1)(r1:aC X.K Γ G1 vs ds)(hl:ds.length=n)(w:wpO ((F ds).bind λfds=>.ok (.obj c fds)) (okD X.K Γ G H Q) (exD X.K Γ E G H))(x dx:Addr)(hx:H1 x=none)(hdx:H1 dx=none)(ne:dx≠x):
  spI X.K Γ c n F (.ref x::vs) (upd (upd H1 dx (.own x)) x (.ins C dx [])) (λv H2=>v=.non/\Q (.ref x) H2) E:=by
 have gx:G1 x=none:=aD s1.gh hx
 have gdx:G1 dx=none:=aD s1.gh hdx
 have up:∀b o,H1 b=some o->b≠x/\upd (upd H1 dx (.own x)) x (.ins C dx []) b=some o:=λb o e=>⟨aV e hx,by rw[aW (aV e hx),aW (aV e hdx)];exact e⟩
 have nn:∀b,H1 b≠none->upd (upd H1 dx (.own x)) x (.ins C dx []) b≠none:=λb hb z=>by
  cases q:H1 b with
  | none=>exact hb q
  | some o=>rw[(up b o q).2] at z;cases z
 refine⟨by rw[List.length_cons,r1.length,hl],x,dx,C,vs,G1,ds,rfl,aO,hC,gx,λb o e=>(up b o (s1.gh _ _ e)).2,r1,(ao w).mono (λfds w fs G' H' a1 a2 a3 a4 a5 a6=>⟨rfl,?_⟩) λex k a' G' H' a1 a2 a3 a4 a5=>k a' G' H' (s1.trans ⟨a1,λb o e=>a2 b o (up b o e).2 (up b o e).1,a3,λb hb g=>a4 b (nn b hb) g⟩) a5⟩
 have gx':G' x=none:=a4 x (by rw[aO];exact λz=>nomatch z) gx
 refine w _ (upd G' x (.ins C dx fs)) H' (s1.trans ⟨a1.trans (aQ.up gx'),λb o e=>a2 b o (up b o e).2 (up b o e).1,λb o e=>?_,λb hb g=>?_⟩) (.obj aO hC (a6.mono (aQ.up gx')))
 .by_cases z:b=x
  .subst z;rw[aO] at e;cases e;exact a5
  .rw[aW z] at e;exact a3 _ _ e
 .have z:b≠x:=λz=>hb (by rw[z];exact hx)
  rw[aW z];exact a4 b (nn b hb) g
theorem dmake{c n:Nat}{C:Addr}{F:List D->Out (List (Str×D))}(hC:Γ c=some C)(h:PE X e (tMake C (spI X.K Γ c n F) [] E (taD X.K Γ E fr))):DE X Γ E e (oMk c n F fr):=PE.imp h λσ H Q ⟨G0,H0,G,δ,S,w⟩=>by
 refine⟨G0,H0,G,δ,S,(ao w).mono (λds w vs G1 H1 s1 r1=>?_) λ_ k=>k⟩
 split at w
 .rename_i hl
  intro x dx hx hdx ne
  rw[List.append_nil]
  exact Qd hC s1 r1 hl w x dx hx hdx ne
 .exact False.elim w
theorem dmake0{c n:Nat}{C:Addr}{F:List D->Out (List (Str×D))}(hC:Γ c=some C)(h:PE X e (tMake C (spI X.K Γ c n F) [] E m6)):DE X Γ E e (oMk c n F aM):=PE.imp h λσ H Q ⟨G0,H0,G,δ,S,w⟩=>by
 have w:wpO (if 0=n then (F []).bind λfds=>.ok (.obj c fds) else .stuck) (okD X.K Γ G H Q) (exD X.K Γ E G H):=w
 split at w
 .rename_i hl
  intro x dx hx hdx ne
  rw[List.append_nil]
  exact Qd (G:=G) (H:=H) hC (.refl S.st.gh) .nil hl w x dx hx hdx ne
 .exact False.elim w
structure ur(K:Frag)(C:Addr):Prop where
 cls:Cls K C
 ha:findIn K (.ref C) "__class__"=some (some (.builtin "object.__class__"))
 hn:PySem.W.specialIn K (.builtin "object.__class__") "__get__"=some (some (.builtin "getset_descriptor.__get__"))
 htk:PySem.W.takesIn K (.builtin "object.__class__")=some true
 hm:PySem.W.mroIn K C (.type "object")=some true
 ty:PySem.W.typeIn K (.ref C)=some (.type "type")
 cd:∃cd,PySem.W.clsIn K C=some cd
def Aj(K:Frag)(Γ:Nat->Option Addr)(cv:V)(isi:D->Option Bool):Prop:=∀H v d b,Rep K Γ H v d->isi d=some b->∃t,TyX K H v t/\PySem.W.kitOne K t (clsV cv)=some b
def wU(isi:D->Option Bool)(fo:DSt->Out D):DSt->Out D:=λδ=>(fo δ).bind λd=>(Out.opt (isi d)).bind λb=>.ok (.bl b)
theorem nP{cv:V}{isi:D->Option Bool}{p:Pos}(hc:(cv=.ref (match cv with | .ref C=>C | _=>0)∨cv=.ty (match cv with | .ty n=>n | _=>"")))(hi:Aj X.K Γ cv isi)(hg:Gl X "isinstance")(hm:X.mg "isinstance"=none)(ho:DB X Γ E o fo)(hcv:PE X c (tC cv))
  (hs:starEach [o,c] X.env=(false,eval o X.env)::starEach [c] X.env:=by rfl) (hs2:starEach [c] X.env=[(false,eval c X.env)]:=by rfl):DE X Γ E (.Call (.Name "isinstance" p) [o,c] [] pos) (wU isi fo) :=
 PE.imp (wW call_isi hg hm PyProof.Rows.boot_isinstance (aU ho (aU hcv bD (by rw[hs2];rfl)) hs) (by decide) (by decide) hs (by rw[hs2];rfl)) λσ H Q ⟨G0,H0,G,δ,S,w⟩=>by
  refine⟨G0,H0,G,δ,S,(ao w).mono (λd w v G1 H1 s1 r1=>?_) λ_ k=>k⟩
  obtain⟨b,e,k⟩:=bh (ao w)
  obtain⟨t,ty,kt⟩:=hi H1 v d b r1 e
  exact⟨v,cv,t,b,rfl,hc,ty,kt,k _ G1 H1 s1 (.bl b)⟩
end
end DL
namespace DL
open PySem PySem.Spec PyProof.Rows MX L2
abbrev kc(d:D):DSt->Out D:=λ_=>.ok d
abbrev one1(g:D->Option D):List D->Option D:=λds=>match ds with
 | [x]=>g x
 | _=>none
abbrev zG(i:Nat)(g:DSt->Out Fl):DSt->Out Fl:=λδ=>g (frz i δ)
structure Def(P:Program)(w:World)(K:Frag)(mg:Str->Option Value)(base:Heap)(x:Str)(k:Nat)(ps:List Str)(sp:Sp):Prop where
 ex:∃f fd,bY P w K mg base CX0 k f fd ps sp/\Binds K fd ps []/\mg x=some (.ref f)/\keepIn K (.ref f)=true
structure Ini(P:Program)(w:World)(K:Frag)(mg:Str->Option Value)(base:Heap)(C:Addr)(k:Nat)(ps:List Str)(sp:Sp):Prop where
 ex:∃f fd,Mk K C f/\bY P w K mg base CX0 k f fd ps sp/\Binds K fd ps []
def gQ{α:Type}(P:Program)(w:World)(K:Frag)(mg:Str->Option Value)(base:Heap)(Γ:Nat->Option Addr)(m:Str)(sp:(List D->Out α)->Sp)(k:Nat):List (Nat×(List D->Out α))->Prop
 | []=>True
 | (c,F)::r=>(∃C f fd ps,Γ c=some C/\Cls K C/\Meth K C m f/\bY P w K mg base CX0 k f fd ps (sp F)/\Binds K fd ps [])/\gQ P w K mg base Γ m sp k r
theorem gQ.ok{α:Type}{X:Cx}{Γ:Nat->Option Addr}{m:Str}{sp:(List D->Out α)->Sp}{k:Nat}(hr:cZ k X.A):∀{M:List (Nat×(List D->Out α))},gQ X.prog X.w X.K X.mg X.base Γ m sp k M->Ak X Γ CX0 m sp M
 | [],_=>trivial
 | (c,F)::r,⟨⟨C,f,fd,ps,h1,h2,h3,h4,h5⟩,t⟩=>⟨⟨C,f,fd,ps,k,h1,h2,h3,h4,hr,h5⟩,gQ.ok hr t⟩
abbrev dOf(F:List D->Out (List D)):List D->Out D:=λds=>(F ds).bind λxs=>.ok (.lst xs)
abbrev dOff(F:List D->Out (List (List D))):List D->Out D:=λds=>(F ds).bind λxs=>.ok (.lst (xs.map .lst))
abbrev tabD(M:List (Nat×(List D->Out (List D)))):List (Nat×(List D->Out D)):=M.map λp=>(p.1,dOf p.2)
abbrev tQ(M:List (Nat×(List D->Out (List (List D))))):List (Nat×(List D->Out D)):=M.map λp=>(p.1,dOff p.2)
theorem gQ.dF{P:Program}{w:World}{K:Frag}{mg:Str->Option Value}{base:Heap}{Γ:Nat->Option Addr}{m:Str}{n k:Nat}:∀{M:List (Nat×(List D->Out (List D)))},gQ P w K mg base Γ m (spF K Γ n) k M->gQ P w K mg base Γ m (spD K Γ n) k (tabD M)
 | [],_=>trivial
 | (c,F)::r,⟨⟨C,f,fd,ps,h1,h2,h3,h4,h5⟩,t⟩=>⟨⟨C,f,fd,ps,h1,h2,h3,okF_D h4,h5⟩,gQ.dF t⟩
theorem gQ.dFF{P:Program}{w:World}{K:Frag}{mg:Str->Option Value}{base:Heap}{Γ:Nat->Option Addr}{m:Str}{n k:Nat}:∀{M:List (Nat×(List D->Out (List (List D))))},gQ P w K mg base Γ m (spFF K Γ n) k M->gQ P w K mg base Γ m (spD K Γ n) k (tQ M)
 | [],_=>trivial
 | (c,F)::r,⟨⟨C,f,fd,ps,h1,h2,h3,h4,h5⟩,t⟩=>⟨⟨C,f,fd,ps,h1,h2,h3,okFF_D h4,h5⟩,gQ.dFF t⟩
def Gn(K:Frag)(Γ:Nat->Option Addr)(cv:Value):List (Nat×Bool)->Prop
 | []=>True
 | (c,b)::r=>(∃C',Γ c=some C'/\ur K C'/\PySem.W.kitOne K (.ref C') cv=some b)/\Gn K Γ cv r
theorem Gn.get{K:Frag}{Γ:Nat->Option Addr}{cv:Value}:∀{tab:List (Nat×Bool)}{c:Nat}{b:Bool},Gn K Γ cv tab->tab.lookup c=some b->∃C',Γ c=some C'/\ur K C'/\PySem.W.kitOne K (.ref C') cv=some b
 | [],_,_,_,e=>by cases e
 | (c',b')::r,c,b,h,e=>by
  by_cases q:c=c'
  .subst q
   simp only[List.lookup_cons,beq_self_eq_true] at e
   cases e
   exact h.1
  .have q':(c==c')=false:=beq_eq_false_iff_ne.mpr q
   simp only[List.lookup_cons,q'] at e
   exact h.2.get e
def mU(n:String)(tab:List (Nat×Bool)):D->Option Bool
 | .obj c _=>tab.lookup c
 | .non=>some false
 | .bl _=>some (n=="bool" || n=="int")
 | .int _=>some (n=="int")
 | .str _=>some (n=="str")
 | .lst _=>some (n=="list")
 | .tup _=>some (n=="tuple")
 | .rot _=>some (n=="tuple")
 | .dK _=>some (n=="dict")
 | .dT _=>some (n=="dict")
 | _=>none
def ttB(a b:String):Option Bool:=if (Value.type a==Value.type b)=true then some true else if PySem.W.kitMeta b=true then (PySem.fastBuiltinMro a).map (·.contains (.type b)) else none
def CN(n:String):Bool:=ttB "NoneType" n==some false && ttB "bool" n==some (n=="bool" || n=="int") && ttB "int" n==some (n=="int") && ttB "str" n==some (n=="str") && ttB "list" n==some (n=="list") && ttB "tuple" n==some (n=="tuple") && ttB "dict" n==some (n=="dict")
theorem wI{K:Frag}{Γ:Nat->Option Addr}{n:String}{tab:List (Nat×Bool)}(a:CN n=true)(h:Gn K Γ (.type n) tab):Aj K Γ (.ty n) (mU n tab):=by
 unfold CN at a
 simp only[Bool.and_eq_true,beq_iff_eq] at a
 obtain⟨⟨⟨⟨⟨⟨a0,a1⟩,a2⟩,a3⟩,a4⟩,a5⟩,a6⟩:=a
 intro H v d b r e
 cases r <;> simp only[mU] at e
 case non=>cases e;exact⟨_,.of .non,a0⟩
 case bl=>cases e;exact⟨_,.of (.bl _),a1⟩
 case int=>cases e;exact⟨_,.of (.int _),a2⟩
 case str=>cases e;exact⟨_,.of (.str _),a3⟩
 case lst h1 _=>cases e;exact⟨_,.of (.lst h1),a4⟩
 case tup h1 _=>cases e;exact⟨_,.of (.tup h1),a5⟩
 case rot h1 _=>cases e;exact⟨_,.kt h1,a5⟩
 case dK h1 _=>cases e;exact⟨_,.of (.dK h1),a6⟩
 case dT h1 _=>cases e;exact⟨_,.of (.dT h1),a6⟩
 case obj h1 g _ =>
  obtain⟨C',g',i,k⟩:=h.get e
  rw[g] at g'
  cases g'
  exact⟨_,.of (.ins h1 i.cls i.ha i.hn i.htk i.hm),k⟩
 all_goals cases e
theorem tt_bool:CN "bool"=true:=by decide +kernel
theorem tt_int:CN "int"=true:=by decide +kernel
theorem tt_str:CN "str"=true:=by decide +kernel
theorem tt_list:CN "list"=true:=by decide +kernel
theorem tt_tuple:CN "tuple"=true:=by decide +kernel
end DL
namespace DL
open PySem PySem.Spec PyProof.Rows MX L2
theorem zX(i j:Int):bw (.int i) (.int j)=some (.int (i+j)):=rfl
theorem Af(i j:Int):subD (.int i) (.int j)=some (.int (i - j)):=rfl
theorem dM{i j:Int}(h:jg i j):mD (.int i) (.int j)=some (.int (i*j)):=by show (if jg i j then _ else _)=_;rw[if_pos h]
theorem mR{i j:Int}(h:CDiv i j):Bm (.int i) (.int j)=some (.int (i / j)):=by show (if CDiv i j then _ else _)=_;rw[if_pos h]
theorem lQ{i j:Int}(h:0<j):fM (.int i) (.int j)=some (.int (i % j)):=by show (if 0<j then _ else _)=_;rw[if_pos h]
theorem zZ(p:Int->Int->Bool)(i j:Int):cmpI p (.int i) (.int j)=some (p i j):=rfl
theorem JF(b:Bool):truD (.bl b)=some b:=rfl
theorem asB_b(b:Bool):asB (.bl b)=some b:=rfl
theorem BP(xs:List D):fL (.lst xs)=some (.int xs.length):=rfl
theorem HB(xs:List D):fL (.rol xs)=some (.int xs.length):=rfl
theorem HD(xs:List D):fL (.tup xs)=some (.int xs.length):=rfl
theorem rE(xs:List D)(i:Int):ixD (.lst xs) (.int i)=atI xs i:=rfl
theorem K3(xs:List D)(i:Int):ixD (.rol xs) (.int i)=atI xs i:=rfl
theorem ixD_t(xs:List D)(i:Int):ixD (.tup xs) (.int i)=atI xs i:=rfl
theorem Hv(i:Int):intD (.int i)=some (.int i):=rfl
theorem Hu(b:Bool):intD (.bl b)=some (.int (if b then 1 else 0)):=rfl
theorem HJ(i j:Int):maxD [.int i,.int j]=some (.int (if j>i then j else i)):=rfl
theorem modb(a b:Int){m:Int}(h:0<m)(h2:m<=2 ^ 32):jg (a % m) b:=by
 have h3:=Int.emod_nonneg a (show m≠0 by omega)
 have h4:=Int.emod_lt_of_pos a h
 exact .inl ⟨by omega,by omega⟩
theorem vR{a b:Int}(h1:-1000000000<=a)(h2:a<=1000000000):jg a b:=.inl ⟨by omega,by omega⟩
def nxP(o:Out Fl)(I:DSt->Prop):Prop:=match o with
 | .ok (.nx δ)=>I δ
 | _=>False
theorem nxP_ok(δ:DSt)(I:DSt->Prop):nxP (.ok (.nx δ)) I=I δ:=rfl
theorem nxP_get{o:Out Fl}{I:DSt->Prop}(h:nxP o I):∃δ,o=.ok (.nx δ)/\I δ:=by
 unfold nxP at h
 split at h
 .exact⟨_,rfl,h⟩
 .exact h.elim
theorem HS{a b:String}:Str.ofString a=Str.ofString b↔a=b:=by
 constructor
 .intro h
  rw[Str.ofString_eq_toList,Str.ofString_eq_toList] at h
  have h1:a.toList.map Char.toNat=b.toList.map Char.toNat:=by
   have:=congrArg (λs:Str=>s.cps.toList) h
   simpa using this
  have inj:∀{x y:List Char},x.map Char.toNat=y.map Char.toNat->x=y:=by
   intro x
   induction x with
   | nil=>intro y h;cases y with | nil=>rfl | cons _ _=>cases h
   | cons c x ih =>
    intro y h
    cases y with
    | nil=>cases h
    | cons d y =>
     simp only[List.map_cons,List.cons.injEq] at h
     rw[ih h.2]
     congr 1
     exact Char.ext (UInt32.toNat_inj.mp h.1)
  exact String.toList_inj.mp (inj h1)
 .rintro rfl;rfl
theorem Aa(a b:String):(Str.ofString a==Str.ofString b)=(a==b):=by
 by_cases h:a=b
 .subst h;simp
 .rw[beq_eq_false_iff_ne.mpr h,beq_eq_false_iff_ne.mpr (λq=>h (HS.mp q))]
mutual
theorem eqv_refl:∀d:PyData,d.canLay0=true->PyData.eqv d d=true
 | .none,_=>by simp[PyData.eqv]
 | .bool b,_=>by simp[PyData.eqv]
 | .int i,_=>by simp[PyData.eqv]
 | .str x,_=>by simp[PyData.eqv]
 | .list xs,h=>by
  simp only[PyData.eqv]
  exact eqvAll_refl xs (by simpa[PyData.canLay0] using h)
 | .tuple xs,h=>by
  simp only[PyData.eqv]
  exact eqvAll_refl xs (by simpa[PyData.canLay0] using h)
 | .dict _,h=>by simp[PyData.canLay0] at h
theorem eqvAll_refl:∀ds:List PyData,PyData.canLayAll0 ds=true->PyData.eqvAll ds ds=true
 | [],_=>by simp[PyData.eqvAll]
 | d::ds,h=>by
  simp only[PyData.canLayAll0,Bool.and_eq_true] at h
  simp only[PyData.eqvAll,eqv_refl d h.1,eqvAll_refl ds h.2,Bool.and_self]
end
mutual
def dw:Nat->D->Bool
 | _,.non=>true
 | _,.bl _=>true
 | _,.int _=>true
 | _,.str x=>PyData.strOk x
 | n+1,.lst xs=>j4 n xs
 | n+1,.tup xs=>j4 n xs
 | n+1,.rol xs=>j4 n xs
 | n+1,.rot xs=>j4 n xs
 | _,_=>false
def j4:Nat->List D->Bool
 | _,[]=>true
 | n,d::ds=>dw n d && j4 n ds
end
mutual
theorem wK:∀(d:D)(n:Nat),dw n d=true->∃p,toPy d=some p/\p.canLay0=true/\p.depth<=n
 | .non,n,_=>⟨_,rfl,by simp[PyData.canLay0],by simp[PyData.depth]⟩
 | .bl b,n,_=>⟨_,rfl,by simp[PyData.canLay0],by simp[PyData.depth]⟩
 | .int b,n,_=>⟨_,rfl,by simp[PyData.canLay0],by simp[PyData.depth]⟩
 | .str x,n,h=>⟨_,rfl,by simpa[PyData.canLay0,dw] using h,by simp[PyData.depth]⟩
 | .lst xs,n+1,h=>by
  obtain⟨q,e,c,k⟩:=rJ xs n (by simpa[dw] using h)
  exact⟨.list q,by simp[toPy,e],by simpa[PyData.canLay0] using c,by simp[PyData.depth];omega⟩
 | .rol xs,n+1,h=>by
  obtain⟨q,e,c,k⟩:=rJ xs n (by simpa[dw] using h)
  exact⟨.list q,by simp[toPy,e],by simpa[PyData.canLay0] using c,by simp[PyData.depth];omega⟩
 | .tup xs,n+1,h=>by
  obtain⟨q,e,c,k⟩:=rJ xs n (by simpa[dw] using h)
  exact⟨.tuple q,by simp[toPy,e],by simpa[PyData.canLay0] using c,by simp[PyData.depth];omega⟩
 | .rot xs,n+1,h=>by
  obtain⟨q,e,c,k⟩:=rJ xs n (by simpa[dw] using h)
  exact⟨.tuple q,by simp[toPy,e],by simpa[PyData.canLay0] using c,by simp[PyData.depth];omega⟩
 | .lst xs,0,h=>by simp[dw] at h
 | .rol xs,0,h=>by simp[dw] at h
 | .tup xs,0,h=>by simp[dw] at h
 | .rot xs,0,h=>by simp[dw] at h
 | .ty _,n,h=>by simp[dw] at h
 | .cls _,n,h=>by simp[dw] at h
 | .dK _,n,h=>by simp[dw] at h
 | .dT _,n,h=>by simp[dw] at h
 | .obj _ _,n,h=>by simp[dw] at h
 | .exc _ _,n,h=>by simp[dw] at h
theorem rJ:∀(ds:List D)(n:Nat),j4 n ds=true->∃p,toPyL ds=some p/\PyData.canLayAll0 p=true/\PyData.depthAll p<=n
 | [],n,_=>⟨_,rfl,by simp[PyData.canLayAll0],by simp[PyData.depthAll]⟩
 | d::ds,n,h=>by
  simp only[j4,Bool.and_eq_true] at h
  obtain⟨p,e1,c1,k1⟩:=wK d n h.1
  obtain⟨q,e2,c2,k2⟩:=rJ ds n h.2
  exact⟨p::q,by simp[toPyL,e1,e2],by simp[PyData.canLayAll0,c1,c2],by simp[PyData.depthAll];omega⟩
end
def eqB(x y:D):Bool:=match toPy x,toPy y with
 | some p,some q=>PyData.eqv p q
 | _,_=>false
theorem v5{x y:D}(hx:dw 50 x=true)(hy:dw 50 y=true):eqD x y=some (eqB x y):=by
 obtain⟨p,e1,c1,k1⟩:=wK x 50 hx
 obtain⟨q,e2,c2,k2⟩:=wK y 50 hy
 unfold eqD eqB layP
 rw[e1,e2]
 simp[c1,c2,k1,k2]
theorem wR{x y:D}(hx:dw 50 x=true)(hy:dw 50 y=true):neD x y=some (!eqB x y):=by
 unfold neD
 rw[v5 hx hy]
 rfl
theorem Kl{n:Nat}{x:D}(hx:dw n x=true):eqB x x=true:=by
 obtain⟨p,e1,c1,k1⟩:=wK x n hx
 unfold eqB
 rw[e1]
 exact eqv_refl p c1
theorem Km{x:D}(hx:dw 50 x=true):eqD x x=some true:=by rw[v5 hx hx,Kl hx]
theorem rY{x:D}(hx:dw 50 x=true):neD x x=some false:=by rw[wR hx hx,Kl hx];rfl
theorem Pz(i j:Int):eqB (.int i) (.int j)=(i==j):=by simp[eqB,toPy,PyData.eqv]
theorem eqB_str(i j:Str):eqB (.str i) (.str j)=(i==j):=by simp[eqB,toPy,PyData.eqv]
theorem Hl(i j:Int):eqD (.int i) (.int j)=some (i==j):=by rw[v5 (by simp[dw]) (by simp[dw]),Pz]
theorem HN(i j:Int):neD (.int i) (.int j)=some (!(i==j)):=by rw[wR (by simp[dw]) (by simp[dw]),Pz]
theorem atI_0{α:Type}(x0:α)(r:List α):atI (x0::r) 0=some x0:=gC (j:=0) rfl
theorem atI_1{α:Type}(x0 x1:α)(r:List α):atI (x0::x1::r) 1=some x1:=gC (j:=1) rfl
theorem atI_2{α:Type}(x0 x1 x2:α)(r:List α):atI (x0::x1::x2::r) 2=some x2:=gC (j:=2) rfl
end DL
namespace DL
open PySem PySem.Spec PyProof.Rows MX L2
section
variable{X:Cx}{Γ:Nat->Option Addr}{E:XK}{e a b c o:Expr}{pos apos p:Pos}{es:List Expr}{fa fb fo:DSt->Out D}{fr:DSt->Out (List D)}
theorem CT:∀{bs:List Bool}{us:List Value},Vals (bs.map V.bl) us->us=bs.map Value.bool
 | [],_,r=>by cases r;rfl
 | b::bs,_,r=>by
  cases r with
  | cons r1 r2=>cases r1;rw[CT r2];rfl
theorem all_range(bs:List Bool):(List.range bs.length).all (λi=>bs.getD i true)=bs.all id:=by
 induction bs with
 | nil=>rfl
 | cons b bs ih =>
  rw[List.length_cons,List.range_succ_eq_map,List.all_cons,List.all_map,List.all_cons]
  have:((λi=>(b::bs).getD i true)∘Nat.succ)=λi=>bs.getD i true:=by funext i;simp
  rw[this,ih];simp
theorem Av(hc:X.calm=true):jo X (.builtin "all") (λxs H Q=>∃(q:Addr)(bs:List Bool),xs=[.ref q]/\SqL X.K H q (bs.map V.bl)/\Q (.bl (bs.all id)) H):=by
 intro pins s σ H xs us Q I r h
 obtain⟨q,bs,rfl,hq,k⟩:=h
 obtain⟨u,rfl,rx⟩:=vals1 r
 cases rx
 obtain⟨its,r',pl,hz⟩:=I.list hq
 have ei:=CT r'
 subst ei
 refine call_all_walk (PySem.wpAny_pyIter_list pl.isList ?_)
 have hh:X.A.in1.handled=none:=I.ok.hd hc
 have hlt:q<s.heap.objs.size:=by obtain⟨ob,hob,_⟩:=pl.isList;exact Heap.lt_size hob
 refine⟨_,_,_,_,_,_,λi=>bs.getD i true,rfl,Walks.list hh s.heap.objs.size q (Nat.ne_of_lt hlt) _,⟨⟨_,Heap.get?_push_size _ rfl,rfl,rfl⟩,pl.isList.push _⟩,λi v s' Q' E' hv hQ=>?_,λh' tk kp=>?_⟩
 .have hv:(bs.map Value.bool)[i]?=some v:=by simpa using hv
  rw[List.getElem?_map] at hv
  obtain⟨b,hb,rfl⟩:=Option.map_eq_some_iff.mp hv
  have hQ:Q' (bs.getD i true) s':=hQ
  rw[List.getD_eq_getElem?_getD,hb] at hQ
  exact wpAny_truthy_bool hQ
 .have es:(bs.map Value.bool).toArray.size=bs.length:=by simp
  rw[es,all_range]
  exact⟨.bl _,H,I.kept (t':=tk) λb ob hb=>kp b ob (by simp;exact Nat.ne_of_lt (Heap.lt_size hb)) (Heap.get?_push_of_some _ hb),rfl,k⟩
def qI:List D->Option (List Bool)
 | []=>some []
 | d::r=>match asB d,qI r with
  | some b,some bs=>some (b::bs)
  | _,_=>none
theorem aC.bools{K:Frag}{H:Hp}:∀{vs:List V}{ds:List D}{bs:List Bool},aC K Γ H vs ds->qI ds=some bs->vs=bs.map V.bl
 | _,_,_,.nil,e=>by simp only[qI] at e;cases e;rfl
 | _,_,_,.cons (d:=d) (ds:=ds) h r,e=>by
  simp only[qI] at e
  cases h1:asB d with
  | none=>rw[h1] at e;cases e
  | some b =>
   cases h2:qI ds with
   | none=>rw[h1,h2] at e;cases e
   | some bs =>
    rw[h1,h2] at e
    cases e
    rw[h.asB h1,r.bools h2];rfl
def allD(d:D):Option D:=(gY d).bind λds=>(qI ds).map λbs=>.bl (bs.all id)
theorem Rep.gY{K:Frag}{H:Hp}{v:V}{d:D}{ds:List D}(r:Rep K Γ H v d)(e:gY d=some ds):∃a vs,v=.ref a/\SqL K H a vs/\aC K Γ H vs ds:=by
 cases r <;> simp only[DL.gY] at e <;> cases e
 .exact⟨_,_,rfl,SqL.of ‹_›,‹_›⟩
 .exact⟨_,_,rfl,‹_›,‹_›⟩
theorem Nz(hc:X.calm=true)(hg:Gl X "all")(hm:X.mg "all"=none)(ha:DB X Γ E a fa)(hs:starEach [a] X.env=[(false,eval a X.env)]:=by rfl):DE X Γ E (.Call (.Name "all" p) [a] [] pos) (o1 allD fa) :=
 dC1 (λG H v dx d Q s r e k=>by
  unfold allD at e
  obtain⟨ds,e1,e2⟩:=Option.bind_eq_some_iff.mp e
  obtain⟨bs,e3,rfl⟩:=Option.map_eq_some_iff.mp e2
  obtain⟨q,vs,rfl,sq,ra⟩:=r.gY e1
  exact⟨q,bs,rfl,(ra.bools e3)▸sq,k _ G H (.refl s) (.bl _)⟩) (wW (Av hc) hg hm (by decide +kernel) (aU ha bD (by rw[hs];rfl)) (by decide) (by decide) (by rw[hs];rfl) (by rfl))
def Its(x:Str):It:=⟨λi _=>i<x.cps.size,λi H v H'=>H'=H/\∃c,x.cps[i]?=some c/\v=.str ⟨#[c]⟩,λi _=>x.cps.size<=i⟩
theorem CP{P:Program}{w:World}{K:Frag}{tg:Expr}(x:Str)(tk:Tok)(it:Addr):Turn P w K tg (Its x) [it] it (λi h=>h.IsStrIter it "str_ascii_iterator" x tk i) where
 mem:=by simp
 obj:=λi h st b hb=>by
  have z:b=it:=by simpa using hb
  subst z
  obtain⟨ob,e1,e2,e3⟩:=st
  exact⟨ob,e1,λv z=>by rw[e3] at z;cases z⟩
 keep:=λi h h' st kp=>by
  obtain⟨ob,e1,e2⟩:=st
  exact⟨ob,kp it (by simp) ob e1,e2⟩
 item:=by
  intro X hP hw hK hc i pins s σ H E I hf st hg
  subst hP hw hK
  obtain⟨f0,f1,f2,f3,f4,f5⟩:=hf it (by simp)
  have lt:i<x.cps.size:=hg
  have hx:x.cps[i]?=some x.cps[i]:=Array.getElem?_eq_getElem lt
  refine wpAny_pyNext_ascii_item st hx λh' st' sb=>?_
  have I1:Inv X pins σ H { s with heap:=h',toks:=s.toks+1 }:=I.turned (t':=s.toks+1) (λb ob hb q=>(sb.2 b hb).trans q) f0 f1 f3 f4 f5
  obtain⟨ob,e1,e2,e3⟩:=id st'
  exact⟨_,rfl,KQ (s:={ s with heap:=h',toks:=s.toks+1 }) e1 e2 e3 (by decide) ⟨.str ⟨#[x.cps[i]]⟩,H,I1,⟨_,rfl⟩,⟨rfl,_,hx,rfl⟩,st',λb hb=>(hf b hb).1⟩⟩
 done:=by
  intro X hP hw hK hc i pins s σ H E I hf st hg
  subst hP hw hK
  obtain⟨f0,f1,f2,f3,f4,f5⟩:=hf it (by simp)
  have hx:x.cps[i]?=none:=by
   have:x.cps.size<=i:=hg
   simp[this]
  exact wpAny_pyNext_ascii_end (I.ok.hd hc) st hx λh' eb=>⟨rfl,I.turned (t':=s.toks) (λb ob hb q=>eb b ob hb q) f0 f1 f3 f4 f5⟩
 self:=λ_ _ _ _ _ st h=>wpAny_pyIter_striter_ascii st h
theorem Eh{P:Program}{w:World}{K:Frag}{tg:Expr}(x:Str)(tk:Tok)(it:Addr):Turn P w K tg (Its x) [it] it (λi h=>h.IsStrIter it "str_iterator" x tk i) where
 mem:=by simp
 obj:=λi h st b hb=>by
  have z:b=it:=by simpa using hb
  subst z
  obtain⟨ob,e1,e2,e3⟩:=st
  exact⟨ob,e1,λv z=>by rw[e3] at z;cases z⟩
 keep:=λi h h' st kp=>by
  obtain⟨ob,e1,e2⟩:=st
  exact⟨ob,kp it (by simp) ob e1,e2⟩
 item:=by
  intro X hP hw hK hc i pins s σ H E I hf st hg
  subst hP hw hK
  obtain⟨f0,f1,f2,f3,f4,f5⟩:=hf it (by simp)
  have lt:i<x.cps.size:=hg
  have hx:x.cps[i]?=some x.cps[i]:=Array.getElem?_eq_getElem lt
  refine wpAny_pyNext_wide_item st hx λh' st' sb=>?_
  have I1:Inv X pins σ H { s with heap:=h',toks:=s.toks+1 }:=I.turned (t':=s.toks+1) (λb ob hb q=>(sb.2 b hb).trans q) f0 f1 f3 f4 f5
  obtain⟨ob,e1,e2,e3⟩:=id st'
  exact⟨_,rfl,KQ (s:={ s with heap:=h',toks:=s.toks+1 }) e1 e2 e3 (by decide) ⟨.str ⟨#[x.cps[i]]⟩,H,I1,⟨_,rfl⟩,⟨rfl,_,hx,rfl⟩,st',λb hb=>(hf b hb).1⟩⟩
 done:=by
  intro X hP hw hK hc i pins s σ H E I hf st hg
  subst hP hw hK
  obtain⟨f0,f1,f2,f3,f4,f5⟩:=hf it (by simp)
  have hx:x.cps[i]?=none:=by
   have:x.cps.size<=i:=hg
   simp[this]
  exact wpAny_pyNext_wide_end (I.ok.hd hc) st hx λh' eb=>⟨rfl,I.turned (t':=s.toks) (λb ob hb q=>eb b ob hb q) f0 f1 f3 f4 f5⟩
 self:=λ_ _ _ _ _ st h=>wpAny_pyIter_striter_wide st h
def iStr(tl:TE):TI:=λσ H R=>tl σ H λv H1=>∃x,v=.str x/\R (Its x) H1
theorem pi_str{tg l:Expr}{tl:TE}(hl:PE X l tl):PI X tg l (iStr tl):=by
 intro pins s σ H R I h
 refine thn (hl pins s σ H _ I h) λv s1 ⟨x,H1,I1,r1,q1⟩=>?_
 obtain⟨z,ez,q⟩:=q1
 subst ez
 obtain⟨tk,rfl⟩:=r1
 have fp:∀b∈[s1.heap.objs.size],xP X pins H1 b:=λb hb=>by
  have eb:b=s1.heap.objs.size:=by simpa using hb
  subst eb
  exact I1.fpOk (Nat.le_refl _) (I1.hok.fresh (Nat.le_refl _))
 cases ha:z.cps.all (·<128) with
 | true=>exact wpAny_pyIter_ascii ha ⟨s1.heap.objs.size,[s1.heap.objs.size],_,_,H1,rfl,I1.kept (t':=s1.toks) λb ob q=>Heap.get?_push_of_some _ q,CP z tk _,⟨_,Heap.get?_push_size _ rfl,rfl,rfl⟩,fp,q⟩
 | false=>exact wpAny_pyIter_wide ha ⟨s1.heap.objs.size,[s1.heap.objs.size],_,_,H1,rfl,I1.kept (t':=s1.toks) λb ob q=>Heap.get?_push_of_some _ q,Eh z tk _,⟨_,Heap.get?_push_size _ rfl,rfl,rfl⟩,fp,q⟩
def Cr(x:Str):List D:=x.cps.toList.map λc=>.str ⟨#[c]⟩
theorem yl_str{K:Frag}{G:Hp}{x:Str}:Yl K Γ G (Its x) (Cr x):=by
 have hl:(Cr x).length=x.cps.size:=by simp[Cr]
 refine⟨λi H s lt=>by rw[hl] at lt;exact lt,λi G' H v H' d s s' y ed=>?_,λi H s le=>by rw[hl] at le;exact le⟩
 obtain⟨rfl,ch,hx,rfl⟩:=y
 unfold Cr at ed
 rw[List.getElem?_map] at ed
 obtain⟨ch',e1,rfl⟩:=Option.map_eq_some_iff.mp ed
 have e2:x.cps.toList[i]?=some ch:=by simpa using hx
 rw[e1] at e2
 cases e2
 exact⟨G',.refl s',.str _⟩
def strO(f:DSt->Out D):DSt->Out (List D):=λδ=>(f δ).bind λd=>match d with
 | .str x=>.ok (Cr x)
 | _=>.stuck
theorem di_str{tg:Expr}(ha:DE X Γ E a fa):DI X Γ E tg a (strO fa):=PI.imp (pi_str ha) λσ H R ⟨G0,H0,G,δ,S,w⟩=>by
 refine⟨G0,H0,G,δ,S,(ao w).mono (λd w v G1 H1 s1 r1=>?_) λ_ k=>k⟩
 split at w
 .cases r1;exact⟨_,rfl,w _ G1 H1 s1 yl_str⟩
 .exact False.elim w
def rSlS:V->Option Int->Option Int->Hp->VK->Prop:=λx lo hi H Q=>∃z,x=.str z/\z.length<=sizeLine/\Q (.str (Txt.slice z lo hi)) H
theorem sl_str:SlR X rSlS:=by
 intro pins s σ H x v vl vu lo hi sl Q I rx hs pl pu h
 obtain⟨z,rfl,hz,q⟩:=h
 obtain⟨t,rfl⟩:=rx
 obtain⟨ob,h1,h2,h3⟩:=hs
 refine⟨"str",_,PySem.F.slot_str_getitem.lookup,typeIs_str _ _ _,?_⟩
 have fin:∀t' k,EP X pins σ Q (.str (Txt.slice z lo hi) t') { s with toks:=k }:=λt' k=>⟨.str _,H,I.tok k,⟨_,rfl⟩,q⟩
 cases pl with
 | none =>
  cases pu with
  | none=>exact wpAny_getItem_str_slice (l:=none) (u:=none) (st:=none) ⟨ob,h1,h2,h3⟩ rfl (post_val_or_str ⟨Nat.le_trans (Txt.slice_le z _ _) hz,λt' k=>fin t' k⟩)
  | int j u=>exact wpAny_getItem_str_slice (l:=none) (u:=some (j,u)) (st:=none) ⟨ob,h1,h2,h3⟩ rfl (post_val_or_str ⟨Nat.le_trans (Txt.slice_le z _ _) hz,λt' k=>fin t' k⟩)
 | int i u' =>
  cases pu with
  | none=>exact wpAny_getItem_str_slice (l:=some (i,u')) (u:=none) (st:=none) ⟨ob,h1,h2,h3⟩ rfl (post_val_or_str ⟨Nat.le_trans (Txt.slice_le z _ _) hz,λt' k=>fin t' k⟩)
  | int j u=>exact wpAny_getItem_str_slice (l:=some (i,u')) (u:=some (j,u)) (st:=none) ⟨ob,h1,h2,h3⟩ rfl (post_val_or_str ⟨Nat.le_trans (Txt.slice_le z _ _) hz,λt' k=>fin t' k⟩)
def toD(K:Frag)(Γ:Nat->Option Addr)(E:XK)(f:DSt->Out (Option Int)):TO:=λσ H Q=>∃G0 H0 G δ,SR K Γ G0 H0 G H σ δ/\wpO (f δ) (λb=>∀G' H',Step G H G' H'->Q b H') (exD K Γ E G H)
abbrev DO(X:Cx)(Γ:Nat->Option Addr)(E:XK)(lo:Option Expr)(f:DSt->Out (Option Int)):Prop:=PO X lo (toD X.K Γ E f)
theorem PO.imp{lo:Option Expr}{t t':TO}(h:PO X lo t)(k:∀σ H Q,t' σ H Q->t σ H Q):PO X lo t':=λpins s σ H Q I q=>h pins s σ H Q I (k _ _ _ q)
def noI:DSt->Out (Option Int):=λ_=>.ok none
def soI(f:DSt->Out D):DSt->Out (Option Int):=λδ=>(f δ).bind λd=>match d with
 | .int i=>.ok (some i)
 | _=>.stuck
theorem iG:DO X Γ E none noI:=PO.imp po_none λσ H Q ⟨G0,H0,G,δ,S,w⟩=>w G H (.refl S.st.gh)
theorem iH(h:DE X Γ E e fa):DO X Γ E (some e) (soI fa):=PO.imp (po_some h) λσ H Q ⟨G0,H0,G,δ,S,w⟩=>by
 refine⟨G0,H0,G,δ,S,(ao w).mono (λd w v G1 H1 s1 r1=>?_) λ_ k=>k⟩
 split at w
 .cases r1;exact⟨_,rfl,w G1 H1 s1⟩
 .exact False.elim w
def vU(xs:List D)(lo hi:Option Int):List D:=List.take (HT.sIx xs.length xs.length hi - HT.sIx xs.length 0 lo) (List.drop (HT.sIx xs.length 0 lo) xs)
def cutD:D->Option Int->Option Int->Option D
 | .str z,lo,hi=>if z.length<=sizeLine then some (.str (Txt.slice z lo hi)) else none
 | .lst xs,lo,hi=>some (.lst (vU xs lo hi))
 | .rol xs,lo,hi=>some (.lst (vU xs lo hi))
 | _,_,_=>none
def oSl(fa:DSt->Out D)(fl fh:DSt->Out (Option Int)):DSt->Out D:=λδ=>(fa δ).bind λx=>(fl δ).bind λl=>(fh δ).bind λh=>.opt (cutD x l h)
theorem aC.cut{K:Frag}{H:Hp}{vs:List V}{ds:List D}(r:aC K Γ H vs ds)(lo hi:Option Int):aC K Γ H (cutV vs lo hi) (vU ds lo hi):=by
 unfold cutV vU
 rw[r.length]
 exact(r.drop _).take _
theorem fu{lo hi:Option Expr}{p2:Pos}{fl fh:DSt->Out (Option Int)}(he:DE X Γ E e fa)(hl:DO X Γ E lo fl)(hu:DO X Γ E hi fh):DE X Γ E (.Subscript e (.Slice lo hi none p2) pos) (oSl fa fl fh):=PE.imp (pe_slice (sl_str.or sl_list) he hl hu) λσ H Q ⟨G0,H0,G,δ,S,w⟩=>by
 refine⟨G0,H0,G,δ,S,(ao w).mono (λx w v G1 H1 s1 r1=>?_) λ_ k=>k⟩
 refine⟨G0,H0,G1,δ,S.step s1,(ao w).mono (λl w G2 H2 s2=>?_) λ_ k=>k.step s1⟩
 refine⟨G0,H0,G2,δ,(S.step s1).step s2,(ao w).mono (λh w G3 H3 s3=>?_) λ_ k=>k.step (s1.trans s2)⟩
 obtain⟨d,e,k⟩:=bh w
 have r3:=(r1.mono s2.gg).mono s3.gg
 have k3:=k.step ((s1.trans s2).trans s3)
 unfold cutD at e
 split at e
 .split at e
  .cases e;cases r1;exact .inl ⟨_,rfl,‹_›,k3 _ G3 H3 (.refl s3.gh) (.str _)⟩
  .cases e
 .cases e
  cases r3 with
  | lst h r=>exact .inr ⟨_,_,rfl,SqL.of (s3.gh _ _ h),λq hq=>k3 _ _ _ (.new s3.gh hq) (.lst aO ((r.cut _ _).mono (aQ.up (aD s3.gh hq))))⟩
 .cases e
  cases r3 with
  | rol h r=>exact .inr ⟨_,_,rfl,s3.gh.seq h,λq hq=>k3 _ _ _ (.new s3.gh hq) (.lst aO ((r.cut _ _).mono (aQ.up (aD s3.gh hq))))⟩
 .cases e
theorem Qs:∀{ss:List Str}{us:List Value},Vals (ss.map V.str) us->StrsAre us ss
 | [],_,r=>by cases r;exact .nil
 | x::ss,_,r=>by
  cases r with
  | cons r1 r2=>obtain⟨t,rfl⟩:=r1;exact .cons x t (Qs r2)
def rJoin(K:Frag):V->List V->Hp->VK->Prop:=λx vs H Q=>∃(z:Str)(q:Addr)(ss:List Str),x=.str z/\vs=[.ref q]/\SqL K H q (ss.map V.str)/\(ss.map (·.length)).sum+ss.length*z.length<=16777216/\Q (.str (Txt.join z ss)) H
theorem lR:MtR X "str.join" (rJoin X.K):=by
 intro pins s σ H x vs v us Q I rx rv h
 obtain⟨z,q,ss,rfl,rfl,hq,hz,k⟩:=h
 obtain⟨t,rfl⟩:=rx
 obtain⟨u,rfl,ru⟩:=rv.one
 cases ru
 obtain⟨its,r',pl,_⟩:=I.list hq
 exact join_list pl.isList (by simpa using Qs r') hz λt' tk=>⟨.str _,H,I.tok tk,⟨_,rfl⟩,k⟩
def m5:List D->Option (List Str)
 | []=>some []
 | .str x::r=>(m5 r).map (x::·)
 | _=>none
theorem aC.strs{K:Frag}{H:Hp}:∀{vs:List V}{ds:List D}{ss:List Str},aC K Γ H vs ds->m5 ds=some ss->vs=ss.map V.str
 | _,_,_,.nil,e=>by simp only[m5] at e;cases e;rfl
 | _,_,_,.cons (d:=d) (ds:=ds) h r,e=>by
  unfold m5 at e
  split at e
  .rename_i z;cases z
  .rename_i z
   cases z
   obtain⟨q,e1,rfl⟩:=Option.map_eq_some_iff.mp e
   cases h
   rw[aC.strs r e1];rfl
  .cases e
def jr(z:Str)(d:D):Option D:=(gY d).bind λds=>(m5 ds).bind λss=>if (ss.map (·.length)).sum+ss.length*z.length<=16777216 then some (.str (Txt.join z ss)) else none
def rZ(fo fa:DSt->Out D):DSt->Out D:=λδ=>(fo δ).bind λd=>match d with
 | .str z=>(fa δ).bind λy=>.opt (jr z y)
 | _=>.stuck
theorem lK{m:Str}{apos cpos:Pos}(ho:DE X Γ E o fo)(ha:DE X Γ E a fa)(hh:∀{to te:TE},PE X o to->PE X a te->PE X (.Call (.Attribute o m apos) [a] [] cpos) (tBM X.K "str" (rJoin X.K) to (je te m6))):DE X Γ E (.Call (.Attribute o m apos) [a] [] cpos) (rZ fo fa):=PE.imp (hh ho ha) λσ H Q ⟨G0,H0,G,δ,S,w⟩=>by
 refine⟨G0,H0,G,δ,S,(ao w).mono (λd w v G1 H1 s1 r1=>?_) λ_ k=>k⟩
 split at w
 .rename_i z
  cases r1
  refine⟨rfl,G0,H0,G1,δ,S.step s1,(ao w).mono (λy w u G2 H2 s2 r2=>?_) λ_ k=>k.step s1⟩
  obtain⟨r,e,k⟩:=bh w
  unfold jr at e
  obtain⟨ds,e1,e2⟩:=Option.bind_eq_some_iff.mp e
  obtain⟨ss,e3,e4⟩:=Option.bind_eq_some_iff.mp e2
  split at e4
  .cases e4
   obtain⟨q,vs,rfl,sq,ra⟩:=r2.gY e1
   exact⟨z,q,ss,rfl,rfl,(ra.strs e3)▸s2.gh.seq sq,‹_›,k _ G2 H2 (s1.trans s2) (.str _)⟩
  .cases e4
 .exact False.elim w
def jk:List Str->List Str->List Str
 | acc,[]=>acc
 | acc,x::r=>jk (if acc.contains x then acc else acc++[x]) r
end
end DL
namespace DL
open PySem PySem.Spec PyProof.Rows MX L2
theorem yw:∀(l acc:List Str)(x:Str),jk acc (l++[x])=if (jk acc l).contains x then jk acc l else jk acc l++[x]
 | [],acc,x=>rfl
 | y::l,acc,x=>by simp only[List.cons_append,jk];exact yw l _ x
theorem BR:∀(l acc:List Str),(jk acc l).length<=acc.length+l.length
 | [],acc=>Nat.le_refl _
 | y::l,acc=>by
  simp only[jk,List.length_cons]
  have h1:=BR l (if acc.contains y then acc else acc++[y])
  have h2:(if acc.contains y=true then acc else acc++[y]).length<=acc.length+1:=by split <;> simp
  omega
theorem vf:∀(l acc:List Str),(acc++l).Nodup->jk acc l=acc++l
 | [],acc,_=>by simp[jk]
 | y::l,acc,h=>by
  have hy:y∉acc:=λz=>by
   have:=(List.nodup_append.mp h).2.2 y z y List.mem_cons_self
   exact this rfl
  simp only[jk]
  rw[if_neg (by simpa using hy),vf l (acc++[y]) (by simpa using h)]
  simp
section
variable{prog:Program}{w:World}{A:Around}{E:Value->Shared->Prop}{R:Result->Shared->Prop}
theorem isS(x:Str)(t:Tok):(PySem.strKind prog w).is x (.str x t)=true:=strKind_is prog w x t
theorem Mh{h h':Heap}{a:Addr}{S:Str->Bool}{n:Nat}(x:h.SetOf (PySem.strKind prog w) a S n)(k:∀o,h.get? a=some o->h'.get? a=some o):h'.SetOf (PySem.strKind prog w) a S n:=by
 obtain⟨o,es,ep,tb,ho,z⟩:=x
 exact⟨o,es,ep,tb,k o ho,z⟩
theorem Mi{h:Heap}{a:Addr}{S S':Str->Bool}{n n':Nat}(x:h.SetOf (PySem.strKind prog w) a S n)(e:S=S')(en:n=n'):h.SetOf (PySem.strKind prog w) a S' n':=by subst e en;exact x
theorem set_loop{I l S:Addr}{items:Array Value}{ss:List Str}(hi:items.toList.length=ss.length)(hv:∀(i:Nat) v,items[i]?=some v->∃x t,ss[i]?=some x/\v=.str x t)(W:Walks prog w A.in1 I [I,l] [I] items.size (λi v=>items[i]?=some v) (λi h=>h.IsListIter I l i/\h.IsList l items))
  (nI:S≠I) (nl:S≠l) (few:ss.length+1<scanBound):∀(k i:Nat)(s:Shared),items.size - i=k->i<=items.size->(s.heap.IsListIter I l i/\s.heap.IsList l items) ->
   s.heap.SetOf (PySem.strKind prog w) S (λx=>(jk [] (ss.take i)).contains x) (jk [] (ss.take i)).length ->
   (∀h' tk,(∀b o,b≠S->b≠I->s.heap.get? b=some o->h'.get? b=some o)->h'.SetOf (PySem.strKind prog w) S (λx=>(jk [] ss).contains x) (jk [] ss).length->R (.ok (.ret .none)) { s with heap:=h',toks:=tk }) ->
   codeAny (model prog w) A (.builtin "set.update.loop" ⟨[.ref S,.ref I],[]⟩) R s:=by
 have hsz:items.size=ss.length:=by simpa using hi
 intro k
 induction k with
 | zero =>
  intro i s ek le st hS q
  obtain rfl:i=items.size:=by omega
  refine codeAny_builtin PyProof.Rows.F.entry_set_update_loop ?_
  rw[Around.under_plainId PyProof.Rows.F.plain_set_update_loop _]
  show wpAny _ A.in1 (pyNext (.ref I) >>= _) _ _ s
  refine wpAny_bind (W.done s _ _ st λh' tk kp=>wpAny_pure (q h' tk (λb o h1 h2 z=>kp b o (by simpa using h2) z) ?_))
  have z:=Mh hS λo ho=>kp S o (by simpa using nI) ho
  rwa [hsz,List.take_length] at z
 | succ k ih =>
  intro i s ek le st hS q
  have lt:i<items.size:=by omega
  refine codeAny_builtin PyProof.Rows.F.entry_set_update_loop ?_
  rw[Around.under_plainId PyProof.Rows.F.plain_set_update_loop _]
  show wpAny _ A.in1 (pyNext (.ref I) >>= _) _ _ s
  refine wpAny_bind (W.item i s _ _ lt st λv h1 tk1 pv st1 kp1=>?_)
  obtain⟨x,t,hx,rfl⟩:=hv i v pv
  have hS1:=Mh (h':=h1) hS λo ho=>kp1 S o (by simpa using nI) ho
  show wpAny _ A.in1 (holding [Value.str x t] (setAdd S (.str x t)) >>= _) _ _ _
  refine wpAny_bind (wpAny_holding ?_)
  unfold setAdd
  refine wpAny_holding (wpAny_bind ((PySem.strKind prog w).pyHash (k:=x) (isS x t) ?_))
  have nl2:=BR (ss.take i) []
  have tl:(ss.take i).length<=ss.length:=List.length_take_le' i ss
  refine wpAny_setAddHashed_of (knd:=PySem.strKind prog w) (k:=x) (isS x t) rfl hS1 (by simp at nl2;omega) λh2 sb hS2=>?_
  have tk2:ss.take (i+1)=ss.take i++[x]:=by
   obtain⟨hl,e⟩:=List.getElem?_eq_some_iff.mp hx
   rw[List.take_succ,hx];rfl
  have hS3:h2.SetOf (PySem.strKind prog w) S (λx=>(jk [] (ss.take (i+1))).contains x) (jk [] (ss.take (i+1))).length:=by
   refine Mi hS2 (funext λy=>?_) ?_
   .rw[tk2,yw]
    by_cases c:(jk [] (ss.take i)).contains x=true
    .rw[if_pos c]
     by_cases e:y=x
     .subst e;simp only[c,Bool.true_or]
     .simp[e]
    .rw[if_neg c]
     simp
   .rw[tk2,yw]
    by_cases c:(jk [] (ss.take i)).contains x=true
    .rw[if_pos c,if_pos c]
    .rw[if_neg c,if_neg c];simp
  refine wpAny_pure ⟨plainId_quiet PyProof.Rows.F.plain_set_update_loop _,ih (i+1) _ (by omega) lt ?_ hS3 λh3 tk3 kp3 z=>q h3 tk3 (λb o b1 b2 y=>kp3 b o b1 b2 ((sb.2 b b1).trans (kp1 b o (by simpa using b2) y))) z⟩
  refine W.frame _ _ _ st1 λb hb o y=>?_
  have bS:b≠S:=λz=>by
   subst z
   rcases List.mem_cons.mp hb with z | z
   .exact nI z
   .exact nl (by simpa using z)
  exact(sb.2 b bS).trans y
set_option maxHeartbeats 4000000 in
theorem Do{s:Shared}{l:Addr}{items:Array Value}{ss:List Str}{Q:Value->Shared->Prop}(hh:A.handled=none)(hl:s.heap.IsList l items)(hi:items.toList.length=ss.length)(hv:∀(i:Nat) v,items[i]?=some v->∃x t,ss[i]?=some x/\v=.str x t)(few:ss.length+1<scanBound)
  (q:∀(h':Heap)(tk:Nat),h'.SetOf (PySem.strKind prog w) s.heap.objs.size (λx=>(jk [] ss).contains x) (jk [] ss).length->(∀b o,s.heap.get? b=some o->h'.get? b=some o)->Q (.ref s.heap.objs.size) { s with heap:=h',toks:=tk }) :
  wpAny (model prog w) A (call (.type "set") [.ref l]) Q E s:=by
 obtain⟨c0,tl0,mro0⟩:=PySem.F.called_set.mro
 have made0:=PySem.F.called_set.made
 have sub0:=PySem.F.called_set.sub
 have nt0:=PySem.F.called_set.notType
 have cc0:=PySem.F.called_set.canCreate
 have tc0:=PySem.F.typeCall_set_1 (.ref l)
 refine wpAny_call (codeAny_of_tree ?_)
 show wpAny _ _ (callAny (.type "set") _) _ _ _
 refine wpAny_pure ⟨Code.quiet_builtin _ (by decide +kernel),codeAny_builtin PySem.F.entry_type_call ?_⟩
 rw[Around.under_plain (weight_type_call_type "set" [.ref l] []) rfl]
 repeat (any_goals (first | assumption | wp_step))
 refine codeAny_mono (code_set_new_1 (.ref l) (E:=E) (Q₁:=λob s1=>∃led:Bool,ob=.ref s.heap.objs.size/\s1={ s with heap:=s.heap.push { cls:=.type "set",dict:=none,data:=.set #[] 0 (.fresh 0 0 led) } }) λled=>⟨led,rfl,rfl⟩) λr1 s1 z1=>?_
 cases r1 with
 | error e=>exact z1
 | ok fl1 =>
  cases fl1 with
  | ret ob1 =>
   obtain⟨led,rfl,rfl⟩:=z1
   have hS:=Heap.get?_push_size s.heap (o:={ cls:=.type "set",dict:=none,data:=.set #[] 0 (.fresh 0 0 led) }) rfl
   have hT:Shared.TypeIs { s with heap:=s.heap.push { cls:=.type "set",dict:=none,data:=.set #[] 0 (.fresh 0 0 led) } } (.ref s.heap.objs.size) "set":=⟨_,hS,rfl⟩
   have il0:=PySem.F.called_set.init.lookup
   have ib0:=PySem.F.called_set.init.bind (.ref s.heap.objs.size)
   repeat (any_goals (first | assumption | wp_step))
   refine codeAny_mono (codeAny_call_builtin (R:=wants (λr2 s2=>r2=.none/\∃h' tk,s2={ s with heap:=h',toks:=tk }/\h'.SetOf (PySem.strKind prog w) s.heap.objs.size (λx=>(jk [] ss).contains x) (jk [] ss).length/\(∀b o,s.heap.get? b=some o->h'.get? b=some o)) E)
    PySem.F.called_set.init.plain PySem.F.entry_set_init (check_set_init_1 hT ?_)) λr2 s2 z2=>?_
   .obtain⟨⟨cl,dl,dt,sl⟩,hol,hc1,nn,hd1⟩:=hl
    dsimp only at hc1 hd1
    subst hc1
    subst hd1
    have hol1:=Heap.get?_push_of_some (h:=s.heap) { cls:=.type "set",dict:=none,data:=.set #[] 0 (.fresh 0 0 led) } hol
    have sls:=PySem.F.sub_list_set
    have slf:=PySem.F.sub_list_frozenset
    have nld:(Value.type "list"==Value.type "dict")=false:=by decide
    have hl1:(s.heap.push { cls:=.type "set",dict:=none,data:=.set #[] 0 (.fresh 0 0 led) }).IsList l items:=⟨_,hol1,rfl,nn,rfl⟩
    unfold Builtin.«set.__init__» noKeywords Builtin.Frozenset.updateFrom
    generalize hPI:pyIter=PI
    wp_walk
    subst hPI
    refine wpAny_pyIter_list hl1 (wpAny_bind (wpAny_runValue ?_))
    have lS:l<s.heap.objs.size:=Heap.lt_size hol
    have h3:A.in1.in1.in1.handled=none:=by simp[hh]
    have sz1:(s.heap.push { cls:=.type "set",dict:=none,data:=.set #[] 0 (.fresh 0 0 led) }).objs.size=s.heap.objs.size+1:=Heap.size_push ..
    have nel:l≠(s.heap.push { cls:=.type "set",dict:=none,data:=.set #[] 0 (.fresh 0 0 led) }).objs.size:=by rw[sz1];exact Nat.ne_of_lt (Nat.lt_succ_of_lt lS)
    refine set_loop hi hv (Walks.list h3 _ l nel items) (by rw[sz1];exact Nat.ne_of_lt (Nat.lt_succ_self _)) (Nat.ne_of_gt lS) few (items.size - 0) 0 _ rfl (Nat.zero_le _) ⟨⟨_,Heap.get?_push_size _ rfl,rfl,rfl⟩,hl1.push _⟩ ?_ λh' tk kp z=>?_
    .exact Mi ((PyProof.Rows.setObjOf_fresh (knd:=PySem.strKind prog w) led).setOf (Heap.get?_push_of_some _ hS) (by decide)) rfl rfl
    .refine wpAny_pure (wpAny_pure ⟨rfl,h',tk,rfl,z,λb o y=>?_⟩)
     have blt:=Heap.lt_size y
     exact kp b o (Nat.ne_of_lt blt) (by rw[sz1];exact Nat.ne_of_lt (Nat.lt_succ_of_lt blt)) (Heap.get?_push_of_some _ (Heap.get?_push_of_some _ y))
   .cases r2 with
    | error e=>exact z2
    | ok fl2 =>
     cases fl2 with
     | ret r =>
      obtain⟨rfl,h',tk,rfl,zS,kp⟩:=z2
      repeat (any_goals (first | assumption | wp_step))
      exact q _ _ zS kp
     | _=>exact z2.elim
  | _=>exact z1.elim
end
def sstP(n:Nat)(a:Addr)(h:Heap):Prop:=∃o es ep tb,h.get? a=some o/\o.ExactSet/\o.data=.set es ep tb/\tb.fits es.size=true/\es.size=n
section
variable{X:Cx}{Γ:Nat->Option Addr}{E:XK}{e a b c o:Expr}{pos apos p p2 pos2:Pos}{fa:DSt->Out D}
theorem sst_ok{P:Program}{w:World}{H:Hp}{h:Heap}{n:Nat}{a:Addr}(x:sstP n a h):cL P w H h a (.ext (sstP n a)):=by
 refine⟨x,?_,λh1 h2 y k=>?_⟩
 .obtain⟨o,_,_,_,q,_⟩:=x
  exact⟨o,q⟩
 .obtain⟨o,es,ep,tb,q,r⟩:=y
  exact⟨o,es,ep,tb,k o q,r⟩
theorem Ny(hc:X.calm=true):jo X (.type "set") (λxs H Q=>∃(q:Addr)(ss:List Str),xs=[.ref q]/\SqL X.K H q (ss.map V.str)/\ss.length<=1000/\∀z,H z=none->Q (.ref z) (upd H z (.ext (sstP (jk [] ss).length z)))):=by
 intro pins s σ H xs us Q I r h
 obtain⟨q,ss,rfl,hq,hz,k⟩:=h
 obtain⟨u,rfl,rx⟩:=vals1 r
 cases rx
 obtain⟨its,r',pl,_⟩:=I.list hq
 have hl:=r'.length
 rw[List.length_map] at hl
 refine Do (ss:=ss) (I.ok.hd hc) pl.isList (by simpa using hl.symm) (λi v hv=>?_) (by unfold scanBound;omega) λh' tk hS kp=>?_
 .have hv:its[i]?=some v:=by simpa using hv
  have lt:i<its.length:=(List.getElem?_eq_some_iff.mp hv).1
  have:(ss.map V.str)[i]?=some (V.str ss[i]):=by rw[List.getElem?_map,List.getElem?_eq_getElem (by omega)];rfl
  obtain⟨u,hu,ru⟩:=r'.get this
  rw[hv] at hu
  cases hu
  obtain⟨t,rfl⟩:=ru
  exact⟨_,t,List.getElem?_eq_getElem (by omega),rfl⟩
 .obtain⟨ob,es,ep,tb,h1,h2,h3,_,_,_,h4,h5⟩:=hS
  exact⟨.ref s.heap.objs.size,_,I.laid (t':=tk) kp (Nat.le_refl _) (sst_ok ⟨ob,es,ep,tb,h1,h2,h3,h4,h5⟩),rfl,k _ (I.hok.fresh (Nat.le_refl _))⟩
theorem Nx:jo X (.builtin "len") (λxs H Q=>∃(z:Addr)(n:Nat),xs=[.ref z]/\H z=some (.ext (sstP n z))/\n<=1000/\Q (.int n) H):=by
 intro pins s σ H xs us Q I r h
 obtain⟨z,n,rfl,hz,hn,k⟩:=h
 obtain⟨u,rfl,rx⟩:=vals1 r
 cases rx
 obtain⟨⟨ob,es,ep,tb,h1,h2,h3,h4,h5⟩,_,_⟩:=I.hok z _ hz
 refine call_len_set h1 h2 h3 h4 (by omega) ⟨.int n,H,I.tok _,⟨s.toks+1,by rw[h5]⟩,k⟩
def uX:D->Option D:=λd=>(gY d).bind λds=>(m5 ds).bind λss=>if ss.length<=1000 then some (.int (jk [] ss).length) else none
theorem QL(hc:X.calm=true)(hg:Gl X "len")(hm:X.mg "len"=none)(hg2:Gl X "set")(hm2:X.mg "set"=none)(ha:DE X Γ E a fa)(hs:starEach [a] X.env=[(false,eval a X.env)]:=by rfl)(hs2:starEach [.Call (.Name "set" p2) [a] [] pos2] X.env=[(false,eval (.Call (.Name "set" p2) [a] [] pos2) X.env)]:=by rfl):
  DE X Γ E (.Call (.Name "len" p) [.Call (.Name "set" p2) [a] [] pos2] [] pos) (o1 uX fa) :=
 PE.imp (wW Nx hg hm PySem.boot_len (aU (jC (Ny hc) hg2 hm2 (by decide +kernel) (aU ha bD (by rw[hs];rfl)) (by decide) (by decide) (by rw[hs];rfl) (by rfl)) bD (by rw[hs2];rfl)) (by decide) (by decide) (by rw[hs2];rfl) (by rfl)) λσ H Q ⟨G0,H0,G,δ,S,w⟩=>by
  refine⟨G0,H0,G,δ,S,(ao w).mono (λd w v G1 H1 s1 r1=>?_) λ_ k=>k⟩
  obtain⟨r,e,k⟩:=bh w
  unfold uX at e
  obtain⟨ds,e1,e2⟩:=Option.bind_eq_some_iff.mp e
  obtain⟨ss,e3,e4⟩:=Option.bind_eq_some_iff.mp e2
  split at e4
  .rename_i hz
   cases e4
   obtain⟨q,vs,rfl,sq,ra⟩:=r1.gY e1
   have ev:=ra.strs e3
   subst ev
   have hn:=BR ss []
   exact⟨q,ss,rfl,s1.gh.seq sq,hz,λz hz0=>⟨z,_,rfl,aO,by simp at hn;omega,k _ G1 _ (s1.trans (.aside s1.gh hz0)) (.int _)⟩⟩
  .cases e4
end
end DL
namespace DL
open PySem PySem.Spec PyProof.Rows MX L2
section
variable{K:Frag}{Γ:Nat->Option Addr}{G1 G2:Hp}
end
section
variable{K:Frag}{Γ:Nat->Option Addr}{G0 H0 G H:Hp}{σ:L2.St}{δ:DSt}
end
section
variable{X:Cx}{Γ:Nat->Option Addr}{E:XK}{e:Expr}
end
end DL
namespace DL
open PySem PySem.Spec PyProof.Rows MX L2
def BJ:D->Option Key
 | .int i=>some (.inl i)
 | .str x=>some (.inr x)
 | _=>none
def Bv(kvs:List (Key×D))(k:Key):Bool:=kvs.any λkv=>decide (kv.1=k)
def Fy(kvs:List (Key×D))(k:Key)(v:D):List (Key×D) :=
 if (kvs.any λkv=>decide (kv.1=k))=true then kvs.map (λkv=>if kv.1=k then (kv.1,v) else kv) else kvs++[(k,v)]
section
variable{X:Cx}{Γ:Nat->Option Addr}{E:XK}{e a b c:Expr}{pos:Pos}{es:List Expr}{fa fb:DSt->Out D}{fr:DSt->Out (List D)}{ft:DSt->Out Bool}{K:Frag}{G H:Hp}
theorem Rep.key{v:V}{d:D}{k:Key}(r:Rep K Γ G v d)(e:BJ d=some k):v=kV k:=by
 cases r <;> simp only[BJ] at e <;> cases e <;> rfl
theorem dG.any{k:Key}:∀{kvs:List (Key×V)}{kds:List (Key×D)},dG K Γ G kvs kds->(kvs.any λkv=>decide (kv.1=k))=(kds.any λkv=>decide (kv.1=k))
 | _,_,.nil=>rfl
 | _,_,.cons h r=>by rw[List.any_cons,List.any_cons,r.any]
theorem dG.snoc{k:Key}{v:V}{d:D}(h:Rep K Γ G v d):∀{kvs:List (Key×V)}{kds:List (Key×D)},dG K Γ G kvs kds->dG K Γ G (kvs++[(k,v)]) (kds++[(k,d)])
 | _,_,.nil=>.cons h .nil
 | _,_,.cons h' r=>.cons h' (r.snoc h)
theorem dG.repl{k:Key}{v:V}{d:D}(h:Rep K Γ G v d):∀{kvs:List (Key×V)}{kds:List (Key×D)},dG K Γ G kvs kds->dG K Γ G (kvs.map λkv=>if kv.1=k then (kv.1,v) else kv) (kds.map λkv=>if kv.1=k then (kv.1,d) else kv)
 | _,_,.nil=>.nil
 | _,_,.cons (k:=k') h' r=>by
  rw[List.map_cons,List.map_cons]
  by_cases z:k'=k
  .simp only[z,if_true];exact .cons h (r.repl h)
  .simp only[z,if_false];exact .cons h' (r.repl h)
theorem dG.put{k:Key}{v:V}{d:D}(h:Rep K Γ G v d){kvs:List (Key×V)}{kds:List (Key×D)}(r:dG K Γ G kvs kds):dG K Γ G (putK kvs k v) (Fy kds k d):=by
 unfold putK Fy
 rw[r.any]
 split
 .exact r.repl h
 .exact r.snoc h
theorem dG.length:∀{kvs:List (Key×V)}{kds:List (Key×D)},dG K Γ G kvs kds->kvs.length=kds.length
 | _,_,.nil=>rfl
 | _,_,.cons _ r=>by rw[List.length_cons,List.length_cons,r.length]
theorem SR.setd{G0 H0 G' H':Hp}{σ:L2.St}{δ:DSt}(S:SR K Γ G0 H0 G H σ δ)(s:Step G H G' H'){i:Nat}{a:Addr}{vs:List (Key×V)}{ds:List (Key×D)}(f:H a=none)(h:H' a=some (.dK vs))(g:G' a=none)(r:dG K Γ G' vs ds):
  SR K Γ G0 H0 G' H' (σ.set i (some (.ref a))) (δ.set i (some (.od ds))):=by
 obtain⟨O,q⟩:=id S.sl
 have S':=S.step s
 have k:∀b,H b≠none->(λb=>if b=a then some i else O b) b=O b:=λb hb=>by
  have:b≠a:=λz=>hb (z▸f)
  simp[this]
 refine⟨S'.st,by rw[List.length_set,List.length_set];exact S.len,Slots.put S.len (O:=λb=>if b=a then some i else O b) (λj x e ij=>?_) ⟨a,vs,rfl,h,g,aD S.st.hh f,by simp,r⟩⟩
 obtain⟨v,h1,h2⟩:=q j x e
 exact⟨v,h1,(h2.reO k).step s⟩
def OJ(i:Nat):DSt->Out Fl:=λδ=>.ok (.nx (δ.set i (some (.od []))))
theorem ds_setd0(i:Nat){x:Str}{pos' p:Pos}(hh:∀{te:TE},PE X (.Dict [] [] p) te->PS X (.Assign [.Name x pos'] (.Dict [] [] p) pos) (tAsg te (wC i))):DS X Γ E (.Assign [.Name x pos'] (.Dict [] [] p) pos) (OJ i) :=
 PS.imp (hh pe_dnewK) λN σ H ⟨G0,H0,G,δ,S,w⟩=>λq hq=>w _ G _ (S.setd (.aside S.st.gh hq) hq aO (aD S.st.gh hq) .nil)
theorem dG.has{k:Key}{kvs:List (Key×V)}{kds:List (Key×D)}(r:dG K Γ G kvs kds):(kY kvs k).isSome=Bv kds k:=by
 unfold Bv
 rw[←MK,r.any]
end
end DL
namespace DL
open PySem PySem.Spec PyProof.Rows MX L2
theorem Cd{X:Cx}{E:XK}:lZ CX0 X E:=λ_ _ _ _ _ _ _ h=>h.elim
def dkOf(i:Nat)(δ:DSt):Option (List (Key×D)):=match δ[i]? with
 | some (some (.od kvs))=>some kvs
 | some (some (.sh (.dK kvs)))=>some kvs
 | _=>none
def uW(kvs:List (Key×D))(k:Key):Option D:=(kvs.find? λkv=>decide (kv.1=k)).map (·.2)
section
variable{X:Cx}{Γ:Nat->Option Addr}{E:XK}{e a b c:Expr}{pos:Pos}{es:List Expr}{fa fb:DSt->Out D}{fr:DSt->Out (List D)}{ft:DSt->Out Bool}{K:Frag}{G H:Hp}
theorem dG.get{k:Key}:∀{kvs:List (Key×V)}{kds:List (Key×D)},dG K Γ G kvs kds->(kY kvs k=none/\uW kds k=none)∨∃v d,kY kvs k=some v/\uW kds k=some d/\Rep K Γ G v d
 | _,_,.nil=>.inl ⟨rfl,rfl⟩
 | _,_,.cons (k:=k') (v:=v) (d:=d) (fds:=fds) h r=>by
  by_cases z:k'=k
  .exact .inr ⟨v,d,xx z,by simp[uW,List.find?_cons,z],h⟩
  .rw[xu (p:=(k',v)) z,show uW ((k',d)::fds) k=uW fds k by simp[uW,List.find?_cons,z]]
   exact r.get
theorem SR.dk{G0 H0:Hp}{σ:L2.St}{δ:DSt}{i:Nat}{kds:List (Key×D)}(S:SR K Γ G0 H0 G H σ δ)(e:dkOf i δ=some kds):∃a vs,σ[i]?=some (some (.ref a))/\H a=some (.dK vs)/\dG K Γ G vs kds:=by
 obtain⟨O,q⟩:=S.sl
 unfold dkOf at e
 split at e
 .rename_i kvs ei
  cases e
  obtain⟨v,hv,a,vs,ev,h1,h2,h3,h4,h5⟩:=q i _ ei
  subst ev
  exact⟨a,vs,hv,h1,h5⟩
 .rename_i kvs ei
  cases e
  obtain⟨v,hv,h⟩:=q i _ ei
  have h:Rep K Γ G v (.dK kds):=h
  cases h with
  | dK h' r=>exact⟨_,_,hv,S.st.gh _ _ h',r⟩
 .cases e
def Kc(i:Nat)(fk:DSt->Out D):DSt->Out D:=λδ=>match dkOf i δ with
 | some kvs=>(fk δ).bind λk=>match BJ k with
  | some key=>.ok ((uW kvs key).getD .non)
  | none=>.stuck
 | none=>.stuck
theorem de_dget1(i:Nat){x:Str}{p apos cpos:Pos}(hu:X.A.units+64<cLine)(hv:PE X (.Name x p) (m7 i))(ha:DE X Γ E a fa)(m:M1 X (.Name x p) "get" apos a cpos):DE X Γ E (.Call (.Attribute (.Name x p) "get" apos) [a] [] cpos) (Kc i fa) :=
 PE.imp (pe_dget1 (by omega) hv ha m) λσ H Q ⟨G0,H0,G,δ,S,w⟩=>by
  unfold Kc at w
  split at w
  .rename_i kds ek
   obtain⟨aa,vs,hvi,h1,r⟩:=S.dk ek
   refine⟨_,hvi,aa,rfl,.inl ⟨vs,.inl h1⟩,G0,H0,G,δ,S,(ao w).mono (λd w u G1 H1 s1 r1=>?_) λ_ k=>k⟩
   split at w
   .rename_i key ekey
    have e:=r1.key ekey
    subst e
    rcases (r.mono s1.gg).get (k:=key) with⟨z1,z2⟩| ⟨v,d',z1,z2,z3⟩
    .refine⟨_,xJ.k (s1.hh _ _ h1),?_⟩
     rw[z1]
     rw[z2] at w
     exact w _ G1 H1 s1 .non
    .refine⟨_,xJ.k (s1.hh _ _ h1),?_⟩
     rw[z1]
     rw[z2] at w
     exact w _ G1 H1 s1 z3
   .exact False.elim w
  .exact False.elim w
def dInX(i:Nat)(fk:DSt->Out D):DSt->Out Bool:=λδ=>(fk δ).bind λk=>match BJ k,dkOf i δ with
 | some key,some kvs=>.ok (Bv kvs key)
 | _,_=>.stuck
end
section
variable{X:Cx}{Γ:Nat->Option Addr}{E:XK}{e:Expr}{K:Frag}
end
end DL
namespace DL
open PySem PySem.Spec PyProof.Rows MX L2
section
variable{X:Cx}{Γ:Nat->Option Addr}{E:XK}{e a b c o:Expr}{pos p:Pos}{es:List Expr}{fa fb fo:DSt->Out D}{K:Frag}{G H:Hp}
def K1:D->Bool
 | .lst _=>true
 | .rol _=>true
 | _=>false
theorem Rep.listTy{v:V}{d:D}(r:Rep X.K Γ G v d)(h:K1 d=true)(s:aQ G H):tyV X.K "list" v H:=by
 obtain⟨ds,e⟩:∃ds,DL.gY d=some ds:=by cases d <;> first | exact⟨_,rfl⟩| cases h
 obtain⟨a,vs,rfl,sq,_⟩:=r.gY e
 exact .inl ⟨rfl,_,s.seq sq⟩
end
end DL
namespace DL
open PySem PySem.Spec PyProof.Rows MX L2
section
variable{M:Model}{A:Around}{E:Value->Shared->Prop}{s:Shared}
end
end DL
namespace DL
open PySem PySem.Spec PyProof.Rows MX L2
section
variable{X:Cx}{pins:List (Addr×Obj)}{σ:L2.St}{H:Hp}{s:Shared}
end
section
variable{P:Program}{w:World}{K:Frag}{mg:Str->Option Value}{base:Heap}{N:List Str}{qual:Str}{scope:Scope}{f:Addr}{cd:Value}{A:Around}{outer:List Env}{s:Shared}{H:Hp}{E:XK}
end
end DL
namespace DL
open PySem PySem.Spec PyProof.Rows MX L2
section
variable{M:Model}{A:Around}{E:Value->Shared->Prop}{s:Shared}{env:Env}
variable{nm q:Str}{C N:Addr}{bs bm:List Value}{hdct:Bool}{sn:List Str}{sub:List Value}{ab:Bool}{col:Option Bool}{dd:Option Addr}{k0 k1 k2 k3 k5:Option Value}{newId:String}
end
section
variable{X:Cx}{pins:List (Addr×Obj)}{σ:L2.St}{H:Hp}{s:Shared}
end
end DL
namespace DL
open PySem PySem.Spec PyProof.Rows MX L2
section
variable{P:Program}{w:World}{K:Frag}{mg:Str->Option Value}{base:Heap}{Γ:Nat->Option Addr}
end
section
variable{X:Cx}{Γ:Nat->Option Addr}{E:XK}{e a b c o:Expr}{pos apos:Pos}{es:List Expr}{fa fb fo:DSt->Out D}{fr:DSt->Out (List D)}{CX:CXT}
end
end DL
namespace DL
open PySem PySem.Spec PyProof.Rows MX L2
section
variable{K:Frag}{Γ:Nat->Option Addr}{G0 H0 G H G' H':Hp}{O O':Addr->Option Nat}{σ:L2.St}{δ:DSt}
end
section
variable{X:Cx}{Γ:Nat->Option Addr}{E:XK}{st:Stmt}{g:DSt->Out Fl}{e a b c o:Expr}{pos apos:Pos}{es:List Expr}{fa fb fo:DSt->Out D}{fr:DSt->Out (List D)}{CX:CXT}
end
end DL
namespace DL
open PySem PySem.Spec PyProof.Rows MX L2
section
variable{X:Cx}{Γ:Nat->Option Addr}{E:XK}{st:Stmt}{e a b c o:Expr}{pos apos:Pos}{es:List Expr}{fa fb fo:DSt->Out D}{fr:DSt->Out (List D)}
def catL(fa fb:DSt->Out D):DSt->Out (List D):=λδ=>(fa δ).bind λx=>(fb δ).bind λy=>match x,y with
 | .lst i,.lst j=>if i.length+j.length<=sizeLine then .ok (i++j) else .stuck
 | _,_=>.stuck
theorem df_cat(ha:DE X Γ E a fa)(hb:DE X Γ E b fb):DF X Γ E (.BinOp a .Add b pos) (catL fa fb):=PE.imp (Ls op_cat ha hb) λσ H Q ⟨G0,H0,G,δ,S,w⟩=>by
 refine⟨G0,H0,G,δ,S,(ao w).mono (λx w v G1 H1 s1 r1=>?_) λ_ k=>k⟩
 refine⟨G0,H0,G1,δ,S.step s1,(ao w).mono (λy w u G2 H2 s2 r2=>?_) λ_ k=>k.step s1⟩
 split at w
 .split at w
  .rename_i h
   cases r2 with
   | lst h2 r2 =>
   cases r1 with
   | lst h1 r1 =>
    refine⟨_,_,_,_,rfl,rfl,s2.gh _ _ (s2.gg _ _ h1),s2.gh _ _ h2,by rw[r1.length,r2.length];exact h,λl hl=>?_⟩
    have st:=(s1.trans s2)
    exact w l _ G2 _ (st.trans (.aside st.gh hl)) (aD st.hh hl) aO (aD st.gh hl) ((r1.mono s2.gg).append r2)
  .exact False.elim w
 .exact False.elim w
end
section
variable{K:Frag}
end
end DL
namespace DL
open PySem PySem.Spec PyProof.Rows MX L2
section
variable{X:Cx}{Γ:Nat->Option Addr}{E:XK}{e a b:Expr}{es:List Expr}{fa fb:DSt->Out D}{fr:DSt->Out (List D)}{pos p:Pos}{st:Stmt}{rest:List Stmt}{g g':DSt->Out Fl}
end
section
variable{P:Program}{w:World}{K:Frag}{mg:Str->Option Value}{base:Heap}{Γ:Nat->Option Addr}
end
end DL
namespace DL
open PySem PySem.Spec PyProof.Rows MX L2
section
variable{X:Cx}{pins:List (Addr×Obj)}{σ:L2.St}{H:Hp}{s:Shared}
end
section
variable{X:Cx}{Γ:Nat->Option Addr}{E:XK}{pos:Pos}
end
end DL
namespace MX
open PySem PySem.Spec PyProof.Rows L2
section
variable{X:Cx}{pins:List (Addr×Obj)}{σ:L2.St}{H:Hp}{s:Shared}{h':Heap}
theorem Inv.Rz{ch:List Addr}{t':Nat}(I:Inv X pins σ H s)(hch:∀b∈ch,xP X pins H b)(k:∀b u,b∉ch->s.heap.get? b=some u->h'.get? b=some u):Inv X pins σ H { s with heap:=h',toks:=t' }:=by
 have nch:∀b u,H b=some u->b∉ch:=λb u e z=>by rw[(hch b z).1] at e;cases e
 refine I.step (g':=s.gens) (d':=s.drawn) (ch:=ch) (λb hb=>?_) (λb u _ _ hc e _=>k b u hc e) (λb u _ _ hc e _=>⟨u.slots,k b u hc e⟩) (λb u hc e n=>n) (λb u hc e=>⟨u,k b u hc e⟩)
  (λb xs e=>e) (λb u xs e=>e) (λb ps e=>⟨#[],by rw[e];simp⟩) (λm hm=>?_) (λb u e=>?_) I.bare
 .obtain⟨_,h2,_,h4,h5,h6⟩:=hch b hb
  exact⟨h4,h2,h5,h6⟩
 .obtain⟨o',es,ep,ho,r⟩:=hm
  exact⟨o',es,ep,k _ o' (λz=>(hch _ z).2.1 rfl) ho,r⟩
 .refine(I.hok b u e).stay (λc v hc q=>k c v ?_ q) (λc q=>q) λc xs q=>q
  rcases hc with z | z
  .rw[z];exact nch b u e
  .exact nch c _ z
end
def Itz(K:Frag)(a b:Addr):It :=
 ⟨λi H=>∃xs x ys y,SqL K H a xs/\xs[i]?=some x/\SqL K H b ys/\ys[i]?=some y,
  λi H v H'=>∃p x y,v=.ref p/\H p=none/\H'=upd H p (.tup [x,y])/\(∀xs,SqL K H a xs->xs[i]?=some x)/\∀ys,SqL K H b ys->ys[i]?=some y,
  λi H=>∃xs ys,SqL K H a xs/\SqL K H b ys/\(xs.length<=i∨ys.length<=i)⟩
theorem turn_zip{P:Program}{w:World}{K:Frag}{es:List Expr}{kk:Nat}{tp:Pos}{a b z TI TO i1 i2:Addr}(D:ZipApart z TI TO i1 i2 a b):
  Turn P w K (.Tuple es kk tp) (Itz K a b) [z,TI,TO,i1,i2] z (λi h=>IsZip h z TI TO .none/\IsPair h TI (.ref i1) (.ref i2)/\(∃u v,IsPair h TO u v)/\h.IsListIter i1 a i/\h.IsListIter i2 b i) where
 mem:=by simp
 obj:=λi h st c hc=>by
  obtain⟨s1,s2,⟨u,v,s3⟩,s4,s5⟩:=st
  simp only[List.mem_cons,List.not_mem_nil,or_false] at hc
  rcases hc with rfl | rfl | rfl | rfl | rfl
  .exact⟨_,s1,λv q=>by
    have q':Data.fields _=Data.cell v:=q
    cases q'⟩
  .exact⟨_,s2,λv q=>by
    have q':Data.seq _ _=Data.cell v:=q
    cases q'⟩
  .exact⟨_,s3,λv q=>by
    have q':Data.seq _ _=Data.cell v:=q
    cases q'⟩
  .obtain⟨o,e1,c,d⟩:=s4
   exact⟨o,e1,λv q=>by rw[d] at q;cases q⟩
  .obtain⟨o,e1,c,d⟩:=s5
   exact⟨o,e1,λv q=>by rw[d] at q;cases q⟩
 keep:=λi h h' st k=>by
  obtain⟨s1,s2,⟨u,v,s3⟩,s4,s5⟩:=st
  exact⟨k z (by simp) _ s1,k TI (by simp) _ s2,⟨u,v,k TO (by simp) _ s3⟩,s4.at λo q=>k i1 (by simp) o q,s5.at λo q=>k i2 (by simp) o q⟩
 item:=by
  intro X hP hw hK hc i pins s σ H E I hf st hg
  subst hP hw hK
  obtain⟨xs,x,ys,y,hq,hx,hq2,hy⟩:=hg
  obtain⟨s1,s2,⟨u0,v0,s3⟩,s4,s5⟩:=st
  obtain⟨its,rv,p,hz⟩:=I.list hq
  obtain⟨its2,rv2,p2,hz2⟩:=I.list hq2
  obtain⟨u,hu,ru⟩:=rv.get hx
  obtain⟨u2,hu2,ru2⟩:=rv2.get hy
  refine wpAny_pyNext_zip_item D s1 s2 s3 s4 s5 p.isList p2.isList (x:=u) (y:=u2) (by simpa using hu) (by simpa using hu2) λh1 a1 a2 a3 a4 a5 a6 kk'=>⟨_,rfl,wpAny_letOwnedTupleGo_zip a1 λh2 hz' sb=>?_⟩
  have hp:H s.heap.objs.size=none:=I.hok.fresh (Nat.le_refl _)
  have ltz:z<s.heap.objs.size:=Heap.lt_size s1
  have tu2:h2.get? s.heap.objs.size=some { cls:=.type "tuple",data:=.seq #[u,u2] }:=(sb.2 _ (Nat.ne_of_gt ltz)).trans a5
  have ex:∀c o,c≠z->h1.get? c=some o->h2.get? c=some o:=λc o n e=>(sb.2 c n).trans e
  have I2:Inv X pins σ (upd H s.heap.objs.size (.tup [x,y])) { s with heap:=h2,toks:=s.toks }:=Inv.vD (ch:=[z,TI,TO,i1,i2]) I hf (λb o hb q=>by
    simp only[List.mem_cons,List.not_mem_nil,or_false,not_or] at hb
    exact ex b o hb.1 (kk' b o hb.1 hb.2.2.1 hb.2.2.2.1 hb.2.2.2.2 q)) (Nat.le_refl _) ⟨by show 2<=sizeLine;decide,[u,u2],.cons ru (.cons ru2 .nil),_,tu2,rfl,0,rfl⟩
  refine⟨.ref s.heap.objs.size,_,I2,rfl,⟨_,x,y,rfl,hp,rfl,λys hy'=>by rw[I.wO hy' hq];exact hx,λys hy'=>by rw[I.wO hy' hq2];exact hy⟩,⟨hz',?_,⟨u,u2,?_⟩,?_,?_⟩,λc hc=>?_⟩
  .exact ex _ _ D.TIz (kk' _ _ D.TIz D.TITO D.TIi1 D.TIi2 s2)
  .exact ex _ _ D.TOz a2
  .exact a3.at λo q=>ex _ o D.i1z q
  .exact a4.at λo q=>ex _ o D.i2z q
  .have lt2:c<s.heap.objs.size:=by
    simp only[List.mem_cons,List.not_mem_nil,or_false] at hc
    rcases hc with rfl | rfl | rfl | rfl | rfl
    .exact ltz
    .exact Heap.lt_size s2
    .exact Heap.lt_size s3
    .obtain⟨o,e1,_⟩:=s4;exact Heap.lt_size e1
    .obtain⟨o,e1,_⟩:=s5;exact Heap.lt_size e1
   rw[aW (Nat.ne_of_lt lt2)]
   exact(hf c hc).1
 done:=by
  intro X hP hw hK hc i pins s σ H E I hf st hg
  subst hP hw hK
  obtain⟨xs,ys,hq,hq2,hx⟩:=hg
  obtain⟨s1,s2,⟨u0,v0,s3⟩,s4,s5⟩:=st
  obtain⟨its,rv,p,hz⟩:=I.list hq
  obtain⟨its2,rv2,p2,hz2⟩:=I.list hq2
  have hl:=rv.length
  have hl2:=rv2.length
  refine wpAny_pyNext_zip_end (I.ok.hd hc) D s1 s2 s3 s4 s5 p.isList p2.isList (by rcases hx with hx | hx;exact .inl (by simp;omega);exact .inr (by simp;omega)) λh' eb=>⟨rfl,?_⟩
  exact Inv.Rz (ch:=[z,TI,TO,i1,i2]) (t':=s.toks) I hf λb o hb q=>by
   simp only[List.mem_cons,List.not_mem_nil,or_false,not_or] at hb
   exact eb b o hb.1 hb.2.2.1 hb.2.2.2.1 hb.2.2.2.2 q
 self:=λ_ _ _ _ _ st h=>wpAny_pyIter_zip st.1 h
section
variable{X:Cx}
def iZip(K:Frag)(ta:TA):TI:=λσ H R=>ta σ H λvs H1=>∃a b,vs=[.ref a,.ref b]/\(∃xs,SqL K H1 a xs)/\(∃ys,SqL K H1 b ys)/\R (Itz K a b) H1
theorem pi_zip{es:List Expr}{kk:Nat}{tp:Pos}{l l2:Expr}{ta:TA}{p pos:Pos}(hg:Gl X "zip")(hm:X.mg "zip"=none)(hv:bootBuiltins "zip"=some (.type "zip"))(ha:PA X [l,l2] ta)(hs:starEach [l,l2] X.env=(false,eval l X.env)::starEach [l2] X.env:=by rfl)(hs2:(backTo pos (starEach [l2] X.env)).any (·.1)=false:=by rfl):
  PI X (.Tuple es kk tp) (.Call (.Name "zip" p) [l,l2] [] pos) (iZip X.K ta):=by
 intro pins s σ H R I h
 refine Call_ (ou I hg hm hv (PyProof.Rows.callWith_type1 (thn (ha pos pins s σ H _ I h) λus s1 ⟨vs,H1,I1,r1,q1⟩=>?_) hs hs2))
 obtain⟨a,b,e,⟨xs,hq⟩,⟨ys,hq2⟩,q⟩:=q1
 subst e
 cases r1 with
 | cons r rr =>
  cases rr with
  | cons r2 rr =>
   cases rr
   cases r
   cases r2
   obtain⟨its,rv,pl,hz⟩:=I1.list hq
   obtain⟨its2,rv2,pl2,hz2⟩:=I1.list hq2
   have lt1:a<s1.heap.objs.size:=by obtain⟨o,e,_⟩:=pl.isList;exact Heap.lt_size e
   have lt2:b<s1.heap.objs.size:=by obtain⟨o,e,_⟩:=pl2.isList;exact Heap.lt_size e
   refine call_zip_2 pl.isList pl2.isList λh' iz ip1 ip2 li1 li2 sz kp=>?_
   refine wpAny_pyIter_zip iz ?_
   have I2:Inv X pins σ H1 { s1 with heap:=h' }:=I1.kept (t':=s1.toks) kp
   refine⟨s1.heap.objs.size+4,[s1.heap.objs.size+4,s1.heap.objs.size+2,s1.heap.objs.size+3,s1.heap.objs.size,s1.heap.objs.size+1],_,_,H1,rfl,I2,turn_zip (zipApart_new lt1 lt2),⟨iz,ip1,⟨_,_,ip2⟩,li1,li2⟩,λc hc=>?_,q⟩
   have hb':s1.heap.objs.size<=c:=by
    simp only[List.mem_cons,List.not_mem_nil,or_false] at hc
    rcases hc with z | z | z | z | z
    .rw[z];exact Nat.le_add_right _ _
    .rw[z];exact Nat.le_add_right _ _
    .rw[z];exact Nat.le_add_right _ _
    .rw[z];exact Nat.le_refl _
    .rw[z];exact Nat.le_add_right _ _
   obtain⟨g1,g2,g3,g4,g5,g6⟩:=I1.fpOk hb' (I1.hok.fresh hb')
   exact⟨g1,g2,g3,g4,g5,g6⟩
end
end MX
namespace DL
open PySem PySem.Spec PyProof.Rows MX L2
section
variable{X:Cx}{Γ:Nat->Option Addr}{E:XK}{a b:Expr}{pos:Pos}{fa fb:DSt->Out D}{K:Frag}{G:Hp}
def pM:List D->List D->List D
 | x::xs,y::ys=>.tup [x,y]::pM xs ys
 | _,_=>[]
theorem CW:∀{xs ys:List D}{i:Nat}{d:D},(pM xs ys)[i]?=some d->∃x y,xs[i]?=some x/\ys[i]?=some y/\d=.tup [x,y]
 | [],_,_,_,e=>by simp[pM] at e
 | _::_,[],_,_,e=>by simp[pM] at e
 | x::xs,y::ys,0,d,e=>by simp[pM] at e;exact⟨x,y,rfl,rfl,e.symm⟩
 | x::xs,y::ys,i+1,d,e=>by
  simp only[pM,List.getElem?_cons_succ] at e ⊢
  exact CW e
theorem zA:∀xs ys:List D,(pM xs ys).length=min xs.length ys.length
 | [],_=>by simp[pM]
 | _::_,[]=>by simp[pM]
 | x::xs,y::ys=>by simp[pM,zA xs ys,Nat.succ_min_succ]
theorem yl_zip{p q:Addr}{vs us:List V}{xs ys:List D}(h:SqL K G p vs)(r:aC K Γ G vs xs)(h2:SqL K G q us)(r2:aC K Γ G us ys):Yl K Γ G (Itz K p q) (pM xs ys):=by
 refine⟨λi H s lt=>?_,λi G' H x H' d s s' y e=>?_,λi H s le=>⟨vs,us,s.seq h,s.seq h2,by rw[zA] at le;rw[r.length,r2.length];omega⟩⟩
 .obtain⟨x,y,e1,e2,_⟩:=CW (show (pM xs ys)[i]?=some (pM xs ys)[i] by simp[lt])
  obtain⟨v,e3,_⟩:=r.get e1
  obtain⟨u,e4,_⟩:=r2.get e2
  exact⟨vs,v,us,u,s.seq h,e3,s.seq h2,e4⟩
 .obtain⟨pp,x1,y1,rfl,hp,rfl,k1,k2⟩:=y
  obtain⟨x2,y2,e1,e2,rfl⟩:=CW e
  obtain⟨v,e3,r3⟩:=r.get e1
  obtain⟨u,e4,r4⟩:=r2.get e2
  have z1:=k1 vs ((s.trans s').seq h)
  rw[e3] at z1
  cases z1
  have z2:=k2 us ((s.trans s').seq h2)
  rw[e4] at z2
  cases z2
  have up:∀o:HO,aQ G' (upd G' pp o):=λo=>aQ.up (aD s' hp)
  exact⟨_,.new s' hp,.tup aO (.cons ((r3.mono s).mono (up _)) (.cons ((r4.mono s).mono (up _)) .nil))⟩
def zipO(f g:DSt->Out D):DSt->Out (List D):=λδ=>(f δ).bind λd=>(g δ).bind λe=>match d,e with
 | .lst xs,.lst ys=>.ok (pM xs ys)
 | _,_=>.stuck
theorem di_zip{es':List Expr}{kk:Nat}{tp p:Pos}(hg:Gl X "zip")(hm:X.mg "zip"=none)(ha:DE X Γ E a fa)(hb:DE X Γ E b fb)(hs:starEach [a,b] X.env=(false,eval a X.env)::starEach [b] X.env:=by rfl)(hs2:starEach [b] X.env=[(false,eval b X.env)]:=by rfl):DI X Γ E (.Tuple es' kk tp) (.Call (.Name "zip" p) [a,b] [] pos) (zipO fa fb) :=
 PI.imp (pi_zip hg hm (by decide +kernel) (aU ha (aU hb bD (by rw[hs2];rfl)) hs) hs (by rw[hs2];rfl)) λσ H R ⟨G0,H0,G,δ,S,w⟩=>by
  refine⟨G0,H0,G,δ,S,(ao w).mono (λd w v G1 H1 s1 r1=>?_) λ_ k=>k⟩
  refine⟨G0,H0,G1,δ,S.step s1,(ao w).mono (λd2 w v2 G2 H2 s2 r2=>?_) λ_ k=>k.step s1⟩
  split at w
  .cases r1 with
   | lst h r =>
    cases r2 with
    | lst h2 r2=>exact⟨_,_,rfl,⟨_,SqL.of (s2.gh _ _ (s2.gg _ _ h))⟩,⟨_,SqL.of (s2.gh _ _ h2)⟩,w _ G2 H2 (s1.trans s2) (yl_zip (SqL.of (s2.gg _ _ h)) (r.mono s2.gg) (SqL.of h2) r2)⟩
  .exact False.elim w
end
end DL
namespace DL
open PySem PySem.Spec PyProof.Rows MX L2
abbrev Plc:=Nat->Option Addr
def xt(Γ:Plc)(L:Plc):Plc:=λc=>if c<1000 then Γ c else L (c - 1000)
abbrev D.loc(k:Nat):D:=.cls (1000+k)
theorem xt_loc{Γ L:Plc}(k:Nat):xt Γ L (1000+k)=L k:=by
 unfold xt
 rw[if_neg (by omega),Nat.add_sub_cancel_left]
def Le(L L':Plc):Prop:=∀k a,L k=some a->L' k=some a
theorem Le.refl(L:Plc):Le L L:=λ_ _ h=>h
theorem Le.trans{L L1 L2:Plc}(a:Le L L1)(b:Le L1 L2):Le L L2:=λk x h=>b k x (a k x h)
theorem Le.xt{Γ L L':Plc}(h:Le L L'):Le (xt Γ L) (DL.xt Γ L'):=λc a e=>by
 unfold DL.xt at e ⊢
 by_cases q:c<1000
 .rw[if_pos q] at e ⊢;exact e
 .rw[if_neg q] at e ⊢;exact h _ _ e
section
variable{K:Frag}{Γ Γ':Plc}{G:Hp}
mutual
theorem Rep.gam(e:Le Γ Γ'):∀{v:V}{d:D},Rep K Γ G v d->Rep K Γ' G v d
 | _,_,.non=>.non
 | _,_,.bl b=>.bl b
 | _,_,.int i=>.int i
 | _,_,.str x=>.str x
 | _,_,.ty n=>.ty n
 | _,_,.cls h=>.cls (e _ _ h)
 | _,_,.lst h r=>.lst h (aC.gam e r)
 | _,_,.tup h r=>.tup h (aC.gam e r)
 | _,_,.rol h r=>.rol h (aC.gam e r)
 | _,_,.rot h r=>.rot h (aC.gam e r)
 | _,_,.dK h r=>.dK h (dG.gam e r)
 | _,_,.dT h r=>.dT h (uh.gam e r)
 | _,_,.obj h g r=>.obj h (e _ _ g) (jh.gam e r)
 | _,_,.e0 h g=>.e0 h (e _ _ g)
 | _,_,.e1 h h' g r=>.e1 h h' (e _ _ g) (jh.gam e r)
theorem aC.gam(e:Le Γ Γ'):∀{v:List V}{d:List D},aC K Γ G v d->aC K Γ' G v d
 | _,_,.nil=>.nil
 | _,_,.cons h r=>.cons (Rep.gam e h) (aC.gam e r)
theorem jh.gam(e:Le Γ Γ'):∀{v:List (Str×V)}{d:List (Str×D)},jh K Γ G v d->jh K Γ' G v d
 | _,_,.nil=>.nil
 | _,_,.cons h r=>.cons (Rep.gam e h) (jh.gam e r)
theorem dG.gam(e:Le Γ Γ'):∀{v:List (Key×V)}{d:List (Key×D)},dG K Γ G v d->dG K Γ' G v d
 | _,_,.nil=>.nil
 | _,_,.cons h r=>.cons (Rep.gam e h) (dG.gam e r)
theorem uh.gam(e:Le Γ Γ'):∀{v:List (List Key×V)}{d:List (List Key×D)},uh K Γ G v d->uh K Γ' G v d
 | _,_,.nil=>.nil
 | _,_,.cons h r=>.cons (Rep.gam e h) (uh.gam e r)
end
end
inductive Cl where
 | lst (ds:List D) | dK (kvs:List (Key×D)) | dT (kvs:List (List Key×D)) | obj (c:Nat) (fs:List (Str×D))
abbrev Mem:=List Cl
def ClOk(K:Frag)(Γ:Plc)(G H:Hp)(a:Addr):Cl->Prop
 | .lst ds=>∃vs,H a=some (.lst vs)/\aC K Γ G vs ds
 | .dK ds=>∃vs,H a=some (.dK vs)/\dG K Γ G vs ds
 | .dT ds=>∃vs,H a=some (.dT vs)/\uh K Γ G vs ds
 | .obj c fs=>∃C dx vs,H a=some (.ins C dx vs)/\Γ c=some C/\jh K Γ G vs fs
theorem ClOk.some{K:Frag}{Γ:Plc}{G H:Hp}{a:Addr}{c:Cl}(h:ClOk K Γ G H a c):H a≠none:=by
 cases c with
 | lst _=>obtain⟨_,e,_⟩:=h;rw[e];exact λq=>nomatch q
 | dK _=>obtain⟨_,e,_⟩:=h;rw[e];exact λq=>nomatch q
 | dT _=>obtain⟨_,e,_⟩:=h;rw[e];exact λq=>nomatch q
 | obj _ _=>obtain⟨_,_,_,e,_⟩:=h;rw[e];exact λq=>nomatch q
theorem ClOk.up{K:Frag}{Γ Γ':Plc}{G H G' H':Hp}{a:Addr}{c:Cl}(h:ClOk K Γ G H a c)(l:Le Γ Γ')(g:aQ G G')(e:H' a=H a):ClOk K Γ' G' H' a c:=by
 cases c with
 | lst _=>obtain⟨vs,q,r⟩:=h;exact⟨vs,e.trans q,(r.gam l).mono g⟩
 | dK _=>obtain⟨vs,q,r⟩:=h;exact⟨vs,e.trans q,(r.gam l).mono g⟩
 | dT _=>obtain⟨vs,q,r⟩:=h;exact⟨vs,e.trans q,(r.gam l).mono g⟩
 | obj _ _=>obtain⟨C,dx,vs,q,z,r⟩:=h;exact⟨C,dx,vs,e.trans q,l _ _ z,(r.gam l).mono g⟩
structure ut(K:Frag)(Γ:Plc)(L:Plc)(H0 G H:Hp)(μ:Mem):Prop where
 at_:∀k c,μ[k]?=some c->∃a,L k=some a/\H0 a=none/\G a=none/\ClOk K (xt Γ L) G H a c
 inj:∀k k' a,L k=some a->L k'=some a->k=k'
 top:∀k a,L k=some a->k<μ.length
theorem ut.get{K:Frag}{Γ L:Plc}{H0 G H:Hp}{μ:Mem}(M:ut K Γ L H0 G H μ){k:Nat}{a:Addr}(h:L k=some a):∃c,μ[k]?=some c/\H0 a=none/\G a=none/\ClOk K (xt Γ L) G H a c:=by
 have lt:=M.top _ _ h
 obtain⟨a',e,q⟩:=M.at_ k μ[k] (by simp[lt])
 rw[h] at e
 cases e
 exact⟨μ[k],by simp[lt],q⟩
open Classical in
noncomputable def ov(L:Plc)(H H0:Hp):Hp:=λb=>if ∃k,L k=some b then H b else H0 b
theorem zf{L:Plc}{H H0:Hp}{k:Nat}{b:Addr}(h:L k=some b):ov L H H0 b=H b:=if_pos ⟨k,h⟩
theorem g8{L:Plc}{H H0:Hp}{b:Addr}(h:¬∃k,L k=some b):ov L H H0 b=H0 b:=if_neg h
theorem Qh{L:Plc}{H H' H0:Hp}(h:∀k a,L k=some a->H' a=H a):ov L H' H0=ov L H H0:=by
 funext b
 by_cases z:∃k,L k=some b
 .obtain⟨k,e⟩:=z
  rw[zf e,zf e,h k b e]
 .rw[g8 z,g8 z]
noncomputable abbrev hid(L:Plc)(H:Hp):Hp:=ov L (λ_=>none) H
structure StM(K:Frag)(Γ:Plc)(L0:Plc)(G0 H0:Hp)(L:Plc)(G H:Hp)(μ:Mem):Prop where
 le:Le L0 L
 st:Step G0 H0 G H
 mem:ut K Γ L H0 G H μ
structure SRS(K:Frag)(Γ:Plc)(L0:Plc)(G0 H0:Hp)(L:Plc)(G H:Hp)(σ:L2.St)(δ:DSt)(μ:Mem):Prop where
 le:Le L0 L
 sr:SR K (xt Γ L) G0 (ov L H H0) G H σ δ
 mem:ut K Γ L H0 G H μ
section
variable{K:Frag}{Γ Γ':Plc}{G0 H0 H0' G H G' H':Hp}{O:Addr->Option Nat}{σ σ':L2.St}{δ δ':DSt}{L0 L L':Plc}{μ μ':Mem}
theorem Inner.go{i:Nat}(l:Le Γ Γ')(gg:aQ G G')(hb:∀b o,H b=some o->H0 b=none->G b=none->H' b=some o/\H0' b=none/\G' b=none):∀{vs:List V}{dss:List (List D)},Inner K Γ H0 G H O i vs dss->Inner K Γ' H0' G' H' O i vs dss
 | _,_,.nil=>.nil
 | _,_,.cons h g h0 o r n t=>.cons (hb _ _ h h0 g).1 (hb _ _ h h0 g).2.2 (hb _ _ h h0 g).2.1 o ((r.gam l).mono gg) n (Inner.go l gg hb t)
theorem bG.go{i:Nat}(l:Le Γ Γ')(gg:aQ G G')(hb:∀b o,H b=some o->H0 b=none->G b=none->H' b=some o/\H0' b=none/\G' b=none):∀{vs:List V}{es:List Mx}{bs:List Addr},bG K Γ H0 G H O i vs es bs->bG K Γ' H0' G' H' O i vs es bs
 | _,_,_,.nil=>.nil
 | _,_,_,.own h g h0 o r n t=>.own (hb _ _ h h0 g).1 (hb _ _ h h0 g).2.2 (hb _ _ h h0 g).2.1 o ((r.gam l).mono gg) n (bG.go l gg hb t)
 | _,_,_,.fix r t=>.fix ((r.gam l).mono gg) (bG.go l gg hb t)
theorem bN.go{i:Nat}{v:V}{x:Sl}(h:bN K Γ H0 G H O i v x)(l:Le Γ Γ')(gg:aQ G G')(hb:∀b o,H b=some o->H0 b=none->G b=none->H' b=some o/\H0' b=none/\G' b=none):bN K Γ' H0' G' H' O i v x:=by
 cases x with
 | sh d=>exact(Rep.gam l h).mono gg
 | ol ds=>obtain⟨a,vs,e,h1,h2,h3,h4,h5⟩:=h;obtain⟨k1,k2,k3⟩:=hb _ _ h1 h3 h2;exact⟨a,vs,e,k1,k3,k2,h4,(h5.gam l).mono gg⟩
 | oll ds=>obtain⟨a,vs,e,h1,h2,h3,h4,h5,h6⟩:=h;obtain⟨k1,k2,k3⟩:=hb _ _ h1 h3 h2;exact⟨a,vs,e,k1,k3,k2,h4,h5,h6.go l gg hb⟩
 | od ds=>obtain⟨a,vs,e,h1,h2,h3,h4,h5⟩:=h;obtain⟨k1,k2,k3⟩:=hb _ _ h1 h3 h2;exact⟨a,vs,e,k1,k3,k2,h4,(h5.gam l).mono gg⟩
 | odT ds=>obtain⟨a,vs,e,h1,h2,h3,h4,h5⟩:=h;obtain⟨k1,k2,k3⟩:=hb _ _ h1 h3 h2;exact⟨a,vs,e,k1,k3,k2,h4,(h5.gam l).mono gg⟩
 | omx ds=>obtain⟨a,vs,bs,e,h1,h2,h3,h4,h5,h6⟩:=h;obtain⟨k1,k2,k3⟩:=hb _ _ h1 h3 h2;exact⟨a,vs,bs,e,k1,k3,k2,h4,h5,h6.go l gg hb⟩
theorem SR.go{G0 H0 G0' H0':Hp}(S:SR K Γ G0 H0 G H σ δ)(l:Le Γ Γ')(gg:aQ G G')(st:Step G0' H0' G' H')(hb:∀b o,H b=some o->H0 b=none->G b=none->H' b=some o/\H0' b=none/\G' b=none):SR K Γ' G0' H0' G' H' σ δ:=by
 refine⟨st,S.len,?_⟩
 obtain⟨O,q⟩:=S.sl
 refine⟨O,λi x e=>?_⟩
 obtain⟨v,h1,h2⟩:=q i x e
 exact⟨v,h1,h2.go l gg hb⟩
theorem ut.oJ(M:ut K Γ L H0 G H μ){b:Addr}{o:HO}(h:H0 b=some o):¬∃k,L k=some b:=λ⟨k,e⟩=>by
 obtain⟨c,_,z,_⟩:=M.get e
 rw[h] at z
 cases z
theorem SRS.stm(S:SRS K Γ L0 G0 H0 L G H σ δ μ):StM K Γ L0 G0 H0 L G H μ :=
 ⟨S.le,⟨S.sr.st.gg,λb o e=>S.sr.st.hh b o ((g8 (S.mem.oJ e)).trans e),S.sr.st.gh,λb hb g=>S.sr.st.sep b (λz=>by
  cases q:H0 b with
  | none=>exact hb q
  | some o=>rw[g8 (S.mem.oJ q),q] at z;cases z) g⟩,S.mem⟩
theorem SRS.pure(S:SRS K Γ L0 G0 H0 L G H σ δ μ)(s:Step G H G' H'):SRS K Γ L0 G0 H0 L G' H' σ δ μ:=by
 have hc:∀k a,L k=some a->H' a=H a:=λk a e=>by
  obtain⟨c,_,_,_,q⟩:=S.mem.get e
  cases z:H a with
  | none=>exact absurd z q.some
  | some o=>exact s.hh _ _ z
 refine⟨S.le,by rw[Qh hc];exact S.sr.step s,λk c e=>?_,S.mem.inj,S.mem.top⟩
 obtain⟨a,h1,h2,h3,h4⟩:=S.mem.at_ k c e
 exact⟨a,h1,h2,s.sep a h4.some h3,h4.up (.refl _) s.gg (hc k a h1)⟩
def vL(L:Plc)(n:Nat)(p:Addr):Plc:=λk=>if k=n then some p else L k
theorem Am{L:Plc}{n:Nat}{p:Addr}:vL L n p n=some p:=if_pos rfl
theorem ut.Oa(M:ut K Γ L H0 G H μ)(p:Addr):Le L (vL L μ.length p):=λk a e=>by
 unfold vL
 rw[if_neg (Nat.ne_of_lt (M.top k a e))]
 exact e
theorem SRS.adopt(S:SRS K Γ L0 G0 H0 L G H σ δ μ){p:Addr}{c:Cl}(s:Step G H G' H')(hp:H p=none)(gp:G' p=none)(hc:ClOk K (xt Γ (vL L μ.length p)) G' H' p c):SRS K Γ L0 G0 H0 (vL L μ.length p) G' H' σ δ (μ++[c]):=by
 have zp:H0 p=none:=S.stm.st.hh.free hp
 have le:=S.mem.Oa p
 have S1:=S.pure s
 have T1:=S1.stm
 have inv:∀k b,vL L μ.length p k=some b->(k=μ.length/\b=p)∨L k=some b:=λk b e=>by
  unfold vL at e
  split at e
  .cases e;exact .inl ⟨‹_›,rfl⟩
  .exact .inr e
 have nin:∀k b,L k=some b->b≠p:=λk b e z=>(S.mem.get e).choose_spec.2.2.2.some (z▸hp)
 refine⟨S.le.trans le,?_,λk' c' e=>?_,λk k' a e e'=>?_,λk a e=>?_⟩
 .refine S.sr.go le.xt s.gg ⟨S1.sr.st.gg,λb u e=>?_,s.gh,λb hb g=>?_⟩ λb u e z g=>?_
  .by_cases q:∃k,vL L μ.length p k=some b
   .obtain⟨k,e'⟩:=q;rw[zf e'] at e;exact e
   .rw[g8 q] at e
    exact T1.st.hh b u e
  .by_cases q:∃k,vL L μ.length p k=some b
   .obtain⟨k,e'⟩:=q
    rcases inv k b e' with⟨_,z⟩| z
    .rw[z];exact gp
    .exact(S1.mem.get z).choose_spec.2.2.1
   .rw[g8 q] at hb
    exact T1.st.sep b hb g
  .have nc:¬∃k,L k=some b:=λ⟨k,e'⟩=>by rw[zf e',e] at z;cases z
   rw[g8 nc] at z
   have nc':¬∃k,vL L μ.length p k=some b:=λ⟨k,e'⟩=>by
    rcases inv k b e' with⟨_,y⟩| y
    .rw[y,hp] at e;cases e
    .exact nc ⟨k,y⟩
   exact⟨s.hh _ _ e,by rw[g8 nc'];exact z,s.sep b (by rw[e];exact λq=>nomatch q) g⟩
 .by_cases q:k'<μ.length
  .rw[List.getElem?_append_left q] at e
   obtain⟨a,h1,h2,h3,h4⟩:=S1.mem.at_ k' c' e
   exact⟨a,le _ _ h1,h2,h3,h4.up le.xt (aQ.refl _) rfl⟩
  .rw[List.getElem?_append_right (by omega)] at e
   have:k'=μ.length:=by
    have:=(List.getElem?_eq_some_iff.mp e).1
    simp at this
    omega
   subst this
   simp at e
   subst e
   exact⟨p,Am,zp,gp,hc⟩
 .rcases inv k a e with⟨z1,z2⟩| z <;> rcases inv k' a e' with⟨y1,y2⟩| y
  .rw[z1,y1]
  .exact absurd z2 (nin _ _ y)
  .exact absurd y2 (nin _ _ z)
  .exact S.mem.inj k k' a z y
 .rw[List.length_append,List.length_singleton]
  rcases inv k a e with⟨z1,z2⟩| z
  .omega
  .have:=S.mem.top k a z;omega
theorem StM.adopt(S:StM K Γ L0 G0 H0 L G H μ){p:Addr}{c:Cl}(zp:H0 p=none)(gp:G p=none)(np:¬∃k,L k=some p)(hc:ClOk K (xt Γ (vL L μ.length p)) G H p c):StM K Γ L0 G0 H0 (vL L μ.length p) G H (μ++[c]):=by
 have le:=S.mem.Oa p
 have inv:∀k b,vL L μ.length p k=some b->(k=μ.length/\b=p)∨L k=some b:=λk b e=>by
  unfold vL at e
  split at e
  .cases e;exact .inl ⟨‹_›,rfl⟩
  .exact .inr e
 refine⟨S.le.trans le,S.st,λk' c' e=>?_,λk k' a e e'=>?_,λk a e=>?_⟩
 .by_cases q:k'<μ.length
  .rw[List.getElem?_append_left q] at e
   obtain⟨a,h1,h2,h3,h4⟩:=S.mem.at_ k' c' e
   exact⟨a,le _ _ h1,h2,h3,h4.up le.xt (aQ.refl _) rfl⟩
  .rw[List.getElem?_append_right (by omega)] at e
   have:k'=μ.length:=by
    have:=(List.getElem?_eq_some_iff.mp e).1
    simp at this
    omega
   subst this
   simp at e
   subst e
   exact⟨p,Am,zp,gp,hc⟩
 .rcases inv k a e with⟨z1,z2⟩| z <;> rcases inv k' a e' with⟨y1,y2⟩| y
  .rw[z1,y1]
  .exact absurd ⟨_,z2▸y⟩ np
  .exact absurd ⟨_,y2▸z⟩ np
  .exact S.mem.inj k k' a z y
 .rw[List.length_append,List.length_singleton]
  rcases inv k a e with⟨z1,z2⟩| z
  .omega
  .have:=S.mem.top k a z;omega
theorem StM.frz(S:StM K Γ L0 G0 H0 L G H μ){p:Addr}(zp:H0 p=none)(gp:G p=none)(np:¬∃k,L k=some p):StM K Γ L0 G0 H0 L (dN G H λb=>decide (b=p)) H μ:=by
 have sm:aQ G (dN G H λb=>decide (b=p)):=du λb z=>by obtain rfl:=of_decide_eq_true z;exact gp
 refine⟨S.le,S.st.frz _ λb z=>by obtain rfl:=of_decide_eq_true z;exact⟨gp,zp⟩,λk c e=>?_,S.mem.inj,S.mem.top⟩
 obtain⟨a,h1,h2,h3,h4⟩:=S.mem.at_ k c e
 refine⟨a,h1,h2,?_,h4.up (.refl _) sm rfl⟩
 unfold dN
 rw[if_neg (by simp;exact λz=>np ⟨k,z▸h1⟩)]
 exact h3
open Classical in
noncomputable def hb0(B G H:Hp):Hp:=λb=>if B b=none/\G b=none then none else H b
theorem KR{B G H:Hp}{b:Addr}(s:aQ B H)(h:hb0 B G H b=none):B b=none:=by
 unfold hb0 at h
 split at h
 .rename_i z;exact z.1
 .exact s.free h
theorem SRS.enter(S:SRS K Γ L0 G0 H0 L G H σ δ μ):SR K (xt Γ L) G (hb0 (ov L H H0) G H) G H σ δ:=by
 refine S.sr.go (.refl _) (aQ.refl _) ⟨aQ.refl _,λb o e=>?_,S.sr.st.gh,λ_ _ g=>g⟩ λb o e z g=>⟨e,by unfold hb0;rw[if_pos ⟨z,g⟩],g⟩
 unfold hb0 at e
 split at e
 .cases e
 .exact e
theorem Step.leave(S:SRS K Γ L0 G0 H0 L G H σ δ μ)(s:Step G (hb0 (ov L H H0) G H) G' H'):Step G0 (ov L H H0) G' H'/\∀k a,L k=some a->H' a=H a:=by
 have hs:∀b o,ov L H H0 b=some o->H' b=some o:=λb o e=>s.hh b o (by
  unfold hb0
  rw[if_neg (λz=>by rw[e] at z;cases z.1)]
  exact S.sr.st.hh b o e)
 refine⟨⟨S.sr.st.gg.trans s.gg,hs,s.gh,λb hb g=>s.sep b (λz=>?_) (S.sr.st.sep b hb g)⟩,λk a e=>?_⟩
 .unfold hb0 at z
  split at z
  .rename_i y;exact hb y.1
  .cases q:ov L H H0 b with
   | none=>exact hb q
   | some o=>rw[S.sr.st.hh b o q] at z;cases z
 .cases z:H a with
  | none=>exact absurd z (S.mem.get e).choose_spec.2.2.2.some
  | some o=>exact hs a o ((zf e).trans z)
theorem SRS.leaveM(S:SRS K Γ L0 G0 H0 L G H σ δ μ)(s:Step G (hb0 (ov L H H0) G H) G' H'):ut K Γ L H0 G' H' μ:=by
 obtain⟨st,hc⟩:=Step.leave S s
 refine⟨λk c e=>?_,S.mem.inj,S.mem.top⟩
 obtain⟨a,h1,h2,h3,h4⟩:=S.mem.at_ k c e
 refine⟨a,h1,h2,?_,h4.up (.refl _) s.gg (hc k a h1)⟩
 exact st.sep a (by rw[zf h1];exact h4.some) (S.sr.st.gg.free h3)
theorem SRS.leave(S:SRS K Γ L0 G0 H0 L G H σ δ μ)(S':SR K (xt Γ L) G (hb0 (ov L H H0) G H) G' H' σ' δ'):SRS K Γ L0 G0 H0 L G' H' σ' δ' μ:=by
 obtain⟨st,hc⟩:=Step.leave S S'.st
 refine⟨S.le,?_,S.leaveM S'.st⟩
 rw[Qh hc]
 exact S'.go (.refl _) (aQ.refl _) st λb o e z g=>⟨e,KR S.sr.st.hh z,g⟩
theorem SRS.Ob(S:SRS K Γ L0 G0 H0 L G H σ δ μ)(s:Step G (hb0 (ov L H H0) G H) G' H'):StM K Γ L0 G0 H0 L G' H' μ:=by
 obtain⟨st,hc⟩:=Step.leave S s
 exact⟨S.le,⟨st.gg,λb o e=>st.hh b o ((g8 (S.mem.oJ e)).trans e),st.gh,λb hb g=>st.sep b (λz=>by
  cases q:H0 b with
  | none=>exact hb q
  | some o=>rw[g8 (S.mem.oJ q),q] at z;cases z) g⟩,S.leaveM s⟩
end
end DL
namespace DL
open PySem PySem.Spec PyProof.Rows MX L2
inductive Res (α:Type) where
 | ok (a:α) (μ:Mem) | ex (x:D) (μ:Mem) | stuck
namespace Res
noncomputable def bind{α β:Type}(r:Res α)(k:α->Mem->Res β):Res β:=match r with
 | .ok a μ=>k a μ
 | .ex x μ=>.ex x μ
 | .stuck=>.stuck
def of{α:Type}(o:Out α)(μ:Mem):Res α:=match o with
 | .ok a=>.ok a μ
 | .ex x=>.ex x μ
 | .stuck=>.stuck
def bf{α:Type}:Res α->Res α
 | .ok a μ=>.ok a μ
 | _=>.stuck
@[simp] theorem dJ{α β:Type}(a:α)(μ:Mem)(k:α->Mem->Res β):(Res.ok a μ).bind k=k a μ:=rfl
@[simp] theorem G8{α β:Type}(x:D)(μ:Mem)(k:α->Mem->Res β):(Res.ex x μ).bind k=.ex x μ:=rfl
@[simp] theorem uQ{α β:Type}(k:α->Mem->Res β):(Res.stuck:Res α).bind k=.stuck:=rfl
@[simp] theorem of_ok{α:Type}(a:α)(μ:Mem):of (.ok a) μ=.ok a μ:=rfl
@[simp] theorem ue{α:Type}(a:α)(μ:Mem):bf (Res.ok a μ)=.ok a μ:=rfl
end Res
def wpR{α:Type}(r:Res α)(P:α->Mem->Prop)(R:D->Mem->Prop):Prop:=match r with
 | .ok a μ=>P a μ
 | .ex x μ=>R x μ
 | .stuck=>False
theorem xF{α β:Type}{r:Res α}{k:α->Mem->Res β}{P:β->Mem->Prop}{R:D->Mem->Prop}(h:wpR (r.bind k) P R):wpR r (λa μ=>wpR (k a μ) P R) R:=by
 cases r <;> exact h
theorem wpR.mono{α:Type}{r:Res α}{P P':α->Mem->Prop}{R R':D->Mem->Prop}(h:wpR r P R)(k:∀a μ,P a μ->P' a μ)(q:∀x μ,R x μ->R' x μ):wpR r P' R':=by
 cases r with
 | ok a μ=>exact k a μ h
 | ex x μ=>exact q x μ h
 | stuck=>exact h
theorem Pg{α:Type}{o:Out α}{μ:Mem}{P:α->Mem->Prop}{R:D->Mem->Prop}(h:wpR (Res.of o μ) P R):wpO o (λa=>P a μ) (λx=>R x μ):=by
 cases o <;> exact h
theorem wpR_noex{α:Type}{r:Res α}{P:α->Mem->Prop}{R R':D->Mem->Prop}(h:wpR r.bf P R):wpR r P R':=by
 cases r with
 | ok a μ=>exact h
 | ex x μ=>exact False.elim h
 | stuck=>exact h
section
variable(K:Frag)(Γ:Plc)(E:XK)
def exS(L0:Plc)(G0 H0:Hp)(x:D)(μ:Mem):Prop:=∀a L G H,StM K Γ L0 G0 H0 L G H μ->Rep K (xt Γ L) G (.ref a) x->E (.ref a) none H
def teS(f:DSt->Mem->Res D):TE:=λσ H Q=>∃L0 G0 H0 L G δ μ,SRS K Γ L0 G0 H0 L G H σ δ μ /\
 wpR (f δ μ) (λd μ'=>∀v L' G' H',SRS K Γ L0 G0 H0 L' G' H' σ δ μ'->Le L L'->aQ G G'->Rep K (xt Γ L') G' v d->Q v H') (exS K Γ E L0 G0 H0)
def ttS(f:DSt->Mem->Res Bool):TT:=λσ H Q=>∃L0 G0 H0 L G δ μ,SRS K Γ L0 G0 H0 L G H σ δ μ /\
 wpR (f δ μ) (λd μ'=>∀L' G' H',SRS K Γ L0 G0 H0 L' G' H' σ δ μ'->Le L L'->aQ G G'->Q d H') (exS K Γ E L0 G0 H0)
def FlS(L0:Plc)(G0 H0:Hp)(N:Ends):Fl->Mem->Prop
 | .nx δ,μ=>∀σ L G H,SRS K Γ L0 G0 H0 L G H σ δ μ->N.nx σ H
 | .rt d,μ=>∀v L G H,StM K Γ L0 G0 H0 L G H μ->Rep K (xt Γ L) G v d->N.rt v H
 | .bk δ,μ=>∀σ L G H,SRS K Γ L0 G0 H0 L G H σ δ μ->N.bk σ H
 | .ct δ,μ=>∀σ L G H,SRS K Γ L0 G0 H0 L G H σ δ μ->N.ct σ H
 | .rl ds,μ=>∀a vs L G H,StM K Γ L0 G0 H0 L G H μ->H0 a=none->(¬∃k,L k=some a)->H a=some (.lst vs)->G a=none->aC K (xt Γ L) G vs ds->N.rt (.ref a) H
 | .rll _,_=>False
def tsS(g:DSt->Mem->Res Fl):TS:=λN σ H=>∃L0 G0 H0 L G δ μ,SRS K Γ L0 G0 H0 L G H σ δ μ/\wpR (g δ μ) (FlS K Γ L0 G0 H0 N) (exS K Γ E L0 G0 H0)
end
abbrev SE(X:Cx)(Γ:Plc)(E:XK)(e:Expr)(f:DSt->Mem->Res D):Prop:=PE X e (teS X.K Γ E f)
abbrev ST(X:Cx)(Γ:Plc)(E:XK)(e:Expr)(f:DSt->Mem->Res Bool):Prop:=PT X e (ttS X.K Γ E f)
abbrev SS(X:Cx)(Γ:Plc)(E:XK)(st:Stmt)(g:DSt->Mem->Res Fl):Prop:=PS X st (tsS X.K Γ E g)
abbrev SSs(X:Cx)(Γ:Plc)(E:XK)(st:List Stmt)(g:DSt->Mem->Res Fl):Prop:=PSs X st (tsS X.K Γ E g)
section
variable{X:Cx}{Γ:Plc}{E:XK}{e a b c o:Expr}{pos apos:Pos}{es:List Expr}{st:Stmt}{rest sa sb:List Stmt}
theorem PE.ex{α:Type}{t:α->TE}(h:∀x,PE X e (t x)):PE X e (λσ H Q=>∃x,t x σ H Q):=λpins s σ H Q I ⟨x,q⟩=>h x pins s σ H Q I q
theorem PT.ex{α:Type}{t:α->TT}(h:∀x,PT X e (t x)):PT X e (λσ H Q=>∃x,t x σ H Q):=λpins s σ H Q I ⟨x,q⟩=>h x pins s σ H Q I q
theorem PS.ex{α:Type}{t:α->TS}(h:∀x,PS X st (t x)):PS X st (λN σ H=>∃x,t x N σ H):=λpins s σ H Q I ⟨x,q⟩=>h x pins s σ H Q I q
theorem exS.old{K:Frag}{L0 L:Plc}{G0 H0 G H:Hp}{σ:L2.St}{δ:DSt}{μ:Mem}{x:D}(S:SRS K Γ L0 G0 H0 L G H σ δ μ)(k:exS K Γ E L0 G0 H0 x μ):exD K (xt Γ L) E G H x:=λa G' H' s r=>k a L G' H' (S.pure s).stm r
def fO{α:Type}(f:DSt->Out α):DSt->Mem->Res α:=λδ μ=>.of (f δ) μ
theorem se_of{f:DSt->Out D}(h:∀L,DE X (xt Γ L) E e f):SE X Γ E e (fO f):=PE.imp (PE.ex h) λσ H Q ⟨L0,G0,H0,L,G,δ,μ,S,w⟩ =>
 ⟨L,G0,ov L H H0,G,δ,S.sr,(Pg w).mono (λd k v G' H' s r=>k v L G' H' (S.pure s) (.refl _) s.gg r) λx k=>exS.old S k⟩
theorem st_of{f:DSt->Out Bool}(h:∀L,DT X (xt Γ L) E e f):ST X Γ E e (fO f):=PT.imp (PT.ex h) λσ H Q ⟨L0,G0,H0,L,G,δ,μ,S,w⟩ =>
 ⟨L,G0,ov L H H0,G,δ,S.sr,(Pg w).mono (λd k G' H' s=>k L G' H' (S.pure s) (.refl _) s.gg) λx k=>exS.old S k⟩
theorem uJ{g:DSt->Out Fl}(h:∀L,DS X (xt Γ L) E st g):SS X Γ E st (fO g):=PS.imp (PS.ex h) λN σ H ⟨L0,G0,H0,L,G,δ,μ,S,w⟩=>by
 refine⟨L,G,hb0 (ov L H H0) G H,G,δ,S.enter,(Pg w).mono (λfl k=>?_) λx k a G' H' s r=>k a L G' H' (S.Ob s) r⟩
 cases fl with
 | nx δ'=>exact λσ' G' H' S'=>k σ' L G' H' (S.leave S')
 | rt d=>exact λv G' H' s r=>k v L G' H' (S.Ob s) r
 | bk δ'=>exact λσ' G' H' S'=>k σ' L G' H' (S.leave S')
 | ct δ'=>exact λσ' G' H' S'=>k σ' L G' H' (S.leave S')
 | rl ds =>
  intro a vs G' H' s f h g r
  have z:=KR S.sr.st.hh f
  have nc:¬∃k,L k=some a:=λ⟨j,e'⟩=>by
   rw[zf e'] at z
   exact(S.mem.get e').choose_spec.2.2.2.some z
  rw[g8 nc] at z
  exact k a vs L G' H' (S.Ob s) z nc h g r
 | rll _=>exact False.elim k
def nilS:DSt->Mem->Res Fl:=λδ μ=>.ok (.nx δ) μ
def uo(g g':DSt->Mem->Res Fl):DSt->Mem->Res Fl:=λδ μ=>(g δ μ).bind λfl μ=>match fl with
 | .nx δ'=>g' δ' μ
 | fl=>.ok fl μ
variable{g g':DSt->Mem->Res Fl}{f fa fb:DSt->Mem->Res D}{ft:DSt->Mem->Res Bool}{fr:DSt->Mem->Res (List D)}
theorem Jx:SSs X Γ E [] nilS:=PSs.imp Qk λN σ H ⟨L0,G0,H0,L,G,δ,μ,S,w⟩=>w σ L G H S
theorem cX(h1:SS X Γ E st g)(h2:SSs X Γ E rest g'):SSs X Γ E (st::rest) (uo g g'):=PSs.imp (sE h1 h2) λN σ H ⟨L0,G0,H0,L,G,δ,μ,S,w⟩=>by
 refine⟨L0,G0,H0,L,G,δ,μ,S,(xF w).mono (λfl μ1 w=>?_) λ_ _ k=>k⟩
 cases fl with
 | nx δ'=>exact λσ' L' G' H' S'=>⟨L0,G0,H0,L',G',δ',μ1,S',w⟩
 | rt d=>exact w
 | bk d=>exact w
 | ct d=>exact w
 | rl d=>exact w
 | rll d=>exact w
theorem Ac(h1:SS X Γ E st g):SSs X Γ E [st] g:=lU h1
def retS(f:DSt->Mem->Res D):DSt->Mem->Res Fl:=λδ μ=>(f δ μ).bind λd μ=>.ok (.rt d) μ
theorem Jw(he:SE X Γ E e f):SS X Γ E (.Return (some e) pos) (retS f):=PS.imp (vh he) λN σ H ⟨L0,G0,H0,L,G,δ,μ,S,w⟩ =>
 ⟨L0,G0,H0,L,G,δ,μ,S,(xF w).mono (λd μ1 w v L1 G1 H1 S1 l1 s1 r1=>w v L1 G1 H1 S1.stm r1) λ_ _ k=>k⟩
def ifS(t:DSt->Mem->Res Bool)(g g':DSt->Mem->Res Fl):DSt->Mem->Res Fl:=λδ μ=>(t δ μ).bind λk μ=>if k=true then g δ μ else g' δ μ
theorem ss_if(hc:ST X Γ E c ft)(ha:SSs X Γ E sa g)(hb:SSs X Γ E sb g'):SS X Γ E (.If c sa sb pos) (ifS ft g g'):=PS.imp (ps_if hc ha hb) λN σ H ⟨L0,G0,H0,L,G,δ,μ,S,w⟩=>by
 refine⟨L0,G0,H0,L,G,δ,μ,S,(xF w).mono (λk μ1 w L1 G1 H1 S1 l1 s1=>?_) λ_ _ k=>k⟩
 cases k with
 | true=>rw[if_pos rfl] at w ⊢;exact⟨L0,G0,H0,L1,G1,δ,μ1,S1,w⟩
 | false=>rw[if_neg Bool.false_ne_true] at w ⊢;exact⟨L0,G0,H0,L1,G1,δ,μ1,S1,w⟩
end
end DL
namespace DL
open PySem PySem.Spec PyProof.Rows MX L2
section
variable{K:Frag}{Γ:Plc}{G0 H0 G H G' H':Hp}{σ:L2.St}{δ:DSt}{L0 L:Plc}{μ:Mem}
end
section
variable{X:Cx}{Γ:Plc}{E:XK}{e a b c o:Expr}{pos apos:Pos}{es:List Expr}{st:Stmt}{rest sa sb:List Stmt}
variable{g g':DSt->Mem->Res Fl}{f fa fb:DSt->Mem->Res D}{ft:DSt->Mem->Res Bool}{fr:DSt->Mem->Res (List D)}
def spS(K:Frag)(Γ:Plc)(n:Nat)(F:Mem->List D->Res D):Sp:=λvs H Q E=>vs.length=n/\∃L G μ ds,aQ G H/\ut K Γ L (hid L H) G H μ/\aC K (xt Γ L) G vs ds /\
 wpR (F μ ds) (λd μ'=>∀v L' G' H',StM K Γ L G (hid L H) L' G' H' μ'->Rep K (xt Γ L') G' v d->Q v H') (exS K Γ E L G (hid L H))
theorem ov_hid{L:Plc}{H:Hp}:ov L H (hid L H)=H:=by
 funext b
 by_cases q:∃k,L k=some b
 .obtain⟨k,e⟩:=q;rw[zf e]
 .rw[g8 q,hid,g8 q]
end
def endS(cell:Bool):Fl->Mem->Res D
 | .nx _,μ=>.ok .non μ
 | .rt d,μ=>.ok d μ
 | .rl xs,μ=>if cell=true then .ok (.loc μ.length) (μ++[.lst xs]) else .ok (.lst xs) μ
 | _,_=>.stuck
def runS(cell:Bool)(n:Nat)(g:DSt->Mem->Res Fl)(μ:Mem)(ds:List D):Res D:=(g (eG n ds) μ).bind (endS cell)
section
variable{P:Program}{w:World}{K:Frag}{mg:Str->Option Value}{base:Heap}{Γ:Plc}
theorem end_ok{cell:Bool}{L0:Plc}{G0 H0:Hp}{N:Ends}{E:XK}{Q:VK}(hn:∀σ H,Q .non H->N.nx σ H)(hq:∀v H,Q v H->N.rt v H){fl:Fl}{μ:Mem}(q:wpR (endS cell fl μ) (λd μ'=>∀v L' G' H',StM K Γ L0 G0 H0 L' G' H' μ'->Rep K (xt Γ L') G' v d->Q v H') (exS K Γ E L0 G0 H0)):FlS K Γ L0 G0 H0 N fl μ:=by
 cases fl with
 | nx δ=>exact λσ L G H S=>hn σ H (q .non L G H S.stm .non)
 | rt d=>exact λv L G H S r=>hq v H (q v L G H S r)
 | bk δ=>exact False.elim q
 | ct δ=>exact False.elim q
 | rll _=>exact False.elim q
 | rl xs =>
  intro a vs L G H S z nc h g r
  cases cell with
  | true =>
   have le:=S.mem.Oa a
   exact hq _ H (q _ _ G H (S.adopt z g nc ⟨vs,h,r.gam le.xt⟩) (.cls (by rw[xt_loc];exact Am)))
  | false =>
   have sm:aQ G (dN G H λb=>decide (b=a)):=du λb z=>by obtain rfl:=of_decide_eq_true z;exact g
   exact hq _ H (q _ L _ H (S.frz z g nc) (.lst (by unfold dN;rw[if_pos (by simp)];exact h) (r.mono sm)))
theorem Fun.okS{x qual:Str}{st:Stmt}{f:Addr}{fd:FuncData}{N ps:List Str}{k:Nat}{g:DSt->Mem->Res Fl}(cell:Bool)(F:L2.Fun K x qual st f fd)(S:aG N ps (au st))
  (h:∀(cdv:Value)(A:Around)(outer:List Env)(s:Shared)(H:Hp)(E:XK),cZ k (A.deeper (envOfC qual (au st) s.heap.objs.size f cdv))->SSs (zE CX0 P w K mg base N qual (au st) f cdv A outer s H E).nox Γ E0 (dh st) g) :
  bY P w K mg base CX0 (k+1) f fd ps (spS K Γ ps.length λμ ds=>(runS cell N.length g μ ds).bf) :=
 L2.Fun.ok F S (λvs H Q E h=>h.1) λcdv A outer s H vs Q E hr ⟨hl,L,G,μ,ds,sg,M,r,q⟩=>by
  refine⟨_,h cdv A outer s H E hr,L,G,hid L H,L,G,eG N.length ds,μ,⟨.refl _,by rw[ov_hid];exact SR.Ae sg r,M⟩,(xF (wpR_noex (R':=exS K Γ E0 L G (hid L H)) q)).mono (λfl μ' q=>?_) λ_ _ k=>k⟩
  exact end_ok (E:=E0) (Q:=Q) (λσ H z=>z) (λv H z=>z) q
structure DefA(P:Program)(w:World)(K:Frag)(mg:Str->Option Value)(base:Heap)(x:Str)(k:Nat)(ps:List Str)(sp:Plc->Sp):Prop where
 ex:∃f fd,(∀L,bY P w K mg base CX0 k f fd ps (sp L))/\Binds K fd ps []/\mg x=some (.ref f)/\keepIn K (.ref f)=true
theorem DefA.at{x:Str}{k:Nat}{ps:List Str}{sp:Plc->Sp}(h:DefA P w K mg base x k ps sp)(L:Plc):Def P w K mg base x k ps (sp L):=by
 obtain⟨f,fd,G,r⟩:=h.ex
 exact⟨f,fd,G L,r⟩
structure IniA(P:Program)(w:World)(K:Frag)(mg:Str->Option Value)(base:Heap)(C:Addr)(k:Nat)(ps:List Str)(sp:Plc->Sp):Prop where
 ex:∃f fd,Mk K C f/\(∀L,bY P w K mg base CX0 k f fd ps (sp L))/\Binds K fd ps []
theorem IniA.at{C:Addr}{k:Nat}{ps:List Str}{sp:Plc->Sp}(h:IniA P w K mg base C k ps sp)(L:Plc):Ini P w K mg base C k ps (sp L):=by
 obtain⟨f,fd,M,G,r⟩:=h.ex
 exact⟨f,fd,M,G L,r⟩
theorem Rq{n:Nat}{F:Mem->List D->Res D}{vs:List V}{H:Hp}{Q:VK}{E:XK}{ds:List D}(hl:vs.length=n)(r:aC K (xt Γ λ_=>none) H vs ds){d:D}{μ:Mem}(e:F [] ds=.ok d μ)(q:∀v L' G' H',Rep K (xt Γ L') G' v d->Q v H'):spS K Γ n F vs H Q E:=by
 refine⟨hl,λ_=>none,H,[],ds,aQ.refl _,⟨λk c e=>(by simp at e),λk k' a e=>(by cases e),λk a e=>(by cases e)⟩,r,?_⟩
 rw[e]
 exact λv L' G' H' M r=>q v L' G' H' r
end
end DL
namespace DL
open PySem PySem.Spec PyProof.Rows MX L2
section
variable{X:Cx}{Γ:Nat->Option Addr}{E:XK}{e a b c o:Expr}{pos apos:Pos}{es:List Expr}{fa fb fo:DSt->Out D}{fr:DSt->Out (List D)}{K:Frag}{G H:Hp}
end
section
variable{X:Cx}{Γ:Plc}{E:XK}{e a b c o:Expr}{pos apos:Pos}{es rest:List Expr}{f fa fb:DSt->Mem->Res D}{fr:DSt->Mem->Res (List D)}
end
end DL
namespace DL
open PySem PySem.Spec PyProof.Rows MX L2
structure zB(K:Frag)(n:Str)(C:Addr):Prop where
 a:nsIn K mainGlobals n=some (some (.ref C))
 pg:PySem.W.plainGet K C Str.empty=true
 hd:PySem.W.hasDictIn K C=true
 po:PySem.W.plainOver K C=true
 sa:findIn K (.ref C) "__setattr__"=some (some (.builtin "object.__setattr__"))
 ha:findIn K (.ref C) "__class__"=some (some (.builtin "object.__class__"))
 hm:PySem.W.mroIn K C (.type "object")=some true
 ty:PySem.W.typeIn K (.ref C)=some (.type "type")
 cd:∃cd,PySem.W.clsIn K C=some cd
theorem zB.of{K:Frag}{n:Str}{C:Addr}{cd:ClassData}(a:nsIn K mainGlobals n=some (some (.ref C)))(pg:PySem.W.plainGet K C Str.empty=true)(hd:PySem.W.hasDictIn K C=true)(po:PySem.W.plainOver K C=true)(sa:findIn K (.ref C) "__setattr__"=some (some (.builtin "object.__setattr__")))(ha:findIn K (.ref C) "__class__"=some (some (.builtin "object.__class__")))(hm:PySem.W.mroIn K C (.type "object")=some true)(ty:PySem.W.typeIn K (.ref C)=some (.type "type"))(h:PySem.W.clsIn K C=some cd):zB K n C:=⟨a,pg,hd,po,sa,ha,hm,ty,cd,h⟩
structure GetF(K:Frag):Prop where
 hn:PySem.W.specialIn K (.builtin "object.__class__") "__get__"=some (some (.builtin "getset_descriptor.__get__"))
 htk:PySem.W.takesIn K (.builtin "object.__class__")=some true
theorem zB.i{K:Frag}{n:Str}{C:Addr}(c:zB K n C)(g:GetF K):ur K C:=⟨⟨c.pg,c.hd,c.po,c.sa⟩,c.ha,g.hn,g.htk,c.hm,c.ty,c.cd⟩
structure FX(K:Frag)(n q:Str)(s:Stmt)(f:Addr):Prop where
 ex:∃fd,L2.Fun K n q s f fd
 fn:PySem.W.isFn K (.ref f)=true
theorem FX.of{K:Frag}{n q:Str}{s:Stmt}{f:Addr}{oc:Value}{od an:Option Addr}{osl:Array (Option Value)}{kV doc pm cdv ct:Value}(l:K.lookup f=some ⟨oc,od,.func (PySem.W.fnOf n q (lL s) (dh s) (au s) .none kV doc pm an cdv ct),osl⟩)
  (c:PySem.W.codeIn K cdv q=true) (k:keepIn K (.ref f)=true) (fn:PySem.W.isFn K (.ref f)=true):FX K n q s f:=⟨⟨_,fun_mk l c k⟩,fn⟩
structure TX(K:Frag)(n:Str)(s:Stmt)(f:Addr):Prop where
 m:nsIn K mainGlobals n=some (some (.ref f))
 x:FX K n n s f
structure MkF(K:Frag)(C f:Addr):Prop where
 mks:PySem.W.makesIn K C=true
 ini:findIn K (.ref C) "__init__"=some (some (.ref f))
 kC:keepIn K (.ref C)=true
theorem MkF.k{K:Frag}{C f:Addr}(m:MkF K C f){n q:Str}{s:Stmt}(x:FX K n q s f):Mk K C f:=⟨m.mks,m.ini,x.fn,m.kC⟩
theorem FX.me{K:Frag}{n q:Str}{s:Stmt}{f C:Addr}{m:Str}(x:FX K n q s f)(a:findIn K (.ref C) m=some (some (.ref f))):Meth K C m f:=⟨a,x.fn,x.ex.choose_spec.kp⟩
section
variable{K:Frag}{x q:Str}{st:Stmt}{f:Addr}{fd:FuncData}{ps:List Str}
abbrev BA(x q:Str)(st:Stmt)(ps:List Str)(us:List Value):Prop:=∀(kV doc pm:Value)(an:Option Addr)(cdv ct:Value),bindArgs (PySem.W.fnOf x q (lL st) (dh st) (au st) .none kV doc pm an cdv ct) ⟨us,[]⟩=pure (ps.zip us)
theorem bd1(F:L2.Fun K x q st f fd)(hl:ps.length=1:=by rfl)(h:∀a,BA x q st ps [a]:=by intro _ _ _ _ _ _ _;rfl):Binds K fd ps []:=F.binds λ_ _ _ _ _ _ us e=>match us,e.trans hl with | [_],_=>h _ _ _ _ _ _ _
theorem bd2(F:L2.Fun K x q st f fd)(hl:ps.length=2:=by rfl)(h:∀a b,BA x q st ps [a,b]:=by intro _ _ _ _ _ _ _ _;rfl):Binds K fd ps []:=F.binds λ_ _ _ _ _ _ us e=>match us,e.trans hl with | [_,_],_=>h _ _ _ _ _ _ _ _
theorem bd3(F:L2.Fun K x q st f fd)(hl:ps.length=3:=by rfl)(h:∀a b c,BA x q st ps [a,b,c]:=by intro _ _ _ _ _ _ _ _ _;rfl):Binds K fd ps []:=F.binds λ_ _ _ _ _ _ us e=>match us,e.trans hl with | [_,_,_],_=>h _ _ _ _ _ _ _ _ _
theorem bd4(F:L2.Fun K x q st f fd)(hl:ps.length=4:=by rfl)(h:∀a b c d,BA x q st ps [a,b,c,d]:=by intro _ _ _ _ _ _ _ _ _ _;rfl):Binds K fd ps []:=F.binds λ_ _ _ _ _ _ us e=>match us,e.trans hl with | [_,_,_,_],_=>h _ _ _ _ _ _ _ _ _ _
theorem bd5(F:L2.Fun K x q st f fd)(hl:ps.length=5:=by rfl)(h:∀a b c d e,BA x q st ps [a,b,c,d,e]:=by intro _ _ _ _ _ _ _ _ _ _ _;rfl):Binds K fd ps []:=F.binds λ_ _ _ _ _ _ us e=>match us,e.trans hl with | [_,_,_,_,_],_=>h _ _ _ _ _ _ _ _ _ _ _
end
theorem scm{N P:List Str}{sc:Scope}(kind:sc.kind=.function:=by rfl)(co:sc.isCoroutine=false:=by rfl)(gen:sc.isGenerator=false:=by rfl)(nd:N.Nodup:=by decide +kernel)(pre:N.take P.length=P:=by rfl)
  (par:∀x∈P,sc.names.lookup x=some .local∨sc.names.lookup x=some .cell:=by decide +kernel) (Og:∀y∈sc.names,y.2≠.free:=by decide +kernel):aG N P sc:=⟨kind,co,gen,nd,pre,par,Og⟩
structure Inf(α:Type) where
 x:Str
 k:Nat
 ps:List Str
 F:List D->Out α
structure InfS where
 x:Str
 k:Nat
 ps:List Str
 F:Mem->List D->Res D
section
variable(P:Program)(w:World)(K:Frag)(mg:Str->Option Value)(base:Heap)
abbrev DD(Γ:Plc)(I:Inf D):Prop:=Def P w K mg base I.x I.k I.ps (spD K Γ I.ps.length I.F)
abbrev DDf(Γ:Plc)(I:Inf (List D)):Prop:=Def P w K mg base I.x I.k I.ps (spF K Γ I.ps.length I.F)
abbrev DA'(Γ:Plc)(I:Inf D):Prop:=DefA P w K mg base I.x I.k I.ps (λL=>spD K (xt Γ L) I.ps.length I.F)
abbrev DAf(Γ:Plc)(I:Inf (List D)):Prop:=DefA P w K mg base I.x I.k I.ps (λL=>spF K (xt Γ L) I.ps.length I.F)
abbrev OD(Γ:Plc)(I:Inf D)(f:Addr)(fd:FuncData):Prop:=bY P w K mg base CX0 I.k f fd I.ps (spD K Γ I.ps.length I.F)
abbrev ODf(Γ:Plc)(I:Inf (List D))(f:Addr)(fd:FuncData):Prop:=bY P w K mg base CX0 I.k f fd I.ps (spF K Γ I.ps.length I.F)
abbrev ODg(Γ:Plc)(I:Inf (List (List D)))(f:Addr)(fd:FuncData):Prop:=bY P w K mg base CX0 I.k f fd I.ps (spFF K Γ I.ps.length I.F)
abbrev ODs(Γ:Plc)(I:InfS)(f:Addr)(fd:FuncData):Prop:=bY P w K mg base CX0 I.k f fd I.ps (spS K Γ I.ps.length I.F)
end
section
variable{P:Program}{w:World}{K:Frag}{mg:Str->Option Value}{base:Heap}{Γ:Plc}{x q:Str}{st:Stmt}{f:Addr}{fd:FuncData}{N:List Str}{k:Nat}
abbrev BodyOk(P:Program)(w:World)(K:Frag)(mg:Str->Option Value)(base:Heap)(Γ:Plc)(q:Str)(st:Stmt)(f:Addr)(N:List Str)(k:Nat)(g:DSt->Out Fl):Prop:=∀(cdv:Value)(A:Around)(outer:List Env)(s:Shared)(H:Hp)(E:XK),cZ k (A.deeper (envOfC q (au st) s.heap.objs.size f cdv))->DSs (zE CX0 P w K mg base N q (au st) f cdv A outer s H E).nox Γ E0 (dh st) g
theorem okJ{I:Inf D}(k:Nat)(g:DSt->Out Fl)(F:L2.Fun K x q st f fd)(S:aG N I.ps (au st))(h:BodyOk P w K mg base Γ q st f N k g)(hk:I.k=k+1:=by rfl)(hF:I.F=λds=>(cj N.length g ds).bf:=by rfl):OD P w K mg base Γ I f fd:=by
 have:=DL.Fun.okD F S h
 rw[←hk,←hF] at this
 exact this
theorem okJf{I:Inf (List D)}(k:Nat)(g:DSt->Out Fl)(F:L2.Fun K x q st f fd)(S:aG N I.ps (au st))(h:BodyOk P w K mg base Γ q st f N k g)(hk:I.k=k+1:=by rfl)(hF:I.F=λds=>(runL N.length g ds).bf:=by rfl):ODf P w K mg base Γ I f fd:=by
 have:=DL.Fun.okF F S h
 rw[←hk,←hF] at this
 exact this
theorem okJg{I:Inf (List (List D))}(k:Nat)(g:DSt->Out Fl)(F:L2.Fun K x q st f fd)(S:aG N I.ps (au st))(h:BodyOk P w K mg base Γ q st f N k g)(hk:I.k=k+1:=by rfl)(hF:I.F=λds=>(runLL N.length g ds).bf:=by rfl):ODg P w K mg base Γ I f fd:=by
 have:=DL.Fun.okFF F S h
 rw[←hk,←hF] at this
 exact this
theorem okJs{I:InfS}(cell:Bool)(k:Nat)(g:DSt->Mem->Res Fl)(F:L2.Fun K x q st f fd)(S:aG N I.ps (au st))(h:∀(cdv:Value) (A:Around) (outer:List Env) (s:Shared) (H:Hp) (E:XK),cZ k (A.deeper (envOfC q (au st) s.heap.objs.size f cdv))->SSs (zE CX0 P w K mg base N q (au st) f cdv A outer s H E).nox Γ E0 (dh st) g)
  (hk:I.k=k+1:=by rfl) (hF:I.F=λμ ds=>(runS cell N.length g μ ds).bf:=by rfl):ODs P w K mg base Γ I f fd:=by
 have:=DL.Fun.okS cell F S h
 rw[←hk,←hF] at this
 exact this
end
section
variable{X:Cx}{Γ:Plc}{E:XK}{e a b c o:Expr}{pos apos p:Pos}{es:List Expr}{x m:Str}{j k n i:Nat}{ps:List Str}{pos':Pos}
theorem cH(i:Nat){fa:DSt->Out D}(hN:X.N.Nodup)(he:DE X Γ E e fa)(hi:X.N[i]?=some x:=by rfl)(hx:Loc X.env.scope x:=by first | exact Or.inl rfl | exact Or.inr rfl)(hs:swapsWith e (some (.Name x pos')) pos.line X.env=pure false:=by rfl)
  (hf:X.fn x=true∨X.env.scope.names.lookup x=some .local:=by first | exact .inl rfl | exact .inr rfl | assumption):DS X Γ E (.Assign [.Name x pos'] e pos) (bR i fa):=ds_set i (λh=>Ov hN hi hx h hs hf) he
theorem uG(i:Nat){fa:DSt->Out (List D)}(hN:X.N.Nodup)(he:DF X Γ E e fa)(hi:X.N[i]?=some x:=by rfl)(hx:Loc X.env.scope x:=by first | exact Or.inl rfl | exact Or.inr rfl)(hs:swapsWith e (some (.Name x pos')) pos.line X.env=pure false:=by rfl)
  (hf:X.fn x=true∨X.env.scope.names.lookup x=some .local:=by first | exact .inl rfl | exact .inr rfl | assumption):DS X Γ E (.Assign [.Name x pos'] e pos) (gU i fa):=ds_setl i (λh=>Ov hN hi hx h hs hf) he
theorem ngn{i:Nat}(hN:X.N.Nodup)(hi:X.N[i]?=some x:=by rfl)(hx:Loc X.env.scope x:=by first | exact Or.inl rfl | exact Or.inr rfl)(hf:X.fn x=true∨X.env.scope.names.lookup x=some .local:=by first | exact .inl rfl | exact .inr rfl | assumption):DG X Γ (.Name x pos) (gN i):=Px (Qi hN hi hx hf)
theorem nv(i:Nat)(hN:X.N[i]?=some x:=by rfl)(hv:Vis X.env.scope x:=by first | exact Or.inl rfl | exact Or.inr (Or.inl rfl) | exact Or.inr (Or.inr rfl))(hd:(x==("__debug__":Str))=false:=by decide)
  (hcd:(x==("__classdict__":Str))=false:=by decide):DE X Γ E (.Name x pos) (gv i):=de_var i (pe_var hN hv hd hcd)
section
theorem bx{F:List D->Out D}{fr:DSt->Out (List D)}(Df:Def X.prog X.w X.K X.mg X.base x k ps (spD X.K Γ n F))(hr:cZ j X.A)(ha:DA X Γ E (e::es) fr)(hk:k<=j:=by decide)(hg:Gl X x:=by rfl)(hdb:(x==("__debug__":Str))=false:=by decide)
  (he:starEach (e::es) X.env=(false,eval e X.env)::starEach es X.env:=by rfl) (hpl:(backTo pos (starEach es X.env)).any (·.1)=false:=by rfl):DE X Γ E (.Call (.Name x p) (e::es) [] pos) (oF n F fr):=by
 obtain⟨f,fd,G,b,m,kk⟩:=Df.ex
 exact dcall (Ja G (hr.mono hk) hg m kk b .nil Cd ha hdb he hpl)
theorem ncallF{F:List D->Out (List D)}{fr:DSt->Out (List D)}(Df:Def X.prog X.w X.K X.mg X.base x k ps (spF X.K Γ n F))(hr:cZ j X.A)(ha:DA X Γ E (e::es) fr)(hk:k<=j:=by decide)(hg:Gl X x:=by rfl)(hdb:(x==("__debug__":Str))=false:=by decide)
  (he:starEach (e::es) X.env=(false,eval e X.env)::starEach es X.env:=by rfl) (hpl:(backTo pos (starEach es X.env)).any (·.1)=false:=by rfl):DF X Γ E (.Call (.Name x p) (e::es) [] pos) (oFl n F fr):=by
 obtain⟨f,fd,G,b,m,kk⟩:=Df.ex
 exact dcallF (Ja G (hr.mono hk) hg m kk b .nil Cd ha hdb he hpl)
theorem Ft{c n:Nat}{C:Addr}{F:List D->Out (List (Str×D))}{fr:DSt->Out (List D)}(N:Ini X.prog X.w X.K X.mg X.base C k ps (spI X.K Γ c n F))(hr:cZ j X.A)(hm:X.mg x=some (.ref C))(ha:DA X Γ E (e::es) fr)(hC:Γ c=some C:=by rfl)(hk:k+1<=j:=by decide)(hg:Gl X x:=by rfl)
  (hdb:(x==("__debug__":Str))=false:=by decide) (he:starEach (e::es) X.env=(false,eval e X.env)::starEach es X.env:=by rfl) (hpl:(backTo pos (starEach es X.env)).any (·.1)=false:=by rfl):DE X Γ E (.Call (.Name x p) (e::es) [] pos) (oMk c n F fr):=by
 obtain⟨f,fd,M,G,b⟩:=N.ex
 exact dmake hC (pe_make M G (hr.mono hk) hg hm b .nil Cd ha hdb he hpl)
theorem HQ{c n:Nat}{C:Addr}{F:List D->Out (List (Str×D))}(N:Ini X.prog X.w X.K X.mg X.base C k ps (spI X.K Γ c n F))(hr:cZ j X.A)(hm:X.mg x=some (.ref C))(hC:Γ c=some C:=by rfl)(hk:k+1<=j:=by decide)(hg:Gl X x:=by rfl)
  (hdb:(x==("__debug__":Str))=false:=by decide):DE X Γ E (.Call (.Name x p) [] [] pos) (oMk c n F aM):=by
 obtain⟨f,fd,M,G,b⟩:=N.ex
 exact dmake0 hC (pe_make0 M G (hr.mono hk) hg hm b .nil Cd hdb)
end
theorem ngc{i:Nat}(hN:X.N.Nodup:=by(show List.Nodup (_::_));decide +kernel)(hi:X.N[i]?=some x:=by rfl)(hx:Loc X.env.scope x:=by first | exact Or.inl rfl | exact Or.inr rfl)(hf:X.fn x=true∨X.env.scope.names.lookup x=some .local:=by first | exact .inl rfl | exact .inr rfl | assumption):DG X Γ (.Name x pos) (gN i):=Px (Qi hN hi hx hf)
theorem u9{M:List (Nat×(List D->Out D))}{fo:DSt->Out D}{pl:Sem Bool}(hM:gQ X.prog X.w X.K X.mg X.base Γ m (spD X.K Γ n) k M)(hr:cZ j X.A)(he:DE X Γ E o fo)(hk:k<=j:=by decide)
  (ht:eval (.Call (.Attribute o m apos) [] [] pos) X.env=(do
   let ov ←eval o X.env
   standAt apos.atName
   let (f,first) ←holding [ov] (getMethod ov m pl)
   callWith pos f first (backTo pos (starEach [] X.env)) (backToKw pos (keywordEach [] X.env))):=by rfl):DE X Γ E (.Call (.Attribute o m apos) [] [] pos) (oM m n M fo aM):=de_meth0 (Rh (hM.ok (hr.mono hk)) Cd he ht)
theorem napp(i:Nat){fa:DSt->Out D}{cpos:Pos}(he:DE X Γ E e fa)(hv:PE X (.Name x p) (m7 i):=by exact pv _)(hh:∀{to te:TE},PE X (.Name x p) to->PE X e te->PS X (.Expr (.Call (.Attribute (.Name x p) "append" apos) [e] [] cpos) pos) (zm (tBM X.K "list" Jc to (je te m6))):=by exact λa b=>oO (gR PySem.F.plainAttrs_list PySem.F.slot_list_append PySem.F.type_list_append Fq a (aU b bD))):
  DS X Γ E (.Expr (.Call (.Attribute (.Name x p) "append" apos) [e] [] cpos) pos) (vm i fa):=ds_app i hv he hh
variable{iter tg:Expr}{body:List Stmt}
theorem uZ{fi:DSt->Out (List D)}{t:D->DSt->Option DSt}{g:DSt->Out Fl}(hi:DI X Γ E tg iter fi)(hg:DG X Γ tg t)(hb:DSs X Γ E body g)(hp:PassesOwn (model X.prog X.w) X.A X.env X.xe:=by exact PassesOwn.never)(hc:X.calm=true:=by rfl)(hs:∀x,foldedSetIterable iter X.env x=pure x:=by intro _;rfl):DS X Γ E (.For tg iter body [] pos) (mF fi t g):=ds_for (λa b c=>ps_for hp hc a b c hs) hi hg hb
end
end DL
namespace L2
open PySem PySem.Spec PyProof.Rows
section
variable{X:Cx}{pins:List (Addr×Obj)}{σ:St}{H:Hp}{s:Shared}
open Classical in
end
end L2
namespace DL
open PySem PySem.Spec PyProof.Rows MX L2
section
variable{X:Cx}{Γ:Plc}{E:XK}{a b:Expr}{pos:Pos}{fa fb:DSt->Out D}
end
section
variable{X:Cx}{Γ:Plc}{E:XK}{a b c e o:Expr}{pos apos cpos:Pos}{f:DSt->Mem->Res D}{ft:DSt->Mem->Res Bool}
end
end DL
namespace DL
open PySem PySem.Spec PyProof.Rows MX L2 PySem.Builtin PySem.Builtin.Str
theorem FZ:∀(l:List (Str×Tok)),Vals ((l.map (·.1)).map V.str) (strValues l)
 | []=>.nil
 | p::l=>.cons ⟨p.2,rfl⟩ (FZ l)
section
variable{X:Cx}{pins:List (Addr×Obj)}{σ:L2.St}{H:Hp}{s:Shared}{Q:VK}
theorem yu{l:List (Str×Tok)}{ss:List Str}{tk:Nat}(I:Inv X pins σ H s)(e:l.map (·.1)=ss)(hz:ss.length<=sizeLine)(q:∀p,H p=none->Q (.ref p) (upd H p (.lst (ss.map V.str)))):
  EP X pins σ Q (.ref s.heap.objs.size) { s with heap:=s.heap.push { cls:=.type "list",data:=.seq (strValues l).toArray },toks:=tk }:=by
 refine⟨.ref s.heap.objs.size,_,I.laid (o:=.lst (ss.map V.str)) (λb u e=>Heap.get?_push_of_some _ e) (Nat.le_refl _) ?_,rfl,q _ (I.hok.fresh (Nat.le_refl _))⟩
 exact⟨by rw[List.length_map];exact hz,strValues l,0,e▸FZ l,Heap.get?_push_size _ rfl⟩
def rSplit:V->List V->Hp->VK->Prop:=λx vs H Q=>∃z y:Str,x=.str z/\vs=[.str y]/\(y.length==0)=false/\z.length<=sizeLine/\(Txt.split z y).length<=sizeLine/\∀p,H p=none->Q (.ref p) (upd H p (.lst ((Txt.split z y).map V.str)))
theorem wQ:MtR X "str.split" rSplit:=by
 intro pins s σ H x vs v us Q I rx rv h
 obtain⟨z,y,rfl,rfl,hy,hz,hn,k⟩:=h
 obtain⟨t,rfl⟩:=rx
 obtain⟨u,rfl,ru⟩:=rv.one
 obtain⟨u,rfl⟩:=ru
 cases h1:(decide (z.length<y.length) || decide (strKind z<strKind y))
 .cases hf:(occurrences z y 0 z.length (z.length+1)).isEmpty
  .have e:Txt.split z y=partsBetween z (occurrences z y 0 z.length (z.length+1)) y.length:=(if_neg (ne_true_of_eq_false h1)).trans (if_neg (ne_true_of_eq_false hf))
   rw[e] at hn k
   refine call_meets PySem.F.slot_str_split (typeIs_str _ _ _) PySem.F.entry_str_split (PySem.F.args_str_split_2 _ _) (meets_str_split_sep z y t u h1 hy hf hz hn) ?_
   show wants _ _ _ { s with toks:=_,heap:=s.heap.push { cls:=.type "list",data:=.seq (strsFrom s.toks (partsBetween z (occurrences z y 0 z.length (z.length+1)) y.length)).toArray } }
   rw[strsFrom_eq]
   exact yu I (numbered_texts _ _) hn k
  .have e:Txt.split z y=[z]:=(if_neg (ne_true_of_eq_false h1)).trans (if_pos hf)
   rw[e] at hn k
   exact call_meets PySem.F.slot_str_split (typeIs_str _ _ _) PySem.F.entry_str_split (PySem.F.args_str_split_2 _ _) (meets_str_split_not_found z y t u h1 hy hf) (yu (l:=[(z,t)]) (tk:=s.toks) I rfl hn k)
 .have e:Txt.split z y=[z]:=if_pos h1
  rw[e] at hn k
  exact call_meets PySem.F.slot_str_split (typeIs_str _ _ _) PySem.F.entry_str_split (PySem.F.args_str_split_2 _ _) (meets_str_split_cannot_occur z y t u h1) (yu (l:=[(z,t)]) (tk:=s.toks) I rfl hn k)
def rPart:V->List V->Hp->VK->Prop:=λx vs H Q=>∃z y:Str,x=.str z/\vs=[.str y]/\(y.length==0)=false/\z.length<=sizeLine/\∀p,H p=none->Q (.ref p) (upd H p (.tup [.str (Txt.partition z y).1,.str (Txt.partition z y).2.1,.str (Txt.partition z y).2.2]))
theorem Fp{a b c:Str}{ta tb tc:Tok}{tk:Nat}(I:Inv X pins σ H s)(q:∀p,H p=none->Q (.ref p) (upd H p (.tup [.str a,.str b,.str c]))):
  EP X pins σ Q (.ref s.heap.objs.size) { s with heap:=s.heap.push { cls:=.type "tuple",data:=.seq [.str a ta,.str b tb,.str c tc].toArray },toks:=tk }:=by
 refine⟨.ref s.heap.objs.size,_,I.laid (o:=.tup [.str a,.str b,.str c]) (λb u e=>Heap.get?_push_of_some _ e) (Nat.le_refl _) ?_,rfl,q _ (I.hok.fresh (Nat.le_refl _))⟩
 exact⟨(by show 3<=sizeLine;decide),[.str a ta,.str b tb,.str c tc],.cons ⟨ta,rfl⟩ (.cons ⟨tb,rfl⟩ (.cons ⟨tc,rfl⟩ .nil)),⟨_,Heap.get?_push_size _ rfl,rfl,_,rfl⟩⟩
theorem Qe:MtR X "str.partition" rPart:=by
 intro pins s σ H x vs v us Q I rx rv h
 obtain⟨z,y,rfl,rfl,hy,hz,k⟩:=h
 obtain⟨t,rfl⟩:=rx
 obtain⟨u,rfl,ru⟩:=rv.one
 obtain⟨u,rfl⟩:=ru
 refine call_meets PySem.F.slot_str_partition (typeIs_str _ _ _) PySem.F.entry_str_partition (PySem.F.args_str_partition_2 _ _) (meets_str_partition z y t u hy hz) ?_
 unfold Txt.partition at k
 revert k
 cases occurrences z y 0 z.length 1 with
 | nil=>intro k;exact Fp I k
 | cons i r=>intro k;exact Fp I k
def rSw:V->List V->Hp->VK->Prop:=λx vs H Q=>∃z y:Str,x=.str z/\vs=[.str y]/\Q (.bl (Txt.startswith z y)) H
theorem mt_sw:MtR X "str.startswith" rSw:=by
 intro pins s σ H x vs v us Q I rx rv h
 obtain⟨z,y,rfl,rfl,k⟩:=h
 obtain⟨t,rfl⟩:=rx
 obtain⟨u,rfl,ru⟩:=rv.one
 obtain⟨u,rfl⟩:=ru
 exact call_gives PySem.F.slot_str_startswith (typeIs_str _ _ _) PySem.F.entry_str_startswith (PySem.F.args_str_startswith_2 _ _) (gives_str_startswith z y t u) ⟨.bl (Txt.startswith z y),H,I,rfl,k⟩
theorem QG:jo X (.type "str") (λxs H Q=>∃i,xs=[.int i]/\i.natAbs.log2<1920/\Q (.str (toString i:String)) H):=by
 intro pins s σ H xs us Q I r h
 obtain⟨i,rfl,hi,q⟩:=h
 obtain⟨u,rfl,t,rfl⟩:=vals1 r
 exact P.str_of_int hi ⟨.str (toString i:String),H,I.tok _,⟨_,rfl⟩,q⟩
end
section
variable{X:Cx}{Γ:Nat->Option Addr}{E:XK}{e a b c o:Expr}{pos:Pos}{es:List Expr}{fa fb fo:DSt->Out D}{fr:DSt->Out (List D)}{ft:DSt->Out Bool}{K:Frag}{G H:Hp}
def oTx(h:Str->Str->Option D)(fo fa:DSt->Out D):DSt->Out D:=λδ=>(fo δ).bind λd=>match d with
 | .str z=>(fa δ).bind λy=>match y with
  | .str y=>.opt (h z y)
  | _=>.stuck
 | _=>.stuck
theorem de_tx{r:V->List V->Hp->VK->Prop}{h:Str->Str->Option D}{m:Str}{apos cpos:Pos}(hr:∀{G H:Hp} {z y:Str} {d:D} {Q:VK},h z y=some d->aQ G H->okD X.K Γ G H Q d->r (.str z) [.str y] H Q)
  (ho:DE X Γ E o fo) (ha:DE X Γ E a fa) (hh:∀{to te:TE},PE X o to->PE X a te->PE X (.Call (.Attribute o m apos) [a] [] cpos) (tBM X.K "str" r to (je te m6))):DE X Γ E (.Call (.Attribute o m apos) [a] [] cpos) (oTx h fo fa):=PE.imp (hh ho ha) λσ H Q ⟨G0,H0,G,δ,S,w⟩=>by
 refine⟨G0,H0,G,δ,S,(ao w).mono (λd w v G1 H1 s1 r1=>?_) λ_ k=>k⟩
 split at w
 .rename_i z
  cases r1
  refine⟨rfl,G0,H0,G1,δ,S.step s1,(ao w).mono (λy w u G2 H2 s2 r2=>?_) λ_ k=>k.step s1⟩
  split at w
  .cases r2
   obtain⟨r,e,k⟩:=bh w
   exact hr e s2.gh (k.step (s1.trans s2))
  .exact False.elim w
 .exact False.elim w
theorem Ly:∀ss:List Str,aC K Γ G (ss.map V.str) (ss.map D.str)
 | []=>.nil
 | x::ss=>.cons (.str x) (Ly ss)
def ir(z y:Str):Option D:=if (y.length==0)=false/\z.length<=sizeLine/\(Txt.split z y).length<=sizeLine then some (.lst ((Txt.split z y).map D.str)) else none
theorem vW{m:Str}{apos cpos:Pos}(ho:DE X Γ E o fo)(ha:DE X Γ E a fa)(hh:∀{to te:TE},PE X o to->PE X a te->PE X (.Call (.Attribute o m apos) [a] [] cpos) (tBM X.K "str" rSplit to (je te m6))):DE X Γ E (.Call (.Attribute o m apos) [a] [] cpos) (oTx ir fo fa) :=
 de_tx (λe s k=>by
  unfold ir at e
  split at e
  .rename_i h
   cases e
   exact⟨_,_,rfl,rfl,h.1,h.2.1,h.2.2,λp hp=>k _ _ _ (.new s hp) (.lst aO (Ly _))⟩
  .cases e) ho ha hh
def zg(z y:Str):Option D:=if (y.length==0)=false/\z.length<=sizeLine then some (.tup [.str (Txt.partition z y).1,.str (Txt.partition z y).2.1,.str (Txt.partition z y).2.2]) else none
theorem Pu{m:Str}{apos cpos:Pos}(ho:DE X Γ E o fo)(ha:DE X Γ E a fa)(hh:∀{to te:TE},PE X o to->PE X a te->PE X (.Call (.Attribute o m apos) [a] [] cpos) (tBM X.K "str" rPart to (je te m6))):DE X Γ E (.Call (.Attribute o m apos) [a] [] cpos) (oTx zg fo fa) :=
 de_tx (λe s k=>by
  unfold zg at e
  split at e
  .rename_i h
   cases e
   exact⟨_,_,rfl,rfl,h.1,h.2,λp hp=>k _ _ _ (.new s hp) (.tup aO (.cons (.str _) (.cons (.str _) (.cons (.str _) .nil))))⟩
  .cases e) ho ha hh
def swD(z y:Str):Option D:=some (.bl (Txt.startswith z y))
theorem de_sw{m:Str}{apos cpos:Pos}(ho:DE X Γ E o fo)(ha:DE X Γ E a fa)(hh:∀{to te:TE},PE X o to->PE X a te->PE X (.Call (.Attribute o m apos) [a] [] cpos) (tBM X.K "str" rSw to (je te m6))):DE X Γ E (.Call (.Attribute o m apos) [a] [] cpos) (oTx swD fo fa) :=
 de_tx (λe s k=>by
  cases e
  exact⟨_,_,rfl,rfl,k _ _ _ (.refl s) (.bl _)⟩) ho ha hh
def strD:D->Option D
 | .int i=>if i.natAbs.log2<1920 then some (.str (toString i:String)) else none
 | _=>none
theorem z7{p:Pos}(hg:Gl X "str")(hm:X.mg "str"=none)(ha:DE X Γ E a fa)(hs:starEach [a] X.env=[(false,eval a X.env)]:=by rfl):DE X Γ E (.Call (.Name "str" p) [a] [] pos) (o1 strD fa) :=
 dC1 (λG H v dx d Q s r e k=>by
  unfold strD at e
  split at e
  .split at e
   .cases e;cases r;exact⟨_,rfl,‹_›,k _ G H (.refl s) (.str _)⟩
   .cases e
  .cases e) (jC QG hg hm (by decide +kernel) (aU (aK ha) bD (by rw[hs];rfl)) (by decide) (by decide) (by rw[hs];rfl) (by rfl))
def dIx(i:Nat)(fk:DSt->Out D):DSt->Out D:=λδ=>match dkOf i δ with
 | some kvs=>(fk δ).bind λk=>match BJ k with
  | some key=>.opt (uW kvs key)
  | none=>.stuck
 | none=>.stuck
theorem de_dix(i:Nat){x:Str}{p:Pos}(hu:X.A.units+64<cLine)(hv:PE X (.Name x p) (m7 i))(ha:DE X Γ E a fa)(hs:NoSl a):DE X Γ E (.Subscript (.Name x p) a pos) (dIx i fa) :=
 PE.imp (pe_dget (by omega) hv ha hs) λσ H Q ⟨G0,H0,G,δ,S,w⟩=>by
  unfold dIx at w
  split at w
  .rename_i kds ek
   obtain⟨aa,vs,hvi,h1,r⟩:=S.dk ek
   refine⟨_,hvi,G0,H0,G,δ,S,(ao w).mono (λd w u G1 H1 s1 r1=>?_) λ_ k=>k⟩
   split at w
   .rename_i key ekey
    have e:=r1.key ekey
    subst e
    obtain⟨d',e',k⟩:=bh w
    rcases (r.mono s1.gg).get (k:=key) with⟨z1,z2⟩| ⟨v,d'',z1,z2,z3⟩
    .rw[z2] at e';cases e'
    .rw[z2] at e'
     cases e'
     exact⟨aa,v,rfl,z1▸xJ.k (s1.hh _ _ h1),k _ G1 H1 s1 z3⟩
   .exact False.elim w
  .exact False.elim w
end
end DL
namespace DL
open PySem PySem.Spec PyProof.Rows MX L2 PySem.Builtin PySem.Builtin.Str
section
variable{X:Cx}{pins:List (Addr×Obj)}{σ:L2.St}{H:Hp}{s:Shared}{a:Addr}{kvs:List (Key×V)}{k:Key}{u r:Value}{v:V}{A:Around}{E:Value->Shared->Prop}
theorem d_setdef{Q:Value->Shared->Prop}(I:Inv X pins σ H s)(e:H a=some (.dK kvs))(hl:kvs.length<sizeLine)(ry:RelV (kV k) u)(rv:RelV v r)
  (h1:∀x w' s',kY kvs k=some x->Inv X pins σ H s'->RelV x w'->Q w' s') (h2:∀s',kY kvs k=none->Inv X pins σ (upd H a (.dK (putK kvs k v))) s'->Q r s') :
  wpAny (model X.prog X.w) A (call (.builtin "dict.setdefault") [.ref a,u,r]) Q E s:=by
 obtain⟨z,hd,vs,rel,dd⟩:=dk_of I.hok e
 have hlp:(putK kvs k v).length<=sizeLine:=by have:=K7 kvs k v;omega
 have rk:=rel.val k
 refine call_meetsIn PySem.F.slot_dict_setdefault dd.typeIs PySem.F.entry_dict_setdefault (PySem.F.args_dict_setdefault_3 _ _ _) (kt_meets_setdefault (cV X.prog X.w) a (K4 ry) hd r)
  ⟨vs,dd,by rw[←rel.length];exact z,λw' hw=>?_,λhn h' dd' hs=>?_⟩
 .rw[hw] at rk
  cases l:kY kvs k with
  | none=>rw[l] at rk;exact(show False from rk).elim
  | some x=>rw[l] at rk;exact h1 x w' _ l (I.tok _) rk
 .have l:kY kvs k=none:=by
   rw[hn] at rk
   cases l:kY kvs k with
   | none=>rfl
   | some x=>rw[l] at rk;exact(show False from rk).elim
  have he:∃q,h'.get? a=some q:=let ⟨q,_,_,hq,_⟩:=dd';⟨q,hq⟩
  exact h2 _ l (d_write I (by rw[e];exact True.intro) hs he (dk_new hlp hd (rel.put k rv) dd'))
end
def tDSetDef(td ty tx:TE):TE:=λσ H Q=>td σ H λx H1=>∃a,x=.ref a/\IsD H1 a/\ty σ H1 λy H2=>tx σ H2 λz H3=>∃kvs k,H3 a=some (.dK kvs)/\kvs.length<sizeLine/\y=kV k /\
 (∀v,kY kvs k=some v->Q v H3)/\(kY kvs k=none->Q z (upd H3 a (.dK (putK kvs k z))))
section
variable{X:Cx}{o e f:Expr}{apos cpos:Pos}{td ty tx:TE}
theorem Ri(ho:PE X o td)(he:PE X e ty)(hf:PE X f tx)(m:M2 X o "setdefault" apos e f cpos):PE X (.Call (.Attribute o "setdefault" apos) [e,f] [] cpos) (tDSetDef td ty tx):=by
 intro pins s σ H Q I h
 refine wpAny_Call_method m.base m.few m.line PySem.F.plainAttrs_dict PySem.F.slot_dict_setdefault PySem.F.type_dict_setdefault (thn (ho pins s σ H _ I h) λu s1 ⟨x,H1,I1,rx,a,ex,d,q1⟩=>?_)
 subst ex
 obtain rfl:u=Value.ref a:=rx
 obtain⟨t1,t2,_⟩:=isD_at I1 d
 refine⟨t1,t2,?_⟩
 rw[m.trees]
 refine Calls.callWith_builtin rfl (Calls.evalArgs_plain (Calls.spliced_cons (thn (he pins s1 σ H1 _ I1 q1) λiv s2 ⟨y,H2,I2,ry,q2⟩ =>
  Calls.spliced_cons (thn (hf pins s2 σ H2 _ I2 q2) λfv s3 ⟨z,H3,I3,rz,kvs,k,ea,hl,ey,q3,q4⟩=>Calls.spliced_nil ?_))))
 subst ey
 exact d_setdef I3 ea hl ry rz (λx w' s4 l I4 rw'=>⟨x,_,I4,rw',q3 x l⟩) λs4 l I4=>⟨z,_,I4,rz,q4 l⟩
end
section
variable{X:Cx}{Γ:Nat->Option Addr}{E:XK}{e a b c o:Expr}{pos:Pos}{es:List Expr}{fa fb fo:DSt->Out D}{fr:DSt->Out (List D)}{ft:DSt->Out Bool}{K:Frag}{G H:Hp}
def wX(i:Nat)(fk fv:DSt->Out D):DSt->Out Fl:=λδ=>match δ[i]? with
 | some (some (.od kvs))=>(fk δ).bind λk=>(fv δ).bind λv=>match BJ k with
  | some key=>if kvs.length<sizeLine then .ok (.nx (if Bv kvs key=true then δ else δ.set i (some (.od (Fy kvs key v))))) else .stuck
  | none=>.stuck
 | _=>.stuck
theorem QQ(i:Nat){x:Str}{p apos cpos:Pos}(hv:PE X (.Name x p) (m7 i))(ha:DE X Γ E a fa)(hb:DE X Γ E b fb)(m:M2 X (.Name x p) "setdefault" apos a b cpos)(hs:swapsWith (.Call (.Attribute (.Name x p) "setdefault" apos) [a,b] [] cpos) none pos.line X.env=pure false:=by rfl):
  DS X Γ E (.Expr (.Call (.Attribute (.Name x p) "setdefault" apos) [a,b] [] cpos) pos) (wX i fa fb) :=
 PS.imp (oO (Ri hv ha hb m) hs) λN σ H ⟨G0,H0,G,δ,S,w⟩=>by
  obtain⟨O,q⟩:=id S.sl
  unfold wX at w
  split at w
  .rename_i kvs ei
   obtain⟨v,hvi,aa,vs,ev,h1,h2,h3,h4,h5⟩:=id (q i _ ei)
   subst ev
   refine⟨_,hvi,aa,rfl,.inl ⟨vs,.inl h1⟩,G0,H0,G,δ,S,(ao w).mono (λd w u G1 H1 s1 r1=>?_) λx k=>exD.step k S.st⟩
   have S1:=S.step s1
   refine⟨G0,H0,G1,δ,S1,(ao w).mono (λd2 w u2 G2 H2 s2 r2=>?_) λx k=>exD.step k S1.st⟩
   split at w
   .rename_i key ek
    split at w
    .rename_i hz
     have S2:=S1.step s2
     have s12:=s1.trans s2
     have q1:∀i s,δ[i]?=some (some s)->∃v,σ[i]?=some (some v)/\bN X.K Γ H0 G2 H2 O i v s:=λj y e=>by
      obtain⟨v',z1,z2⟩:=q j y e
      exact⟨v',z1,z2.step s12⟩
     have ga:G2 aa=none:=s12.sep aa (by rw[h1];exact λz=>nomatch z) h2
     have e:=r1.key ek
     subst e
     refine⟨vs,key,s12.hh _ _ h1,by rw[h5.length];exact hz,rfl,λv' l=>?_,λl=>?_⟩
     .rw[if_pos (by rw[←h5.has,l];rfl)] at w
      exact w σ G2 H2 S2
     .rw[if_neg (by rw[←h5.has,l];exact Bool.false_ne_true)] at w
      exact w σ G2 _ (S2.write q1 ga h3 h4 hvi ⟨aa,_,rfl,aO,ga,h3,h4,dG.put r2 (h5.mono s12.gg)⟩)
    .exact False.elim w
   .exact False.elim w
  .exact False.elim w
def rIdxS(K:Frag):V->List V->Hp->VK->Prop:=λx vs H Q=>∃(l:Addr)(is:List Str)(i:Str)(j:Nat),x=.ref l/\vs=[.str i]/\SqL K H l (is.map V.str)/\is[j]?=some i/\(∀m,m<j->is[m]?≠some i)/\Q (.int j) H
def eqS(i:Str):Value->Bool
 | .str k _=>k==i
 | _=>false
theorem Rf:MtR X "list.index" (rIdxS X.K):=by
 intro pins s σ H x vs v us Q I rx rv h
 obtain⟨l,is,i,j,rfl,rfl,hq,hj,hn,k⟩:=h
 cases rx
 obtain⟨u,rfl,ru⟩:=rv.one
 obtain⟨t,rfl⟩:=ru
 obtain⟨its,r',pl,hz⟩:=I.list hq
 obtain⟨ob,n0,ho,hcls,hdict,hdat⟩:=pl
 obtain⟨c,dd,dat,sl⟩:=ob
 simp only at hcls hdict hdat
 subst hcls hdict hdat
 have gi:∀(m:Nat)(w:Value),its[m]?=some w->∃k t,is[m]?=some k/\w=Value.str k t:=λm w e=>by
  cases hm:is[m]? with
  | none =>
   have l1:is.length<=m:=List.getElem?_eq_none_iff.mp hm
   have l2:=(List.getElem?_eq_some_iff.mp e).1
   have:=r'.length
   rw[List.length_map] at this
   omega
  | some k =>
   obtain⟨u,e1,t,e2⟩:=r'.get (i:=m) (x:=V.str k) (by rw[List.getElem?_map,hm];rfl)
   rw[e] at e1
   cases e1
   exact⟨k,t,rfl,e2⟩
 have lj:j<its.length:=by
  have:=r'.length
  rw[List.length_map] at this
  have:=(List.getElem?_eq_some_iff.mp hj).1
  omega
 rw[List.length_map] at hz
 have zl:its.length<=sizeLine:=by have:=r'.length;rw[List.length_map] at this;omega
 refine call_meets PySem.F.slot_list_index ⟨_,ho,rfl⟩ PySem.F.entry_list_index (PySem.F.args_list_index_2 _ _) (SeqAt.list_indexAt l its.toArray n0 none sl (.str i t) (eqS i) j (by simpa using lj) (by rw[sizeLine_eq] at zl;omega) ?_ ?_) ⟨ho,λy hy=>?_,?_⟩
 .obtain⟨k,t',e1,e2⟩:=gi j _ (List.getElem?_eq_getElem lj)
  rw[hj] at e1
  cases e1
  show eqS i its[j]=true
  rw[e2]
  simp[eqS]
 .intro m hm h2
  have lm:m<its.length:=by simpa using hm
  obtain⟨k,t',e1,e2⟩:=gi m _ (List.getElem?_eq_getElem lm)
  show eqS i its[m]=false
  rw[e2]
  show (k==i)=false
  rw[beq_eq_false_iff_ne]
  exact λz=>hn m h2 (by rw[e1,z])
 .obtain⟨m,hm,rfl⟩:=List.getElem_of_mem (show y∈its by simpa using hy)
  obtain⟨k,t',e1,e2⟩:=gi m _ (List.getElem?_eq_getElem hm)
  rw[e2]
  exact SeqAt.EqAt.str_str k t' i t
 .exact⟨.int j,H,I.tok _,⟨_,rfl⟩,k⟩
def fstS(i:Str):List Str->Nat->Option Nat
 | [],_=>none
 | x::r,k=>if x=i then some k else fstS i r (k+1)
theorem Fb{i:Str}:∀{l:List Str}{k j:Nat},fstS i l k=some j->k<=j/\l[j - k]?=some i/\∀m,m<j - k->l[m]?≠some i
 | [],_,_,h=>by cases h
 | x::r,k,j,h=>by
  unfold fstS at h
  split at h
  .rename_i z
   cases h
   exact⟨Nat.le_refl _,by rw[Nat.sub_self,z];rfl,λm hm=>by omega⟩
  .rename_i z
   obtain⟨h1,h2,h3⟩:=Fb h
   refine⟨by omega,?_,λm hm=>?_⟩
   .rw[show j - k=(j - (k+1))+1 by omega]
    exact h2
   .cases m with
    | zero=>exact λq=>z (Option.some.inj q)
    | succ m=>exact h3 m (by omega)
def KY(d x:D):Option D:=match x with
 | .str i=>(gY d).bind λds=>(m5 ds).bind λis=>(fstS i is 0).map λj=>.int (j:Nat)
 | _=>none
def oIdxS(fo fa:DSt->Out D):DSt->Out D:=λδ=>(fo δ).bind λd=>if K1 d=true then (fa δ).bind λy=>.opt (KY d y) else .stuck
theorem QK{apos cpos:Pos}{m:Str}(ho:DE X Γ E o fo)(ha:DE X Γ E a fa)(hh:∀{to te:TE},PE X o to->PE X a te->PE X (.Call (.Attribute o m apos) [a] [] cpos) (tBM X.K "list" (rIdxS X.K) to (je te m6))):DE X Γ E (.Call (.Attribute o m apos) [a] [] cpos) (oIdxS fo fa):=PE.imp (hh ho ha) λσ H Q ⟨G0,H0,G,δ,S,w⟩=>by
 refine⟨G0,H0,G,δ,S,(ao w).mono (λd w v G1 H1 s1 r1=>?_) λ_ k=>k⟩
 split at w
 .rename_i hL
  refine⟨r1.listTy hL s1.gh,G0,H0,G1,δ,S.step s1,(ao w).mono (λy w u G2 H2 s2 r2=>?_) λ_ k=>k.step s1⟩
  obtain⟨r,e,k⟩:=bh w
  unfold KY at e
  split at e
  .rename_i i
   obtain⟨ds,e1,e2⟩:=Option.bind_eq_some_iff.mp e
   obtain⟨is,e3,e4⟩:=Option.bind_eq_some_iff.mp e2
   obtain⟨j,e5,rfl⟩:=Option.map_eq_some_iff.mp e4
   obtain⟨q,vs,rfl,sq,ra⟩:=r1.gY e1
   obtain⟨_,f1,f2⟩:=Fb e5
   rw[Nat.sub_zero] at f1 f2
   cases r2
   exact⟨q,is,i,j,rfl,rfl,(ra.strs e3)▸s2.gh.seq (s2.gg.seq sq),f1,f2,k _ G2 H2 (s1.trans s2) (.int _)⟩
  .cases e
 .exact False.elim w
end
end DL
namespace PySem
open Sem (wp)
theorem Ow:typeLookup (.type "list_reverseiterator") "__len__"=pure none:=by rw[typeLookup_type,builtinLookup_eq_fast];kernel_rfl
theorem rev_hint:typeLookup (.type "list_reverseiterator") "__length_hint__"=pure (some (.builtin "list_reverseiterator.__length_hint__")):=by rw[typeLookup_type,builtinLookup_eq_fast];kernel_rfl
theorem rev_sub:isSubtype (.type "list_reverseiterator") (.type "list_reverseiterator")=pure true:=by rw[isSubtype_type];kernel_rfl
theorem Rn:splitId "list_reverseiterator.__length_hint__"=some ("list_reverseiterator","__length_hint__"):=by decide +kernel
section
variable{prog:Program}{w:World}{A:Around}{s:Shared}{R:Result->Shared->Prop}{E:Value->Shared->Prop}
theorem rev_room{I:Addr}{Q:Bool->Shared->Prop}(hT:s.TypeIs (.ref I) "list_reverseiterator")(h:Q false s):wpAny (model prog w) A (Builtin.List.listLengthHint (.ref I)) Q E s:=by
 unfold Builtin.List.listLengthHint
 refine wpAny_bind (wpAny_specialOf hT Ow ?_)
 show wpAny _ A (specialOf (Value.ref I) (Str.ofString "__length_hint__") >>= _) _ _ _
 refine wpAny_bind (wpAny_specialOf hT rev_hint ?_)
 dsimp only
 rw[Rn]
 dsimp only
 refine wpAny_bind (wpAny_isInstance (T:="list_reverseiterator") (b:=true) hT rev_sub ?_)
 exact wpAny_pure h
variable{I:Addr}{fp wr:List Addr}{G:Array GenState->Array GenState->Prop}{n:Nat}{P:Nat->Value->Prop}{St:Nat->Shared->Prop}
theorem yG(W:WalksS prog w A.in1 I fp wr G n P St)(hT:∀i s,St i s->s.TypeIs (.ref I) "list_reverseiterator")(S:Addr)(res:Value)(c₀:Nat)(hst:St 0 s)(hSf:S∉fp)(hI:I∈fp)
  (hS:s.heap.get? S=some { cls:=.type "list",data:=.seq #[] c₀ })
  (hR:∀s' acc' c',Moved (S::wr) G s s'->s'.heap.get? S=some { cls:=.type "list",dict:=none,data:=.seq acc' c',slots:=#[] }->ItemsOf P acc' n->R (.ok (.ret res)) s') (hn:n<=sizeLine) :
  wpAny (model prog w) A.in1 (Builtin.List.listExtendWith (.ref S) (.ref I) res)
   (λfin s'=>match fin with | .done f=>R (.ok f) s' | .again c'=>c'.quiet=true/\codeAny (model prog w) A c' R s') (λe s'=>R (.error e) s') s:=by
 have hSI:S≠I:=λe=>hSf (e▸hI)
 unfold Builtin.List.listExtendWith
 refine wpAny_bind (wpAny_typeOf (hT 0 _ hst) ?_)
 have h1:Builtin.List.listSameRef (.ref S) (.ref I)=false:=by simp[Builtin.List.listSameRef,hSI]
 have h2:(Value.type "list_reverseiterator"==Value.type "list")=false:=by decide
 have h3:(Value.type "list_reverseiterator"==Value.type "tuple")=false:=by decide
 simp only[h1,h2,h3,Bool.or_false,Bool.false_eq_true,if_false]
 refine wpAny_bind (W.self 0 _ _ _ hst ?_)
 refine wpAny_bind (wpAny_holding ?_)
 refine rev_room (hT 0 _ hst) ?_
 show wpAny _ A.in1 (again (.builtin "list.extend.loop" ⟨[.ref S,.ref I,res],[]⟩)) _ _ _
 exact wpAny_pure ⟨plainId_quiet F.plain_extend_loop _,codeAny_extend_loopS W hn _ hSf _ n 0 _ _ _ rfl (Nat.zero_le _) hst hS (ItemsOf.nil P) hR⟩
theorem uq(W:WalksS prog w A.in1 I fp wr G n P St)(hT:∀i s,St i s->s.TypeIs (.ref I) "list_reverseiterator")(S:Addr)(hst:St 0 s)(hSf:S∉fp)(hI:I∈fp)
  (hS:s.heap.get? S=some { cls:=.type "list",data:=.seq #[] })
  (hR:∀s' acc' c',Moved (S::wr) G s s'->s'.heap.get? S=some { cls:=.type "list",dict:=none,data:=.seq acc' c',slots:=#[] }->ItemsOf P acc' n->R (.ok (.ret .none)) s') (hn:n<=sizeLine) :
  wpAny (model prog w) A.in1 (Builtin.«list.__init__» ⟨[.ref S,.ref I],[]⟩)
   (λfin s'=>match fin with | .done f=>R (.ok f) s' | .again c'=>c'.quiet=true/\codeAny (model prog w) A c' R s') (λe s'=>R (.error e) s') s:=by
 show wpAny _ A.in1 (do let old ←Builtin.List.listItems (.ref S);Builtin.List.listUpdate (.ref S) (λ_=>#[]);letGo old.toList.reverse;Builtin.List.listExtendWith (.ref S) (.ref I) .none) _ _ s
 refine wpAny_bind ?_
 unfold Builtin.List.listItems
 refine wpAny_bind (wpAny_seqItems hS rfl (wpAny_pure ?_))
 show wpAny _ A.in1 (updateSeq S (λ_=>#[]) >>= λ_=>letGo (#[]:Array Value).toList.reverse >>= λ_=>Builtin.List.listExtendWith (.ref S) (.ref I) .none) _ _ s
 refine wpAny_bind (wpAny_updateSeq hS rfl ?_)
 have hS₂:=Heap.get?_update_self (Obj.mapSeq (λ_=>(#[]:Array Value))) hS rfl
 have oth:∀b o,b≠S->s.heap.get? b=some o->(s.heap.update S (Obj.mapSeq (λ_=>(#[]:Array Value)))).get? b=some o :=
  λb o hb e=>(Heap.get?_update_other _ _ (Ne.symm hb)).trans e
 refine wpAny_bind (wpAny_letGo ?_)
 refine yG (hn:=hn) W hT S .none _ (W.frame 0 s _ s.toks hst (Nat.le_refl _) λb hb o e=>oth b o (λh=>hSf (h▸hb)) e) hSf hI hS₂ λs' acc' c' hm hS' hacc=>?_
 exact hR s' acc' c' (Moved.trans W.gtrans ((Moved.refl W.grefl).then_heap (Nat.le_refl _) λb o hb e=>oth b o (λh=>hb (h▸List.mem_cons_self)) e) hm) hS' hacc
theorem Dn{Q:Value->Shared->Prop}(W:WalksS prog w A.in1.in1 I fp wr G n P St)(hT:∀i s,St i s->s.TypeIs (.ref I) "list_reverseiterator")(hst:St 0 s)(hfp:∀b∈fp,b<s.heap.objs.size)(hI:I∈fp)
  (hQ:∀s' acc' c',Moved (s.heap.objs.size::wr) G { s with heap:=s.heap.push { cls:=.type "list",data:=.seq #[] } } s' ->
   s'.heap.get? s.heap.objs.size=some { cls:=.type "list",dict:=none,data:=.seq acc' c',slots:=#[] }->ItemsOf P acc' n->Q (.ref s.heap.objs.size) s') (hn:n<=sizeLine) :
  wpAny (model prog w) A (call (.type "list") [.ref I]) Q E s:=by
 have hSf:s.heap.objs.size∉fp:=λhm=>Nat.lt_irrefl _ (hfp _ hm)
 refine callType_codes (Q₁:=λobj s₁=>obj=.ref s.heap.objs.size/\s₁={ s with heap:=s.heap.push { cls:=.type "list",data:=.seq #[] } }) F.called_list (F.typeCall_list_1 _) F.entry_list_init
  (code_list_new _ ⟨rfl,rfl⟩) λobj s₁ h₁=>?_
 obtain⟨rfl,rfl⟩:=h₁
 have hS:(s.heap.push { cls:=.type "list",data:=.seq #[] }).get? s.heap.objs.size=some { cls:=.type "list",data:=.seq #[] }:=Heap.get?_push_size _ rfl
 refine⟨⟨_,hS,rfl⟩,F.args_list_init_2 _ _,uq (hn:=hn) W hT _ (W.frame 0 s _ s.toks hst (Nat.le_refl _) λb _ o e=>Heap.get?_push_of_some _ e) hSf hI hS λs' acc' c' hm hS' hacc=>?_⟩
 exact⟨rfl,hQ s' acc' c' hm hS' hacc⟩
end
end PySem
namespace DL
open PySem PySem.Spec PyProof.Rows MX L2
theorem MN:∀{xs:List V}{us:List Value},Vals xs us->Vals xs.reverse us.reverse
 | [],_,.nil=>.nil
 | x::xs,u::us,.cons h r=>by
  rw[List.reverse_cons,List.reverse_cons]
  exact(MN r).append (.cons h .nil)
section
variable{X:Cx}{Γ:Nat->Option Addr}{E:XK}{e a b c o:Expr}{pos p p2 pos2:Pos}{fa:DSt->Out D}{te:TE}
def tRev(K:Frag)(te:TE):TE:=λσ H Q=>te σ H λx H1=>∃a xs,x=.ref a/\SqL K H1 a xs/\∀q,H1 q=none->Q (.ref q) (upd H1 q (.lst xs.reverse))
theorem Oo(hc:X.calm=true)(hgl:Gl X "list")(hml:X.mg "list"=none)(hgr:Gl X "reversed")(hmr:X.mg "reversed"=none)(he:PE X e te)(hs:starEach [e] X.env=[(false,eval e X.env)])
  (hs2:starEach [(.Call (.Name "reversed" p2) [e] [] pos2)] X.env=[(false,eval (.Call (.Name "reversed" p2) [e] [] pos2) X.env)]):PE X (.Call (.Name "list" p) [.Call (.Name "reversed" p2) [e] [] pos2] [] pos) (tRev X.K te):=by
 have bl:bootBuiltins "list"=some (.type "list"):=by decide +kernel
 have br:bootBuiltins "reversed"=some (.type "reversed"):=by decide +kernel
 intro pins s σ H Q I h
 refine wpAny_Call_Name_kw (ou I hgl hml bl ?_ (by decide) (by decide))
 refine PyProof.Rows.callWith_type1 ?_ (by rw[hs2];rfl) rfl
 rw[hs2]
 show wpAny _ _ (spliced [(false,eval (.Call (.Name "reversed" p2) [e] [] pos2) X.env)]) _ _ s
 refine Calls.spliced_cons (wpAny_Call_Name_kw (ou I hgr hmr br ?_ (by decide) (by decide)))
 refine PyProof.Rows.callWith_type1 ?_ (by rw[hs];rfl) rfl
 rw[hs]
 show wpAny _ _ (spliced [(false,eval e X.env)]) _ _ s
 refine Calls.spliced_cons (thn (he pins s σ H _ I h) λu s1 ⟨x,H1,I1,r1,a,xs,ex,sq,q1⟩=>Calls.spliced_nil ?_)
 subst ex
 obtain rfl:u=Value.ref a:=r1
 obtain⟨its,r,pl,hz⟩:=I1.list sq
 refine call_reversed_list pl.isList (Calls.spliced_nil ?_)
 have hl:=r.length
 have ha:a<s1.heap.objs.size:=by
  obtain⟨ob,_,ho,_⟩:=pl
  exact Heap.lt_size ho
 have hne:a≠s1.heap.objs.size:=Nat.ne_of_lt ha
 have e0:((its.toArray.size:Nat):Int) - 1=(its.length:Int) - 1:=by simp
 rw[e0]
 have hh:X.A.in1.in1.handled=none:=I.ok.hd hc
 have W:=(Walks.listRev (prog:=X.prog) (w:=X.w) (A:=X.A.in1.in1) hh s1.heap.objs.size a hne its.toArray).toS
 refine Dn W (λi s st=>st.2.1.typeIs) ⟨Nat.zero_le _,⟨_,Heap.get?_push_size _ rfl,rfl,?_⟩,?_⟩ (λb hb=>?_) (by simp) (λs' acc c' mv hS hacc=>?_) (by rw[List.size_toArray];omega)
 .show Data.fields #[Value.ref a,rawInt ((its.length:Int) - 1)]=_
  have:((its.toArray.size:Nat):Int) - 1 - ((0:Nat):Int)=(its.length:Int) - 1:=by simp
  rw[this]
 .exact pl.isList.at λo ho=>Heap.get?_push_of_some _ ho
 .have sz:∀ob:Obj,(s1.heap.push ob).objs.size=s1.heap.objs.size+1:=λob=>by simp[Heap.push]
  rw[sz]
  simp only[List.mem_cons,List.not_mem_nil,or_false] at hb
  rcases hb with rfl | rfl
  .exact Nat.lt_succ_self _
  .exact Nat.lt_succ_of_lt ha
 .have sz:∀ob:Obj,(s1.heap.push ob).objs.size=s1.heap.objs.size+1:=λob=>by simp[Heap.push]
  have es:s'={ s1 with heap:=s'.heap,toks:=s'.toks }:=by
   obtain⟨h1,h2,h3,h4,h5⟩:=mv
   cases s'
   simp only at h2 h3 h4 ⊢
   subst h2 h3 h4
   rfl
  have fI:H1 s1.heap.objs.size=none:=I1.fresh
  have ev:acc.toList=its.reverse:=by
   obtain⟨h1,h2⟩:=hacc
   apply List.ext_getElem?
   intro j
   by_cases hj:j<its.length
   .have lt:j<acc.size:=by rw[h1];simpa using hj
    have g:acc[j]?=some acc[j]:=Array.getElem?_eq_getElem lt
    have:=h2 j _ g
    rw[List.getElem?_reverse hj,←Array.getElem?_toList] at *
    simp only[List.size_toArray,List.getElem?_toArray] at this
    rw[this,g]
   .rw[List.getElem?_eq_none (by simp;omega),List.getElem?_eq_none (by simp at h1 ⊢;omega)]
  have T:=I1.vD (ch:=[s1.heap.objs.size]) (h':=s'.heap) (t':=s'.toks) (a:=(s1.heap.push (revObj a ((its.length:Int) - 1))).objs.size) (o:=.lst xs.reverse) (λb hb=>by rw[List.mem_singleton.mp hb];exact I1.fpOk (Nat.le_refl _) fI)
   (λb u hb hu=>mv.heap b u (by
    have lt:=Heap.lt_size hu
    rw[sz]
    simp only[List.mem_cons,List.not_mem_nil,or_false] at hb ⊢
    rintro (z | z)
    .exact absurd lt (by rw[z];exact Nat.not_lt.mpr (Nat.le_succ _))
    .exact hb z) (Heap.get?_push_of_some _ (Heap.get?_push_of_some _ hu))) (by rw[sz];omega)
   ⟨by rw[List.length_reverse];exact hz,acc.toList,c',ev▸MN r,hS⟩
  rw[es]
  exact⟨.ref _,_,T,rfl,q1 _ (I1.hok.fresh (by rw[sz];omega))⟩
def revD:D->Option D:=λx=>(gY x).map λds=>.lst ds.reverse
theorem aC.rev{K:Frag}{H:Hp}:∀{vs:List V}{ds:List D},aC K Γ H vs ds->aC K Γ H vs.reverse ds.reverse
 | [],_,.nil=>.nil
 | v::vs,d::ds,.cons h r=>by
  rw[List.reverse_cons,List.reverse_cons]
  exact r.rev.append (.cons h .nil)
theorem NK(hc:X.calm=true)(hgl:Gl X "list")(hml:X.mg "list"=none)(hgr:Gl X "reversed")(hmr:X.mg "reversed"=none)(he:DE X Γ E e fa)(hs:starEach [e] X.env=[(false,eval e X.env)]:=by rfl)
  (hs2:starEach [(.Call (.Name "reversed" p2) [e] [] pos2)] X.env=[(false,eval (.Call (.Name "reversed" p2) [e] [] pos2) X.env)]:=by rfl):DE X Γ E (.Call (.Name "list" p) [.Call (.Name "reversed" p2) [e] [] pos2] [] pos) (o1 revD fa) :=
 PE.imp (Oo hc hgl hml hgr hmr he hs hs2) λσ H Q ⟨G0,H0,G,δ,S,w⟩=>by
  refine⟨G0,H0,G,δ,S,(ao w).mono (λx w v G1 H1 s1 r1=>?_) λ_ k=>k⟩
  obtain⟨d,e,k⟩:=bh w
  unfold revD at e
  obtain⟨ds,e1,rfl⟩:=Option.map_eq_some_iff.mp e
  obtain⟨q,vs,rfl,sq,ra⟩:=r1.gY e1
  exact⟨q,vs,rfl,s1.gh.seq sq,λp hp=>k _ _ _ (s1.trans (.new s1.gh hp)) (.lst aO (ra.rev.mono (aQ.up (aD s1.gh hp))))⟩
end
end DL
namespace DL
open PySem PySem.Spec PyProof.Rows MX L2
section
variable{X:Cx}{Γ:Nat->Option Addr}{E:XK}{a:Expr}{pos:Pos}{fa:DSt->Out D}
theorem de_dinX(i:Nat){x:Str}{p:Pos}(hu:X.A.units+64<cLine)(hv:PE X (.Name x p) (m7 i))(ha:DE X Γ E a fa)(hm:behindInMarks .In (.Name x p)=false:=by rfl):DE X Γ E (.Compare a [.In] [.Name x p] pos) (bV (dInX i fa)) :=
 PE.imp (pe_cmp (pc_din (by omega) ha hv) hm) λσ H Q ⟨G0,H0,G,δ,S,w⟩=>by
  have w:=ao (ao w)
  refine⟨G0,H0,G,δ,S,w.mono (λd w v G1 H1 s1 r1=>?_) λ_ k=>k⟩
  split at w
  .rename_i key kvs ek ei
   obtain⟨aa,vs,hvi,h1,r⟩:=(S.step s1).dk ei
   have e:=r1.key ek
   subst e
   refine⟨_,hvi,aa,kY vs key,rfl,xJ.k h1,?_⟩
   rw[r.has]
   exact w _ G1 H1 s1 (.bl _)
  .exact False.elim w
end
end DL
namespace DL
open PySem PySem.Spec PyProof.Rows MX L2
section
variable{X:Cx}{Γ:Nat->Option Addr}{E:XK}{e:Expr}{es:List Expr}{pos:Pos}
def txD(K:Frag)(Γ:Nat->Option Addr)(E:XK)(f:DSt->Out Str):L2.TX:=λσ H Q=>∃G0 H0 G δ,SR K Γ G0 H0 G H σ δ/\wpO (f δ) (λx=>∀G' H',Step G H G' H'->Q x H') (exD K Γ E G H)
abbrev DXe(X:Cx)(Γ:Nat->Option Addr)(E:XK)(e:Expr)(f:DSt->Out Str):Prop:=PX X e (txD X.K Γ E f)
abbrev DXs(X:Cx)(Γ:Nat->Option Addr)(E:XK)(es:List Expr)(f:DSt->Out Str):Prop:=PXs X es (txD X.K Γ E f)
theorem px_imp{t t':L2.TX}(h:PX X e t)(k:∀σ H Q,t' σ H Q->t σ H Q):PX X e t':=λpins s σ H Q I q=>h pins s σ H Q I (k _ _ _ q)
theorem Ql{t t':L2.TX}(h:PXs X es t)(k:∀σ H Q,t' σ H Q->t σ H Q):PXs X es t':=λout pins s σ H Q hz I q=>h out pins s σ H Q hz I (k _ _ _ q)
def fLit(x:Str):DSt->Out Str:=λ_=>.ok x
def fmtD:D->Option Str
 | .int i=>if i.natAbs.log2<1920 then some (Str.ofString (toString i)) else none
 | .str y=>if y.length<=100000 then some y else none
 | _=>none
def fFld(fa:DSt->Out D):DSt->Out Str:=λδ=>(fa δ).bind λd=>.opt (fmtD d)
def fNil:DSt->Out Str:=λ_=>.ok Str.empty
def jW(fa fr:DSt->Out Str):DSt->Out Str:=λδ=>(fa δ).bind λx=>if x.length<=1000000 then (fr δ).bind λy=>.ok (x++y) else .stuck
def Fe(f:DSt->Out Str):DSt->Out D:=λδ=>(f δ).bind λy=>.ok (.str y)
theorem yl{x:Str}{k}:DXe X Γ E (.Constant (.str x) k pos) (fLit x):=px_imp px_lit λσ H Q ⟨G0,H0,G,δ,S,w⟩=>w G H (.refl S.st.gh)
theorem yj{fa:DSt->Out D}(ha:DE X Γ E e fa):DXe X Γ E (.FormattedValue e (-1) none pos) (fFld fa):=px_imp (px_fld ha) λσ H Q ⟨G0,H0,G,δ,S,w⟩=>by
 refine⟨G0,H0,G,δ,S,(ao w).mono (λd w v G1 H1 s1 r1=>?_) λ_ k=>k⟩
 obtain⟨y,e,k⟩:=bh w
 unfold fmtD at e
 split at e
 .split at e
  .cases e;cases r1;exact⟨‹_›,k G1 H1 s1⟩
  .cases e
 .split at e
  .cases e;cases r1;exact⟨‹_›,k G1 H1 s1⟩
  .cases e
 .cases e
theorem Hk:DXs X Γ E [] fNil:=Ql pxs_nil λσ H Q ⟨G0,H0,G,δ,S,w⟩=>w G H (.refl S.st.gh)
theorem dq{fa fr:DSt->Out Str}(ha:DXe X Γ E e fa)(hr:DXs X Γ E es fr):DXs X Γ E (e::es) (jW fa fr):=Ql (pxs_cons ha hr) λσ H Q ⟨G0,H0,G,δ,S,w⟩=>by
 refine⟨G0,H0,G,δ,S,(ao w).mono (λx w G1 H1 s1=>?_) λ_ k=>k⟩
 split at w
 .refine⟨‹_›,G0,H0,G1,δ,S.step s1,(ao w).mono (λy w G2 H2 s2=>?_) λ_ k=>k.step s1⟩
  exact w G2 H2 (s1.trans s2)
 .exact False.elim w
theorem Hh{e1 e2:Expr}{f:DSt->Out Str}(h:DXs X Γ E (e1::e2::es) f)(hz:es.length<=10:=by decide):DE X Γ E (.JoinedStr (e1::e2::es) pos) (Fe f):=PE.imp (pe_fstr h hz) λσ H Q ⟨G0,H0,G,δ,S,w⟩=>by
 refine⟨G0,H0,G,δ,S,(ao w).mono (λy w G1 H1 s1=>?_) λ_ k=>k⟩
 exact w _ G1 H1 s1 (.str y)
end
end DL
local macro_rules
 | `(tactic| walk_at $s:str)=>do
  let t:=s.getString
  if t=="o" then return ←`(tactic| first | exact Or.inl rfl | exact Or.inr rfl)
  if t.startsWith "d " || t.startsWith "e " then
   let a:=((t.splitOn " ").filter (·≠"")).toArray.map λx=>Lean.mkIdent x.toName
   let i:=λ(x:String)=>Lean.mkIdent x.toName
   let (lp,w,K,mg,base,t',X,G,T):=(i "l.prog",i "w",i "K",i "mg",i "base",i "t",i "X",i "G",i "T")
   let k:=if t.startsWith "d " then 3 else 2
   let (D,J,ok,U,tx,bd):=(a[1]!,a[k]!,a[k+1]!,a[k+2]!,a[k+3]!,a[k+4]!)
   let as:=a.extract (k+5) a.size
   let (m,ex,kp):=(Lean.mkIdent (tx.getId++`m),Lean.mkIdent (tx.getId++`x++`ex),Lean.mkIdent (U.getId++`kp))
   let L:=i "L"
   let bs ←as.mapM λx=>`(($x $L))
   if t.startsWith "d " then
    return ←`(tactic| (obtain⟨_,$U⟩:=$ex;have $D : $(a[2]!) $lp $w $K $mg $base ($(i "Ga0") $t') $J := ⟨_,_,fun $L=>$ok $U $T $bs*,$bd $U,mg_of $X $G $m,$kp⟩))
   return ←`(tactic| (obtain⟨_,$U⟩:=$ex;have $D : $(i "DDs") $lp $w $K $mg $base ($(i "Ga0") $t') $J := ⟨_,_,$ok $U $T $as*,$bd $U,mg_of $X $G $m,$kp⟩))
  unless t.startsWith "ev" || t.startsWith "vc" || t.startsWith "vs" do Lean.Macro.throwUnsupported
  let (h,r):=match t.splitOn ":" with
   | [h,r]=>(h,r)
   | _=>(t,"")
  let minus:=(h.splitOn "-").drop 1
  let l:=if t.startsWith "ev" then "cj eG v4 aX cR bR gU sIf bF mF vm sExt sClr2 sPut sAsg gv gb gvo slD o1 o2 o2b o3 oC oF oM oMk oFld wU bV andT orT kW tst An orV notV aM az mY rW vQ ik rR kc one1 zG frz frzS negD zX Af dM mR lQ zZ JF asB_b BP HB HD rE K3 ixD_t Hv Hu atI_0 atI_1 atI_2 HJ Hl HN Bx ji gN dZ bj gT Out.dJ Out.G8 Out.uQ Out.j7 Out.Lq Out.ue nxP_ok List.map_cons List.map_nil List.length_cons List.length_nil List.append_assoc List.nil_append List.cons_append List.getElem?_cons_zero List.getElem?_cons_succ List.getElem?_nil List.set_cons_zero List.set_cons_succ Nat.zero_add Nat.reduceAdd Nat.reduceSub List.replicate_succ List.replicate_zero List.lookup_cons List.lookup_nil Option.some.injEq Option.bind_some Option.map_some Nat.reduceBEq Nat.reduceEqDiff Int.reduceLT Int.reduceLE Int.reduceNeg Int.reduceAdd Int.reduceMul Int.reduceSub Nat.reduceLeDiff reduceIte ite_true decide_true decide_false Bool.not_true Bool.not_false Nat.reduceEqDiff Bool.false_eq_true Option.isNone_none Option.isNone_some Aa String.reduceBEq String.reduceEq beq_self_eq_true List.contains_cons List.contains_nil Bool.or_false Bool.or_true Bool.true_or Bool.false_or Bool.and_true Bool.and_false Bool.true_and Bool.false_and Bool.not_eq_true eq_self_iff_true Int.cast_ofNat_Int Int.reduceBEq Int.natCast_zero" else if t.startsWith "vs" then "kO aN W_noex thn_nx thn_rt thn_rl sv_0 sv_s sb_0 sb_s so_0 so_s sw_0 sw_1 sw_s W_gv W_gb W_gvo W_o1 W_o2 W_o2b W_o3 W_bV W_tst W_orT W_notT W_andV W_orV W_nil W_cons W_tup W_lst W_chk W_seqO W_lstV W_oF W_oMk W_isi as_l as_t as_r W_rng W_sl W_noI W_soI si_i cut_l W_addL W_retv W_nilS W_seq W_ret W_if W_set W_setl W_asg W_app W_for W_runF W_eR W_eL trn_nx trn_rt xZ slD eG one1 zX Af dM mR lQ negD zZ JF asB_b BP HB HD rE K3 ixD_t Hv Hu atI_0 atI_1 atI_2 HJ Hl HN Bx iN_0 iN_1 iN_2 iN_3 iN_4 iN_5 iN_6 iN_7 gN dZ bj gT zG frz frzS Out.j7 Option.bind_some Option.map_some List.map_cons List.map_nil List.length_cons List.length_nil List.append_assoc List.nil_append List.cons_append List.getElem?_cons_zero List.getElem?_cons_succ List.getElem?_nil List.set_cons_zero List.set_cons_succ Nat.zero_add Nat.reduceAdd Nat.reduceSub List.replicate_succ List.replicate_zero Nat.reduceEqDiff Int.reduceLT Int.reduceLE Int.reduceNeg Int.reduceAdd Int.reduceMul Int.reduceSub Nat.reduceLeDiff decide_true decide_false decide_eq_true_eq decide_eq_false_iff_not Bool.not_true Bool.not_false Bool.false_eq_true Bool.true_eq_false not_true_eq_false not_false_eq_true if_true if_false true_and and_true and_self Aa String.reduceBEq beq_self_eq_true Int.cast_ofNat_Int Int.reduceBEq Int.natCast_zero sizeLine_eq List.lookup_cons List.lookup_nil List.contains_cons List.contains_nil Bool.or_false Bool.or_true Bool.true_or Bool.false_or Nat.reduceBEq Option.isNone_none Option.isNone_some Option.some.injEq exists_eq_left' WS_ok vJ WS_noex WS_of thS_nx thS_rt WS_fO WS_nil WS_seq WS_ret WS_if WS_run WS_eR List.length_append" else "kO aN W_noex thn_nx thn_rt thn_rl sv_0 sv_s sb_0 sb_s so_0 so_s sw_0 sw_1 sw_s W_gv W_gb W_gvo W_o1 W_o2 W_o2b W_o3 W_bV W_tst W_orT W_notT W_andV W_orV W_nil W_cons W_tup W_lst W_chk W_seqO W_lstV W_oF W_oMk W_isi as_l as_t as_r W_rng W_sl W_noI W_soI si_i cut_l W_addL W_retv W_nilS W_seq W_ret W_if W_set W_setl W_asg W_app W_for W_runF W_eR W_eL trn_nx trn_rt xZ slD eG one1 zX Af dM mR lQ negD zZ JF asB_b BP HB HD rE K3 ixD_t Hv Hu atI_0 atI_1 atI_2 HJ Hl HN Bx iN_0 iN_1 iN_2 iN_3 iN_4 iN_5 iN_6 iN_7 gN dZ bj gT zG frz frzS Out.j7 Option.bind_some Option.map_some List.map_cons List.map_nil List.length_cons List.length_nil List.append_assoc List.nil_append List.cons_append List.getElem?_cons_zero List.getElem?_cons_succ List.getElem?_nil List.set_cons_zero List.set_cons_succ Nat.zero_add Nat.reduceAdd Nat.reduceSub List.replicate_succ List.replicate_zero Nat.reduceEqDiff Int.reduceLT Int.reduceLE Int.reduceNeg Int.reduceAdd Int.reduceMul Int.reduceSub Nat.reduceLeDiff decide_true decide_false decide_eq_true_eq decide_eq_false_iff_not Bool.not_true Bool.not_false Bool.false_eq_true Bool.true_eq_false not_true_eq_false not_false_eq_true if_true if_false true_and and_true and_self Aa String.reduceBEq beq_self_eq_true Int.cast_ofNat_Int Int.reduceBEq Int.natCast_zero sizeLine_eq List.lookup_cons List.lookup_nil List.contains_cons List.contains_nil Bool.or_false Bool.or_true Bool.true_or Bool.false_or Nat.reduceBEq Option.isNone_none Option.isNone_some Option.some.injEq exists_eq_left'"
  let all:=(l.splitOn " ").filter λx=>!minus.contains x
  let ids:=(all++(r.splitOn " ").filter (·≠"")).toArray.map λx=>Lean.mkIdent x.toName
  let args ←ids.mapM λi=>`(Lean.Parser.Tactic.simpLemma| $i:term)
  `(tactic| simp only[$args,*])
namespace K9
open PySem L2 MX DL
def top(i:Nat):Stmt:=PySem.Challenge.pw_mustmay_k12_plans_written.main.body.getD i (.Pass ⟨0,0,0,0⟩)
structure Ad where
 Door:Addr
 Must:Addr
 May:Addr
 Shut:Addr
 Torn:Addr
 Draft:Addr
 Plan:Addr
def Ga0(t:Ad):Plc:=λc=>[t.Door,t.Must,t.May,t.Shut,t.Torn,t.Draft,t.Plan][c]?
abbrev Ga(t:Ad)(L:Plc):Plc:=xt (Ga0 t) L
abbrev mO:Nat:=1
abbrev yc:Nat:=2
abbrev lH:Nat:=3
abbrev lJ:Nat:=4
abbrev gD:Nat:=5
abbrev cF:Nat:=6
def rD:D->Option Bool:=mU "bool" []
def wJ:D->Option Bool:=mU "int" []
def cM:D->Option Bool:=mU "list" []
def di:D->Option Bool:=mU "str" []
def eO:D->Option Bool:=mU "tuple" []
structure Txt(K:Frag)(mg:Str->Option Value)(t:Ad):Prop where
 g_Door:mg "Door"=some (.ref t.Door)
 i_Door:ur K t.Door
 g_Must:mg "Must"=some (.ref t.Must)
 i_Must:ur K t.Must
 g_May:mg "May"=some (.ref t.May)
 i_May:ur K t.May
 g_Shut:mg "Shut"=some (.ref t.Shut)
 i_Shut:ur K t.Shut
 g_Torn:mg "Torn"=some (.ref t.Torn)
 i_Torn:ur K t.Torn
 g_Draft:mg "Draft"=some (.ref t.Draft)
 PN:ur K t.Draft
 g_Plan:mg "Plan"=some (.ref t.Plan)
 i_Plan:ur K t.Plan
 eQ:bI K t.Draft "actions"
 gK:bI K t.Draft "rooms"
 ud:bI K t.May "to"
 oE:bI K t.Must "to"
 fK:bI K t.Plan "actions"
 iJ:bI K t.Plan "rooms"
 oG:bI K t.Shut "to"
 oH:bI K t.Torn "to"
 b_all:mg "all"=none
 b_bool:mg "bool"=none
 iY:mg "enumerate"=none
 b_int:mg "int"=none
 cz:mg "isinstance"=none
 fQ:mg "len"=none
 uP:mg "list"=none
 dI:mg "range"=none
 Nu:mg "reversed"=none
 b_set:mg "set"=none
 Ao:mg "str"=none
 zY:mg "tuple"=none
 b_zip:mg "zip"=none
 rD:∀L:Plc,Aj K (Ga t L) (.ty "bool") rD
 wJ:∀L:Plc,Aj K (Ga t L) (.ty "int") wJ
 cM:∀L:Plc,Aj K (Ga t L) (.ty "list") cM
 di:∀L:Plc,Aj K (Ga t L) (.ty "str") di
 eO:∀L:Plc,Aj K (Ga t L) (.ty "tuple") eO
 yd:∃u,mg "FIGURES"=some u/\RelV (.str "0123456789") u
 tY:∃u,mg "LETTERS"=some u/\RelV (.str "abcdefghijklmnopqrstuvwxyz") u
 jR:∃u,mg "MOST_ACTIONS"=some u/\RelV (.int 8) u
 nO:∃u,mg "MOST_ROOMS"=some u/\RelV (.int 2000) u
 jx:∃u,mg "MOST_SIGNS"=some u/\RelV (.int 8) u
 G9:∃a,mg "SHUT"=some (.ref a)/\∃(o:Obj)(its:Array Value)(n:Nat),K.lookup a=some o/\o.cls=.type "tuple"/\o.data=.seq its n/\its.size<=sizeLine/\Vals [V.str "shut",V.non] its.toList
section
variable{P:Program}{w:World}{K:Frag}{mg:Str->Option Value}{base:Heap}{t:Ad}{L:Plc}{f:Addr}{fd:FuncData}
abbrev sG:Stmt:=inClass (top 6) 0
abbrev sS:Stmt:=inClass (top 9) 0
abbrev sV:Stmt:=inClass (top 10) 0
def qi:List D->Out (List (Str×D)):=λds=>match ds with
 | [d]=>.ok [("to",d)]
 | _=>.stuck
def El:List D->Out (List (Str×D)):=qi
def ql:List D->Out (List (Str×D)):=λds=>match ds with
 | []=>.ok [("to",.non)]
 | _=>.stuck
def uM:List D->Out (List (Str×D)):=ql
def Jt(K:Frag):Sp:=λvs H Q _=>∃a C dx v,vs=[.ref a,v]/\H a=some (.ins C dx [])/\Cls K C/\bI K C "to"/\Q .non (upd H a (.ins C dx [("to",v)]))
theorem Jg:aG ["self","to"] ["self","to"] (au sG):=⟨rfl,rfl,rfl,by decide +kernel,rfl,by decide +kernel,by decide +kernel⟩
theorem HW{f:Addr}{fd:FuncData}(F:L2.Fun K "__init__" "Door.__init__" sG f fd):bY P w K mg base CX0 1 f fd ["self","to"] (Jt K):=by
 refine F.ok Jg (λvs H Q E h=>?_) (λcdv A outer s H vs Q E hr h=>?_)
 .obtain⟨a,C,dx,v,rfl,_⟩:=h
  rfl
 .obtain⟨a,C,dx,v,rfl,hH,cl,na,q⟩:=h
  refine⟨_,lU (Ou (pv 0) (pv 1) rfl),?_⟩
  exact⟨_,rfl,_,rfl,a,C,dx,_,rfl,hH,cl,na,(by decide),q⟩
theorem Ju{K:Frag}{Γ:Nat->Option Addr}{G H:Hp}{a C dx:Addr}{v:V}{d:D}{f:Str}{Q:VK}(ga:G a=none)(sg:aQ G H)(r:Rep K Γ G v d)
  (w:∀fs G' H',aQ G G'->(∀b o,H b=some o->b≠a->H' b=some o)->aQ G' H'->(∀b,H b≠none->G b=none->G' b=none)->H' a=some (.ins C dx fs)->jh K Γ G' fs [(f,d)]->Q .non H'):Q .non (upd H a (.ins C dx [(f,v)])) :=
 w [(f,v)] G _ (aQ.refl _) (λb o e hb=>by rw[aW hb];exact e) (λb o e=>by rw[aW (aV e ga)];exact sg _ _ e) (λ_ _ g=>g) aO (.cons r .nil)
theorem ok_to{c:Nat}{f C0:Addr}{fd:FuncData}(F:bY P w K mg base CX0 1 f fd ["self","to"] (Jt K))(hc:Ga t L c=some C0)(cl:Cls K C0)(na:bI K C0 "to"):bY P w K mg base CX0 1 f fd ["self","to"] (spI K (Ga t L) c 1 qi):=F.imp λvs H Q E h=>by
 obtain⟨hl,a,dx,C,us,G,ds,rfl,hH,hC,ga,sg,r,w⟩:=h
 rw[hc] at hC
 cases hC
 cases r with
 | nil=>cases hl
 | cons r1 r2 =>
  cases r2 with
  | cons _ _=>cases hl
  | nil=>exact⟨a,C0,dx,_,rfl,hH,cl,na,Ju ga sg r1 w⟩
theorem Jl:aG ["self"] ["self"] (au sS):=⟨rfl,rfl,rfl,by decide +kernel,rfl,by decide +kernel,by decide +kernel⟩
theorem Jo:aG ["self"] ["self"] (au sV):=⟨rfl,rfl,rfl,by decide +kernel,rfl,by decide +kernel,by decide +kernel⟩
theorem Ig{f fD:Addr}{fd fdD:FuncData}(F:L2.Fun K "__init__" "Shut.__init__" sS f fd)(T:Txt K mg t)(G0:bY P w K mg base CX0 1 fD fdD ["self","to"] (Jt K))(ca:zW K t.Door "__init__" (.ref fD))(hk:keepIn K (.ref fD)=true)(hb:Binds K fdD ["self","to"] []):bY P w K mg base CX0 2 f fd ["self"] (spI K (Ga t L) lH 0 ql):=by
 refine F.ok Jl (λvs H Q E h=>h.1) (λcdv A outer s H vs Q E hr h=>?_)
 obtain⟨hl,a,dx,C,us,G,ds,rfl,hH,hC,ga,sg,r,w⟩:=h
 cases hC
 cases r with
 | cons _ _=>cases hl
 | nil =>
  refine⟨_,lU (oO (Lr G0 hr rfl T.g_Door ca hk hb .nil pass0 (aU (pv 0) (aU Oq bD)))),?_⟩
  exact⟨_,rfl,a,_,dx,_,rfl,hH,T.i_Shut.cls,T.oG,Ju ga sg .non w⟩
theorem Ii{f fD:Addr}{fd fdD:FuncData}(F:L2.Fun K "__init__" "Torn.__init__" sV f fd)(T:Txt K mg t)(G0:bY P w K mg base CX0 1 fD fdD ["self","to"] (Jt K))(ca:zW K t.Door "__init__" (.ref fD))(hk:keepIn K (.ref fD)=true)(hb:Binds K fdD ["self","to"] []):bY P w K mg base CX0 2 f fd ["self"] (spI K (Ga t L) lJ 0 uM):=by
 refine F.ok Jo (λvs H Q E h=>h.1) (λcdv A outer s H vs Q E hr h=>?_)
 obtain⟨hl,a,dx,C,us,G,ds,rfl,hH,hC,ga,sg,r,w⟩:=h
 cases hC
 cases r with
 | cons _ _=>cases hl
 | nil =>
  refine⟨_,lU (oO (Lr G0 hr rfl T.g_Door ca hk hb .nil pass0 (aU (pv 0) (aU Oq bD)))),?_⟩
  exact⟨_,rfl,a,_,dx,_,rfl,hH,T.i_Torn.cls,T.oH,Ju ga sg .non w⟩
abbrev sJ:Stmt:=inClass (top 7) 0
theorem Jj:aG ["self"] ["self"] (au sJ):=scm
def qQ:DSt->Out Fl:=(bF (kc (.str "must")))
def qd:List D->Out D:=λds=>(cj 1 qQ ds).bf
abbrev JT:Inf D:=⟨"word",1,["self"],qd⟩
theorem Ib(F:L2.Fun K "word" "Must.word" sJ f fd)(T:Txt K mg t):OD P w K mg base (Ga t L) JT f fd:=by
 refine okJ 0 qQ F Jj λ_ _ _ _ _ _ hr=>?_
 exact(aA (aP aL))
abbrev vo:Stmt:=inClass (top 8) 0
theorem LR:aG ["self"] ["self"] (au vo):=scm
def uU:DSt->Out Fl:=(bF (kc (.str "may")))
def uL:List D->Out D:=λds=>(cj 1 uU ds).bf
abbrev M7:Inf D:=⟨"word",1,["self"],uL⟩
theorem Li(F:L2.Fun K "word" "May.word" vo f fd)(T:Txt K mg t):OD P w K mg base (Ga t L) M7 f fd:=by
 refine okJ 0 uU F LR λ_ _ _ _ _ _ hr=>?_
 exact(aA (aP aL))
abbrev sU:Stmt:=inClass (top 9) 1
theorem Jm:aG ["self"] ["self"] (au sU):=scm
def qR:DSt->Out Fl:=(bF (kc (.str "shut")))
def qe:List D->Out D:=λds=>(cj 1 qR ds).bf
abbrev JV:Inf D:=⟨"word",1,["self"],qe⟩
theorem Ih(F:L2.Fun K "word" "Shut.word" sU f fd)(T:Txt K mg t):OD P w K mg base (Ga t L) JV f fd:=by
 refine okJ 0 qR F Jm λ_ _ _ _ _ _ hr=>?_
 exact(aA (aP aL))
abbrev sW:Stmt:=inClass (top 10) 1
theorem Jp:aG ["self"] ["self"] (au sW):=scm
def qT:DSt->Out Fl:=(bF (kc (.str "torn")))
def qg:List D->Out D:=λds=>(cj 1 qT ds).bf
abbrev JW:Inf D:=⟨"word",1,["self"],qg⟩
theorem Ij(F:L2.Fun K "word" "Torn.word" sW f fd)(T:Txt K mg t):OD P w K mg base (Ga t L) JW f fd:=by
 refine okJ 0 qT F Jp λ_ _ _ _ _ _ hr=>?_
 exact(aA (aP aL))
def xm:List (Nat×(List D->Out D)):=[(mO,qd),(yc,uL),(lH,qe),(lJ,qg)]
abbrev oZ:Stmt:=inClass (top 7) 1
theorem Eb:aG ["self"] ["self"] (au oZ):=scm
def wF:DSt->Out Fl:=(bF (kc (.bl true)))
def Ge:List D->Out D:=λds=>(cj 1 wF ds).bf
abbrev Gr:Inf D:=⟨"needs",1,["self"],Ge⟩
theorem Dv(F:L2.Fun K "needs" "Must.needs" oZ f fd)(T:Txt K mg t):OD P w K mg base (Ga t L) Gr f fd:=by
 refine okJ 0 wF F Eb λ_ _ _ _ _ _ hr=>?_
 exact(aA (aP iZ))
abbrev sI:Stmt:=inClass (top 8) 1
theorem Ji:aG ["self"] ["self"] (au sI):=scm
def yZ:DSt->Out Fl:=(bF (kc (.bl false)))
def JQ:List D->Out D:=λds=>(cj 1 yZ ds).bf
abbrev JS:Inf D:=⟨"needs",1,["self"],JQ⟩
theorem HY(F:L2.Fun K "needs" "May.needs" sI f fd)(T:Txt K mg t):OD P w K mg base (Ga t L) JS f fd:=by
 refine okJ 0 yZ F Ji λ_ _ _ _ _ _ hr=>?_
 exact(aA (aP iZ))
abbrev ph:Stmt:=inClass (top 9) 2
theorem Ec:aG ["self"] ["self"] (au ph):=scm
def wG:DSt->Out Fl:=(bF (kc (.bl false)))
def Gf:List D->Out D:=λds=>(cj 1 wG ds).bf
abbrev Gs:Inf D:=⟨"needs",1,["self"],Gf⟩
theorem Dw(F:L2.Fun K "needs" "Shut.needs" ph f fd)(T:Txt K mg t):OD P w K mg base (Ga t L) Gs f fd:=by
 refine okJ 0 wG F Ec λ_ _ _ _ _ _ hr=>?_
 exact(aA (aP iZ))
abbrev pq:Stmt:=inClass (top 10) 2
theorem Ed:aG ["self"] ["self"] (au pq):=scm
def wH:DSt->Out Fl:=(bF (kc (.bl true)))
def Gg:List D->Out D:=λds=>(cj 1 wH ds).bf
abbrev Gu:Inf D:=⟨"needs",1,["self"],Gg⟩
theorem Dy(F:L2.Fun K "needs" "Torn.needs" pq f fd)(T:Txt K mg t):OD P w K mg base (Ga t L) Gu f fd:=by
 refine okJ 0 wH F Ed λ_ _ _ _ _ _ hr=>?_
 exact(aA (aP iZ))
abbrev mG:Stmt:=inClass (top 7) 2
theorem Ck:aG ["self"] ["self"] (au mG):=scm
def uA:DSt->Out Fl:=(bF (kc (.bl true)))
def CZ:List D->Out D:=λds=>(cj 1 uA ds).bf
abbrev De:Inf D:=⟨"allows",1,["self"],CZ⟩
theorem BV(F:L2.Fun K "allows" "Must.allows" mG f fd)(T:Txt K mg t):OD P w K mg base (Ga t L) De f fd:=by
 refine okJ 0 uA F Ck λ_ _ _ _ _ _ hr=>?_
 exact(aA (aP iZ))
abbrev oY:Stmt:=inClass (top 8) 2
theorem Ea:aG ["self"] ["self"] (au oY):=scm
def wD:DSt->Out Fl:=(bF (kc (.bl true)))
def Gd:List D->Out D:=λds=>(cj 1 wD ds).bf
abbrev Gq:Inf D:=⟨"allows",1,["self"],Gd⟩
theorem Du(F:L2.Fun K "allows" "May.allows" oY f fd)(T:Txt K mg t):OD P w K mg base (Ga t L) Gq f fd:=by
 refine okJ 0 wD F Ea λ_ _ _ _ _ _ hr=>?_
 exact(aA (aP iZ))
abbrev mH:Stmt:=inClass (top 9) 3
theorem Cm:aG ["self"] ["self"] (au mH):=scm
def uB:DSt->Out Fl:=(bF (kc (.bl false)))
def Dc:List D->Out D:=λds=>(cj 1 uB ds).bf
abbrev Dg:Inf D:=⟨"allows",1,["self"],Dc⟩
theorem BW(F:L2.Fun K "allows" "Shut.allows" mH f fd)(T:Txt K mg t):OD P w K mg base (Ga t L) Dg f fd:=by
 refine okJ 0 uB F Cm λ_ _ _ _ _ _ hr=>?_
 exact(aA (aP iZ))
abbrev mJ:Stmt:=inClass (top 10) 3
theorem Cp:aG ["self"] ["self"] (au mJ):=scm
def uC:DSt->Out Fl:=(bF (kc (.bl false)))
def Dd:List D->Out D:=λds=>(cj 1 uC ds).bf
abbrev Dh:Inf D:=⟨"allows",1,["self"],Dd⟩
theorem BX(F:L2.Fun K "allows" "Torn.allows" mJ f fd)(T:Txt K mg t):OD P w K mg base (Ga t L) Dh f fd:=by
 refine okJ 0 uC F Cp λ_ _ _ _ _ _ hr=>?_
 exact(aA (aP iZ))
abbrev vp:Stmt:=inClass (top 7) 3
theorem Ma:aG ["self","to"] ["self","to"] (au vp):=scm
def Bq:DSt->Out Fl:=(bF (oMk mO 1 qi (az (gv 1) aM)))
def M3:List D->Out D:=λds=>(cj 2 Bq ds).bf
abbrev M8:Inf D:=⟨"led",3,["self","to"],M3⟩
theorem Lj(F:L2.Fun K "led" "Must.led" vp f fd)(T:Txt K mg t)(xU:Ini P w K mg base t.Must 1 ["self","to"] (spI K (Ga t L) mO 1 qi)):OD P w K mg base (Ga t L) M8 f fd:=by
 refine okJ 2 Bq F Ma λ_ _ _ _ _ _ hr=>?_
 exact(aA (aP (Ft xU hr T.g_Must (aj (nv 1) aF))))
abbrev yz:Stmt:=inClass (top 8) 3
theorem O1:aG ["self","to"] ["self","to"] (au yz):=scm
def Ff:DSt->Out Fl:=(bF (oMk yc 1 El (az (gv 1) aM)))
def Qw:List D->Out D:=λds=>(cj 2 Ff ds).bf
abbrev QB:Inf D:=⟨"led",3,["self","to"],Qw⟩
theorem Oh(F:L2.Fun K "led" "May.led" yz f fd)(T:Txt K mg t)(Em:Ini P w K mg base t.May 1 ["self","to"] (spI K (Ga t L) yc 1 El)):OD P w K mg base (Ga t L) QB f fd:=by
 refine okJ 2 Ff F O1 λ_ _ _ _ _ _ hr=>?_
 exact(aA (aP (Ft Em hr T.g_May (aj (nv 1) aF))))
abbrev vq:Stmt:=inClass (top 9) 4
theorem Mf:aG ["self","to"] ["self","to"] (au vq):=scm
def Br:DSt->Out Fl:=(bF (oMk lH 0 ql aM))
def M4:List D->Out D:=λds=>(cj 2 Br ds).bf
abbrev M9:Inf D:=⟨"led",4,["self","to"],M4⟩
theorem Lk(F:L2.Fun K "led" "Shut.led" vq f fd)(T:Txt K mg t)(xW:Ini P w K mg base t.Shut 2 ["self"] (spI K (Ga t L) lH 0 ql)):OD P w K mg base (Ga t L) M9 f fd:=by
 refine okJ 3 Br F Mf λ_ _ _ _ _ _ hr=>?_
 exact(aA (aP (HQ xW hr T.g_Shut)))
abbrev vy:Stmt:=inClass (top 10) 4
theorem Mg:aG ["self","to"] ["self","to"] (au vy):=scm
def Bs:DSt->Out Fl:=(bF (oMk lJ 0 uM aM))
def M5:List D->Out D:=λds=>(cj 2 Bs ds).bf
abbrev Nb:Inf D:=⟨"led",4,["self","to"],M5⟩
theorem Ln(F:L2.Fun K "led" "Torn.led" vy f fd)(T:Txt K mg t)(xX:Ini P w K mg base t.Torn 2 ["self"] (spI K (Ga t L) lJ 0 uM)):OD P w K mg base (Ga t L) Nb f fd:=by
 refine okJ 3 Bs F Mg λ_ _ _ _ _ _ hr=>?_
 exact(aA (aP (HQ xX hr T.g_Torn)))
abbrev sH:Stmt:=inClass (top 6) 1
theorem Jh:aG ["self"] ["self"] (au sH):=scm
def qP:DSt->Out Fl:=(bF (mY (az (oM "word" 1 xm (gv 0) aM) (az (oFld "to" [mO,yc,lH,lJ] (gv 0)) aM))))
def dO:List D->Out D:=λds=>(cj 1 qP ds).bf
abbrev JR:Inf D:=⟨"told",2,["self"],dO⟩
theorem HX(F:L2.Fun K "told" "Door.told" sH f fd)(T:Txt K mg t)(Ng:gQ P w K mg base (Ga t L) "word" (spD K (Ga t L) 1) 1 xm):OD P w K mg base (Ga t L) JR f fd:=by
 refine okJ 1 qP F Jh λ_ _ _ _ _ _ hr=>?_
 exact(aA (aP (qJ (aj (u9 Ng hr (nv 0)) (aj (NB (cs:=[mO,yc,lH,lJ]) ⟨⟨t.Must,rfl,T.i_Must.cls,T.oE⟩,⟨t.May,rfl,T.i_May.cls,T.ud⟩,⟨t.Shut,rfl,T.i_Shut.cls,T.oG⟩,⟨t.Torn,rfl,T.i_Torn.cls,T.oH⟩,trivial⟩ (nv 0)) aF)))))
def tR:List (Nat×(List D->Out D)):=[(mO,dO),(yc,dO),(lH,dO),(lJ,dO)]
abbrev yC:Stmt:=top 11
theorem O2:aG ["needs","allows","to"] ["needs","allows","to"] (au yC):=scm
def yp:DSt->Out Fl:=(aX (sIf (andT (tst (gb 0)) (tst (gb 1))) (bF (oMk mO 1 qi (az (gv 2) aM))) cR)
 (aX (sIf (tst (gb 1)) (bF (oMk yc 1 El (az (gv 2) aM))) cR)
 (aX (sIf (tst (gb 0)) (bF (oMk lJ 0 uM aM)) cR)
 (bF (oMk lH 0 ql aM)))))
def tW:List D->Out D:=λds=>(cj 3 yp ds).bf
abbrev xQ:Inf D:=⟨"door_of",4,["needs","allows","to"],tW⟩
theorem Oi(F:L2.Fun K "door_of" "door_of" yC f fd)(T:Txt K mg t)(xU:Ini P w K mg base t.Must 1 ["self","to"] (spI K (Ga t L) mO 1 qi))(Em:Ini P w K mg base t.May 1 ["self","to"] (spI K (Ga t L) yc 1 El))(xX:Ini P w K mg base t.Torn 2 ["self"] (spI K (Ga t L) lJ 0 uM))(xW:Ini P w K mg base t.Shut 2 ["self"] (spI K (Ga t L) lH 0 ql)):OD P w K mg base (Ga t L) xQ f fd:=by
 refine okJ 3 yp F O2 λ_ _ _ _ _ _ hr=>?_
 exact(aq (bW (vZ (dw_and (dY (aJ 0 (pv 0))) (dw_and1 (dY (aJ 1 (pv 1)))))) (aA (aP (Ft xU hr T.g_Must (aj (nv 2) aF)))) aZ)
   (aq (bW (dY (aJ 1 (pv 1))) (aA (aP (Ft Em hr T.g_May (aj (nv 2) aF)))) aZ)
   (aq (bW (dY (aJ 0 (pv 0))) (aA (aP (HQ xX hr T.g_Torn))) aZ)
   (aA (aP (HQ xW hr T.g_Shut))))))
abbrev yD:Stmt:=top 17
theorem O3:aG ["thing"] ["thing"] (au yD):=scm
def rP:DSt->Out D:=(bV (o2b inD (gb 0) (kc (.str "abcdefghijklmnopqrstuvwxyz"))))
def yq:DSt->Out Fl:=(aX (sIf (orT (kW (tst (wU di (gb 0)))) (kW (o3 leD leD (kc (.int 1)) (o1 fL (gb 0)) (kc (.int 8))))) (bF (kc (.bl false))) cR)
 (bF (o1 allD (rR (cO [none] (strO (gv 0)) (gN 0) (λ_=>.ok true) rP)))))
def jB:List D->Out D:=λds=>(cj 1 yq ds).bf
abbrev xR:Inf D:=⟨"is_name",1,["thing"],jB⟩
theorem Oj(F:L2.Fun K "is_name" "is_name" yD f fd)(T:Txt K mg t):OD P w K mg base (Ga t L) xR f fd:=by
 obtain⟨JG,oh,oU⟩:=T.jx
 obtain⟨RB,t7,uf⟩:=T.tY
 refine okJ 0 yq F O3 λ_ _ _ _ _ _ hr=>?_
 exact(aq (bW (vZ (jV (dX (dY (aK (nP (cv:=.ty "str") (.inr rfl) (T.di _) rfl T.cz (aJ 0 (pv 0)) (jA rfl T.Ao (by decide +kernel) rfl))))) (gW (dX (z8 (aK aB) (aK (c7 rfl T.fQ (aJ 0 (pv 0)))) (aK (uR (gM (v:=.int 8) rfl oh oU) (λ_=>.int _)))))))) (aA (aP iZ)) aZ)
   (aA (aP (Nz rfl rfl T.b_all (aK (vV (iD (λa b c d=>eF (N':=["sign"]) (cap:=[none]) ⟨rfl,rfl,by decide +kernel,by decide +kernel,by rfl,trivial,⟨trivial,trivial⟩⟩ rfl a b c d) (di_str (nv 0)) (vB 0) (λ_ _ _ _ _=>ngc) (λ_ _ _ _ _=>fJ) (λ_ _ _ _ _=>(Kd (aJ 0 (pv 0)) (aK (uR (gM (v:=.str "abcdefghijklmnopqrstuvwxyz") rfl t7 uf) (λ_=>.str _))))))))))))
abbrev ig:Stmt:=top 18
theorem wZ:aG ["thing"] ["thing"] (au ig):=scm
def cG:DSt->Out D:=(oF 1 jB (az (gv 0) aM))
def eN:DSt->Out Fl:=(aX (sIf (orT (kW (tst (wU cM (gb 0)))) (kW (o3 leD leD (kc (.int 1)) (o1 fL (gb 0)) (kc (.int 8))))) (bF (kc (.bl false))) cR)
 (bF (An (o1 allD (rR (cO [none] (ik (gv 0)) (gN 0) (λ_=>.ok true) cG))) (bV (o2b eqD (o1 uX (gv 0)) (o1 fL (gb 0)))))))
def cD:List D->Out D:=λds=>(cj 1 eN ds).bf
abbrev eH:Inf D:=⟨"is_action_list",2,["thing"],cD⟩
theorem wV(F:L2.Fun K "is_action_list" "is_action_list" ig f fd)(T:Txt K mg t)(xM:DD P w K mg base (Ga t L) xR):OD P w K mg base (Ga t L) eH f fd:=by
 obtain⟨u_MOST_ACTIONS,Bu,Ci⟩:=T.jR
 refine okJ 1 eN F wZ λ_ _ _ _ _ _ hr=>?_
 exact(aq (bW (vZ (jV (dX (dY (aK (nP (cv:=.ty "list") (.inr rfl) (T.cM _) rfl T.cz (aJ 0 (pv 0)) (jA rfl T.uP (by decide +kernel) rfl))))) (gW (dX (z8 (aK aB) (aK (c7 rfl T.fQ (aJ 0 (pv 0)))) (aK (uR (gM (v:=.int 8) rfl Bu Ci) (λ_=>.int _)))))))) (aA (aP iZ)) aZ)
   (aA (aP (yf (Nz rfl rfl T.b_all (aK (vV (iD (λa b c d=>eF (N':=["name"]) (cap:=[none]) ⟨rfl,rfl,by decide +kernel,by decide +kernel,by rfl,trivial,⟨trivial,trivial⟩⟩ rfl a b c d) (qM (nv 0)) (vB 0) (λ_ _ _ _ _=>ngc) (λ_ _ _ _ _=>fJ) (λ_ _ _ _ _=>(bx xM hr (aj (nv 0) aF))))))) (uT (Ax hr.units (aK (QL rfl rfl T.fQ rfl T.b_set (nv 0))) (aK (c7 rfl T.fQ (aJ 0 (pv 0))))))))))
abbrev km:Stmt:=top 19
theorem zU:aG ["actions"] ["actions"] (au km):=scm
def jZ:DSt->Out Fl:=(sIf (kW (tst (oF 1 cD (az (gv 0) aM)))) (λ_=>.stuck) cR)
def gq:List D->Out D:=λds=>(cj 1 jZ ds).bf
abbrev jM:Inf D:=⟨"need_actions",3,["actions"],gq⟩
theorem zO(F:L2.Fun K "need_actions" "need_actions" km f fd)(T:Txt K mg t)(cC:DD P w K mg base (Ga t L) eH):OD P w K mg base (Ga t L) jM f fd:=by
 refine okJ 2 jZ F zU λ_ _ _ _ _ _ hr=>?_
 exact(aA (bW (dX (dY (aK (bx cC hr (aj (nv 0) aF))))) (aA jT) aZ))
abbrev yE:Stmt:=top 20
theorem O4:aG ["thing","many"] ["thing","many"] (au yE):=scm
def yr:DSt->Out Fl:=(bF (An (wU wJ (gb 0)) (An (notV (wU rD (gb 0))) (bV (o3 leD ltD (kc (.int 0)) (gb 0) (gb 1))))))
def tX:List D->Out D:=λds=>(cj 2 yr ds).bf
abbrev xT:Inf D:=⟨"is_room",1,["thing","many"],tX⟩
theorem Ol(F:L2.Fun K "is_room" "is_room" yE f fd)(T:Txt K mg t):OD P w K mg base (Ga t L) xT f fd:=by
 refine okJ 0 yr F O4 λ_ _ _ _ _ _ hr=>?_
 exact(aA (aP (yf (nP (cv:=.ty "int") (.inr rfl) (T.wJ _) rfl T.cz (aJ 0 (pv 0)) (jA rfl T.b_int (by decide +kernel) rfl)) (yf (de_not (nP (cv:=.ty "bool") (.inr rfl) (T.rD _) rfl T.cz (aJ 0 (pv 0)) (jA rfl T.b_bool (by decide +kernel) rfl))) (uT (de_lelt (aK aB) (aJ 0 (pv 0)) (aJ 1 (pv 1))))))))
abbrev kj:Stmt:=top 21
theorem pQ:aG ["thing","many","torn_too","word"] ["thing","many","torn_too"] (au kj):=scm
def gG:DSt->Out Fl:=(aX (sIf (orT (kW (tst (wU eO (gb 0)))) (o2b neD (o1 fL (gb 0)) (kc (.int 2)))) (bF (kc (.bl false))) cR)
 (aX (bR 3 (o2 ixD (gvo 0) (kc (.int 0))))
 (aX (sIf (kW (tst (wU di (gb 3)))) (bF (kc (.bl false))) cR)
 (aX (sIf (orT (o2b eqD (gb 3) (kc (.str "must"))) (o2b eqD (gb 3) (kc (.str "may")))) (bF (oF 2 tX (az (o2 ixD (gvo 0) (kc (.int 1))) (az (gv 1) aM)))) cR)
 (bF (An (bV (o2b Bx (o2 ixD (gvo 0) (kc (.int 1))) (kc .non))) (orV (bV (o2b eqD (gb 3) (kc (.str "shut")))) (An (bV (o2b eqD (gb 3) (kc (.str "torn")))) (gv 2)))))))))
def bU:List D->Out D:=λds=>(cj 4 gG ds).bf
abbrev jL:Inf D:=⟨"is_told_door",2,["thing","many","torn_too"],bU⟩
theorem zN(F:L2.Fun K "is_told_door" "is_told_door" kj f fd)(T:Txt K mg t)(xN:DD P w K mg base (Ga t L) xT):OD P w K mg base (Ga t L) jL f fd:=by
 refine okJ 1 gG F pQ λ_ _ _ _ _ _ hr=>?_
 exact(aq (bW (vZ (jV (dX (dY (aK (nP (cv:=.ty "tuple") (.inr rfl) (T.eO _) rfl T.cz (aJ 0 (pv 0)) (jA rfl T.zY (by decide +kernel) rfl))))) (gW (jU hr.units (aK (c7 rfl T.fQ (aJ 0 (pv 0)))) (aK aB))))) (aA (aP iZ)) aZ)
   (aq (cH 3 pQ.nd (bJ 0 (pv 0) aB))
   (aq (bW (dX (dY (aK (nP (cv:=.ty "str") (.inr rfl) (T.di _) rfl T.cz (aJ 3 (pv 3)) (jA rfl T.Ao (by decide +kernel) rfl))))) (aA (aP iZ)) aZ)
   (aq (bW (vZ (jV (qO hr.units (aJ 3 (pv 3)) (aK aL)) (gW (qO hr.units (aJ 3 (pv 3)) (aK aL))))) (aA (aP (bx xN hr (aj (bJ 0 (pv 0) aB) (aj (nv 1) aF))))) aZ)
   (aA (aP (yf (de_is (aK (bJ 0 (pv 0) aB)) (aK nQ)) (uT (de_or (Ax hr.units (aJ 3 (pv 3)) (aK aL)) (uT (yf (Ax hr.units (aJ 3 (pv 3)) (aK aL)) (uT (nv 2)))))))))))))
abbrev pD:Stmt:=top 22
theorem fG:aG ["rows","many_actions","torn_too","room","row","action","thing"] ["rows","many_actions","torn_too"] (au pD):=scm
def d9:DSt->Out Fl:=(sIf (kW (tst (oF 3 bU (az (gv 6) (az (o1 fL (gb 0)) (az (gv 2) aM)))))) (λ_=>.stuck) cR)
def d7:DSt->Out Fl:=(aX (sIf (orT (kW (tst (wU cM (gb 4)))) (o2b neD (o1 fL (gb 4)) (gb 1))) (λ_=>.stuck) cR)
 (mF (enum (gv 4)) (gT 2 (bj (gN 5) (bj (gN 6) dZ))) d9))
def jy:DSt->Out Fl:=(aX (sIf (orT (kW (tst (wU cM (gb 0)))) (kW (o3 leD leD (kc (.int 1)) (o1 fL (gb 0)) (kc (.int 2000))))) (λ_=>.stuck) cR)
 (mF (enum (gv 0)) (gT 2 (bj (gN 3) (bj (gN 4) dZ))) d7))
def cI:List D->Out D:=λds=>(cj 7 jy ds).bf
abbrev nD:Inf D:=⟨"need_rooms",3,["rows","many_actions","torn_too"],cI⟩
theorem DP(F:L2.Fun K "need_rooms" "need_rooms" pD f fd)(T:Txt K mg t)(jH:DD P w K mg base (Ga t L) jL):OD P w K mg base (Ga t L) nD f fd:=by
 obtain⟨u_MOST_ROOMS,Hs,Jd⟩:=T.nO
 refine okJ 2 jy F fG λ_ _ _ _ _ _ hr=>?_
 exact(aq (bW (vZ (jV (dX (dY (aK (nP (cv:=.ty "list") (.inr rfl) (T.cM _) rfl T.cz (aJ 0 (pv 0)) (jA rfl T.uP (by decide +kernel) rfl))))) (gW (dX (z8 (aK aB) (aK (c7 rfl T.fQ (aJ 0 (pv 0)))) (aK (uR (gM (v:=.int 2000) rfl Hs Jd) (λ_=>.int _)))))))) (aA jT) aZ)
   (aA (uZ (vX rfl T.iY (nv 0)) (qL (n:=2) (λh=>sy rfl h) (bZ (ngn fG.nd) (bZ (ngn fG.nd) lM (λa b=>cg a b)) (λa b=>cg a b))) (aq (bW (vZ (jV (dX (dY (aK (nP (cv:=.ty "list") (.inr rfl) (T.cM _) rfl T.cz (aJ 4 (pv 4)) (jA rfl T.uP (by decide +kernel) rfl))))) (gW (jU hr.units (aK (c7 rfl T.fQ (aJ 4 (pv 4)))) (aJ 1 (pv 1)))))) (aA jT) aZ)
   (aA (uZ (vX rfl T.iY (nv 4)) (qL (n:=2) (λh=>sy rfl h) (bZ (ngn fG.nd) (bZ (ngn fG.nd) lM (λa b=>cg a b)) (λa b=>cg a b))) (aA (bW (dX (dY (aK (bx jH hr (aj (nv 6) (aj (c7 rfl T.fQ (aJ 0 (pv 0))) (aj (nv 2) aF))))))) (aA jT) aZ))))))))
abbrev tD:Stmt:=top 23
theorem w6:aG ["told","word"] ["told"] (au tD):=scm
def lN:DSt->Out Fl:=(aX (bR 1 (o2 ixD (gvo 0) (kc (.int 0))))
 (bF (oF 3 tW (az (bV (o2b inD (gb 1) (mY (az (kc (.str "must")) (az (kc (.str "torn")) aM))))) (az (bV (o2b inD (gb 1) (mY (az (kc (.str "must")) (az (kc (.str "may")) aM))))) (az (o2 ixD (gvo 0) (kc (.int 1))) aM))))))
def cA:List D->Out D:=λds=>(cj 2 lN ds).bf
abbrev qw:Inf D:=⟨"made_door",5,["told"],cA⟩
theorem Ip(F:L2.Fun K "made_door" "made_door" tD f fd)(T:Txt K mg t)(xK:DD P w K mg base (Ga t L) xQ):OD P w K mg base (Ga t L) qw f fd:=by
 refine okJ 4 lN F w6 λ_ _ _ _ _ _ hr=>?_
 exact(aq (cH 1 w6.nd (bJ 0 (pv 0) aB))
   (aA (aP (bx xK hr (aj (Kd (aJ 1 (pv 1)) (aK (qJ (aj aL (aj aL aF))))) (aj (Kd (aJ 1 (pv 1)) (aK (qJ (aj aL (aj aL aF))))) (aj (bJ 0 (pv 0) aB) aF)))))))
abbrev tE:Stmt:=top 24
theorem Jq:aG ["row"] ["row"] (au tE):=scm
def fC:DSt->Out D:=(oF 1 cA (az (gv 0) aM))
def lO:DSt->Out Fl:=(bF (oC (one1 pJ) (az (rR (cO [none] (ik (gv 0)) (gN 0) (λ_=>.ok true) fC)) aM)))
def cY:List D->Out D:=λds=>(cj 1 lO ds).bf
abbrev qx:Inf D:=⟨"made_room",6,["row"],cY⟩
theorem Ir(F:L2.Fun K "made_room" "made_room" tE f fd)(T:Txt K mg t)(p6:DD P w K mg base (Ga t L) qw):OD P w K mg base (Ga t L) qx f fd:=by
 refine okJ 5 lO F Jq λ_ _ _ _ _ _ hr=>?_
 exact(aA (aP (Ay rfl T.zY (vV (iD (λa b c d=>eF (N':=["told"]) (cap:=[none]) ⟨rfl,rfl,by decide +kernel,by decide +kernel,by rfl,trivial,⟨trivial,trivial⟩⟩ rfl a b c d) (qM (nv 0)) (vB 0) (λ_ _ _ _ _=>ngc) (λ_ _ _ _ _=>fJ) (λ_ _ _ _ _=>(bx p6 hr (aj (nv 0) aF))))))))
abbrev tM:Stmt:=top 25
theorem Jr:aG ["doors"] ["doors"] (au tM):=scm
def mC:DSt->Out D:=(oM "told" 1 tR (gv 0) aM)
def rC:DSt->Out Fl:=(LQ (cO [none] (ik (gv 0)) (gN 0) (λ_=>.ok true) mC))
def iV:List D->Out (List D):=λds=>(runL 1 rC ds).bf
abbrev qF:Inf (List D):=⟨"told_room",3,["doors"],iV⟩
theorem IK(F:L2.Fun K "told_room" "told_room" tM f fd)(T:Txt K mg t)(uO:gQ P w K mg base (Ga t L) "told" (spD K (Ga t L) 1) 2 tR):ODf P w K mg base (Ga t L) qF f fd:=by
 refine okJf 2 rC F Jr λ_ _ _ _ _ _ hr=>?_
 exact(aA (Py (iD (λa b c d=>eF (N':=["door"]) (cap:=[none]) ⟨rfl,rfl,by decide +kernel,by decide +kernel,by rfl,trivial,⟨trivial,trivial⟩⟩ rfl a b c d) (qM (nv 0)) (vB 0) (λ_ _ _ _ _=>ngc) (λ_ _ _ _ _=>fJ) (λ_ _ _ _ _=>(u9 uO hr (nv 0))))))
abbrev oV:Stmt:=inClass (top 26) 0
theorem DR:aG ["self","actions","rows"] ["self","actions","rows"] (au oV):=⟨rfl,rfl,rfl,by decide +kernel,rfl,by decide +kernel,by decide +kernel⟩
def eE:DSt->Out D:=(oF 1 cY (az (gv 0) aM))
def v6:DSt->Out D:=(oF 1 gq (az (gv 1) aM))
def v7:DSt->Out D:=(o1 fL (gb 1))
def v8:DSt->Out D:=(oC (one1 pJ) (az (gv 1) aM))
def v9:DSt->Out D:=(oC (one1 pJ) (az (rR (cO [none] (ik (gv 2)) (gN 0) (λ_=>.ok true) eE)) aM))
def za(torn:Bool)(ds:List D):Out (List (Str×D)):=match ds with
 | [acts,rows] =>
  let δ:DSt:=[none,some (.sh acts),some (.sh rows)]
  (v6 δ).bf.bind λ_=>(v7 δ).bf.bind λn=>(cI [rows,n,.bl torn]).bf.bind λ_=>(v8 δ).bf.bind λta=>(v9 δ).bf.bind λtr=>.ok [("actions",ta),("rooms",tr)]
 | _=>.stuck
def I_Draft:List D->Out (List (Str×D)):=za true
def qj:List D->Out (List (Str×D)):=za false
def spT(b:Bool):Sp:=λvs H Q _=>∃v,vs=[v]/\Q (.bl b) H
abbrev oW:Stmt:=inClass (top 26) 1
theorem DX:aG ["self"] ["self"] (au oW):=⟨rfl,rfl,rfl,by decide +kernel,rfl,by decide +kernel,by decide +kernel⟩
theorem Ds{f:Addr}{fd:FuncData}(F:L2.Fun K "lets_torn" "Draft.lets_torn" oW f fd):bY P w K mg base CX0 1 f fd ["self"] (spT true):=by
 refine F.ok DX (λvs H Q E h=>?_) (λcdv A outer s H vs Q E hr h=>?_)
 .obtain⟨v,rfl,_⟩:=h
  rfl
 .obtain⟨v,rfl,q⟩:=h
  exact⟨_,lU (vh pe_bl),q⟩
abbrev sO:Stmt:=inClass (top 27) 0
theorem Jk:aG ["self"] ["self"] (au sO):=⟨rfl,rfl,rfl,by decide +kernel,rfl,by decide +kernel,by decide +kernel⟩
theorem Ie{f:Addr}{fd:FuncData}(F:L2.Fun K "lets_torn" "Plan.lets_torn" sO f fd):bY P w K mg base CX0 1 f fd ["self"] (spT false):=by
 refine F.ok Jk (λvs H Q E h=>?_) (λcdv A outer s H vs Q E hr h=>?_)
 .obtain⟨v,rfl,_⟩:=h
  rfl
 .obtain⟨v,rfl,q⟩:=h
  exact⟨_,lU (vh pe_bl),q⟩
theorem Q3{K:Frag}{Γ:Nat->Option Addr}{G H:Hp}{a C dx:Addr}{v1 v2:V}{acts rows:D}{torn:Bool}{Q:VK}{E:XK}(hH:H a=some (.ins C dx []))(ga:G a=none)(sg:aQ G H)(r1:Rep K Γ G v1 acts)(r2:Rep K Γ G v2 rows)(cl:Cls K C)(na1:bI K C "actions")(na2:bI K C "rooms")
  (w:wpO (za torn [acts,rows]) (λfds=>∀fs G' H',aQ G G'->(∀b o,H b=some o->b≠a->H' b=some o)->aQ G' H'->(∀b,H b≠none->G b=none->G' b=none)->H' a=some (.ins C dx fs)->jh K Γ G' fs fds->Q .non H')
   (λx=>∀a' G' H',aQ G G'->(∀b o,H b=some o->b≠a->H' b=some o)->aQ G' H'->(∀b,H b≠none->G b=none->G' b=none)->Rep K Γ G' (.ref a') x->E (.ref a') none H')) :
  tSeq (zm (teD K Γ E0 v6)) (tSeq (zm (FQ (spD K Γ 3 cI) [] E0 (je (teD K Γ E0 (gv 2)) (je (teD K Γ E0 v7) (je (tMeth C "lets_torn" (spT torn) [] E0 (m7 0) m6) m6))))) (tSeq (sFld K (m7 0) (teD K Γ E0 v8) "actions") (sFld K (m7 0) (teD K Γ E0 v9) "rooms"))) { nx:=λ_ H'=>Q .non H',rt:=Q } [some (.ref a),some v1,some v2] H:=by
 have S0:SR K Γ G H G H [some (.ref a),some v1,some v2] [none,some (.sh acts),some (.sh rows)]:=by
  refine⟨.refl sg,rfl,λ_=>none,λi x e=>?_⟩
  match i,e with
  | 1,e=>cases e;exact⟨v1,rfl,r1⟩
  | 2,e=>cases e;exact⟨v2,rfl,r2⟩
  | i+3,e=>simp at e
 have g2:gv 2 [none,some (.sh acts),some (.sh rows)]=.ok rows:=rfl
 have w1:=dz (R':=exD K Γ E0 G H) (ao w)
 refine⟨G,H,G,_,S0,w1.mono (λd1 w1 u1 G1 H1 s1 _=>?_) λ_ k=>k⟩
 have S1:=S0.step s1
 refine⟨G,H,G1,_,S1,?_⟩
 rw[g2]
 intro u2 G2 H2 s2 q2
 have S2:=S1.step s2
 have w2:=dz (R':=exD K Γ E0 G2 H2) (ao w1)
 refine⟨G,H,G2,_,S2,w2.mono (λn w2 u3 G3 H3 s3 q3=>?_) λ_ k=>k⟩
 have s03:=((s1.trans s2).trans s3)
 refine⟨_,rfl,a,dx,[],rfl,s03.hh _ _ hH,rfl,_,rfl,rfl,G3,[rows,n,.bl torn],s03.gh,.cons (q2.mono s3.gg) (.cons q3 (.cons (.bl _) .nil)),?_⟩
 have w3:=dz (R':=exD K Γ E0 G3 H3) (ao w2)
 refine w3.mono (λd3 w3 u4 G4 H4 s4 _=>?_) λ_ k=>k
 have s04:=s03.trans s4
 have S4:=S0.step s04
 have w4:=dz (R':=exD K Γ E0 G4 H4) (ao w3)
 refine⟨G,H,G4,_,S4,w4.mono (λta w4 u5 G5 H5 s5 q5=>?_) λ_ k=>k⟩
 have s05:=s04.trans s5
 have g5:G5 a=none:=s05.sep a (by rw[hH];exact λz=>nomatch z) ga
 refine⟨_,rfl,a,C,dx,[],rfl,s05.hh _ _ hH,cl,na1,(by decide),?_⟩
 have st5:Step G5 (upd H5 a (.ins C dx (jm "actions" u5 []))) G5 (upd H5 a (.ins C dx (jm "actions" u5 []))):=.refl λb o e=>by rw[aW (aV e g5)];exact s05.gh _ _ e
 have S5:SR K Γ G5 (upd H5 a (.ins C dx (jm "actions" u5 []))) G5 (upd H5 a (.ins C dx (jm "actions" u5 []))) [some (.ref a),some v1,some v2] [none,some (.sh acts),some (.sh rows)]:=by
  refine⟨st5,rfl,λ_=>none,λi x e=>?_⟩
  match i,e with
  | 1,e=>cases e;exact⟨v1,rfl,r1.mono s05.gg⟩
  | 2,e=>cases e;exact⟨v2,rfl,r2.mono s05.gg⟩
  | i+3,e=>simp at e
 have w5:=dz (R':=exD K Γ E0 G5 (upd H5 a (.ins C dx (jm "actions" u5 [])))) (ao w4)
 refine⟨_,_,G5,_,S5,w5.mono (λtr w5 u6 G6 H6 s6 q6=>?_) λ_ k=>k⟩
 have h6:=s6.hh _ _ (aO (H:=H5) (a:=a) (o:=.ins C dx (jm "actions" u5 [])))
 refine⟨_,rfl,a,C,dx,_,rfl,h6,cl,na2,(by show 1<1000;decide),?_⟩
 have g6:G6 a=none:=s6.sep a (by rw[aO];exact λz=>nomatch z) g5
 have ne:¬(("actions":Str)="rooms"):=by decide +kernel
 have ef:jm "rooms" u6 (jm "actions" u5 [])=[(("actions":Str),u5),(("rooms":Str),u6)]:=by
  show (if ("actions":Str)="rooms" then _ else (("actions":Str),u5)::jm "rooms" u6 [])=_
  rw[if_neg ne]
  rfl
 refine w5 [("actions",u5),("rooms",u6)] G6 _ (s05.gg.trans s6.gg) (λb o e hb=>?_) (λb o e=>?_) (λb hb g0=>?_) (by rw[aO,ef]) (.cons (q5.mono s6.gg) (.cons q6 .nil))
 .rw[aW hb]
  exact s6.hh _ _ (by rw[aW hb];exact s05.hh _ _ e)
 .rw[aW (aV e g6)]
  exact s6.gh _ _ e
 .refine s6.sep b (λz=>?_) (s05.sep b hb g0)
  by_cases e:b=a
  .subst e;rw[aO] at z;cases z
  .rw[aW e] at z
   cases q:H b with
   | none=>exact hb q
   | some o=>rw[s05.hh _ _ q] at z;cases z
theorem uH{f fT C:Addr}{fd fdT:FuncData}{c:Nat}{torn:Bool}(F:L2.Fun K "__init__" "Draft.__init__" oV f fd)(T:Txt K mg t)(fX:DD P w K mg base (Ga t L) jM)(jt:DD P w K mg base (Ga t L) nD)(kZ:DD P w K mg base (Ga t L) qx)(hC:Ga t L c=some C)(cl:Cls K C)(na1:bI K C "actions")(na2:bI K C "rooms")(hmT:Meth K C "lets_torn" fT)(GT:bY P w K mg base CX0 1 fT fdT ["self"] (spT torn))(bT:Binds K fdT ["self"] []):bY P w K mg base CX0 7 f fd ["self","actions","rows"] (spI K (Ga t L) c 2 (za torn)):=by
 obtain⟨wz,fd_need_rooms,Gm,G7,HH,Hx⟩:=jt.ex
 refine F.ok DR (λvs H Q E h=>h.1) (λcdv A outer s H vs Q E hr h=>?_)
 obtain⟨hl,a,dx,C',us,G,ds,rfl,hH,hC',ga,sg,r,w⟩:=h
 rw[hC] at hC'
 cases hC'
 cases r with
 | nil=>cases hl
 | @cons v1 us acts ds r1 r =>
  cases r with
  | nil=>cases hl
  | @cons v2 us rows ds r2 r =>
   cases r with
   | cons _ _=>cases hl
   | nil =>
    refine⟨tSeq (zm (teD K (Ga t L) E0 v6)) (tSeq (zm (FQ (spD K (Ga t L) 3 cI) [] E0 (je (teD K (Ga t L) E0 (gv 2)) (je (teD K (Ga t L) E0 v7) (je (tMeth C "lets_torn" (spT torn) [] E0 (m7 0) m6) m6))))) (tSeq (sFld K (m7 0) (teD K (Ga t L) E0 v8) "actions") (sFld K (m7 0) (teD K (Ga t L) E0 v9) "rooms"))),sE (oO (bx fX hr (aj (nv 1) aF))) (sE (oO (Ja Gm (hr.mono (by decide)) rfl HH Hx G7 .nil Cd (aU (nv 2) (aU (c7 rfl T.fQ (aJ 1 (pv 1))) (aU (pe_meth0 (pv 0) cl hmT GT (hr.mono (by decide)) bT .nil Cd) bD))))) (sE (Ou (pv 0) (Ay rfl T.zY (nv 1)) rfl) (lU (Ou (pv 0) (Ay rfl T.zY (vV (iD (λa b c d=>eF (N':=["row"]) (cap:=[none]) ⟨rfl,rfl,by decide +kernel,by decide +kernel,by rfl,trivial,⟨trivial,trivial⟩⟩ rfl a b c d) (qM (nv 2)) (vB 0) (λ_ _ _ _ _=>ngc) (λ_ _ _ _ _=>fJ) (λ_ _ _ _ _=>(bx kZ hr (aj (nv 0) aF)))))) rfl)))),?_⟩
    exact Q3 hH ga sg r1 r2 cl na1 na2 w
abbrev eZ:Stmt:=inClass (top 26) 2
theorem tO:aG ["self"] ["self"] (au eZ):=scm
def eY:DSt->Out Fl:=(LQ (ik (oFld "actions" [gD,cF] (gv 0))))
def cT:List D->Out (List D):=λds=>(runL 1 eY ds).bf
abbrev ug:Inf (List D):=⟨"action_list",1,["self"],cT⟩
theorem su(F:L2.Fun K "action_list" "Draft.action_list" eZ f fd)(T:Txt K mg t):ODf P w K mg base (Ga t L) ug f fd:=by
 refine okJf 0 eY F tO λ_ _ _ _ _ _ hr=>?_
 exact(aA (Py (df_list rfl T.uP (NB (cs:=[gD,cF]) ⟨⟨t.Draft,rfl,T.PN.cls,T.eQ⟩,⟨t.Plan,rfl,T.i_Plan.cls,T.fK⟩,trivial⟩ (nv 0)))))
def bH:List (Nat×(List D->Out (List D))):=[(gD,cT),(cF,cT)]
abbrev oX:Stmt:=inClass (top 26) 5
theorem DY:aG ["self"] ["self"] (au oX):=scm
def j6:DSt->Out (List D):=(oFl 1 iV (az (gv 0) aM))
def nW:DSt->Out Fl:=(Oz (cO [none] (ik (oFld "rooms" [gD,cF] (gv 0))) (gN 0) (λ_=>.ok true) j6))
def fZ:List D->Out (List (List D)):=λds=>(runLL 1 nW ds).bf
abbrev Gp:Inf (List (List D)):=⟨"told",4,["self"],fZ⟩
theorem Dt(F:L2.Fun K "told" "Draft.told" oX f fd)(T:Txt K mg t)(qb:DDf P w K mg base (Ga t L) qF):ODg P w K mg base (Ga t L) Gp f fd:=by
 refine okJg 3 nW F DY λ_ _ _ _ _ _ hr=>?_
 exact(aA (ds_retff (dff_comp (λa b c d=>eF (N':=["doors"]) (cap:=[none]) ⟨rfl,rfl,by decide +kernel,by decide +kernel,by rfl,trivial,⟨trivial,trivial⟩⟩ rfl a b c d) (qM (NB (cs:=[gD,cF]) ⟨⟨t.Draft,rfl,T.PN.cls,T.gK⟩,⟨t.Plan,rfl,T.i_Plan.cls,T.iJ⟩,trivial⟩ (nv 0))) (vB 0) (λ_ _ _ _ _=>ngc) (λ_ _ _ _ _=>fJ) (λ_ _ _ _ _=>(ncallF qb hr (aj (nv 0) aF))))))
def bO:List (Nat×(List D->Out (List (List D)))):=[(gD,fZ),(cF,fZ)]
abbrev kh:Stmt:=top 31
theorem zT:aG ["text"] ["text"] (au kh):=scm
def mX:DSt->Out D:=(orV (bV (o2b inD (gb 0) (kc (.str "abcdefghijklmnopqrstuvwxyz")))) (bV (o2b inD (gb 0) (kc (.str "0123456789")))))
def jY:DSt->Out Fl:=(aX (sIf (orT (kW (o3 leD leD (kc (.int 1)) (o1 fL (gb 0)) (kc (.int 8)))) (o2b gZ (o2 ixD (gvo 0) (kc (.int 0))) (kc (.str "abcdefghijklmnopqrstuvwxyz")))) (bF (kc (.bl false))) cR)
 (bF (o1 allD (rR (cO [none] (strO (gv 0)) (gN 0) (λ_=>.ok true) mX)))))
def dU:List D->Out D:=λds=>(cj 1 jY ds).bf
abbrev gA:Inf D:=⟨"is_room_name",1,["text"],dU⟩
theorem zM(F:L2.Fun K "is_room_name" "is_room_name" kh f fd)(T:Txt K mg t):OD P w K mg base (Ga t L) gA f fd:=by
 obtain⟨JG,oh,oU⟩:=T.jx
 obtain⟨RB,t7,uf⟩:=T.tY
 obtain⟨u_FIGURES,QW,Rm⟩:=T.yd
 refine okJ 0 jY F zT λ_ _ _ _ _ _ hr=>?_
 exact(aq (bW (vZ (jV (dX (z8 (aK aB) (aK (c7 rfl T.fQ (aJ 0 (pv 0)))) (aK (uR (gM (v:=.int 8) rfl oh oU) (λ_=>.int _))))) (gW (Ba (aK (bJ 0 (pv 0) aB)) (aK (uR (gM (v:=.str "abcdefghijklmnopqrstuvwxyz") rfl t7 uf) (λ_=>.str _))))))) (aA (aP iZ)) aZ)
   (aA (aP (Nz rfl rfl T.b_all (aK (vV (iD (λa b c d=>eF (N':=["sign"]) (cap:=[none]) ⟨rfl,rfl,by decide +kernel,by decide +kernel,by rfl,trivial,⟨trivial,trivial⟩⟩ rfl a b c d) (di_str (nv 0)) (vB 0) (λ_ _ _ _ _=>ngc) (λ_ _ _ _ _=>fJ) (λ_ _ _ _ _=>(de_or (Kd (aJ 0 (pv 0)) (aK (uR (gM (v:=.str "abcdefghijklmnopqrstuvwxyz") rfl t7 uf) (λ_=>.str _)))) (uT (Kd (aJ 0 (pv 0)) (aK (uR (gM (v:=.str "0123456789") rfl QW Rm) (λ_=>.str _))))))))))))))
abbrev kE:Stmt:=top 32
theorem pR:aG ["line","words"] ["line"] (au kE):=scm
def j0:DSt->Out Fl:=(aX (bR 1 (oTx ir (gv 0) (kc (.str " "))))
 (aX (sIf (orT (o2b neD (o2 ixD (gvo 1) (kc (.int 0))) (kc (.str "actions"))) (kW (tst (oF 1 cD (az (oSl (gv 1) (soI (kc (.int 1))) noI) aM))))) (bF (kc .non)) cR)
 (bF (oSl (gv 1) (soI (kc (.int 1))) noI))))
def gw:List D->Out D:=λds=>(cj 2 j0 ds).bf
abbrev jN:Inf D:=⟨"read_actions",3,["line"],gw⟩
theorem zP(F:L2.Fun K "read_actions" "read_actions" kE f fd)(T:Txt K mg t)(cC:DD P w K mg base (Ga t L) eH):OD P w K mg base (Ga t L) jN f fd:=by
 refine okJ 2 j0 F pR λ_ _ _ _ _ _ hr=>?_
 exact(aq (cH 1 pR.nd (vW (nv 0) aL (λa b=>gR PySem.F.plainAttrs_str PySem.F.slot_str_split PySem.F.type_str_split wQ a (aU b bD))))
   (aq (bW (vZ (jV (jU hr.units (aK (bJ 1 (pv 1) aB)) (aK aL)) (gW (dX (dY (aK (bx cC hr (aj (fu (nv 1) (iH aB) iG) aF)))))))) (aA (aP nQ)) aZ)
   (aA (aP (fu (nv 1) (iH aB) iG)))))
abbrev mK:Stmt:=top 33
theorem gP:aG ["lines","numbers","number","line"] ["lines"] (au mK):=scm
def jj:DSt->Out Fl:=(sIf (o2b inD (kc (.str ":")) (gb 3)) (wX 1 (o2 ixD (oTx zg (gv 3) (kc (.str ":"))) (kc (.int 0))) (gv 2)) cR)
def mj:DSt->Out Fl:=(aX (OJ 1)
 (aX (mF (enum (gv 0)) (gT 2 (bj (gN 2) (bj (gN 3) dZ))) jj)
 (zG 1 (bF (gv 1)))))
def iB:List D->Out D:=λds=>(cj 4 mj ds).bf
abbrev lY:Inf D:=⟨"named_rooms",1,["lines"],iB⟩
theorem BZ(F:L2.Fun K "named_rooms" "named_rooms" mK f fd)(T:Txt K mg t):OD P w K mg base (Ga t L) lY f fd:=by
 refine okJ 0 mj F gP λ_ _ _ _ _ _ hr=>?_
 exact(aq (ds_setd0 1 (λh=>Ov (i:=1) gP.nd rfl (by walk_at "o") h))
   (aq (uZ (vX rfl T.iY (nv 0)) (qL (n:=2) (λh=>sy rfl h) (bZ (ngn gP.nd) (bZ (ngn gP.nd) lM (λa b=>cg a b)) (λa b=>cg a b))) (aA (bW (dt_in (aK aL) (aJ 3 (pv 3))) (aA (QQ 1 (pv 1) (Ke (Pu (nv 3) aL (λa b=>gR PySem.F.plainAttrs_str PySem.F.slot_str_partition PySem.F.type_str_partition Qe a (aU b bD))) aB) (nv 2) ⟨rfl,rfl,rfl,rfl⟩)) aZ)))
   (aA (qN 1 (aP (nv 1))))))
abbrev gO:Stmt:=top 34
theorem vA:aG ["words","actions","numbers"] ["words","actions","numbers"] (au gO):=scm
def gH:DSt->Out Fl:=(aX (sIf (orT (o2b neD (o1 fL (gb 0)) (kc (.int 3))) (orT (o2b gZ (o2 ixD (gvo 0) (kc (.int 0))) (gb 1)) (o2b gZ (o2 ixD (gvo 0) (kc (.int 1))) (mY (az (kc (.str "must")) (az (kc (.str "may")) aM)))))) (bF (kc (.bl false))) cR)
 (bF (An (oF 1 dU (az (o2 ixD (gvo 0) (kc (.int 2))) aM)) (bV (dInX 2 (o2 ixD (gvo 0) (kc (.int 2))))))))
def dH:List D->Out D:=λds=>(cj 3 gH ds).bf
abbrev gB:Inf D:=⟨"is_written_door",2,["words","actions","numbers"],dH⟩
theorem vg(F:L2.Fun K "is_written_door" "is_written_door" gO f fd)(T:Txt K mg t)(cW:DD P w K mg base (Ga t L) gA):OD P w K mg base (Ga t L) gB f fd:=by
 refine okJ 1 gH F vA λ_ _ _ _ _ _ hr=>?_
 exact(aq (bW (vZ (jV (jU hr.units (aK (c7 rfl T.fQ (aJ 0 (pv 0)))) (aK aB)) (jV (Ba (aK (bJ 0 (pv 0) aB)) (aJ 1 (pv 1))) (gW (Ba (aK (bJ 0 (pv 0) aB)) (aK (qJ (aj aL (aj aL aF))))))))) (aA (aP iZ)) aZ)
   (aA (aP (yf (bx cW hr (aj (bJ 0 (pv 0) aB) aF)) (uT (de_dinX 2 hr.units (pv 2) (bJ 0 (pv 0) aB)))))))
abbrev pF:Stmt:=top 35
theorem fH:aG ["text","actions","numbers","doors","written","words","action"] ["text","actions","numbers"] (au pF):=scm
def BL:DSt->Out D:=(kc (.rot [.str "shut",.non]))
def j5:DSt->Out Fl:=(aX (bR 5 (oTx ir (gv 4) (kc (.str " "))))
 (aX (sIf (kW (tst (oF 3 dH (az (gv 5) (az (gv 1) (az (gv 2) aM)))))) (bF (kc .non)) cR)
 (aX (bR 6 (oIdxS (gv 1) (o2 ixD (gvo 5) (kc (.int 0)))))
 (aX (sIf (o2b neD (o2 ixD (gvo 3) (gv 6)) (kc (.rot [.str "shut",.non]))) (bF (kc .non)) cR)
 (sPut 3 (mY (az (o2 ixD (gvo 5) (kc (.int 1))) (az (dIx 2 (o2 ixD (gvo 5) (kc (.int 2)))) aM))) (gv 6))))))
def n8:DSt->Out Fl:=(aX (gU 3 (cO [none] (ik (gv 1)) (gN 0) (λ_=>.ok true) BL))
 (aX (sIf (o2b eqD (gb 0) (kc (.str ""))) (uI 3) cR)
 (aX (sIf (kW (tst (oTx swD (gv 0) (kc (.str " "))))) (bF (kc .non)) cR)
 (aX (mF (ik (oTx ir (oSl (gv 0) (soI (kc (.int 1))) noI) (kc (.str ", ")))) (gN 4) j5)
 (uI 3)))))
def ju:List D->Out D:=λds=>(cj 7 n8 ds).bf
abbrev nF:Inf D:=⟨"read_doors",3,["text","actions","numbers"],ju⟩
theorem DQ(F:L2.Fun K "read_doors" "read_doors" pF f fd)(T:Txt K mg t)(fW:DD P w K mg base (Ga t L) gB):OD P w K mg base (Ga t L) nF f fd:=by
 obtain⟨JH,Ht,Je⟩:=T.G9
 refine okJ 2 n8 F fH λ_ _ _ _ _ _ hr=>?_
 exact(aq (ds_setlc 3 (λa b c d=>Cg (i:=3) (N':=["name"]) (cap:=[none]) ⟨rfl,rfl,by decide +kernel,by decide +kernel,by rfl,trivial,⟨trivial,trivial⟩⟩ rfl fH.nd rfl (by walk_at "o") a b c d rfl) (qM (nv 1)) (vB 0) (λ_ _ _ _ _=>ngc) (λ_ _ _ _ _=>fJ) (λ_ _ _ _ _=>(uR (gM (v:=.ref JH) rfl Ht rfl) (λ_=>.rot (.inr Je) (.cons (.str _) (.cons .non .nil))))))
   (aq (bW (qO hr.units (aJ 0 (pv 0)) (aK aL)) (aA (t6 3 (pv 3))) aZ)
   (aq (bW (dX (dY (aK (de_sw (nv 0) aL (λa b=>gR PySem.F.plainAttrs_str PySem.F.slot_str_startswith PySem.F.type_str_startswith mt_sw a (aU b bD)))))) (aA (aP nQ)) aZ)
   (aq (uZ (qM (vW (fu (nv 0) (iH aB) iG) aL (λa b=>gR PySem.F.plainAttrs_str PySem.F.slot_str_split PySem.F.type_str_split wQ a (aU b bD)))) (ngn fH.nd) (aq (cH 5 fH.nd (vW (nv 4) aL (λa b=>gR PySem.F.plainAttrs_str PySem.F.slot_str_split PySem.F.type_str_split wQ a (aU b bD))))
   (aq (bW (dX (dY (aK (bx fW hr (aj (nv 5) (aj (nv 1) (aj (nv 2) aF))))))) (aA (aP nQ)) aZ)
   (aq (cH 6 fH.nd (QK (nv 1) (bJ 5 (pv 5) aB) (λa b=>gR PySem.F.plainAttrs_list PySem.F.slot_list_index PySem.F.type_list_index Rf a (aU b bD))))
   (aq (bW (jU hr.units (aK (bJ 3 (pv 3) (nv 6))) (aK (uR (gM (v:=.ref JH) rfl Ht rfl) (λ_=>.rot (.inr Je) (.cons (.str _) (.cons .non .nil)))))) (aA (aP nQ)) aZ)
   (aA (ds_put 3 (pv 3) (qJ (aj (bJ 5 (pv 5) aB) (aj (de_dix 2 hr.units (pv 2) (bJ 5 (pv 5) aB) (λ_ _=>rfl)) aF))) (nv 6) (λa b c=>Ot a (pg_sub b c set_list)))))))))
   (aA (t6 3 (pv 3)))))))
abbrev tK:Stmt:=top 36
theorem xf:aG ["line","number","actions","numbers","name"] ["line","number","actions","numbers"] (au tK):=scm
def rA:DSt->Out Fl:=(aX (bR 4 (o2 ixD (oTx zg (gv 0) (kc (.str ":"))) (kc (.int 0))))
 (aX (sIf (orT (kW (tst (oF 1 dU (az (gv 4) aM)))) (o2b neD (Kc 3 (gv 4)) (gb 1))) (bF (kc .non)) cR)
 (bF (oF 3 ju (az (oSl (gv 0) (soI (o2 bw (o1 fL (gb 4)) (kc (.int 1)))) noI) (az (gv 2) (az (gv 3) aM)))))))
def lA:List D->Out D:=λds=>(cj 5 rA ds).bf
abbrev qC:Inf D:=⟨"read_room",4,["line","number","actions","numbers"],lA⟩
theorem Iw(F:L2.Fun K "read_room" "read_room" tK f fd)(T:Txt K mg t)(cW:DD P w K mg base (Ga t L) gA)(ni:DD P w K mg base (Ga t L) nF):OD P w K mg base (Ga t L) qC f fd:=by
 refine okJ 3 rA F xf λ_ _ _ _ _ _ hr=>?_
 exact(aq (cH 4 xf.nd (Ke (Pu (nv 0) aL (λa b=>gR PySem.F.plainAttrs_str PySem.F.slot_str_partition PySem.F.type_str_partition Qe a (aU b bD))) aB))
   (aq (bW (vZ (jV (dX (dY (aK (bx cW hr (aj (nv 4) aF))))) (gW (jU hr.units (aK (de_dget1 3 hr.units (pv 3) (nv 4) ⟨rfl,rfl,rfl,rfl⟩)) (aJ 1 (pv 1)))))) (aA (aP nQ)) aZ)
   (aA (aP (bx ni hr (aj (fu (nv 0) (iH (aY (c7 rfl T.fQ (aJ 4 (pv 4))) aB)) iG) (aj (nv 2) (aj (nv 3) aF))))))))
abbrev tH:Stmt:=top 37
theorem cQ:aG ["text","lines","actions","numbers","rows","number","line","doors"] ["text"] (au tH):=scm
def mq:DSt->Out Fl:=(aX (bR 7 (oF 4 lA (az (gv 6) (az (gv 5) (az (gv 2) (az (gv 3) aM))))))
 (aX (sIf (o2b Bx (gb 7) (kc .non)) (λ_=>.stuck) cR)
 (vm 4 (gv 7))))
def rm:DSt->Out Fl:=(aX (bR 1 (oTx ir (gv 0) (kc (.str "\n"))))
 (aX (bR 2 (oF 1 gw (az (o2 ixD (gvo 1) (kc (.int 0))) aM)))
 (aX (sIf (o2b Bx (gb 2) (kc .non)) (λ_=>.stuck) cR)
 (aX (sIf (o2b eqD (o1 fL (gb 1)) (kc (.int 1))) (λ_=>.stuck) cR)
 (aX (bR 3 (oF 1 iB (az (oSl (gv 1) (soI (kc (.int 1))) noI) aM)))
 (aX (gU 4 (vQ aM))
 (aX (mF (enum (oSl (gv 1) (soI (kc (.int 1))) noI)) (gT 2 (bj (gN 5) (bj (gN 6) dZ))) mq)
 (zG 4 (bF (oMk cF 2 qj (az (gv 2) (az (gv 4) aM))))))))))))
def iU:List D->Out D:=λds=>(cj 8 rm ds).bf
abbrev qz:Inf D:=⟨"read_plan",9,["text"],iU⟩
theorem Iv(F:L2.Fun K "read_plan" "read_plan" tH f fd)(T:Txt K mg t)(jJ:DD P w K mg base (Ga t L) jN)(lX:DD P w K mg base (Ga t L) lY)(p7:DD P w K mg base (Ga t L) qC)(xV:Ini P w K mg base t.Plan 7 ["self","actions","rows"] (spI K (Ga t L) cF 2 qj)):OD P w K mg base (Ga t L) qz f fd:=by
 refine okJ 8 rm F cQ λ_ _ _ _ _ _ hr=>?_
 exact(aq (cH 1 cQ.nd (vW (nv 0) aL (λa b=>gR PySem.F.plainAttrs_str PySem.F.slot_str_split PySem.F.type_str_split wQ a (aU b bD))))
   (aq (cH 2 cQ.nd (bx jJ hr (aj (bJ 1 (pv 1) aB) aF)))
   (aq (bW (dt_is (aJ 2 (pv 2)) (aK nQ)) (aA jT) aZ)
   (aq (bW (qO hr.units (aK (c7 rfl T.fQ (aJ 1 (pv 1)))) (aK aB)) (aA jT) aZ)
   (aq (cH 3 cQ.nd (bx lX hr (aj (fu (nv 1) (iH aB) iG) aF)))
   (aq (uG 4 cQ.nd (nR aF))
   (aq (uZ (vX rfl T.iY (fu (nv 1) (iH aB) iG)) (qL (n:=2) (λh=>sy rfl h) (bZ (ngn cQ.nd) (bZ (ngn cQ.nd) lM (λa b=>cg a b)) (λa b=>cg a b))) (aq (cH 7 cQ.nd (bx p7 hr (aj (nv 6) (aj (nv 5) (aj (nv 2) (aj (nv 3) aF))))))
   (aq (bW (dt_is (aJ 7 (pv 7)) (aK nQ)) (aA jT) aZ)
   (aA (napp 4 (nv 7))))))
   (aA (qN 4 (aP (Ft xV hr T.g_Plan (aj (nv 2) (aj (nv 4) aF)))))))))))))
abbrev tB:Stmt:=top 38
theorem pG:aG ["name","told","word","to"] ["name","told"] (au tB):=scm
def qY:DSt->Out Fl:=(aX (bR 2 (o2 ixD (gvo 1) (kc (.int 0))))
 (aX (bR 3 (o2 ixD (gvo 1) (kc (.int 1))))
 (bF (Fe (jW (fFld (gv 0)) (jW (fLit " ") (jW (fFld (gv 2)) (jW (fLit " r") (jW (fFld (gv 3)) fNil)))))))))
def lu:List D->Out D:=λds=>(cj 4 qY ds).bf
abbrev qu:Inf D:=⟨"door_text",1,["name","told"],lu⟩
theorem Io(F:L2.Fun K "door_text" "door_text" tB f fd)(T:Txt K mg t):OD P w K mg base (Ga t L) qu f fd:=by
 refine okJ 0 qY F pG λ_ _ _ _ _ _ hr=>?_
 exact(aq (cH 2 pG.nd (bJ 1 (pv 1) aB))
   (aq (cH 3 pG.nd (bJ 1 (pv 1) aB))
   (aA (aP (Hh (dq (yj (nv 0)) (dq yl (dq (yj (nv 2)) (dq yl (dq (yj (nv 3)) Hk))))))))))
abbrev tL:Stmt:=top 39
theorem pI:aG ["room","row","actions","doors","written"] ["room","row","actions"] (au tL):=scm
def mz:DSt->Out D:=(oF 2 lu (az (gv 0) (az (gv 1) aM)))
def rB:DSt->Out Fl:=(aX (bR 3 (rR (cO [none,none] (zipO (gv 2) (gv 1)) (gT 2 (bj (gN 0) (bj (gN 1) dZ))) (o2b neD (gb 1) (kc (.rot [.str "shut",.non]))) mz)))
 (aX (sIf (o2b eqD (gb 3) (rW aM)) (bF (Fe (jW (fLit "r") (jW (fFld (gv 0)) (jW (fLit ":") fNil))))) cR)
 (aX (bR 4 (rZ (kc (.str ", ")) (gv 3)))
 (bF (Fe (jW (fLit "r") (jW (fFld (gv 0)) (jW (fLit ": ") (jW (fFld (gv 4)) fNil)))))))))
def lB:List D->Out D:=λds=>(cj 5 rB ds).bf
abbrev qD:Inf D:=⟨"room_text",2,["room","row","actions"],lB⟩
theorem Iz(F:L2.Fun K "room_text" "room_text" tL f fd)(T:Txt K mg t)(pZ:DD P w K mg base (Ga t L) qu):OD P w K mg base (Ga t L) qD f fd:=by
 obtain⟨JH,Ht,Je⟩:=T.G9
 refine okJ 1 rB F pI λ_ _ _ _ _ _ hr=>?_
 exact(aq (ds_setc 3 (λa b c d=>Cg (i:=3) (N':=["name","told"]) (cap:=[none,none]) ⟨rfl,rfl,by decide +kernel,by decide +kernel,by rfl,trivial,⟨trivial,trivial,trivial⟩⟩ rfl pI.nd rfl (by walk_at "o") a b c d rfl) (di_zip rfl T.b_zip (nv 2) (nv 1)) (sh_t (Ab (vB 0) (Ab (vB 1) sh_nil))) (λ_ _ _ _ _=>(qL (n:=2) (λh=>sy rfl h) (bZ ngc (bZ ngc lM (λa b=>cg a b)) (λa b=>cg a b)))) (λ_ _ _ _ _=>(dts_one (jU hr.units (aJ 1 (pv 1)) (aK (uR (gM (v:=.ref JH) rfl Ht rfl) (λ_=>.rot (.inr Je) (.cons (.str _) (.cons .non .nil)))))))) (λ_ _ _ _ _=>(bx pZ hr (aj (nv 0) (aj (nv 1) aF)))))
   (aq (bW (qO hr.units (aJ 3 (pv 3)) (aK (yg aF))) (aA (aP (Hh (dq yl (dq (yj (nv 0)) (dq yl Hk)))))) aZ)
   (aq (cH 4 pI.nd (lK aL (nv 3) (λa b=>gR PySem.F.plainAttrs_str PySem.F.slot_str_join PySem.F.type_str_join lR a (aU b bD))))
   (aA (aP (Hh (dq yl (dq (yj (nv 0)) (dq yl (dq (yj (nv 4)) Hk))))))))))
abbrev tG:Stmt:=top 40
theorem pH:aG ["plan","actions","lines"] ["plan"] (au tG):=scm
def my:DSt->Out D:=(oF 3 lB (az (gv 0) (az (gv 1) (az (gv 2) aM))))
def qZ:DSt->Out Fl:=(aX (bR 1 (oM "action_list" 1 (tabD bH) (gv 0) aM))
 (aX (gU 2 (vQ (az (rZ (kc (.str " ")) (o2 bw (rW (az (kc (.str "actions")) aM)) (gv 1))) aM)))
 (aX (sExt 2 (rR (cO [none,none,some 1] (enum (oM "told" 1 (tQ bO) (gv 0) aM)) (gT 2 (bj (gN 0) (bj (gN 1) dZ))) (λ_=>.ok true) my)))
 (zG 2 (bF (rZ (kc (.str "\n")) (gv 2)))))))
def fP:List D->Out D:=λds=>(cj 3 qZ ds).bf
abbrev qy:Inf D:=⟨"plan_text",5,["plan"],fP⟩
theorem Iu(F:L2.Fun K "plan_text" "plan_text" tG f fd)(T:Txt K mg t)(dB:gQ P w K mg base (Ga t L) "action_list" (spF K (Ga t L) 1) 1 bH)(jO:gQ P w K mg base (Ga t L) "told" (spFF K (Ga t L) 1) 4 bO)(p8:DD P w K mg base (Ga t L) qD):OD P w K mg base (Ga t L) qy f fd:=by
 refine okJ 4 qZ F pH λ_ _ _ _ _ _ hr=>?_
 exact(aq (cH 1 pH.nd (u9 (gQ.dF dB) hr (nv 0)))
   (aq (uG 2 pH.nd (nR (aj (lK aL (aY (yg (aj aL aF)) (nv 1)) (λa b=>gR PySem.F.plainAttrs_str PySem.F.slot_str_join PySem.F.type_str_join lR a (aU b bD))) aF)))
   (aq (ds_ext 2 (pv 2) (vV (iD (λa b c d=>eF (N':=["room","row","actions"]) (cap:=[none,none,some 1]) ⟨rfl,rfl,by decide +kernel,by decide +kernel,by rfl,⟨⟨rfl,by walk_at "o"⟩,trivial⟩,⟨trivial,trivial,⟨rfl,rfl,by walk_at "o"⟩,trivial⟩⟩ rfl a b c d) (vX rfl T.iY (u9 (gQ.dFF jO) hr (nv 0))) (sh_t (Ab (vB 0) (Ab (vB 1) sh_nil))) (λ_ _ _ _ _=>(qL (n:=2) (λh=>sy rfl h) (bZ ngc (bZ ngc lM (λa b=>cg a b)) (λa b=>cg a b)))) (λ_ _ _ _ _=>fJ) (λ_ _ _ _ _=>(bx p8 hr (aj (nv 0) (aj (nv 1) (aj (nv 2) aF))))))) (λa b=>oO (gR PySem.F.plainAttrs_list PySem.F.slot_list_extend PySem.F.type_list_extend Rc a (aU b bD))))
   (aA (qN 2 (aP (lK aL (nv 2) (λa b=>gR PySem.F.plainAttrs_str PySem.F.slot_str_join PySem.F.type_str_join lR a (aU b bD)))))))))
abbrev j9:Stmt:=top 42
theorem zR:aG ["_law_script","_law_k"] ["_law_script","_law_k"] (au j9):=scm
def gF:DSt->Out Fl:=(aX (sIf (o2b ltD (gb 1) (o1 fL (gb 0))) (bF (o2 ixD (gvo 0) (gv 1))) cR)
 (bF (o2 bw (o2 mD (gv 1) (gv 1)) (kc (.int 7)))))
def bB:List D->Out D:=λds=>(cj 2 gF ds).bf
abbrev dW:Inf D:=⟨"_law_cell_at",1,["_law_script","_law_k"],bB⟩
theorem zL(F:L2.Fun K "_law_cell_at" "_law_cell_at" j9 f fd)(T:Txt K mg t):OD P w K mg base (Ga t L) dW f fd:=by
 refine okJ 0 gF F zR λ_ _ _ _ _ _ hr=>?_
 exact(aq (bW (dt_lt (aJ 1 (pv 1)) (aK (c7 rfl T.fQ (aJ 0 (pv 0))))) (aA (aP (bJ 0 (pv 0) (nv 1)))) aZ)
   (aA (aP (aY (eV (nv 1) (nv 1)) aB))))
abbrev pB:Stmt:=top 43
theorem mL:aG ["_law_cell","_law_k","_law_number"] ["_law_cell","_law_k"] (au pB):=scm
def nZ:DSt->Out Fl:=(aX (bR 2 (o2 fM (o2 bw (o2 bw (o2 mD (o2 fM (gv 0) (kc (.int 2147483647))) (kc (.int 48271))) (o2 mD (gv 1) (kc (.int 7919)))) (kc (.int 104729))) (kc (.int 2147483647))))
 (aX (bR 2 (o2 fM (o2 bw (o2 bw (o2 mD (o2 fM (o2 mD (gv 2) (gv 2)) (kc (.int 2147483629))) (kc (.int 16807))) (o2 mD (gv 1) (kc (.int 104729)))) (kc (.int 11))) (kc (.int 2147483587))))
 (bF (o2 fM (o2 mD (gv 2) (gv 2)) (kc (.int 2147483549))))))
def aR:List D->Out D:=λds=>(cj 3 nZ ds).bf
abbrev cJ:Inf D:=⟨"_law_mixed",1,["_law_cell","_law_k"],aR⟩
theorem DK(F:L2.Fun K "_law_mixed" "_law_mixed" pB f fd)(T:Txt K mg t):OD P w K mg base (Ga t L) cJ f fd:=by
 refine okJ 0 nZ F mL λ_ _ _ _ _ _ hr=>?_
 exact(aq (cH 2 mL.nd (bM (aY (aY (eV (bM (nv 0) aB) aB) (eV (nv 1) aB)) aB) aB))
   (aq (cH 2 mL.nd (bM (aY (aY (eV (bM (eV (nv 2) (nv 2)) aB) aB) (eV (nv 1) aB)) aB) aB))
   (aA (aP (bM (eV (nv 2) (nv 2)) aB)))))
abbrev j8:Stmt:=top 44
theorem bL:aG ["_law_cell","_law_many_here","_law_size","_law_at","_law_names","_law_k","_law_name","_law_j"] ["_law_cell","_law_many_here"] (au j8):=scm
def mW:DSt->Out Fl:=(bR 6 (o2 bw (gv 6) (o2 ixD (kc (.str "abcdefghijklmnopqrstuvwxyz")) (o2 fM (o2 bw (oF 2 aR (az (gv 0) (az (o2 bw (kc (.int 4)) (gv 7)) aM))) (o2 mD (o2 mD (kc (.int 3)) (gv 5)) (o1 intD (bV (o2b eqD (gb 7) (gb 3)))))) (kc (.int 26))))))
def mV:DSt->Out Fl:=(aX (bR 6 (kc (.str "")))
 (aX (mF (yx (gv 2)) (gN 7) mW)
 (vm 4 (gv 6))))
def jX:DSt->Out Fl:=(aX (sIf (o2b eqD (o2 fM (oF 2 aR (az (gv 0) (az (kc (.int 1)) aM))) (kc (.int 6))) (kc (.int 0))) (bF (oSl (rW (az (kc (.str "may")) (az (kc (.str "must")) (az (kc (.str "actions")) (az (kc (.str "to")) (az (kc (.str "r")) (az (kc (.str "x")) (az (kc (.str "y")) (az (kc (.str "z")) aM))))))))) noI (soI (gv 1)))) cR)
 (aX (bR 2 (o2 bw (kc (.int 1)) (o2 fM (oF 2 aR (az (gv 0) (az (kc (.int 2)) aM))) (kc (.int 8)))))
 (aX (bR 3 (o2 fM (oF 2 aR (az (gv 0) (az (kc (.int 3)) aM))) (gv 2)))
 (aX (gU 4 (vQ aM))
 (aX (mF (yx (gv 1)) (gN 5) mV)
 (uI 4))))))
def dR:List D->Out D:=λds=>(cj 8 jX ds).bf
abbrev jK:Inf D:=⟨"_law_actions",2,["_law_cell","_law_many_here"],dR⟩
theorem zK(F:L2.Fun K "_law_actions" "_law_actions" j8 f fd)(T:Txt K mg t)(aH:DD P w K mg base (Ga t L) cJ):OD P w K mg base (Ga t L) jK f fd:=by
 refine okJ 1 jX F bL λ_ _ _ _ _ _ hr=>?_
 exact(aq (bW (qO hr.units (aK (bM (bx aH hr (aj (nv 0) (aj aB aF))) aB)) (aK aB)) (aA (aP (fu (yg (aj aL (aj aL (aj aL (aj aL (aj aL (aj aL (aj aL (aj aL aF))))))))) iG (iH (nv 1))))) aZ)
   (aq (cH 2 bL.nd (aY aB (bM (bx aH hr (aj (nv 0) (aj aB aF))) aB)))
   (aq (cH 3 bL.nd (bM (bx aH hr (aj (nv 0) (aj aB aF))) (nv 2)))
   (aq (uG 4 bL.nd (nR aF))
   (aq (uZ (dD rfl T.dI (nv 1)) (ngn bL.nd) (aq (cH 6 bL.nd aL)
   (aq (uZ (dD rfl T.dI (nv 2)) (ngn bL.nd) (aA (cH 6 bL.nd (aY (nv 6) (Ke aL (bM (aY (bx aH hr (aj (nv 0) (aj (aY aB (nv 7)) aF))) (eV (eV aB (nv 5)) (Hi rfl T.b_int (Ax hr.units (aJ 7 (pv 7)) (aJ 3 (pv 3)))))) aB))))))
   (aA (napp 4 (nv 6))))))
   (aA (t6 4 (pv 4))))))))
abbrev pC:Stmt:=top 45
theorem bK:aG ["_law_cell","_law_many_here","_law_signs","_law_first","_law_size","_law_at","_law_names","_law_k","_law_name","_law_j"] ["_law_cell","_law_many_here"] (au pC):=scm
def rO:DSt->Out D:=(o2 bw (kc (.str "r")) (o1 strD (o2 bw (kc (.int 100)) (o2 fM (o2 mD (kc (.int 13)) (gv 0)) (kc (.int 797))))))
def rQ:DSt->Out D:=(o2 bw (gv 1) (o1 strD (o2 bw (kc (.int 100)) (o2 fM (o2 bw (o2 mD (kc (.int 13)) (gv 0)) (oF 2 aR (az (gv 2) (az (kc (.int 14)) aM)))) (kc (.int 797))))))
def rN:DSt->Out Fl:=(bR 8 (o2 bw (gv 8) (o2 ixD (gvo 2) (o2 fM (o2 bw (oF 2 aR (az (gv 0) (az (o2 bw (kc (.int 18)) (gv 9)) aM))) (o2 mD (o2 mD (kc (.int 4)) (gv 7)) (o1 intD (bV (o2b eqD (gb 9) (gb 5)))))) (kc (.int 36))))))
def rM:DSt->Out Fl:=(aX (bR 8 (o2 ixD (gvo 2) (o2 fM (o2 bw (oF 2 aR (az (gv 0) (az (kc (.int 17)) aM))) (o2 mD (o2 mD (kc (.int 3)) (gv 7)) (o1 intD (bV (o2b eqD (gb 5) (kc (.int 0))))))) (kc (.int 26)))))
 (aX (mF (rng2 (kc (.int 1)) (gv 4)) (gN 9) rN)
 (vm 6 (gv 8))))
def n6:DSt->Out Fl:=(aX (bR 2 (kc (.str "abcdefghijklmnopqrstuvwxyz0123456789")))
 (aX (bR 3 (o2 ixD (gvo 2) (o2 fM (oF 2 aR (az (gv 0) (az (kc (.int 12)) aM))) (kc (.int 26)))))
 (aX (sIf (o2b eqD (o2 fM (oF 2 aR (az (gv 0) (az (kc (.int 13)) aM))) (kc (.int 6))) (kc (.int 0))) (bF (o2 bw (oSl (rW (az (kc (.str "must")) (az (kc (.str "may")) (az (kc (.str "actions")) aM)))) noI (soI (gv 1))) (rR (cO [none] (rng2 (kc (.int 3)) (gv 1)) (gN 0) (λ_=>.ok true) rO)))) cR)
 (aX (sIf (orT (o2b gtD (gb 1) (kc (.int 8))) (o2b eqD (o2 fM (oF 2 aR (az (gv 0) (az (kc (.int 13)) aM))) (kc (.int 6))) (kc (.int 1)))) (bF (rR (cO [none,some 3,some 0] (yx (gv 1)) (gN 0) (λ_=>.ok true) rQ))) cR)
 (aX (bR 4 (o2 bw (kc (.int 1)) (o2 fM (oF 2 aR (az (gv 0) (az (kc (.int 15)) aM))) (kc (.int 8)))))
 (aX (bR 5 (o2 fM (oF 2 aR (az (gv 0) (az (kc (.int 16)) aM))) (gv 4)))
 (aX (gU 6 (vQ aM))
 (aX (mF (yx (gv 1)) (gN 7) rM)
 (uI 6)))))))))
def gm:List D->Out D:=λds=>(cj 10 n6 ds).bf
abbrev nA:Inf D:=⟨"_law_rooms",2,["_law_cell","_law_many_here"],gm⟩
theorem DN(F:L2.Fun K "_law_rooms" "_law_rooms" pC f fd)(T:Txt K mg t)(aH:DD P w K mg base (Ga t L) cJ):OD P w K mg base (Ga t L) nA f fd:=by
 refine okJ 1 n6 F bK λ_ _ _ _ _ _ hr=>?_
 exact(aq (cH 2 bK.nd aL)
   (aq (cH 3 bK.nd (bJ 2 (pv 2) (bM (bx aH hr (aj (nv 0) (aj aB aF))) aB)))
   (aq (bW (qO hr.units (aK (bM (bx aH hr (aj (nv 0) (aj aB aF))) aB)) (aK aB)) (aA (aP (aY (fu (yg (aj aL (aj aL (aj aL aF)))) iG (iH (nv 1))) (vV (iD (λa b c d=>eF (N':=["_law_k"]) (cap:=[none]) ⟨rfl,rfl,by decide +kernel,by decide +kernel,by rfl,trivial,⟨trivial,trivial⟩⟩ rfl a b c d) (Ew rfl T.dI aB (nv 1) (λh=>Fx rfl T.dI h)) (vB 0) (λ_ _ _ _ _=>ngc) (λ_ _ _ _ _=>fJ) (λ_ _ _ _ _=>(aY aL (z7 rfl T.Ao (aY aB (bM (eV aB (nv 0)) aB)))))))))) aZ)
   (aq (bW (vZ (jV (dt_gt (aJ 1 (pv 1)) (aK aB)) (gW (qO hr.units (aK (bM (bx aH hr (aj (nv 0) (aj aB aF))) aB)) (aK aB))))) (aA (aP (vV (iD (λa b c d=>eF (N':=["_law_k","_law_first","_law_cell"]) (cap:=[none,some 3,some 0]) ⟨rfl,rfl,by decide +kernel,by decide +kernel,by rfl,⟨⟨rfl,by walk_at "o"⟩,⟨rfl,by walk_at "o"⟩,trivial⟩,⟨trivial,⟨rfl,rfl,by walk_at "o"⟩,⟨rfl,rfl,by walk_at "o"⟩,trivial⟩⟩ rfl a b c d) (dD rfl T.dI (nv 1)) (vB 0) (λ_ _ _ _ _=>ngc) (λ_ _ _ _ _=>fJ) (λ_ _ _ _ _=>(aY (nv 1) (z7 rfl T.Ao (aY aB (bM (aY (eV aB (nv 0)) (bx aH hr (aj (nv 2) (aj aB aF)))) aB))))))))) aZ)
   (aq (cH 4 bK.nd (aY aB (bM (bx aH hr (aj (nv 0) (aj aB aF))) aB)))
   (aq (cH 5 bK.nd (bM (bx aH hr (aj (nv 0) (aj aB aF))) (nv 4)))
   (aq (uG 6 bK.nd (nR aF))
   (aq (uZ (dD rfl T.dI (nv 1)) (ngn bK.nd) (aq (cH 8 bK.nd (bJ 2 (pv 2) (bM (aY (bx aH hr (aj (nv 0) (aj aB aF))) (eV (eV aB (nv 7)) (Hi rfl T.b_int (Ax hr.units (aJ 5 (pv 5)) (aK aB))))) aB)))
   (aq (uZ (Ew rfl T.dI aB (nv 4) (λh=>Fx rfl T.dI h)) (ngn bK.nd) (aA (cH 8 bK.nd (aY (nv 8) (bJ 2 (pv 2) (bM (aY (bx aH hr (aj (nv 0) (aj (aY aB (nv 9)) aF))) (eV (eV aB (nv 7)) (Hi rfl T.b_int (Ax hr.units (aJ 9 (pv 9)) (aJ 5 (pv 5)))))) aB))))))
   (aA (napp 6 (nv 8))))))
   (aA (t6 6 (pv 6)))))))))))
abbrev sZ:Stmt:=top 46
theorem dm:aG ["_law_script","_law_rooms_here","_law_many_here","_law_rows_here","_law_room","_law_cell","_law_doors","_law_action","_law_number"] ["_law_script","_law_rooms_here","_law_many_here"] (au sZ):=scm
def uF:DSt->Out Fl:=(aX (bR 8 (oF 2 aR (az (gv 5) (az (o2 bw (o2 bw (kc (.int 30)) (o2 mD (kc (.int 9)) (o2 fM (gv 4) (kc (.int 7))))) (gv 7)) aM))))
 (vm 6 (o2 ixD (rW (az (mY (az (kc (.str "must")) (az (o2 fM (o2 Bm (gv 8) (kc (.int 3))) (gv 1)) aM))) (az (mY (az (kc (.str "may")) (az (o2 fM (o2 Bm (gv 8) (kc (.int 3))) (gv 1)) aM))) (az (mY (az (kc (.str "shut")) (az (kc .non) aM))) aM)))) (o2 fM (gv 8) (kc (.int 3))))))
def uE:DSt->Out Fl:=(aX (bR 5 (oF 2 bB (az (gv 0) (az (o2 bw (kc (.int 3)) (gv 4)) aM))))
 (aX (gU 6 (vQ aM))
 (aX (mF (yx (gv 2)) (gN 7) uF)
 (zG 6 (vm 3 (gv 6))))))
def qX:DSt->Out Fl:=(aX (gU 3 (vQ aM))
 (aX (mF (yx (gv 1)) (gN 4) uE)
 (uI 3)))
def iT:List D->Out D:=λds=>(cj 9 qX ds).bf
abbrev qt:Inf D:=⟨"_law_rows",2,["_law_script","_law_rooms_here","_law_many_here"],iT⟩
theorem Im(F:L2.Fun K "_law_rows" "_law_rows" sZ f fd)(T:Txt K mg t)(bA:DD P w K mg base (Ga t L) dW)(aH:DD P w K mg base (Ga t L) cJ):OD P w K mg base (Ga t L) qt f fd:=by
 refine okJ 1 qX F dm λ_ _ _ _ _ _ hr=>?_
 exact(aq (uG 3 dm.nd (nR aF))
   (aq (uZ (dD rfl T.dI (nv 1)) (ngn dm.nd) (aq (cH 5 dm.nd (bx bA hr (aj (nv 0) (aj (aY aB (nv 4)) aF))))
   (aq (uG 6 dm.nd (nR aF))
   (aq (uZ (dD rfl T.dI (nv 2)) (ngn dm.nd) (aq (cH 8 dm.nd (bx aH hr (aj (nv 5) (aj (aY (aY aB (eV aB (bM (nv 4) aB))) (nv 7)) aF))))
   (aA (napp 6 (Ke (yg (aj (qJ (aj aL (aj (bM (z6 (nv 8) aB) (nv 1)) aF))) (aj (qJ (aj aL (aj (bM (z6 (nv 8) aB) (nv 1)) aF))) (aj (qJ (aj aL (aj nQ aF))) aF)))) (bM (nv 8) aB))))))
   (aA (qN 6 (napp 3 (nv 6))))))))
   (aA (t6 3 (pv 3)))))
abbrev sY:Stmt:=top 47
theorem wY:aG ["_law_cell","_law_number"] ["_law_cell"] (au sY):=scm
def qW:DSt->Out Fl:=(aX (bR 1 (oF 2 aR (az (gv 0) (az (kc (.int 25)) aM))))
 (aX (sIf (o2b eqD (o2 fM (gv 1) (kc (.int 8))) (kc (.int 0))) (bF (o2 bw (kc (.int 9)) (o2 fM (o2 Bm (gv 1) (kc (.int 8))) (kc (.int 40))))) cR)
 (bF (o2 bw (kc (.int 1)) (o2 fM (o2 Bm (gv 1) (kc (.int 8))) (kc (.int 8)))))))
def iR:List D->Out D:=λds=>(cj 2 qW ds).bf
abbrev qp:Inf D:=⟨"_law_many",2,["_law_cell"],iR⟩
theorem Il(F:L2.Fun K "_law_many" "_law_many" sY f fd)(T:Txt K mg t)(aH:DD P w K mg base (Ga t L) cJ):OD P w K mg base (Ga t L) qp f fd:=by
 refine okJ 1 qW F wY λ_ _ _ _ _ _ hr=>?_
 exact(aq (cH 1 wY.nd (bx aH hr (aj (nv 0) (aj aB aF))))
   (aq (bW (qO hr.units (aK (bM (nv 1) aB)) (aK aB)) (aA (aP (aY aB (bM (z6 (nv 1) aB) aB)))) aZ)
   (aA (aP (aY aB (bM (z6 (nv 1) aB) aB))))))
abbrev sX:Stmt:=top 48
theorem cP:aG ["_law_name","_law_doors","_law_actions_here","_law_names","_law_cell","_law_told","_law_action","_law_word","_law_to","_law_turn"] ["_law_name","_law_doors","_law_actions_here","_law_names","_law_cell"] (au sX):=scm
def uD:DSt->Out Fl:=(aX (sAsg (o2 ixD (gvo 1) (gv 6)) (gT 2 (bj (gN 7) (bj (gN 8) dZ))))
 (sIf (o2b neD (gb 7) (kc (.str "shut"))) (vm 5 (o2 bw (o2 bw (o2 bw (o2 bw (o2 ixD (gvo 2) (gv 6)) (kc (.str " "))) (gv 7)) (kc (.str " "))) (o2 ixD (gvo 3) (gv 8)))) cR))
def qU:DSt->Out Fl:=(aX (gU 5 (vQ aM))
 (aX (mF (yx (o1 fL (gb 2))) (gN 6) uD)
 (aX (bR 9 (o2 fM (oF 2 aR (az (gv 4) (az (kc (.int 26)) aM))) (o2 bw (o1 fL (gb 5)) (kc (.int 1)))))
 (aX (zG 5 (gU 5 (catL (oSl (gv 5) (soI (gv 9)) noI) (oSl (gv 5) noI (soI (gv 9))))))
 (aX (sIf (o2b eqD (o2 fM (oF 2 aR (az (gv 4) (az (kc (.int 27)) aM))) (kc (.int 2))) (kc (.int 0))) (zG 5 (bR 5 (o1 revD (gv 5)))) cR)
 (aX (sIf (o2b eqD (gb 5) (rW aM)) (bF (o2 bw (gv 0) (kc (.str ":")))) cR)
 (zG 5 (bF (o2 bw (o2 bw (gv 0) (kc (.str ": "))) (rZ (kc (.str ", ")) (gv 5)))))))))))
def iQ:List D->Out D:=λds=>(cj 10 qU ds).bf
abbrev qm:Inf D:=⟨"_law_line",2,["_law_name","_law_doors","_law_actions_here","_law_names","_law_cell"],iQ⟩
theorem Ik(F:L2.Fun K "_law_line" "_law_line" sX f fd)(T:Txt K mg t)(aH:DD P w K mg base (Ga t L) cJ):OD P w K mg base (Ga t L) qm f fd:=by
 refine okJ 1 qU F cP λ_ _ _ _ _ _ hr=>?_
 exact(aq (uG 5 cP.nd (nR aF))
   (aq (uZ (dD rfl T.dI (c7 rfl T.fQ (aJ 2 (pv 2)))) (ngn cP.nd) (aq (ds_asg (λa b=>Ot a b) (bJ 1 (pv 1) (nv 6)) (qL (n:=2) (λh=>sy rfl h) (bZ (ngn cP.nd) (bZ (ngn cP.nd) lM (λa b=>cg a b)) (λa b=>cg a b))))
   (aA (bW (jU hr.units (aJ 7 (pv 7)) (aK aL)) (aA (napp 5 (aY (aY (aY (aY (bJ 2 (pv 2) (nv 6)) aL) (nv 7)) aL) (bJ 3 (pv 3) (nv 8))))) aZ))))
   (aq (cH 9 cP.nd (bM (bx aH hr (aj (nv 4) (aj aB aF))) (aY (c7 rfl T.fQ (aJ 5 (pv 5))) aB)))
   (aq (qN 5 (uG 5 cP.nd (df_cat (fu (nv 5) (iH (nv 9)) iG) (fu (nv 5) iG (iH (nv 9))))))
   (aq (bW (qO hr.units (aK (bM (bx aH hr (aj (nv 4) (aj aB aF))) aB)) (aK aB)) (aA (qN 5 (cH 5 cP.nd (NK rfl rfl T.uP rfl T.Nu (nv 5))))) aZ)
   (aq (bW (qO hr.units (aJ 5 (pv 5)) (aK (yg aF))) (aA (aP (aY (nv 0) aL))) aZ)
   (aA (qN 5 (aP (aY (aY (nv 0) aL) (lK aL (nv 5) (λa b=>gR PySem.F.plainAttrs_str PySem.F.slot_str_join PySem.F.type_str_join lR a (aU b bD)))))))))))))
abbrev pA:Stmt:=top 49
theorem iK:aG ["_law_actions_here","_law_names","_law_rows_here","_law_script","_law_lines_here","_law_room","_law_cell"] ["_law_actions_here","_law_names","_law_rows_here","_law_script"] (au pA):=scm
def rK:DSt->Out Fl:=(aX (bR 6 (oF 2 bB (az (gv 3) (az (o2 bw (kc (.int 3)) (gv 5)) aM))))
 (vm 4 (oF 5 iQ (az (o2 ixD (gvo 1) (gv 5)) (az (o2 ixD (gvo 2) (gv 5)) (az (gv 0) (az (gv 1) (az (gv 6) aM))))))))
def nY:DSt->Out Fl:=(aX (gU 4 (vQ (az (o2 bw (kc (.str "actions ")) (rZ (kc (.str " ")) (gv 0))) aM)))
 (aX (mF (yx (o1 fL (gb 2))) (gN 5) rK)
 (uI 4)))
def f9:List D->Out D:=λds=>(cj 7 nY ds).bf
abbrev nu:Inf D:=⟨"_law_lines",3,["_law_actions_here","_law_names","_law_rows_here","_law_script"],f9⟩
theorem Dz(F:L2.Fun K "_law_lines" "_law_lines" pA f fd)(T:Txt K mg t)(bA:DD P w K mg base (Ga t L) dW)(pW:DD P w K mg base (Ga t L) qm):OD P w K mg base (Ga t L) nu f fd:=by
 refine okJ 2 nY F iK λ_ _ _ _ _ _ hr=>?_
 exact(aq (uG 4 iK.nd (nR (aj (aY aL (lK aL (nv 0) (λa b=>gR PySem.F.plainAttrs_str PySem.F.slot_str_join PySem.F.type_str_join lR a (aU b bD)))) aF)))
   (aq (uZ (dD rfl T.dI (c7 rfl T.fQ (aJ 2 (pv 2)))) (ngn iK.nd) (aq (cH 6 iK.nd (bx bA hr (aj (nv 3) (aj (aY aB (nv 5)) aF))))
   (aA (napp 4 (bx pW hr (aj (bJ 1 (pv 1) (nv 5)) (aj (bJ 2 (pv 2) (nv 5)) (aj (nv 0) (aj (nv 1) (aj (nv 6) aF))))))))))
   (aA (t6 4 (pv 4)))))
abbrev vz:Stmt:=top 50
theorem cB:aG ["_law_actions_here","_law_rows_here","_law_lines_here","_law_room","_law_line_here","_law_action","_law_word","_law_to","_law_door"] ["_law_actions_here","_law_rows_here"] (au vz):=scm
def wM:DSt->Out Fl:=(aX (sAsg (o2 ixD (o2 ixD (gvo 1) (gv 3)) (gv 5)) (gT 2 (bj (gN 6) (bj (gN 7) dZ))))
 (sIf (o2b neD (gb 6) (kc (.str "shut"))) (aX (sIf (o2b neD (o2 ixD (gvo 4) (o1 negD (kc (.int 1)))) (kc (.str ":"))) (bR 4 (o2 bw (gv 4) (kc (.str ",")))) cR)
 (aX (bR 8 (o2 bw (o2 bw (o2 bw (o2 bw (o2 ixD (gvo 0) (gv 5)) (kc (.str " "))) (gv 6)) (kc (.str " r"))) (o1 strD (gv 7))))
 (bR 4 (o2 bw (o2 bw (gv 4) (kc (.str " "))) (gv 8))))) cR))
def wL:DSt->Out Fl:=(aX (bR 4 (o2 bw (o2 bw (kc (.str "r")) (o1 strD (gv 3))) (kc (.str ":"))))
 (aX (mF (yx (o1 fL (gb 0))) (gN 5) wM)
 (vm 2 (gv 4))))
def uV:DSt->Out Fl:=(aX (gU 2 (vQ (az (o2 bw (kc (.str "actions ")) (rZ (kc (.str " ")) (gv 0))) aM)))
 (aX (mF (yx (o1 fL (gb 1))) (gN 3) wL)
 (zG 2 (bF (rZ (kc (.str "\n")) (gv 2))))))
def nj:List D->Out D:=λds=>(cj 9 uV ds).bf
abbrev uN:Inf D:=⟨"_law_due",1,["_law_actions_here","_law_rows_here"],nj⟩
theorem Lp(F:L2.Fun K "_law_due" "_law_due" vz f fd)(T:Txt K mg t):OD P w K mg base (Ga t L) uN f fd:=by
 refine okJ 0 uV F cB λ_ _ _ _ _ _ hr=>?_
 exact(aq (uG 2 cB.nd (nR (aj (aY aL (lK aL (nv 0) (λa b=>gR PySem.F.plainAttrs_str PySem.F.slot_str_join PySem.F.type_str_join lR a (aU b bD)))) aF)))
   (aq (uZ (dD rfl T.dI (c7 rfl T.fQ (aJ 1 (pv 1)))) (ngn cB.nd) (aq (cH 4 cB.nd (aY (aY aL (z7 rfl T.Ao (nv 3))) aL))
   (aq (uZ (dD rfl T.dI (c7 rfl T.fQ (aJ 0 (pv 0)))) (ngn cB.nd) (aq (ds_asg (λa b=>Ot a b) (Ke (bJ 1 (pv 1) (nv 3)) (nv 5)) (qL (n:=2) (λh=>sy rfl h) (bZ (ngn cB.nd) (bZ (ngn cB.nd) lM (λa b=>cg a b)) (λa b=>cg a b))))
   (aA (bW (jU hr.units (aJ 6 (pv 6)) (aK aL)) (aq (bW (jU hr.units (aK (bJ 4 (pv 4) (de_neg aB))) (aK aL)) (aA (cH 4 cB.nd (aY (nv 4) aL))) aZ)
   (aq (cH 8 cB.nd (aY (aY (aY (aY (bJ 0 (pv 0) (nv 5)) aL) (nv 6)) aL) (z7 rfl T.Ao (nv 7))))
   (aA (cH 4 cB.nd (aY (aY (nv 4) aL) (nv 8)))))) aZ))))
   (aA (napp 2 (nv 4))))))
   (aA (qN 2 (aP (lK aL (nv 2) (λa b=>gR PySem.F.plainAttrs_str PySem.F.slot_str_join PySem.F.type_str_join lR a (aU b bD))))))))
abbrev s_law:Stmt:=top 51
theorem kI:aG ["_law_script","_law_rooms_here","_law_number","_law_actions_here","_law_names","_law_rows_here","_law_due_here","_law_plan","_law_text","_law_found","_law_other"] ["_law_script"] (au s_law):=scm
def Hz:DSt->Out D:=(oC (one1 Fo) (az (gv 0) aM))
def g_law:DSt->Mem->Res Fl:=(uo (fO (bR 1 (oF 1 iR (az (oF 2 bB (az (gv 0) (az (kc (.int 0)) aM))) aM))))
 (uo (fO (bR 2 (oF 2 aR (az (oF 2 bB (az (gv 0) (az (kc (.int 0)) aM))) (az (kc (.int 28)) aM)))))
 (uo (fO (bR 3 (oF 2 dR (az (oF 2 bB (az (gv 0) (az (kc (.int 1)) aM))) (az (o2 bw (kc (.int 1)) (o2 fM (gv 2) (kc (.int 8)))) aM)))))
 (uo (fO (bR 4 (oF 2 gm (az (oF 2 bB (az (gv 0) (az (kc (.int 2)) aM))) (az (gv 1) aM)))))
 (uo (fO (bR 5 (oF 3 iT (az (gv 0) (az (gv 1) (az (o1 fL (gb 3)) aM))))))
 (uo (fO (bR 6 (oF 2 nj (az (gv 3) (az (gv 5) aM)))))
 (uo (fO (bR 7 (oMk cF 2 qj (az (oC (one1 Fo) (az (gv 3) aM)) (az (rR (cO [none] (ik (gv 5)) (gN 0) (λ_=>.ok true) Hz)) aM)))))
 (uo (fO (bR 8 (oF 1 fP (az (gv 7) aM))))
 (uo (ifS (fO (orT (kW (tst (wU di (gb 8)))) (orT (o2b neD (gb 8) (gb 6)) (o2b neD (oM "told" 1 (tQ bO) (gv 7) aM) (gb 5))))) (retS (fO (kc (.bl false)))) nilS)
 (uo (fO (bR 9 (oF 1 iU (az (gv 8) aM))))
 (uo (ifS (fO (orT (o2b neD (oM "told" 1 (tQ bO) (gv 9) aM) (gb 5)) (o2b neD (oM "action_list" 1 (tabD bH) (gv 9) aM) (gb 3)))) (retS (fO (kc (.bl false)))) nilS)
 (uo (ifS (fO (o2b neD (oF 1 fP (az (gv 9) aM)) (gb 6))) (retS (fO (kc (.bl false)))) nilS)
 (uo (fO (bR 10 (rZ (kc (.str "\n")) (oF 4 f9 (az (gv 3) (az (gv 4) (az (gv 5) (az (gv 0) aM))))))))
 (retS (fO (bV (o2b eqD (oF 1 fP (az (oF 1 iU (az (gv 10) aM)) aM)) (gb 6))))))))))))))))))
def F_law:Mem->List D->Res D:=λμ ds=>(runS false 11 g_law μ ds).bf
abbrev J_law:InfS:=⟨"law",10,["_law_script"],F_law⟩
theorem ok_law(F:L2.Fun K "law" "law" s_law f fd)(T:Txt K mg t)(pX:DA' P w K mg base (Ga0 t) qp)(bA:DA' P w K mg base (Ga0 t) dW)(aH:DA' P w K mg base (Ga0 t) cJ)(jG:DA' P w K mg base (Ga0 t) jK)(m9:DA' P w K mg base (Ga0 t) nA)(pY:DA' P w K mg base (Ga0 t) qt)(uK:DA' P w K mg base (Ga0 t) uN)(xV:IniA P w K mg base t.Plan 7 ["self","actions","rows"] (λL=>spI K (Ga t L) cF 2 qj))(iM:DA' P w K mg base (Ga0 t) qy)(jO:∀L:Plc,gQ P w K mg base (Ga t L) "told" (spFF K (Ga t L) 1) 4 bO)(lg:DA' P w K mg base (Ga0 t) qz)(dB:∀L:Plc,gQ P w K mg base (Ga t L) "action_list" (spF K (Ga t L) 1) 1 bH)(m8:DA' P w K mg base (Ga0 t) nu):ODs P w K mg base (Ga0 t) J_law f fd:=by
 refine okJs false 9 g_law F kI λ_ _ _ _ _ _ hr=>?_
 exact(cX (uJ λL=>(cH 1 kI.nd (bx (pX.at L) hr (aj (bx (bA.at L) hr (aj (nv 0) (aj aB aF))) aF))))
   (cX (uJ λL=>(cH 2 kI.nd (bx (aH.at L) hr (aj (bx (bA.at L) hr (aj (nv 0) (aj aB aF))) (aj aB aF)))))
   (cX (uJ λL=>(cH 3 kI.nd (bx (jG.at L) hr (aj (bx (bA.at L) hr (aj (nv 0) (aj aB aF))) (aj (aY aB (bM (nv 2) aB)) aF)))))
   (cX (uJ λL=>(cH 4 kI.nd (bx (m9.at L) hr (aj (bx (bA.at L) hr (aj (nv 0) (aj aB aF))) (aj (nv 1) aF)))))
   (cX (uJ λL=>(cH 5 kI.nd (bx (pY.at L) hr (aj (nv 0) (aj (nv 1) (aj (c7 rfl T.fQ (aJ 3 (pv 3))) aF))))))
   (cX (uJ λL=>(cH 6 kI.nd (bx (uK.at L) hr (aj (nv 3) (aj (nv 5) aF)))))
   (cX (uJ λL=>(cH 7 kI.nd (Ft (xV.at L) hr T.g_Plan (aj (Pr rfl T.uP (nv 3)) (aj (vV (iD (λa b c d=>eF (N':=["_law_doors"]) (cap:=[none]) ⟨rfl,rfl,by decide +kernel,by decide +kernel,by rfl,trivial,⟨trivial,trivial⟩⟩ rfl a b c d) (qM (nv 5)) (vB 0) (λ_ _ _ _ _=>ngc) (λ_ _ _ _ _=>fJ) (λ_ _ _ _ _=>(Pr rfl T.uP (nv 0))))) aF)))))
   (cX (uJ λL=>(cH 8 kI.nd (bx (iM.at L) hr (aj (nv 7) aF))))
   (cX (ss_if (st_of λL=>(vZ (jV (dX (dY (aK (nP (cv:=.ty "str") (.inr rfl) (T.di _) rfl T.cz (aJ 8 (pv 8)) (jA rfl T.Ao (by decide +kernel) rfl))))) (jV (jU hr.units (aJ 8 (pv 8)) (aJ 6 (pv 6))) (gW (jU hr.units (aK (u9 (gQ.dFF (jO L)) hr (nv 7))) (aJ 5 (pv 5)))))))) (Ac (Jw (se_of λL=>iZ))) Jx)
   (cX (uJ λL=>(cH 9 kI.nd (bx (lg.at L) hr (aj (nv 8) aF))))
   (cX (ss_if (st_of λL=>(vZ (jV (jU hr.units (aK (u9 (gQ.dFF (jO L)) hr (nv 9))) (aJ 5 (pv 5))) (gW (jU hr.units (aK (u9 (gQ.dF (dB L)) hr (nv 9))) (aJ 3 (pv 3))))))) (Ac (Jw (se_of λL=>iZ))) Jx)
   (cX (ss_if (st_of λL=>(jU hr.units (aK (bx (iM.at L) hr (aj (nv 9) aF))) (aJ 6 (pv 6)))) (Ac (Jw (se_of λL=>iZ))) Jx)
   (cX (uJ λL=>(cH 10 kI.nd (lK aL (bx (m8.at L) hr (aj (nv 3) (aj (nv 4) (aj (nv 5) (aj (nv 0) aF))))) (λa b=>gR PySem.F.plainAttrs_str PySem.F.slot_str_join PySem.F.type_str_join lR a (aU b bD)))))
   (Ac (Jw (se_of λL=>(Ax hr.units (aK (bx (iM.at L) hr (aj (bx (lg.at L) hr (aj (nv 10) aF)) aF))) (aJ 6 (pv 6)))))))))))))))))))
end
end K9
namespace DL
open PySem MX L2
theorem mQ{α β:Type}{fe:DSt->Out β}(g:α->D)(h:α->β):∀(xs:List α)(δ:DSt),(∀x∈xs,fe (δ.set 0 (some (.sh (g x))))=.ok (h x))->pN (gN 0) (λ_=>.ok true) fe (xs.map g) δ=.ok (xs.map h)
 | [],_,_=>rfl
 | x::xs,δ,k=>by
  have e1:=k x List.mem_cons_self
  have e2:=mQ g h xs (δ.set 0 (some (.sh (g x)))) (λy hy=>by rw[List.set_set];exact k y (List.mem_cons_of_mem _ hy))
  rw[List.map_cons,List.map_cons]
  unfold pN
  simp only[gN,Out.j7,Out.dJ,Out.ue,e1,e2,if_true]
theorem iC{α β:Type}{cap:List (Option Nat)}{fi:DSt->Out (List D)}{fe:DSt->Out β}{δ:DSt}(g:α->D)(h:α->β)(xs:List α)(e:fi δ=.ok (xs.map g))(hz:xs.length<1000000)(k:∀x∈xs,fe ((ye cap δ).set 0 (some (.sh (g x))))=.ok (h x)):cO cap fi (gN 0) (λ_=>.ok true) fe δ=.ok (xs.map h):=by
 unfold cO
 rw[e]
 simp only[Out.dJ]
 rw[if_pos (by rw[List.length_map];exact Nat.lt_of_lt_of_le hz (by decide)),mQ g h xs _ k]
theorem Nv(l:List Bool):qI (l.map D.bl)=some l:=by
 induction l with
 | nil=>rfl
 | cons b l ih=>simp[qI,ih,asB]
theorem FP(l:List Str):m5 (l.map D.str)=some l:=by
 induction l with
 | nil=>rfl
 | cons b l ih=>simp[m5,ih]
theorem vM{α:Type}(f:α->Bool)(l:List α):allD (.lst (l.map λx=>.bl (f x)))=some (.bl (l.all f)):=by
 unfold allD
 have:(l.map λx=>D.bl (f x))=(l.map f).map D.bl:=by simp
 rw[this]
 simp only[gY,Option.bind_some,Nv,Option.map_some]
 congr 2
 induction l with
 | nil=>rfl
 | cons a l ih=>simp
theorem rngL_map(n:Nat):zQ 0 n=(List.range n).map λi=>D.int (i:Nat):=by
 unfold zQ
 congr 1
 funext i
 rw[Int.zero_add]
theorem wA{α:Type}{body:DSt->Out Fl}{tg:D->DSt->Option DSt}(g:α->D)(I:List α->DSt->Prop):∀(xs done:List α)(δ:DSt),(∀x done δ,I done δ->x∈xs->∃δ1,tg (g x) δ=some δ1/\nxP (body δ1) (I (done++[x])))->I done δ->∃δ',zF tg body (xs.map g) δ=.ok (.nx δ')/\I (done++xs) δ'
 | [],done,δ,_,i=>⟨δ,rfl,by simpa using i⟩
 | x::xs,done,δ,h,i=>by
  obtain⟨δ1,e1,w⟩:=h x done δ i List.mem_cons_self
  obtain⟨δ',e2,i'⟩:=nxP_get w
  obtain⟨δ2,e3,i2⟩:=wA g I xs (done++[x]) δ' (λy dn δ hi hy=>h y dn δ hi (List.mem_cons_of_mem _ hy)) i'
  exact⟨δ2,by rw[List.map_cons];unfold zF;rw[e1];simp only[Out.j7,Out.dJ,e2];exact e3,by simpa using i2⟩
theorem run_seq{A B:DSt->Out Fl}{δ δ':DSt}{r:Out D}(h:A δ=.ok (.nx δ'))(k:((B δ').bind v4).bf=r):((aX A B δ).bind v4).bf=r:=by
 unfold aX
 rw[h]
 exact k
theorem run_ret{f:DSt->Out D}{δ:DSt}{d:D}(h:f δ=.ok d):((bF f δ).bind v4).bf=.ok d:=by
 unfold bF
 rw[h]
 rfl
end DL
namespace DL
open PySem MX L2 PySem.Builtin PySem.Builtin.Str
def ofL(l:List Nat):Str:=⟨l.toArray⟩
theorem bz(l:List Nat):(ofL l).length=l.length:=by show l.toArray.size=_;simp
theorem oN{a b:List Nat}(h:ofL a=ofL b):a=b:=by
 have:=congrArg (λs:Str=>s.cps.toList) h
 simpa[ofL] using this
theorem oK(a b:List Nat):ofL a++ofL b=ofL (a++b):=by
 show Str.append (ofL a) (ofL b)=_
 unfold Str.append ofL
 simp
theorem Cj(l:List Nat):∀(m i:Nat),(List.range' i m).filterMap (λx=>l.toArray[x]?)=(l.drop i).take m
 | 0,i=>by simp
 | m+1,i=>by
  rw[List.range'_succ,List.filterMap_cons]
  have ih:=Cj l m (i+1)
  by_cases h:i<l.length
  .simp only[List.getElem?_toArray,List.getElem?_eq_getElem h]
   rw[List.drop_eq_getElem_cons h,List.take_succ_cons]
   congr 1
   simpa using ih
  .have e:l[i]?=none:=List.getElem?_eq_none (by omega)
   simp only[List.getElem?_toArray,e]
   have e2:l.drop i=[]:=List.drop_eq_nil_of_le (by omega)
   have e3:l.drop (i+1)=[]:=List.drop_eq_nil_of_le (by omega)
   rw[e3] at ih
   rw[e2]
   simpa using ih
theorem idx_ss(i j n:Nat)(h1:i<=j)(h2:j<=n):strSliceIndices (some (i:Int)) (some (j:Int)) 1 n=List.range' i (j - i):=by
 unfold strSliceIndices sliceRange
 have a1:¬((i:Int)<0):=by omega
 have a2:¬((j:Int)<0):=by omega
 have b1:max (0:Int) (min (i:Int) (n:Int))=i:=by omega
 have b2:max (0:Int) (min (j:Int) (n:Int))=j:=by omega
 simp only[show (1:Int)>0 by decide,if_true,a1,a2,if_false,b1,b2]
 have c:(if (i:Int)<j then ((j:Int) - i+1 - 1) / 1 else 0).toNat=j - i:=by
  split
  .rw[Int.ediv_one];omega
  .simp;omega
 rw[c,List.range'_eq_map_range]
 congr 1
 funext k
 omega
theorem slice_ss(l:List Nat)(i j:Nat)(h1:i<=j)(h2:j<=l.length):Txt.slice (ofL l) (some (i:Int)) (some (j:Int))=ofL ((l.drop i).take (j - i)):=by
 unfold Txt.slice
 rw[bz,idx_ss i j _ h1 h2]
 split
 .rename_i h
  simp at h
  have:i=0/\j=l.length:=by omega
  obtain⟨rfl,rfl⟩:=this
  simp
 .show (⟨((List.range' i (j - i)).filterMap λx=>l.toArray[x]?).toArray⟩:Str)=_
  rw[Cj]
  rfl
theorem abc:(Str.ofString "abcdefghijklmnopqrstuvwxyz")=ofL ((List.range 26).map (97+·)):=by decide +kernel
theorem abc_at{i:Int}(h0:0<=i)(h1:i<26):ixD (.str "abcdefghijklmnopqrstuvwxyz") (.int i)=some (.str (ofL [97+i.toNat])):=by
 obtain⟨k,rfl⟩:=Int.eq_ofNat_of_zero_le h0
 have hk:k<26:=by omega
 have key:∀k:Fin 26,ixD (.str (Str.ofString "abcdefghijklmnopqrstuvwxyz")) (.int ((k.val:Nat):Int))=some (.str (ofL [97+((k.val:Nat):Int).toNat])):=by
  intro k
  have e:(if (Str.ofString "abcdefghijklmnopqrstuvwxyz").length<=sizeLine then (atI (Str.ofString "abcdefghijklmnopqrstuvwxyz").cps.toList ((k.val:Nat):Int)).map λc=>D.str ⟨#[c]⟩ else none)=ixD (.str (Str.ofString "abcdefghijklmnopqrstuvwxyz")) (.int ((k.val:Nat):Int)):=rfl
  rw[←e,abc,bz,if_pos (by simp;decide)]
  show (atI (((List.range 26).map (97+·)).toArray.toList) ((k.val:Nat):Int)).map _=_
  have:atI (((List.range 26).map (97+·)).toArray.toList) ((k.val:Nat):Int)=some (97+k.val):=gC (by simp)
  rw[this]
  simp[ofL]
 exact key ⟨k,hk⟩
theorem abc_in{c:Nat}(h0:97<=c)(h1:c<123):inD (.str (ofL [c])) (.str "abcdefghijklmnopqrstuvwxyz")=some true:=by
 have key:∀k:Fin 26,(!(occurrences (Str.ofString "abcdefghijklmnopqrstuvwxyz") (ofL [97+k.val]) 0 (Str.ofString "abcdefghijklmnopqrstuvwxyz").length 1).isEmpty)=true:=by decide +kernel
 have:=key ⟨c - 97,by omega⟩
 rw[show 97+(c - 97)=c by omega] at this
 show some _=some true
 rw[this]
end DL
namespace DL
open PySem MX L2
section
variable{δ δ':DSt}{μ μ' μ'':Mem}{d d':D}
end
end DL
namespace DL
open PySem MX L2
def W{α:Type}(o:Out α)(Q:α->Prop):Prop:=match o with
 | .ok a=>Q a
 | _=>False
theorem yP{α:Type}{o:Out α}{Q:α->Prop}(h:W o Q):∃a,o=.ok a/\Q a:=by
 cases o with
 | ok a=>exact⟨a,rfl,h⟩
 | ex x=>exact False.elim h
 | stuck=>exact False.elim h
theorem ul{α:Type}{o:Out α}{a:α}(h:W o (·=a)):o=.ok a:=by
 obtain⟨b,e,q⟩:=yP h
 rw[e,q]
theorem W.imp{α:Type}{o:Out α}{P Q:α->Prop}(h:W o P)(k:∀a,P a->Q a):W o Q:=by
 obtain⟨a,e,q⟩:=yP h
 rw[e];exact k a q
theorem W_of{α:Type}{o:Out α}{a:α}{Q:α->Prop}(e:o=.ok a)(q:Q a):W o Q:=by rw[e];exact q
def thn(fl:Fl)(k:DSt->Prop)(Q:Fl->Prop):Prop:=match fl with
 | .nx δ=>k δ
 | fl=>Q fl
def sv(δ:DSt)(i:Nat)(Q:D->Prop):Prop:=match δ[i]? with
 | some (some (.sh d))=>Q d
 | _=>False
def sb(δ:DSt)(i:Nat)(Q:D->Prop):Prop:=match δ[i]? with
 | some (some s)=>Q (slD s)
 | _=>False
def so(δ:DSt)(i:Nat)(Q:List D->Prop):Prop:=match δ[i]? with
 | some (some (.ol ds))=>Q ds
 | _=>False
def sw(δ:DSt)(i:Nat)(Q:D->Prop):Prop:=match δ[i]? with
 | some (some (.sh d))=>Q d
 | some (some (.ol ds))=>Q (.lst ds)
 | _=>False
section
variable{α β:Type}{δ:DSt}{i n c:Nat}{d:D}{ds:List D}{x:Option Sl}{s:Sl}{Q:α->Prop}{P:D->Prop}{PL:List D->Prop}{R:Fl->Prop}{B:Bool->Prop}{k:DSt->Prop}{f f' f'':DSt->Out D}{t t':DSt->Out Bool}{g g':DSt->Out Fl}{fr:DSt->Out (List D)}{F:List D->Out D}
theorem kO{a:α}:W (.ok a) Q↔Q a:=Iff.rfl
theorem aN{o:Out β}{k:β->Out α}:W (o.bind k) Q↔W o λa=>W (k a) Q:=by cases o <;> exact Iff.rfl
theorem W_noex{o:Out α}:W o.bf Q↔W o Q:=by cases o <;> exact Iff.rfl
theorem thn_nx:thn (.nx δ) k R↔k δ:=Iff.rfl
theorem thn_rt:thn (.rt d) k R↔R (.rt d):=Iff.rfl
theorem thn_rl:thn (.rl ds) k R↔R (.rl ds):=Iff.rfl
theorem sv_0:sv (some (.sh d)::δ) 0 P↔P d:=Iff.rfl
theorem sv_s:sv (x::δ) (i+1) P↔sv δ i P:=Iff.rfl
theorem sb_0:sb (some s::δ) 0 P↔P (slD s):=Iff.rfl
theorem sb_s:sb (x::δ) (i+1) P↔sb δ i P:=Iff.rfl
theorem so_0:so (some (.ol ds)::δ) 0 PL↔PL ds:=Iff.rfl
theorem so_s:so (x::δ) (i+1) PL↔so δ i PL:=Iff.rfl
theorem sw_0:sw (some (.sh d)::δ) 0 P↔P d:=Iff.rfl
theorem sw_1:sw (some (.ol ds)::δ) 0 P↔P (.lst ds):=Iff.rfl
theorem sw_s:sw (x::δ) (i+1) P↔sw δ i P:=Iff.rfl
theorem W_gv:W (gv i δ) P↔sv δ i P:=by
 unfold gv sv
 rcases δ[i]? with _ | _ | s
 .exact Iff.rfl
 .exact Iff.rfl
 .cases s <;> exact Iff.rfl
theorem W_gb:W (gb i δ) P↔sb δ i P:=by
 unfold gb sb
 rcases δ[i]? with _ | _ | s <;> exact Iff.rfl
theorem W_gvo:W (gvo i δ) P↔sw δ i P:=by
 unfold gvo sw
 rcases δ[i]? with _ | _ | s
 .exact Iff.rfl
 .exact Iff.rfl
 .cases s <;> exact Iff.rfl
theorem W_o1{h:D->Option D}:W (o1 h f δ) P↔W (f δ) λx=>W (Out.opt (h x)) P:=aN
theorem W_o2{h:D->D->Option D}:W (o2 h f f' δ) P↔W (f δ) λx=>W (f' δ) λy=>W (Out.opt (h x y)) P:=by unfold o2;rw[aN];simp only[aN]
theorem W_o2b{h:D->D->Option Bool}:W (o2b h f f' δ) B↔W (f δ) λx=>W (f' δ) λy=>W (Out.opt (h x y)) B:=by unfold o2b;rw[aN];simp only[aN]
theorem W_o3{h h':D->D->Option Bool}:W (o3 h h' f f' f'' δ) B↔W (f δ) λx=>W (f' δ) λy=>W (Out.opt (h x y)) λk=>if k=true then W (f'' δ) λz=>W (Out.opt (h' y z)) B else B false:=by
 unfold o3
 simp only[aN]
 have:∀(y:D)(k:Bool),W (if k=true then (f'' δ).bind λz=>Out.opt (h' y z) else Out.ok false) B↔if k=true then W (f'' δ) λz=>W (Out.opt (h' y z)) B else B false:=λy k=>by cases k <;> simp[aN,kO]
 simp only[this]
theorem W_bV:W (bV t δ) P↔W (t δ) λb=>P (.bl b):=by unfold bV;simp only[aN,kO]
theorem W_tst:W (tst f δ) B↔W (f δ) λd=>W (Out.opt (truD d)) B:=by unfold tst;simp only[aN]
theorem qG{p:Prop}[Decidable p]{a b:Out α}:W (if p then a else b) Q↔if p then W a Q else W b Q:=by split <;> exact Iff.rfl
theorem W_orT:W (orT t t' δ) B↔W (t δ) λk=>if k=true then B true else W (t' δ) B:=by unfold orT;simp only[aN,qG,kO]
theorem W_notT:W (kW t δ) B↔W (t δ) λk=>B (!k):=by unfold kW;simp only[aN,kO]
theorem W_andV:W (An f f' δ) P↔W (f δ) λd=>W (Out.opt (asB d)) λk=>if k=true then W (f' δ) P else P (.bl false):=by unfold An;simp only[aN,qG,kO]
theorem W_orV:W (orV f f' δ) P↔W (f δ) λd=>W (Out.opt (asB d)) λk=>if k=true then P (.bl true) else W (f' δ) P:=by unfold orV;simp only[aN,qG,kO]
theorem W_nil:W (aM δ) PL↔PL []:=Iff.rfl
theorem W_cons:W (az f fr δ) PL↔W (f δ) λd=>W (fr δ) λds=>PL (d::ds):=by unfold az;simp only[aN,kO]
theorem W_tup:W (mY fr δ) P↔W (fr δ) λds=>ds.length<=sizeLine/\P (.tup ds):=by
 unfold mY
 simp only[aN,qG,kO]
 have:∀ds:List D,(if ds.length<=sizeLine then P (.tup ds) else W Out.stuck P)↔(ds.length<=sizeLine/\P (.tup ds)):=λds=>by by_cases h:ds.length<=sizeLine <;> simp[h,W]
 simp only[this]
theorem W_lst:W (rW fr δ) P↔W (fr δ) λds=>ds.length<=sizeLine/\P (.lst ds):=by
 unfold rW
 simp only[aN,qG,kO]
 have:∀ds:List D,(if ds.length<=sizeLine then P (.lst ds) else W Out.stuck P)↔(ds.length<=sizeLine/\P (.lst ds)):=λds=>by by_cases h:ds.length<=sizeLine <;> simp[h,W]
 simp only[this]
theorem W_chk:W (vQ fr δ) PL↔W (fr δ) λds=>ds.length<=sizeLine/\PL ds:=by
 unfold vQ
 simp only[aN,qG,kO]
 have:∀ds:List D,(if ds.length<=sizeLine then PL ds else W Out.stuck PL)↔(ds.length<=sizeLine/\PL ds):=λds=>by by_cases h:ds.length<=sizeLine <;> simp[h,W]
 simp only[this]
theorem W_seqO:W (ik f δ) PL↔W (f δ) λd=>W (Out.opt (jQ d)) PL:=by unfold ik;simp only[aN]
theorem W_lstV:W (rR fr δ) P↔W (fr δ) λds=>P (.lst ds):=by unfold rR;simp only[aN,kO]
theorem W_oF:W (oF n F fr δ) P↔W (fr δ) λds=>ds.length=n/\W (F ds) P:=by
 unfold oF
 simp only[aN,qG]
 have:∀ds:List D,(if ds.length=n then W (F ds) P else W Out.stuck P)↔(ds.length=n/\W (F ds) P):=λds=>by by_cases h:ds.length=n <;> simp[h,W]
 simp only[this]
theorem W_oMk{F:List D->Out (List (Str×D))}:W (oMk c n F fr δ) P↔W (fr δ) λds=>ds.length=n/\W (F ds) λfs=>P (.obj c fs):=by
 unfold oMk
 simp only[aN,qG,kO]
 have:∀ds:List D,(if ds.length=n then W (F ds) λfs=>P (.obj c fs) else W Out.stuck P)↔(ds.length=n/\W (F ds) λfs=>P (.obj c fs)):=λds=>by by_cases h:ds.length=n <;> simp[h,W]
 simp only[this]
theorem W_isi{h:D->Option Bool}:W (wU h f δ) P↔W (f δ) λd=>W (Out.opt (h d)) λb=>P (.bl b):=by unfold wU;simp only[aN,kO]
theorem as_l:jQ (.lst ds)=some ds:=rfl
theorem as_t:jQ (.tup ds)=some ds:=rfl
theorem as_r:jQ (.rol ds)=some ds:=rfl
def rgP(d:D)(P:List D->Prop):Prop:=match d with
 | .int j=>(-(2 ^ 62)<=j/\j<2 ^ 62)/\P (zQ 0 j.toNat)
 | _=>False
theorem W_rng:W (yx f δ) PL↔W (f δ) λd=>rgP d PL:=by
 unfold yx
 rw[aN]
 refine iff_of_eq (congrArg _ (funext λd=>?_))
 cases d <;> try rfl
 rename_i j
 unfold rgP
 dsimp only
 by_cases h:-(2 ^ 62)<=j/\j<2 ^ 62
 .rw[if_pos h];exact propext ⟨λw=>⟨h,w⟩,λw=>w.2⟩
 .rw[if_neg h];exact propext ⟨λw=>False.elim w,λw=>absurd w.1 h⟩
theorem rg_n{n:Nat}(h:n<=1000000):rgP (.int (n:Nat)) PL↔PL ((List.range n).map λi=>D.int (i:Nat)):=by
 rw[←rngL_map]
 unfold rgP
 dsimp only
 rw[Int.toNat_natCast]
 exact⟨λw=>w.2,λw=>⟨⟨Int.le_trans (b:=0) (by decide) (Int.natCast_nonneg n),Int.lt_of_le_of_lt (b:=1000000) (by omega) (by decide)⟩,w⟩⟩
theorem W_sl{fl fh:DSt->Out (Option Int)}:W (oSl f fl fh δ) P↔W (f δ) λx=>W (fl δ) λl=>W (fh δ) λh=>W (Out.opt (cutD x l h)) P:=by unfold oSl;simp only[aN]
theorem W_noI{Q:Option Int->Prop}:W (noI δ) Q↔Q none:=Iff.rfl
def siP(d:D)(Q:Option Int->Prop):Prop:=match d with
 | .int i=>Q (some i)
 | _=>False
theorem W_soI{Q:Option Int->Prop}:W (soI f δ) Q↔W (f δ) λd=>siP d Q:=by
 unfold soI
 rw[aN]
 refine iff_of_eq (congrArg _ (funext λd=>?_))
 cases d <;> rfl
theorem si_i{j:Int}{Q:Option Int->Prop}:siP (.int j) Q↔Q (some j):=Iff.rfl
theorem cut_l{lo hi:Option Int}:cutD (.lst ds) lo hi=some (.lst (vU ds lo hi)):=rfl
theorem W_addL{es:List D}:W (Out.opt (bw (.lst ds) (.lst es))) P↔(ds.length+es.length<=sizeLine/\P (.lst (ds++es))):=by
 show W (Out.opt (if ds.length+es.length<=sizeLine then some (.lst (ds++es)) else none)) P↔_
 by_cases h:ds.length+es.length<=sizeLine <;> simp[h,W]
theorem W_retv{R:Fl->Prop}:W (uI i δ) R↔(match δ[i]? with | some (some (.sh d))=>R (.rt d) | some (some (.ol ds))=>R (.rl ds) | some (some (.oll dss))=>R (.rll dss) | _=>False):=by
 unfold uI
 rcases δ[i]? with _ | _ | s
 .exact Iff.rfl
 .exact Iff.rfl
 .cases s <;> exact Iff.rfl
theorem W_nilS:W (cR δ) R↔R (.nx δ):=Iff.rfl
theorem W_seq:W (aX g g' δ) R↔W (g δ) λfl=>thn fl (λδ'=>W (g' δ') R) R:=by
 unfold aX
 rw[aN]
 have:∀fl:Fl,W (match fl with | .nx δ'=>g' δ' | fl=>Out.ok fl) R=thn fl (λδ'=>W (g' δ') R) R:=λfl=>by cases fl <;> rfl
 exact iff_of_eq (congrArg _ (funext this))
theorem W_ret:W (bF f δ) R↔W (f δ) λd=>R (.rt d):=by unfold bF;simp only[aN,kO]
theorem W_if:W (sIf t g g' δ) R↔W (t δ) λk=>if k=true then W (g δ) R else W (g' δ) R:=by unfold sIf;simp only[aN,qG]
theorem W_set:W (bR i f δ) R↔W (f δ) λd=>R (.nx (δ.set i (some (.sh d)))):=by unfold bR;simp only[aN,kO]
theorem W_setl:W (gU i fr δ) R↔W (fr δ) λd=>R (.nx (δ.set i (some (.ol d)))):=by unfold gU;simp only[aN,kO]
theorem W_asg{tg:D->DSt->Option DSt}:W (sAsg f tg δ) R↔W (f δ) λd=>W (Out.opt (tg d δ)) λδ'=>R (.nx δ'):=by unfold sAsg;simp only[aN,kO]
theorem W_app:W (vm i f δ) R↔so δ i λds=>W (f δ) λd=>ds.length<sizeLine/\R (.nx (δ.set i (some (.ol (ds++[d]))))):=by
 unfold vm so
 rcases δ[i]? with _ | _ | s
 .exact Iff.rfl
 .exact Iff.rfl
 .cases s with
  | ol ds =>
   dsimp only
   simp only[aN,qG,kO]
   have:∀d:D,(if ds.length<sizeLine then R (.nx (δ.set i (some (.ol (ds++[d]))))) else W Out.stuck R)↔(ds.length<sizeLine/\R (.nx (δ.set i (some (.ol (ds++[d])))))):=λd=>by by_cases h:ds.length<sizeLine <;> simp[h,W]
   simp only[this]
  | _=>exact Iff.rfl
theorem W_for{fi:DSt->Out (List D)}{tg:D->DSt->Option DSt}:W (mF fi tg g δ) R↔W (fi δ) λds=>W (zF tg g ds δ) R:=by unfold mF;simp only[aN]
theorem W_runF{Q:D->Prop}:W (cj n g ds) Q↔W (g (eG n ds)) λfl=>W (v4 fl) Q:=aN
theorem W_eR:W (v4 (.rt d)) P↔P d:=Iff.rfl
theorem W_eL:W (v4 (.rl ds)) P↔P (.lst ds):=Iff.rfl
theorem iN_0:ji .non=true:=rfl
theorem iN_1{j:Int}:ji (.int j)=false:=rfl
theorem iN_2{j:Bool}:ji (.bl j)=false:=rfl
theorem iN_3{j:Str}:ji (.str j)=false:=rfl
theorem iN_4:ji (.lst ds)=false:=rfl
theorem iN_5:ji (.tup ds)=false:=rfl
theorem iN_6{fs:List (Str×D)}:ji (.obj c fs)=false:=rfl
theorem iN_7:ji (.cls c)=false:=rfl
def trn(fl:Fl)(k:DSt->Prop)(R:Fl->Prop):Prop:=match fl with
 | .nx δ=>k δ
 | .ct δ=>k δ
 | .bk δ=>R (.nx δ)
 | fl=>R fl
theorem trn_nx:trn (.nx δ) k R↔k δ:=Iff.rfl
theorem trn_rt:trn (.rt d) k R↔R (.rt d):=Iff.rfl
theorem jP{tg:D->DSt->Option DSt}{γ:Type}(e:γ->D)(I:List γ->DSt->Prop)(xs:List γ){δ:DSt}{R:Fl->Prop}(h0:I [] δ)(hs:∀x done rest δ,xs=done++x::rest->I done δ->W (Out.opt (tg (e x) δ)) λδ1=>W (g δ1) λfl=>trn fl (I (done++[x])) R)(he:∀δ,I xs δ->R (.nx δ)):W (zF tg g (xs.map e) δ) R:=by
 have go:∀(ys done:List γ)(δ:DSt),xs=done++ys->I done δ->W (zF tg g (ys.map e) δ) R:=by
  intro ys
  induction ys with
  | nil=>intro done δ q i;rw[List.append_nil] at q;subst q;exact he δ i
  | cons y ys ih =>
   intro done δ q i
   rw[List.map_cons]
   unfold zF
   rw[aN]
   refine(hs y done ys δ q i).imp λδ1 w=>?_
   rw[aN]
   refine w.imp λfl w=>?_
   cases fl with
   | nx δ2=>exact ih _ δ2 (by rw[q];simp) w
   | ct δ2=>exact ih _ δ2 (by rw[q];simp) w
   | bk δ2=>exact w
   | rt d=>exact w
   | rl d=>exact w
   | rll d=>exact w
 exact go xs [] δ rfl h0
theorem xZ{tg:D->DSt->Option DSt}{fe:DSt->Out α}{cap:List (Option Nat)}{fi:DSt->Out (List D)}{Q:List α->Prop}:W (cO cap fi tg t fe δ) Q↔W (fi δ) λds=>ds.length<sizeLine/\W (pN tg t fe ds (ye cap δ)) Q:=by
 unfold cO
 simp only[aN,qG]
 have:∀ds:List D,(if ds.length<sizeLine then W (pN tg t fe ds (ye cap δ)) Q else W Out.stuck Q)↔(ds.length<sizeLine/\W (pN tg t fe ds (ye cap δ)) Q):=λds=>by by_cases h:ds.length<sizeLine <;> simp[h,W]
 simp only[this]
end
end DL
namespace DL
open PySem MX L2
def WS{α:Type}(r:Res α)(Q:α->Mem->Prop):Prop:=match r with
 | .ok a μ=>Q a μ
 | _=>False
theorem WS_get{α:Type}{o:Res α}{Q:α->Mem->Prop}(h:WS o Q):∃a μ,o=.ok a μ/\Q a μ:=by
 cases o with
 | ok a μ=>exact⟨a,μ,rfl,h⟩
 | ex x=>exact False.elim h
 | stuck=>exact False.elim h
def thS(fl:Fl)(μ:Mem)(k:DSt->Mem->Prop)(Q:Fl->Mem->Prop):Prop:=match fl with
 | .nx δ=>k δ μ
 | fl=>Q fl μ
section
variable{α β:Type}{δ:DSt}{μ ν:Mem}{i n m c:Nat}{d:D}{ds:List D}{a:α}{Q:α->Mem->Prop}{P:D->Mem->Prop}{PL:List D->Mem->Prop}{R:Fl->Mem->Prop}{B:Bool->Mem->Prop}{k:DSt->Mem->Prop}{f f' f'':DSt->Mem->Res D}{h:DSt->Out D}{hl:DSt->Out (List D)}{t t':DSt->Mem->Res Bool}{g g':DSt->Mem->Res Fl}{fr:DSt->Mem->Res (List D)}{F:Mem->List D->Res D}{o:Option Cl}{x:Option Sl}
theorem WS_ok:WS (.ok a μ) Q↔Q a μ:=Iff.rfl
theorem vJ{r:Res β}{k:β->Mem->Res α}:WS (r.bind k) Q↔WS r λa μ=>WS (k a μ) Q:=by cases r <;> exact Iff.rfl
theorem WS_noex{r:Res α}:WS r.bf Q↔WS r Q:=by cases r <;> exact Iff.rfl
theorem WS_of{o:Out α}:WS (Res.of o μ) Q↔W o λa=>Q a μ:=by cases o <;> exact Iff.rfl
theorem WS_ite{p:Prop}[Decidable p]{a b:Res α}:WS (if p then a else b) Q↔if p then WS a Q else WS b Q:=by split <;> exact Iff.rfl
theorem thS_nx:thS (.nx δ) μ k R↔k δ μ:=Iff.rfl
theorem thS_rt:thS (.rt d) μ k R↔R (.rt d) μ:=Iff.rfl
theorem WS_fO{f:DSt->Out α}:WS (fO f δ μ) Q↔W (f δ) λa=>Q a μ:=WS_of
theorem WS_nil:WS (nilS δ μ) R↔R (.nx δ) μ:=Iff.rfl
theorem WS_seq:WS (uo g g' δ μ) R↔WS (g δ μ) λfl μ=>thS fl μ (λδ' μ=>WS (g' δ' μ) R) R:=by
 unfold uo
 rw[vJ]
 have:∀(fl:Fl)(μ:Mem),WS (match fl with | .nx δ'=>g' δ' μ | fl=>Res.ok fl μ) R=thS fl μ (λδ' μ=>WS (g' δ' μ) R) R:=λfl μ=>by cases fl <;> rfl
 exact iff_of_eq (congrArg _ (funext λfl=>funext (this fl)))
theorem WS_ret:WS (retS f δ μ) R↔WS (f δ μ) λd μ=>R (.rt d) μ:=by unfold retS;simp only[vJ,WS_ok]
theorem WS_if:WS (ifS t g g' δ μ) R↔WS (t δ μ) λk μ=>if k=true then WS (g δ μ) R else WS (g' δ μ) R:=by unfold ifS;simp only[vJ,WS_ite]
theorem WS_run{cell:Bool}:WS (runS cell n g μ ds) P↔WS (g (eG n ds) μ) λfl μ=>WS (endS cell fl μ) P:=vJ
theorem WS_eR{cell:Bool}:WS (endS cell (.rt d) μ) P↔P d μ:=Iff.rfl
end
end DL
namespace DL
open PySem MX L2
section
variable{g:DSt->Out Fl}
theorem trn_imp{fl:Fl}{k k':DSt->Prop}{R:Fl->Prop}(w:trn fl k R)(h:∀δ,k δ->k' δ):trn fl k' R:=by
 cases fl with
 | nx δ=>exact h δ w
 | ct δ=>exact h δ w
 | bk δ=>exact w
 | rt d=>exact w
 | rl d=>exact w
 | rll d=>exact w
theorem Nt{tg:D->DSt->Option DSt}{γ:Type}(P:γ->Prop)(I:List γ->DSt->Prop)(n:Nat){δ:DSt}{R:Fl->Prop}(h0:I [] δ)
  (hs:∀(a:Nat) r δ,a<n->r.length=a->(∀x∈r,P x)->I r δ->W (Out.opt (tg (.int (a:Nat)) δ)) λδ1=>W (g δ1) λfl=>trn fl (λδ'=>∃y,P y/\I (r++[y]) δ') R)
  (he:∀r δ,r.length=n->(∀x∈r,P x)->I r δ->R (.nx δ)):W (zF tg g ((List.range n).map λi:Nat=>D.int (i:Nat)) δ) R:=by
 refine jP (λi:Nat=>D.int (i:Nat)) (λdone δ=>∃r:List γ,r.length=done.length/\(∀x∈r,P x)/\I r δ) (List.range n) ⟨[],rfl,by simp,h0⟩ ?_ ?_
 .rintro a done rest δ e ⟨r,hl,hp,hi⟩
  have l:=congrArg List.length e
  have ga:=congrArg (λl=>l[done.length]?) e
  simp at l ga
  have ea:done.length=a:=by
   rw[List.getElem?_range (by omega)] at ga
   simpa using ga
  refine(hs a r δ (by omega) (by omega) hp hi).imp λδ1 w=>w.imp λfl w=>trn_imp w ?_
  rintro δ' ⟨y,py,iy⟩
  refine⟨r++[y],by simp[hl],λx hx=>?_,iy⟩
  rcases List.mem_append.mp hx with h | h
  .exact hp x h
  .rw[List.mem_singleton.mp h];exact py
 .rintro δ ⟨r,hl,hp,hi⟩
  exact he r δ (by simpa using hl) hp hi
theorem W_enum{f:DSt->Out D}{δ:DSt}{P:List D->Prop}:W (enum f δ) P↔W (f δ) λd=>W (Out.opt (gY d)) λds=>P (pO 0 ds):=by unfold enum;simp only[aN,kO]
end
end DL
namespace DL
open PySem PySem.StrLaws
open PySem.Builtin.Str hiding strKind
theorem toL_of(l:List Nat):(ofL l).cps.toList=l:=rfl
theorem ofL_to(x:Str):ofL x.cps.toList=x:=Str.ext' (by simp[ofL])
def jn(s:List Nat):List (List Nat)->List Nat
 | []=>[]
 | [p]=>p
 | p::r=>p++s++jn s r
theorem iI(s p q:List Nat)(r:List (List Nat)):jn s (p::q::r)=p++s++jn s (q::r):=rfl
theorem Hw(s:List Nat):∀ps:List (List Nat),Str.join (ofL s) (ps.map ofL)=ofL (jn s ps)
 | []=>rfl
 | [p]=>rfl
 | p::q::r=>by
  have h:=Hw s (q::r)
  show ofL p++ofL s++Str.join (ofL s) ((q::r).map ofL)=_
  rw[h,oK,oK]
  rfl
theorem txt_jn(s:List Nat)(ps:List (List Nat)):Txt.join (ofL s) (ps.map ofL)=ofL (jn s ps):=by
 show glued _ _=_
 rw[glued_eq_join,Hw]
theorem KJ{c:Nat}{u v:List Nat}:∀{a b:List Nat},c∉a->c∉b->a++c::u=b++c::v->a=b/\u=v
 | [],[],_,_,e=>⟨rfl,by simpa using e⟩
 | [],y::b,_,hb,e=>by
  simp at e
  exact absurd e.1 λz=>hb (by rw[z];exact List.mem_cons_self)
 | x::a,[],ha,_,e=>by
  simp at e
  exact absurd e.1.symm λz=>ha (by rw[z];exact List.mem_cons_self)
 | x::a,y::b,ha,hb,e=>by
  simp at e
  obtain⟨e1,e2⟩:=KJ (λh=>ha (List.mem_cons_of_mem _ h)) (λh=>hb (List.mem_cons_of_mem _ h)) e.2
  exact⟨by rw[e.1,e1],e2⟩
theorem jn_inj(c:Nat)(s:List Nat):∀(ps qs:List (List Nat)),ps≠[]->qs≠[]->(∀p∈ps,c∉p)->(∀p∈qs,c∉p)->jn (c::s) ps=jn (c::s) qs->ps=qs
 | [],_,h,_,_,_,_=>absurd rfl h
 | _::_,[],_,h,_,_,_=>absurd rfl h
 | [p],[q],_,_,_,_,e=>by rw[show p=q from e]
 | [p],q::q'::r,_,_,hp,_,e=>by
  rw[iI] at e
  exact absurd (show c∈p by rw[show p=_ from e];simp) (hp p List.mem_cons_self)
 | p::p'::r,[q],_,_,_,hq,e=>by
  rw[iI] at e
  exact absurd (show c∈q by rw[show q=_ from e.symm];simp) (hq q List.mem_cons_self)
 | p::p'::r,q::q'::r',_,_,hp,hq,e=>by
  rw[iI,iI,List.append_assoc,List.append_assoc] at e
  obtain⟨e1,e2⟩:=KJ (hp p List.mem_cons_self) (hq q List.mem_cons_self) e
  rw[e1,jn_inj c s (p'::r) (q'::r') (by simp) (by simp) (λx hx=>hp x (List.mem_cons_of_mem _ hx)) (λx hx=>hq x (List.mem_cons_of_mem _ hx)) (List.append_cancel_left e2)]
theorem split_ne(x y:Str):Txt.split x y≠[]:=by
 unfold Txt.split
 split
 .simp
 .split
  .simp
  .rw[partsBetween_eq]
   obtain⟨p,r,e⟩:=partsFrom_ne x y.length 0 (occurrences x y 0 x.length (x.length+1))
   rw[e];simp
theorem map_to(l:List Str):(l.map λx=>x.cps.toList).map ofL=l:=by
 rw[List.map_map]
 exact(List.map_congr_left λx _=>ofL_to x).trans (List.map_id _)
theorem FJ{c:Nat}{s:List Nat}{ps:List (List Nat)}(h0:ps≠[])(hf:∀p∈ps,c∉p)(hs:∀p∈Txt.split (ofL (jn (c::s) ps)) (ofL (c::s)),c∉p.cps.toList):Txt.split (ofL (jn (c::s) ps)) (ofL (c::s))=ps.map ofL:=by
 have e:=join_split (ofL (jn (c::s) ps)) (ofL (c::s))
 generalize hl:Txt.split (ofL (jn (c::s) ps)) (ofL (c::s))=l at hs e
 have ne:l≠[]:=hl▸split_ne _ _
 rw[←map_to l] at e ⊢
 rw[Hw] at e
 have:=jn_inj c s (l.map λx=>x.cps.toList) ps (by simpa using ne) h0 (λp hp=>by obtain⟨x,hx,rfl⟩:=List.mem_map.mp hp;exact hs x hx) hf (oN e)
 rw[this]
theorem split_1{c:Nat}{ps:List (List Nat)}(h0:ps≠[])(hf:∀p∈ps,c∉p):Txt.split (ofL (jn [c] ps)) (ofL [c])=ps.map ofL:=FJ h0 hf λp hp=>split_free _ c p hp
theorem at_2{x:Str}{c d k:Nat}(h1:x.cps.toList[k]?=some c)(h2:x.cps.toList[k+1]?=some d):At x (ofL [c,d]) x.length k:=by
 have lt:k+1<x.cps.toList.length:=(List.getElem?_eq_some_iff.mp h2).1
 have l2:k+1<x.cps.size:=by simpa using lt
 refine⟨by rw[bz];show k+2<=x.cps.size;omega,?_⟩
 rw[subAt_eq,bz]
 show ((x.cps.toList.drop k).take 2==[c,d])=true
 rw[beq_iff_eq]
 apply List.ext_getElem?
 intro i
 match i with
 | 0=>rw[List.getElem?_take_of_lt (by decide),List.getElem?_drop];simpa using h1
 | 1=>rw[List.getElem?_take_of_lt (by decide),List.getElem?_drop];simpa using h2
 | n+2=>rw[List.getElem?_eq_none (by simp;omega)];rfl
theorem Ca(x:Str)(c d a b:Nat)(hx:∀k,x.cps.toList[k]?=some c->x.cps.toList[k+1]?=some d)(hn:∀k,a<=k->k<b->¬At x (ofL [c,d]) x.length k):c∉(strSub x a b).cps.toList:=by
 intro hm
 rw[strSub_toList] at hm
 obtain⟨j,hj⟩:=List.getElem?_of_mem hm
 have hlt:j<b - a:=by
  have h1:j<((x.cps.toList.drop a).take (b - a)).length:=(List.getElem?_eq_some_iff.mp hj).1
  simp at h1
  omega
 rw[List.getElem?_take_of_lt hlt,List.getElem?_drop] at hj
 exact hn (a+j) (by omega) (by omega) (at_2 hj (hx _ hj))
theorem zj(x:Str)(c d:Nat)(hx:∀k,x.cps.toList[k]?=some c->x.cps.toList[k+1]?=some d):∀(cuts:List Nat)(a f:Nat),ChainG x (ofL [c,d]) x.length a cuts f->(∀k,f<=k->¬At x (ofL [c,d]) x.length k)->∀p∈partsFrom x (ofL [c,d]).length a cuts,c∉p.cps.toList
 | [],a,f,h,hn,p,hp=>by
  have e:f=a:=h
  subst e
  rw[List.mem_singleton.mp hp]
  exact Ca x c d f x.length hx λk h1 _=>hn k h1
 | e::r,a,f,h,hn,p,hp=>by
  rcases List.mem_cons.mp hp with rfl | hp'
  .exact Ca x c d a e hx h.2.2.1
  .exact zj x c d hx r _ f h.2.2.2 hn p hp'
theorem wB{x:Str}{c d:Nat}(hx:∀k,x.cps.toList[k]?=some c->x.cps.toList[k+1]?=some d)(hn:∀k,¬At x (ofL [c,d]) x.length k):c∉x.cps.toList:=by
 intro hm
 obtain⟨j,hj⟩:=List.getElem?_of_mem hm
 exact hn j (at_2 hj (hx j hj))
theorem Ml(x:Str)(c d:Nat)(hk:PySem.Builtin.Str.strKind (ofL [c,d])=1)(hx:∀k,x.cps.toList[k]?=some c->x.cps.toList[k+1]?=some d):∀p∈Txt.split x (ofL [c,d]),c∉p.cps.toList:=by
 obtain⟨f,hG,hn⟩:=occ_tight x (ofL [c,d]) (by rw[bz];exact Nat.le_succ 1)
 unfold Txt.split
 split
 .rename_i hc
  intro p hp
  rw[List.mem_singleton.mp hp]
  rw[Bool.or_eq_true,decide_eq_true_eq,decide_eq_true_eq] at hc
  rcases hc with h | h
  .exact wB hx λk hA=>by have:=hA.1;omega
  .rw[hk] at h
   have:1<=PySem.Builtin.Str.strKind x:=by unfold PySem.Builtin.Str.strKind;split <;> (try split) <;> decide
   omega
 .split
  .rename_i he
   intro p hp
   rw[List.mem_singleton.mp hp]
   have e0:occurrences x (ofL [c,d]) 0 x.length (x.length+1)=[]:=List.isEmpty_iff.mp he
   rw[e0] at hG
   have ef:f=0:=hG
   subst ef
   exact wB hx λk=>hn k (Nat.zero_le _)
  .rw[partsBetween_eq]
   exact zj x c d hx _ 0 f hG hn
theorem P0{c d:Nat}(hcd:c≠d):∀(ps:List (List Nat)),(∀p∈ps,c∉p)->∀k,(jn [c,d] ps)[k]?=some c->(jn [c,d] ps)[k+1]?=some d
 | [],_,k,h=>by simp[jn] at h
 | [p],hp,k,h=>absurd (List.mem_of_getElem? h) (hp p List.mem_cons_self)
 | p::q::r,hp,k,h=>by
  rw[iI,List.append_assoc] at h ⊢
  have n1:=hp p List.mem_cons_self
  by_cases hk:k<p.length
  .rw[List.getElem?_append_left hk] at h
   exact absurd (List.mem_of_getElem? h) n1
  .rw[List.getElem?_append_right (by omega)] at h
   rw[List.getElem?_append_right (by omega)]
   have e:k+1 - p.length=(k - p.length)+1:=by omega
   rw[e]
   generalize k - p.length=j at h
   match j with
   | 0=>rfl
   | 1=>simp at h;exact absurd h.symm hcd
   | j+2=>exact P0 hcd (q::r) (λx hx=>hp x (List.mem_cons_of_mem _ hx)) j h
theorem split_2{c d:Nat}(hcd:c≠d)(hk:PySem.Builtin.Str.strKind (ofL [c,d])=1){ps:List (List Nat)}(h0:ps≠[])(hf:∀p∈ps,c∉p):Txt.split (ofL (jn [c,d] ps)) (ofL [c,d])=ps.map ofL :=
 FJ h0 hf λp hp=>Ml _ c d hk (λk h=>P0 hcd ps hf k h) p hp
theorem at_1{x:Str}{c k:Nat}:At x (ofL [c]) x.length k↔x.cps.toList[k]?=some c:=subAt_one x c k
theorem has_1(l:List Nat)(c:Nat):(!(occurrences (ofL l) (ofL [c]) 0 (ofL l).length 1).isEmpty)=decide (c∈l):=found_one (ofL l) c
theorem head_1{a b:List Nat}{c:Nat}(h:c∉a):∃r,occurrences (ofL (a++c::b)) (ofL [c]) 0 (ofL (a++c::b)).length 1=a.length::r:=by
 rcases occ_head (ofL (a++c::b)) (ofL [c]) 1 (Nat.le_refl 1) with⟨_,hn⟩| ⟨i,r,e,hA,hn⟩
 .exact absurd (at_1.mpr (by rw[toL_of];simp)) (hn a.length)
 .have h1:=at_1.mp hA
  rw[toL_of] at h1
  have:i=a.length:=by
   rcases Nat.lt_trichotomy i a.length with z | z | z
   .rw[List.getElem?_append_left z] at h1
    exact absurd (List.mem_of_getElem? h1) h
   .exact z
   .exact absurd (at_1.mpr (by rw[toL_of];simp)) (hn a.length z)
  exact⟨r,by rw[e,this]⟩
theorem sub_of(l:List Nat)(i j:Nat):strSub (ofL l) i j=ofL ((l.drop i).take (j - i)):=by
 have:=strSub_toList (ofL l) i j
 rw[←ofL_to (strSub (ofL l) i j),this]
 rfl
theorem part_1{a b:List Nat}{c:Nat}(h:c∉a):Txt.partition (ofL (a++c::b)) (ofL [c])=(ofL a,ofL [c],ofL b):=by
 obtain⟨r,e⟩:=head_1 (b:=b) h
 unfold Txt.partition
 rw[e]
 simp only[sub_of,bz]
 have e2:a.length+[c].length=(a++[c]).length:=by simp
 rw[e2,show a++c::b=(a++[c])++b by simp,List.drop_left,List.drop_zero,Nat.sub_zero,List.append_assoc,List.take_left,List.take_of_length_le (by simp;omega)]
theorem stw_1(c:Nat)(l:List Nat):Txt.startswith (ofL (c::l)) (ofL [c])=true:=by
 unfold Txt.startswith
 rw[bz,bz,subAt_eq,bz]
 show (decide (0+1<=l.length+1) && (List.take 1 (List.drop 0 (c::l))==[c]))=true
 simp
end DL
namespace DL
open PySem MX L2
def txP(d:D)(Q:Str->Prop):Prop:=match d with
 | .str z=>Q z
 | _=>False
def kyP(d:D)(Q:Key->Prop):Prop:=match BJ d with
 | some k=>Q k
 | none=>False
def dkP(δ:DSt)(i:Nat)(Q:List (Key×D)->Prop):Prop:=match dkOf i δ with
 | some kvs=>Q kvs
 | none=>False
def doD(δ:DSt)(i:Nat)(Q:List (Key×D)->Prop):Prop:=match δ[i]? with
 | some (some (.od kvs))=>Q kvs
 | _=>False
section
variable{δ:DSt}{i n:Nat}{d:D}{ds:List D}{x:Option Sl}{P:D->Prop}{PL:List D->Prop}{R:Fl->Prop}{B:Bool->Prop}{f f' f'' fo fa fb:DSt->Out D}{kvs:List (Key×D)}{QD:List (Key×D)->Prop}
theorem xq{z:Str}{Q:Str->Prop}:txP (.str z) Q↔Q z:=Iff.rfl
theorem ky_s{z:Str}{Q:Key->Prop}:kyP (.str z) Q↔Q (.inr z):=Iff.rfl
theorem dk_1:dkP (some (.sh (.dK kvs))::δ) 0 QD↔QD kvs:=Iff.rfl
theorem dk_s:dkP (x::δ) (i+1) QD↔dkP δ i QD:=Iff.rfl
theorem doD_0:doD (some (.od kvs)::δ) 0 QD↔QD kvs:=Iff.rfl
theorem doD_s:doD (x::δ) (i+1) QD↔doD δ i QD:=Iff.rfl
theorem Eo{h:Str->Str->Option D}:W (oTx h fo fa δ) P↔W (fo δ) λd=>txP d λz=>W (fa δ) λy=>txP y λy=>W (Out.opt (h z y)) P:=by
 unfold oTx
 rw[aN]
 refine iff_of_eq (congrArg _ (funext λd=>?_))
 cases d <;> try rfl
 show W ((fa δ).bind _) P=_
 unfold txP
 dsimp only
 rw[aN]
 refine congrArg _ (funext λy=>?_)
 cases y <;> rfl
theorem nM:W (rZ fo fa δ) P↔W (fo δ) λd=>txP d λz=>W (fa δ) λy=>W (Out.opt (jr z y)) P:=by
 unfold rZ
 rw[aN]
 refine iff_of_eq (congrArg _ (funext λd=>?_))
 cases d <;> try rfl
 show W ((fa δ).bind _) P=_
 rw[aN]
 rfl
theorem W_strO:W (strO f δ) PL↔W (f δ) λd=>txP d λz=>PL (Cr z):=by
 unfold strO
 rw[aN]
 refine iff_of_eq (congrArg _ (funext λd=>?_))
 cases d <;> rfl
theorem W_catL:W (catL fa fb δ) PL↔W (fa δ) λx=>W (fb δ) λy=>∃a b,x=.lst a/\y=.lst b/\a.length+b.length<=sizeLine/\PL (a++b):=by
 unfold catL
 rw[aN]
 refine iff_of_eq (congrArg _ (funext λd=>?_))
 rw[aN]
 refine congrArg _ (funext λy=>?_)
 cases d <;> cases y <;> try simp[W]
 rename_i a b
 by_cases h:a.length+b.length<=sizeLine
 .simp[h]
 .simp[h]
def rg2P(d d':D)(PL:List D->Prop):Prop:=match d,d' with
 | .int i,.int j=>(-(2 ^ 62)<=i/\i<2 ^ 62/\-(2 ^ 62)<=j/\j<2 ^ 62)/\PL (zQ i (j - i).toNat)
 | _,_=>False
theorem W_rng2:W (rng2 f f' δ) PL↔W (f δ) λd=>W (f' δ) λd'=>rg2P d d' PL:=by
 unfold rng2
 rw[aN]
 refine iff_of_eq (congrArg _ (funext λd=>?_))
 rw[aN]
 refine congrArg _ (funext λy=>?_)
 cases d <;> cases y <;> try rfl
 rename_i i j
 unfold rg2P
 dsimp only
 by_cases h:-(2 ^ 62)<=i/\i<2 ^ 62/\-(2 ^ 62)<=j/\j<2 ^ 62
 .rw[if_pos h];exact propext ⟨λw=>⟨h,w⟩,λw=>w.2⟩
 .rw[if_neg h];exact propext ⟨λw=>False.elim w,λw=>absurd w.1 h⟩
theorem Ro(n a:Nat):zQ ((a:Nat):Int) n=(List.range' a n).map λi=>D.int (i:Nat):=by
 unfold zQ
 rw[List.range'_eq_map_range,List.map_map]
 exact List.map_congr_left λi _=>by simp
theorem rg2_n{a b:Nat}(ha:a<=1000)(hb:b<=1000):rg2P (.int (a:Nat)) (.int (b:Nat)) PL↔PL ((List.range' a (b - a)).map λi=>D.int (i:Nat)):=by
 have lo:∀k:Nat,-(2 ^ 62)<=(k:Int):=λk=>Int.le_trans (b:=0) (by decide) (Int.natCast_nonneg k)
 have hi:∀k:Nat,k<=1000->(k:Int)<2 ^ 62:=λk h=>Int.lt_of_le_of_lt (b:=1000) (by omega) (by decide)
 rw[←Ro,show b - a=(((b:Nat):Int) - ((a:Nat):Int)).toNat by omega]
 exact⟨λw=>w.2,λw=>⟨⟨lo a,hi a ha,lo b,hi b hb⟩,w⟩⟩
theorem W_setD0:W (OJ i δ) R↔R (.nx (δ.set i (some (.od [])))):=Iff.rfl
theorem W_setdef:W (wX i fa fb δ) R↔doD δ i λkvs=>W (fa δ) λk=>W (fb δ) λv=>kyP k λkey=>kvs.length<sizeLine/\R (.nx (if Bv kvs key=true then δ else δ.set i (some (.od (Fy kvs key v))))):=by
 unfold wX doD
 rcases δ[i]? with _ | _ | s
 .exact Iff.rfl
 .exact Iff.rfl
 .cases s with
  | od kvs =>
   dsimp only
   rw[aN]
   refine iff_of_eq (congrArg _ (funext λk=>?_))
   rw[aN]
   refine congrArg _ (funext λv=>?_)
   unfold kyP
   cases BJ k with
   | none=>rfl
   | some key =>
    dsimp only
    by_cases h:kvs.length<sizeLine
    .rw[if_pos h];exact propext ⟨λw=>⟨h,w⟩,λw=>w.2⟩
    .rw[if_neg h];exact propext ⟨λw=>False.elim w,λw=>absurd w.1 h⟩
  | _=>exact Iff.rfl
theorem W_dIx:W (dIx i f δ) P↔dkP δ i λkvs=>W (f δ) λk=>kyP k λkey=>W (Out.opt (uW kvs key)) P:=by
 unfold dIx dkP
 cases dkOf i δ with
 | none=>exact Iff.rfl
 | some kvs =>
  dsimp only
  rw[aN]
  refine iff_of_eq (congrArg _ (funext λk=>?_))
  unfold kyP
  cases BJ k <;> rfl
theorem W_dGet1:W (Kc i f δ) P↔dkP δ i λkvs=>W (f δ) λk=>kyP k λkey=>P ((uW kvs key).getD .non):=by
 unfold Kc dkP
 cases dkOf i δ with
 | none=>exact Iff.rfl
 | some kvs =>
  dsimp only
  rw[aN]
  refine iff_of_eq (congrArg _ (funext λk=>?_))
  unfold kyP
  cases BJ k <;> rfl
theorem W_dInX:W (dInX i f δ) B↔W (f δ) λk=>kyP k λkey=>dkP δ i λkvs=>B (Bv kvs key):=by
 unfold dInX
 rw[aN]
 refine iff_of_eq (congrArg _ (funext λk=>?_))
 unfold kyP dkP
 cases BJ k <;> cases dkOf i δ <;> rfl
theorem W_idxS:W (oIdxS fo fa δ) P↔W (fo δ) λd=>K1 d=true/\W (fa δ) λy=>W (Out.opt (KY d y)) P:=by
 unfold oIdxS
 rw[aN]
 refine iff_of_eq (congrArg _ (funext λd=>?_))
 by_cases h:K1 d=true
 .rw[if_pos h,aN];exact propext ⟨λw=>⟨h,w⟩,λw=>w.2⟩
 .rw[if_neg h];exact propext ⟨λw=>False.elim w,λw=>absurd w.1 h⟩
theorem W_put:W (sPut i f f' δ) R↔W (f δ) λd=>so δ i λds=>W (f' δ) λk=>∃z j,k=.int z/\ixN ds.length z=some j/\R (.nx (δ.set i (some (.ol (ds.set j d))))):=by
 unfold sPut
 rw[aN]
 refine iff_of_eq (congrArg _ (funext λd=>?_))
 unfold so
 rcases δ[i]? with _ | _ | s
 .rfl
 .rfl
 .cases s with
  | ol ds =>
   dsimp only
   rw[aN]
   refine congrArg _ (funext λk=>?_)
   cases k with
   | int z =>
    dsimp only
    cases hz:ixN ds.length z with
    | none=>simp[W,hz]
    | some j=>simp[kO,hz]
   | _=>simp[W]
  | _=>rfl
end
end DL
namespace DL
open PySem MX L2
section
variable{δ:DSt}{i:Nat}{x:Str}{P:D->Prop}{PL:List D->Prop}{R:Fl->Prop}{PS:Str->Prop}{f f':DSt->Out D}{fa fr:DSt->Out Str}
theorem Np:W (fLit x δ) PS↔PS x:=Iff.rfl
theorem Nq:W (fNil δ) PS↔PS Str.empty:=Iff.rfl
theorem Nm:W (fFld f δ) PS↔W (f δ) λd=>W (Out.opt (fmtD d)) PS:=by unfold fFld;rw[aN]
theorem GC:W (jW fa fr δ) PS↔W (fa δ) λx=>x.length<=1000000/\W (fr δ) λy=>PS (x++y):=by
 unfold jW
 rw[aN]
 refine iff_of_eq (congrArg _ (funext λx=>?_))
 by_cases h:x.length<=1000000
 .rw[if_pos h,aN];exact propext ⟨λw=>⟨h,w⟩,λw=>w.2⟩
 .rw[if_neg h];exact propext ⟨λw=>False.elim w,λw=>absurd w.1 h⟩
theorem Nr:W (Fe fa δ) P↔W (fa δ) λy=>P (.str y):=by unfold Fe;rw[aN];rfl
theorem W_ext:W (sExt i f δ) R↔so δ i λds=>W (f δ) λd=>∃zs,d=.lst zs/\ds.length+zs.length<=sizeLine/\R (.nx (δ.set i (some (.ol (ds++zs))))):=by
 unfold sExt so
 rcases δ[i]? with _ | _ | s
 .exact Iff.rfl
 .exact Iff.rfl
 .cases s with
  | ol ds =>
   dsimp only
   rw[aN]
   refine iff_of_eq (congrArg _ (funext λd=>?_))
   cases d with
   | lst zs =>
    dsimp only
    by_cases h:ds.length+zs.length<=sizeLine
    .simp[W,h]
    .simp[W,h]
   | _=>simp[W]
  | _=>exact Iff.rfl
theorem Hg{α β:Type}{t:DSt->Out Bool}{fe:DSt->Out β}(g g':α->D)(p:α->Bool)(h:α->β)(r:DSt):∀(xs:List α)(s1 s2:Option Sl),(∀x∈xs,t (some (.sh (g x))::some (.sh (g' x))::r)=.ok (p x))->(∀x∈xs,p x=true->fe (some (.sh (g x))::some (.sh (g' x))::r)=.ok (h x))->pN (gT 2 (bj (gN 0) (bj (gN 1) dZ))) t fe (xs.map λx=>D.tup [g x,g' x]) (s1::s2::r)=.ok ((xs.filter p).map h)
 | [],_,_,_,_=>rfl
 | x::xs,s1,s2,a,k=>by
  have e0:=a x List.mem_cons_self
  have e1:=k x List.mem_cons_self
  have e2:=Hg g g' p h r xs (some (.sh (g x))) (some (.sh (g' x))) (λy hy=>a y (List.mem_cons_of_mem _ hy)) λy hy=>k y (List.mem_cons_of_mem _ hy)
  rw[List.map_cons]
  unfold pN
  have et:gT 2 (bj (gN 0) (bj (gN 1) dZ)) (.tup [g x,g' x]) (s1::s2::r)=some (some (.sh (g x))::some (.sh (g' x))::r):=rfl
  rw[et,List.filter_cons]
  simp only[Out.j7,Out.dJ,Out.ue,e0,e2]
  cases hp:p x with
  | true=>simp only[e1 hp,Out.dJ,Out.ue,if_true,List.map_cons]
  | false=>rfl
end
end DL
namespace K9
open PySem L2 MX DL
inductive Dr where
 | must (n:Nat) | may (n:Nat) | shut | torn
def Dr.w:Dr->Str
 | .must _=>"must"
 | .may _=>"may"
 | .shut=>"shut"
 | .torn=>"torn"
def Dr.to:Dr->D
 | .must n=>.int n
 | .may n=>.int n
 | .shut=>.non
 | .torn=>.non
def Dr.d(x:Dr):D:=.tup [.str x.w,x.to]
def Dr.ob:Dr->D
 | .must n=>.obj mO [("to",.int n)]
 | .may n=>.obj yc [("to",.int n)]
 | .shut=>.obj lH [("to",.non)]
 | .torn=>.obj lJ [("to",.non)]
def Dr.ok(many:Nat)(t:Bool):Dr->Prop
 | .must n=>n<many
 | .may n=>n<many
 | .shut=>True
 | .torn=>t=true
theorem s2:(2:Nat)<=sizeLine:=by decide
theorem q11:eqD (.str "must") (.str "must")=some true:=by decide +kernel
theorem q21:eqD (.str "may") (.str "must")=some false:=by decide +kernel
theorem q22:eqD (.str "may") (.str "may")=some true:=by decide +kernel
theorem q31:eqD (.str "shut") (.str "must")=some false:=by decide +kernel
theorem q32:eqD (.str "shut") (.str "may")=some false:=by decide +kernel
theorem q33:eqD (.str "shut") (.str "shut")=some true:=by decide +kernel
theorem q41:eqD (.str "torn") (.str "must")=some false:=by decide +kernel
theorem q42:eqD (.str "torn") (.str "may")=some false:=by decide +kernel
theorem q43:eqD (.str "torn") (.str "shut")=some false:=by decide +kernel
theorem q44:eqD (.str "torn") (.str "torn")=some true:=by decide +kernel
theorem q13:eqD (.str "must") (.str "shut")=some false:=by decide +kernel
theorem q23:eqD (.str "may") (.str "shut")=some false:=by decide +kernel
theorem n1:inD (.str "must") (.tup [.str "must",.str "torn"])=some true:=by decide +kernel
theorem n2:inD (.str "may") (.tup [.str "must",.str "torn"])=some false:=by decide +kernel
theorem n3:inD (.str "shut") (.tup [.str "must",.str "torn"])=some false:=by decide +kernel
theorem n4:inD (.str "torn") (.tup [.str "must",.str "torn"])=some true:=by decide +kernel
theorem m1:inD (.str "must") (.tup [.str "must",.str "may"])=some true:=by decide +kernel
theorem m2:inD (.str "may") (.tup [.str "must",.str "may"])=some true:=by decide +kernel
theorem m3:inD (.str "shut") (.tup [.str "must",.str "may"])=some false:=by decide +kernel
theorem m4:inD (.str "torn") (.tup [.str "must",.str "may"])=some false:=by decide +kernel
theorem ok_must:PyData.strOk "must"=true:=by decide +kernel
theorem ok_may:PyData.strOk "may"=true:=by decide +kernel
theorem Qg:PyData.strOk "shut"=true:=by decide +kernel
theorem ok_torn:PyData.strOk "torn"=true:=by decide +kernel
theorem Ai(n many:Nat)(h:n<many):tX [.int n,.int many]=.ok (.bl true):=by
 unfold tX yr
 have h1:(n:Int)<(many:Int):=by omega
 have h0:(0:Int)<=(n:Int):=by omega
 walk_at "ev: wJ rD mU h0 h1"
theorem lC(x:Dr)(many:Nat)(t:Bool)(h:x.ok many t):bU [x.d,.int many,.bl t]=.ok (.bl true):=by
 unfold bU gG Dr.d
 cases x with
 | must n=>(have zv0:=Ai n many h;walk_at "ev: eO di mU Dr.w Dr.to q11 zv0")
 | may n=>(have zv0:=Ai n many h;walk_at "ev: eO di mU Dr.w Dr.to q21 q22 zv0")
 | shut=>walk_at "ev: eO di mU Dr.w Dr.to q31 q32 q33"
 | torn =>
  obtain rfl:t=true:=h
  walk_at "ev: eO di mU Dr.w Dr.to q41 q42 q43 q44"
theorem Ah(n a:Bool)(to:D):tW [.bl n,.bl a,to]=.ok (match n,a with | true,true=>.obj mO [("to",to)] | false,true=>.obj yc [("to",to)] | true,false=>.obj lJ [("to",.non)] | false,false=>.obj lH [("to",.non)]):=by
 unfold tW yp
 cases n <;> cases a <;> walk_at "ev: qi El uM ql" <;> rfl
theorem Gh(x:Dr):cA [x.d]=.ok x.ob:=by
 unfold cA lN Dr.d
 cases x <;> walk_at "ev: Dr.w Dr.to Dr.ob s2 n1 n2 n3 n4 m1 m2 m3 m4 Ah"
theorem F_told'(x:Dr):dO [x.ob]=.ok x.d:=by
 unfold dO qP
 cases x <;> walk_at "ev: Dr.d Dr.w Dr.to Dr.ob s2 mO yc lH lJ xm qd qQ uL uU qe qR qg qT"
theorem M_told'(x:Dr)(δ:DSt)(fo:DSt->Out D)(h:fo δ=.ok x.ob):oM "told" 1 tR fo aM δ=.ok x.d:=by
 have e:=F_told' x
 cases x <;> · unfold Dr.ob at e h;simp only[cj,eG,v4,aX,cR,bR,gU,sIf,bF,mF,vm,sExt,sClr2,sPut,sAsg,gv,gb,gvo,slD,o1,o2,o2b,o3,oC,oF,oM,oMk,oFld,wU,bV,andT,orT,kW,tst,An,orV,notV,aM,az,mY,rW,vQ,ik,rR,kc,one1,zG,frz,frzS,negD,zX,Af,dM,mR,lQ,zZ,JF,asB_b,BP,HB,HD,rE,K3,ixD_t,Hv,Hu,atI_0,atI_1,atI_2,HJ,Hl,HN,Bx,ji,gN,dZ,bj,gT,Out.dJ,Out.G8,Out.uQ,Out.j7,Out.Lq,Out.ue,nxP_ok,List.map_cons,List.map_nil,List.length_cons,List.length_nil,List.append_assoc,List.nil_append,List.cons_append,List.getElem?_cons_zero,List.getElem?_cons_succ,List.getElem?_nil,List.set_cons_zero,List.set_cons_succ,Nat.zero_add,Nat.reduceAdd,Nat.reduceSub,List.replicate_succ,List.replicate_zero,List.lookup_cons,List.lookup_nil,Option.some.injEq,Option.bind_some,Option.map_some,Nat.reduceBEq,Nat.reduceEqDiff,Int.reduceLT,Int.reduceLE,Int.reduceNeg,Int.reduceAdd,Int.reduceMul,Int.reduceSub,Nat.reduceLeDiff,reduceIte,ite_true,decide_true,decide_false,Bool.not_true,Bool.not_false,Nat.reduceEqDiff,Bool.false_eq_true,Option.isNone_none,Option.isNone_some,Aa,String.reduceBEq,String.reduceEq,beq_self_eq_true,List.contains_cons,List.contains_nil,Bool.or_false,Bool.or_true,Bool.true_or,Bool.false_or,Bool.and_true,Bool.and_false,Bool.true_and,Bool.false_and,Bool.not_eq_true,eq_self_iff_true,Int.cast_ofNat_Int,Int.reduceBEq,Int.natCast_zero,h,tR,mO,yc,lH,lJ] at e ⊢;exact e
def alw:Dr->Bool
 | .must _=>true
 | .may _=>true
 | _=>false
theorem Gi(r:List Dr)(h:r.length<=100):cY [.lst (r.map Dr.d)]=.ok (.tup (r.map Dr.ob)):=by
 unfold cY lO
 have e:=iC (cap:=[none]) (fi:=ik (gv 0)) (fe:=fC) (δ:=[some (.sh (.lst (r.map Dr.d)))]) Dr.d Dr.ob r rfl (by omega) (λx _=>by
  unfold fC
  show (oF 1 cA (az (gv 0) aM) [some (.sh x.d)])=_
  (have zv0:=Gh x;walk_at "ev: zv0"))
 walk_at "ev: e pJ"
theorem Gj{q:Dr->D}(hq:∀x,cA [q x]=.ok x.ob)(r:List Dr)(h:r.length<=100):cY [.lst (r.map q)]=.ok (.tup (r.map Dr.ob)):=by
 unfold cY lO
 have e:=iC (cap:=[none]) (fi:=ik (gv 0)) (fe:=fC) (δ:=[some (.sh (.lst (r.map q)))]) q Dr.ob r rfl (by omega) (λx _=>by
  unfold fC
  show (oF 1 cA (az (gv 0) aM) [some (.sh (q x))])=_
  (have zv0:=hq x;walk_at "ev: zv0"))
 walk_at "ev: e pJ"
def bQ(rows:List (List Dr)):D:=.lst (rows.map λr=>.lst (r.map Dr.d))
def Fz(rows:List (List Dr)):D:=.tup (rows.map λr=>.tup (r.map Dr.ob))
structure Rows(many acts:Nat)(t:Bool)(rows:List (List Dr)):Prop where
 n:rows.length=many
 row:∀r∈rows,r.length=acts/\∀x∈r,x.ok many t
theorem jb{α:Type}(g:α->D):∀(xs:List α)(k:Nat),pO k (xs.map g)=(List.zipIdx xs k).map λp=>D.tup [.int p.2,g p.1]
 | [],_=>rfl
 | x::xs,k=>by rw[List.map_cons,List.zipIdx_cons,List.map_cons,←jb g xs (k+1)];rfl
theorem F_rows(many acts:Nat)(t:Bool)(rows:List (List Dr))(R:Rows many acts t rows)(h1:1<=many)(h2:many<=2000)(h3:acts<=8):cI [bQ rows,.int acts,.bl t]=.ok .non:=by
 unfold cI jy bQ
 have hn:=R.n
 have a1:(1:Int)<=(rows.length:Int):=by omega
 have a2:(rows.length:Int)<=2000:=by omega
 walk_at "ev: cM mU List.length_map a1 a2 enum gY jb"
 have step:∀(p:List Dr×Nat)(done:List (List Dr×Nat))(δ:DSt),(∃a b c d:Option Sl,δ=[some (.sh (bQ rows)),some (.sh (.int acts)),some (.sh (.bl t)),a,b,c,d])->p∈rows.zipIdx ->
   ∃δ1,gT 2 (bj (gN 3) (bj (gN 4) dZ)) (D.tup [.int p.2,.lst (p.1.map Dr.d)]) δ=some δ1/\nxP (d7 δ1) λδ=>∃a b c d:Option Sl,δ=[some (.sh (bQ rows)),some (.sh (.int acts)),some (.sh (.bl t)),a,b,c,d]:=by
  rintro⟨r,i⟩ done δ ⟨a,b,c,d,rfl⟩ hp
  refine⟨_,rfl,?_⟩
  have hr:=R.row r (List.fst_mem_of_mem_zipIdx hp)
  have hl:(r.length:Int)=(acts:Int):=by rw[hr.1]
  have step2:∀(p:Dr×Nat)(done:List (Dr×Nat))(δ:DSt),(∃a b:Option Sl,δ=[some (.sh (bQ rows)),some (.sh (.int acts)),some (.sh (.bl t)),some (.sh (.int i)),some (.sh (.lst (r.map Dr.d))),a,b])->p∈r.zipIdx ->
    ∃δ1,gT 2 (bj (gN 5) (bj (gN 6) dZ)) (D.tup [.int p.2,p.1.d]) δ=some δ1/\nxP (d9 δ1) λδ=>∃a b:Option Sl,δ=[some (.sh (bQ rows)),some (.sh (.int acts)),some (.sh (.bl t)),some (.sh (.int i)),some (.sh (.lst (r.map Dr.d))),a,b]:=by
   rintro⟨x,j⟩ done δ ⟨a,b,rfl⟩ hq
   refine⟨_,rfl,?_⟩
   have e:=lC x many t (hr.2 x (List.fst_mem_of_mem_zipIdx hq))
   unfold d9
   unfold bQ
   walk_at "ev: List.length_map hn e"
   exact⟨_,_,rfl⟩
  obtain⟨δ',e1,i1⟩:=wA (λp:Dr×Nat=>D.tup [.int p.2,p.1.d]) (λ_ δ=>∃a b:Option Sl,δ=[some (.sh (bQ rows)),some (.sh (.int acts)),some (.sh (.bl t)),some (.sh (.int i)),some (.sh (.lst (r.map Dr.d))),a,b]) r.zipIdx [] [some (.sh (bQ rows)),some (.sh (.int acts)),some (.sh (.bl t)),some (.sh (.int i)),some (.sh (.lst (r.map Dr.d))),c,d] step2 ⟨_,_,rfl⟩
  unfold d7
  walk_at "ev: cM mU List.length_map hl enum gY jb e1"
  obtain⟨a,b,rfl⟩:=i1
  exact⟨_,_,_,_,rfl⟩
 obtain⟨δ',e1,i1⟩:=wA (λp:List Dr×Nat=>D.tup [.int p.2,.lst (p.1.map Dr.d)]) (λ_ δ=>∃a b c d:Option Sl,δ=[some (.sh (bQ rows)),some (.sh (.int acts)),some (.sh (.bl t)),a,b,c,d]) rows.zipIdx [] [some (.sh (bQ rows)),some (.sh (.int acts)),some (.sh (.bl t)),none,none,none,none] step ⟨_,_,_,_,rfl⟩
 unfold bQ at e1
 walk_at "ev: e1"
def lV(q:Dr->D)(rows:List (List Dr)):D:=.lst (rows.map λr=>.lst (r.map q))
theorem F_rowsQ{q:Dr->D}(hQ:∀(x:Dr) (many:Nat) (t:Bool),x.ok many t->bU [q x,.int many,.bl t]=.ok (.bl true))(many acts:Nat)(t:Bool)(rows:List (List Dr))(R:Rows many acts t rows)(h1:1<=many)(h2:many<=2000)(h3:acts<=8):cI [lV q rows,.int acts,.bl t]=.ok .non:=by
 unfold cI jy lV
 have hn:=R.n
 have a1:(1:Int)<=(rows.length:Int):=by omega
 have a2:(rows.length:Int)<=2000:=by omega
 walk_at "ev: cM mU List.length_map a1 a2 enum gY jb"
 have step:∀(p:List Dr×Nat)(done:List (List Dr×Nat))(δ:DSt),(∃a b c d:Option Sl,δ=[some (.sh (lV q rows)),some (.sh (.int acts)),some (.sh (.bl t)),a,b,c,d])->p∈rows.zipIdx ->
   ∃δ1,gT 2 (bj (gN 3) (bj (gN 4) dZ)) (D.tup [.int p.2,.lst (p.1.map q)]) δ=some δ1/\nxP (d7 δ1) λδ=>∃a b c d:Option Sl,δ=[some (.sh (lV q rows)),some (.sh (.int acts)),some (.sh (.bl t)),a,b,c,d]:=by
  rintro⟨r,i⟩ done δ ⟨a,b,c,d,rfl⟩ hp
  refine⟨_,rfl,?_⟩
  have hr:=R.row r (List.fst_mem_of_mem_zipIdx hp)
  have hl:(r.length:Int)=(acts:Int):=by rw[hr.1]
  have step2:∀(p:Dr×Nat)(done:List (Dr×Nat))(δ:DSt),(∃a b:Option Sl,δ=[some (.sh (lV q rows)),some (.sh (.int acts)),some (.sh (.bl t)),some (.sh (.int i)),some (.sh (.lst (r.map q))),a,b])->p∈r.zipIdx ->
    ∃δ1,gT 2 (bj (gN 5) (bj (gN 6) dZ)) (D.tup [.int p.2,(q p.1)]) δ=some δ1/\nxP (d9 δ1) λδ=>∃a b:Option Sl,δ=[some (.sh (lV q rows)),some (.sh (.int acts)),some (.sh (.bl t)),some (.sh (.int i)),some (.sh (.lst (r.map q))),a,b]:=by
   rintro⟨x,j⟩ done δ ⟨a,b,rfl⟩ hq
   refine⟨_,rfl,?_⟩
   have e:=hQ x many t (hr.2 x (List.fst_mem_of_mem_zipIdx hq))
   unfold d9
   unfold lV
   walk_at "ev: List.length_map hn e"
   exact⟨_,_,rfl⟩
  obtain⟨δ',e1,i1⟩:=wA (λp:Dr×Nat=>D.tup [.int p.2,(q p.1)]) (λ_ δ=>∃a b:Option Sl,δ=[some (.sh (lV q rows)),some (.sh (.int acts)),some (.sh (.bl t)),some (.sh (.int i)),some (.sh (.lst (r.map q))),a,b]) r.zipIdx [] [some (.sh (lV q rows)),some (.sh (.int acts)),some (.sh (.bl t)),some (.sh (.int i)),some (.sh (.lst (r.map q))),c,d] step2 ⟨_,_,rfl⟩
  unfold d7
  walk_at "ev: cM mU List.length_map hl enum gY jb e1"
  obtain⟨a,b,rfl⟩:=i1
  exact⟨_,_,_,_,rfl⟩
 obtain⟨δ',e1,i1⟩:=wA (λp:List Dr×Nat=>D.tup [.int p.2,.lst (p.1.map q)]) (λ_ δ=>∃a b c d:Option Sl,δ=[some (.sh (lV q rows)),some (.sh (.int acts)),some (.sh (.bl t)),a,b,c,d]) rows.zipIdx [] [some (.sh (lV q rows)),some (.sh (.int acts)),some (.sh (.bl t)),none,none,none,none] step ⟨_,_,_,_,rfl⟩
 unfold lV at e1
 walk_at "ev: e1"
def NameL(l:List Nat):Prop:=1<=l.length/\l.length<=8/\∀c∈l,97<=c/\c<123
theorem F_name(l:List Nat)(h:NameL l):jB [.str (ofL l)]=.ok (.bl true):=by
 unfold jB yq
 have a1:(1:Int)<=(l.length:Int):=by have:=h.1;omega
 have a2:(l.length:Int)<=8:=by have:=h.2.1;omega
 have a3:l.length<=sizeLine:=Nat.le_trans h.2.1 (by decide)
 have e:=iC (cap:=[none]) (fi:=strO (gv 0)) (fe:=rP) (δ:=[some (.sh (.str (ofL l)))]) (λc=>D.str (ofL [c])) (λ_=>D.bl true) l rfl (by have:=h.2.1;omega) (λc hc=>by
  unfold rP
  have e:=abc_in (h.2.2 c hc).1 (h.2.2 c hc).2
  show bV (o2b inD (gb 0) (kc (.str "abcdefghijklmnopqrstuvwxyz"))) [some (.sh (.str (ofL [c])))]=_
  walk_at "ev: e")
 have e2:=vM (λ_:Nat=>true) l
 walk_at "ev: di mU fL bz a1 a2 a3 e e2"
 simp
def ak(ns:List (List Nat)):List D:=ns.map λl=>.str (ofL l)
structure Names(ns:List (List Nat)):Prop where
 ok:∀l∈ns,NameL l
 lo:1<=ns.length
 hi:ns.length<=8
 nd:ns.Nodup
theorem F_acts(ns:List (List Nat))(N:Names ns):gq [.lst (ak ns)]=.ok .non:=by
 unfold gq jZ cD eN
 have h1:=N.lo
 have h2:=N.hi
 have a1:(1:Int)<=(ns.length:Int):=by omega
 have a2:(ns.length:Int)<=8:=by omega
 have e:=iC (cap:=[none]) (fi:=ik (gv 0)) (fe:=cG) (δ:=[some (.sh (.lst (ak ns)))]) (λl=>D.str (ofL l)) (λ_=>D.bl true) ns rfl (by omega) (λl hl=>by
  unfold cG
  have e:=F_name l (N.ok l hl)
  show oF 1 jB (az (gv 0) aM) [some (.sh (.str (ofL l)))]=_
  walk_at "ev: e")
 have e2:=vM (λ_:List Nat=>true) ns
 have e3:ns.all (λ_=>true)=true:=by simp
 have e4:uX (.lst (ak ns))=some (.int ns.length):=by
  unfold uX
  have q:ak ns=(ns.map ofL).map D.str:=by unfold ak;simp
  simp only[gY,Option.bind_some,q,FP]
  rw[if_pos (by rw[List.length_map];omega),vf _ _ (by
   simp only[List.nil_append]
   exact List.pairwise_map.mpr (N.nd.imp λh q=>h (oN q)))]
  simp
 have e5:(ak ns).length=ns.length:=by simp[ak]
 walk_at "ev: cM mU e5 a1 a2 e e2 e3 e4"
def plan(c:Nat)(ns:List (List Nat))(rows:List (List Dr)):D:=.obj c [("actions",.tup (ak ns)),("rooms",Fz rows)]
theorem F_init(t:Bool)(many:Nat)(ns:List (List Nat))(rows:List (List Dr))(N:Names ns)(R:Rows many ns.length t rows)(h1:1<=many)(h2:many<=60):za t [.lst (ak ns),bQ rows]=.ok [("actions",.tup (ak ns)),("rooms",Fz rows)]:=by
 have e5:(ak ns).length=ns.length:=by simp[ak]
 have e1:=F_acts ns N
 have e2:=F_rows many ns.length t rows R h1 (by omega) N.hi
 have hn:=R.n
 have e3:=iC (cap:=[none]) (fi:=ik (gv 2)) (fe:=eE) (δ:=[none,some (.sh (.lst (ak ns))),some (.sh (bQ rows))]) (λr:List Dr=>D.lst (r.map Dr.d)) (λr=>D.tup (r.map Dr.ob)) rows rfl (by omega) (λr hr=>by
  unfold eE
  have h8:=N.hi
  have e:=Gi r (by rw[(R.row r hr).1];omega)
  show oF 1 cY (az (gv 0) aM) [some (.sh (.lst (r.map Dr.d)))]=_
  walk_at "ev: e")
 unfold za v6 v7 v8 v9
 walk_at "ev: e1 e2 e5 e3 pJ Fz"
theorem F_initQ{q:Dr->D}(hq:∀(x:Dr) (many:Nat) (t:Bool),x.ok many t->bU [q x,.int many,.bl t]=.ok (.bl true))(hm:∀x,cA [q x]=.ok x.ob)(t:Bool)(many:Nat)(ns:List (List Nat))(rows:List (List Dr))(N:Names ns)(R:Rows many ns.length t rows)(h1:1<=many)(h2:many<=60):za t [.lst (ak ns),lV q rows]=.ok [("actions",.tup (ak ns)),("rooms",Fz rows)]:=by
 have e5:(ak ns).length=ns.length:=by simp[ak]
 have e1:=F_acts ns N
 have e2:=F_rowsQ hq many ns.length t rows R h1 (by omega) N.hi
 have hn:=R.n
 have e3:=iC (cap:=[none]) (fi:=ik (gv 2)) (fe:=eE) (δ:=[none,some (.sh (.lst (ak ns))),some (.sh (lV q rows))]) (λr:List Dr=>D.lst (r.map q)) (λr=>D.tup (r.map Dr.ob)) rows rfl (by omega) (λr hr=>by
  unfold eE
  have h8:=N.hi
  have e:=Gj hm r (by rw[(R.row r hr).1];omega)
  show oF 1 cY (az (gv 0) aM) [some (.sh (.lst (r.map q)))]=_
  walk_at "ev: e")
 unfold za v6 v7 v8 v9
 walk_at "ev: e1 e2 e5 e3 pJ Fz"
def Dr.e:Dr->D
 | .shut=>.rot [.str "shut",.non]
 | x=>x.d
theorem F_told_e(x:Dr)(many:Nat)(t:Bool)(h:x.ok many t):bU [x.e,.int many,.bl t]=.ok (.bl true):=by
 cases x with
 | shut =>
  apply ul
  unfold bU gG Dr.e
  have lr:fL (.rot [.str "shut",.non])=some (.int 2):=rfl
  have i0:ixD (.rot [.str "shut",.non]) (.int 0)=some (.str "shut"):=rfl
  have i1:ixD (.rot [.str "shut",.non]) (.int 1)=some .non:=rfl
  walk_at "vc: eO di mU lr i0 i1 q31 q32 q33"
  try rfl
 | must n=>exact lC (.must n) many t h
 | may n=>exact lC (.may n) many t h
 | torn=>exact lC .torn many t h
theorem F_made_e(x:Dr):cA [x.e]=.ok x.ob:=by
 cases x with
 | shut =>
  apply ul
  unfold cA lN Dr.e
  have i0:ixD (.rot [.str "shut",.non]) (.int 0)=some (.str "shut"):=rfl
  have i1:ixD (.rot [.str "shut",.non]) (.int 1)=some .non:=rfl
  walk_at "vc: i0 i1 n3 m3 Ah"
  try rfl
 | must n=>exact Gh (.must n)
 | may n=>exact Gh (.may n)
 | torn=>exact Gh .torn
structure Pl(c many:Nat)(t:Bool)(ns:List (List Nat))(rows:List (List Dr)):Prop where
 c:c=gD∨c=cF
 N:Names ns
 R:Rows many ns.length t rows
 lo:1<=many
 hi:many<=60
section
variable{c many:Nat}{t:Bool}{ns:List (List Nat)}{rows:List (List Dr)}{δ:DSt}{fo:DSt->Out D}
end
theorem uc{α:Type}(n:Nat)(f:α->D):∀xs:List α,(∀x∈xs,dw n (f x)=true)->j4 n (xs.map f)=true
 | [],_=>by simp[j4]
 | x::xs,h=>by
  rw[List.map_cons]
  simp only[j4,Bool.and_eq_true]
  exact⟨h x List.mem_cons_self,uc n f xs λy hy=>h y (List.mem_cons_of_mem _ hy)⟩
theorem lay_d(x:Dr)(n:Nat):dw (n+1) x.d=true:=by
 cases x <;> simp[Dr.d,Dr.w,Dr.to,dw,j4,ok_must,ok_may,Qg,ok_torn]
theorem lay_rows(rows:List (List Dr)):dw 50 (bQ rows)=true:=by
 show j4 49 _=true
 exact uc 49 _ _ λr _=>by
  show j4 48 _=true
  exact uc 48 _ _ λx _=>lay_d x 47
theorem gJ(x:Int){m:Nat}(h:1<=m):∃n:Nat,x % (m:Int)=(n:Int)/\n<m:=by
 have h1:=Int.emod_nonneg x (show (m:Int)≠0 by omega)
 have h2:=Int.emod_lt_of_pos x (show (0:Int)<m by omega)
 exact⟨(x % (m:Int)).toNat,by omega,by omega⟩
theorem ixN_nat{n j:Nat}(h:j<n):ixN n (j:Int)=some j:=by
 unfold ixN
 rw[if_pos (by omega),if_pos (by omega)]
 simp
theorem run_rt{A B:DSt->Out Fl}{δ:DSt}{d:D}(h:A δ=.ok (.rt d)):((aX A B δ).bind v4).bf=.ok d:=by
 unfold aX
 rw[h]
 rfl
theorem sIf_t{t:DSt->Out Bool}{A B:DSt->Out Fl}{δ:DSt}(h:t δ=.ok true):sIf t A B δ=A δ:=by
 unfold sIf
 rw[h]
 rfl
theorem sRet_ok{f:DSt->Out D}{δ:DSt}{d:D}(h:f δ=.ok d):bF f δ=.ok (.rt d):=by
 unfold bF
 rw[h]
 rfl
theorem nodup_range{f:Nat->List Nat}{n:Nat}(h:∀i j,i<j->j<n->f i≠f j):((List.range n).map f).Nodup:=by
 refine List.pairwise_map.mpr (List.Pairwise.imp_of_mem (fun{a b} ha hb hab=>h a b hab (List.mem_range.mp hb)) List.pairwise_lt_range)
section
variable{many acts:Nat}{rows:List (List Dr)}
end
theorem add_str{a b:List Nat}(h:a.length+b.length<=100):bw (.str (ofL a)) (.str (ofL b))=some (.str (ofL (a++b))):=by
 show (if (ofL a).length+(ofL b).length<=sizeLine then some (D.str (ofL a++ofL b)) else none)=_
 rw[bz,bz,if_pos (Nat.le_trans h (by decide)),oK]
theorem o2_ok{g:D->D->Option D}{fa fb:DSt->Out D}{δ:DSt}{x y z:D}(h1:fa δ=.ok x)(h2:fb δ=.ok y)(e:g x y=some z):o2 g fa fb δ=.ok z:=by
 unfold o2
 rw[h1,Out.dJ,h2,Out.dJ,e]
 rfl
theorem o1_ok{g:D->Option D}{fa:DSt->Out D}{δ:DSt}{x z:D}(h1:fa δ=.ok x)(e:g x=some z):o1 g fa δ=.ok z:=by
 unfold o1
 rw[h1,Out.dJ,e]
 rfl
theorem o2b_ok{g:D->D->Option Bool}{fa fb:DSt->Out D}{δ:DSt}{x y:D}{z:Bool}(h1:fa δ=.ok x)(h2:fb δ=.ok y)(e:g x y=some z):o2b g fa fb δ=.ok z:=by
 unfold o2b
 rw[h1,Out.dJ,h2,Out.dJ,e]
 rfl
def Lz(f:List (List Dr)):List D:=f.map λr=>D.lst (r.map Dr.d)
theorem sIf_ok{t:DSt->Out Bool}{A:DSt->Out Fl}{δ:DSt}{b:Bool}(h:t δ=.ok b):sIf t A cR δ=if b=true then A δ else .ok (.nx δ):=by
 unfold sIf
 rw[h,Out.dJ]
 rfl
theorem add_ok{fa fb:DSt->Out D}{δ:DSt}{i j:Int}(h1:fa δ=.ok (.int i))(h2:fb δ=.ok (.int j)):o2 bw fa fb δ=.ok (.int (i+j)):=o2_ok h1 h2 rfl
theorem mul_ok{fa fb:DSt->Out D}{δ:DSt}{i j:Int}(h1:fa δ=.ok (.int i))(h2:fb δ=.ok (.int j))(h:jg i j):o2 mD fa fb δ=.ok (.int (i*j)):=o2_ok h1 h2 (dM h)
theorem lt_ok{fa fb:DSt->Out D}{δ:DSt}{i j:Int}(h1:fa δ=.ok (.int i))(h2:fb δ=.ok (.int j)):o2b ltD fa fb δ=.ok (decide (i<j)):=o2b_ok h1 h2 rfl
theorem run_t{t:DSt->Out Bool}{A B:DSt->Out Fl}{δ:DSt}{d:D}(h:t δ=.ok true)(h2:A δ=.ok (.rt d)):((aX (sIf t A cR) B δ).bind v4).bf=.ok d:=run_rt (by rw[sIf_t h,h2])
theorem run_f{t:DSt->Out Bool}{A B:DSt->Out Fl}{δ:DSt}{r:Out D}(h:t δ=.ok false)(h2:((B δ).bind v4).bf=r):((aX (sIf t A cR) B δ).bind v4).bf=r:=run_seq (δ':=δ) (by rw[sIf_ok h];rfl) h2
theorem PB(xs:List D)(h:dw 50 (.lst xs)=true):eqD (.lst xs) (.lst [])=some xs.isEmpty:=by
 cases xs with
 | nil=>exact Km h
 | cons x l =>
  rw[v5 h (by simp[dw,j4])]
  have e:eqB (.lst (x::l)) (.lst [])=false:=by
   have q:∃p ps,toPy (.lst (x::l))=some (.list (p::ps)):=by
    obtain⟨p,e,_,_⟩:=wK (.lst (x::l)) 50 h
    have e':=e
    simp only[toPy,toPyL] at e'
    split at e'
    .cases e'
     exact⟨_,_,e⟩
    .cases e'
   obtain⟨p,ps,q⟩:=q
   unfold eqB
   rw[q]
   show PyData.eqv (.list (p::ps)) (.list [])=false
   simp[PyData.eqv,PyData.eqvAll]
  rw[e]
  rfl
theorem Ka{α:Type}(g:α->D)(xs:List α)(a:Nat):vU (xs.map g) none (some (a:Int))=(xs.take a).map g:=by
 unfold vU
 rw[List.length_map,HT.Qn,HT.LK,Nat.sub_zero,List.drop_zero,←List.map_take]
 congr 1
 rw[Nat.min_comm,←List.take_take,List.take_of_length_le (by rw[List.length_take];omega)]
theorem Aw{α:Type}(g:α->D)(xs:List α)(b:Nat):vU (xs.map g) (some (b:Int)) none=(xs.drop b).map g:=by
 unfold vU
 rw[List.length_map,HT.Qn,HT.LK,←List.map_drop,←List.map_take]
 congr 1
 by_cases h:b<=xs.length
 .rw[Nat.min_eq_left h,List.take_of_length_le (by rw[List.length_drop];omega)]
 .rw[Nat.min_eq_right (by omega),List.drop_of_length_le (Nat.le_refl _),List.drop_of_length_le (by omega)]
  simp
theorem cd(x:Int){j:Int}(h:0<j)(h2:j<1073741824):CDiv x j:=⟨h,h2⟩
end K9
namespace K9
open PySem L2 MX DL
def jz(c k:Int):Int :=
 let n:=(c % 2147483647*48271+k*7919+104729) % 2147483647
 let n:=(n*n % 2147483629*16807+k*104729+11) % 2147483587
 n*n % 2147483549
theorem cU(c k:Int)(h0:0<=k)(h1:k<=1000000):aR [.int c,.int k]=.ok (.int (jz c k)):=by
 unfold aR nZ
 have m1:∀a b:Int,jg (a % 2147483647) b:=λa b=>modb a b (by decide) (by decide)
 have m2:∀a b:Int,jg (a % 2147483629) b:=λa b=>modb a b (by decide) (by decide)
 have m3:∀a b:Int,jg (a % 2147483587) b:=λa b=>modb a b (by decide) (by decide)
 have mk:∀b:Int,jg k b:=λb=>vR (by omega) (by omega)
 walk_at "ev: m1 m2 m3 mk"
 rfl
theorem Ag(ns:List Int)(k:Nat)(hk:k<=1000):∃c:Int,bB [.rol (ns.map .int),.int k]=.ok (.int c):=by
 show ∃c:Int,((gF [some (.sh (.rol (ns.map .int))),some (.sh (.int k))]).bind v4).bf=.ok (.int c)
 unfold gF
 have ln:o1 fL (gb 0) [some (.sh (.rol (ns.map .int))),some (.sh (.int k))]=.ok (.int (ns.length:Nat)):=by
  rw[o1_ok (x:=.rol (ns.map .int)) (z:=.int ((ns.map D.int).length:Nat)) rfl rfl,List.length_map]
 have t:o2b ltD (gb 1) (o1 fL (gb 0)) [some (.sh (.rol (ns.map .int))),some (.sh (.int k))]=.ok (decide ((k:Int)<(ns.length:Int))):=lt_ok rfl ln
 by_cases h:k<ns.length
 .rw[decide_eq_true (by omega)] at t
  exact⟨ns[k],run_t t (sRet_ok (o2_ok (x:=.rol (ns.map .int)) (y:=.int (k:Nat)) rfl rfl (by rw[K3,gC (by rw[List.getElem?_map,List.getElem?_eq_getElem h];rfl)])))⟩
 .rw[decide_eq_false (by omega)] at t
  exact⟨(k:Int)*k+7,run_f t (run_ret (add_ok (mul_ok rfl rfl (vR (by omega) (by omega))) rfl))⟩
def numN(cell:Int)(at' k j:Nat):Int:=jz cell (4+(j:Int))+3*(k:Int)*(if ((j:Int)==(at':Int))=true then 1 else 0)
def chN(cell:Int)(at' k j:Nat):Nat:=97+(numN cell at' k j % 26).toNat
def nmN(cell:Int)(sz at' k:Nat):List Nat:=(List.range sz).map (chN cell at' k)
theorem names_ok{cell:Int}{sz at' many:Nat}(hz1:1<=sz)(hz:sz<=8)(ha:at'<sz)(h1:1<=many)(h2:many<=8):Names ((List.range many).map (nmN cell sz at')):=by
 refine⟨λl hl=>?_,by simpa using h1,by simpa using h2,nodup_range λi j ij hj e=>?_⟩
 .obtain⟨k,_,rfl⟩:=List.mem_map.mp hl
  refine⟨by simp[nmN];omega,by simp[nmN];omega,λc hc=>?_⟩
  obtain⟨j,_,rfl⟩:=List.mem_map.mp hc
  unfold chN
  have n0:0<=numN cell at' k j % 26:=Int.emod_nonneg _ (by decide)
  have n1:numN cell at' k j % 26<26:=Int.emod_lt_of_pos _ (by decide)
  omega
 .have e1:=congrArg (λl=>l[at']?) e
  simp only[nmN,List.getElem?_map,List.getElem?_range ha,Option.map_some,Option.some.injEq] at e1
  unfold chN at e1
  have n0:0<=numN cell at' i at' % 26:=Int.emod_nonneg _ (by decide)
  have n1:0<=numN cell at' j at' % 26:=Int.emod_nonneg _ (by decide)
  have q:numN cell at' i at' % 26=numN cell at' j at' % 26:=by omega
  unfold numN at q
  simp only[beq_self_eq_true,if_true,Int.mul_one] at q
  generalize jz cell (4+(at':Int))=y at q
  omega
theorem ix_of{l:List Nat}{i c:Nat}(hl:l.length<=1000)(h:l[i]?=some c):ixD (.str (ofL l)) (.int (i:Nat))=some (.str (ofL [c])):=by
 show (if (ofL l).length<=sizeLine then (atI (ofL l).cps.toList (i:Nat)).map λc=>D.str ⟨#[c]⟩ else none)=_
 rw[bz,if_pos (Nat.le_trans hl (by decide)),toL_of,gC h]
 rfl
def sgn(i:Nat):Nat:=if i<26 then 97+i else 22+i
theorem sgs:Str.ofString "abcdefghijklmnopqrstuvwxyz0123456789"=ofL ((List.range 36).map sgn):=by decide +kernel
theorem sg_at{i:Int}(h0:0<=i)(h1:i<36):ixD (.str "abcdefghijklmnopqrstuvwxyz0123456789") (.int i)=some (.str (ofL [sgn i.toNat])):=by
 obtain⟨k,rfl⟩:=Int.eq_ofNat_of_zero_le h0
 rw[sgs,ix_of (c:=sgn k) (by simp) (by rw[List.getElem?_map,List.getElem?_range (by omega)];rfl)]
 rfl
def fix8:List (List Nat):=[[109,97,121],[109,117,115,116],[97,99,116,105,111,110,115],[116,111],[114],[120],[121],[122]]
theorem fix8_eq:[D.str "may",.str "must",.str "actions",.str "to",.str "r",.str "x",.str "y",.str "z"]=ak fix8:=by
 have a1:Str.ofString "may"=ofL [109,97,121]:=by decide +kernel
 have a2:Str.ofString "must"=ofL [109,117,115,116]:=by decide +kernel
 have a3:Str.ofString "actions"=ofL [97,99,116,105,111,110,115]:=by decide +kernel
 have a4:Str.ofString "to"=ofL [116,111]:=by decide +kernel
 have a5:Str.ofString "r"=ofL [114]:=by decide +kernel
 have a6:Str.ofString "x"=ofL [120]:=by decide +kernel
 have a7:Str.ofString "y"=ofL [121]:=by decide +kernel
 have a8:Str.ofString "z"=ofL [122]:=by decide +kernel
 rw[a1,a2,a3,a4,a5,a6,a7,a8]
 rfl
theorem fix8_ok:∀l∈fix8,NameL l:=by unfold NameL;decide
theorem CK(ns:List (List Nat))(k:Nat):vU (ak ns) none (some (k:Nat))=ak (ns.take k):=Ka _ _ _
theorem Qx(cell:Int)(many:Nat)(h1:1<=many)(h2:many<=8):∃ns,dR [.int cell,.int many]=.ok (.lst (ak ns))/\Names ns/\ns.length=many:=by
 have m1:=cU cell 1 (by decide) (by decide)
 have ma:=cU cell 2 (by decide) (by decide)
 have mb:=cU cell 3 (by decide) (by decide)
 obtain⟨s,es,hs⟩:=gJ (jz cell 2) (m:=8) (by decide)
 simp only[Int.cast_ofNat_Int] at es
 obtain⟨a,ea,haa⟩:=gJ (jz cell 3) (m:=1+s) (by omega)
 have cs:(1:Int)+(s:Int)=((1+s:Nat):Int):=by omega
 have c0:(0:Int)<((1+s:Nat):Int):=by omega
 have r1:=λPL=>rg_n (PL:=PL) (n:=many) (by omega)
 have r2:=λPL=>rg_n (PL:=PL) (n:=1+s) (by omega)
 suffices h:∃d,dR [.int cell,.int many]=.ok d/\∃ns,d=.lst (ak ns)/\Names ns/\ns.length=many by
  obtain⟨_,e,ns,rfl,h⟩:=h
  exact⟨ns,e,h⟩
 refine yP ?_
 unfold dR jX
 (have zv0:=λi=>lQ (i:=i) (c0);walk_at "vc: m1 ma es cs mb zv0 ea r1 fix8_eq CK")
 split
 .have hl:fix8.length=8:=rfl
  refine⟨_,rfl,⟨λl hl=>fix8_ok l (List.mem_of_mem_take hl),?_,?_,(by decide:fix8.Nodup).sublist (List.take_sublist ..)⟩,?_⟩ <;> rw[List.length_take,hl] <;> omega
 generalize 1+s=sz at *
 refine jP (λk:Nat=>D.int (k:Nat)) (λdone δ=>∃x5 x6 x7,δ=[some (.sh (.int cell)),some (.sh (.int many)),some (.sh (.int (sz:Nat))),some (.sh (.int a)),some (.ol (ak (done.map (nmN cell sz a)))),x5,x6,x7]) (List.range many) ⟨_,_,_,rfl⟩ ?_ ?_
 .rintro k done rest δ e ⟨x5,x6,x7,rfl⟩
  have hk:k<many:=List.mem_range.mp (by rw[e];simp)
  have l0:=congrArg List.length e
  simp at l0
  have e0:Str.ofString ""=ofL []:=by decide +kernel
  unfold mV
  walk_at "vc: e0 r2"
  refine jP (λj:Nat=>D.int (j:Nat)) (λdn δ=>∃y7,δ=[some (.sh (.int cell)),some (.sh (.int many)),some (.sh (.int (sz:Nat))),some (.sh (.int a)),some (.ol (ak (done.map (nmN cell sz a)))),some (.sh (.int (k:Nat))),some (.sh (.str (ofL (dn.map (chN cell a k))))),y7]) (List.range sz) ⟨_,rfl⟩ ?_ ?_
  .rintro j dn rs δ e ⟨y7,rfl⟩
   have hj:j<sz:=List.mem_range.mp (by rw[e];simp)
   have l1:=congrArg List.length e
   simp at l1
   have m:=cU cell (4+(j:Int)) (by omega) (by omega)
   have c1:jg (3*(k:Int)) (if ((j:Int)==(a:Int))=true then 1 else 0):=vR (by omega) (by omega)
   have c3:jg 3 (k:Nat):=.inl ⟨by decide,by decide⟩
   have ab:ixD (.str "abcdefghijklmnopqrstuvwxyz") (.int (numN cell a k j % 26))=some (.str (ofL [chN cell a k j])):=abc_at (Int.emod_nonneg _ (by decide)) (Int.emod_lt_of_pos _ (by decide))
   unfold numN at ab
   have sm:=add_str (a:=dn.map (chN cell a k)) (b:=[chN cell a k j]) (by simp;omega)
   unfold mW
   (have zv0:=dM c3;have zv1:=dM c1;walk_at "vc: m zv0 zv1 ab sm")
   exact⟨_,by rw[List.map_append];rfl⟩
  .rintro δ ⟨y7,rfl⟩
   have l9:(ak (done.map (nmN cell sz a))).length<16777216:=by unfold ak;simp;omega
   walk_at "vc: l9"
   exact⟨_,_,_,by unfold ak;rw[List.map_append,List.map_append];rfl⟩
 .rintro δ ⟨x5,x6,x7,rfl⟩
  walk_at "vc"
  exact⟨_,rfl,names_ok (cell:=cell) (sz:=sz) (at':=a) (by omega) (by omega) haa h1 h2,by simp⟩
theorem F_many(cell:Int):∃n:Nat,iR [.int cell]=.ok (.int n)/\1<=n/\n<=48:=by
 have m:=cU cell 25 (by decide) (by decide)
 generalize jz cell 25=n at m
 obtain⟨u,eu,hu⟩:=gJ (n / 8) (m:=40) (by decide)
 obtain⟨v,ev,hv⟩:=gJ (n / 8) (m:=8) (by decide)
 simp only[Int.cast_ofNat_Int] at eu ev
 have d8:CDiv n 8:=cd n (by decide) (by decide)
 suffices h:∃d,iR [.int cell]=.ok d/\∃n:Nat,d=.int n/\1<=n/\n<=48 by
  obtain⟨_,e,n,rfl,h⟩:=h
  exact⟨n,e,h⟩
 refine yP ?_
 unfold iR qW
 (have zv0:=mR d8;walk_at "vc: m zv0 eu ev")
 split
 .exact⟨9+u,by rw[Int.natCast_add];rfl,by omega,by omega⟩
 .exact⟨1+v,by rw[Int.natCast_add];rfl,by omega,by omega⟩
end K9
namespace K9
open PySem L2 MX DL
def dg(n:Nat):List Nat:=[48+n / 100,48+n / 10 % 10,48+n % 10]
theorem str_dg:∀k:Fin 797,Str.ofString (toString ((100+k.val:Nat):Int))=ofL (dg (100+k.val)):=by decide +kernel
theorem strD_n{n:Nat}(h1:n<797):strD (.int ((100+n:Nat):Int))=some (.str (ofL (dg (100+n)))):=by
 have:=str_dg ⟨n,h1⟩
 unfold strD
 dsimp only
 rw[if_pos (by have:=Nat.log2_le_self (100+n);show Nat.log2 (100+n)<1920;omega)]
 show some (D.str (Str.ofString (toString ((100+n:Nat):Int))))=_
 rw[this]
theorem dg_inj{n m:Nat}(h:dg n=dg m)(hn:n<1000)(hm:m<1000):n=m:=by
 unfold dg at h
 simp only[List.cons.injEq,and_true] at h
 omega
def sgR(c:Nat):Prop:=(97<=c/\c<123)∨(48<=c/\c<58)
def En(l:List Nat):Prop:=l.length<=8/\(∃c r,l=c::r/\97<=c/\c<123)/\∀c∈l,sgR c
structure nG(rs:List (List Nat))(many:Nat):Prop where
 n:rs.length=many
 ok:∀l∈rs,En l
 nd:rs.Nodup
theorem dg_ok{n c:Nat}(h:n<1000)(hc:c∈dg n):sgR c:=by
 unfold dg at hc
 simp only[List.mem_cons,List.not_mem_nil,or_false] at hc
 unfold sgR
 omega
theorem rn_dg{f n:Nat}(h:n<1000)(h1:97<=f)(h2:f<123):En (f::dg n):=by
 refine⟨by simp[dg],⟨f,_,rfl,h1,h2⟩,λc hc=>?_⟩
 rcases List.mem_cons.mp hc with rfl | hc
 .exact .inl ⟨h1,h2⟩
 .exact dg_ok h hc
def fix3:List (List Nat):=[[109,117,115,116],[109,97,121],[97,99,116,105,111,110,115]]
theorem fix3_eq:[D.str "must",.str "may",.str "actions"]=ak fix3:=by
 have a1:Str.ofString "may"=ofL [109,97,121]:=by decide +kernel
 have a2:Str.ofString "must"=ofL [109,117,115,116]:=by decide +kernel
 have a3:Str.ofString "actions"=ofL [97,99,116,105,111,110,115]:=by decide +kernel
 rw[a1,a2,a3]
 rfl
def rsA(many:Nat):List (List Nat):=fix3.take many++(List.range' 3 (many - 3)).map λk=>114::dg (100+13*k % 797)
theorem rsA_ok{many:Nat}(h:many<=48):nG (rsA many) many:=by
 refine⟨by simp[rsA,fix3];omega,λl hl=>?_,?_⟩
 .rcases List.mem_append.mp hl with h1 | h1
  .have h2:=List.mem_of_mem_take h1
   simp only[fix3,List.mem_cons,List.not_mem_nil,or_false] at h2
   rcases h2 with rfl | rfl | rfl <;> exact⟨by decide,⟨_,_,rfl,by decide,by decide⟩,by unfold sgR;decide⟩
  .obtain⟨k,_,rfl⟩:=List.mem_map.mp h1
   exact rn_dg (by omega) (by decide) (by decide)
 .unfold rsA
  rw[List.nodup_append]
  refine⟨(by decide:fix3.Nodup).sublist (List.take_sublist ..),?_,λa ha b hb e=>?_⟩
  .rw[List.Nodup,List.pairwise_map]
   refine List.Pairwise.imp_of_mem ?_ (List.nodup_range' ..)
   intro i j hi hj ij e
   simp only[List.cons.injEq,true_and] at e
   have:=dg_inj e (by omega) (by omega)
   have h1:=List.mem_range'.mp hi
   have h2:=List.mem_range'.mp hj
   omega
  .subst e
   have h2:=List.mem_of_mem_take ha
   obtain⟨k,_,e⟩:=List.mem_map.mp hb
   simp only[fix3,List.mem_cons,List.not_mem_nil,or_false] at h2
   rcases h2 with rfl | rfl | rfl <;> simp[dg] at e
def rs2(f:Nat)(m:Int)(many:Nat):List (List Nat):=(List.range many).map λk:Nat=>f::dg (100+((13*(k:Int)+m) % 797).toNat)
theorem rs2_ok{f many:Nat}{m:Int}(h:many<=48)(h1:97<=f)(h2:f<123):nG (rs2 f m many) many:=by
 refine⟨by simp[rs2],λl hl=>?_,?_⟩
 .obtain⟨k,_,rfl⟩:=List.mem_map.mp hl
  exact rn_dg (by omega) h1 h2
 .refine nodup_range λi j ij hj e=>?_
  simp only[List.cons.injEq,true_and] at e
  have:=dg_inj e (by omega) (by omega)
  omega
def nuR(cell:Int)(a k j:Nat):Int:=jz cell (18+(j:Int))+4*(k:Int)*(if ((j:Int)==(a:Int))=true then 1 else 0)
def nu0(cell:Int)(a k:Nat):Int:=jz cell 17+3*(k:Int)*(if ((a:Int)==0)=true then 1 else 0)
def chR(cell:Int)(a k:Nat):Nat->Nat
 | 0=>sgn (nu0 cell a k % 26).toNat
 | j=>sgn (nuR cell a k j % 36).toNat
def rs3(cell:Int)(sz a many:Nat):List (List Nat):=(List.range many).map λk=>(List.range sz).map (chR cell a k)
theorem sgn_ok{i:Nat}(h:i<36):sgR (sgn i):=by unfold sgR sgn;split <;> omega
theorem Qo{i j:Nat}(hi:i<36)(hj:j<36)(h:sgn i=sgn j):i=j:=by unfold sgn at h;split at h <;> split at h <;> omega
theorem chR_ok(cell:Int)(a k j:Nat):sgR (chR cell a k j):=by
 cases j with
 | zero=>exact sgn_ok (by have:=Int.emod_nonneg (nu0 cell a k) (show (26:Int)≠0 by decide);have:=Int.emod_lt_of_pos (nu0 cell a k) (show (0:Int)<26 by decide);omega)
 | succ j=>exact sgn_ok (by have:=Int.emod_nonneg (nuR cell a k (j+1)) (show (36:Int)≠0 by decide);have:=Int.emod_lt_of_pos (nuR cell a k (j+1)) (show (0:Int)<36 by decide);omega)
theorem rs3_ok{cell:Int}{sz a many:Nat}(hm:many<=8)(h1:1<=sz)(h8:sz<=8)(ha:a<sz):nG (rs3 cell sz a many) many:=by
 refine⟨by simp[rs3],λl hl=>?_,nodup_range λi j ij hj e=>?_⟩
 .obtain⟨k,_,rfl⟩:=List.mem_map.mp hl
  refine⟨by simp;omega,?_,λc hc=>?_⟩
  .obtain⟨n,rfl⟩:∃n,sz=n+1:=⟨sz - 1,by omega⟩
   rw[List.range_succ_eq_map,List.map_cons]
   have:=Int.emod_nonneg (nu0 cell a k) (show (26:Int)≠0 by decide)
   have:=Int.emod_lt_of_pos (nu0 cell a k) (show (0:Int)<26 by decide)
   have e0:chR cell a k 0=97+(nu0 cell a k % 26).toNat:=by
    show sgn _=_
    unfold sgn
    rw[if_pos (by omega)]
   exact⟨_,_,rfl,by omega,by omega⟩
  .obtain⟨j,_,rfl⟩:=List.mem_map.mp hc
   exact chR_ok cell a k j
 .have e1:=congrArg (λl=>l[a]?) e
  simp only[List.getElem?_map,List.getElem?_range ha,Option.map_some,Option.some.injEq] at e1
  cases a with
  | zero =>
   have n0:=Int.emod_nonneg (nu0 cell 0 i) (show (26:Int)≠0 by decide)
   have n1:=Int.emod_lt_of_pos (nu0 cell 0 i) (show (0:Int)<26 by decide)
   have n2:=Int.emod_nonneg (nu0 cell 0 j) (show (26:Int)≠0 by decide)
   have n3:=Int.emod_lt_of_pos (nu0 cell 0 j) (show (0:Int)<26 by decide)
   have q:=Qo (by omega) (by omega) e1
   unfold nu0 at q n0 n2
   simp only[Int.natCast_zero,beq_self_eq_true,if_true,Int.mul_one] at q n0 n2
   generalize jz cell 17=y at q n0 n2
   omega
  | succ a =>
   have n0:=Int.emod_nonneg (nuR cell (a+1) i (a+1)) (show (36:Int)≠0 by decide)
   have n1:=Int.emod_lt_of_pos (nuR cell (a+1) i (a+1)) (show (0:Int)<36 by decide)
   have n2:=Int.emod_nonneg (nuR cell (a+1) j (a+1)) (show (36:Int)≠0 by decide)
   have n3:=Int.emod_lt_of_pos (nuR cell (a+1) j (a+1)) (show (0:Int)<36 by decide)
   have q:=Qo (by omega) (by omega) e1
   unfold nuR at q n0 n2
   simp only[beq_self_eq_true,if_true,Int.mul_one] at q n0 n2
   generalize jz cell (18+((a+1:Nat):Int))=y at q n0 n2
   omega
end K9
namespace K9
open PySem L2 MX DL
theorem io{p q A B:Prop}[Decidable p][Decidable q](h1:p∨q->A)(h2:¬p->¬q->B):if p then A else if q then A else B:=by
 by_cases hp:p
 .rw[if_pos hp];exact h1 (.inl hp)
 .rw[if_neg hp]
  by_cases hq:q
  .rw[if_pos hq];exact h1 (.inr hq)
  .rw[if_neg hq];exact h2 hp hq
theorem F_rooms(cell:Int)(many:Nat)(h1:1<=many)(h2:many<=48):∃rs,gm [.int cell,.int many]=.ok (.lst (ak rs))/\nG rs many:=by
 have m12:=cU cell 12 (by decide) (by decide)
 have m13:=cU cell 13 (by decide) (by decide)
 have m14:=cU cell 14 (by decide) (by decide)
 have m15:=cU cell 15 (by decide) (by decide)
 have m16:=cU cell 16 (by decide) (by decide)
 have m17:=cU cell 17 (by decide) (by decide)
 obtain⟨f,ef,hf⟩:=gJ (jz cell 12) (m:=26) (by decide)
 obtain⟨s,es,hs⟩:=gJ (jz cell 15) (m:=8) (by decide)
 simp only[Int.cast_ofNat_Int] at es ef
 obtain⟨a,ea,haa⟩:=gJ (jz cell 16) (m:=1+s) (by omega)
 have cs:(1:Int)+(s:Int)=((1+s:Nat):Int):=by omega
 have c0:(0:Int)<((1+s:Nat):Int):=by omega
 have r1:=λPL=>rg_n (PL:=PL) (n:=many) (by omega)
 have r3:∀PL,rg2P (.int 3) (.int (many:Nat)) PL↔_:=λPL=>rg2_n (PL:=PL) (a:=3) (b:=many) (by decide) (by omega)
 have r2:∀PL,rg2P (.int 1) (.int ((1+s:Nat):Int)) PL↔_:=λPL=>rg2_n (PL:=PL) (a:=1) (b:=1+s) (by decide) (by omega)
 have f1:ixD (.str "abcdefghijklmnopqrstuvwxyz0123456789") (.int (f:Nat))=some (.str (ofL [97+f])):=by
  rw[sg_at (by omega) (by omega)]
  show some (D.str (ofL [sgn f]))=_
  unfold sgn
  rw[if_pos (by omega)]
 have er:Str.ofString "r"=ofL [114]:=by decide +kernel
 suffices h:∃d,gm [.int cell,.int many]=.ok d/\∃rs,d=.lst (ak rs)/\nG rs many by
  obtain⟨_,e,rs,rfl,h⟩:=h
  exact⟨rs,e,h⟩
 refine yP ?_
 unfold gm n6
 walk_at "vc: m12 ef f1 m13 fix3_eq CK W_rng2 r3"
 split
 .refine⟨by simp;omega,W_of (mQ (λk:Nat=>D.int (k:Nat)) (λk:Nat=>D.str (ofL (114::dg (100+13*k % 797)))) _ _ λk hk=>?_) ⟨by unfold ak;simp[fix3];omega,rsA many,by unfold rsA ak;rw[List.map_append,List.map_map];rfl,rsA_ok h2⟩⟩
  apply ul
  have ck:jg 13 (k:Nat):=.inl ⟨by decide,by decide⟩
  have ek:(100:Int)+13*(k:Nat) % 797=((100+13*k % 797:Nat):Int):=by omega
  have sd:=strD_n (n:=13*k % 797) (by omega)
  have ad:=add_str (a:=[114]) (b:=dg (100+13*k % 797)) (by simp[dg])
  unfold rO
  (have zv0:=dM ck;walk_at "vc: ye zv0 ek sd er ad")
 refine io (λ_=>?_) λh8 _=>?_
 .rw[r1]
  refine⟨by simp;omega,W_of (mQ (λk:Nat=>D.int (k:Nat)) (λk:Nat=>D.str (ofL ((97+f)::dg (100+((13*(k:Int)+jz cell 14) % 797).toNat)))) _ _ λk hk=>?_) ⟨rs2 (97+f) (jz cell 14) many,by unfold rs2 ak;rw[List.map_map];rfl,rs2_ok h2 (by omega) (by omega)⟩⟩
  apply ul
  have ck:jg 13 (k:Nat):=.inl ⟨by decide,by decide⟩
  have n0:=Int.emod_nonneg (13*(k:Int)+jz cell 14) (show (797:Int)≠0 by decide)
  have n1:=Int.emod_lt_of_pos (13*(k:Int)+jz cell 14) (show (0:Int)<797 by decide)
  have ek:(100:Int)+(13*(k:Nat)+jz cell 14) % 797=((100+((13*(k:Int)+jz cell 14) % 797).toNat:Nat):Int):=by omega
  have sd:=strD_n (n:=((13*(k:Int)+jz cell 14) % 797).toNat) (by omega)
  have ad:=add_str (a:=[97+f]) (b:=dg (100+((13*(k:Int)+jz cell 14) % 797).toNat)) (by simp[dg])
  unfold rQ
  (have zv0:=dM ck;walk_at "vc: ye zv0 m14 ek sd ad")
 (have zv0:=λi=>lQ (i:=i) (c0);walk_at "vc: m15 es cs m16 zv0 ea r1")
 have hm8:many<=8:=by omega
 generalize 1+s=sz at *
 refine jP (λk:Nat=>D.int (k:Nat)) (λdone δ=>∃x7 x8 x9,δ=[some (.sh (.int cell)),some (.sh (.int many)),some (.sh (.str "abcdefghijklmnopqrstuvwxyz0123456789")),some (.sh (.str (ofL [97+f]))),some (.sh (.int (sz:Nat))),some (.sh (.int a)),some (.ol (ak (done.map λk=>(List.range sz).map (chR cell a k)))),x7,x8,x9]) (List.range many) ⟨_,_,_,rfl⟩ ?_ ?_
 .rintro k done rest δ e ⟨x7,x8,x9,rfl⟩
  have hk:k<many:=List.mem_range.mp (by rw[e];simp)
  have l0:=congrArg List.length e
  simp at l0
  have c3:jg 3 (k:Nat):=.inl ⟨by decide,by decide⟩
  have c4:jg 4 (k:Nat):=.inl ⟨by decide,by decide⟩
  have c1:jg (3*(k:Int)) (if ((a:Int)==0)=true then 1 else 0):=vR (by omega) (by omega)
  have g0:ixD (.str "abcdefghijklmnopqrstuvwxyz0123456789") (.int (nu0 cell a k % 26))=some (.str (ofL [chR cell a k 0])):=sg_at (Int.emod_nonneg _ (by decide)) (Int.lt_of_lt_of_le (Int.emod_lt_of_pos _ (by decide)) (by decide))
  unfold nu0 at g0
  unfold rM
  (have zv0:=dM c3;have zv1:=dM c1;walk_at "vc: m17 zv0 zv1 g0 W_rng2 r2")
  refine jP (λj:Nat=>D.int (j:Nat)) (λdn δ=>∃y9,δ=[some (.sh (.int cell)),some (.sh (.int many)),some (.sh (.str "abcdefghijklmnopqrstuvwxyz0123456789")),some (.sh (.str (ofL [97+f]))),some (.sh (.int (sz:Nat))),some (.sh (.int a)),some (.ol (ak (done.map λk=>(List.range sz).map (chR cell a k)))),some (.sh (.int (k:Nat))),some (.sh (.str (ofL ((0::dn).map (chR cell a k))))),y9]) (List.range' 1 (sz - 1)) ⟨_,rfl⟩ ?_ ?_
  .rintro j dn rs δ e ⟨y9,rfl⟩
   have hj:=List.mem_range'.mp (show j∈List.range' 1 (sz - 1) by rw[e];simp)
   have l1:=congrArg List.length e
   simp at l1
   obtain⟨j',rfl⟩:∃j',j=j'+1:=⟨j - 1,by omega⟩
   have m:=cU cell (18+((j'+1:Nat):Int)) (by omega) (by omega)
   have c1:jg (4*(k:Int)) (if (((j'+1:Nat):Int)==(a:Int))=true then 1 else 0):=vR (by omega) (by omega)
   have gj:ixD (.str "abcdefghijklmnopqrstuvwxyz0123456789") (.int (nuR cell a k (j'+1) % 36))=some (.str (ofL [chR cell a k (j'+1)])):=sg_at (Int.emod_nonneg _ (by decide)) (Int.emod_lt_of_pos _ (by decide))
   unfold nuR at gj
   have sm:=add_str (a:=(0::dn).map (chR cell a k)) (b:=[chR cell a k (j'+1)]) (by simp;omega)
   unfold rN
   (have zv0:=dM c4;have zv1:=dM c1;walk_at "vc: m zv0 zv1 gj")
   refine W_of (by rw[←List.map_cons,sm];rfl) ⟨_,by rw[List.map_append];rfl⟩
  .rintro δ ⟨y9,rfl⟩
   have l9:(ak (done.map λk=>(List.range sz).map (chR cell a k))).length<16777216:=by unfold ak;simp;omega
   have er:0::List.range' 1 (sz - 1)=List.range sz:=by
    obtain⟨n,rfl⟩:∃n,sz=n+1:=⟨sz - 1,by omega⟩
    rw[List.range_eq_range',List.range'_succ]
    rfl
   rw[er]
   walk_at "vc: l9"
   exact⟨_,_,_,by unfold ak;rw[List.map_append,List.map_append];rfl⟩
 .rintro δ ⟨x7,x8,x9,rfl⟩
  walk_at "vc"
  exact⟨rs3 cell sz a many,rfl,rs3_ok hm8 (by omega) (by omega) haa⟩
end K9
namespace K9
open PySem L2 MX DL
theorem K6{m acts:Nat}{t:Bool}{rows:List (List Dr)}(R:Rows m acts t rows):fL (bQ rows)=some (.int (m:Nat)):=by unfold bQ;rw[BP,List.length_map,R.n]
theorem PQ{rows:List (List Dr)}{i:Nat}{xs:List Dr}(h:rows[i]?=some xs):ixD (bQ rows) (.int (i:Nat))=some (.lst (xs.map Dr.d)):=by unfold bQ;rw[rE];exact gC (by rw[List.getElem?_map,h];rfl)
theorem ix_row{xs:List Dr}{a:Nat}{x:Dr}(h:xs[a]?=some x):ixD (.lst (xs.map Dr.d)) (.int (a:Nat))=some (.tup [.str x.w,x.to]):=by rw[rE];exact gC (by rw[List.getElem?_map,h];rfl)
theorem three{u:Nat}(h:u<3):u=0∨u=1∨u=2:=by omega
def ROk(rooms many:Nat)(r:List Dr):Prop:=r.length=many/\∀x∈r,x.ok rooms false
theorem F_rowsL(ns:List Int){rooms many:Nat}(hr:1<=rooms)(hr8:rooms<=48)(hm:many<=8):∃rows,iT [.rol (ns.map .int),.int rooms,.int many]=.ok (bQ rows)/\Rows rooms many false rows:=by
 have r1:=λPL=>rg_n (PL:=PL) (n:=rooms) (by omega)
 have r2:=λPL=>rg_n (PL:=PL) (n:=many) (by omega)
 suffices h:∃d,iT [.rol (ns.map .int),.int rooms,.int many]=.ok d/\∃rows,d=bQ rows/\Rows rooms many false rows by
  obtain⟨_,e,rows,rfl,h⟩:=h
  exact⟨rows,e,h⟩
 refine yP ?_
 unfold iT qX
 walk_at "vc: r1"
 refine Nt (ROk rooms many) (λf δ=>∃x4 x5 x6 x7 x8,δ=[some (.sh (.rol (ns.map .int))),some (.sh (.int rooms)),some (.sh (.int many)),some (.ol (Lz f)),x4,x5,x6,x7,x8]) rooms ⟨_,_,_,_,_,rfl⟩ ?_ ?_
 .rintro i f δ hi hf _ ⟨x4,x5,x6,x7,x8,rfl⟩
  unfold uE
  obtain⟨c,ec⟩:=Ag ns (3+i) (by omega)
  rw[Int.natCast_add] at ec
  simp only[Int.cast_ofNat_Int] at ec
  walk_at "vc: ec r2"
  refine Nt (λx:Dr=>x.ok rooms false) (λr δ=>∃y7 y8,δ=[some (.sh (.rol (ns.map .int))),some (.sh (.int rooms)),some (.sh (.int many)),some (.ol (Lz f)),some (.sh (.int i)),some (.sh (.int c)),some (.ol (r.map Dr.d)),y7,y8]) many ⟨_,_,rfl⟩ ?_ ?_
  .rintro a r δ ha hl _ ⟨y7,y8,rfl⟩
   have m:=cU c (30+9*((i:Int) % 7)+(a:Int)) (by omega) (by omega)
   generalize jz c (30+9*((i:Int) % 7)+(a:Int))=n at m
   obtain⟨t,et,ht⟩:=gJ (n / 3) (m:=rooms) hr
   obtain⟨u,eu,hu⟩:=gJ n (m:=3) (by decide)
   simp only[Int.cast_ofNat_Int] at eu
   have cr:(0:Int)<(rooms:Nat):=by omega
   have c9:jg 9 ((i:Int) % 7):=.inl ⟨by decide,by decide⟩
   have cd3:CDiv n 3:=cd n (by decide) (by decide)
   have l9:r.length<16777216:=by omega
   unfold uF
   (have zv0:=dM c9;have zv1:=mR cd3;have zv2:=λi=>lQ (i:=i) (cr);walk_at "vc: zv0 m zv1 zv2 et eu List.length_map")
   rcases three hu with rfl | rfl | rfl
   all_goals simp only[Int.cast_ofNat_Int,Int.natCast_zero,Int.natCast_one]
   .walk_at "vc: l9";exact⟨.must t,ht,_,_,by rw[List.map_append];rfl⟩
   .walk_at "vc: l9";exact⟨.may t,ht,_,_,by rw[List.map_append];rfl⟩
   .walk_at "vc: l9";exact⟨.shut,trivial,_,_,by rw[List.map_append];rfl⟩
  .rintro r δ hl hx ⟨y7,y8,rfl⟩
   have l9:(Lz f).length<16777216:=by unfold Lz;rw[List.length_map];omega
   walk_at "vc: l9"
   exact⟨r,⟨hl,hx⟩,_,_,_,_,_,by unfold Lz;rw[List.map_append];rfl⟩
 .rintro f δ hf hx ⟨x4,x5,x6,x7,x8,rfl⟩
  walk_at "vc"
  exact⟨f,rfl,hf,hx⟩
theorem t_sp:Str.ofString " "=ofL [32]:=by decide +kernel
theorem t_cs:Str.ofString ", "=ofL [44,32]:=by decide +kernel
theorem t_co:Str.ofString ":"=ofL [58]:=by decide +kernel
theorem t_cb:Str.ofString ": "=ofL [58,32]:=by decide +kernel
theorem t_nl:Str.ofString "\n"=ofL [10]:=by decide +kernel
theorem t_ac:Str.ofString "actions"=ofL [97,99,116,105,111,110,115]:=by decide +kernel
theorem t_ab:Str.ofString "actions "=ofL [97,99,116,105,111,110,115,32]:=by decide +kernel
theorem t_mu:Str.ofString "must"=ofL [109,117,115,116]:=by decide +kernel
theorem t_ma:Str.ofString "may"=ofL [109,97,121]:=by decide +kernel
theorem t_em:Str.ofString ""=ofL []:=by decide +kernel
theorem fU{a b:List Nat}(h:a.length+b.length<=16777216):bw (.str (ofL a)) (.str (ofL b))=some (.str (ofL (a++b))):=by
 show (if (ofL a).length+(ofL b).length<=sizeLine then some (D.str (ofL a++ofL b)) else none)=_
 rw[bz,bz,if_pos (by rw[sizeLine_eq];exact h),oK]
theorem vC:∀ts:List (List Nat),m5 (ak ts)=some (ts.map ofL)
 | []=>rfl
 | t::ts=>by
  show (m5 (ak ts)).map _=_
  rw[vC ts]
  rfl
theorem rH{s:List Nat}{ts:List (List Nat)}(h:(ts.map List.length).sum+ts.length*s.length<=16777216):jr (ofL s) (.lst (ak ts))=some (.str (ofL (jn s ts))):=by
 unfold jr
 show (m5 (ak ts)).bind _=_
 rw[vC]
 show (if ((ts.map ofL).map (·.length)).sum+(ts.map ofL).length*(ofL s).length<=16777216 then some (D.str (Txt.join (ofL s) (ts.map ofL))) else none)=_
 rw[if_pos (by rw[List.map_map,List.length_map,bz,show ((λx:Str=>x.length)∘ofL)=List.length from funext bz];exact h),txt_jn]
theorem iu{B:Nat}:∀{ts:List (List Nat)},(∀t∈ts,t.length<=B)->(ts.map List.length).sum<=ts.length*B
 | [],_=>Nat.zero_le _
 | t::ts,h=>by
  have h1:=h t List.mem_cons_self
  have h2:=iu λx hx=>h x (List.mem_cons_of_mem _ hx)
  simp only[List.map_cons,List.sum_cons,List.length_cons,Nat.succ_mul]
  omega
theorem rF(s:List Nat):∀ts:List (List Nat),(jn s ts).length<=(ts.map List.length).sum+ts.length*s.length
 | []=>Nat.zero_le _
 | [t]=>by simp[jn]
 | t::u::ts=>by
  have:=rF s (u::ts)
  rw[iI]
  simp only[List.length_append,List.map_cons,List.sum_cons,List.length_cons,Nat.succ_mul] at this ⊢
  omega
theorem K5{l:List Nat}(n:Nat)(h:∀c∈l,c<1000):dw n (.str (ofL l))=true:=by
 have e:PyData.strOk (ofL l)=true:=by
  unfold PyData.strOk ofL
  simp only[List.all_toArray,List.all_eq_true,decide_eq_true_eq]
  exact λc hc=>Nat.lt_trans (h c hc) (by decide)
 cases n <;> exact e
theorem N8{ts:List (List Nat)}(h:∀t∈ts,∀c∈t,c<1000):dw 50 (.lst (ak ts))=true:=by
 show j4 49 _=true
 exact uc 49 _ _ λt ht=>K5 49 (h t ht)
end K9
namespace K9
open PySem L2 MX DL
def Dr.wl:Dr->List Nat
 | .must _=>[109,117,115,116]
 | _=>[109,97,121]
def Dr.tn:Dr->Nat
 | .must n=>n
 | .may n=>n
 | _=>0
def tells(row:List Dr):List Nat:=(List.range row.length).filter λa=>alw (row.getD a .shut)
def tx(acts rs:List (List Nat))(row:List Dr)(a:Nat):List Nat:=acts.getD a []++[32]++(row.getD a .shut).wl++[32]++rs.getD (row.getD a .shut).tn []
def dj(name:List Nat)(ts:List (List Nat)):List Nat:=if ts.isEmpty then name++[58] else name++[58,32]++jn [44,32] ts
theorem Ep{x:Dr}(h:alw x=true):D.str x.w=.str (ofL x.wl)/\x.to=.int (x.tn:Nat):=by
 cases x with
 | must n=>exact⟨congrArg D.str t_mu,rfl⟩
 | may n=>exact⟨congrArg D.str t_ma,rfl⟩
 | shut=>cases h
 | torn=>cases h
theorem Qf{x:Dr}{many:Nat}(h:x.ok many false):neD (.str x.w) (.str "shut")=some (alw x):=by
 unfold neD
 cases x with
 | must n=>rw[show eqD (.str (Dr.must n).w) (.str "shut")=some false from q13];rfl
 | may n=>rw[show eqD (.str (Dr.may n).w) (.str "shut")=some false from q23];rfl
 | shut=>rw[show eqD (.str Dr.shut.w) (.str "shut")=some true from q33];rfl
 | torn=>cases h
theorem J4{ns:List (List Nat)}{i:Nat}{l:List Nat}(h:ns[i]?=some l):atI (ak ns) (i:Nat)=some (.str (ofL l)):=gC (by unfold ak;rw[List.getElem?_map,h];rfl)
theorem By{ns:List (List Nat)}{i:Nat}{l:List Nat}(h:ns[i]?=some l):ixD (.lst (ak ns)) (.int (i:Nat))=some (.str (ofL l)):=by rw[rE];exact gC (by unfold ak;rw[List.getElem?_map,h];rfl)
theorem MJ{x:Dr}{many:Nat}(h:x.ok many false)(a:alw x=true):x.tn<many:=by
 cases x with
 | must n=>exact h
 | may n=>exact h
 | shut=>cases a
 | torn=>cases a
structure In(acts rs:List (List Nat))(many:Nat)(row:List Dr):Prop where
 N:Names acts
 R:nG rs many
 l:row.length=acts.length
 ok:∀x∈row,x.ok many false
theorem wl_le(x:Dr):x.wl.length<=4:=by cases x <;> simp[Dr.wl]
theorem In.FT{acts rs:List (List Nat)}{many:Nat}{row:List Dr}(I:In acts rs many row)(a:Nat):(tx acts rs row a).length<=22:=by
 have h1:(acts.getD a []).length<=8:=by
  rw[List.getD_eq_getElem?_getD]
  cases h:acts[a]? with
  | none=>exact Nat.zero_le _
  | some l=>exact(I.N.ok l (List.mem_of_getElem? h)).2.1
 have h2:(rs.getD (row.getD a .shut).tn []).length<=8:=by
  rw[List.getD_eq_getElem?_getD]
  cases h:rs[(row.getD a .shut).tn]? with
  | none=>exact Nat.zero_le _
  | some l=>exact(I.R.ok l (List.mem_of_getElem? h)).1
 have h3:=wl_le (row.getD a .shut)
 unfold tx
 simp only[List.length_append,List.length_singleton]
 omega
theorem xn(row:List Dr):(tells row).length<=row.length:=Nat.le_trans (List.length_filter_le ..) (by simp)
theorem QH{γ:Type}(g:γ->List Nat)(xs:List γ)(k:Nat):vU (ak (xs.map g)) (some (k:Nat)) none=ak ((xs.drop k).map g)/\vU (ak (xs.map g)) none (some (k:Nat))=ak ((xs.take k).map g):=by
 constructor
 .unfold ak
  rw[List.map_map,Aw,List.map_map]
 .unfold ak
  rw[List.map_map,Ka,List.map_map]
theorem In.CQ{acts rs:List (List Nat)}{many:Nat}{row:List Dr}(I:In acts rs many row)(a:Nat):∀c∈tx acts rs row a,c<123/\c≠44/\c≠58/\c≠10:=by
 intro c hc
 unfold tx at hc
 simp only[List.mem_append,List.mem_singleton] at hc
 have h1:∀l∈acts,∀c∈l,97<=c/\c<123:=λl hl=>(I.N.ok l hl).2.2
 have h2:∀l∈rs,∀c∈l,sgR c:=λl hl=>(I.R.ok l hl).2.2
 have h3:∀x:Dr,∀c∈x.wl,97<=c/\c<123:=λx=>by cases x <;> simp[Dr.wl]
 have gd:∀(ls:List (List Nat))(i:Nat),c∈ls.getD i []->∃l∈ls,c∈l:=λls i h=>by
  rw[List.getD_eq_getElem?_getD] at h
  cases e:ls[i]? with
  | none=>rw[e] at h;cases h
  | some l=>rw[e] at h;exact⟨l,List.mem_of_getElem? e,h⟩
 rcases hc with (((h | h) | h) | h) | h
 .obtain⟨l,hl,h⟩:=gd _ _ h
  have:=h1 l hl c h
  omega
 .omega
 .have:=h3 _ c h
  omega
 .omega
 .obtain⟨l,hl,h⟩:=gd _ _ h
  have:=h2 l hl c h
  unfold sgR at this
  omega
def Nf(acts rs:List (List Nat))(row:List Dr)(name:List Nat)(d:D):Prop:=∃os:List Nat,os.Perm (tells row)/\d=.str (ofL (dj name (os.map (tx acts rs row))))
theorem La{acts rs:List (List Nat)}{many:Nat}{row:List Dr}(I:In acts rs many row){name:List Nat}(hn:name.length<=8){os:List Nat}(p:os.Perm (tells row)){L:List D}(eL:L=ak (os.map (tx acts rs row))):
  W (Out.opt (eqD (.lst L) (.lst []))) λk=>if k=true then W (Out.opt (bw (.str (ofL name)) (.str (ofL [58])))) (Nf acts rs row name) else W (Out.opt (bw (.str (ofL name)) (.str (ofL [58,32])))) λx=>W (Out.opt (jr (ofL [44,32]) (.lst L))) λy=>W (Out.opt (bw x y)) (Nf acts rs row name):=by
 subst eL
 have lo:os.length<=8:=by
  have h1:=p.length_eq
  have h2:=xn row
  have h3:=I.N.hi
  have h4:=I.l
  omega
 have sl:((os.map (tx acts rs row)).map List.length).sum<=(os.map (tx acts rs row)).length*22:=iu λt ht=>by
  obtain⟨a,_,rfl⟩:=List.mem_map.mp ht
  exact I.FT a
 rw[List.length_map] at sl
 have jl:=rF [44,32] (os.map (tx acts rs row))
 rw[List.length_map] at jl
 simp only[List.length_cons,List.length_nil,Nat.zero_add] at jl
 have k1:bw (.str (ofL name)) (.str (ofL [58]))=_:=fU (by simp;omega)
 have k2:bw (.str (ofL name)) (.str (ofL [58,32]))=_:=fU (by simp;omega)
 have k3:jr (ofL [44,32]) (.lst (ak (os.map (tx acts rs row))))=_:=rH (by rw[List.length_map];simp only[List.length_cons,List.length_nil,Nat.zero_add];omega)
 have k4:bw (.str (ofL (name++[58,32]))) (.str (ofL (jn [44,32] (os.map (tx acts rs row)))))=_:=fU (by simp only[List.length_append,List.length_cons,List.length_nil,Nat.zero_add];omega)
 rw[PB _ (N8 λt ht c hc=>by obtain⟨a,_,rfl⟩:=List.mem_map.mp ht;have:=(I.CQ a c hc).1;omega),k1,k2,k3]
 cases os with
 | nil=>exact⟨[],p,rfl⟩
 | cons o os =>
  show W (Out.opt (bw (.str (ofL (name++[58,32]))) (.str (ofL (jn [44,32] ((o::os).map (tx acts rs row))))))) _
  rw[k4]
  exact⟨o::os,p,rfl⟩
theorem F_line{acts rs:List (List Nat)}{many:Nat}{row:List Dr}(I:In acts rs many row){name:List Nat}(hn:name.length<=8)(cell:Int):∃os:List Nat,os.Perm (tells row)/\iQ [.str (ofL name),.lst (row.map Dr.d),.lst (ak acts),.lst (ak rs),.int cell]=.ok (.str (ofL (dj name (os.map (tx acts rs row))))):=by
 have h8:=I.N.hi
 have hl:=I.l
 have r1:=λPL=>rg_n (PL:=PL) (n:=acts.length) (by omega)
 have ln:(ak acts).length=acts.length:=by simp[ak]
 have m26:=cU cell 26 (by decide) (by decide)
 have m27:=cU cell 27 (by decide) (by decide)
 suffices h:∃d,iQ [.str (ofL name),.lst (row.map Dr.d),.lst (ak acts),.lst (ak rs),.int cell]=.ok d/\Nf acts rs row name d by
  obtain⟨_,e,os,p,rfl⟩:=h
  exact⟨os,p,e⟩
 refine yP ?_
 unfold iQ qU
 walk_at "vc: ln r1"
 refine jP (λa:Nat=>D.int (a:Nat)) (λdone δ=>∃x6 x7 x8,δ=[some (.sh (.str (ofL name))),some (.sh (.lst (row.map Dr.d))),some (.sh (.lst (ak acts))),some (.sh (.lst (ak rs))),some (.sh (.int cell)),some (.ol (ak ((done.filter λa=>alw (row.getD a .shut)).map (tx acts rs row)))),x6,x7,x8,none]) (List.range acts.length) ⟨_,_,_,rfl⟩ ?_ ?_
 .rintro a done rest δ e ⟨x6,x7,x8,rfl⟩
  have ha:a<acts.length:=List.mem_range.mp (by rw[e];simp)
  have l0:=congrArg List.length e
  simp at l0
  have ex:=List.getElem?_eq_getElem (show a<row.length by omega)
  have okx:=I.ok _ (List.getElem_mem (show a<row.length by omega))
  have gx:row.getD a .shut=row[a]'(by omega):=by rw[List.getD_eq_getElem?_getD,ex];rfl
  have ea:=List.getElem?_eq_getElem ha
  have ga:acts.getD a []=acts[a]:=by rw[List.getD_eq_getElem?_getD,ea];rfl
  have la:=(I.N.ok _ (List.getElem_mem ha)).2.1
  generalize hx:row[a]'(by omega)=x at ex okx gx
  generalize hac:acts[a]=ac at ea ga la
  unfold uD
  (have zv0:=ix_row ex;have zv1:=Qf okx;walk_at "vc: zv0 zv1")
  cases al:alw x with
  | false =>
   have fe:(done++[a]).filter (λa=>alw (row.getD a .shut))=done.filter λa=>alw (row.getD a .shut):=by rw[List.filter_append,show ([a].filter λa=>alw (row.getD a .shut))=[] by simp only[List.filter_cons,gx,al];rfl,List.append_nil]
   exact⟨_,_,_,by rw[fe]⟩
  | true =>
   obtain⟨w1,w2⟩:=Ep al
   have ht:=MJ okx al
   have er:=List.getElem?_eq_getElem (show x.tn<rs.length by rw[I.R.n];exact ht)
   have gr:rs.getD x.tn []=rs[x.tn]'(by rw[I.R.n];exact ht):=by rw[List.getD_eq_getElem?_getD,er];rfl
   have lr:=(I.R.ok _ (List.getElem_mem (show x.tn<rs.length by rw[I.R.n];exact ht))).1
   generalize rs[x.tn]'(by rw[I.R.n];exact ht)=rn at er gr lr
   have lw:=wl_le x
   have k1:bw (.str (ofL ac)) (.str (ofL [32]))=_:=fU (by simp;omega)
   have k2:bw (.str (ofL (ac++[32]))) (.str (ofL x.wl))=_:=fU (by simp;omega)
   have k3:bw (.str (ofL (ac++[32]++x.wl))) (.str (ofL [32]))=_:=fU (by simp;omega)
   have k4:bw (.str (ofL (ac++[32]++x.wl++[32]))) (.str (ofL rn))=_:=fU (by simp;omega)
   have l9:(ak ((done.filter λa=>alw (row.getD a .shut)).map (tx acts rs row))).length<16777216:=by
    have:=List.length_filter_le (λa=>alw (row.getD a .shut)) done
    simp only[ak,List.length_map]
    omega
   rw[if_pos rfl,w1,w2]
   (have zv0:=J4 ea;have zv1:=J4 er;walk_at "vc-List.append_assoc: zv0 t_sp zv1 k1 k2 k3 k4 l9")
   have fe:ak (((done++[a]).filter λa=>alw (row.getD a .shut)).map (tx acts rs row))=ak ((done.filter λa=>alw (row.getD a .shut)).map (tx acts rs row))++[.str (ofL (ac++[32]++x.wl++[32]++rn))]:=by
    rw[List.filter_append,show ([a].filter λa=>alw (row.getD a .shut))=[a] by simp only[List.filter_cons,gx,al];rfl]
    unfold ak
    rw[List.map_append,List.map_append,List.map_cons,List.map_nil,List.map_cons,List.map_nil]
    unfold tx
    rw[ga,gx,gr]
   exact⟨_,_,_,by rw[fe]⟩
 .rintro δ ⟨x6,x7,x8,rfl⟩
  have et:(List.range acts.length).filter (λa=>alw (row.getD a .shut))=tells row:=by unfold tells;rw[hl]
  rw[et]
  have lt:(ak ((tells row).map (tx acts rs row))).length=(tells row).length:=by simp[ak]
  have tl:=xn row
  obtain⟨u,eu,hu⟩:=gJ (jz cell 26) (m:=(tells row).length+1) (by omega)
  rw[Int.natCast_add] at eu
  simp only[Int.cast_ofNat_Int] at eu
  have c0:(0:Int)<((tells row).length:Nat)+1:=by omega
  obtain⟨d1,d2⟩:=QH (tx acts rs row) (tells row) u
  have en:ak (((tells row).drop u).map (tx acts rs row))++ak (((tells row).take u).map (tx acts rs row))=ak (((tells row).drop u++(tells row).take u).map (tx acts rs row)):=by unfold ak;rw[List.map_append,List.map_append]
  have pm:((tells row).drop u++(tells row).take u).Perm (tells row):=List.perm_append_comm.trans (by rw[List.take_append_drop])
  (have zv0:=λi=>lQ (i:=i) (c0);walk_at "vc: lt m26 zv0 eu W_catL d1 d2 m27 nM xq t_cs t_co t_cb")
  refine⟨_,_,rfl,rfl,by simp[ak];omega,?_⟩
  rw[en]
  split
  .exact La I hn ((List.reverse_perm _).trans pm) (by unfold ak;rw[List.map_reverse,List.map_reverse])
  .exact La I hn pm rfl
end K9
namespace K9
open PySem L2 MX DL
def bu(acts:List (List Nat)):List Nat:=jn [32] ([97,99,116,105,111,110,115]::acts)
theorem PK{acts:List (List Nat)}(h:1<=acts.length):[97,99,116,105,111,110,115,32]++jn [32] acts=bu acts:=by
 cases acts with
 | nil=>cases h
 | cons a acts=>rfl
def Told(acts rs:List (List Nat))(rows:List (List Dr))(lns:List (List Nat)):Prop:=∀(i:Nat)(ln:List Nat),lns[i]?=some ln->∃(row:List Dr)(nm os:List Nat),rows[i]?=some row/\rs[i]?=some nm/\List.Perm os (tells row)/\ln=dj nm (os.map (tx acts rs row))
theorem F_lines{acts rs:List (List Nat)}{many:Nat}{rows:List (List Dr)}(N:Names acts)(RN:nG rs many)(R:Rows many acts.length false rows)(hm:many<=48)(ns:List Int):∃lns,f9 [.lst (ak acts),.lst (ak rs),bQ rows,.rol (ns.map .int)]=.ok (.lst (ak (bu acts::lns)))/\lns.length=many/\Told acts rs rows lns:=by
 have h8:=N.hi
 have r1:=λPL=>rg_n (PL:=PL) (n:=many) (by omega)
 have sl:(acts.map List.length).sum<=acts.length*8:=iu λt ht=>(N.ok t ht).2.1
 have jl:=rF [32] acts
 have k1:jr (ofL [32]) (.lst (ak acts))=_:=rH (by simp;omega)
 have k2:bw (.str (ofL [97,99,116,105,111,110,115,32])) (.str (ofL (jn [32] acts)))=some (.str (ofL (bu acts))):=by rw[fU (by simp at jl ⊢;omega),PK N.lo]
 suffices h:∃d,f9 [.lst (ak acts),.lst (ak rs),bQ rows,.rol (ns.map .int)]=.ok d/\∃lns,d=.lst (ak (bu acts::lns))/\lns.length=many/\Told acts rs rows lns by
  obtain⟨_,e,lns,rfl,h⟩:=h
  exact⟨lns,e,h⟩
 refine yP ?_
 unfold f9 nY
 (have zv0:=K6 R;walk_at "vc: t_ab t_sp nM xq k1 k2 zv0 r1")
 refine Nt (λ_:List Nat=>True) (λlns δ=>Told acts rs rows lns/\∃x5 x6,δ=[some (.sh (.lst (ak acts))),some (.sh (.lst (ak rs))),some (.sh (bQ rows)),some (.sh (.rol (ns.map .int))),some (.ol (ak (bu acts::lns))),x5,x6]) many ⟨λi ln h=>by simp at h,_,_,rfl⟩ ?_ ?_
 .rintro i lns δ hi hl _ ⟨ht,x5,x6,rfl⟩
  obtain⟨c,ec⟩:=Ag ns (3+i) (by omega)
  rw[Int.natCast_add] at ec
  simp only[Int.cast_ofNat_Int] at ec
  have er:=List.getElem?_eq_getElem (show i<rows.length by rw[R.n];exact hi)
  have en:=List.getElem?_eq_getElem (show i<rs.length by rw[RN.n];exact hi)
  have hr:=R.row _ (List.getElem_mem (show i<rows.length by rw[R.n];exact hi))
  have hn:=RN.ok _ (List.getElem_mem (show i<rs.length by rw[RN.n];exact hi))
  generalize rows[i]'(by rw[R.n];exact hi)=row at er hr
  generalize rs[i]'(by rw[RN.n];exact hi)=nm at en hn
  obtain⟨os,p,el⟩:=F_line ⟨N,RN,hr.1,hr.2⟩ hn.1 c
  have l9:(ak (bu acts::lns)).length<16777216:=by simp[ak];omega
  unfold rK
  (have zv0:=By en;have zv1:=PQ er;walk_at "vc-rE: ec zv0 zv1 el l9")
  refine⟨_,λj ln h=>?_,_,_,by unfold ak;rw[←List.cons_append,List.map_append];rfl⟩
  by_cases hj:j<lns.length
  .rw[List.getElem?_append_left hj] at h
   exact ht j ln h
  .rw[List.getElem?_append_right (by omega)] at h
   have:j=i:=by
    have:=(List.getElem?_eq_some_iff.mp h).1
    simp at this
    omega
   subst this
   rw[hl,Nat.sub_self] at h
   simp at h
   exact⟨row,nm,os,er,en,p,h.symm⟩
 .rintro lns δ hl _ ⟨ht,x5,x6,rfl⟩
  walk_at "vc"
  exact⟨lns,rfl,hl,ht⟩
theorem Jv{c:Nat}{ps:List (List Nat)}(h0:ps≠[])(hf:∀p∈ps,c∉p)(hl:(jn [c] ps).length<=16777216)(hn:ps.length<=16777216):ir (ofL (jn [c] ps)) (ofL [c])=some (.lst (ak ps)):=by
 unfold ir
 rw[split_1 h0 hf,bz,bz,List.length_map,if_pos ⟨rfl,by rw[sizeLine_eq];exact hl,by rw[sizeLine_eq];exact hn⟩]
 unfold ak
 rw[List.map_map]
 rfl
theorem split_n2{c d:Nat}(hcd:c≠d)(hk:PySem.Builtin.Str.strKind (ofL [c,d])=1){ps:List (List Nat)}(h0:ps≠[])(hf:∀p∈ps,c∉p)(hl:(jn [c,d] ps).length<=16777216)(hn:ps.length<=16777216):ir (ofL (jn [c,d] ps)) (ofL [c,d])=some (.lst (ak ps)):=by
 unfold ir
 rw[split_2 hcd hk h0 hf,bz,bz,List.length_map,if_pos ⟨rfl,by rw[sizeLine_eq];exact hl,by rw[sizeLine_eq];exact hn⟩]
 unfold ak
 rw[List.map_map]
 rfl
theorem part_n{a b:List Nat}{c:Nat}(h:c∉a)(hl:(a++c::b).length<=16777216):zg (ofL (a++c::b)) (ofL [c])=some (.tup [.str (ofL a),.str (ofL [c]),.str (ofL b)]):=by
 unfold zg
 rw[part_1 h,bz,bz,if_pos ⟨rfl,by rw[sizeLine_eq];exact hl⟩]
theorem in_1(l:List Nat)(c:Nat):inD (.str (ofL [c])) (.str (ofL l))=some (decide (c∈l)):=by
 show some (!(PySem.Builtin.Str.occurrences (ofL l) (ofL [c]) 0 (ofL l).length 1).isEmpty)=_
 rw[has_1]
theorem notin_1(l:List Nat)(c:Nat):gZ (.str (ofL [c])) (.str (ofL l))=some (!decide (c∈l)):=by
 unfold gZ
 rw[in_1]
 rfl
theorem figs:Str.ofString "0123456789"=ofL ((List.range 10).map (48+·)):=by decide +kernel
theorem slice_sn(l:List Nat)(i:Nat)(h:i<=l.length):Txt.slice (ofL l) (some (i:Int)) none=ofL (l.drop i):=by
 have:=slice_ss l i l.length h (Nat.le_refl _)
 unfold Txt.slice at this ⊢
 rw[bz] at this ⊢
 rw[StrLaws.sliceIdx_none_hi,this,List.take_of_length_le (by simp)]
theorem drop_s{l:List Nat}{k:Nat}(h:k<=l.length)(hl:l.length<=16777216):cutD (.str (ofL l)) (some (k:Nat)) none=some (.str (ofL (l.drop k))):=by
 show (if (ofL l).length<=sizeLine then some (D.str (Txt.slice (ofL l) (some (k:Int)) none)) else none)=_
 rw[bz,if_pos (by rw[sizeLine_eq];exact hl),slice_sn l k h]
theorem in_abc{c:Nat}(h1:97<=c)(h2:c<123):c∈(List.range 26).map (97+·):=List.mem_map.mpr ⟨c - 97,List.mem_range.mpr (by omega),by omega⟩
theorem len_s{l:List Nat}(h:l.length<=16777216):fL (.str (ofL l))=some (.int (l.length:Nat)):=by
 show (if (ofL l).length<=sizeLine then some (D.int ((ofL l).length:Nat)) else none)=_
 rw[bz,if_pos (by rw[sizeLine_eq];exact h)]
theorem F_rn{l:List Nat}(h:En l):dU [.str (ofL l)]=.ok (.bl true):=by
 obtain⟨h8,⟨c,r,e,c1,c2⟩,hs⟩:=h
 have a0:1<=l.length:=by rw[e];simp
 have a1:(1:Int)<=(l.length:Nat):=by omega
 have a2:((l.length:Nat):Int)<=8:=by omega
 have ln:=len_s (l:=l) (by omega)
 have i0:ixD (.str (ofL l)) (.int 0)=some (.str (ofL [c])):=ix_of (i:=0) (by omega) (by rw[e];rfl)
 have n0:gZ (.str (ofL [c])) (.str "abcdefghijklmnopqrstuvwxyz")=some false:=by
  rw[abc,notin_1,decide_eq_true (in_abc c1 c2)]
  rfl
 have sg:Cr (ofL l)=l.map λc=>.str (ofL [c]):=rfl
 have e2:=vM (λ_:Nat=>true) l
 apply ul
 unfold dU jY
 walk_at "vc: ln a1 a2 i0 n0 W_strO xq sg"
 refine⟨by rw[List.length_map];omega,W_of (mQ (λc:Nat=>D.str (ofL [c])) (λ_=>D.bl true) _ _ λd hd=>?_) ?_⟩
 .apply ul
  unfold mX
  have q1:inD (.str (ofL [d])) (.str "abcdefghijklmnopqrstuvwxyz")=_:=abc▸in_1 _ d
  have q2:inD (.str (ofL [d])) (.str "0123456789")=_:=figs▸in_1 _ d
  walk_at "vc: ye q1 q2"
  have:=hs d hd
  unfold sgR at this
  by_cases hl:d∈(List.range 26).map (97+·)
  .rw[if_pos hl];trivial
  .rw[if_neg hl,decide_eq_true]
   rcases this with h | h
   .exact absurd (in_abc h.1 h.2) hl
   .exact List.mem_map.mpr ⟨d - 48,List.mem_range.mpr (by omega),by omega⟩
 .rw[e2]
  show D.bl (l.all λ_=>true)=_
  simp
theorem Qy(ns:List (List Nat))(N:Names ns):cD [.lst (ak ns)]=.ok (.bl true):=by
 unfold cD eN
 have h1:=N.lo
 have h2:=N.hi
 have a1:(1:Int)<=(ns.length:Int):=by omega
 have a2:(ns.length:Int)<=8:=by omega
 have e:=iC (cap:=[none]) (fi:=ik (gv 0)) (fe:=cG) (δ:=[some (.sh (.lst (ak ns)))]) (λl=>D.str (ofL l)) (λ_=>D.bl true) ns rfl (by omega) (λl hl=>by
  unfold cG
  have e:=F_name l (N.ok l hl)
  show oF 1 jB (az (gv 0) aM) [some (.sh (.str (ofL l)))]=_
  walk_at "ev: e")
 have e2:=vM (λ_:List Nat=>true) ns
 have e3:ns.all (λ_=>true)=true:=by simp
 have e4:uX (.lst (ak ns))=some (.int ns.length):=by
  unfold uX
  have q:ak ns=(ns.map ofL).map D.str:=by unfold ak;simp
  simp only[gY,Option.bind_some,q,FP]
  rw[if_pos (by rw[List.length_map];omega),vf _ _ (by
   simp only[List.nil_append]
   exact List.pairwise_map.mpr (N.nd.imp λh q=>h (oN q)))]
  simp
 have e5:(ak ns).length=ns.length:=by simp[ak]
 walk_at "ev: cM mU e5 a1 a2 e e2 e3 e4"
end K9
namespace K9
open PySem L2 MX DL
theorem eq_s{a b:List Nat}(ha:∀c∈a,c<1000)(hb:∀c∈b,c<1000):eqD (.str (ofL a)) (.str (ofL b))=some (decide (a=b)):=by
 rw[v5 (K5 50 ha) (K5 50 hb),eqB_str]
 congr 1
 by_cases h:a=b
 .subst h;simp
 .rw[decide_eq_false h,beq_eq_false_iff_ne]
  exact λe=>h (oN e)
theorem ne_s{a:List Nat}(ha:∀c∈a,c<1000):neD (.str (ofL a)) (.str (ofL a))=some false:=rY (K5 50 ha)
theorem Bp:∀ns:List (List Nat),uy (ak ns)=some (ns.map λl=>V.str (ofL l))
 | []=>rfl
 | n::ns=>by
  show (match Bo (.str (ofL n)),uy (ak ns) with | some v,some vs=>some (v::vs) | _,_=>none)=_
  rw[Bp ns]
  rfl
theorem in_names{l:List Nat}{ns:List (List Nat)}(h:l∈ns):gZ (.str (ofL l)) (.lst (ak ns))=some false:=by
 have e:inD (.str (ofL l)) (.lst (ak ns))=some (inV (V.str (ofL l)) (ns.map λl=>V.str (ofL l))):=by
  show (match some (V.str (ofL l)),(some (ak ns)).bind uy with | some v,some vs=>some (inV v vs) | _,_=>none)=_
  rw[Option.bind_some,Bp]
 unfold gZ
 rw[e]
 have:inV (V.str (ofL l)) (ns.map λl=>V.str (ofL l))=true:=by
  unfold inV
  rw[List.any_map,List.any_eq_true]
  exact⟨l,h,by simp[eqV]⟩
 rw[this]
 rfl
theorem vK{acts:List (List Nat)}(N:Names acts):∀l∈acts,∀c∈l,97<=c/\c<123:=λl hl=>(N.ok l hl).2.2
theorem F_readA{acts:List (List Nat)}(N:Names acts):gw [.str (ofL (bu acts))]=.ok (.lst (ak acts)):=by
 have h8:=N.hi
 have sl:(([97,99,116,105,111,110,115]::acts).map List.length).sum<=([97,99,116,105,111,110,115]::acts).length*8:=iu λt ht=>by
  rcases List.mem_cons.mp ht with rfl | ht
  .decide
  .exact(N.ok t ht).2.1
 have jl:=rF [32] ([97,99,116,105,111,110,115]::acts)
 simp only[List.length_cons,List.length_nil,Nat.zero_add] at sl jl
 have sp:ir (ofL (bu acts)) (ofL [32])=some (.lst (.str (ofL [97,99,116,105,111,110,115])::ak acts)):=Jv (by simp) (λp hp hc=>by
  rcases List.mem_cons.mp hp with rfl | hp
  .simp at hc
  .have:=vK N p hp 32 hc
   omega) (by omega) (by simp;omega)
 have n1:=ne_s (a:=[97,99,116,105,111,110,115]) (by decide)
 have cl:vU (.str (ofL [97,99,116,105,111,110,115])::ak acts) (some 1) none=ak acts:=Aw (λl=>D.str (ofL l)) ([97,99,116,105,111,110,115]::acts) 1
 have fa:=Qy acts N
 apply ul
 unfold gw j0
 walk_at "vc: Eo xq t_sp t_ac sp n1 cl fa"
def kvF(p:List Nat×Nat):Key×D:=(.inr (ofL p.1),.int (p.2:Nat))
def kv(rs:List (List Nat)):List (Key×D):=(List.zipIdx rs 0).map kvF
theorem key_eq(a b:List Nat):decide ((Sum.inr (ofL a):Key)=.inr (ofL b))=decide (a=b):=by
 by_cases h:a=b
 .subst h;simp
 .rw[decide_eq_false h,decide_eq_false]
  intro e
  exact h (oN (Sum.inr.inj e))
theorem N7(nm:List Nat):∀(rs:List (List Nat))(k:Nat),Bv ((List.zipIdx rs k).map kvF) (.inr (ofL nm))=decide (nm∈rs)
 | [],_=>rfl
 | r::rs,k=>by
  have ih:=N7 nm rs (k+1)
  unfold Bv at ih ⊢
  rw[List.zipIdx_cons,List.map_cons,List.any_cons,ih]
  show (decide ((Sum.inr (ofL r):Key)=.inr (ofL nm)) || _)=_
  rw[key_eq]
  simp[eq_comm]
theorem N6{nm:List Nat}:∀(rs:List (List Nat))(k i:Nat),rs.Nodup->rs[i]?=some nm->uW ((List.zipIdx rs k).map kvF) (.inr (ofL nm))=some (.int ((k+i:Nat):Int))
 | [],_,_,_,h=>by simp at h
 | r::rs,k,0,nd,h=>by
  simp at h
  subst h
  rw[List.zipIdx_cons,List.map_cons]
  simp[uW,kvF]
 | r::rs,k,i+1,nd,h=>by
  have h:rs[i]?=some nm:=by simpa using h
  have ne:¬(Sum.inr (ofL r):Key)=.inr (ofL nm):=λe=>by
   have:=oN (Sum.inr.inj e)
   subst this
   exact(List.nodup_cons.mp nd).1 (List.mem_of_getElem? h)
  have ih:=N6 rs (k+1) i (List.nodup_cons.mp nd).2 h
  rw[List.zipIdx_cons,List.map_cons]
  unfold uW at ih ⊢
  rw[List.find?_cons_of_neg (by simpa[kvF] using ne),ih]
  congr 3
  omega
theorem Q9(nm:List Nat)(ts:List (List Nat)):dj nm ts=nm++58::(if ts.isEmpty then [] else 32::jn [44,32] ts):=by
 unfold dj
 split <;> simp
structure Pn(acts rs:List (List Nat))(many:Nat)(rows:List (List Dr))(lns:List (List Nat)):Prop where
 N:Names acts
 RN:nG rs many
 R:Rows many acts.length false rows
 m1:1<=many
 m48:many<=48
 l:lns.length=many
 T:Told acts rs rows lns
theorem Lf{nm:List Nat}(h:En nm):58∉nm/\10∉nm/\32∉nm/\∀c∈nm,c<123:=by
 have:∀c∈nm,sgR c:=h.2.2
 unfold sgR at this
 refine⟨λh=>?_,λh=>?_,λh=>?_,λc h=>?_⟩
 .have:=this _ h;omega
 .have:=this _ h;omega
 .have:=this _ h;omega
 .have:=this _ h;omega
theorem Pn.line{acts rs:List (List Nat)}{many:Nat}{rows:List (List Dr)}{lns:List (List Nat)}(P:Pn acts rs many rows lns){i:Nat}{ln:List Nat}(h:lns[i]?=some ln):∃row nm os,rows[i]?=some row/\rs[i]?=some nm/\List.Perm os (tells row)/\In acts rs many row/\En nm/\(os.map (tx acts rs row)).length<=8/\(jn [44,32] (os.map (tx acts rs row))).length<=200/\ln=nm++58::(if (os.map (tx acts rs row)).isEmpty then [] else 32::jn [44,32] (os.map (tx acts rs row)))/\ln.length<=300:=by
 obtain⟨row,nm,os,er,en,p,e⟩:=P.T i ln h
 have hr:=P.R.row row (List.mem_of_getElem? er)
 have hn:=P.RN.ok nm (List.mem_of_getElem? en)
 have I:In acts rs many row:=⟨P.N,P.RN,hr.1,hr.2⟩
 have lo:os.length<=8:=by
  have h1:=p.length_eq
  have h2:=xn row
  have h3:=P.N.hi
  have h4:=I.l
  omega
 have sl:((os.map (tx acts rs row)).map List.length).sum<=(os.map (tx acts rs row)).length*22:=iu λt ht=>by
  obtain⟨a,_,rfl⟩:=List.mem_map.mp ht
  exact I.FT a
 have jl:=rF [44,32] (os.map (tx acts rs row))
 simp only[List.length_map,List.length_cons,List.length_nil,Nat.zero_add] at sl jl
 have j2:(jn [44,32] (os.map (tx acts rs row))).length<=200:=by omega
 rw[Q9] at e
 refine⟨row,nm,os,er,en,p,I,hn,by rw[List.length_map];exact lo,j2,e,?_⟩
 rw[e]
 have:=hn.1
 split <;> simp <;> omega
theorem F_named{acts rs:List (List Nat)}{many:Nat}{rows:List (List Dr)}{lns:List (List Nat)}(P:Pn acts rs many rows lns):iB [.lst (ak lns)]=.ok (.dK (kv rs)):=by
 have en:=jb (λl:List Nat=>D.str (ofL l)) lns 0
 have sq:DL.gY (.lst (ak lns))=some (lns.map λl=>D.str (ofL l)):=rfl
 have hm:=P.m48
 have hl:=P.l
 apply ul
 unfold iB mj
 walk_at "vc: W_setD0 W_enum sq en"
 generalize hb:jj=body
 refine jP (λp:List Nat×Nat=>D.tup [.int p.2,.str (ofL p.1)]) (λdone δ=>∃x2 x3,δ=[some (.sh (.lst (ak lns))),some (.od (kv (rs.take done.length))),x2,x3]) (List.zipIdx lns 0) ⟨_,_,rfl⟩ ?_ ?_
 .rintro⟨ln,i⟩ done rest δ e ⟨x2,x3,rfl⟩
  have q:=List.mem_zipIdx (show (ln,i)∈List.zipIdx lns 0 by rw[e];simp)
  have l0:=congrArg List.length e
  have g:=congrArg (λl=>l[done.length]?) e
  simp at q l0 g
  have hi:done.length=i:=by obtain⟨_,_,g3⟩:=g;exact g3.2
  have el:lns[i]?=some ln:=by rw[q.2];exact List.getElem?_eq_getElem q.1
  obtain⟨row,nm,os,er,en,p,I,hn,_,_,ef,l3⟩:=P.line el
  have ch:=Lf hn
  have i1:inD (.str (ofL [58])) (.str (ofL ln))=some true:=by rw[in_1,decide_eq_true (by rw[ef];simp)]
  have p1:zg (ofL ln) (ofL [58])=some (.tup [.str (ofL nm),.str (ofL [58]),.str (ofL (if (os.map (tx acts rs row)).isEmpty then [] else 32::jn [44,32] (os.map (tx acts rs row))))]):=by
   rw[ef] at l3 ⊢
   exact part_n ch.1 (by omega)
  have hnot:nm∉rs.take i:=λh=>by
   obtain⟨j,hj⟩:=List.getElem?_of_mem h
   have lj:=(List.getElem?_eq_some_iff.mp hj).1
   rw[List.length_take] at lj
   rw[List.getElem?_take_of_lt (by omega)] at hj
   have:=(List.getElem?_inj (by omega) P.RN.nd).mp (hj.trans en.symm)
   omega
  have hk:Bv (kv (rs.take i)) (.inr (ofL nm))=false:=by unfold kv;rw[N7,decide_eq_false hnot]
  have pk:Fy (kv (rs.take i)) (.inr (ofL nm)) (.int (i:Nat))=kv (rs.take (i+1)):=by
   have hk':=hk
   unfold Bv at hk'
   unfold Fy
   rw[hk',if_neg Bool.false_ne_true]
   unfold kv
   have lt:(rs.take i).length=i:=by rw[List.length_take,P.RN.n];omega
   rw[List.take_add_one,en]
   simp only[Option.toList_some]
   rw[List.zipIdx_append,List.map_append,lt]
   simp[kvF]
  have l9:(kv (rs.take i)).length<16777216:=by unfold kv;simp;omega
  subst hb
  unfold jj
  rw[hi]
  walk_at "vc: t_co i1 W_setdef doD_0 doD_s Eo xq p1 ky_s l9 hk pk"
  exact⟨_,_,by rw[List.length_append,hi];rfl⟩
 .rintro δ ⟨x2,x3,rfl⟩
  walk_at "vc"
  rw[List.length_zipIdx,hl,←P.RN.n,List.take_length]
end K9
namespace K9
open PySem L2 MX DL
theorem rG{s:List Nat}{c:Nat}:∀{ts:List (List Nat)},c∈jn s ts->c∈s∨∃t∈ts,c∈t
 | [],h=>by simp[jn] at h
 | [t],h=>.inr ⟨t,List.mem_cons_self,h⟩
 | t::u::ts,h=>by
  rw[iI] at h
  simp only[List.mem_append] at h
  rcases h with (h | h) | h
  .exact .inr ⟨t,List.mem_cons_self,h⟩
  .exact .inl h
  .rcases rG h with h | ⟨x,hx,h⟩
   .exact .inl h
   .exact .inr ⟨x,List.mem_cons_of_mem _ hx,h⟩
theorem tx_jn(acts rs:List (List Nat))(row:List Dr)(a:Nat):tx acts rs row a=jn [32] [acts.getD a [],(row.getD a .shut).wl,rs.getD (row.getD a .shut).tn []]:=by
 unfold tx
 simp[jn]
theorem Qz{acts rs:List (List Nat)}{act nm:List Nat}{x:Dr}{t:Nat}(h1:act∈acts)(al:alw x=true)(hn:En nm)(ht:rs[t]?=some nm):dH [.lst [.str (ofL act),.str (ofL x.wl),.str (ofL nm)],.lst (ak acts),.dK (kv rs)]=.ok (.bl true):=by
 have n1:=in_names h1
 have n2:gZ (.str (ofL x.wl)) (.tup [.str "must",.str "may"])=some false:=by
  rw[←(Ep al).1]
  cases x with
  | must n=>unfold gZ;rw[show inD (.str (Dr.must n).w) (.tup [.str "must",.str "may"])=some true from m1];rfl
  | may n=>unfold gZ;rw[show inD (.str (Dr.may n).w) (.tup [.str "must",.str "may"])=some true from m2];rfl
  | shut=>cases al
  | torn=>cases al
 have f:=F_rn hn
 have hk:Bv (kv rs) (.inr (ofL nm))=true:=by unfold kv;rw[N7,decide_eq_true (List.mem_of_getElem? ht)]
 apply ul
 unfold dH gH
 walk_at "vc: n1 n2 f W_dInX ky_s dk_1 dk_s hk"
theorem Fd:∀(acts:List (List Nat))(a k:Nat)(act:List Nat),acts.Nodup->acts[a]?=some act->fstS (ofL act) (acts.map ofL) k=some (k+a)
 | [],_,_,_,_,h=>by simp at h
 | b::acts,0,k,act,_,h=>by
  simp at h
  subst h
  simp[fstS]
 | b::acts,a+1,k,act,nd,h=>by
  have h:acts[a]?=some act:=by simpa using h
  have ne:¬ofL b=ofL act:=λe=>by
   have:=oN e
   subst this
   exact(List.nodup_cons.mp nd).1 (List.mem_of_getElem? h)
  rw[List.map_cons]
  unfold fstS
  rw[if_neg ne,Fd acts a (k+1) act (List.nodup_cons.mp nd).2 h]
  congr 1
  omega
theorem Q0{acts:List (List Nat)}{a:Nat}{act:List Nat}(nd:acts.Nodup)(h:acts[a]?=some act):KY (.lst (ak acts)) (.str (ofL act))=some (.int (a:Nat)):=by
 unfold KY
 show (m5 (ak acts)).bind _=_
 rw[vC]
 show (fstS (ofL act) (acts.map ofL) 0).map _=_
 rw[Fd acts a 0 act nd h,Nat.zero_add]
 rfl
def Az(row:List Dr)(done:List Nat):List D:=(List.range row.length).map λa=>if a∈done then (row.getD a .shut).d else Dr.shut.e
theorem dnow_put{row:List Dr}{done:List Nat}{a:Nat}{x:Dr}(h:row[a]?=some x):(Az row done).set a x.d=Az row (done++[a]):=by
 have la:=(List.getElem?_eq_some_iff.mp h).1
 apply List.ext_getElem?
 intro i
 unfold Az
 by_cases hi:i=a
 .subst hi
  rw[List.getElem?_set_self (by simpa using la),List.getElem?_map,List.getElem?_range la]
  simp[List.getD_eq_getElem?_getD,h]
 .rw[List.getElem?_set_ne (Ne.symm hi),List.getElem?_map,List.getElem?_map]
  by_cases li:i<row.length
  .rw[List.getElem?_range li]
   simp[hi]
  .rw[List.getElem?_eq_none (by simpa using li)]
   rfl
theorem Kg{row:List Dr}{os:List Nat}{many:Nat}(ok:∀x∈row,x.ok many false)(p:os.Perm (tells row)):Az row os=row.map Dr.e:=by
 apply List.ext_getElem?
 intro i
 unfold Az
 rw[List.getElem?_map,List.getElem?_map]
 by_cases li:i<row.length
 .have e:=List.getElem?_eq_getElem li
  have g:row.getD i .shut=row[i]:=by rw[List.getD_eq_getElem?_getD,e];rfl
  have o:=ok _ (List.getElem_mem li)
  rw[List.getElem?_range li,e]
  simp only[Option.map_some]
  congr 1
  have m:i∈os↔alw row[i]=true:=by
   rw[p.mem_iff]
   unfold tells
   rw[List.mem_filter,List.mem_range,g]
   exact⟨λh=>h.2,λh=>⟨li,h⟩⟩
  rw[g]
  cases hx:row[i] with
  | must n=>rw[if_pos (m.mpr (by rw[hx];rfl))];rfl
  | may n=>rw[if_pos (m.mpr (by rw[hx];rfl))];rfl
  | shut=>rw[if_neg λh=>by have:=m.mp h;rw[hx] at this;cases this]
  | torn=>rw[hx] at o;cases o
 .rw[List.getElem?_eq_none (by simpa using li),List.getElem?_eq_none (by simpa using li)]
  rfl
theorem Qc:dw 50 (.rot [.str "shut",.non])=true:=by
 show (PyData.strOk "shut" && (true && true))=true
 rw[Qg]
 rfl
theorem F_doors{acts rs:List (List Nat)}{many:Nat}{row:List Dr}(I:In acts rs many row){os:List Nat}(p:os.Perm (tells row))(l8:(os.map (tx acts rs row)).length<=8)(l2:(jn [44,32] (os.map (tx acts rs row))).length<=200):ju [.str (ofL (if (os.map (tx acts rs row)).isEmpty then [] else 32::jn [44,32] (os.map (tx acts rs row)))),.lst (ak acts),.dK (kv rs)]=.ok (.lst (row.map Dr.e)):=by
 have h8:=I.N.hi
 have hl:=I.l
 have c0:(acts.map λ_=>Dr.shut.e)=Az row []:=by
  unfold Az
  simp[hl,List.map_const',List.map_const]
 have nl:(ak acts).length=acts.length:=by simp[ak]
 have jc:∀c∈jn [44,32] (os.map (tx acts rs row)),c<1000:=λc hc=>by
  rcases rG hc with h | ⟨t,ht,h⟩
  .simp at h;omega
  .obtain⟨a,_,rfl⟩:=List.mem_map.mp ht
   have:=(I.CQ a c h).1
   omega
 apply ul
 unfold ju n8
 walk_at "vc: nl"
 refine⟨by omega,W_of (mQ (λl:List Nat=>D.str (ofL l)) (λ_=>Dr.shut.e) acts _ λl _=>rfl) ?_⟩
 rw[c0]
 cases hos:os with
 | nil =>
  have e1:=eq_s (a:=[]) (b:=[]) (by simp) (by simp)
  walk_at "vc: List.isEmpty_nil t_em e1"
  have:=Kg I.ok p
  rw[hos] at this
  exact congrArg D.lst this
 | cons o os' =>
  rw[←hos]
  have ne:os.map (tx acts rs row)≠[]:=by rw[hos];simp
  rw[if_neg (by rw[hos];simp)]
  have e1:=eq_s (a:=32::jn [44,32] (os.map (tx acts rs row))) (b:=[]) (λc hc=>by rcases List.mem_cons.mp hc with rfl | hc;decide;exact jc c hc) (by simp)
  rw[decide_eq_false (by simp)] at e1
  have s1:swD (ofL (32::jn [44,32] (os.map (tx acts rs row)))) (ofL [32])=some (.bl true):=by unfold swD;rw[stw_1]
  have d1:cutD (.str (ofL (32::jn [44,32] (os.map (tx acts rs row))))) (some 1) none=some (.str (ofL (jn [44,32] (os.map (tx acts rs row))))):=drop_s (k:=1) (by simp) (by simp;omega)
  have s2:=split_n2 (c:=44) (d:=32) (by decide) (by decide +kernel) ne (λt ht hc=>by
   obtain⟨a,_,rfl⟩:=List.mem_map.mp ht
   exact(I.CQ a 44 hc).2.1 rfl) (by omega) (by omega)
  have sq:jQ (.lst (ak (os.map (tx acts rs row))))=some (os.map λa=>D.str (ofL (tx acts rs row a))):=by
   show some (ak _)=_
   unfold ak
   rw[List.map_map]
   rfl
  walk_at "vc-as_l: t_em e1 Eo xq t_sp s1 d1 t_cs s2 sq"
  generalize hb:j5=body
  refine jP (λa:Nat=>D.str (ofL (tx acts rs row a))) (λdone δ=>∃x4 x5 x6,δ=[some (.sh (.str (ofL (32::jn [44,32] (os.map (tx acts rs row)))))),some (.sh (.lst (ak acts))),some (.sh (.dK (kv rs))),some (.ol (Az row done)),x4,x5,x6]) os ⟨_,_,_,rfl⟩ ?_ ?_
  .rintro a done rest δ e ⟨x4,x5,x6,rfl⟩
   have am:a∈tells row:=p.mem_iff.mp (by rw[e];simp)
   have nd:os.Nodup:=p.nodup_iff.mpr (List.Pairwise.filter _ List.nodup_range)
   have an:a∉done:=λh=>by
    rw[e] at nd
    exact(List.nodup_append.mp nd).2.2 a h a List.mem_cons_self rfl
   unfold tells at am
   rw[List.mem_filter,List.mem_range] at am
   obtain⟨la,al⟩:=am
   have ex:=List.getElem?_eq_getElem la
   have gx:row.getD a .shut=row[a]:=by rw[List.getD_eq_getElem?_getD,ex];rfl
   have okx:=I.ok _ (List.getElem_mem la)
   have ea:=List.getElem?_eq_getElem (show a<acts.length by omega)
   have ga:acts.getD a []=acts[a]'(by omega):=by rw[List.getD_eq_getElem?_getD,ea];rfl
   have tj:=tx_jn acts rs row a
   rw[gx] at al tj
   generalize row[a]=x at ex okx al tj
   rw[ga] at tj
   generalize acts[a]'(by omega)=act at ea tj
   have ht:=MJ okx al
   have er:=List.getElem?_eq_getElem (show x.tn<rs.length by rw[I.R.n];exact ht)
   have gr:rs.getD x.tn []=rs[x.tn]'(by rw[I.R.n];exact ht):=by rw[List.getD_eq_getElem?_getD,er];rfl
   rw[gr] at tj
   generalize rs[x.tn]'(by rw[I.R.n];exact ht)=nm at er tj
   have hn:=I.R.ok nm (List.mem_of_getElem? er)
   have lt:=I.FT a
   rw[tj] at lt
   have sp:ir (ofL (jn [32] [act,x.wl,nm])) (ofL [32])=some (.lst [.str (ofL act),.str (ofL x.wl),.str (ofL nm)]):=Jv (by simp) (λq hq hc=>by
    simp only[List.mem_cons,List.not_mem_nil,or_false] at hq
    rcases hq with rfl | rfl | rfl
    .have:=vK I.N q (List.mem_of_getElem? ea) 32 hc
     omega
    .cases x <;> simp[Dr.wl] at hc
    .exact(Lf hn).2.2.1 hc) (by omega) (by simp)
   have fw:=Qz (acts:=acts) (rs:=rs) (List.mem_of_getElem? ea) al hn er
   have ix:=Q0 I.N.nd ea
   have da:atI (Az row done) (a:Nat)=some (.rot [.str "shut",.non]):=gC (by
    unfold Az
    rw[List.getElem?_map,List.getElem?_range la]
    simp[an]
    rfl)
   have nr:=rY Qc
   have gk:uW (kv rs) (.inr (ofL nm))=some (.int (x.tn:Nat)):=by unfold kv;rw[N6 rs 0 x.tn I.R.nd er,Nat.zero_add]
   subst hb
   unfold j5
   rw[tj]
   have il:K1 (.lst (ak acts))=true:=rfl
   walk_at "vc: Eo xq t_sp sp fw W_idxS il ix da nr W_put W_dIx dk_1 dk_s ky_s gk"
   have dp:=dnow_put (done:=done) ex
   unfold Dr.d at dp
   rw[(Ep al).1,(Ep al).2] at dp
   exact⟨_,a,rfl,ixN_nat (by simp[Az];exact la),_,_,_,by rw[dp]⟩
  .rintro δ ⟨x4,x5,x6,rfl⟩
   walk_at "vc"
   rw[Kg I.ok p]
theorem F_room{acts rs:List (List Nat)}{many:Nat}{rows:List (List Dr)}{lns:List (List Nat)}(P:Pn acts rs many rows lns){i:Nat}{ln:List Nat}(h:lns[i]?=some ln):∃row,rows[i]?=some row/\lA [.str (ofL ln),.int (i:Nat),.lst (ak acts),.dK (kv rs)]=.ok (.lst (row.map Dr.e)):=by
 obtain⟨row,nm,os,er,en,p,I,hn,l8,l2,ef,l3⟩:=P.line h
 refine⟨row,er,?_⟩
 have fd:=F_doors I p l8 l2
 generalize (if (os.map (tx acts rs row)).isEmpty then [] else 32::jn [44,32] (os.map (tx acts rs row)))=rest at ef fd
 have ch:=Lf hn
 have p1:zg (ofL ln) (ofL [58])=some (.tup [.str (ofL nm),.str (ofL [58]),.str (ofL rest)]):=by
  rw[ef] at l3 ⊢
  exact part_n ch.1 (by omega)
 have f:=F_rn hn
 have gk:uW (kv rs) (.inr (ofL nm))=some (.int (i:Nat)):=by unfold kv;rw[N6 rs 0 i P.RN.nd en,Nat.zero_add]
 have ln1:=len_s (l:=nm) (by have:=hn.1;omega)
 have ce:((nm.length:Nat):Int)+1=((nm.length+1:Nat):Int):=by omega
 have d1:cutD (.str (ofL ln)) (some ((nm.length+1:Nat):Int)) none=some (.str (ofL rest)):=by
  rw[drop_s (by rw[ef];simp) (by omega),ef]
  congr 3
  rw[show nm++58::rest=(nm++[58])++rest by simp,show nm.length+1=(nm++[58]).length by simp,List.drop_left]
 have ii:((i:Int)==(i:Int))=true:=by simp
 apply ul
 unfold lA rA
 walk_at "vc: Eo xq t_co p1 f W_dGet1 dk_1 dk_s ky_s gk Option.getD_some ii ln1 ce d1 fd"
theorem F_plan{acts rs:List (List Nat)}{many:Nat}{rows:List (List Dr)}{lns:List (List Nat)}(P:Pn acts rs many rows lns):iU [.str (ofL (jn [10] (bu acts::lns)))]=.ok (plan cF acts rows):=by
 have hm:=P.m48
 have hl:=P.l
 have h1:=P.m1
 have hh:10∉bu acts/\(bu acts).length<=200:=by
  constructor
  .intro h
   rcases rG h with h | ⟨t,ht,h⟩
   .simp at h
   .rcases List.mem_cons.mp ht with rfl | ht
    .simp at h
    .have:=vK P.N t ht 10 h
     omega
  .have h8:=P.N.hi
   have sl:(([97,99,116,105,111,110,115]::acts).map List.length).sum<=([97,99,116,105,111,110,115]::acts).length*8:=iu λt ht=>by
    rcases List.mem_cons.mp ht with rfl | ht
    .decide
    .exact(P.N.ok t ht).2.1
   have jl:=rF [32] ([97,99,116,105,111,110,115]::acts)
   simp only[List.length_cons,List.length_nil,Nat.zero_add] at sl jl
   show (jn _ _).length<=200
   omega
 have hf:∀q∈bu acts::lns,10∉q:=λq hq=>by
  rcases List.mem_cons.mp hq with rfl | hq
  .exact hh.1
  .obtain⟨i,hi⟩:=List.getElem?_of_mem hq
   obtain⟨row,nm,os,_,_,_,I,hn,_,_,ef,_⟩:=P.line hi
   intro h
   rw[ef] at h
   rcases List.mem_append.mp h with h | h
   .exact(Lf hn).2.1 h
   .rcases List.mem_cons.mp h with h | h
    .omega
    .split at h
     .cases h
     .rcases List.mem_cons.mp h with h | h
      .omega
      .rcases rG h with h | ⟨t,ht,h⟩
       .simp at h
       .obtain⟨a,_,rfl⟩:=List.mem_map.mp ht
        exact(I.CQ a 10 h).2.2.2 rfl
 have sl:((bu acts::lns).map List.length).sum<=(bu acts::lns).length*300:=iu λt ht=>by
  rcases List.mem_cons.mp ht with rfl | ht
  .omega
  .obtain⟨i,hi⟩:=List.getElem?_of_mem ht
   obtain⟨_,_,_,_,_,_,_,_,_,_,_,l3⟩:=P.line hi
   exact l3
 have jl:=rF [10] (bu acts::lns)
 simp only[List.length_cons,List.length_nil,Nat.zero_add] at sl jl
 have sp:ir (ofL (jn [10] (bu acts::lns))) (ofL [10])=some (.lst (.str (ofL (bu acts))::ak lns)):=Jv (by simp) hf (by omega) (by simp;omega)
 have fa:=F_readA P.N
 have fn:=F_named P
 have cl:vU (.str (ofL (bu acts))::ak lns) (some 1) none=ak lns:=Aw (λl=>D.str (ofL l)) (bu acts::lns) 1
 have nl:(ak lns).length=many:=by simp[ak,hl]
 have n1:((((ak lns).length+1:Nat):Int)==1)=false:=by rw[nl,beq_eq_false_iff_ne];omega
 have en:=jb (λl:List Nat=>D.str (ofL l)) lns 0
 have sq:DL.gY (.lst (ak lns))=some (lns.map λl=>D.str (ofL l)):=rfl
 have pl:qj [.lst (ak acts),.lst (rows.map λr=>.lst (r.map Dr.e))]=_:=F_initQ F_told_e F_made_e false many acts rows P.N P.R h1 (by omega)
 apply ul
 unfold iU rm
 walk_at "vc: Eo xq t_nl sp fa n1 cl fn W_enum sq en"
 generalize hb:mq=body
 refine jP (λp:List Nat×Nat=>D.tup [.int p.2,.str (ofL p.1)]) (λdone δ=>∃x5 x6 x7,δ=[some (.sh (.str (ofL (jn [10] (bu acts::lns))))),some (.sh (.lst (.str (ofL (bu acts))::ak lns))),some (.sh (.lst (ak acts))),some (.sh (.dK (kv rs))),some (.ol ((rows.take done.length).map λr=>.lst (r.map Dr.e))),x5,x6,x7]) (List.zipIdx lns 0) ⟨_,_,_,rfl⟩ ?_ ?_
 .rintro⟨ln,i⟩ done rest δ e ⟨x5,x6,x7,rfl⟩
  have q:=List.mem_zipIdx (show (ln,i)∈List.zipIdx lns 0 by rw[e];simp)
  have g:=congrArg (λl=>l[done.length]?) e
  simp at q g
  have hi:done.length=i:=by obtain⟨_,_,g3⟩:=g;exact g3.2
  have el:lns[i]?=some ln:=by rw[q.2];exact List.getElem?_eq_getElem q.1
  obtain⟨row,er,fr⟩:=F_room P el
  have l9:((rows.take i).map λr=>D.lst (r.map Dr.e)).length<16777216:=by simp;omega
  have te:((rows.take (i+1)).map λr=>D.lst (r.map Dr.e))=((rows.take i).map λr=>D.lst (r.map Dr.e))++[.lst (row.map Dr.e)]:=by
   rw[List.take_add_one,er,List.map_append]
   rfl
  subst hb
  unfold mq
  rw[hi]
  walk_at "vc: fr l9"
  exact⟨_,_,_,by rw[List.length_append,hi,List.length_singleton,te]⟩
 .rintro δ ⟨x5,x6,x7,rfl⟩
  rw[List.length_zipIdx,hl,←P.R.n,List.take_length]
  walk_at "vc: pl"
  rfl
end K9
namespace K9
open PySem L2 MX DL
theorem Gk(r:List Dr)(h:r.length<=100):iV [.tup (r.map Dr.ob)]=.ok (r.map Dr.d):=by
 unfold iV rC runL LQ
 have e:=iC (cap:=[none]) (fi:=ik (gv 0)) (fe:=mC) (δ:=[some (.sh (.tup (r.map Dr.ob)))]) Dr.ob Dr.d r rfl (by omega) (λx _=>by
  unfold mC
  exact M_told' x _ _ rfl)
 walk_at "ev: e endF"
section
variable{c many:Nat}{t:Bool}{ns:List (List Nat)}{rows:List (List Dr)}{δ:DSt}{fo:DSt->Out D}
theorem M_acts(P:Pl c many t ns rows)(h:fo δ=.ok (plan c ns rows)):oM "action_list" 1 (tabD bH) fo aM δ=.ok (.lst (ak ns)):=by
 unfold plan at h
 rcases P.c with rfl | rfl <;> walk_at "ev: h tabD dOf bH gD cF cT eY runL LQ endF jQ"
theorem F_told_p(P:Pl c many t ns rows):fZ [plan c ns rows]=.ok (rows.map λr=>r.map Dr.d):=by
 have hn:=P.R.n
 have h8:=P.N.hi
 have h60:=P.hi
 have f:(oFld "rooms" [gD,cF] (gv 0)) [some (.sh (plan c ns rows))]=.ok (Fz rows):=by
  unfold plan
  rcases P.c with rfl | rfl <;> walk_at "ev: gD cF"
 have e:=iC (cap:=[none]) (fi:=ik (oFld "rooms" [gD,cF] (gv 0))) (fe:=j6) (δ:=[some (.sh (plan c ns rows))]) (λr:List Dr=>D.tup (r.map Dr.ob)) (λr=>r.map Dr.d) rows (by
   unfold ik;rw[f];rfl) (by omega) (λr hr=>by
  unfold j6
  have e:=Gk r (by rw[(P.R.row r hr).1];omega)
  show oFl 1 iV (az (gv 0) aM) [some (.sh (.tup (r.map Dr.ob)))]=_
  walk_at "ev: e oFl")
 unfold fZ nW runLL Oz
 walk_at "ev: e endFF"
theorem uO(P:Pl c many t ns rows)(h:fo δ=.ok (plan c ns rows)):oM "told" 1 (tQ bO) fo aM δ=.ok (bQ rows):=by
 have e:=F_told_p P
 unfold plan at h e
 have m:∀l:List (List Dr),List.map D.lst (l.map λr=>r.map Dr.d)=l.map λr=>D.lst (r.map Dr.d):=λl=>by simp
 rcases P.c with rfl | rfl <;> · simp only[gD,cF] at h e;walk_at "ev: h tQ dOff bO gD cF e bQ m"
end
theorem Pn.lj{acts rs:List (List Nat)}{many:Nat}{rows:List (List Dr)}{lns:List (List Nat)}(P:Pn acts rs many rows lns):(((bu acts)::lns).map List.length).sum+((bu acts)::lns).length*[10].length<=16777216:=by
 have N:=P.N
 have ll:=P.l
 have m48:=P.m48
 have hh:(bu acts).length<=300:=by
  have h8:=N.hi
  have sl:(([97,99,116,105,111,110,115]::acts).map List.length).sum<=([97,99,116,105,111,110,115]::acts).length*8:=iu λt ht=>by
   rcases List.mem_cons.mp ht with rfl | ht
   .decide
   .exact(N.ok t ht).2.1
  have jl:=rF [32] ([97,99,116,105,111,110,115]::acts)
  simp only[List.length_cons,List.length_nil,Nat.zero_add] at sl jl
  show (jn _ _).length<=300
  omega
 have sl:((bu acts::lns).map List.length).sum<=(bu acts::lns).length*300:=iu λt ht=>by
  rcases List.mem_cons.mp ht with rfl | ht
  .exact hh
  .obtain⟨i,hi⟩:=List.getElem?_of_mem ht
   obtain⟨_,_,_,_,_,_,_,_,_,_,_,l3⟩:=P.line hi
   exact l3
 simp only[List.length_cons,List.length_nil,Nat.zero_add] at sl ⊢
 omega
end K9
namespace K9
open PySem L2 MX DL
def dgs(n:Nat):List Nat:=if n<10 then [48+n] else [48+n / 10,48+n % 10]
theorem Qq:∀k:Fin 48,Str.ofString (toString ((k.val:Nat):Int))=ofL (dgs k.val):=by decide +kernel
theorem K8{n:Nat}(h:n<48):(((n:Nat):Int).natAbs).log2<1920:=by
 have:=Nat.log2_le_self n
 show Nat.log2 n<1920
 omega
theorem O7{n:Nat}(h:n<48):strD (.int (n:Nat))=some (.str (ofL (dgs n))):=by
 have:=Qq ⟨n,h⟩
 unfold strD
 dsimp only
 rw[if_pos (K8 h)]
 show some (D.str (Str.ofString (toString ((n:Nat):Int))))=_
 rw[this]
theorem fmt_i{n:Nat}(h:n<48):fmtD (.int (n:Nat))=some (ofL (dgs n)):=by
 have:=Qq ⟨n,h⟩
 unfold fmtD
 dsimp only
 rw[if_pos (K8 h),this]
theorem fmt_s{l:List Nat}(h:l.length<=100000):fmtD (.str (ofL l))=some (ofL l):=by
 unfold fmtD
 dsimp only
 rw[if_pos (by rw[bz];exact h)]
def rnm(n:Nat):List Nat:=114::dgs n
def rsN(many:Nat):List (List Nat):=(List.range many).map rnm
theorem yh(n:Nat):(dgs n).length<=2:=by unfold dgs;split <;> simp
theorem Ox{many:Nat}(h:many<=48):nG (rsN many) many:=by
 refine⟨by simp[rsN],λl hl=>?_,?_⟩
 .obtain⟨k,hk,rfl⟩:=List.mem_map.mp hl
  have hk:=List.mem_range.mp hk
  have:=yh k
  refine⟨by simp[rnm];omega,⟨114,_,rfl,by decide,by decide⟩,λc hc=>?_⟩
  rcases List.mem_cons.mp hc with rfl | hc
  .exact .inl ⟨by decide,by decide⟩
  .unfold dgs at hc
   unfold sgR
   split at hc <;> simp only[List.mem_cons,List.not_mem_nil,or_false] at hc <;> omega
 .refine nodup_range λi j ij hj e=>?_
  unfold rnm dgs at e
  simp only[List.cons.injEq,true_and] at e
  split at e <;> split at e <;> simp only[List.cons.injEq,and_true,List.nil_eq,List.cons_ne_nil,reduceCtorEq,and_false] at e <;> omega
theorem rsN_at{many t:Nat}(h:t<many):(rsN many).getD t []=rnm t:=by
 unfold rsN
 rw[List.getD_eq_getElem?_getD,List.getElem?_map,List.getElem?_range h]
 rfl
def dln(acts:List (List Nat))(rows:List (List Dr))(many i:Nat):List Nat:=dj (rnm i) ((tells (rows.getD i [])).map (tx acts (rsN many) (rows.getD i [])))
def vY(acts:List (List Nat))(rows:List (List Dr))(many:Nat):List (List Nat):=(List.range many).map (dln acts rows many)
theorem NP{acts:List (List Nat)}{rows:List (List Dr)}{many:Nat}(N:Names acts)(R:Rows many acts.length false rows)(m1:1<=many)(m48:many<=48):Pn acts (rsN many) many rows (vY acts rows many):=by
 refine⟨N,Ox m48,R,m1,m48,by simp[vY],λi ln h=>?_⟩
 have hi:i<many:=by
  have:=(List.getElem?_eq_some_iff.mp h).1
  simpa[vY] using this
 have er:=List.getElem?_eq_getElem (show i<rows.length by rw[R.n];exact hi)
 have g:rows.getD i []=rows[i]'(by rw[R.n];exact hi):=by rw[List.getD_eq_getElem?_getD,er];rfl
 unfold vY at h
 rw[List.getElem?_map,List.getElem?_range hi] at h
 cases h
 refine⟨rows.getD i [],rnm i,tells (rows.getD i []),by rw[er,g],?_,.refl _,rfl⟩
 unfold rsN
 rw[List.getElem?_map,List.getElem?_range hi]
 rfl
theorem Qa(s t:List Nat):∀ts:List (List Nat),ts≠[]->jn s (ts++[t])=jn s ts++s++t
 | [],h=>absurd rfl h
 | [p],_=>rfl
 | p::q::r,_=>by
  show jn s (p::q::(r++[t]))=_
  rw[iI,iI,show q::(r++[t])=(q::r)++[t] from rfl,Qa s t (q::r) (by simp)]
  simp only[List.append_assoc]
theorem line_s0(nm t:List Nat):dj nm [t]=nm++[58]++[32]++t:=by
 unfold dj
 simp[jn]
theorem line_s1{nm t:List Nat}{ts:List (List Nat)}(h:ts≠[]):dj nm (ts++[t])=dj nm ts++[44]++[32]++t:=by
 unfold dj
 rw[Qa _ _ _ h]
 cases ts with
 | nil=>exact absurd rfl h
 | cons a b=>simp
theorem jn_ne{s:List Nat}:∀{ts:List (List Nat)},ts≠[]->(∀t∈ts,t≠[])->jn s ts≠[]
 | [],h,_=>absurd rfl h
 | [p],_,k=>k p List.mem_cons_self
 | p::q::r,_,k=>by
  rw[iI]
  have:=k p List.mem_cons_self
  simp[this]
theorem Ra{nm:List Nat}{ts:List (List Nat)}(h:∀t∈ts,t≠[]/\∀c∈t,c<123/\c≠58):∃l c,dj nm ts=l++[c]/\c<1000/\decide (c=58)=ts.isEmpty:=by
 cases ts with
 | nil=>exact⟨nm,58,rfl,by decide,rfl⟩
 | cons a b =>
  have ne:=jn_ne (s:=[44,32]) (ts:=a::b) (by simp) λt ht=>(h t ht).1
  have e:=List.dropLast_concat_getLast ne
  have hc:=List.getLast_mem ne
  have k:(jn [44,32] (a::b)).getLast ne<123/\(jn [44,32] (a::b)).getLast ne≠58:=by
   rcases rG hc with h1 | ⟨t,ht,h1⟩
   .simp only[List.mem_cons,List.not_mem_nil,or_false] at h1
    omega
   .exact(h t ht).2 _ h1
  refine⟨nm++[58,32]++(jn [44,32] (a::b)).dropLast,(jn [44,32] (a::b)).getLast ne,?_,by omega,by simp[k.2]⟩
  show nm++[58,32]++jn [44,32] (a::b)=_
  rw[List.append_assoc (nm++[58,32]),e]
theorem ix_last{l:List Nat}{c:Nat}(hl:(l++[c]).length<=1000):ixD (.str (ofL (l++[c]))) (.int (-1))=some (.str (ofL [c])):=by
 show (if (ofL (l++[c])).length<=sizeLine then (atI (ofL (l++[c])).cps.toList (-1)).map λc=>D.str ⟨#[c]⟩ else none)=_
 rw[bz,if_pos (Nat.le_trans hl (by decide)),toL_of]
 unfold atI ixN
 have e:((-1:Int)+((l++[c]).length:Nat)).toNat=l.length:=by simp;omega
 rw[if_neg (by decide),if_pos (by simp;omega),e]
 show ((l++[c])[l.length]?).map _=_
 rw[List.getElem?_append_right (Nat.le_refl _),Nat.sub_self]
 rfl
theorem t_br:Str.ofString " r"=ofL [32,114]:=by decide +kernel
theorem t_r:Str.ofString "r"=ofL [114]:=by decide +kernel
theorem t_cm:Str.ofString ","=ofL [44]:=by decide +kernel
end K9
namespace K9
open PySem L2 MX DL
theorem line_le{acts:List (List Nat)}{many:Nat}{row:List Dr}(I:In acts (rsN many) many row){i:Nat}{os:List Nat}(h:os.length<=8):(dj (rnm i) (os.map (tx acts (rsN many) row))).length<=300:=by
 have sl:((os.map (tx acts (rsN many) row)).map List.length).sum<=(os.map (tx acts (rsN many) row)).length*22:=iu λt ht=>by
  obtain⟨a,_,rfl⟩:=List.mem_map.mp ht
  exact I.FT a
 have jl:=rF [44,32] (os.map (tx acts (rsN many) row))
 simp only[List.length_map,List.length_cons,List.length_nil,Nat.zero_add] at sl jl
 have:=yh i
 unfold dj rnm
 split <;> simp <;> omega
theorem In.tx_t{acts:List (List Nat)}{many:Nat}{row:List Dr}(I:In acts (rsN many) many row)(os:List Nat):∀t∈os.map (tx acts (rsN many) row),t≠[]/\∀c∈t,c<123/\c≠58:=by
 intro t ht
 obtain⟨a,_,rfl⟩:=List.mem_map.mp ht
 refine⟨by unfold tx;simp,λc hc=>?_⟩
 have:=I.CQ a c hc
 exact⟨this.1,this.2.2.1⟩
def mZ(acts:List (List Nat))(row:List Dr)(many i:Nat)(done:List Nat):List Nat:=dj (rnm i) ((done.filter λa=>alw (row.getD a .shut)).map (tx acts (rsN many) row))
theorem F_due{acts:List (List Nat)}{rows:List (List Dr)}{many:Nat}(N:Names acts)(R:Rows many acts.length false rows)(m1:1<=many)(m48:many<=48):nj [.lst (ak acts),bQ rows]=.ok (.str (ofL (jn [10] (bu acts::vY acts rows many)))):=by
 have h8:=N.hi
 have P:=NP N R m1 m48
 have r1:=λPL=>rg_n (PL:=PL) (n:=many) (by omega)
 have r2:=λPL=>rg_n (PL:=PL) (n:=acts.length) (by omega)
 have ln:(ak acts).length=acts.length:=by simp[ak]
 have sl:(acts.map List.length).sum<=acts.length*8:=iu λt ht=>(N.ok t ht).2.1
 have jl:=rF [32] acts
 have k1:jr (ofL [32]) (.lst (ak acts))=_:=rH (by simp;omega)
 have k2:bw (.str (ofL [97,99,116,105,111,110,115,32])) (.str (ofL (jn [32] acts)))=some (.str (ofL (bu acts))):=by rw[fU (by simp at jl ⊢;omega),PK N.lo]
 have ej:jr (ofL [10]) (.lst (ak (bu acts::vY acts rows many)))=_:=rH P.lj
 apply ul
 unfold nj uV
 (have zv0:=K6 R;walk_at "vc: t_ab t_sp nM xq k1 k2 zv0 r1")
 refine jP (λi:Nat=>D.int (i:Nat)) (λdone δ=>∃x3 x4 x5 x6 x7 x8,δ=[some (.sh (.lst (ak acts))),some (.sh (bQ rows)),some (.ol (ak (bu acts::done.map (dln acts rows many)))),x3,x4,x5,x6,x7,x8]) (List.range many) ⟨_,_,_,_,_,_,rfl⟩ ?_ ?_
 .rintro i done rest δ e ⟨x3,x4,x5,x6,x7,x8,rfl⟩
  have hi:i<many:=List.mem_range.mp (by rw[e];simp)
  have l0:=congrArg List.length e
  simp at l0
  have er:=List.getElem?_eq_getElem (show i<rows.length by rw[R.n];exact hi)
  have g:rows.getD i []=rows[i]'(by rw[R.n];exact hi):=by rw[List.getD_eq_getElem?_getD,er];rfl
  have hr:=R.row _ (List.getElem_mem (show i<rows.length by rw[R.n];exact hi))
  generalize rows[i]'(by rw[R.n];exact hi)=row at er hr g
  have I:In acts (rsN many) many row:=⟨N,Ox m48,hr.1,hr.2⟩
  have hl:=I.l
  have dl:=yh i
  have k3:bw (.str (ofL [114])) (.str (ofL (dgs i)))=_:=fU (by simp;omega)
  have k4:bw (.str (ofL ([114]++dgs i))) (.str (ofL [58]))=_:=fU (by simp;omega)
  unfold wL
  (have zv0:=O7 (show i<48 by omega);walk_at "vc-List.append_assoc-List.cons_append-List.nil_append: t_r zv0 t_co k3 k4 ln r2")
  refine jP (λa:Nat=>D.int (a:Nat)) (λdn δ=>∃x5 x6 x7 x8,δ=[some (.sh (.lst (ak acts))),some (.sh (bQ rows)),some (.ol (ak (bu acts::done.map (dln acts rows many)))),some (.sh (.int (i:Nat))),some (.sh (.str (ofL (mZ acts row many i dn)))),x5,x6,x7,x8]) (List.range acts.length) ⟨_,_,_,_,rfl⟩ ?_ ?_
  .rintro a dn rest' δ e' ⟨x5,x6,x7,x8,rfl⟩
   have ha:a<acts.length:=List.mem_range.mp (by rw[e'];simp)
   have l1:=congrArg List.length e'
   simp at l1
   have ex:=List.getElem?_eq_getElem (show a<row.length by omega)
   have okx:=I.ok _ (List.getElem_mem (show a<row.length by omega))
   have gx:row.getD a .shut=row[a]'(by omega):=by rw[List.getD_eq_getElem?_getD,ex];rfl
   have ea:=List.getElem?_eq_getElem ha
   have ga:acts.getD a []=acts[a]:=by rw[List.getD_eq_getElem?_getD,ea];rfl
   have la:=(N.ok _ (List.getElem_mem ha)).2.1
   generalize hx:row[a]'(by omega)=x at ex okx gx
   generalize hac:acts[a]=ac at ea ga la
   have lf:(dn.filter λa=>alw (row.getD a .shut)).length<=8:=Nat.le_trans (List.length_filter_le _ _) (by omega)
   have lw:=line_le I (i:=i) lf
   obtain⟨l,c,el,hc,de⟩:=Ra (nm:=rnm i) (I.tx_t (dn.filter λa=>alw (row.getD a .shut)))
   have en:mZ acts row many i dn=l++[c]:=el
   have ix:ixD (.str (ofL (mZ acts row many i dn))) (.int (-1))=some (.str (ofL [c])):=by
    rw[en]
    exact ix_last (by rw[←el];omega)
   have nq:neD (.str (ofL [c])) (.str (ofL [58]))=some (!(dn.filter λa=>alw (row.getD a .shut)).isEmpty):=by
    unfold neD
    rw[eq_s (by simpa using hc) (by decide)]
    show some (!decide ([c]=[58]))=_
    rw[show decide ([c]=[58])=decide (c=58) by simp,de,List.isEmpty_map]
   unfold wM
   (have zv0:=PQ er;have zv1:=ix_row ex;have zv2:=Qf okx;walk_at "vc-rE: zv0 zv1 zv2")
   cases al:alw x with
   | false =>
    have fe:mZ acts row many i (dn++[a])=mZ acts row many i dn:=by
     unfold mZ
     rw[List.filter_append,show ([a].filter λa=>alw (row.getD a .shut))=[] by simp only[List.filter_cons,gx,al];rfl,List.append_nil]
    exact⟨_,_,_,_,by rw[fe]⟩
   | true =>
    obtain⟨w1,w2⟩:=Ep al
    have ht:=MJ okx al
    have lwx:=wl_le x
    have dt:=yh x.tn
    have txe:tx acts (rsN many) row a=ac++[32]++x.wl++[32,114]++dgs x.tn:=by
     unfold tx
     rw[gx,ga,rsN_at ht]
     simp[rnm]
    have q1:bw (.str (ofL ac)) (.str (ofL [32]))=_:=fU (by simp;omega)
    have q2:bw (.str (ofL (ac++[32]))) (.str (ofL x.wl))=_:=fU (by simp;omega)
    have q3:bw (.str (ofL (ac++[32]++x.wl))) (.str (ofL [32,114]))=_:=fU (by simp;omega)
    have q4:bw (.str (ofL (ac++[32]++x.wl++[32,114]))) (.str (ofL (dgs x.tn)))=_:=fU (by simp;omega)
    have lq:(mZ acts row many i dn).length<=300:=lw
    have q5:bw (.str (ofL (mZ acts row many i dn))) (.str (ofL [44]))=_:=fU (by simp;omega)
    have q6:bw (.str (ofL (mZ acts row many i dn))) (.str (ofL [32]))=_:=fU (by simp;omega)
    have q7:bw (.str (ofL (mZ acts row many i dn++[44]))) (.str (ofL [32]))=_:=fU (by simp;omega)
    have lt:(tx acts (rsN many) row a).length<=22:=I.FT a
    rw[txe] at lt
    have q8:bw (.str (ofL (mZ acts row many i dn++[32]))) (.str (ofL (ac++[32]++x.wl++[32,114]++dgs x.tn)))=_:=fU (by simp at lt ⊢;omega)
    have q9:bw (.str (ofL (mZ acts row many i dn++[44]++[32]))) (.str (ofL (ac++[32]++x.wl++[32,114]++dgs x.tn)))=_:=fU (by simp at lt ⊢;omega)
    have fd:(dn++[a]).filter (λa=>alw (row.getD a .shut))=(dn.filter λa=>alw (row.getD a .shut))++[a]:=by
     rw[List.filter_append,show ([a].filter λa=>alw (row.getD a .shut))=[a] by simp only[List.filter_cons,gx,al];rfl]
    rw[if_pos rfl,w1,w2]
    cases he:(dn.filter λa=>alw (row.getD a .shut)).isEmpty with
    | true =>
     rw[he] at nq
     (have zv0:=By ea;have zv1:=O7 (show x.tn<48 by omega);walk_at "vc-List.append_assoc-List.cons_append-List.nil_append-rE: ix t_co nq zv0 t_sp t_br zv1 q1 q2 q3 q4 q6 q8")
     have fe:mZ acts row many i (dn++[a])=mZ acts row many i dn++[32]++(ac++[32]++x.wl++[32,114]++dgs x.tn):=by
      have z:=List.isEmpty_iff.mp he
      unfold mZ
      rw[fd,z,List.nil_append,List.map_cons,List.map_nil,line_s0,txe]
      rfl
     exact⟨_,_,_,_,by rw[fe]⟩
    | false =>
     rw[he] at nq
     (have zv0:=By ea;have zv1:=O7 (show x.tn<48 by omega);walk_at "vc-List.append_assoc-List.cons_append-List.nil_append-rE: ix t_co nq t_cm zv0 t_sp t_br zv1 q1 q2 q3 q4 q5 q7 q9")
     have fe:mZ acts row many i (dn++[a])=mZ acts row many i dn++[44]++[32]++(ac++[32]++x.wl++[32,114]++dgs x.tn):=by
      unfold mZ
      rw[fd,List.map_append,List.map_cons,List.map_nil,line_s1 (by intro z;rw[List.map_eq_nil_iff] at z;rw[z] at he;cases he),txe]
     exact⟨_,_,_,_,by rw[fe]⟩
  .rintro δ ⟨x5,x6,x7,x8,rfl⟩
   have l9:(ak (bu acts::done.map (dln acts rows many))).length<16777216:=by simp[ak];omega
   have fe:mZ acts row many i (List.range acts.length)=dln acts rows many i:=by
    unfold mZ dln tells
    rw[g,hl]
   walk_at "vc: l9 fe"
   exact⟨_,_,_,_,_,_,by unfold ak;rw[List.map_append,←List.cons_append,List.map_append];rfl⟩
 .rintro δ ⟨x3,x4,x5,x6,x7,x8,rfl⟩
  have ej:jr (ofL [10]) (.lst (ak (bu acts::(List.range many).map (dln acts rows many))))=_:=ej
  walk_at "vc: nM xq t_nl ej"
end K9
namespace K9
open PySem L2 MX DL
def dtx(name:List Nat)(x:Dr):List Nat:=name++[32]++x.wl++[32]++rnm x.tn
theorem HR:Str.empty=ofL []:=rfl
theorem F_dtx{name:List Nat}{x:Dr}(hn:name.length<=8)(al:alw x=true)(ht:x.tn<48):lu [.str (ofL name),x.d]=.ok (.str (ofL (dtx name x))):=by
 obtain⟨w1,w2⟩:=Ep al
 have lw:=wl_le x
 have dl:=yh x.tn
 have ed:x.d=.tup [.str (ofL x.wl),.int (x.tn:Nat)]:=by
  show D.tup [.str x.w,x.to]=_
  rw[w1,w2]
 rw[ed]
 have e1:name.length<=1000000:=by omega
 have e2:x.wl.length<=1000000:=by omega
 have e3:(dgs x.tn).length<=1000000:=by omega
 apply ul
 unfold lu qY
 (have zv0:=fmt_s (show name.length<=100000 by omega);have zv1:=fmt_s (show x.wl.length<=100000 by omega);have zv2:=fmt_i ht;walk_at "vc: Nr GC Nm Np Nq zv0 zv1 zv2 t_sp t_br bz e1 e2 e3 HR oK")
 unfold dtx rnm
 simp
theorem ne_S{x:Dr}{many:Nat}(h:x.ok many false):neD x.d (.rot [.str "shut",.non])=some (alw x):=by
 have l1:dw 50 (.rot [.str "shut",.non])=true:=Qc
 cases x with
 | must n =>
  rw[wR (lay_d _ 49) l1]
  rfl
 | may n =>
  rw[wR (lay_d _ 49) l1]
  rfl
 | shut =>
  rw[wR (lay_d _ 49) l1]
  rfl
 | torn=>cases h
theorem zip_eq(acts:List (List Nat))(row:List Dr)(h:row.length=acts.length):List.zip acts row=(List.range row.length).map λa=>(acts.getD a [],row.getD a .shut):=by
 refine List.ext_getElem? λi=>?_
 by_cases hi:i<row.length
 .have h1:=List.getElem?_eq_getElem hi
  have h2:=List.getElem?_eq_getElem (show i<acts.length by omega)
  rw[List.getElem?_map,List.getElem?_range hi,(List.getElem?_zip_eq_some (z:=(acts[i]'(by omega),row[i]))).mpr ⟨h2,h1⟩,Option.map_some,List.getD_eq_getElem?_getD,List.getD_eq_getElem?_getD,h1,h2]
  rfl
 .rw[List.getElem?_eq_none (by rw[List.length_zip];omega),List.getElem?_eq_none (by rw[List.length_map,List.length_range];omega)]
theorem RD{acts:List (List Nat)}{many:Nat}{row:List Dr}(I:In acts (rsN many) many row):((List.zip acts row).filter λq=>alw q.2).map (λq=>dtx q.1 q.2)=(tells row).map (tx acts (rsN many) row):=by
 rw[zip_eq _ _ I.l,List.filter_map,List.map_map]
 unfold tells
 refine List.map_congr_left λa ha=>?_
 obtain⟨h1,h2⟩:=List.mem_filter.mp ha
 have h1:=List.mem_range.mp h1
 have h2:alw (row.getD a .shut)=true:=h2
 have ok:(row.getD a .shut).ok many false:=by
  have ex:=List.getElem?_eq_getElem h1
  rw[List.getD_eq_getElem?_getD,ex]
  exact I.ok _ (List.getElem_mem h1)
 show dtx (acts.getD a []) (row.getD a .shut)=_
 unfold dtx tx
 rw[rsN_at (MJ ok h2)]
theorem Qv{α β:Type}(f:α->D)(g:β->D):∀(xs:List α)(ys:List β),pM (xs.map f) (ys.map g)=(List.zip xs ys).map λq=>D.tup [f q.1,g q.2]
 | [],_=>by simp[pM]
 | _::_,[]=>by simp[pM]
 | x::xs,y::ys=>by
  rw[List.map_cons,List.map_cons,List.zip_cons_cons,List.map_cons]
  show _::pM (xs.map f) (ys.map g)=_
  rw[Qv f g xs ys]
theorem F_rtx{acts:List (List Nat)}{many:Nat}{row:List Dr}(I:In acts (rsN many) many row){i:Nat}(hi:i<48)(m48:many<=48):lB [.int (i:Nat),.lst (row.map Dr.d),.lst (ak acts)]=.ok (.str (ofL (dj (rnm i) ((tells row).map (tx acts (rsN many) row))))):=by
 have hl:=I.l
 have h8:=I.N.hi
 have co:∀s3 s4:Option Sl,cO [none,none] (zipO (gv 2) (gv 1)) (gT 2 (bj (gN 0) (bj (gN 1) dZ))) (o2b neD (gb 1) (kc (.rot [.str "shut",.non]))) mz [some (.sh (.int (i:Nat))),some (.sh (.lst (row.map Dr.d))),some (.sh (.lst (ak acts))),s3,s4]=.ok (ak ((tells row).map (tx acts (rsN many) row))):=by
  intro s3 s4
  have zi:zipO (gv 2) (gv 1) [some (.sh (.int (i:Nat))),some (.sh (.lst (row.map Dr.d))),some (.sh (.lst (ak acts))),s3,s4]=.ok ((List.zip acts row).map λq=>D.tup [.str (ofL q.1),q.2.d]):=by
   show Out.ok (pM (acts.map λl=>D.str (ofL l)) (row.map Dr.d))=_
   rw[Qv]
  unfold cO
  rw[zi]
  show (if ((List.zip acts row).map λq=>D.tup [.str (ofL q.1),q.2.d]).length<sizeLine then _ else _)=_
  rw[if_pos (by rw[List.length_map,List.length_zip];exact Nat.lt_of_le_of_lt (Nat.le_trans (Nat.min_le_left _ _) h8) (by decide)),←RD I]
  refine(Hg (λq:List Nat×Dr=>D.str (ofL q.1)) (λq=>q.2.d) (λq=>alw q.2) (λq=>D.str (ofL (dtx q.1 q.2))) [] (List.zip acts row) none none (λq hq=>?_) λq hq al=>?_).trans ?_
  .have ok:=I.ok q.2 (List.of_mem_zip (a:=q.1) (b:=q.2) hq).2
   show (Out.ok q.2.d).bind (λx=>(Out.ok _).bind λy=>Out.opt (neD x y))=_
   show Out.opt (neD q.2.d (.rot [.str "shut",.non]))=_
   rw[ne_S ok]
   rfl
  .obtain⟨m1,m2⟩:=List.of_mem_zip (a:=q.1) (b:=q.2) hq
   have:=F_dtx (I.N.ok _ m1).2.1 al (by have:=MJ (I.ok _ m2) al;omega)
   unfold mz
   walk_at "ev: this"
  .unfold ak
   rw[List.map_map]
   rfl
 have lt:(tells row).length<=8:=by have:=xn row;omega
 have sl:(((tells row).map (tx acts (rsN many) row)).map List.length).sum<=((tells row).map (tx acts (rsN many) row)).length*22:=iu λt ht=>by
  obtain⟨a,_,rfl⟩:=List.mem_map.mp ht
  exact I.FT a
 have jl:=rF [44,32] ((tells row).map (tx acts (rsN many) row))
 simp only[List.length_map,List.length_cons,List.length_nil,Nat.zero_add] at sl jl
 have ej:jr (ofL [44,32]) (.lst (ak ((tells row).map (tx acts (rsN many) row))))=_:=rH (by rw[List.length_map];simp only[List.length_cons,List.length_nil,Nat.zero_add];omega)
 have en:=PB _ (N8 (ts:=(tells row).map (tx acts (rsN many) row)) λt ht c hc=>by obtain⟨a,_,rfl⟩:=List.mem_map.mp ht;have:=(I.CQ a c hc).1;omega)
 have e2:(jn [44,32] ((tells row).map (tx acts (rsN many) row))).length<=1000000:=by omega
 have e3:(dgs i).length<=1000000:=by have:=yh i;omega
 have f1:=fmt_s (show (jn [44,32] ((tells row).map (tx acts (rsN many) row))).length<=100000 by omega)
 have ne:(ak ((tells row).map (tx acts (rsN many) row))).isEmpty=((tells row).map (tx acts (rsN many) row)).isEmpty:=by unfold ak;rw[List.isEmpty_map]
 rw[ne] at en
 apply ul
 unfold lB rB
 generalize (tells row).map (tx acts (rsN many) row)=ts at co ej en e2 f1
 cases ts with
 | nil =>
  (have zv0:=fmt_i hi;walk_at "vc-xZ: co en Nr GC Nm Np Nq zv0 t_r t_co bz e3 HR oK List.isEmpty_nil")
  unfold dj rnm
  simp
 | cons t ts =>
  (have zv0:=fmt_i hi;walk_at "vc-xZ: co en Nr GC Nm Np Nq zv0 t_r t_cb t_cs nM xq ej f1 bz e2 e3 HR oK List.isEmpty_cons")
  unfold dj rnm
  simp
theorem F_ptx{acts:List (List Nat)}{rows:List (List Dr)}{many:Nat}(N:Names acts)(R:Rows many acts.length false rows)(m1:1<=many)(m48:many<=48):fP [plan cF acts rows]=.ok (.str (ofL (jn [10] (bu acts::vY acts rows many)))):=by
 have h8:=N.hi
 have P:=NP N R m1 m48
 have Q:Pl cF many false acts rows:=⟨.inr rfl,N,R,m1,by omega⟩
 have ej:jr (ofL [10]) (.lst (ak (bu acts::vY acts rows many)))=_:=rH P.lj
 have a2:∀s1 s2:Option Sl,oM "action_list" 1 (tabD bH) (gv 0) aM [some (.sh (plan cF acts rows)),s1,s2]=.ok (.lst (ak acts)):=λ_ _=>M_acts Q rfl
 have a3:∀s1 s2:Option Sl,oM "told" 1 (tQ bO) (gv 0) aM [some (.sh (plan cF acts rows)),s1,s2]=.ok (bQ rows):=λ_ _=>uO Q rfl
 have ln:(ak acts).length=acts.length:=by simp[ak]
 have sl:(([97,99,116,105,111,110,115]::acts).map List.length).sum<=([97,99,116,105,111,110,115]::acts).length*8:=iu λt ht=>by
  rcases List.mem_cons.mp ht with rfl | ht
  .decide
  .exact(N.ok t ht).2.1
 simp only[List.length_cons] at sl
 have k1:jr (ofL [32]) (.lst (.str (ofL [97,99,116,105,111,110,115])::ak acts))=some (.str (ofL (bu acts))):=rH (ts:=[97,99,116,105,111,110,115]::acts) (by simp only[List.length_cons,List.length_nil];omega)
 have co:∀s2:Option Sl,cO [none,none,some 1] (enum (oM "told" 1 (tQ bO) (gv 0) aM)) (gT 2 (bj (gN 0) (bj (gN 1) dZ))) (λ_=>.ok true) my [some (.sh (plan cF acts rows)),some (.sh (.lst (ak acts))),s2]=.ok (ak (vY acts rows many)):=by
  intro s2
  have zi:enum (oM "told" 1 (tQ bO) (gv 0) aM) [some (.sh (plan cF acts rows)),some (.sh (.lst (ak acts))),s2]=.ok ((List.zipIdx rows 0).map λq=>D.tup [.int q.2,.lst (q.1.map Dr.d)]):=by
   unfold enum
   rw[a3]
   show Out.ok (pO 0 (rows.map λr=>D.lst (r.map Dr.d)))=_
   rw[jb]
  unfold cO
  rw[zi]
  show (if ((List.zipIdx rows 0).map λq=>D.tup [.int q.2,.lst (q.1.map Dr.d)]).length<sizeLine then _ else _)=_
  have lr:(List.zipIdx rows 0).length=many:=by rw[List.length_zipIdx,R.n]
  rw[if_pos (by rw[List.length_map,lr];exact Nat.lt_of_le_of_lt m48 (by decide))]
  refine(Hg (λq:List Dr×Nat=>D.int q.2) (λq=>D.lst (q.1.map Dr.d)) (λ_=>true) (λq=>D.str (ofL (dln acts rows many q.2))) [some (.sh (.lst (ak acts)))] (List.zipIdx rows 0) none none (λq hq=>rfl) λq hq _=>?_).trans ?_
  .have hq:=List.mem_zipIdx_iff_getElem?.mp hq
   have hi:q.2<many:=by rw[←R.n];exact(List.getElem?_eq_some_iff.mp hq).1
   have hr:=R.row q.1 (List.mem_of_getElem? hq)
   have g:rows.getD q.2 []=q.1:=by rw[List.getD_eq_getElem?_getD,hq];rfl
   have:=F_rtx (acts:=acts) (many:=many) (row:=q.1) ⟨N,Ox m48,hr.1,hr.2⟩ (i:=q.2) (by omega) m48
   unfold my
   rw[show dln acts rows many q.2=dj (rnm q.2) ((tells q.1).map (tx acts (rsN many) q.1)) by unfold dln;rw[g]]
   walk_at "ev: this"
  .rw[List.filter_eq_self.mpr λ_ _=>rfl]
   unfold ak vY
   rw[List.map_map,←R.n]
   congr 1
   refine List.ext_getElem? λi=>?_
   rw[List.getElem?_map,List.getElem?_map,List.getElem?_zipIdx]
   by_cases hi:i<rows.length
   .rw[List.getElem?_eq_getElem hi,List.getElem?_range hi]
    simp
   .rw[List.getElem?_eq_none (by omega),List.getElem?_eq_none (by simp;omega)]
    rfl
 have l7:(ak (vY acts rows many)).length=many:=by simp[ak,vY]
 apply ul
 unfold fP qZ
 have l8:1+acts.length<=16777216:=by omega
 have l9:1+many<=16777216:=by omega
 walk_at "vc-xZ-W_oM: a2 t_sp t_ac nM xq W_ext co D.lst.injEq l7 l8 l9 ln k1"
 have ej:jr (ofL [10]) (.lst (.str (ofL (bu acts))::ak (vY acts rows many)))=_:=ej
 walk_at "vc: t_nl ej"
end K9
namespace K9
open PySem L2 MX DL
theorem Pn.ch{acts rs:List (List Nat)}{many:Nat}{rows:List (List Dr)}{lns:List (List Nat)}(P:Pn acts rs many rows lns):∀c∈jn [10] (bu acts::lns),c<1000:=by
 intro c h
 rcases rG h with h | ⟨q,hq,h⟩
 .simp at h
  omega
 .rcases List.mem_cons.mp hq with rfl | hq
  .rcases rG h with h | ⟨t,ht,h⟩
   .simp at h
    omega
   .rcases List.mem_cons.mp ht with rfl | ht
    .simp at h
     omega
    .have:=vK P.N t ht c h
     omega
  .obtain⟨i,hi⟩:=List.getElem?_of_mem hq
   obtain⟨row,nm,os,_,_,_,I,hn,_,_,ef,_⟩:=P.line hi
   rw[ef] at h
   rcases List.mem_append.mp h with h | h
   .have:=(Lf hn).2.2.2 c h
    omega
   .rcases List.mem_cons.mp h with h | h
    .omega
    .split at h
     .cases h
     .rcases List.mem_cons.mp h with h | h
      .omega
      .rcases rG h with h | ⟨t,ht,h⟩
       .simp at h
        omega
       .obtain⟨a,_,rfl⟩:=List.mem_map.mp ht
        have:=(I.CQ a c h).1
        omega
theorem M6(ns:List Int)(hl:ns.length<=63):∃μ,F_law [] [.rol (ns.map .int)]=.ok (.bl true) μ:=by
 obtain⟨c0,ec0⟩:=Ag ns 0 (by decide)
 obtain⟨c1,ec1⟩:=Ag ns 1 (by decide)
 obtain⟨c2,ec2⟩:=Ag ns 2 (by decide)
 have ec0:bB [.rol (ns.map .int),.int 0]=.ok (.int c0):=ec0
 have ec1:bB [.rol (ns.map .int),.int 1]=.ok (.int c1):=ec1
 have ec2:bB [.rol (ns.map .int),.int 2]=.ok (.int c2):=ec2
 obtain⟨many,em,m1,m48⟩:=F_many c0
 have mx:=cU c0 28 (by decide) (by decide)
 obtain⟨u,eu,hu⟩:=gJ (jz c0 28) (m:=8) (by decide)
 simp only[Int.cast_ofNat_Int] at eu
 obtain⟨acts,ea,N,hn⟩:=Qx c1 (1+u) (by omega) (by omega)
 rw[Int.natCast_add] at ea
 simp only[Int.cast_ofNat_Int] at ea
 obtain⟨rs,er,RN⟩:=F_rooms c2 many m1 m48
 obtain⟨rows,ew,R⟩:=F_rowsL ns (rooms:=many) (many:=acts.length) m1 m48 N.hi
 obtain⟨lns,el,ll,T⟩:=F_lines N RN R m48 ns
 have P:Pn acts rs many rows lns:=⟨N,RN,R,m1,m48,ll,T⟩
 have P2:=NP N R m1 m48
 have Q:Pl cF many false acts rows:=⟨.inr rfl,N,R,m1,by omega⟩
 have ln:(ak acts).length=acts.length:=by simp[ak]
 have ej:jr (ofL [10]) (.lst (ak (bu acts::lns)))=_:=rH P.lj
 have fp:=F_plan P
 have fp2:=F_plan P2
 have ed:=F_due N R m1 m48
 have pt:=F_ptx N R m1 m48
 have lz:=K5 50 P2.ch
 generalize hz:jn [10] (bu acts::vY acts rows many)=z at fp2 ed pt lz
 have n0:=rY lz
 have n9:=Km lz
 have n1:=rY (N8 (ts:=acts) λl hl c hc=>by have:=vK N l hl c hc;omega)
 have n2:=rY (lay_rows rows)
 have is:di (.str (ofL z))=some true:=rfl
 have a7:∀s0 s1 s2 s3 s4 s5 s6 s8 s9 s10:Option Sl,oM "told" 1 (tQ bO) (gv 7) aM [s0,s1,s2,s3,s4,s5,s6,some (.sh (plan cF acts rows)),s8,s9,s10]=.ok (bQ rows):=λ_ _ _ _ _ _ _ _ _ _=>uO Q rfl
 have a9:∀s0 s1 s2 s3 s4 s5 s6 s7 s8 s10:Option Sl,oM "told" 1 (tQ bO) (gv 9) aM [s0,s1,s2,s3,s4,s5,s6,s7,s8,some (.sh (plan cF acts rows)),s10]=.ok (bQ rows):=λ_ _ _ _ _ _ _ _ _ _=>uO Q rfl
 have b9:∀s0 s1 s2 s3 s4 s5 s6 s7 s8 s10:Option Sl,oM "action_list" 1 (tabD bH) (gv 9) aM [s0,s1,s2,s3,s4,s5,s6,s7,s8,some (.sh (plan cF acts rows)),s10]=.ok (.lst (ak acts)):=λ_ _ _ _ _ _ _ _ _ _=>M_acts Q rfl
 have pl:qj [.lst (ak acts),bQ rows]=_:=F_init false many acts rows N R m1 (by omega)
 have mk:∀s0 s1 s2 s4 s6 s7 s8 s9 s10:Option Sl,oMk cF 2 qj (az (oC (one1 Fo) (az (gv 3) aM)) (az (rR (cO [none] (ik (gv 5)) (gN 0) (λ_=>.ok true) Hz)) aM)) [s0,s1,s2,some (.sh (.lst (ak acts))),s4,some (.sh (bQ rows)),s6,s7,s8,s9,s10]=.ok (plan cF acts rows):=by
  intro s0 s1 s2 s4 s6 s7 s8 s9 s10
  have co:cO [none] (ik (gv 5)) (gN 0) (λ_=>.ok true) Hz [s0,s1,s2,some (.sh (.lst (ak acts))),s4,some (.sh (bQ rows)),s6,s7,s8,s9,s10]=.ok (rows.map λr=>D.lst (r.map Dr.d)):=by
   refine iC (λr:List Dr=>D.lst (r.map Dr.d)) (λr=>D.lst (r.map Dr.d)) rows rfl (by rw[R.n];omega) λr _=>?_
   rfl
  have l1:Fo (.lst (ak acts))=some (.lst (ak acts)):=rfl
  unfold bQ at co pl ⊢
  walk_at "ev: co l1 pl"
  rfl
 have key:WS (F_law [] [.rol (ns.map .int)]) λd _=>d=.bl true:=by
  unfold F_law g_law
  walk_at "vs-W_oM-W_oMk-xZ: ec0 em mx ec1 eu ea ec2 er ln ew ed mk pt is n0 a7 n2 fp2 a9 b9 n1 el nM xq t_nl ej fp n9"
 obtain⟨a,μ',e,rfl⟩:=WS_get key
 exact⟨μ',e⟩
end K9
namespace K9
open PySem L2 MX DL
def Mj(K:Frag):Sp:=λvs H Q _=>∃(a:Addr)(ns:List Int),vs=[.ref a]/\SqL K H a (ns.map V.int)/\ns.length<=63/\∀H',Q (.bl true) H'
theorem Lx{K:Frag}{Γ:Nat->Option Addr}{G:Hp}:∀ns:List Int,aC K Γ G (ns.map V.int) (ns.map D.int)
 | []=>.nil
 | n::r=>.cons (.int n) (Lx r)
theorem law_sp{P:Program}{w:World}{K:Frag}{mg:Str->Option Value}{base:Heap}{t:Ad}{f:Addr}{fd:FuncData}(F:ODs P w K mg base (Ga0 t) J_law f fd):bY P w K mg base CX0 10 f fd ["_law_script"] (Mj K):=F.imp λvs H Q E ⟨a,ns,e,hS,hl,k⟩=>by
 subst e
 obtain⟨μ,e⟩:=M6 ns hl
 refine Rq (ds:=[.rol (ns.map .int)]) rfl (.cons (.rol hS (Lx ns)) .nil) e λv L' G' H' r=>?_
 cases r
 exact k H'
set_option maxHeartbeats 8000000 in
theorem all_mk{l:PySem.W.OpenLaw}{w:World}{K:Frag}{h:Heap}{mg:Str->Option Value}{fa:Addr}(X:K.In h)(G:h.Ns mainGlobals mg)(hfa:mg "law"=some (.ref fa))
(gf:GetF K){xH:Addr}(c_Door:zB K "Door" xH){jD:Addr}(Aq:zB K "Must" jD){pU:Addr}(J6:zB K "May" pU){jE:Addr}(Hb:zB K "Shut" jE){jF:Addr}(Hc:zB K "Torn" jF){iw:Addr}(vO:zB K "Draft" iw){lW:Addr}(Ar:zB K "Plan" lW)(eQ:bI K iw "actions")
(gK:bI K iw "rooms")(ud:bI K pU "to")(oE:bI K jD "to")(fK:bI K lW "actions")(iJ:bI K lW "rooms")(oG:bI K jE "to")(oH:bI K jF "to")(z_all:nsIn K mainGlobals "all"=some none)(z_bool:nsIn K mainGlobals "bool"=some none)
(MT:nsIn K mainGlobals "enumerate"=some none)(z_int:nsIn K mainGlobals "int"=some none)(JP:nsIn K mainGlobals "isinstance"=some none)(z_len:nsIn K mainGlobals "len"=some none)(z_list:nsIn K mainGlobals "list"=some none)(z_range:nsIn K mainGlobals "range"=some none)
(Pq:nsIn K mainGlobals "reversed"=some none)(z_set:nsIn K mainGlobals "set"=some none)(z_str:nsIn K mainGlobals "str"=some none)(z_tuple:nsIn K mainGlobals "tuple"=some none)(z_zip:nsIn K mainGlobals "zip"=some none){fV:Addr}(k_Must:MkF K jD fV)
(tV:FX K "__init__" "Door.__init__" sG fV)(k_May:MkF K pU fV){yU:Addr}(k_Shut:MkF K jE yU)(zu:FX K "__init__" "Shut.__init__" sS yU){yW:Addr}(k_Torn:MkF K jF yW)(zy:FX K "__init__" "Torn.__init__" sV yW){nT:Addr}
(k_Draft:MkF K iw nT)(pK:FX K "__init__" "Draft.__init__" oV nT)(k_Plan:MkF K lW nT){yR:Addr}(GJ:findIn K (.ref jD) "word"=some (some (.ref yR)))(zq:FX K "word" "Must.word" sJ yR){Bb:Addr}
(J3:findIn K (.ref pU) "word"=some (some (.ref Bb)))(CV:FX K "word" "May.word" vo Bb){yV:Addr}(GR:findIn K (.ref jE) "word"=some (some (.ref yV)))(zx:FX K "word" "Shut.word" sU yV){yX:Addr}
(GZ:findIn K (.ref jF) "word"=some (some (.ref yX)))(zz:FX K "word" "Torn.word" sW yX){wk:Addr}(at_Must_needs:findIn K (.ref jD) "needs"=some (some (.ref wk)))(JL:FX K "needs" "Must.needs" oZ wk){yQ:Addr}
(at_May_needs:findIn K (.ref pU) "needs"=some (some (.ref yQ)))(MP:FX K "needs" "May.needs" sI yQ){wu:Addr}(at_Shut_needs:findIn K (.ref jE) "needs"=some (some (.ref wu)))(JM:FX K "needs" "Shut.needs" ph wu){ww:Addr}
(at_Torn_needs:findIn K (.ref jF) "needs"=some (some (.ref ww)))(JN:FX K "needs" "Torn.needs" pq ww){uv:Addr}(at_Must_allows:findIn K (.ref jD) "allows"=some (some (.ref uv)))(Ei:FX K "allows" "Must.allows" mG uv){wj:Addr}
(at_May_allows:findIn K (.ref pU) "allows"=some (some (.ref wj)))(JK:FX K "allows" "May.allows" oY wj){uw:Addr}(at_Shut_allows:findIn K (.ref jE) "allows"=some (some (.ref uw)))(Ej:FX K "allows" "Shut.allows" mH uw){ux:Addr}
(at_Torn_allows:findIn K (.ref jF) "allows"=some (some (.ref ux)))(Ek:FX K "allows" "Torn.allows" mJ ux){Bc:Addr}(at_Must_led:findIn K (.ref jD) "led"=some (some (.ref Bc)))(Ph:FX K "led" "Must.led" vp Bc){EY:Addr}
(at_May_led:findIn K (.ref pU) "led"=some (some (.ref EY)))(RC:FX K "led" "May.led" yz EY){Bd:Addr}(at_Shut_led:findIn K (.ref jE) "led"=some (some (.ref Bd)))(Pj:FX K "led" "Shut.led" vq Bd){Be:Addr}(at_Torn_led:findIn K (.ref jF) "led"=some (some (.ref Be)))
(Pk:FX K "led" "Torn.led" vy Be){jd:Addr}(GF:findIn K (.ref jD) "told"=some (some (.ref jd)))(jf:FX K "told" "Door.told" sH jd)(J2:findIn K (.ref pU) "told"=some (some (.ref jd)))(GQ:findIn K (.ref jE) "told"=some (some (.ref jd)))
(GX:findIn K (.ref jF) "told"=some (some (.ref jd))){eX:Addr}(qH:findIn K (.ref iw) "action_list"=some (some (.ref eX)))(fj:FX K "action_list" "Draft.action_list" eZ eX)
(um:findIn K (.ref lW) "action_list"=some (some (.ref eX))){nU:Addr}(Dm:findIn K (.ref iw) "told"=some (some (.ref nU)))(pL:FX K "told" "Draft.told" oX nU)(GP:findIn K (.ref lW) "told"=some (some (.ref nU))){wg:Addr}
(Dl:findIn K (.ref iw) "lets_torn"=some (some (.ref wg)))(xG:FX K "lets_torn" "Draft.lets_torn" oW wg){yS:Addr}(GK:findIn K (.ref lW) "lets_torn"=some (some (.ref yS)))(zr:FX K "lets_torn" "Plan.lets_torn" sO yS)
(inD:findIn K (.ref xH) "__init__"=some (some (.ref fV)))(ca1:PySem.W.specialIn K (.ref xH) "__getattribute__"=some (some (.builtin "type.__getattribute__")))(ca2:PySem.W.readsIn K xH (.type "type")=true)(ca3:PySem.W.findCls K (.ref xH) (.type "type") "__init__"=some (.val (.ref fV)))
{C_SHUT:Addr} {dt_SHUT:Option Addr} {nt_SHUT:Nat} {st_SHUT:Array (Option Value)} {tk0_SHUT:Tok}(G9:nsIn K mainGlobals "SHUT"=some (some (.ref C_SHUT)))(lt_SHUT:K.lookup C_SHUT=some ⟨.type "tuple",dt_SHUT,.seq (Array.mk [.str "shut" tk0_SHUT,.none]) nt_SHUT,st_SHUT⟩){O9:Tok}
(tY:nsIn K mainGlobals "LETTERS"=some (some (.str "abcdefghijklmnopqrstuvwxyz" O9))){tk_MS:Tok}(jx:nsIn K mainGlobals "MOST_SIGNS"=some (some (.int 8 tk_MS))){tk_MA:Tok}(jR:nsIn K mainGlobals "MOST_ACTIONS"=some (some (.int 8 tk_MA))){tk_MR:Tok}
(nO:nsIn K mainGlobals "MOST_ROOMS"=some (some (.int 2000 tk_MR))){tk_FIG:Tok}(yd:nsIn K mainGlobals "FIGURES"=some (some (.str "0123456789" tk_FIG))){QR:Addr}(Rt:TX K "door_of" yC QR){QS:Addr}(Ru:TX K "is_name" yD QS){ym:Addr}
(yF:TX K "is_action_list" ig ym){Bk:Addr}(CG:TX K "need_actions" km Bk){QT:Addr}(Rv:TX K "is_room" yE QT){Bj:Addr}(Cz:TX K "is_told_door" kj Bj){wz:Addr}
(JC:TX K "need_rooms" pD wz){Ku:Addr}(Mt:TX K "made_door" tD Ku){Kv:Addr}(Mu:TX K "made_room" tE Kv){KD:Addr}(MF:TX K "told_room" tM KD){Bh:Addr}(Cy:TX K "is_room_name" kh Bh)
{Bl:Addr}(CJ:TX K "read_actions" kE Bl){Dq:Addr}(Eg:TX K "named_rooms" mK Dq){wy:Addr}(xj:TX K "is_written_door" gO wy){Hr:Addr}(JD:TX K "read_doors" pF Hr){Kz:Addr}
(My:TX K "read_room" tK Kz){Ky:Addr}(Mw:TX K "read_plan" tH Ky){Ks:Addr}(Ms:TX K "door_text" tB Ks){KC:Addr}(Mz:TX K "room_text" tL KC){Kw:Addr}(Mv:TX K "plan_text" tG Kw){Bg:Addr}
(Cw:TX K "_law_cell_at" j9 Bg){Hn:Addr}(Jz:TX K "_law_mixed" pB Hn){Bf:Addr}(Cv:TX K "_law_actions" j8 Bf){Ho:Addr}(JB:TX K "_law_rooms" pC Ho){Kr:Addr}(Mr:TX K "_law_rows" sZ Kr)
{Kq:Addr}(Mq:TX K "_law_many" sY Kq){Kp:Addr}(Mp:TX K "_law_line" sX Kp){Hm:Addr}(Jy:TX K "_law_lines" pA Hm){NQ:Addr}(O8:TX K "_law_due" vz NQ){f_law:Addr}(t_law:TX K "law" s_law f_law)
:∃fd:FuncData,(∀(s:Shared)(v:Value),BindsTo s fd ⟨[v],[]⟩ [("_law_script",v)])/\∀base:Heap,K.In base->base.Ns mainGlobals mg->bY l.prog w K mg base CX0 10 fa fd ["_law_script"] (Mj K):=by
 have e:=hfa.symm.trans (mg_of X G t_law.m)
 cases e
 let t:Ad:=⟨xH,jD,pU,jE,jF,iw,lW⟩
 have T:Txt K mg t:=⟨mg_of X G c_Door.a,c_Door.i gf,mg_of X G Aq.a,Aq.i gf,mg_of X G J6.a,J6.i gf,mg_of X G Hb.a,Hb.i gf,mg_of X G Hc.a,Hc.i gf,mg_of X G vO.a,vO.i gf,mg_of X G Ar.a,Ar.i gf,eQ,gK,ud,oE,fK,iJ,oG,oH,mg_none_of X G z_all,mg_none_of X G z_bool,mg_none_of X G MT,mg_none_of X G z_int,mg_none_of X G JP,mg_none_of X G z_len,mg_none_of X G z_list,mg_none_of X G z_range,mg_none_of X G Pq,mg_none_of X G z_set,mg_none_of X G z_str,mg_none_of X G z_tuple,mg_none_of X G z_zip,(λL=>wI tt_bool trivial),(λL=>wI tt_int trivial),(λL=>wI tt_list trivial),(λL=>wI tt_str trivial),(λL=>wI tt_tuple trivial),⟨_,mg_of X G yd,⟨_,rfl⟩⟩,⟨_,mg_of X G tY,⟨_,rfl⟩⟩,⟨_,mg_of X G jR,⟨_,rfl⟩⟩,⟨_,mg_of X G nO,⟨_,rfl⟩⟩,⟨_,mg_of X G jx,⟨_,rfl⟩⟩,⟨_,mg_of X G G9,_,_,_,lt_SHUT,rfl,rfl,(by show 2<=sizeLine;decide),.cons ⟨_,rfl⟩ (.cons rfl (.nil))⟩⟩
 obtain⟨fd_Door_init,lF⟩:=tV.ex
 obtain⟨fd_Shut_init,yL⟩:=zu.ex
 obtain⟨fd_Torn_init,yN⟩:=zy.ex
 obtain⟨fd_Draft_init,jw⟩:=pK.ex
 obtain⟨fd_Must_word,yJ⟩:=zq.ex
 obtain⟨fd_May_word,Al⟩:=CV.ex
 obtain⟨fd_Shut_word,yM⟩:=zx.ex
 obtain⟨fd_Torn_word,yO⟩:=zz.ex
 obtain⟨fd_Must_needs,Gx⟩:=JL.ex
 obtain⟨fd_May_needs,J1⟩:=MP.ex
 obtain⟨fd_Shut_needs,Gy⟩:=JM.ex
 obtain⟨fd_Torn_needs,Gz⟩:=JN.ex
 obtain⟨fd_Must_allows,Di⟩:=Ei.ex
 obtain⟨fd_May_allows,Gw⟩:=JK.ex
 obtain⟨fd_Shut_allows,Dj⟩:=Ej.ex
 obtain⟨fd_Torn_allows,Dk⟩:=Ek.ex
 obtain⟨fd_Must_led,Ni⟩:=Ph.ex
 obtain⟨fd_May_led,QC⟩:=RC.ex
 obtain⟨fd_Shut_led,Nj⟩:=Pj.ex
 obtain⟨fd_Torn_led,Nk⟩:=Pk.ex
 obtain⟨fd_Door_told,iW⟩:=jf.ex
 obtain⟨KH,eU⟩:=fj.ex
 obtain⟨fd_Draft_told,nJ⟩:=pL.ex
 obtain⟨fd_Draft_lets,vI⟩:=xG.ex
 obtain⟨fd_Plan_lets,yK⟩:=zr.ex
 obtain⟨fd,U_law⟩:=t_law.x.ex
 refine⟨fd,λs v=>?_,λbase _ _=>law_sp (t:=t) ?_⟩
 .obtain⟨oc,od,kV,doc,pm,an,cdv,ct,osl,e,_⟩:=U_law.ex
  subst e
  exact .of_eq rfl
 have lD:=HW (P:=l.prog) (w:=w) (mg:=mg) (base:=base) lF
 have lG:=bd2 (ps:=["self","to"]) lF
 have ca:zW K t.Door "__init__" (.ref fV):=⟨ca1,ca2,ca3⟩
 have xU:IniA l.prog w K mg base t.Must 1 ["self","to"] (λL=>spI K (Ga t L) mO 1 qi):=⟨_,_,k_Must.k tV,λL=>ok_to (L:=L) (t:=t) lD rfl (Aq.i gf).cls oE,lG⟩
 have Em:IniA l.prog w K mg base t.May 1 ["self","to"] (λL=>spI K (Ga t L) yc 1 El):=⟨_,_,k_May.k tV,λL=>ok_to (L:=L) (t:=t) lD rfl (J6.i gf).cls ud,lG⟩
 have xW:IniA l.prog w K mg base t.Shut 2 ["self"] (λL=>spI K (Ga t L) lH 0 ql):=⟨_,_,k_Shut.k zu,λL=>Ig (L:=L) (P:=l.prog) (w:=w) (base:=base) yL T lD ca lF.kp lG,bd1 yL⟩
 have xX:IniA l.prog w K mg base t.Torn 2 ["self"] (λL=>spI K (Ga t L) lJ 0 uM):=⟨_,_,k_Torn.k zy,λL=>Ii (L:=L) (P:=l.prog) (w:=w) (base:=base) yN T lD ca lF.kp lG,bd1 yN⟩
 have JX:=λL:Plc=>Ib (L:=L) (P:=l.prog) (w:=w) (base:=base) (t:=t) yJ T
 have Nh:=λL:Plc=>Li (L:=L) (P:=l.prog) (w:=w) (base:=base) (t:=t) Al T
 have JZ:=λL:Plc=>Ih (L:=L) (P:=l.prog) (w:=w) (base:=base) (t:=t) yM T
 have J0:=λL:Plc=>Ij (L:=L) (P:=l.prog) (w:=w) (base:=base) (t:=t) yO T
 have O_Must_needs:=λL:Plc=>Dv (L:=L) (P:=l.prog) (w:=w) (base:=base) (t:=t) Gx T
 have O_May_needs:=λL:Plc=>HY (L:=L) (P:=l.prog) (w:=w) (base:=base) (t:=t) J1 T
 have O_Shut_needs:=λL:Plc=>Dw (L:=L) (P:=l.prog) (w:=w) (base:=base) (t:=t) Gy T
 have O_Torn_needs:=λL:Plc=>Dy (L:=L) (P:=l.prog) (w:=w) (base:=base) (t:=t) Gz T
 have O_Must_allows:=λL:Plc=>BV (L:=L) (P:=l.prog) (w:=w) (base:=base) (t:=t) Di T
 have O_May_allows:=λL:Plc=>Du (L:=L) (P:=l.prog) (w:=w) (base:=base) (t:=t) Gw T
 have O_Shut_allows:=λL:Plc=>BW (L:=L) (P:=l.prog) (w:=w) (base:=base) (t:=t) Dj T
 have O_Torn_allows:=λL:Plc=>BX (L:=L) (P:=l.prog) (w:=w) (base:=base) (t:=t) Dk T
 have O_Must_led:=λL:Plc=>Lj (L:=L) (P:=l.prog) (w:=w) (base:=base) (t:=t) Ni T (xU.at L)
 have O_May_led:=λL:Plc=>Oh (L:=L) (P:=l.prog) (w:=w) (base:=base) (t:=t) QC T (Em.at L)
 have O_Shut_led:=λL:Plc=>Lk (L:=L) (P:=l.prog) (w:=w) (base:=base) (t:=t) Nj T (xW.at L)
 have O_Torn_led:=λL:Plc=>Ln (L:=L) (P:=l.prog) (w:=w) (base:=base) (t:=t) Nk T (xX.at L)
 have Ng:∀L:Plc,gQ l.prog w K mg base (Ga t L) "word" (spD K (Ga t L) 1) 1 xm:=λL=>⟨⟨jD,_,_,_,rfl,(Aq.i gf).cls,zq.me GJ,(JX L).mono (by decide),bd1 yJ⟩,⟨pU,_,_,_,rfl,(J6.i gf).cls,CV.me J3,(Nh L).mono (by decide),bd1 Al⟩,⟨jE,_,_,_,rfl,(Hb.i gf).cls,zx.me GR,(JZ L).mono (by decide),bd1 yM⟩,⟨jF,_,_,_,rfl,(Hc.i gf).cls,zz.me GZ,(J0 L).mono (by decide),bd1 yO⟩,trivial⟩
 have lE:=λL:Plc=>HX (L:=L) (P:=l.prog) (w:=w) (base:=base) (t:=t) iW T (Ng L)
 walk_at "d xK DA' xQ Oi U_door_of Rt bd3 xU.at Em.at xX.at xW.at"
 walk_at "d xM DA' xR Oj U_is_name Ru bd1 "
 walk_at "d cC DA' eH wV U_is_action_list yF bd1 xM.at"
 walk_at "d fX DA' jM zO U_need_actions CG bd1 cC.at"
 walk_at "d xN DA' xT Ol U_is_room Rv bd2 "
 walk_at "d jH DA' jL zN U_is_told_door Cz bd3 xN.at"
 walk_at "d jt DA' nD DP U_need_rooms JC bd3 jH.at"
 walk_at "d p6 DA' qw Ip U_made_door Mt bd1 xK.at"
 walk_at "d kZ DA' qx Ir U_made_room Mu bd1 p6.at"
 have uO:∀L:Plc,gQ l.prog w K mg base (Ga t L) "told" (spD K (Ga t L) 1) 2 tR:=λL=>⟨⟨jD,_,_,_,rfl,(Aq.i gf).cls,jf.me GF,(lE L).mono (by decide),bd1 iW⟩,⟨pU,_,_,_,rfl,(J6.i gf).cls,jf.me J2,(lE L).mono (by decide),bd1 iW⟩,⟨jE,_,_,_,rfl,(Hb.i gf).cls,jf.me GQ,(lE L).mono (by decide),bd1 iW⟩,⟨jF,_,_,_,rfl,(Hc.i gf).cls,jf.me GX,(lE L).mono (by decide),bd1 iW⟩,trivial⟩
 walk_at "d qb DAf qF IK U_told_room MF bd1 uO"
 have N_Draft:IniA l.prog w K mg base t.Draft 7 ["self","actions","rows"] (λL=>spI K (Ga t L) gD 2 I_Draft):=⟨_,_,k_Draft.k pK,λL=>uH (L:=L) (t:=t) jw T (fX.at L) (jt.at L) (kZ.at L) rfl (vO.i gf).cls eQ gK (xG.me Dl) (Ds vI) (bd1 vI),bd3 jw⟩
 have xV:IniA l.prog w K mg base t.Plan 7 ["self","actions","rows"] (λL=>spI K (Ga t L) cF 2 qj):=⟨_,_,k_Plan.k pK,λL=>uH (L:=L) (t:=t) jw T (fX.at L) (jt.at L) (kZ.at L) rfl (Ar.i gf).cls fK iJ (zr.me GK) (Ie yK) (bd1 yK),bd3 jw⟩
 have jq:=λL:Plc=>su (L:=L) (P:=l.prog) (w:=w) (base:=base) (t:=t) eU T
 have vG:=λL:Plc=>Dt (L:=L) (P:=l.prog) (w:=w) (base:=base) (t:=t) nJ T (qb.at L)
 walk_at "d cW DA' gA zM U_is_room_name Cy bd1 "
 walk_at "d jJ DA' jN zP U_read_actions CJ bd1 cC.at"
 walk_at "d lX DA' lY BZ U_named_rooms Eg bd1 "
 walk_at "d fW DA' gB vg U_is_written_door xj bd3 cW.at"
 walk_at "d ni DA' nF DQ U_read_doors JD bd3 fW.at"
 walk_at "d p7 DA' qC Iw U_read_room My bd4 cW.at ni.at"
 walk_at "d lg DA' qz Iv U_read_plan Mw bd1 jJ.at lX.at p7.at xV.at"
 walk_at "d pZ DA' qu Io U_door_text Ms bd2 "
 walk_at "d p8 DA' qD Iz U_room_text Mz bd3 pZ.at"
 have dB:∀L:Plc,gQ l.prog w K mg base (Ga t L) "action_list" (spF K (Ga t L) 1) 1 bH:=λL=>⟨⟨iw,_,_,_,rfl,(vO.i gf).cls,fj.me qH,(jq L).mono (by decide),bd1 eU⟩,⟨lW,_,_,_,rfl,(Ar.i gf).cls,fj.me um,(jq L).mono (by decide),bd1 eU⟩,trivial⟩
 have jO:∀L:Plc,gQ l.prog w K mg base (Ga t L) "told" (spFF K (Ga t L) 1) 4 bO:=λL=>⟨⟨iw,_,_,_,rfl,(vO.i gf).cls,pL.me Dm,(vG L).mono (by decide),bd1 nJ⟩,⟨lW,_,_,_,rfl,(Ar.i gf).cls,pL.me GP,(vG L).mono (by decide),bd1 nJ⟩,trivial⟩
 walk_at "d iM DA' qy Iu U_plan_text Mv bd1 dB jO p8.at"
 walk_at "d bA DA' dW zL U__law_cell_at Cw bd2 "
 walk_at "d aH DA' cJ DK U__law_mixed Jz bd2 "
 walk_at "d jG DA' jK zK U__law_actions Cv bd2 aH.at"
 walk_at "d m9 DA' nA DN U__law_rooms JB bd2 aH.at"
 walk_at "d pY DA' qt Im U__law_rows Mr bd3 bA.at aH.at"
 walk_at "d pX DA' qp Il U__law_many Mq bd1 aH.at"
 walk_at "d pW DA' qm Ik U__law_line Mp bd5 aH.at"
 walk_at "d m8 DA' nu Dz U__law_lines Jy bd4 bA.at pW.at"
 walk_at "d uK DA' uN Lp U__law_due O8 bd2 "
 exact ok_law U_law T pX bA aH jG m9 pY uK xV iM jO lg dB m8
theorem walk{l:PySem.W.OpenLaw}{q:Program}{loose:List Str}{XP:(Str->Option Value)->Heap->Prop}{YP:World->Heap->Prop}{d:DefRec}{K:Params->Frag}(hn:l.most=some 63)(hdf:d.params.defaults=[])
  (hY:∀(w:World)(h:Heap),YP w h->(K w.params).In h)
  (F:∀(w:World)(mg:Str->Option Value)(fa:Addr)(h:Heap),(K w.params).In h->h.Ns mainGlobals mg->mg d.name=some (.ref fa) ->
   ∃fd:FuncData,(∀(s:Shared)(u:Value),BindsTo s fd ⟨[u],[]⟩ [("_law_script",u)])/\∀base:Heap,(K w.params).In base->base.Ns mainGlobals mg->bY l.prog w (K w.params) mg base CX0 10 fa fd ["_law_script"] (Mj (K w.params))) :
  PySem.W.WalkO q loose XP YP l.row.toRowW d [] (λf vs=>PySem.call f vs) :=
 L2.walk_of (n:=63) (k:=10) (x:="_law_script") (CX:=λ_=>CX0) (sp:=λw=>Mj (K w.params)) hn (by decide) hdf ⟨rfl,by decide,by decide⟩ hY F (λ_ _ a ns hl _ hS=>⟨a,ns,rfl,hS,hl,λ_=>rfl⟩) λ_ _ _ _ _ z=>z
end K9
namespace K9
open PySem PySem.W L2
noncomputable abbrev pw:Program:=PySem.Challenge.pw_mustmay_k12_plans_written
noncomputable section
noncomputable abbrev hI(i:Int):Value:=.int i 0
noncomputable abbrev hS(x:Str)(t:Nat):Value:=.str x t
noncomputable abbrev hR(a:Addr):Value:=.ref a
noncomputable abbrev hE(P:Params)(x:Str)(t:Nat)(v:Value):DictEntry:=⟨PyData.keyHash P x,.str x t,v⟩
noncomputable abbrev hT(xs:List Value):Obj:=⟨.type "tuple",none,.seq (Array.mk xs) 0,Array.mk []⟩
noncomputable abbrev hN(xs:List Value):Obj:=⟨.none,none,.fields (Array.mk xs),Array.mk []⟩
noncomputable abbrev hK(xs:List Value):Obj:=⟨.type "code",none,.fields (Array.mk xs),Array.mk []⟩
noncomputable abbrev hDn(n:Nat)(es:List DictEntry):Obj:=⟨.type "dict",none,.dict (Array.mk es) n,Array.mk []⟩
noncomputable abbrev hC(n q:Str)(s:Stmt):Obj:=⟨.none,none,.func ⟨n,q,lL s,.stmts (dh s),au s,0,[],.none,.none,.none,.none,none,.none,.none,0⟩,Array.mk []⟩
noncomputable abbrev hF(n q:Str)(s:Stmt)(pm cd:Value):Obj:=⟨.type "function",none,.func ⟨n,q,lL s,.stmts (dh s),au s,3,[],.none,.none,.none,pm,none,cd,.none,0⟩,Array.mk []⟩
noncomputable abbrev nn(o:Obj)(a b:BT):BT:=.node o a b
noncomputable abbrev lf(o:Obj):BT:=.node o .nil .nil
noncomputable abbrev hQ(n q:Str)(t:Nat)(l a:Int)(r:Nat)(u v w:Value)(x:Nat):Obj:=hK [hS n t,hS q (t+1),hS "/claim/cut.py" (t+2),hI l,hI a,hI 0,hI 0,hI 3,hR r,.bool true,hI 181,hR (r+1),.none,u,v,w,hI x,hI l,hS "/claim/cut.py" (x+1)]
noncomputable abbrev hW(a b:Addr)(m:Value):Obj:=⟨.type "frame",none,.plain,Array.mk [some (hR a),some (hR 3),some (hR b),none,some m,none,some (hR 0)]⟩
noncomputable abbrev hG(n:Nat)(a:Addr):Obj:=⟨.type "getset_descriptor",none,.fields (Array.mk [hS "__dict__" n,hR a,.builtin "function.__dict__",.builtin "function.__dict__#set"]),Array.mk []⟩
noncomputable abbrev hV(n:Nat)(a:Addr):Obj:=⟨.type "getset_descriptor",none,.fields (Array.mk [hS "__weakref__" n,hR a,.builtin "ExceptionGroup.__weakref__",.none]),Array.mk []⟩
def ev2:Bool->List Obj->List Obj
 | _,[]=>[]
 | true,x::r=>x::ev2 false r
 | false,_::r=>ev2 true r
def bt:Nat->List Obj->BT
 | 0,_=>.nil
 | _,[]=>.nil
 | n+1,x::r=>.node x (bt n (ev2 true r)) (bt n (ev2 false r))
variable(P:Params)
def o0:=hK [hS "<module>" 182,hS "<module>" 183,hS "/claim/cut.py" 184,hI 1,hI 0,hI 0,hI 0,hI 0,hR 11,.bool false,hI 181,hR 12,.none,.none,.none,.none,hI 185,hI 1,hS "/claim/cut.py" 186]
def o1:=hW 13 3 (hS "__main__" 164)
def o2:=hDn 56 [hE P "__name__" 165 (hS "law_mustmay_k12_plans_written" 782),hE P "__doc__" 166 .none,hE P "__package__" 167 .none,hE P "__loader__" 168 (.builtin "__main__.__loader__#opaque"),hE P "__spec__" 169 .none,hE P "__annotations__" 170 (hR 6),hE P "__builtins__" 171 (hR 4),hE P "__file__" 173 (hS "/claim/cut.py" 172),hE P "__cached__" 174 .none,hE P "_wall" 193 (hR 21),hE P "HallError" 213 (hR 31),hE P "BadPlan" 240 (hR 51),hE P "NoText" 265 (hR 70),hE P "Door" 303 (hR 96),hE P "Must" 348 (hR 138),hE P "May" 393 (hR 178),hE P "Shut" 445 (hR 225),hE P "Torn" 497 (hR 272),hE P "door_of" 506 (hR 281),hE P "LETTERS" 510 (hS "abcdefghijklmnopqrstuvwxyz" 509),hE P "MOST_SIGNS" 512 (.int (8) 511),hE P "MOST_ACTIONS" 514 (.int (8) 513),hE P "MOST_ROOMS" 516 (.int (2000) 515),hE P "is_name" 522 (hR 286),hE P "is_action_list" 528 (hR 291),hE P "need_actions" 535 (hR 298),hE P "is_room" 543 (hR 305),hE P "is_told_door" 553 (hR 312),hE P "need_rooms" 566 (hR 319),hE P "made_door" 574 (hR 326),hE P "made_room" 580 (hR 331),hE P "told_room" 586 (hR 336),hE P "Draft" 666 (hR 398),hE P "Plan" 689 (hR 419),hE P "FIGURES" 693 (hS "0123456789" 692),hE P "SHUT" 695 (hR 422),hE P "is_room_name" 701 (hR 427),hE P "read_actions" 709 (hR 434),hE P "named_rooms" 719 (hR 441),hE P "is_written_door" 728 (hR 448),hE P "read_doors" 734 (hR 453),hE P "read_room" 745 (hR 460),hE P "read_plan" 759 (hR 467),hE P "door_text" 769 (hR 474),hE P "room_text" 775 (hR 479),hE P "plan_text" 781 (hR 484),hE P "_law_cell_at" 791 (hR 491),hE P "_law_mixed" 800 (hR 498),hE P "_law_actions" 814 (hR 505),hE P "_law_rooms" 820 (hR 510),hE P "_law_rows" 835 (hR 517),hE P "_law_many" 843 (hR 524),hE P "_law_line" 859 (hR 531),hE P "_law_lines" 872 (hR 538),hE P "_law_due" 887 (hR 545),hE P "law" 893 (hR 550)]
def o3:=hN [hI 1,hI 0,hR 20,hI 5,hI 0,hR 27,hI 7,hI 0,hR 40,hI 13,hI 0,hR 59,hI 19,hI 0,hR 78,hI 26,hI 0,hR 106,hI 39,hI 0,hR 146,hI 52,hI 0,hR 186,hI 68,hI 0,hR 233,hI 84,hI 0,hR 280,hI 97,hI 0,hR 285,hI 101,hI 0,hR 290,hI 105,hI 0,hR 297,hI 108,hI 0,hR 304,hI 110,hI 0,hR 311,hI 119,hI 0,hR 318,hI 128,hI 0,hR 325,hI 131,hI 0,hR 330,hI 133,hI 0,hR 335,hI 135,hI 0,hR 342,hI 164,hI 0,hR 408,hI 171,hI 0,hR 426,hI 175,hI 0,hR 433,hI 180,hI 0,hR 440,hI 186,hI 0,hR 447,hI 190,hI 0,hR 452,hI 205,hI 0,hR 459,hI 210,hI 0,hR 466,hI 225,hI 0,hR 473,hI 229,hI 0,hR 478,hI 235,hI 0,hR 483,hI 241,hI 0,hR 490,hI 245,hI 0,hR 497,hI 249,hI 0,hR 504,hI 261,hI 0,hR 509,hI 277,hI 0,hR 516,hI 287,hI 0,hR 523,hI 292,hI 0,hR 530,hI 305,hI 0,hR 537,hI 311,hI 0,hR 544,hI 324,hI 0,hR 549]
def o4:=hT [hS "k" 190]
def o5:=hC "_wall" "_wall" (top 0)
def o6:=hQ "_wall" "_wall" 187 1 1 15 (hR 17) (hR 18) (hR 19) 191
def o7:=hF "_wall" "_wall" (top 0) (hS "__main__" 164) (hR 20)
def o8:=hT [.type "ValueError"]
def o9:Obj:=⟨(.type "builtin_function_or_method"),none,(.fields (Array.mk [.builtin "type.__prepare__",.type "type"])),Array.mk []⟩
def o10:=hDn 4 [hE P "__module__" 203 (hS "mustmay.errors" 194),hE P "__qualname__" 205 (hS "HallError" 204),hE P "__firstlineno__" 207 (.int (5) 206),hE P "__static_attributes__" 208 (hR 29)]
def o11:=hK [hS "HallError" 198,hS "HallError" 199,hS "/claim/cut.py" 200,hI 5,hI 0,hI 0,hI 0,hI 0,hR 25,.bool false,hI 181,hR 26,.none,.none,.none,.none,hI 201,hI 5,hS "/claim/cut.py" 202]
def o12:=hW 27 24 (hS "mustmay.errors" 194)
def o13:=hDn 3 [hE P "__module__" 203 (hS "mustmay.errors" 194),hE P "__firstlineno__" 207 (.int (5) 206),hE P "__static_attributes__" 208 (hR 29),hE P "__weakref__" 210 (hR 32),hE P "__doc__" 211 .none]
def o14:Obj:=⟨(.type "type"),none,(.cls ⟨"HallError",[.type "ValueError"],[hR 31,.type "ValueError",.type "Exception",.type "BaseException",.type "object"],30,"HallError",true,[],[hR 51,hR 70],false,none,false⟩),Array.mk [some (hR 22),none,some (hS "HallError" 196),some (hS "HallError" 204),some (.builtin "ValueError.__new__"),some (.bool true)]⟩
def o15:=hV 209 31
def o16:Obj:=⟨(.type "super"),none,(.fields (Array.mk [hR 31,hR 31,hR 31])),Array.mk []⟩
def o17:Obj:=⟨(.type "builtin_function_or_method"),none,(.fields (Array.mk [.builtin "object.__init_subclass__",hR 31])),Array.mk []⟩
def o18:=hDn 5 [hE P "__module__" 221 (hS "mustmay.errors" 194),hE P "__qualname__" 223 (hS "BadPlan" 222),hE P "__firstlineno__" 225 (.int (7) 224),hE P "__init__" 234 (hR 48),hE P "__static_attributes__" 237 (hR 49)]
def o19:=hN [hI 9,hI 4,hR 47]
def o20:=hK [hS "BadPlan" 216,hS "BadPlan" 217,hS "/claim/cut.py" 218,hI 7,hI 0,hI 0,hI 0,hI 0,hR 38,.bool false,hI 181,hR 39,.none,.none,.none,.none,hI 219,hI 7,hS "/claim/cut.py" 220]
def o21:=hW 40 37 (hS "mustmay.errors" 194)
def o22:=hT [hS "self" 229,hS "room" 230,hS "action" 231]
def o23:=hC "__init__" "BadPlan.__init__" (inClass (top 3) 0)
def o24:=hQ "__init__" "BadPlan.__init__" 226 9 3 42 (hR 44) (hR 45) (hR 46) 232
def o25:=hF "__init__" "BadPlan.__init__" (inClass (top 3) 0) (hS "mustmay.errors" 194) (hR 47)
def o26:=hT [hS "action" 235,hS "room" 236]
def o27:=hDn 2 [hE P "__module__" 221 (hS "mustmay.errors" 194),hE P "__firstlineno__" 225 (.int (7) 224),hE P "__init__" 234 (hR 48),hE P "__static_attributes__" 237 (hR 49),hE P "__doc__" 238 .none]
def o28:Obj:=⟨(.type "type"),none,(.cls ⟨"BadPlan",[hR 31],[hR 51,hR 31,.type "ValueError",.type "Exception",.type "BaseException",.type "object"],50,"BadPlan",true,[],[],false,none,false⟩),Array.mk [some (hR 35),none,some (hS "BadPlan" 214),some (hS "BadPlan" 222),some (.builtin "ValueError.__new__"),some (.bool true)]⟩
def o29:Obj:=⟨(.type "super"),none,(.fields (Array.mk [hR 51,hR 51,hR 51])),Array.mk []⟩
def o30:Obj:=⟨(.type "builtin_function_or_method"),none,(.fields (Array.mk [.builtin "object.__init_subclass__",hR 51])),Array.mk []⟩
def o31:=hDn 5 [hE P "__module__" 248 (hS "mustmay.errors" 194),hE P "__qualname__" 250 (hS "NoText" 249),hE P "__firstlineno__" 252 (.int (13) 251),hE P "__init__" 260 (hR 67),hE P "__static_attributes__" 262 (hR 68)]
def o32:=hN [hI 15,hI 4,hR 66]
def o33:=hK [hS "NoText" 243,hS "NoText" 244,hS "/claim/cut.py" 245,hI 13,hI 0,hI 0,hI 0,hI 0,hR 57,.bool false,hI 181,hR 58,.none,.none,.none,.none,hI 246,hI 13,hS "/claim/cut.py" 247]
def o34:=hW 59 56 (hS "mustmay.errors" 194)
def o35:=hT [hS "self" 256,hS "line" 257]
def o36:=hC "__init__" "NoText.__init__" (inClass (top 4) 0)
def o37:=hQ "__init__" "NoText.__init__" 253 15 2 61 (hR 63) (hR 64) (hR 65) 258
def o38:=hF "__init__" "NoText.__init__" (inClass (top 4) 0) (hS "mustmay.errors" 194) (hR 66)
def o39:=hT [hS "line" 261]
def o40:=hDn 2 [hE P "__module__" 248 (hS "mustmay.errors" 194),hE P "__firstlineno__" 252 (.int (13) 251),hE P "__init__" 260 (hR 67),hE P "__static_attributes__" 262 (hR 68),hE P "__doc__" 263 .none]
def o41:Obj:=⟨(.type "type"),none,(.cls ⟨"NoText",[hR 31],[hR 70,hR 31,.type "ValueError",.type "Exception",.type "BaseException",.type "object"],69,"NoText",true,[],[],false,none,false⟩),Array.mk [some (hR 54),none,some (hS "NoText" 241),some (hS "NoText" 249),some (.builtin "ValueError.__new__"),some (.bool true)]⟩
def o42:Obj:=⟨(.type "super"),none,(.fields (Array.mk [hR 70,hR 70,hR 70])),Array.mk []⟩
def o43:Obj:=⟨(.type "builtin_function_or_method"),none,(.fields (Array.mk [.builtin "object.__init_subclass__",hR 70])),Array.mk []⟩
def o44:=hDn 6 [hE P "__module__" 275 (hS "mustmay.doors" 266),hE P "__qualname__" 277 (hS "Door" 276),hE P "__firstlineno__" 279 (.int (19) 278),hE P "__init__" 287 (hR 86),hE P "told" 294 (hR 93),hE P "__static_attributes__" 296 (hR 94)]
def o45:=hN [hI 21,hI 4,hR 85,hI 24,hI 4,hR 92]
def o46:=hK [hS "Door" 270,hS "Door" 271,hS "/claim/cut.py" 272,hI 19,hI 0,hI 0,hI 0,hI 0,hR 76,.bool false,hI 181,hR 77,.none,.none,.none,.none,hI 273,hI 19,hS "/claim/cut.py" 274]
def o47:=hW 78 75 (hS "mustmay.doors" 266)
def o48:=hT [hS "self" 283,hS "to" 284]
def o49:=hC "__init__" "Door.__init__" (inClass (top 6) 0)
def o50:=hQ "__init__" "Door.__init__" 280 21 2 80 (hR 82) (hR 83) (hR 84) 285
def o51:=hF "__init__" "Door.__init__" (inClass (top 6) 0) (hS "mustmay.doors" 266) (hR 85)
def o52:=hT [hS "self" 291]
def o53:=hC "told" "Door.told" (inClass (top 6) 1)
def o54:=hQ "told" "Door.told" 288 24 1 87 (hR 89) (hR 90) (hR 91) 292
def o55:=hF "told" "Door.told" (inClass (top 6) 1) (hS "mustmay.doors" 266) (hR 92)
def o56:=hT [hS "to" 295]
def o57:=hDn 4 [hE P "__module__" 275 (hS "mustmay.doors" 266),hE P "__firstlineno__" 279 (.int (19) 278),hE P "__init__" 287 (hR 86),hE P "told" 294 (hR 93),hE P "__static_attributes__" 296 (hR 94),hE P "__dict__" 298 (hR 97),hE P "__weakref__" 300 (hR 98),hE P "__doc__" 301 .none]
def o58:Obj:=⟨(.type "type"),none,(.cls ⟨"Door",[.type "object"],[hR 96,.type "object"],95,"Door",true,[],[hR 138,hR 178,hR 225,hR 272],false,none,false⟩),Array.mk [none,none,some (hS "Door" 268),some (hS "Door" 276),some (.builtin "object.__new__"),some (.bool true)]⟩
def o59:=hG 297 96
def o60:=hV 299 96
def o61:Obj:=⟨(.type "super"),none,(.fields (Array.mk [hR 96,hR 96,hR 96])),Array.mk []⟩
def o62:Obj:=⟨(.type "builtin_function_or_method"),none,(.fields (Array.mk [.builtin "object.__init_subclass__",hR 96])),Array.mk []⟩
def o63:=hDn 8 [hE P "__module__" 311 (hS "mustmay.doors" 266),hE P "__qualname__" 313 (hS "Must" 312),hE P "__firstlineno__" 315 (.int (26) 314),hE P "word" 322 (hR 114),hE P "needs" 329 (hR 121),hE P "allows" 336 (hR 128),hE P "led" 344 (hR 135),hE P "__static_attributes__" 345 (hR 136)]
def o64:=hN [hI 28,hI 4,hR 113,hI 31,hI 4,hR 120,hI 34,hI 4,hR 127,hI 37,hI 4,hR 134]
def o65:=hK [hS "Must" 306,hS "Must" 307,hS "/claim/cut.py" 308,hI 26,hI 0,hI 0,hI 0,hI 0,hR 104,.bool false,hI 181,hR 105,.none,.none,.none,.none,hI 309,hI 26,hS "/claim/cut.py" 310]
def o66:=hW 106 103 (hS "mustmay.doors" 266)
def o67:=hT [hS "self" 319]
def o68:=hC "word" "Must.word" (inClass (top 7) 0)
def o69:=hQ "word" "Must.word" 316 28 1 108 (hR 110) (hR 111) (hR 112) 320
def o70:=hF "word" "Must.word" (inClass (top 7) 0) (hS "mustmay.doors" 266) (hR 113)
def o71:=hT [hS "self" 326]
def o72:=hC "needs" "Must.needs" (inClass (top 7) 1)
def o73:=hQ "needs" "Must.needs" 323 31 1 115 (hR 117) (hR 118) (hR 119) 327
def o74:=hF "needs" "Must.needs" (inClass (top 7) 1) (hS "mustmay.doors" 266) (hR 120)
def o75:=hT [hS "self" 333]
def o76:=hC "allows" "Must.allows" (inClass (top 7) 2)
def o77:=hQ "allows" "Must.allows" 330 34 1 122 (hR 124) (hR 125) (hR 126) 334
def o78:=hF "allows" "Must.allows" (inClass (top 7) 2) (hS "mustmay.doors" 266) (hR 127)
def o79:=hT [hS "self" 340,hS "to" 341]
def o80:=hC "led" "Must.led" (inClass (top 7) 3)
def o81:=hQ "led" "Must.led" 337 37 2 129 (hR 131) (hR 132) (hR 133) 342
def o82:=hF "led" "Must.led" (inClass (top 7) 3) (hS "mustmay.doors" 266) (hR 134)
def o83:=hDn 2 [hE P "__module__" 311 (hS "mustmay.doors" 266),hE P "__firstlineno__" 315 (.int (26) 314),hE P "word" 322 (hR 114),hE P "needs" 329 (hR 121),hE P "allows" 336 (hR 128),hE P "led" 344 (hR 135),hE P "__static_attributes__" 345 (hR 136),hE P "__doc__" 346 .none]
def o84:Obj:=⟨(.type "type"),none,(.cls ⟨"Must",[hR 96],[hR 138,hR 96,.type "object"],137,"Must",true,[],[],false,none,false⟩),Array.mk [some (hR 101),none,some (hS "Must" 304),some (hS "Must" 312),some (.builtin "object.__new__"),some (.bool true)]⟩
def o85:Obj:=⟨(.type "super"),none,(.fields (Array.mk [hR 138,hR 138,hR 138])),Array.mk []⟩
def o86:Obj:=⟨(.type "builtin_function_or_method"),none,(.fields (Array.mk [.builtin "object.__init_subclass__",hR 138])),Array.mk []⟩
def o87:=hDn 8 [hE P "__module__" 356 (hS "mustmay.doors" 266),hE P "__qualname__" 358 (hS "May" 357),hE P "__firstlineno__" 360 (.int (39) 359),hE P "word" 367 (hR 154),hE P "needs" 374 (hR 161),hE P "allows" 381 (hR 168),hE P "led" 389 (hR 175),hE P "__static_attributes__" 390 (hR 176)]
def o88:=hN [hI 41,hI 4,hR 153,hI 44,hI 4,hR 160,hI 47,hI 4,hR 167,hI 50,hI 4,hR 174]
def o89:=hK [hS "May" 351,hS "May" 352,hS "/claim/cut.py" 353,hI 39,hI 0,hI 0,hI 0,hI 0,hR 144,.bool false,hI 181,hR 145,.none,.none,.none,.none,hI 354,hI 39,hS "/claim/cut.py" 355]
def o90:=hW 146 143 (hS "mustmay.doors" 266)
def o91:=hT [hS "self" 364]
def o92:=hC "word" "May.word" (inClass (top 8) 0)
def o93:=hQ "word" "May.word" 361 41 1 148 (hR 150) (hR 151) (hR 152) 365
def o94:=hF "word" "May.word" (inClass (top 8) 0) (hS "mustmay.doors" 266) (hR 153)
def o95:=hT [hS "self" 371]
def o96:=hC "needs" "May.needs" (inClass (top 8) 1)
def o97:=hQ "needs" "May.needs" 368 44 1 155 (hR 157) (hR 158) (hR 159) 372
def o98:=hF "needs" "May.needs" (inClass (top 8) 1) (hS "mustmay.doors" 266) (hR 160)
def o99:=hT [hS "self" 378]
def o100:=hC "allows" "May.allows" (inClass (top 8) 2)
def o101:=hQ "allows" "May.allows" 375 47 1 162 (hR 164) (hR 165) (hR 166) 379
def o102:=hF "allows" "May.allows" (inClass (top 8) 2) (hS "mustmay.doors" 266) (hR 167)
def o103:=hT [hS "self" 385,hS "to" 386]
def o104:=hC "led" "May.led" (inClass (top 8) 3)
def o105:=hQ "led" "May.led" 382 50 2 169 (hR 171) (hR 172) (hR 173) 387
def o106:=hF "led" "May.led" (inClass (top 8) 3) (hS "mustmay.doors" 266) (hR 174)
def o107:=hDn 2 [hE P "__module__" 356 (hS "mustmay.doors" 266),hE P "__firstlineno__" 360 (.int (39) 359),hE P "word" 367 (hR 154),hE P "needs" 374 (hR 161),hE P "allows" 381 (hR 168),hE P "led" 389 (hR 175),hE P "__static_attributes__" 390 (hR 176),hE P "__doc__" 391 .none]
def o108:Obj:=⟨(.type "type"),none,(.cls ⟨"May",[hR 96],[hR 178,hR 96,.type "object"],177,"May",true,[],[],false,none,false⟩),Array.mk [some (hR 141),none,some (hS "May" 349),some (hS "May" 357),some (.builtin "object.__new__"),some (.bool true)]⟩
def o109:Obj:=⟨(.type "super"),none,(.fields (Array.mk [hR 178,hR 178,hR 178])),Array.mk []⟩
def o110:Obj:=⟨(.type "builtin_function_or_method"),none,(.fields (Array.mk [.builtin "object.__init_subclass__",hR 178])),Array.mk []⟩
def o111:=hDn 9 [hE P "__module__" 401 (hS "mustmay.doors" 266),hE P "__qualname__" 403 (hS "Shut" 402),hE P "__firstlineno__" 405 (.int (52) 404),hE P "__init__" 412 (hR 194),hE P "word" 419 (hR 201),hE P "needs" 426 (hR 208),hE P "allows" 433 (hR 215),hE P "led" 441 (hR 222),hE P "__static_attributes__" 442 (hR 223)]
def o112:=hN [hI 54,hI 4,hR 193,hI 57,hI 4,hR 200,hI 60,hI 4,hR 207,hI 63,hI 4,hR 214,hI 66,hI 4,hR 221]
def o113:=hK [hS "Shut" 396,hS "Shut" 397,hS "/claim/cut.py" 398,hI 52,hI 0,hI 0,hI 0,hI 0,hR 184,.bool false,hI 181,hR 185,.none,.none,.none,.none,hI 399,hI 52,hS "/claim/cut.py" 400]
def o114:=hW 186 183 (hS "mustmay.doors" 266)
def o115:=hT [hS "self" 409]
def o116:=hC "__init__" "Shut.__init__" (inClass (top 9) 0)
def o117:=hQ "__init__" "Shut.__init__" 406 54 1 188 (hR 190) (hR 191) (hR 192) 410
def o118:=hF "__init__" "Shut.__init__" (inClass (top 9) 0) (hS "mustmay.doors" 266) (hR 193)
def o119:=hT [hS "self" 416]
def o120:=hC "word" "Shut.word" (inClass (top 9) 1)
def o121:=hQ "word" "Shut.word" 413 57 1 195 (hR 197) (hR 198) (hR 199) 417
def o122:=hF "word" "Shut.word" (inClass (top 9) 1) (hS "mustmay.doors" 266) (hR 200)
def o123:=hT [hS "self" 423]
def o124:=hC "needs" "Shut.needs" (inClass (top 9) 2)
def o125:=hQ "needs" "Shut.needs" 420 60 1 202 (hR 204) (hR 205) (hR 206) 424
def o126:=hF "needs" "Shut.needs" (inClass (top 9) 2) (hS "mustmay.doors" 266) (hR 207)
def o127:=hT [hS "self" 430]
def o128:=hC "allows" "Shut.allows" (inClass (top 9) 3)
def o129:=hQ "allows" "Shut.allows" 427 63 1 209 (hR 211) (hR 212) (hR 213) 431
def o130:=hF "allows" "Shut.allows" (inClass (top 9) 3) (hS "mustmay.doors" 266) (hR 214)
def o131:=hT [hS "self" 437,hS "to" 438]
def o132:=hC "led" "Shut.led" (inClass (top 9) 4)
def o133:=hQ "led" "Shut.led" 434 66 2 216 (hR 218) (hR 219) (hR 220) 439
def o134:=hF "led" "Shut.led" (inClass (top 9) 4) (hS "mustmay.doors" 266) (hR 221)
def o135:=hDn 2 [hE P "__module__" 401 (hS "mustmay.doors" 266),hE P "__firstlineno__" 405 (.int (52) 404),hE P "__init__" 412 (hR 194),hE P "word" 419 (hR 201),hE P "needs" 426 (hR 208),hE P "allows" 433 (hR 215),hE P "led" 441 (hR 222),hE P "__static_attributes__" 442 (hR 223),hE P "__doc__" 443 .none]
def o136:Obj:=⟨(.type "type"),none,(.cls ⟨"Shut",[hR 96],[hR 225,hR 96,.type "object"],224,"Shut",true,[],[],false,none,false⟩),Array.mk [some (hR 181),none,some (hS "Shut" 394),some (hS "Shut" 402),some (.builtin "object.__new__"),some (.bool true)]⟩
def o137:Obj:=⟨(.type "super"),none,(.fields (Array.mk [hR 225,hR 225,hR 225])),Array.mk []⟩
def o138:Obj:=⟨(.type "builtin_function_or_method"),none,(.fields (Array.mk [.builtin "object.__init_subclass__",hR 225])),Array.mk []⟩
def o139:=hDn 9 [hE P "__module__" 453 (hS "mustmay.doors" 266),hE P "__qualname__" 455 (hS "Torn" 454),hE P "__firstlineno__" 457 (.int (68) 456),hE P "__init__" 464 (hR 241),hE P "word" 471 (hR 248),hE P "needs" 478 (hR 255),hE P "allows" 485 (hR 262),hE P "led" 493 (hR 269),hE P "__static_attributes__" 494 (hR 270)]
def o140:=hN [hI 70,hI 4,hR 240,hI 73,hI 4,hR 247,hI 76,hI 4,hR 254,hI 79,hI 4,hR 261,hI 82,hI 4,hR 268]
def o141:=hK [hS "Torn" 448,hS "Torn" 449,hS "/claim/cut.py" 450,hI 68,hI 0,hI 0,hI 0,hI 0,hR 231,.bool false,hI 181,hR 232,.none,.none,.none,.none,hI 451,hI 68,hS "/claim/cut.py" 452]
def o142:=hW 233 230 (hS "mustmay.doors" 266)
def o143:=hT [hS "self" 461]
def o144:=hC "__init__" "Torn.__init__" (inClass (top 10) 0)
def o145:=hQ "__init__" "Torn.__init__" 458 70 1 235 (hR 237) (hR 238) (hR 239) 462
def o146:=hF "__init__" "Torn.__init__" (inClass (top 10) 0) (hS "mustmay.doors" 266) (hR 240)
def o147:=hT [hS "self" 468]
def o148:=hC "word" "Torn.word" (inClass (top 10) 1)
def o149:=hQ "word" "Torn.word" 465 73 1 242 (hR 244) (hR 245) (hR 246) 469
def o150:=hF "word" "Torn.word" (inClass (top 10) 1) (hS "mustmay.doors" 266) (hR 247)
def o151:=hT [hS "self" 475]
def o152:=hC "needs" "Torn.needs" (inClass (top 10) 2)
def o153:=hQ "needs" "Torn.needs" 472 76 1 249 (hR 251) (hR 252) (hR 253) 476
def o154:=hF "needs" "Torn.needs" (inClass (top 10) 2) (hS "mustmay.doors" 266) (hR 254)
def o155:=hT [hS "self" 482]
def o156:=hC "allows" "Torn.allows" (inClass (top 10) 3)
def o157:=hQ "allows" "Torn.allows" 479 79 1 256 (hR 258) (hR 259) (hR 260) 483
def o158:=hF "allows" "Torn.allows" (inClass (top 10) 3) (hS "mustmay.doors" 266) (hR 261)
def o159:=hT [hS "self" 489,hS "to" 490]
def o160:=hC "led" "Torn.led" (inClass (top 10) 4)
def o161:=hQ "led" "Torn.led" 486 82 2 263 (hR 265) (hR 266) (hR 267) 491
def o162:=hF "led" "Torn.led" (inClass (top 10) 4) (hS "mustmay.doors" 266) (hR 268)
def o163:=hDn 2 [hE P "__module__" 453 (hS "mustmay.doors" 266),hE P "__firstlineno__" 457 (.int (68) 456),hE P "__init__" 464 (hR 241),hE P "word" 471 (hR 248),hE P "needs" 478 (hR 255),hE P "allows" 485 (hR 262),hE P "led" 493 (hR 269),hE P "__static_attributes__" 494 (hR 270),hE P "__doc__" 495 .none]
def o164:Obj:=⟨(.type "type"),none,(.cls ⟨"Torn",[hR 96],[hR 272,hR 96,.type "object"],271,"Torn",true,[],[],false,none,false⟩),Array.mk [some (hR 228),none,some (hS "Torn" 446),some (hS "Torn" 454),some (.builtin "object.__new__"),some (.bool true)]⟩
def o165:Obj:=⟨(.type "super"),none,(.fields (Array.mk [hR 272,hR 272,hR 272])),Array.mk []⟩
def o166:Obj:=⟨(.type "builtin_function_or_method"),none,(.fields (Array.mk [.builtin "object.__init_subclass__",hR 272])),Array.mk []⟩
def o167:=hT [hS "needs" 501,hS "allows" 502,hS "to" 503]
def o168:=hC "door_of" "door_of" (top 11)
def o169:=hQ "door_of" "door_of" 498 84 3 275 (hR 277) (hR 278) (hR 279) 504
def o170:=hF "door_of" "door_of" (top 11) (hS "mustmay.doors" 266) (hR 280)
def o171:=hC "is_name" "is_name" (top 17)
def o172:=hQ "is_name" "is_name" 517 97 1 282 .none .none (hR 284) 520
def o173:=hF "is_name" "is_name" (top 17) (hS "mustmay.plans" 507) (hR 285)
def o174:=hC "is_action_list" "is_action_list" (top 18)
def o175:=hQ "is_action_list" "is_action_list" 523 101 1 287 .none .none (hR 289) 526
def o176:=hF "is_action_list" "is_action_list" (top 18) (hS "mustmay.plans" 507) (hR 290)
def o177:=hT [hS "actions" 532]
def o178:=hC "need_actions" "need_actions" (top 19)
def o179:=hQ "need_actions" "need_actions" 529 105 1 292 (hR 294) (hR 295) (hR 296) 533
def o180:=hF "need_actions" "need_actions" (top 19) (hS "mustmay.plans" 507) (hR 297)
def o181:=hT [hS "thing" 539,hS "many" 540]
def o182:=hC "is_room" "is_room" (top 20)
def o183:=hQ "is_room" "is_room" 536 108 2 299 (hR 301) (hR 302) (hR 303) 541
def o184:=hF "is_room" "is_room" (top 20) (hS "mustmay.plans" 507) (hR 304)
def o185:=hT [hS "thing" 547,hS "many" 548,hS "torn_too" 549,hS "word" 550]
def o186:=hC "is_told_door" "is_told_door" (top 21)
def o187:=hQ "is_told_door" "is_told_door" 544 110 3 306 (hR 308) (hR 309) (hR 310) 551
def o188:=hF "is_told_door" "is_told_door" (top 21) (hS "mustmay.plans" 507) (hR 311)
def o189:=hT [hS "rows" 557,hS "many_actions" 558,hS "torn_too" 559,hS "room" 560,hS "row" 561,hS "action" 562,hS "thing" 563]
def o190:=hC "need_rooms" "need_rooms" (top 22)
def o191:=hQ "need_rooms" "need_rooms" 554 119 3 313 (hR 315) (hR 316) (hR 317) 564
def o192:=hF "need_rooms" "need_rooms" (top 22) (hS "mustmay.plans" 507) (hR 318)
def o193:=hT [hS "told" 570,hS "word" 571]
def o194:=hC "made_door" "made_door" (top 23)
def o195:=hQ "made_door" "made_door" 567 128 1 320 (hR 322) (hR 323) (hR 324) 572
def o196:=hF "made_door" "made_door" (top 23) (hS "mustmay.plans" 507) (hR 325)
def o197:=hC "made_room" "made_room" (top 24)
def o198:=hQ "made_room" "made_room" 575 131 1 327 .none .none (hR 329) 578
def o199:=hF "made_room" "made_room" (top 24) (hS "mustmay.plans" 507) (hR 330)
def o200:=hC "told_room" "told_room" (top 25)
def o201:=hQ "told_room" "told_room" 581 133 1 332 .none .none (hR 334) 584
def o202:=hF "told_room" "told_room" (top 25) (hS "mustmay.plans" 507) (hR 335)
def o203:=hDn 12 [hE P "__module__" 594 (hS "mustmay.plans" 507),hE P "__qualname__" 596 (hS "Draft" 595),hE P "__firstlineno__" 598 (.int (135) 597),hE P "__init__" 604 (hR 348),hE P "lets_torn" 611 (hR 355),hE P "action_list" 618 (hR 362),hE P "many" 625 (hR 369),hE P "door" 635 (hR 376),hE P "told" 641 (hR 381),hE P "after" 649 (hR 388),hE P "is_finished" 656 (hR 395),hE P "__static_attributes__" 659 (hR 396)]
def o204:=hN [hI 137,hI 4,hR 347,hI 143,hI 4,hR 354,hI 146,hI 4,hR 361,hI 149,hI 4,hR 368,hI 152,hI 4,hR 375,hI 156,hI 4,hR 380,hI 159,hI 4,hR 387,hI 162,hI 4,hR 394]
def o205:=hK [hS "Draft" 589,hS "Draft" 590,hS "/claim/cut.py" 591,hI 135,hI 0,hI 0,hI 0,hI 0,hR 340,.bool false,hI 181,hR 341,.none,.none,.none,.none,hI 592,hI 135,hS "/claim/cut.py" 593]
def o206:=hW 342 339 (hS "mustmay.plans" 507)
def o207:=hC "__init__" "Draft.__init__" (inClass (top 26) 0)
def o208:=hQ "__init__" "Draft.__init__" 599 137 3 344 .none .none (hR 346) 602
def o209:=hF "__init__" "Draft.__init__" (inClass (top 26) 0) (hS "mustmay.plans" 507) (hR 347)
def o210:=hT [hS "self" 608]
def o211:=hC "lets_torn" "Draft.lets_torn" (inClass (top 26) 1)
def o212:=hQ "lets_torn" "Draft.lets_torn" 605 143 1 349 (hR 351) (hR 352) (hR 353) 609
def o213:=hF "lets_torn" "Draft.lets_torn" (inClass (top 26) 1) (hS "mustmay.plans" 507) (hR 354)
def o214:=hT [hS "self" 615]
def o215:=hC "action_list" "Draft.action_list" (inClass (top 26) 2)
def o216:=hQ "action_list" "Draft.action_list" 612 146 1 356 (hR 358) (hR 359) (hR 360) 616
def o217:=hF "action_list" "Draft.action_list" (inClass (top 26) 2) (hS "mustmay.plans" 507) (hR 361)
def o218:=hT [hS "self" 622]
def o219:=hC "many" "Draft.many" (inClass (top 26) 3)
def o220:=hQ "many" "Draft.many" 619 149 1 363 (hR 365) (hR 366) (hR 367) 623
def o221:=hF "many" "Draft.many" (inClass (top 26) 3) (hS "mustmay.plans" 507) (hR 368)
def o222:=hT [hS "self" 629,hS "room" 630,hS "action" 631,hS "kept" 632]
def o223:=hC "door" "Draft.door" (inClass (top 26) 4)
def o224:=hQ "door" "Draft.door" 626 152 3 370 (hR 372) (hR 373) (hR 374) 633
def o225:=hF "door" "Draft.door" (inClass (top 26) 4) (hS "mustmay.plans" 507) (hR 375)
def o226:=hC "told" "Draft.told" (inClass (top 26) 5)
def o227:=hQ "told" "Draft.told" 636 156 1 377 .none .none (hR 379) 639
def o228:=hF "told" "Draft.told" (inClass (top 26) 5) (hS "mustmay.plans" 507) (hR 380)
def o229:=hT [hS "self" 645,hS "row" 646]
def o230:=hC "after" "Draft.after" (inClass (top 26) 6)
def o231:=hQ "after" "Draft.after" 642 159 2 382 (hR 384) (hR 385) (hR 386) 647
def o232:=hF "after" "Draft.after" (inClass (top 26) 6) (hS "mustmay.plans" 507) (hR 387)
def o233:=hT [hS "self" 653]
def o234:=hC "is_finished" "Draft.is_finished" (inClass (top 26) 7)
def o235:=hQ "is_finished" "Draft.is_finished" 650 162 1 389 (hR 391) (hR 392) (hR 393) 654
def o236:=hF "is_finished" "Draft.is_finished" (inClass (top 26) 7) (hS "mustmay.plans" 507) (hR 394)
def o237:=hT [hS "actions" 657,hS "rooms" 658]
def o238:=hDn 4 [hE P "__module__" 594 (hS "mustmay.plans" 507),hE P "__firstlineno__" 598 (.int (135) 597),hE P "__init__" 604 (hR 348),hE P "lets_torn" 611 (hR 355),hE P "action_list" 618 (hR 362),hE P "many" 625 (hR 369),hE P "door" 635 (hR 376),hE P "told" 641 (hR 381),hE P "after" 649 (hR 388),hE P "is_finished" 656 (hR 395),hE P "__static_attributes__" 659 (hR 396),hE P "__dict__" 661 (hR 399),hE P "__weakref__" 663 (hR 400),hE P "__doc__" 664 .none]
def o239:Obj:=⟨(.type "type"),none,(.cls ⟨"Draft",[.type "object"],[hR 398,.type "object"],397,"Draft",true,[],[hR 419],false,none,false⟩),Array.mk [none,none,some (hS "Draft" 587),some (hS "Draft" 595),some (.builtin "object.__new__"),some (.bool true)]⟩
def o240:=hG 660 398
def o241:=hV 662 398
def o242:Obj:=⟨(.type "super"),none,(.fields (Array.mk [hR 398,hR 398,hR 398])),Array.mk []⟩
def o243:Obj:=⟨(.type "builtin_function_or_method"),none,(.fields (Array.mk [.builtin "object.__init_subclass__",hR 398])),Array.mk []⟩
def o244:=hDn 5 [hE P "__module__" 674 (hS "mustmay.plans" 507),hE P "__qualname__" 676 (hS "Plan" 675),hE P "__firstlineno__" 678 (.int (164) 677),hE P "lets_torn" 685 (hR 416),hE P "__static_attributes__" 686 (hR 417)]
def o245:=hN [hI 166,hI 4,hR 415]
def o246:=hK [hS "Plan" 669,hS "Plan" 670,hS "/claim/cut.py" 671,hI 164,hI 0,hI 0,hI 0,hI 0,hR 406,.bool false,hI 181,hR 407,.none,.none,.none,.none,hI 672,hI 164,hS "/claim/cut.py" 673]
def o247:=hW 408 405 (hS "mustmay.plans" 507)
def o248:=hT [hS "self" 682]
def o249:=hC "lets_torn" "Plan.lets_torn" (inClass (top 27) 0)
def o250:=hQ "lets_torn" "Plan.lets_torn" 679 166 1 410 (hR 412) (hR 413) (hR 414) 683
def o251:=hF "lets_torn" "Plan.lets_torn" (inClass (top 27) 0) (hS "mustmay.plans" 507) (hR 415)
def o252:=hDn 2 [hE P "__module__" 674 (hS "mustmay.plans" 507),hE P "__firstlineno__" 678 (.int (164) 677),hE P "lets_torn" 685 (hR 416),hE P "__static_attributes__" 686 (hR 417),hE P "__doc__" 687 .none]
def o253:Obj:=⟨(.type "type"),none,(.cls ⟨"Plan",[hR 398],[hR 419,hR 398,.type "object"],418,"Plan",true,[],[],false,none,false⟩),Array.mk [some (hR 403),none,some (hS "Plan" 667),some (hS "Plan" 675),some (.builtin "object.__new__"),some (.bool true)]⟩
def o254:Obj:=⟨(.type "super"),none,(.fields (Array.mk [hR 419,hR 419,hR 419])),Array.mk []⟩
def o255:Obj:=⟨(.type "builtin_function_or_method"),none,(.fields (Array.mk [.builtin "object.__init_subclass__",hR 419])),Array.mk []⟩
def o256:=hT [hS "shut" 694,.none]
def o257:=hC "is_room_name" "is_room_name" (top 31)
def o258:=hQ "is_room_name" "is_room_name" 696 171 1 423 .none .none (hR 425) 699
def o259:=hF "is_room_name" "is_room_name" (top 31) (hS "mustmay.texts" 690) (hR 426)
def o260:=hT [hS "line" 705,hS "words" 706]
def o261:=hC "read_actions" "read_actions" (top 32)
def o262:=hQ "read_actions" "read_actions" 702 175 1 428 (hR 430) (hR 431) (hR 432) 707
def o263:=hF "read_actions" "read_actions" (top 32) (hS "mustmay.texts" 690) (hR 433)
def o264:=hT [hS "lines" 713,hS "numbers" 714,hS "number" 715,hS "line" 716]
def o265:=hC "named_rooms" "named_rooms" (top 33)
def o266:=hQ "named_rooms" "named_rooms" 710 180 1 435 (hR 437) (hR 438) (hR 439) 717
def o267:=hF "named_rooms" "named_rooms" (top 33) (hS "mustmay.texts" 690) (hR 440)
def o268:=hT [hS "words" 723,hS "actions" 724,hS "numbers" 725]
def o269:=hC "is_written_door" "is_written_door" (top 34)
def o270:=hQ "is_written_door" "is_written_door" 720 186 3 442 (hR 444) (hR 445) (hR 446) 726
def o271:=hF "is_written_door" "is_written_door" (top 34) (hS "mustmay.texts" 690) (hR 447)
def o272:=hC "read_doors" "read_doors" (top 35)
def o273:=hQ "read_doors" "read_doors" 729 190 3 449 .none .none (hR 451) 732
def o274:=hF "read_doors" "read_doors" (top 35) (hS "mustmay.texts" 690) (hR 452)
def o275:=hT [hS "line" 738,hS "number" 739,hS "actions" 740,hS "numbers" 741,hS "name" 742]
def o276:=hC "read_room" "read_room" (top 36)
def o277:=hQ "read_room" "read_room" 735 205 4 454 (hR 456) (hR 457) (hR 458) 743
def o278:=hF "read_room" "read_room" (top 36) (hS "mustmay.texts" 690) (hR 459)
def o279:=hT [hS "text" 749,hS "lines" 750,hS "actions" 751,hS "numbers" 752,hS "rows" 753,hS "number" 754,hS "line" 755,hS "doors" 756]
def o280:=hC "read_plan" "read_plan" (top 37)
def o281:=hQ "read_plan" "read_plan" 746 210 1 461 (hR 463) (hR 464) (hR 465) 757
def o282:=hF "read_plan" "read_plan" (top 37) (hS "mustmay.texts" 690) (hR 466)
def o283:=hT [hS "name" 763,hS "told" 764,hS "word" 765,hS "to" 766]
def o284:=hC "door_text" "door_text" (top 38)
def o285:=hQ "door_text" "door_text" 760 225 2 468 (hR 470) (hR 471) (hR 472) 767
def o286:=hF "door_text" "door_text" (top 38) (hS "mustmay.texts" 690) (hR 473)
def o287:=hC "room_text" "room_text" (top 39)
def o288:=hQ "room_text" "room_text" 770 229 3 475 .none .none (hR 477) 773
def o289:=hF "room_text" "room_text" (top 39) (hS "mustmay.texts" 690) (hR 478)
def o290:=hC "plan_text" "plan_text" (top 40)
def o291:=hQ "plan_text" "plan_text" 776 235 1 480 .none .none (hR 482) 779
def o292:=hF "plan_text" "plan_text" (top 40) (hS "mustmay.texts" 690) (hR 483)
def o293:=hT [hS "_law_script" 787,hS "_law_k" 788]
def o294:=hC "_law_cell_at" "_law_cell_at" (top 42)
def o295:=hQ "_law_cell_at" "_law_cell_at" 784 241 2 485 (hR 487) (hR 488) (hR 489) 789
def o296:=hF "_law_cell_at" "_law_cell_at" (top 42) (hS "law_mustmay_k12_plans_written" 782) (hR 490)
def o297:=hT [hS "_law_cell" 795,hS "_law_k" 796,hS "_law_number" 797]
def o298:=hC "_law_mixed" "_law_mixed" (top 43)
def o299:=hQ "_law_mixed" "_law_mixed" 792 245 2 492 (hR 494) (hR 495) (hR 496) 798
def o300:=hF "_law_mixed" "_law_mixed" (top 43) (hS "law_mustmay_k12_plans_written" 782) (hR 497)
def o301:=hT [hS "_law_cell" 804,hS "_law_many_here" 805,hS "_law_size" 806,hS "_law_at" 807,hS "_law_names" 808,hS "_law_k" 809,hS "_law_name" 810,hS "_law_j" 811]
def o302:=hC "_law_actions" "_law_actions" (top 44)
def o303:=hQ "_law_actions" "_law_actions" 801 249 2 499 (hR 501) (hR 502) (hR 503) 812
def o304:=hF "_law_actions" "_law_actions" (top 44) (hS "law_mustmay_k12_plans_written" 782) (hR 504)
def o305:=hC "_law_rooms" "_law_rooms" (top 45)
def o306:=hQ "_law_rooms" "_law_rooms" 815 261 2 506 .none .none (hR 508) 818
def o307:=hF "_law_rooms" "_law_rooms" (top 45) (hS "law_mustmay_k12_plans_written" 782) (hR 509)
def o308:=hT [hS "_law_script" 824,hS "_law_rooms_here" 825,hS "_law_many_here" 826,hS "_law_rows_here" 827,hS "_law_room" 828,hS "_law_cell" 829,hS "_law_doors" 830,hS "_law_action" 831,hS "_law_number" 832]
def o309:=hC "_law_rows" "_law_rows" (top 46)
def o310:=hQ "_law_rows" "_law_rows" 821 277 3 511 (hR 513) (hR 514) (hR 515) 833
def o311:=hF "_law_rows" "_law_rows" (top 46) (hS "law_mustmay_k12_plans_written" 782) (hR 516)
def o312:=hT [hS "_law_cell" 839,hS "_law_number" 840]
def o313:=hC "_law_many" "_law_many" (top 47)
def o314:=hQ "_law_many" "_law_many" 836 287 1 518 (hR 520) (hR 521) (hR 522) 841
def o315:=hF "_law_many" "_law_many" (top 47) (hS "law_mustmay_k12_plans_written" 782) (hR 523)
def o316:=hT [hS "_law_name" 847,hS "_law_doors" 848,hS "_law_actions_here" 849,hS "_law_names" 850,hS "_law_cell" 851,hS "_law_told" 852,hS "_law_action" 853,hS "_law_word" 854,hS "_law_to" 855,hS "_law_turn" 856]
def o317:=hC "_law_line" "_law_line" (top 48)
def o318:=hQ "_law_line" "_law_line" 844 292 5 525 (hR 527) (hR 528) (hR 529) 857
def o319:=hF "_law_line" "_law_line" (top 48) (hS "law_mustmay_k12_plans_written" 782) (hR 530)
def o320:=hT [hS "_law_actions_here" 863,hS "_law_names" 864,hS "_law_rows_here" 865,hS "_law_script" 866,hS "_law_lines_here" 867,hS "_law_room" 868,hS "_law_cell" 869]
def o321:=hC "_law_lines" "_law_lines" (top 49)
def o322:=hQ "_law_lines" "_law_lines" 860 305 4 532 (hR 534) (hR 535) (hR 536) 870
def o323:=hF "_law_lines" "_law_lines" (top 49) (hS "law_mustmay_k12_plans_written" 782) (hR 537)
def o324:=hT [hS "_law_actions_here" 876,hS "_law_rows_here" 877,hS "_law_lines_here" 878,hS "_law_room" 879,hS "_law_line_here" 880,hS "_law_action" 881,hS "_law_word" 882,hS "_law_to" 883,hS "_law_door" 884]
def o325:=hC "_law_due" "_law_due" (top 50)
def o326:=hQ "_law_due" "_law_due" 873 311 2 539 (hR 541) (hR 542) (hR 543) 885
def o327:=hF "_law_due" "_law_due" (top 50) (hS "law_mustmay_k12_plans_written" 782) (hR 544)
def o328:=hC "law" "law" (top 51)
def o329:=hQ "law" "law" 888 324 1 546 .none .none (hR 548) 891
def o330:=hF "law" "law" (top 51) (hS "law_mustmay_k12_plans_written" 782) (hR 549)
def o331:=hDn 16 [hE P "__name__" 165 (hS "mustmay.doors" 266),hE P "__doc__" 166 .none,hE P "__package__" 167 .none,hE P "__loader__" 168 (.builtin "__main__.__loader__#opaque"),hE P "__spec__" 169 .none,hE P "__annotations__" 170 (hR 6),hE P "__builtins__" 171 (hR 4),hE P "__file__" 173 (hS "/claim/cut.py" 172),hE P "__cached__" 174 .none,hE P "_wall" 193 (hR 21),hE P "HallError" 213 (hR 31),hE P "BadPlan" 240 (hR 51),hE P "NoText" 265 (hR 70),hE P "Door" 303 (hR 96),hE P "Must" 348 (hR 138),hE P "May" 393 (hR 178)]
def o332:=hN [hI 1,hI 0,hR 20,hI 5,hI 0,hR 27,hI 7,hI 0,hR 40,hI 13,hI 0,hR 59,hI 19,hI 0,hR 78,hI 26,hI 0,hR 106,hI 39,hI 0,hR 146]
def o333:Obj:=⟨(.type "type"),none,(.cls ⟨"Door",[.type "object"],[hR 96,.type "object"],95,"Door",true,[],[hR 138,hR 178],false,none,false⟩),Array.mk [none,none,some (hS "Door" 268),some (hS "Door" 276),some (.builtin "object.__new__"),some (.bool true)]⟩
def o334:=hDn 32 [hE P "__name__" 165 (hS "mustmay.plans" 507),hE P "__doc__" 166 .none,hE P "__package__" 167 .none,hE P "__loader__" 168 (.builtin "__main__.__loader__#opaque"),hE P "__spec__" 169 .none,hE P "__annotations__" 170 (hR 6),hE P "__builtins__" 171 (hR 4),hE P "__file__" 173 (hS "/claim/cut.py" 172),hE P "__cached__" 174 .none,hE P "_wall" 193 (hR 21),hE P "HallError" 213 (hR 31),hE P "BadPlan" 240 (hR 51),hE P "NoText" 265 (hR 70),hE P "Door" 303 (hR 96),hE P "Must" 348 (hR 138),hE P "May" 393 (hR 178),hE P "Shut" 445 (hR 225),hE P "Torn" 497 (hR 272),hE P "door_of" 506 (hR 281),hE P "LETTERS" 510 (hS "abcdefghijklmnopqrstuvwxyz" 509),hE P "MOST_SIGNS" 512 (.int (8) 511),hE P "MOST_ACTIONS" 514 (.int (8) 513),hE P "MOST_ROOMS" 516 (.int (2000) 515),hE P "is_name" 522 (hR 286),hE P "is_action_list" 528 (hR 291),hE P "need_actions" 535 (hR 298),hE P "is_room" 543 (hR 305),hE P "is_told_door" 553 (hR 312),hE P "need_rooms" 566 (hR 319),hE P "made_door" 574 (hR 326),hE P "made_room" 580 (hR 331),hE P "told_room" 586 (hR 336)]
def o335:=hN [hI 1,hI 0,hR 20,hI 5,hI 0,hR 27,hI 7,hI 0,hR 40,hI 13,hI 0,hR 59,hI 19,hI 0,hR 78,hI 26,hI 0,hR 106,hI 39,hI 0,hR 146,hI 52,hI 0,hR 186,hI 68,hI 0,hR 233,hI 84,hI 0,hR 280,hI 97,hI 0,hR 285,hI 101,hI 0,hR 290,hI 105,hI 0,hR 297,hI 108,hI 0,hR 304,hI 110,hI 0,hR 311,hI 119,hI 0,hR 318,hI 128,hI 0,hR 325,hI 131,hI 0,hR 330,hI 133,hI 0,hR 335]
def HA:Heap:=⟨Array.mk [boot_o_0 P,boot_o_1 P,boot_o_2 P,boot_o_3 P,boot_o_4 P,boot_o_5 P,boot_o_6 P,boot_o_7 P,boot_o_8 P,boot_o_9 P,boot_o_10 P,hT [],hN [],o0,o1],{}⟩
def TB:BT:=(nn (boot_o_0 P) (nn (boot_o_1 P) (nn (boot_o_3 P) (lf (boot_o_7 P)) (lf (hT []))) (nn (boot_o_5 P) (lf (boot_o_9 P)) (lf o0))) (nn (boot_o_2 P) (nn (boot_o_4 P) (lf (boot_o_8 P)) (lf (hN []))) (nn (boot_o_6 P) (lf (boot_o_10 P)) (lf o1))))
def LF:List Obj:=boot_o_0 P::boot_o_1 P::boot_o_2 P::o2 P::boot_o_4 P::boot_o_5 P::boot_o_6 P::boot_o_7 P::boot_o_8 P::boot_o_9 P::boot_o_10 P::hT []::o3::o0::o1::hT []::hN []::o4::hT []::o5::o6::o7::o8::o9::o10 P::hT []::hN []::o11::o12::hT []::o13 P::o14::o15::o16::o17::hT [(hR 31)]::o9::o18 P::hT []::o19::o20::o21::hT []::hN []::o22::hT []::o23::o24::o25::o26::o27 P::o28::o29::o30::hT [(hR 31)]::o9::o31 P::hT []::o32::o33::o34::hT []::hN []::o35::hT []::o36::o37::o38::o39::o40 P::o41::o42::o43::hT []::o9::o44 P::hT []::o45::o46::o47::hT []::hN []::o48::hT []::o49::o50::o51::hT []::hN []::o52::hT []::o53::o54::o55::o56::o57 P::o58::o59::o60::o61::o62::hT [(hR 96)]::o9::o63 P::hT []::o64::o65::o66::hT []::hN []::o67::hT []::o68::o69::o70::hT []::hN []::o71::hT []::o72::o73::o74::hT []::hN []::o75::hT []::o76::o77::o78::hT []::hN []::o79::hT []::o80::o81::o82::hT []::o83 P::o84::o85::o86::hT [(hR 96)]::o9::o87 P::hT []::o88::o89::o90::hT []::hN []::o91::hT []::o92::o93::o94::hT []::hN []::o95::hT []::o96::o97::o98::hT []::hN []::o99::hT []::o100::o101::o102::hT []::hN []::o103::hT []::o104::o105::o106::hT []::o107 P::o108::o109::o110::hT [(hR 96)]::o9::o111 P::hT []::o112::o113::o114::hT []::hN []::o115::hT []::o116::o117::o118::hT []::hN []::o119::hT []::o120::o121::o122::hT []::hN []::o123::hT []::o124::o125::o126::hT []::hN []::o127::hT []::o128::o129::o130::hT []::hN []::o131::hT []::o132::o133::o134::hT []::o135 P::o136::o137::o138::hT [(hR 96)]::o9::o139 P::hT []::o140::o141::o142::hT []::hN []::o143::hT []::o144::o145::o146::hT []::hN []::o147::hT []::o148::o149::o150::hT []::hN []::o151::hT []::o152::o153::o154::hT []::hN []::o155::hT []::o156::o157::o158::hT []::hN []::o159::hT []::o160::o161::o162::hT []::o163 P::o164::o165::o166::hT []::hN []::o167::hT []::o168::o169::o170::hT []::hN []::o171::o172::o173::hT []::hN []::o174::o175::o176::hT []::hN []::o177::hT []::o178::o179::o180::hT []::hN []::o181::hT []::o182::o183::o184::hT []::hN []::o185::hT []::o186::o187::o188::hT []::hN []::o189::hT []::o190::o191::o192::hT []::hN []::o193::hT []::o194::o195::o196::hT []::hN []::o197::o198::o199::hT []::hN []::o200::o201::o202::hT []::o9::o203 P::hT []::o204::o205::o206::hT []::hN []::o207::o208::o209::hT []::hN []::o210::hT []::o211::o212::o213::hT []::hN []::o214::hT []::o215::o216::o217::hT []::hN []::o218::hT []::o219::o220::o221::hT []::hN []::o222::hT []::o223::o224::o225::hT []::hN []::o226::o227::o228::hT []::hN []::o229::hT []::o230::o231::o232::hT []::hN []::o233::hT []::o234::o235::o236::o237::o238 P::o239::o240::o241::o242::o243::hT [(hR 398)]::o9::o244 P::hT []::o245::o246::o247::hT []::hN []::o248::hT []::o249::o250::o251::hT []::o252 P::o253::o254::o255::o256::hT []::hN []::o257::o258::o259::hT []::hN []::o260::hT []::o261::o262::o263::hT []::hN []::o264::hT []::o265::o266::o267::hT []::hN []::o268::hT []::o269::o270::o271::hT []::hN []::o272::o273::o274::hT []::hN []::o275::hT []::o276::o277::o278::hT []::hN []::o279::hT []::o280::o281::o282::hT []::hN []::o283::hT []::o284::o285::o286::hT []::hN []::o287::o288::o289::hT []::hN []::o290::o291::o292::hT []::hN []::o293::hT []::o294::o295::o296::hT []::hN []::o297::hT []::o298::o299::o300::hT []::hN []::o301::hT []::o302::o303::o304::hT []::hN []::o305::o306::o307::hT []::hN []::o308::hT []::o309::o310::o311::hT []::hN []::o312::hT []::o313::o314::o315::hT []::hN []::o316::hT []::o317::o318::o319::hT []::hN []::o320::hT []::o321::o322::o323::hT []::hN []::o324::hT []::o325::o326::o327::hT []::hN []::o328::o329::o330::[]
def TF:BT:=bt 12 (LF P)
def TM0:BT:=bt 12 (((((LF P).take 181).set 3 (o331 P)).set 12 o332).set 96 o333)
def TM1:BT:=bt 12 ((((LF P).take 337).set 3 (o334 P)).set 12 o335)
def HF:Heap:=⟨Array.mk (LF P),{}⟩
def KK:Params->Frag:=λP=>(nat_lit 2,boot_o_2 P)::(nat_lit 3,o2 P)::(nat_lit 15,hT [])::(nat_lit 17,o4)::(nat_lit 18,hT [])::(nat_lit 20,o6)::(nat_lit 21,o7)::(nat_lit 22,o8)::(nat_lit 29,hT [])::(nat_lit 30,o13 P)::(nat_lit 31,o14)::(nat_lit 32,o15)::(nat_lit 35,hT [(hR 31)])::(nat_lit 42,hT [])::(nat_lit 44,o22)::(nat_lit 45,hT [])::(nat_lit 47,o24)::(nat_lit 48,o25)::(nat_lit 49,o26)::(nat_lit 50,o27 P)::(nat_lit 51,o28)::(nat_lit 54,hT [(hR 31)])::(nat_lit 61,hT [])::(nat_lit 63,o35)::(nat_lit 64,hT [])::(nat_lit 66,o37)::(nat_lit 67,o38)::(nat_lit 68,o39)::(nat_lit 69,o40 P)::(nat_lit 70,o41)::(nat_lit 80,hT [])::(nat_lit 82,o48)::(nat_lit 83,hT [])::(nat_lit 85,o50)::(nat_lit 86,o51)::(nat_lit 87,hT [])::(nat_lit 89,o52)::(nat_lit 90,hT [])::(nat_lit 92,o54)::(nat_lit 93,o55)::(nat_lit 94,o56)::(nat_lit 95,o57 P)::(nat_lit 96,o58)::(nat_lit 97,o59)::(nat_lit 98,o60)::(nat_lit 101,hT [(hR 96)])::(nat_lit 108,hT [])::(nat_lit 110,o67)::(nat_lit 111,hT [])::(nat_lit 113,o69)::(nat_lit 114,o70)::(nat_lit 115,hT [])::(nat_lit 117,o71)::(nat_lit 118,hT [])::(nat_lit 120,o73)::(nat_lit 121,o74)::(nat_lit 122,hT [])::(nat_lit 124,o75)::(nat_lit 125,hT [])::(nat_lit 127,o77)::(nat_lit 128,o78)::(nat_lit 129,hT [])::(nat_lit 131,o79)::(nat_lit 132,hT [])::(nat_lit 134,o81)::(nat_lit 135,o82)::(nat_lit 136,hT [])::(nat_lit 137,o83 P)::(nat_lit 138,o84)::(nat_lit 141,hT [(hR 96)])::(nat_lit 148,hT [])::(nat_lit 150,o91)::(nat_lit 151,hT [])::(nat_lit 153,o93)::(nat_lit 154,o94)::(nat_lit 155,hT [])::(nat_lit 157,o95)::(nat_lit 158,hT [])::(nat_lit 160,o97)::(nat_lit 161,o98)::(nat_lit 162,hT [])::(nat_lit 164,o99)::(nat_lit 165,hT [])::(nat_lit 167,o101)::(nat_lit 168,o102)::(nat_lit 169,hT [])::(nat_lit 171,o103)::(nat_lit 172,hT [])::(nat_lit 174,o105)::(nat_lit 175,o106)::(nat_lit 176,hT [])::(nat_lit 177,o107 P)::(nat_lit 178,o108)::(nat_lit 181,hT [(hR 96)])::(nat_lit 188,hT [])::(nat_lit 190,o115)::(nat_lit 191,hT [])::(nat_lit 193,o117)::(nat_lit 194,o118)::(nat_lit 195,hT [])::(nat_lit 197,o119)::(nat_lit 198,hT [])::(nat_lit 200,o121)::(nat_lit 201,o122)::(nat_lit 202,hT [])::(nat_lit 204,o123)::(nat_lit 205,hT [])::(nat_lit 207,o125)::(nat_lit 208,o126)::(nat_lit 209,hT [])::(nat_lit 211,o127)::(nat_lit 212,hT [])::(nat_lit 214,o129)::(nat_lit 215,o130)::(nat_lit 216,hT [])::(nat_lit 218,o131)::(nat_lit 219,hT [])::(nat_lit 221,o133)::(nat_lit 222,o134)::(nat_lit 223,hT [])::(nat_lit 224,o135 P)::(nat_lit 225,o136)::(nat_lit 228,hT [(hR 96)])::(nat_lit 235,hT [])::(nat_lit 237,o143)::(nat_lit 238,hT [])::(nat_lit 240,o145)::(nat_lit 241,o146)::(nat_lit 242,hT [])::(nat_lit 244,o147)::(nat_lit 245,hT [])::(nat_lit 247,o149)::(nat_lit 248,o150)::(nat_lit 249,hT [])::(nat_lit 251,o151)::(nat_lit 252,hT [])::(nat_lit 254,o153)::(nat_lit 255,o154)::(nat_lit 256,hT [])::(nat_lit 258,o155)::(nat_lit 259,hT [])::(nat_lit 261,o157)::(nat_lit 262,o158)::(nat_lit 263,hT [])::(nat_lit 265,o159)::(nat_lit 266,hT [])::(nat_lit 268,o161)::(nat_lit 269,o162)::(nat_lit 270,hT [])::(nat_lit 271,o163 P)::(nat_lit 272,o164)::(nat_lit 275,hT [])::(nat_lit 277,o167)::(nat_lit 278,hT [])::(nat_lit 280,o169)::(nat_lit 281,o170)::(nat_lit 282,hT [])::(nat_lit 285,o172)::(nat_lit 286,o173)::(nat_lit 287,hT [])::(nat_lit 290,o175)::(nat_lit 291,o176)::(nat_lit 292,hT [])::(nat_lit 294,o177)::(nat_lit 295,hT [])::(nat_lit 297,o179)::(nat_lit 298,o180)::(nat_lit 299,hT [])::(nat_lit 301,o181)::(nat_lit 302,hT [])::(nat_lit 304,o183)::(nat_lit 305,o184)::(nat_lit 306,hT [])::(nat_lit 308,o185)::(nat_lit 309,hT [])::(nat_lit 311,o187)::(nat_lit 312,o188)::(nat_lit 313,hT [])::(nat_lit 315,o189)::(nat_lit 316,hT [])::(nat_lit 318,o191)::(nat_lit 319,o192)::(nat_lit 320,hT [])::(nat_lit 322,o193)::(nat_lit 323,hT [])::(nat_lit 325,o195)::(nat_lit 326,o196)::(nat_lit 327,hT [])::(nat_lit 330,o198)::(nat_lit 331,o199)::(nat_lit 332,hT [])::(nat_lit 335,o201)::(nat_lit 336,o202)::(nat_lit 344,hT [])::(nat_lit 347,o208)::(nat_lit 348,o209)::(nat_lit 349,hT [])::(nat_lit 351,o210)::(nat_lit 352,hT [])::(nat_lit 354,o212)::(nat_lit 355,o213)::(nat_lit 356,hT [])::(nat_lit 358,o214)::(nat_lit 359,hT [])::(nat_lit 361,o216)::(nat_lit 362,o217)::(nat_lit 363,hT [])::(nat_lit 365,o218)::(nat_lit 366,hT [])::(nat_lit 368,o220)::(nat_lit 369,o221)::(nat_lit 370,hT [])::(nat_lit 372,o222)::(nat_lit 373,hT [])::(nat_lit 375,o224)::(nat_lit 376,o225)::(nat_lit 377,hT [])::(nat_lit 380,o227)::(nat_lit 381,o228)::(nat_lit 382,hT [])::(nat_lit 384,o229)::(nat_lit 385,hT [])::(nat_lit 387,o231)::(nat_lit 388,o232)::(nat_lit 389,hT [])::(nat_lit 391,o233)::(nat_lit 392,hT [])::(nat_lit 394,o235)::(nat_lit 395,o236)::(nat_lit 396,o237)::(nat_lit 397,o238 P)::(nat_lit 398,o239)::(nat_lit 399,o240)::(nat_lit 400,o241)::(nat_lit 403,hT [(hR 398)])::(nat_lit 410,hT [])::(nat_lit 412,o248)::(nat_lit 413,hT [])::(nat_lit 415,o250)::(nat_lit 416,o251)::(nat_lit 417,hT [])::(nat_lit 418,o252 P)::(nat_lit 419,o253)::(nat_lit 422,o256)::(nat_lit 423,hT [])::(nat_lit 426,o258)::(nat_lit 427,o259)::(nat_lit 428,hT [])::(nat_lit 430,o260)::(nat_lit 431,hT [])::(nat_lit 433,o262)::(nat_lit 434,o263)::(nat_lit 435,hT [])::(nat_lit 437,o264)::(nat_lit 438,hT [])::(nat_lit 440,o266)::(nat_lit 441,o267)::(nat_lit 442,hT [])::(nat_lit 444,o268)::(nat_lit 445,hT [])::(nat_lit 447,o270)::(nat_lit 448,o271)::(nat_lit 449,hT [])::(nat_lit 452,o273)::(nat_lit 453,o274)::(nat_lit 454,hT [])::(nat_lit 456,o275)::(nat_lit 457,hT [])::(nat_lit 459,o277)::(nat_lit 460,o278)::(nat_lit 461,hT [])::(nat_lit 463,o279)::(nat_lit 464,hT [])::(nat_lit 466,o281)::(nat_lit 467,o282)::(nat_lit 468,hT [])::(nat_lit 470,o283)::(nat_lit 471,hT [])::(nat_lit 473,o285)::(nat_lit 474,o286)::(nat_lit 475,hT [])::(nat_lit 478,o288)::(nat_lit 479,o289)::(nat_lit 480,hT [])::(nat_lit 483,o291)::(nat_lit 484,o292)::(nat_lit 485,hT [])::(nat_lit 487,o293)::(nat_lit 488,hT [])::(nat_lit 490,o295)::(nat_lit 491,o296)::(nat_lit 492,hT [])::(nat_lit 494,o297)::(nat_lit 495,hT [])::(nat_lit 497,o299)::(nat_lit 498,o300)::(nat_lit 499,hT [])::(nat_lit 501,o301)::(nat_lit 502,hT [])::(nat_lit 504,o303)::(nat_lit 505,o304)::(nat_lit 506,hT [])::(nat_lit 509,o306)::(nat_lit 510,o307)::(nat_lit 511,hT [])::(nat_lit 513,o308)::(nat_lit 514,hT [])::(nat_lit 516,o310)::(nat_lit 517,o311)::(nat_lit 518,hT [])::(nat_lit 520,o312)::(nat_lit 521,hT [])::(nat_lit 523,o314)::(nat_lit 524,o315)::(nat_lit 525,hT [])::(nat_lit 527,o316)::(nat_lit 528,hT [])::(nat_lit 530,o318)::(nat_lit 531,o319)::(nat_lit 532,hT [])::(nat_lit 534,o320)::(nat_lit 535,hT [])::(nat_lit 537,o322)::(nat_lit 538,o323)::(nat_lit 539,hT [])::(nat_lit 541,o324)::(nat_lit 542,hT [])::(nat_lit 544,o326)::(nat_lit 545,o327)::(nat_lit 546,hT [])::(nat_lit 549,o329)::(nat_lit 550,o330)::[]
def as:List Addr:=[2,3,15,17,18,20,21,22,29,30,31,32,35,42,44,45,47,48,49,50,51,54,61,63,64,66,67,68,69,70,80,82,83,85,86,87,89,90,92,93,94,95,96,97,98,101,108,110,111,113,114,115,117,118,120,121,122,124,125,127,128,129,131,132,134,135,136,137,138,141,148,150,151,153,154,155,157,158,160,161,162,164,165,167,168,169,171,172,174,175,176,177,178,181,188,190,191,193,194,195,197,198,200,201,202,204,205,207,208,209,211,212,214,215,216,218,219,221,222,223,224,225,228,235,237,238,240,241,242,244,245,247,248,249,251,252,254,255,256,258,259,261,262,263,265,266,268,269,270,271,272,275,277,278,280,281,282,285,286,287,290,291,292,294,295,297,298,299,301,302,304,305,306,308,309,311,312,313,315,316,318,319,320,322,323,325,326,327,330,331,332,335,336,344,347,348,349,351,352,354,355,356,358,359,361,362,363,365,366,368,369,370,372,373,375,376,377,380,381,382,384,385,387,388,389,391,392,394,395,396,397,398,399,400,403,410,412,413,415,416,417,418,419,422,423,426,427,428,430,431,433,434,435,437,438,440,441,442,444,445,447,448,449,452,453,454,456,457,459,460,461,463,464,466,467,468,470,471,473,474,475,478,479,480,483,484,485,487,488,490,491,492,494,495,497,498,499,501,502,504,505,506,509,510,511,513,514,516,517,518,520,521,523,524,525,527,528,530,531,532,534,535,537,538,539,541,542,544,545,546,549,550]
def vw:Program:=PySem.W.view pw [0,2,3,4,6,7,8,9,10,11,13,14,15,16,17,18,19,20,21,22,23,24,25,26,27,29,30,31,32,33,34,35,36,37,38,39,40,42,43,44,45,46,47,48,49,50,51]
def en:Env:={ scope:=pw.main.scope,locals:=mainNs,globals:=mainNs,cells:=[],code:=(hR 13),frame:=some 14 }
theorem hk:∀P,as=(KK P).map (·.1):=λ_=>by kernel_rfl
noncomputable abbrev cE:Code:=.body (behindTheImports pw) en
noncomputable abbrev fB:List Frame:=[topFrame ⟨0,0,0,0⟩]
theorem t_pre(w:World)(os:OsState):topGo treeTable pw w 11 (some (.ref 6)) 12 ⟨boot_heap w.params,Array.mk [],boot_drawn,boot_toks,os⟩ (topStub pw)=some (⟨HA w.params,Array.mk [],{},187,os⟩,⟨denote treeTable cE,cE,⟨0,0,0,0⟩,fB⟩):=by kernel_rfl
theorem t_block(w:World)(os:OsState):segRun treeTable pw w 11 (some (.ref 6)) 1 1 ⟨HA w.params,Array.mk [],{},187,os⟩ (blockOf (behindTheImports pw) en cE ⟨0,0,0,0⟩ fB)=some (.next,(SharedT.mk (TB w.params) 15 {} (Array.mk []) {} 187 os).abs,cE,⟨0,0,0,0⟩):=by kernel_rfl
theorem t_body0(w:World)(os:OsState):segRunT treeTable pw w 11 (some (.ref 6)) 1 1654 (SharedT.mk (TB w.params) 15 {} (Array.mk []) {} 187 os) (piecesOf ((behindTheImports pw).take 9) en cE ⟨0,0,0,0⟩ fB)=some (.next,(SharedT.mk (TM0 w.params) 181 {} (Array.mk []) {} 394 os),cE,⟨39,0,51,22⟩):=by kernel_rfl
theorem t_body1(w:World)(os:OsState):segRunT treeTable pw w 11 (some (.ref 6)) 1 1074 (SharedT.mk (TM0 w.params) 181 {} (Array.mk []) {} 394 os) (piecesOf (((behindTheImports pw).drop 9).take 17) en cE ⟨39,0,51,22⟩ fB)=some (.next,(SharedT.mk (TM1 w.params) 337 {} (Array.mk []) {} 587 os),cE,⟨133,0,134,42⟩):=by kernel_rfl
theorem t_body2(w:World)(os:OsState):segRunT treeTable pw w 11 (some (.ref 6)) 1 1344 (SharedT.mk (TM1 w.params) 337 {} (Array.mk []) {} 587 os) (piecesOf ((behindTheImports pw).drop 26) en cE ⟨133,0,134,42⟩ fB)=some (.next,(SharedT.mk (TF w.params) 551 {} (Array.mk []) {} 894 os),cE,⟨324,0,341,60⟩):=by kernel_rfl
theorem t_split:(behindTheImports pw)=((behindTheImports pw).take 9)++((((behindTheImports pw).drop 9).take 17)++(((behindTheImports pw).drop 26)++([]))):=by kernel_rfl
theorem t_fin(w:World)(os:OsState):topRun treeTable pw w 11 (some (.ref 6)) 2 (SharedT.mk (TF w.params) 551 {} (Array.mk []) {} 894 os).abs ⟨doneF .next,cE,⟨324,0,341,60⟩,fB⟩=some ⟨HF w.params,Array.mk [],{},894,os⟩:=by kernel_rfl
theorem t_run(w:World)(os:OsState):topRun treeTable pw w 11 (some (.ref 6)) (12+(1+(1654+(1074+(1344+2))))) ⟨boot_heap w.params,Array.mk [],boot_drawn,boot_toks,os⟩ (topStub pw)=some ⟨HF w.params,Array.mk [],{},894,os⟩:=
 go_top (t_pre w os) (piece_block (q:=⟨0,0,0,0⟩) (t_block w os) (by
  have h:=piece_app (q:=⟨0,0,0,0⟩) (segRun_of (t_body0 w os)) (piece_app (q:=⟨0,0,0,0⟩) (segRun_of (t_body1 w os)) (piece_app (q:=⟨0,0,0,0⟩) (segRun_of (t_body2 w os)) (piece_nil (t_fin w os))))
  rw[←t_split] at h
  exact h))
theorem t_op(w:World):(fencedOpening treeTable pw w 8258).map (λs=>(s.heap,s.gens,s.drawn,s.toks))=some (boot_heap w.params,Array.mk [],boot_drawn,boot_toks):=boot_open (by kernel_rfl) (by decide) (λs=>by kernel_rfl) w
theorem t_size(w:World):((boot_heap w.params).isNs mainGlobals && (Array.mk []:Array GenState).size==0,(boot_heap w.params).objs.size,(boot_heap w.params).nsMap mainGlobals "__annotations__")=(true,11,(some (.ref 6))):=by kernel_rfl
theorem tk1(w:World):staticsOk (importedModules pw.main.body) (boot_heap w.params) (HF w.params)=true:=by kernel_rfl
theorem tk2(w:World):namesBound pw (HF w.params)=true:=by kernel_rfl
theorem tk3(w:World)(os:OsState):gensDone ⟨HF w.params,Array.mk [],{},894,os⟩=true:=by kernel_rfl
theorem tk4(w:World):laidKept (boot_heap w.params) (HF w.params)=true:=by kernel_rfl
open PySem.Calls PyProof.Rows in
theorem tkc0(w:World)(os:OsState):seen ((recsOf vw).map (·.name)) (ownsOf vw) [] (Shared.mk (HF w.params) #[] {} 894 os)=expectedOf vw:=by kernel_rfl
open PySem.Calls PyProof.Rows in
theorem tkc1(w:World)(os:OsState):Heap.bltView (HF w.params)=bltViewBooted:=by kernel_rfl
open PySem.Calls PyProof.Rows in
theorem tkc2a(w:World)(os:OsState):Heap.keysOk (HF w.params) (looseW vw []) ((recsOf vw).map (·.name)) ((litsOf vw).map (·.1)) ((clssOf vw (looseW vw [])).map (·.name))=true:=by kernel_rfl
open PySem.Calls PyProof.Rows in
theorem tkc2b(w:World)(os:OsState):Heap.accountedOkI (HF w.params) (importedModules pw.main.body)=true:=by kernel_rfl
open PySem.Calls PyProof.Rows in
theorem tkc2c(w:World)(os:OsState):Heap.isNs (HF w.params) mainGlobals=true:=by kernel_rfl
open PySem.Calls PyProof.Rows in
theorem tkc2d(w:World)(os:OsState):Heap.isNs (HF w.params) builtinsNs=true:=by kernel_rfl
open PySem.Calls PyProof.Rows in
theorem tkc2e(w:World)(os:OsState):tablesOk vw (HF w.params)=true:=by kernel_rfl
open PySem.Calls PyProof.Rows in
theorem tkc2f(w:World)(os:OsState):(λs=>xlAt vw [] s && recOk (RowW.records PySem.Challenge.rw_mustmay_k12_plans_written.row.toRowW) s) ⟨HF w.params,Array.mk [],{},894,os⟩=true:=by kernel_rfl
open PySem.Calls PyProof.Rows in
theorem tkc3(w:World)(os:OsState):tabsOk vw ⟨HF w.params,Array.mk [],{},894,os⟩=true:=by kernel_rfl
open PySem.Calls PyProof.Rows in
theorem tkc4(w:World)(os:OsState):pinSeenD vw (drecsOf vw) ⟨HF w.params,Array.mk [],{},894,os⟩=pinGoodD (drecsOf vw):=by kernel_rfl
open PySem.Calls PyProof.Rows in
theorem tkc5(w:World)(os:OsState):plainSeenE vw (looseW vw []) ⟨HF w.params,Array.mk [],{},894,os⟩=plainGoodE vw (looseW vw []):=by kernel_rfl
open PySem.Calls PyProof.Rows in
theorem tkc6(w:World)(os:OsState):plainSeenD vw [] ⟨HF w.params,Array.mk [],{},894,os⟩=plainGoodD vw []:=by kernel_rfl
open PySem.Calls PyProof.Rows in
theorem tkc7(w:World)(os:OsState):wideSeen vw ⟨HF w.params,Array.mk [],{},894,os⟩=wideGood vw:=by kernel_rfl
open PySem.Calls PyProof.Rows in
theorem tkc8(w:World)(os:OsState):clsSeenW vw [] ⟨HF w.params,Array.mk [],{},894,os⟩=clsGoodW vw []:=by kernel_rfl
theorem and7{a b c d e f g:Bool}(h1:a=true)(h2:b=true)(h3:c=true)(h4:d=true)(h5:e=true)(h6:f=true)(h7:g=true):(a && b && c && d && e && f && g)=true:=by rw[h1,h2,h3,h4,h5,h6,h7];rfl
theorem ext9{A0 A1 A2 A3 A4 A5 A6 A7 A8:Type}{a0 b0:A0}{a1 b1:A1}{a2 b2:A2}{a3 b3:A3}{a4 b4:A4}{a5 b5:A5}{a6 b6:A6}{a7 b7:A7}{a8 b8:A8}(h0:a0=b0)(h1:a1=b1)(h2:a2=b2)(h3:a3=b3)(h4:a4=b4)(h5:a5=b5)(h6:a6=b6)(h7:a7=b7)(h8:a8=b8):(a0,a1,a2,a3,a4,a5,a6,a7,a8)=(b0,b1,b2,b3,b4,b5,b6,b7,b8):=by rw[h0,h1,h2,h3,h4,h5,h6,h7,h8]
theorem tk5(w:World)(os:OsState):(openSeen vw [] (importedModules pw.main.body) (λs=>xlAt vw [] s && recOk (RowW.records PySem.Challenge.rw_mustmay_k12_plans_written.row.toRowW) s) true ⟨HF w.params,Array.mk [],{},894,os⟩)=openGood vw []:=by
 unfold openSeen openGood
 exact ext9 (tkc0 w os) (tkc1 w os) (and7 (tkc2a w os) (tkc2b w os) (tkc2c w os) (tkc2d w os) (tkc2e w os) (tkc2f w os) rfl) (tkc3 w os) (tkc4 w os) (tkc5 w os) (tkc6 w os) (tkc7 w os) (tkc8 w os)
theorem tk6(w:World)(os:OsState):Hook.obs (kHook KK as hk) ⟨HF w.params,Array.mk [],{},894,os⟩=Hook.val (kHook KK as hk) w:=by kernel_rfl
theorem t_left:LeftO pw vw [] (λs=>xlAt vw [] s && recOk (RowW.records PySem.Challenge.rw_mustmay_k12_plans_written.row.toRowW) s) (Hook.obs (kHook KK as hk)) (Hook.val (kHook KK as hk)) 8258 true :=
 LeftO.of_pieces (H₀:=boot_heap) (H₁:=HF) (m₀:=11) (ann:=(some (.ref 6))) (M:=(12+(1+(1654+(1074+(1344+2)))))) t_op t_size t_run (by decide) λw=>funext λos=>Prod.ext (by dsimp only;rw[tk1,tk2,tk3,tk4];rfl) (Prod.ext (tk5 w os) (tk6 w os))
end
end K9
local macro_rules
 | `(tactic| walk_at $s:str)=>do
  unless s.getString=="f" do Lean.Macro.throwUnsupported
  `(tactic| first
  | (refine' DL.zB.of ?_ ?_ ?_ ?_ ?_ ?_ ?_ ?_ ?_ <;> first | k_is | skip)
  | (refine' DL.TX.mk ?_ (DL.FX.of ?_ ?_ ?_ ?_) <;> first | k_is | skip)
  | (refine' DL.FX.of ?_ ?_ ?_ ?_ <;> first | k_is | skip)
  | (refine' DL.MkF.mk ?_ ?_ ?_ <;> first | k_is | skip)
  | (refine' DL.GetF.mk ?_ ?_ <;> first | k_is | skip)
  | (show findIn _ _ _=_;k_is)
  | k_is
  | decide
  | skip)
namespace K9
open PySem PySem.W PyProof.Rows L2 MX DL
set_option maxRecDepth 100000 in
set_option maxHeartbeats 0 in
theorem QV(w:World)(mg:Str->Option Value)(fa:Addr)(h:Heap)(KX:(KK w.params).In h)(G:h.Ns mainGlobals mg)(hmg:mg "law"=some (.ref fa)):∃fd:FuncData,(∀(s:Shared)(u:Value),BindsTo s fd ⟨[u],[]⟩ [("_law_script",u)])/\∀base:Heap,(KK w.params).In base->base.Ns mainGlobals mg->bY PySem.Challenge.rw_mustmay_k12_plans_written.prog w (KK w.params) mg base CX0 10 fa fd ["_law_script"] (Mj (KK w.params)):=by
 k_fill
 refine' all_mk (l:=PySem.Challenge.rw_mustmay_k12_plans_written) KX G hmg ?_ ?_ ?_ ?_ ?_ ?_ ?_ ?_ ?_ ?_ ?_ ?_ ?_ ?_ ?_ ?_ ?_ ?_ ?_ ?_ ?_ ?_ ?_ ?_ ?_ ?_ ?_ ?_ ?_ ?_ ?_ ?_ ?_ ?_ ?_ ?_ ?_ ?_ ?_ ?_ ?_ ?_ ?_ ?_ ?_ ?_ ?_ ?_ ?_ ?_ ?_ ?_ ?_ ?_ ?_ ?_ ?_ ?_ ?_ ?_ ?_ ?_ ?_ ?_ ?_ ?_ ?_ ?_ ?_ ?_ ?_ ?_ ?_ ?_ ?_ ?_ ?_ ?_ ?_ ?_ ?_ ?_ ?_ ?_ ?_ ?_ ?_ ?_ ?_ ?_ ?_ ?_ ?_ ?_ ?_ ?_ ?_ ?_ ?_ ?_ ?_ ?_ ?_ ?_ ?_ ?_ ?_ ?_ ?_ ?_ ?_ ?_ ?_ ?_ ?_ ?_ ?_ ?_ ?_ ?_ ?_ ?_ ?_ ?_ ?_ ?_ ?_ <;> walk_at "f"
end K9
open PySem PySem.W PyProof.Rows
set_option maxRecDepth 100000 in
set_option maxHeartbeats 0 in
theorem PySem.Challenge.cw_mustmay_k12_plans_written_holds : PySem.Challenge.rw_mustmay_k12_plans_written.Holds := by
 w_on
 refine PySem.W.holds_law h_said λsaid=>?_
 refine holds_open (q:=K9.vw) (loose:=[]) (Xt:=λs=>xlAt K9.vw [] s && recOk (RowW.records PySem.Challenge.rw_mustmay_k12_plans_written.row.toRowW) s) (XP:=XL K9.vw []) (Yf:=Hook.obs (kHook K9.KK K9.as K9.hk)) (Ya:=Hook.val (kHook K9.KK K9.as K9.hk)) (YP:=Hook.says (kHook K9.KK K9.as K9.hk)) (N:=8258) K9.t_left (Hook.of (kHook K9.KK K9.as K9.hk)) (Hook.keeps (kHook K9.KK K9.as K9.hk)) (λs e=>xl_of s (Bool.and_eq_true_iff.mp e).1) XL.keeps (by rfl) (by rfl) (by rfl) (λs e=>recFacts_of (Bool.and_eq_true_iff.mp e).2) (by rfl) said (by decide +kernel) h_bare ?hw ?hc
 (case hw=>w_witness2)
 k_fill
 refine K9.walk (l:=PySem.Challenge.rw_mustmay_k12_plans_written) rfl rfl (λw h Y=>PySem.W.kIn_of Y) ?F
 case F =>
  intro w mg fa h KX G hmg
  exact K9.QV w mg fa h KX G hmg
