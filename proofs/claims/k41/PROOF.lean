import PyProof.Rows.All
import Wide.All
import OpenK.AllK
import Wide.FinOn
import Lean
import PyProof.EqAt
import PyProof.EqKinds
import PyProof.TupleCall
import PyProof.ExcClass2
import PyProof.NsCount
import PyProof.StationsW
import PyProof.PassesOwn
import PyProof.Commute
import PyProof.RulesAs
import PyProof.NsDelKeeps
import KE.KTryMore
import KE.KDictLaws
import KE.KDictList
import KE.KDictOf
import KE.KMinBuiltin
import KE.KRevIter
import KE.KTryMore
import KE.KSortTup
import PyProof.AttrMissHeap
import PyProof.CallStr
import PyProof.Commute
import PyProof.ConsumeWalk
import PyProof.DictItems
import PyProof.DictRoadsH
import PyProof.DictTruth
import PyProof.DictWalks
import PyProof.EnumMake
import PyProof.FactsAll.NoneType_1
import PyProof.FactsAll.list_3
import PyProof.ListNew
import PyProof.MaxThree
import PyProof.MinMaxWalk
import PyProof.NsDelKeeps
import PyProof.PassesOwn
import PyProof.Rows.CallKwBuiltin
import PyProof.Rows.SortWalk
import PyProof.Rows.StrNews2
import PyProof.Rows.ZipGen
import PyProof.RulesAs
import PyProof.StationsW
import PyProof.StrLawsTight
import PyProof.SumWalk
import PyProof.Walks
import PyProof.WalksMore
import PyProof.ZipIter
import PyProof.SeqI3
import PySem.Challenge.RW_mustmay_k41_rooms_that_contradict_themse
set_option Elab.async false
set_option linter.all false
set_option maxRecDepth 100000
set_option compiler.extract_closed false
noncomputable section
open PySem.W (Frag findIn mg_of nsIn keepIn mg_none_of)
set_option maxHeartbeats 0 in
theorem h_said:PySem.Challenge.rw_mustmay_k41_rooms_that_contradict_themse.wellSaid=true:=by kernel_rfl
set_option maxHeartbeats 0 in
theorem h_bare:PySem.Challenge.rw_mustmay_k41_rooms_that_contradict_themse.row.prog.bare:=⟨rfl,rfl,rfl,rfl,rfl,by decide +kernel⟩
namespace L2
open PySem PySem.Spec PyProof.Rows
abbrev Key:=Sum Int Str
noncomputable def wA:Key->Value->Bool
 | .inl k,v=>Value.isInt k v
 | .inr x,v=>Value.isStrOf x v
noncomputable def keyH(w:World):Key->Int
 | .inl k=>hashInt k
 | .inr x=>hashStr w x
theorem bC:∀{k:Key}{v:Value},wA k v=true->(∃i t,k=Sum.inl i/\v=Value.int i t)∨(∃x t,k=Sum.inr x/\v=Value.str x t)
 | .inl i,v,h=>by
  obtain⟨t,e⟩:=Value.isInt_shape (k:=i) (v:=v) h
  exact .inl ⟨i,t,rfl,e⟩
 | .inr x,v,h=>by
  obtain⟨t,e⟩:=Value.isStrOf_shape (x:=x) (v:=v) h
  exact .inr ⟨x,t,rfl,e⟩
theorem Qh(i:Int)(t:Tok):wA (.inl i) (.int i t)=true:=by simp[wA,Value.isInt]
theorem Qi(x:Str)(t:Tok):wA (.inr x) (.str x t)=true:=by simp[wA,Value.isStrOf]
theorem key_ll(a b:Int):decide ((Sum.inl a:Key)=Sum.inl b)=(a==b):=by
 by_cases e:a=b
 .subst e;simp
 .have h:¬(Sum.inl a:Key)=Sum.inl b:=λq=>e (Sum.inl.inj q)
  rw[decide_eq_false h]
  exact(beq_eq_false_iff_ne.mpr e).symm
theorem key_rr(a b:Str):decide ((Sum.inr a:Key)=Sum.inr b)=decide (a=b):=by
 by_cases e:a=b
 .subst e;simp
 .have h:¬(Sum.inr a:Key)=Sum.inr b:=λq=>e (Sum.inr.inj q)
  rw[decide_eq_false h,decide_eq_false e]
theorem key_lr(a:Int)(b:Str):decide ((Sum.inl a:Key)=Sum.inr b)=false:=decide_eq_false (λq=>nomatch q)
theorem key_rl(a:Str)(b:Int):decide ((Sum.inr a:Key)=Sum.inl b)=false:=decide_eq_false (λq=>nomatch q)
def bw(prog:Program)(w:World):PySem.KeyKind prog w Key where
 is:=wA
 hash:=keyH w
 inj:=λv a b ha hb=>by
  rcases bC ha with⟨i,t,rfl,rfl⟩| ⟨x,t,rfl,rfl⟩
  .rcases bC hb with⟨j,u,rfl,e⟩| ⟨y,u,rfl,e⟩
   .injection e with e1 _;rw[e1]
   .exact nomatch e
  .rcases bC hb with⟨j,u,rfl,e⟩| ⟨y,u,rfl,e⟩
   .exact nomatch e
   .injection e with e1 _;rw[e1]
 byValue:=λk v h=>by
  rcases bC h with⟨i,t,rfl,rfl⟩| ⟨x,t,rfl,rfl⟩ <;> rfl
 pyHash:=λhv h=>by
  rcases bC hv with⟨i,t,rfl,rfl⟩| ⟨x,t,rfl,rfl⟩
  .exact wpAny_pyHash_int h
  .exact wpAny_pyHash_str h
 eqBool:=λhu hv h=>by
  rcases bC hu with⟨i,t,rfl,rfl⟩| ⟨x,t,rfl,rfl⟩
  .rcases bC hv with⟨j,u,rfl,rfl⟩| ⟨y,u,rfl,rfl⟩
   .rw[key_ll] at h;exact wpAny_eqBool_int h
   .rw[key_lr] at h;exact SeqAt.EqAt.int_str i t y u _ _ _ _ h
  .rcases bC hv with⟨j,u,rfl,rfl⟩| ⟨y,u,rfl,rfl⟩
   .rw[key_rl] at h;exact SeqAt.EqAt.str_int x t j u _ _ _ _ h
   .rw[key_rr] at h;exact wpAny_eqBool_str h
 «strs»:=λk x t v h=>by
  rcases bC h with⟨i,u,rfl,e⟩| ⟨y,u,rfl,e⟩
  .exact nomatch e
  .injection e with e1 _
   subst e1
   cases v <;> rfl
theorem J4(prog:Program)(w:World)(i:Int)(t:Tok):(bw prog w).is (.inl i) (.int i t)=true:=Qh i t
theorem J5(prog:Program)(w:World)(x:Str)(t:Tok):(bw prog w).is (.inr x) (.str x t)=true:=Qi x t
end L2
namespace L2
open PySem PySem.Spec PyProof.Rows
inductive V where
 | non | bl (b:Bool) | int (i:Int) | str (x:Str) | byt (b:Array UInt8) | flt (b:UInt64) | ref (a:Addr) | ty (n:String)
 deriving DecidableEq
def RelV:V->Value->Prop
 | .non,u=>u=Value.none
 | .bl b,u=>u=Value.bool b
 | .int i,u=>∃t,u=Value.int i t
 | .str x,u=>∃t,u=Value.str x t
 | .byt b,u=>∃t,u=Value.bytes b t
 | .flt b,u=>∃t,u=Value.float b t
 | .ref a,u=>u=Value.ref a
 | .ty n,u=>u=Value.type n
abbrev Vals:List V->List Value->Prop:=Paired RelV
theorem Vals.length{xs:List V}{us:List Value}(r:Vals xs us):xs.length=us.length:=Paired.length r
theorem Vals.get:∀{xs:List V}{us:List Value}{i:Nat}{x:V},Vals xs us->xs[i]?=some x->∃u,us[i]?=some u/\RelV x u
 | _,_,_,_,.nil,e=>by simp at e
 | _,_,0,_,.cons r _,e=>by simp at e;subst e;exact⟨_,rfl,r⟩
 | _,_,i+1,x,.cons _ t,e=>by
  obtain⟨u,h1,h2⟩:=Vals.get (i:=i) (x:=x) t (by simpa using e)
  exact⟨u,by simpa using h1,h2⟩
theorem Vals.set{x:V}{u:Value}(r:RelV x u):∀{xs:List V}{us:List Value}(i:Nat),Vals xs us->Vals (xs.set i x) (us.set i u)
 | _,_,_,.nil=>.nil
 | _,_,0,.cons _ t=>.cons r t
 | _,_,i+1,.cons q t=>.cons q (Vals.set r i t)
theorem Vals.append:∀{xs ys:List V}{us ws:List Value},Vals xs us->Vals ys ws->Vals (xs++ys) (us++ws)
 | _,_,_,_,.nil,s=>s
 | _,_,_,_,.cons r t,s=>.cons r (Vals.append t s)
theorem Vals.take:∀{xs:List V}{us:List Value}(n:Nat),Vals xs us->Vals (xs.take n) (us.take n)
 | _,_,0,_=>.nil
 | _,_,_+1,.nil=>.nil
 | _,_,n+1,.cons r t=>.cons r (Vals.take n t)
theorem Vals.drop:∀{xs:List V}{us:List Value}(n:Nat),Vals xs us->Vals (xs.drop n) (us.drop n)
 | _,_,0,r=>r
 | _,_,_+1,.nil=>.nil
 | _,_,n+1,.cons _ t=>Vals.drop n t
def pG:Option V->Option Value->Prop
 | some v,some u=>RelV v u
 | none,none=>True
 | _,_=>False
def KV{κ:Type}:List (κ×V)->List (κ×Value)->Prop:=Paired λ(p:κ×V)(q:κ×Value)=>p.1=q.1/\RelV p.2 q.2
noncomputable def kV:Key->V
 | .inl i=>.int i
 | .inr x=>.str x
inductive HO where
 | lst (xs:List V)
 | tup (xs:List V)
 | dK (kvs:List (Key×V)) | dT (kvs:List (List Key×V))
 | set (S:Int->Bool) (n:Nat)
 | ins (C dx:Addr) (fs:List (Str×V))
 | own (x:Addr)
 | xd (fs:List (Str×V))
 | met (f x:Addr)
 | rng (lo hi:Int)
 | frz (o:Obj) (u:HO)
 | tbl (ps:Array Value)
 | ext (φ:Heap->Prop)
abbrev Hp:=Addr->Option HO
noncomputable def upd(H:Hp)(a:Addr)(o:HO):Hp:=λb=>if b=a then some o else H b
theorem aG{H:Hp}{a:Addr}{o:HO}:upd H a o a=some o:=by unfold upd;rw[if_pos rfl]
theorem aF{H:Hp}{a b:Addr}{o:HO}(h:b≠a):upd H a o b=H b:=by unfold upd;rw[if_neg h]
theorem ne_of{H:Hp}{a b:Addr}{o u:HO}(h:H a=some o)(h':H b=some u)(d:o≠u):a≠b:=by
 intro e;subst e;rw[h] at h';exact d (Option.some.inj h')
theorem aW{H:Hp}{a b:Addr}{o:HO}(h:H a=some o)(h':H b=none):a≠b:=by
 intro e;subst e;rw[h] at h';cases h'
section
variable(P:Program)(w:World)
def cF(H:Hp)(h:Heap)(a:Addr):HO->Prop
 | .lst xs=>xs.length<=sizeLine/\∃(its:List Value)(n:Nat),Vals xs its/\h.get? a=some { cls:=.type "list",data:=.seq its.toArray n }
 | .tup xs=>xs.length<=sizeLine/\∃its:List Value,Vals xs its/\IsTup h a its.toArray
 | .dK kvs=>kvs.length<=sizeLine/\(a==sysModules)=false/\∃vs,KV kvs vs/\h.DictOf (bw P w) a vs
 | .dT kvs=>kvs.length<=sizeLine/\(a==sysModules)=false/\∃xs:List (List Key×Addr×Value),
   Paired (λ(p:List Key×V)(q:List Key×Addr×Value)=>p.1=q.1/\H q.2.1=some (.tup (p.1.map kV))/\RelV p.2 q.2.2) kvs xs /\
   ∃o es ep,h.get? a=some o/\o.ExactDict/\o.data=.dict es ep/\es.toList=xs.map (entryOfKey (tupleKind (bw P w)))/\(xs.map (·.1)).Nodup
 | .set S n=>h.SetOf (intKind P w) a S n
 | .ins C dx fs=>H dx=some (.own a)/\fs.length<=1000/\dx≠a/\h.get? a=some (PySem.W.instObj C dx) /\
   ∃mA,h.Ns1 dx mA/\(∀f,pG (fs.lookup f) (mA f))/\PySem.Within mA (fs.map (·.1))
 | .own _=>∃o,h.get? a=some o
 | .xd fs=>∃mA,h.Ns1 a mA/\∀f,pG (fs.lookup f) (mA f)
 | .rng lo hi=>∃t u v,h.get? a=some { cls:=.type "range",data:=.fields #[.int lo t,.int hi u,.int 1 v] }
 | .frz o u=>h.get? a=some o/\cF H h a u
 | .tbl ps=>h.get? a=some { cls:=.none,data:=.fields ps }
 | .met f x=>h.get? a=some (PySem.W.methodObj (.ref f) (.ref x))
 | .ext φ=>φ h/\(∃o,h.get? a=some o)/\∀h1 h2:Heap,φ h1->(∀o,h1.get? a=some o->h2.get? a=some o)->φ h2
def HOk(H:Hp)(h:Heap):Prop:=∀a o,H a=some o->cF P w H h a o
end
section
variable{P:Program}{w:World}{H H':Hp}{h h':Heap}{a:Addr}{o:HO}
theorem cF.lt(x:cF P w H h a o):a<h.objs.size:=by
 cases o with
 | lst xs=>obtain⟨_,_,_,_,e⟩:=x;exact Heap.lt_size e
 | tup xs=>obtain⟨_,_,_,p⟩:=x;exact p.lt
 | dK kvs=>obtain⟨_,_,_,_,o,_,_,e,_⟩:=x;exact Heap.lt_size e
 | dT kvs=>obtain⟨_,_,_,_,o,_,_,e,_⟩:=x;exact Heap.lt_size e
 | set S n=>obtain⟨o,_,_,_,e,_⟩:=x;exact Heap.lt_size e
 | ins C dx fs=>obtain⟨_,_,_,e,_⟩:=x;exact Heap.lt_size e
 | own y=>obtain⟨_,e⟩:=x;exact Heap.lt_size e
 | xd fs=>obtain⟨_,⟨_,_,_,e,_⟩,_⟩:=x;exact Heap.lt_size e
 | rng lo hi=>obtain⟨_,_,_,e⟩:=x;exact Heap.lt_size e
 | frz ob u=>obtain⟨e,_⟩:=x;exact Heap.lt_size e
 | tbl ps=>exact Heap.lt_size (show h.get? a=some _ from x)
 | met f y=>exact Heap.lt_size (show h.get? a=some _ from x)
 | ext φ=>obtain⟨_,⟨_,e⟩,_⟩:=x;exact Heap.lt_size e
theorem Paired.mapP{α β:Type}{F G:α->β->Prop}:∀{l₁:List α}{l₂:List β},Paired F l₁ l₂->(∀a b,F a b->G a b)->Paired G l₁ l₂
 | _,_,.nil,_=>.nil
 | _,_,.cons r t,f=>.cons (f _ _ r) (Paired.mapP t f)
theorem cF.stay(x:cF P w H h a o)(k:∀b u,(b=a∨H b=some (.own a))->h.get? b=some u->h'.get? b=some u)
  (ho:∀b,H b=some (.own a)->H' b=some (.own a)) (ht:∀b xs,H b=some (.tup xs)->H' b=some (.tup xs)):cF P w H' h' a o:=by
 induction o with
 | lst xs=>obtain⟨z,its,n,r,e⟩:=x;exact⟨z,its,n,r,k _ _ (.inl rfl) e⟩
 | tup xs=>obtain⟨z,its,r,ob,e,c⟩:=x;exact⟨z,its,r,ob,k _ _ (.inl rfl) e,c⟩
 | dK kvs=>obtain⟨z,y,vs,r,ob,es,ep,e,c⟩:=x;exact⟨z,y,vs,r,ob,es,ep,k _ _ (.inl rfl) e,c⟩
 | dT kvs =>
  obtain⟨z,y,xs,r,ob,es,ep,e,c⟩:=x
  exact⟨z,y,xs,Paired.mapP r λp q z=>⟨z.1,ht _ _ z.2.1,z.2.2⟩,ob,es,ep,k _ _ (.inl rfl) e,c⟩
 | set S n=>obtain⟨ob,es,ep,t,e,c⟩:=x;exact⟨ob,es,ep,t,k _ _ (.inl rfl) e,c⟩
 | ins C dx fs =>
  obtain⟨d,z,ne,e,mA,⟨od,es,ep,e2,c⟩,r⟩:=x
  exact⟨ho _ d,z,ne,k _ _ (.inl rfl) e,mA,⟨od,es,ep,k _ _ (.inr d) e2,c⟩,r⟩
 | own y=>obtain⟨ob,e⟩:=x;exact⟨ob,k _ _ (.inl rfl) e⟩
 | xd fs=>obtain⟨mA,⟨od,es,ep,e,c⟩,r⟩:=x;exact⟨mA,⟨od,es,ep,k _ _ (.inl rfl) e,c⟩,r⟩
 | rng lo hi=>obtain⟨t,u,v,e⟩:=x;exact⟨t,u,v,k _ _ (.inl rfl) e⟩
 | frz ob u ih=>obtain⟨e,q⟩:=x;exact⟨k _ _ (.inl rfl) e,ih q⟩
 | tbl ps =>
  have e:h.get? a=some { cls:=.none,data:=.fields ps }:=x
  show h'.get? a=some { cls:=.none,data:=.fields ps }
  exact k a _ (.inl rfl) e
 | met f y =>
  have e:h.get? a=some (PySem.W.methodObj (.ref f) (.ref y)):=x
  show h'.get? a=some (PySem.W.methodObj (.ref f) (.ref y))
  exact k a _ (.inl rfl) e
 | ext φ=>obtain⟨p,⟨o,e⟩,st⟩:=x;exact⟨st _ _ p λo q=>k _ _ (.inl rfl) q,⟨o,k _ _ (.inl rfl) e⟩,st⟩
theorem HOk.lt(x:HOk P w H h)(e:H a=some o):a<h.objs.size:=(x a o e).lt
theorem HOk.fresh(x:HOk P w H h)(e:h.objs.size<=a):H a=none:=by
 cases q:H a with
 | none=>rfl
 | some u=>exact absurd (Nat.lt_of_lt_of_le (x.lt q) e) (Nat.lt_irrefl _)
theorem HOk.kept(x:HOk P w H h)(k:∀b u,h.get? b=some u->h'.get? b=some u):HOk P w H h':=λa o e =>
 (x a o e).stay (λb u _ q=>k b u q) (λ_ q=>q) λ_ _ q=>q
theorem HOk.laid(x:HOk P w H h)(k:∀b u,h.get? b=some u->h'.get? b=some u)(hp:h.objs.size<=a)(new:cF P w (upd H a o) h' a o):HOk P w (upd H a o) h':=λb u e=>by
 have hn:=x.fresh hp
 by_cases hb:b=a
 .subst hb;rw[aG] at e;cases e;exact new
 .rw[aF hb] at e
  exact(x b u e).stay (λc v _ q=>k c v q) (λc q=>by rw[aF (aW q hn)];exact q) λc xs q=>by rw[aF (aW q hn)];exact q
end
def Rd(H:Hp)(a:Addr)(u:HO):Prop:=H a=some u∨∃o,H a=some (.frz o u)
theorem Rd.ok{P:Program}{w:World}{H:Hp}{h:Heap}{a:Addr}{u:HO}(r:Rd H a u)(x:HOk P w H h):cF P w H h a u:=by
 rcases r with r | ⟨o,r⟩
 .exact x a u r
 .obtain⟨_,q⟩:=x a _ r
  exact q
def Mut:Option HO->Prop
 | some (.lst _)=>True
 | some (.dK _)=>True
 | some (.dT _)=>True
 | some (.set _ _)=>True
 | some (.ins _ _ _)=>True
 | some (.ext _)=>True
 | _=>False
section
variable{P:Program}{w:World}{H:Hp}{h h':Heap}{x e:Addr}{o':HO}
theorem HOk.write(ok:HOk P w H h)(mu:Mut (H x))(he:e=x∨H e=some (.own x))(k:∀b u,b≠e->h.get? b=some u->h'.get? b=some u)(heo:∃u,h'.get? e=some u)
  (new:cF P w (upd H x o') h' x o'):HOk P w (upd H x o') h':=λb u q=>by
 have nown:∀c y,H c=some (.own y)->c≠x:=λc y r z=>by subst z;rw[r] at mu;exact mu
 have ntup:∀c xs,H c=some (.tup xs)->c≠x:=λc xs r z=>by subst z;rw[r] at mu;exact mu
 by_cases hb:b=x
 .subst hb;rw[aG] at q;cases q;exact new
 .rw[aF hb] at q
  by_cases hbe:b=e
  .have q':H b=some (.own x):=by
    rcases he with z | z
    .exact absurd (hbe.trans z) hb
    .rw[hbe];exact z
   rw[q] at q';cases q'
   obtain⟨v,hv⟩:=heo
   exact⟨v,by rw[hbe];exact hv⟩
  .refine(ok b u q).stay (λc v hc r=>k c v ?_ r) (λc r=>by rw[aF (nown c b r)];exact r) λc xs r=>by rw[aF (ntup c xs r)];exact r
   rcases hc with rfl | hc
   .exact hbe
   .rintro rfl
    rcases he with z | z
    .exact nown c b hc z
    .rw[hc] at z;cases z;exact hb rfl
end
structure Un(fs ex:List Addr)(H H':Hp)(h h':Heap):Prop where
 keep:∀b o,h.get? b=some o->H b=none->b∉fs->b∉ex->h'.get? b=some o
 slot:∀b o,h.get? b=some o->H b=none->b∈fs->b∉ex->∃sl,h'.get? b=some { o with slots:=sl }
 free:∀b o,h.get? b=some o->H b=none->b∉ex->H' b=none
 there:∀b o,h.get? b=some o->b∉ex->∃o',h'.get? b=some o'
 tups:∀b xs,H b=some (.tup xs)->H' b=some (.tup xs)
 vp:∀b o u,H b=some (.frz o u)->H' b=some (.frz o u)
 yg:∀b ps,H b=some (.tbl ps)->∃more,H' b=some (.tbl (ps++more))
section
variable{fs fs' ex ex':List Addr}{H H1 H2:Hp}{h h1 h2 h':Heap}{a x e:Addr}{o:HO}
theorem Un.any(u:Un fs ex H H1 h h1){b:Addr}{ob:Obj}(q:h.get? b=some ob)(n:H b=none)(hx:b∉ex):∃sl,h1.get? b=some { ob with slots:=sl }:=by
 by_cases hb:b∈fs
 .exact u.slot b ob q n hb hx
 .exact⟨ob.slots,u.keep b ob q n hb hx⟩
theorem Un.trans(a:Un fs ex H H1 h h1)(b:Un fs ex H1 H2 h1 h2):Un fs ex H H2 h h2 where
 keep:=λc ob q n hc hx=>b.keep c ob (a.keep c ob q n hc hx) (a.free c ob q n hx) hc hx
 slot:=λc ob q n hc hx=>by
  obtain⟨sl,e1⟩:=a.slot c ob q n hc hx
  obtain⟨sl',e2⟩:=b.slot c _ e1 (a.free c ob q n hx) hc hx
  exact⟨sl',e2⟩
 free:=λc ob q n hx=>by
  obtain⟨o',e1⟩:=a.there c ob q hx
  exact b.free c o' e1 (a.free c ob q n hx) hx
 there:=λc ob q hx=>by
  obtain⟨o',e1⟩:=a.there c ob q hx
  exact b.there c o' e1 hx
 tups:=λc xs q=>b.tups c xs (a.tups c xs q)
 vp:=λc ob xs q=>b.vp c ob xs (a.vp c ob xs q)
 yg:=λc ps q=>by
  obtain⟨m1,e1⟩:=a.yg c ps q
  obtain⟨m2,e2⟩:=b.yg c _ e1
  exact⟨m1++m2,by rw[e2,Array.append_assoc]⟩
theorem Un.kept(k:∀b u,h.get? b=some u->h'.get? b=some u):Un fs ex H H h h' :=
 ⟨λb ob q _ _ _=>k b ob q,λb ob q _ _ _=>⟨ob.slots,k b ob q⟩,λ_ _ _ n _=>n,λb ob q _=>⟨ob,k b ob q⟩,λ_ _ q=>q,λ_ _ _ q=>q,λ_ ps q=>⟨#[],by rw[q];simp⟩⟩
theorem Un.refl:Un fs ex H H h h:=Un.kept λ_ _ q=>q
theorem Un.laid(k:∀b u,h.get? b=some u->h'.get? b=some u)(hp:h.objs.size<=a)(hn:H a=none):Un fs ex H (upd H a o) h h' where
 keep:=λb u q _ _ _=>k b u q
 slot:=λb u q _ _ _=>⟨u.slots,k b u q⟩
 free:=λb u q n _=>by rw[aF (Nat.ne_of_lt (Nat.lt_of_lt_of_le (Heap.lt_size q) hp))];exact n
 there:=λb u q _=>⟨u,k b u q⟩
 tups:=λb xs q=>by rw[aF (aW q hn)];exact q
 vp:=λb u xs q=>by rw[aF (aW q hn)];exact q
 yg:=λb ps q=>⟨#[],by rw[aF (aW q hn),q];simp⟩
theorem Un.write(mu:Mut (H x))(he:e=x∨H e=some (.own x))(k:∀b u,b≠e->h.get? b=some u->h'.get? b=some u)(heo:∃u,h'.get? e=some u):Un fs ex H (upd H x o) h h':=by
 have hx:∀b,H b=none->b≠x:=λb n z=>by subst z;rw[n] at mu;exact mu
 have hb:∀b,H b=none->b≠e:=λb n z=>by
  subst z
  rcases he with r | r
  .exact hx b n r
  .rw[n] at r;cases r
 have hm:∀b u,H b=some u->¬Mut (some u)->b≠x:=λb u q nm z=>by subst z;rw[q] at mu;exact nm mu
 refine⟨λb u q n _ _=>k b u (hb b n) q,λb u q n _ _=>⟨u.slots,k b u (hb b n) q⟩,λb u q n _=>by rw[aF (hx b n)];exact n,λb u q _=>?_,
  λb xs q=>by rw[aF (hm b _ q λz=>z)];exact q,λb u xs q=>by rw[aF (hm b _ q λz=>z)];exact q,λb ps q=>⟨#[],by rw[aF (hm b _ q λz=>z),q];simp⟩⟩
 by_cases hbe:b=e
 .subst hbe;exact heo
 .exact⟨u,k b u hbe q⟩
end
noncomputable def trk(h:Heap)(H:Hp):List Addr:=(List.range h.objs.size).filter λa=>(H a).isSome
def hidT(h:Heap)(H:Hp):Heap:=PySem.W.hideAll h (trk h H)
theorem Qc(h:Heap)(H:Hp):(hidT h H).objs.size=h.objs.size:=PySem.W.hideAll_size _ _
theorem hidT_get{h:Heap}{H:Hp}{b:Addr}{o:Obj}(e:h.get? b=some o)(n:H b=none):(hidT h H).get? b=some o :=
 PySem.W.hideAll_get _ e λhm=>by
  have q:(H b).isSome=true:=(List.mem_filter.mp hm).2
  rw[n] at q;simp at q
theorem of_hidT{h:Heap}{H:Hp}{b:Addr}{o:Obj}(e:(hidT h H).get? b=some o):h.get? b=some o/\H b=none:=by
 have e':h.get? b=some o:=PySem.W.of_hideAll (trk h H) e
 refine⟨e',?_⟩
 cases q:H b with
 | none=>rfl
 | some x =>
  have hm:b∈trk h H:=List.mem_filter.mpr ⟨List.mem_range.mpr (Heap.lt_size e'),by simp[q]⟩
  have z:(hidT h H).get? b=none:=PySem.W.hideAll_none (trk h H) hm
  rw[z] at e;cases e
end L2
namespace L2
open PySem PySem.Spec PyProof.Rows
structure Mod(K:Frag)(mg:Str->Option Value)(base:Heap):Prop where
 kin:K.In base
 glob:base.Ns mainGlobals mg
 blt:∃mb,base.Ns builtinsNs mb/\∀x:Str,x≠"__name__"->mb x=bootBuiltins x
 nolimit:base.NoLimit
structure Cx where
 prog:Program
 w:World
 K:Frag
 mg:Str->Option Value
 base:Heap
 A:Around
 N:List Str
 s₀:Shared
 H₀:Hp
 env:Env
 outer:List Env
 stack:List Env
 ex:List Addr
 fn:Str->Bool
 calm:Bool
 pn:List (Addr×Obj)
 xe:Value->Shared->Prop
noncomputable def frs(l:List Env):List Addr:=l.filterMap (·.frame)
abbrev Cx.fs(X:Cx):List Addr:=frs X.outer
def Vis(sc:Scope)(x:Str):Prop:=sc.names.lookup x=some .local∨sc.names.lookup x=some .cell∨sc.names.lookup x=some .free
def Loc(sc:Scope)(x:Str):Prop:=sc.names.lookup x=some .local∨sc.names.lookup x=some .cell
def Look(env:Env)(h:Heap)(m:Str->Option Value)(x:Str)(u:Value):Prop :=
 (env.kindOf x=some .local/\m x=some u)∨((env.kindOf x=some .cell∨env.kindOf x=some .free)/\∃c,env.cells.lookup x=some c/\h.IsCell c (some u))
structure Cx.Ok(X:Cx):Prop where
 mod:Mod X.K X.mg X.base
 kind:X.env.scope.kind=.function
 glob:X.env.globals=mainGlobals
 blt:X.env.builtins=builtinsNs
 above:X.s₀.heap.objs.size<=X.env.locals
 inj:∀x y c,X.env.cells.lookup x=some c->X.env.cells.lookup y=some c->x=y
 has:∀x,(X.env.kindOf x=some .cell∨X.env.kindOf x=some .free)->∃c,X.env.cells.lookup x=some c
 cab:∀x c,X.fn x=true->X.env.cells.lookup x=some c->X.s₀.heap.objs.size<=c
 hd:X.calm=true->X.A.handled=none
 frames:X.A.frames=some X.stack
 stk:X.stack=X.outer∨(X.stack=X.env::X.outer/\X.env.frame=some X.env.locals)
 exf:∀b∈X.ex,b≠X.env.locals/\∀x c,X.env.cells.lookup x=some c->c≠b
 bs:∀b o,X.base.get? b=some o->X.s₀.heap.get? b=some o/\X.H₀ b=none
 bsz:X.base.objs.size<=X.s₀.heap.objs.size
 aZ:∀b o,X.base.get? b=some o->b∉X.ex
 exfs:∀b∈X.ex,b∉X.fs
 zc:X.s₀.heap.FunFrames X.base X.outer
 frf:∀b∈X.fs,X.H₀ b=none
structure Inv(X:Cx)(pins:List (Addr×Obj))(σ:List (Option V))(H:Hp)(s:Shared):Prop where
 ok:X.Ok
 os:s.os=X.s₀.os
 bare:AllBare s.gens
 base:Un X.fs X.ex X.H₀ H X.s₀.heap s.heap
 loc:∃m,s.heap.Ns X.env.locals m/\∀(i:Nat)(x:Str)(v:V),X.N[i]?=some x->σ[i]?=some (some v)->Vis X.env.scope x->∃u,RelV v u/\Look X.env s.heap m x u
 cell:∀x c,X.env.cells.lookup x=some c->∃v,s.heap.IsCell c v
 free:H X.env.locals=none
 sE:∀x c,X.env.cells.lookup x=some c->H c=none
 pin:∀p∈X.pn++pins,s.heap.get? p.1=some p.2/\H p.1=none/\p.1≠X.env.locals/\p.1∉X.fs/\∀v,p.2.data≠.cell v
 hok:HOk X.prog X.w H s.heap
 len:σ.length=X.N.length
section
variable{X:Cx}{pins:List (Addr×Obj)}{σ:List (Option V)}{H H':Hp}{s:Shared}{h':Heap}
theorem Cx.Ok.nofr(ok:X.Ok){b:Addr}{o:Obj}(e:X.base.get? b=some o):b∉X.fs:=λhb=>by
 have:=(ok.zc.mem hb).1
 rw[e] at this;cases this
theorem Inv.bs(I:Inv X pins σ H s):∀b o,X.base.get? b=some o->s.heap.get? b=some o/\H b=none:=λb o e =>
 ⟨I.base.keep b o (I.ok.bs b o e).1 (I.ok.bs b o e).2 (I.ok.nofr e) (I.ok.aZ b o e),I.base.free b o (I.ok.bs b o e).1 (I.ok.bs b o e).2 (I.ok.aZ b o e)⟩
theorem Inv.bk(I:Inv X pins σ H s):∀b o,X.base.get? b=some o->s.heap.get? b=some o:=λb o e=>(I.bs b o e).1
theorem Inv.mod(I:Inv X pins σ H s):Mod X.K X.mg X.base:=I.ok.mod
theorem Inv.kIn(I:Inv X pins σ H s):X.K.In s.heap:=I.ok.mod.kin.keeps I.bk
theorem Inv.lt(I:Inv X pins σ H s):X.env.locals<s.heap.objs.size:=let ⟨_,hn,_⟩:=I.loc;hn.lt
theorem Inv.sz(I:Inv X pins σ H s):X.s₀.heap.objs.size<=s.heap.objs.size:=Nat.le_trans I.ok.above (Nat.le_of_lt I.lt)
theorem Inv.nofs(I:Inv X pins σ H s){a:Addr}(h:s.heap.objs.size<=a):a∉X.fs:=λhb=>by
 obtain⟨_,o,ho,_⟩:=I.ok.zc.mem hb
 exact absurd (Nat.lt_of_lt_of_le (Heap.lt_size ho) (Nat.le_trans I.sz h)) (Nat.lt_irrefl _)
theorem Inv.cne(I:Inv X pins σ H s):∀x c,X.env.cells.lookup x=some c->c≠X.env.locals:=λx c e z=>by
 obtain⟨v,o,ho,hd⟩:=I.cell x c e
 obtain⟨m,⟨o',es,ep,ho',hd',_⟩,_⟩:=I.loc
 rw[z,ho'] at ho;cases ho;rw[hd'] at hd;cases hd
theorem Inv.zc(I:Inv X pins σ H s):s.heap.FunFrames X.base X.outer:=by
 have all:∀(l:List Env),(∀b∈frs l,b∈X.fs)->X.s₀.heap.FunFrames X.base l->s.heap.FunFrames X.base l:=by
  intro l
  induction l with
  | nil=>intro _ _;trivial
  | cons env r ih =>
   intro hs hl
   obtain⟨hk,⟨L,o,hf,hn,ho,hd⟩,hr⟩:=hl
   have hL:L∈X.fs:=hs L (by unfold frs;rw[List.filterMap_cons,hf];exact List.mem_cons_self)
   obtain⟨sl,e⟩:=I.base.slot L o ho (I.ok.frf L hL) hL λz=>I.ok.exfs L z hL
   exact⟨hk,⟨L,_,hf,hn,e,hd⟩,ih (λb hb=>hs b (by unfold frs;rw[List.filterMap_cons,hf];exact List.mem_cons_of_mem _ hb)) hr⟩
 exact all X.outer (λ_ hb=>hb) I.ok.zc
theorem Inv.stack(I:Inv X pins σ H s):s.heap.FunFrames X.base X.stack:=by
 rcases I.ok.stk with e | ⟨e,hf⟩
 .rw[e];exact I.zc
 .rw[e]
  obtain⟨m,hn,_⟩:=I.loc
  refine .cons (by rw[I.ok.kind];decide) hf hn ?_ I.zc
  exact Heap.get?_none_of_le (Nat.le_trans I.ok.bsz I.ok.above)
theorem Inv.Nv(I:Inv X pins σ H s):∀b∈frs X.stack,b∈X.env.locals::X.fs:=λb hb=>by
 rcases I.ok.stk with e | ⟨e,hf⟩
 .rw[e] at hb;exact List.mem_cons_of_mem _ hb
 .rw[e] at hb
  unfold frs at hb
  rw[List.filterMap_cons,hf] at hb
  exact hb
theorem Inv.O3(I:Inv X pins σ H s):∀b∈frs X.stack,H b=none:=λb hb=>by
 rcases List.mem_cons.mp (I.Nv b hb) with e | hb
 .rw[e];exact I.free
 .obtain⟨_,o,ho,_⟩:=I.ok.zc.mem hb
  exact I.base.free b o ho (I.ok.frf b hb) λz=>I.ok.exfs b z hb
theorem Inv.step{g':Array GenState}{t':Nat}{d':Drawn}{ch:List Addr}(I:Inv X pins σ H s)
  (hch:∀b∈ch,(b∈X.ex∨X.s₀.heap.objs.size<=b)/\b≠X.env.locals/\(∀x c,X.env.cells.lookup x=some c->c≠b)/\∀p∈X.pn++pins,p.1≠b)
  (keep:∀b o,b≠X.env.locals->b∉X.fs->b∉ch->s.heap.get? b=some o->H b=none->h'.get? b=some o)
  (slot:∀b o,b≠X.env.locals->b∈X.fs->b∉ch->s.heap.get? b=some o->H b=none->∃sl,h'.get? b=some { o with slots:=sl }) (free:∀b o,b∉ch->s.heap.get? b=some o->H b=none->H' b=none)
  (there:∀b o,b∉ch->s.heap.get? b=some o->∃o',h'.get? b=some o')
  (tups:∀b xs,H b=some (.tup xs)->H' b=some (.tup xs)) (vp:∀b o u,H b=some (.frz o u)->H' b=some (.frz o u)) (yg:∀b ps,H b=some (.tbl ps)->∃more,H' b=some (.tbl (ps++more)))
  (ns:∀m,s.heap.Ns X.env.locals m->h'.Ns X.env.locals m) (hok:HOk X.prog X.w H' h') (hg:AllBare g') :
  Inv X pins σ H' { s with heap:=h',gens:=g',drawn:=d',toks:=t' }:=by
 have neL:∀b o,X.s₀.heap.get? b=some o->b≠X.env.locals:=λb o e=>Nat.ne_of_lt (Nat.lt_of_lt_of_le (Heap.lt_size e) I.ok.above)
 have neC:∀b o,X.s₀.heap.get? b=some o->b∉X.ex->b∉ch:=λb o e hx hb=>by
  rcases (hch b hb).1 with z | z
  .exact hx z
  .exact absurd (Nat.lt_of_lt_of_le (Heap.lt_size e) z) (Nat.lt_irrefl _)
 have cellK:∀x c,X.env.cells.lookup x=some c->∀v,s.heap.IsCell c v->h'.IsCell c v:=λx c e v qq=>by
  obtain⟨o,ho,hd⟩:=qq;have nch:c∉ch:=λz=>(hch c z).2.2.1 x c e rfl
  by_cases hc:c∈X.fs
  .obtain⟨sl,q⟩:=slot c o (I.cne x c e) hc nch ho (I.sE x c e)
   exact⟨_,q,hd⟩
  .exact⟨o,keep c o (I.cne x c e) hc nch ho (I.sE x c e),hd⟩
 refine⟨I.ok,I.os,hg,⟨λb o e n hb hx=>?_,λb o e n hb hx=>?_,λb o e n hx=>?_,λb o e hx=>?_,λb xs e=>tups b xs (I.base.tups b xs e),λb o xs e=>vp b o xs (I.base.vp b o xs e),λb ps e=>?_⟩,?_,λx c e=>?_,?_,λx c e=>?_,λp hp=>?_,hok,I.len⟩
 .exact keep b o (neL b o e) hb (neC b o e hx) (I.base.keep b o e n hb hx) (I.base.free b o e n hx)
 .obtain⟨sl,e1⟩:=I.base.slot b o e n hb hx
  obtain⟨sl',e2⟩:=slot b _ (neL b o e) hb (neC b o e hx) e1 (I.base.free b o e n hx)
  exact⟨sl',e2⟩
 .obtain⟨o',e1⟩:=I.base.there b o e hx
  exact free b o' (neC b o e hx) e1 (I.base.free b o e n hx)
 .obtain⟨o',e1⟩:=I.base.there b o e hx
  exact there b o' (neC b o e hx) e1
 .obtain⟨m1,e1⟩:=I.base.yg b ps e
  obtain⟨m2,e2⟩:=yg b _ e1
  exact⟨m1++m2,by rw[e2,Array.append_assoc]⟩
 .obtain⟨m,hn,hl⟩:=I.loc
  refine⟨m,ns m hn,λi x v e1 e2 e3=>?_⟩
  obtain⟨u,r,l⟩:=hl i x v e1 e2 e3
  refine⟨u,r,?_⟩
  rcases l with l | ⟨k,c,e,z⟩
  .exact .inl l
  .exact .inr ⟨k,c,e,cellK x c e _ z⟩
 .obtain⟨v,z⟩:=I.cell x c e
  exact⟨v,cellK x c e v z⟩
 .obtain⟨m,⟨o,_,_,ho,_⟩,_⟩:=I.loc
  exact free _ o (λz=>(hch _ z).2.1 rfl) ho I.free
 .obtain⟨v,o,ho,hd⟩:=I.cell x c e
  exact free c o (λz=>(hch c z).2.2.1 x c e rfl) ho (I.sE x c e)
 .obtain⟨e,n,ne,nf,d⟩:=I.pin p hp
  have nch:p.1∉ch:=λz=>(hch p.1 z).2.2.2 p hp rfl
  exact⟨keep p.1 p.2 ne nf nch e n,free p.1 p.2 nch e n,ne,nf,d⟩
theorem Inv.un{t':Nat}(I:Inv X pins σ H s)(u:Un X.fs [] H H' s.heap h')(hok:HOk X.prog X.w H' h'):Inv X pins σ H' { s with heap:=h',toks:=t' }:=by
 obtain⟨m,⟨o,es,ep,ho,r⟩,_⟩:=id I.loc
 obtain⟨sl,hL⟩:=u.any ho I.free (by simp)
 exact I.step (g':=s.gens) (d':=s.drawn) (ch:=[]) (λ_ z=>nomatch z) (λb o _ hb _ e n=>u.keep b o e n hb (by simp)) (λb o _ hb _ e n=>u.slot b o e n hb (by simp)) (λb o _ e n=>u.free b o e n (by simp)) (λb o _ e=>u.there b o e (by simp)) u.tups u.vp u.yg (λm' hm=>by
  obtain⟨o',es',ep',ho',r'⟩:=hm
  rw[ho] at ho';cases ho'
  exact⟨_,es',ep',hL,r'⟩) hok I.bare
theorem Inv.call{g':Array GenState}{t':Nat}{d':Drawn}{ch:List Addr}(I:Inv X pins σ H s)(u:Un (frs X.stack) ch H H' s.heap h')(hok:HOk X.prog X.w H' h')(hg:AllBare g')
  (hch:∀b∈ch,(b∈X.ex∨X.s₀.heap.objs.size<=b)/\b≠X.env.locals/\(∀x c,X.env.cells.lookup x=some c->c≠b)/\∀p∈X.pn++pins,p.1≠b) :
  Inv X pins σ H' { s with heap:=h',gens:=g',drawn:=d',toks:=t' }:=by
 obtain⟨m,⟨o,es,ep,ho,r⟩,_⟩:=id I.loc
 obtain⟨sl,hL⟩:=u.any ho I.free λz=>(hch _ z).2.1 rfl
 exact I.step (ch:=ch) hch (λb o hL hb hc e n=>u.keep b o e n (λz=>(List.mem_cons.mp (I.Nv b z)).elim hL hb) hc) (λb o _ _ hc e n=>u.any e n hc) (λb o hc e n=>u.free b o e n hc) (λb o hc e=>u.there b o e hc) u.tups u.vp u.yg (λm' hm=>by
  obtain⟨o',es',ep',ho',r'⟩:=hm
  rw[ho] at ho';cases ho'
  exact⟨_,es',ep',hL,r'⟩) hok hg
theorem Inv.turned{t':Nat}{it:Addr}(I:Inv X pins σ H s)(k:∀b o,b≠it->s.heap.get? b=some o->h'.get? b=some o)(hn:H it=none)(hL:it≠X.env.locals)
  (h1:it∈X.ex∨X.s₀.heap.objs.size<=it) (h2:∀x c,X.env.cells.lookup x=some c->c≠it) (h3:∀p∈X.pn++pins,p.1≠it):Inv X pins σ H { s with heap:=h',toks:=t' }:=by
 have nit:∀b u,H b=some u->b≠it:=λb u e z=>by rw[z,hn] at e;cases e
 refine I.step (g':=s.gens) (d':=s.drawn) (ch:=[it]) (λb hb=>?_) (λb o _ _ hc e _=>k b o (λz=>hc (by simp[z])) e) (λb o _ _ hc e _=>⟨o.slots,k b o (λz=>hc (by simp[z])) e⟩) (λ_ _ _ _ n=>n)
  (λb o hc e=>⟨o,k b o (λz=>hc (by simp[z])) e⟩) (λ_ _ e=>e) (λ_ _ _ e=>e) (λb ps e=>⟨#[],by rw[e];simp⟩) (λm hm=>?_) (λb u e=>?_) I.bare
 .have e:b=it:=by simpa using hb
  subst e
  exact⟨h1,hL,h2,h3⟩
 .obtain⟨o,es,ep,ho,r⟩:=hm
  exact⟨o,es,ep,k _ o (Ne.symm hL) ho,r⟩
 .refine(I.hok b u e).stay (λc v hc q=>k c v ?_ q) (λ_ q=>q) λ_ _ q=>q
  rcases hc with z | z
  .rw[z];exact nit b u e
  .exact nit c _ z
theorem Inv.tok(I:Inv X pins σ H s)(t:Nat):Inv X pins σ H { s with toks:=t }:=I.un (h':=s.heap) (t':=t) Un.refl I.hok
theorem Inv.kept{t':Nat}(I:Inv X pins σ H s)(k:∀b u,s.heap.get? b=some u->h'.get? b=some u):Inv X pins σ H { s with heap:=h',toks:=t' }:=I.un (Un.kept k) (I.hok.kept k)
theorem Inv.laid{a:Addr}{o:HO}{t':Nat}(I:Inv X pins σ H s)(k:∀b u,s.heap.get? b=some u->h'.get? b=some u)(hp:s.heap.objs.size<=a)(new:cF X.prog X.w (upd H a o) h' a o):
  Inv X pins σ (upd H a o) { s with heap:=h',toks:=t' }:=I.un (Un.laid k hp (I.hok.fresh hp)) (I.hok.laid k hp new)
theorem Inv.write{x e:Addr}{o:HO}{t':Nat}(I:Inv X pins σ H s)(mu:Mut (H x))(he:e=x∨H e=some (.own x))(k:∀b u,b≠e->s.heap.get? b=some u->h'.get? b=some u)(heo:∃u,h'.get? e=some u)
  (new:cF X.prog X.w (upd H x o) h' x o):Inv X pins σ (upd H x o) { s with heap:=h',toks:=t' }:=I.un (Un.write mu he k heo) (I.hok.write mu he k heo new)
theorem Inv.Oz{pins':List (Addr×Obj)}(I:Inv X pins σ H s)(h:∀p∈pins',s.heap.get? p.1=some p.2/\H p.1=none/\p.1≠X.env.locals/\p.1∉X.fs/\∀v,p.2.data≠.cell v):Inv X pins' σ H s :=
 ⟨I.ok,I.os,I.bare,I.base,I.loc,I.cell,I.free,I.sE,λp hp=>(List.mem_append.mp hp).elim (λz=>I.pin p (List.mem_append_left _ z)) (h p),I.hok,I.len⟩
theorem J7{N:List Str}(hN:N.Nodup){i j:Nat}{x:Str}(a:N[i]?=some x)(b:N[j]?=some x):i=j:=by
 obtain⟨h1,e1⟩:=List.getElem?_eq_some_iff.mp a
 obtain⟨h2,e2⟩:=List.getElem?_eq_some_iff.mp b
 exact(List.getElem_inj hN).mp (e1.trans e2.symm)
theorem Es{M:Model}{A:Around}{E:Value->Shared->Prop}{i:Nat}{x:Str}{v:V}{u:Value}{Q:Unit->Shared->Prop}(I:Inv X pins σ H s)(hN:X.N.Nodup)(hi:X.N[i]?=some x)(hx:Loc X.env.scope x)(r:RelV v u)
  (h:∀s',Inv X pins (σ.set i (some v)) H s'->(∃a,Heap.SameBut a s.heap s'.heap/\(a=X.env.locals∨X.env.cells.lookup x=some a))->Q () s') (hf:X.fn x=true∨X.env.scope.names.lookup x=some .local:=by first | exact .inl rfl | exact .inr rfl | assumption):wpAny M A (storeName X.env x u) Q E s:=by
 obtain⟨m,hn,hl⟩:=id I.loc
 have hcls:(X.env.scope.kind==.class || (X.env.scope.kind==.module && X.env.locals != X.env.globals))=false:=by rw[I.ok.kind];rfl
 have hiσ:i<σ.length:=by rw[I.len];exact(List.getElem?_eq_some_iff.mp hi).1
 have cne:=I.cne
 have tracked:∀{a:Addr}{h':Heap},(∃o,s.heap.get? a=some o/\H a=none)->Heap.SameBut a s.heap h'->HOk X.prog X.w H h':=fun{a h'} ha hs b ob e=>by
  obtain⟨_,_,hfree⟩:=ha
  refine(I.hok b ob e).stay (λc w' hc q=>(hs.2 c ?_).trans q) (λ_ q=>q) λ_ _ q=>q
  rintro rfl
  rcases hc with rfl | hc
  .rw[hfree] at e;cases e
  .rw[hfree] at hc;cases hc
 rcases hx with hk | hk
 .refine wpAny_storeName_local hk hn (λh' hn' hs=>?_) hcls
  obtain⟨oL,_,_,hoL,_⟩:=id hn
  refine h _ ⟨I.ok,I.os,I.bare,⟨λb o e n hb hx=>?_,λb o e n hb hx=>?_,I.base.free,λb o e hx=>?_,I.base.tups,I.base.vp,I.base.yg⟩,⟨_,hn',λj y v' e1 e2 e3=>?_⟩,λy c e=>?_,I.free,I.sE,λp hp=>?_,tracked ⟨oL,hoL,I.free⟩ hs,by simpa using I.len⟩ ⟨_,hs,.inl rfl⟩
  .exact(hs.2 b (Nat.ne_of_lt (Nat.lt_of_lt_of_le (Heap.lt_size e) I.ok.above))).trans (I.base.keep b o e n hb hx)
  .obtain⟨sl,e1⟩:=I.base.slot b o e n hb hx
   exact⟨sl,(hs.2 b (Nat.ne_of_lt (Nat.lt_of_lt_of_le (Heap.lt_size e) I.ok.above))).trans e1⟩
  .obtain⟨o',e1⟩:=I.base.there b o e hx
   exact⟨o',(hs.2 b (Nat.ne_of_lt (Nat.lt_of_lt_of_le (Heap.lt_size e) I.ok.above))).trans e1⟩
  .by_cases hj:j=i
   .subst hj
    rw[hi] at e1;cases e1
    rw[List.getElem?_set_self hiσ] at e2
    cases e2
    exact⟨u,r,.inl ⟨hk,by simp⟩⟩
   .rw[List.getElem?_set_ne (Ne.symm hj)] at e2
    obtain⟨u',r',q⟩:=hl j y v' e1 e2 e3
    refine⟨u',r',?_⟩
    rcases q with⟨k,e⟩| ⟨k,c,e,z⟩
    .refine .inl ⟨k,?_⟩
     have:y≠x:=λe=>hj (J7 hN e1 (e▸hi))
     simp[this,e]
    .exact .inr ⟨k,c,e,z.sameBut hs (cne y c e)⟩
  .obtain⟨w',z⟩:=I.cell y c e
   exact⟨w',z.sameBut hs (cne y c e)⟩
  .obtain⟨e,n,ne,nf,d⟩:=I.pin p hp
   exact⟨(hs.2 p.1 ne).trans e,n,ne,nf,d⟩
 .have hfn:X.fn x=true:=by
   rcases hf with z | z
   .exact z
   .rw[z] at hk;cases hk
  obtain⟨c,hc⟩:=I.ok.has x (.inl hk)
  obtain⟨w',z⟩:=I.cell x c hc
  refine wpAny_storeName_cell I.ok.kind hk hc z (λh' hc' hs=>?_)
  obtain⟨oc,hoc,hocd⟩:=id z
  refine h { s with heap:=h' } ⟨I.ok,I.os,I.bare,⟨λb o e n hb hx=>?_,λb o e n hb hx=>?_,I.base.free,λb o e hx=>?_,I.base.tups,I.base.vp,I.base.yg⟩,⟨m,hn.sameBut hs (Ne.symm (cne x c hc)),λj y v' e1 e2 e3=>?_⟩,λy c' e=>?_,I.free,I.sE,λp hp=>?_,tracked ⟨oc,hoc,I.sE x c hc⟩ hs,by simpa using I.len⟩ ⟨c,hs,.inr hc⟩
  .exact(hs.2 b (Nat.ne_of_lt (Nat.lt_of_lt_of_le (Heap.lt_size e) (I.ok.cab x c hfn hc)))).trans (I.base.keep b o e n hb hx)
  .obtain⟨sl,e1⟩:=I.base.slot b o e n hb hx
   exact⟨sl,(hs.2 b (Nat.ne_of_lt (Nat.lt_of_lt_of_le (Heap.lt_size e) (I.ok.cab x c hfn hc)))).trans e1⟩
  .obtain⟨o',e1⟩:=I.base.there b o e hx
   exact⟨o',(hs.2 b (Nat.ne_of_lt (Nat.lt_of_lt_of_le (Heap.lt_size e) (I.ok.cab x c hfn hc)))).trans e1⟩
  .by_cases hj:j=i
   .subst hj
    rw[hi] at e1;cases e1
    rw[List.getElem?_set_self hiσ] at e2
    cases e2
    exact⟨u,r,.inr ⟨.inl hk,c,hc,hc'⟩⟩
   .rw[List.getElem?_set_ne (Ne.symm hj)] at e2
    obtain⟨u',r',q⟩:=hl j y v' e1 e2 e3
    refine⟨u',r',?_⟩
    rcases q with q | ⟨k,c',e,z'⟩
    .exact .inl q
    .refine .inr ⟨k,c',e,z'.sameBut hs ?_⟩
     rintro rfl
     exact hj (J7 hN e1 (I.ok.inj _ _ _ e hc▸hi))
  .by_cases hcc:c'=c
   .subst hcc;exact⟨_,hc'⟩
   .obtain⟨w2,z2⟩:=I.cell y c' e
    exact⟨w2,z2.sameBut hs hcc⟩
  .obtain⟨e,n,ne,nf,d⟩:=I.pin p hp
   refine⟨(hs.2 p.1 ?_).trans e,n,ne,nf,d⟩
   intro q
   rw[q,hoc] at e
   have q':oc=p.2:=Option.some.inj e
   exact d w' (by rw[←q'];exact hocd)
theorem Cu{M:Model}{A:Around}{E:Value->Shared->Prop}{i:Nat}{x:Str}{v:V}{u:Value}{Q:Unit->Shared->Prop}(I:Inv X pins σ H s)(hN:X.N.Nodup)(hi:X.N[i]?=some x)(hx:Loc X.env.scope x)(r:RelV v u)
  (h:∀s',Inv X pins (σ.set i (some v)) H s'->Q () s') (hf:X.fn x=true∨X.env.scope.names.lookup x=some .local:=by first | exact .inl rfl | exact .inr rfl | assumption):wpAny M A (storeName X.env x u) Q E s :=
 Es I hN hi hx r (λs' I' _=>h s' I') hf
theorem Inv.call'{s':Shared}{ch:List Addr}(I:Inv X pins σ H s)(ho:s'.os=s.os)(u:Un (frs X.stack) ch H H' s.heap s'.heap)(hok:HOk X.prog X.w H' s'.heap)(hg:AllBare s'.gens)
  (hch:∀b∈ch,(b∈X.ex∨X.s₀.heap.objs.size<=b)/\b≠X.env.locals/\(∀x c,X.env.cells.lookup x=some c->c≠b)/\∀p∈X.pn++pins,p.1≠b):Inv X pins σ H' s':=by
 obtain⟨h',g',d',t',o'⟩:=s'
 have e:o'=s.os:=ho
 subst e
 exact I.call (g':=g') (t':=t') (d':=d') u hok hg hch
end
abbrev XK:=Value->Option Addr->Hp->Prop
abbrev St:=List (Option V)
abbrev VK:=V->Hp->Prop
abbrev TE:=St->Hp->VK->Prop
abbrev TT:=St->Hp->(Bool->Hp->Prop)->Prop
abbrev TA:=St->Hp->(List V->Hp->Prop)->Prop
structure Ends where
 nx:St->Hp->Prop
 rt:VK
 bk:St->Hp->Prop:=λ_ _=>False
 ct:St->Hp->Prop:=λ_ _=>False
abbrev TS:=Ends->St->Hp->Prop
def EP(X:Cx)(pins:List (Addr×Obj))(σ:St)(Q:VK)(u:Value)(s':Shared):Prop:=∃v H',Inv X pins σ H' s'/\RelV v u/\Q v H'
def TP(X:Cx)(pins:List (Addr×Obj))(σ:St)(Q:Bool->Hp->Prop)(b:Bool)(s':Shared):Prop:=∃H',Inv X pins σ H' s'/\Q b H'
def AP(X:Cx)(pins:List (Addr×Obj))(σ:St)(Q:List V->Hp->Prop)(us:List Value)(s':Shared):Prop:=∃vs H',Inv X pins σ H' s'/\Vals vs us/\Q vs H'
def SP(X:Cx)(pins:List (Addr×Obj))(D:Ends)(f:Flow)(s':Shared):Prop :=
 match f with
 | .next=>∃σ' H',Inv X pins σ' H' s'/\D.nx σ' H'
 | .brk=>∃σ' H',Inv X pins σ' H' s'/\D.bk σ' H'
 | .cont=>∃σ' H',Inv X pins σ' H' s'/\D.ct σ' H'
 | .ret u=>∃v σ' H',Inv X pins σ' H' s'/\RelV v u/\D.rt v H'
def PE(X:Cx)(e:Expr)(t:TE):Prop :=
 ∀(pins:List (Addr×Obj))(s:Shared)(σ:St)(H:Hp)(Q:VK),Inv X pins σ H s->t σ H Q->wpAny (model X.prog X.w) X.A (eval e X.env) (EP X pins σ Q) X.xe s
def PT(X:Cx)(e:Expr)(t:TT):Prop :=
 ∀(pins:List (Addr×Obj))(s:Shared)(σ:St)(H:Hp)(Q:Bool->Hp->Prop),Inv X pins σ H s->t σ H Q->wpAny (model X.prog X.w) X.A (isTrue e X.env (eval e X.env)) (TP X pins σ Q) X.xe s
def PW(X:Cx)(e:Expr)(t:TT):Prop :=
 ∀(whole:Sem Value)(pins:List (Addr×Obj))(s:Shared)(σ:St)(H:Hp)(Q:Bool->Hp->Prop),Inv X pins σ H s->t σ H Q->wpAny (model X.prog X.w) X.A (isTrue e X.env whole) (TP X pins σ Q) X.xe s
theorem PW.pt{X:Cx}{e:Expr}{t:TT}(h:PW X e t):PT X e t:=h _
def PA(X:Cx)(es:List Expr)(t:TA):Prop :=
 ∀(pos:Pos)(pins:List (Addr×Obj))(s:Shared)(σ:St)(H:Hp)(Q:List V->Hp->Prop),Inv X pins σ H s->t σ H Q->wpAny (model X.prog X.w) X.A (spliced (backTo pos (starEach es X.env))) (AP X pins σ Q) X.xe s
def PS(X:Cx)(st:Stmt)(t:TS):Prop :=
 ∀(pins:List (Addr×Obj))(s:Shared)(σ:St)(H:Hp)(D:Ends),Inv X pins σ H s->t D σ H->wpAny (model X.prog X.w) X.A (exec st X.env) (SP X pins D) X.xe s
def PSs(X:Cx)(st:List Stmt)(t:TS):Prop :=
 ∀(pins:List (Addr×Obj))(s:Shared)(σ:St)(H:Hp)(D:Ends),Inv X pins σ H s->t D σ H->wpAny (model X.prog X.w) X.A (execs st X.env) (SP X pins D) X.xe s
theorem thn{α:Type}{t:Sem α}{Q Q':α->Shared->Prop}{M:Model}{A:Around}{E:Value->Shared->Prop}{s:Shared}(h:wpAny M A t Q E s)(hQ:∀a s,Q a s->Q' a s):wpAny M A t Q' E s:=wpAny_mono h hQ λ_ _ x=>x
end L2
namespace L2
open PySem PySem.Spec PyProof.Rows
section
variable{X:Cx}
def iI(i:Nat):TE:=λσ H Q=>∃v,σ[i]?=some (some v)/\Q v H
def tC(v:V):TE:=λ_ H Q=>Q v H
theorem pe_var{i:Nat}{x:Str}{pos:Pos}(hN:X.N[i]?=some x)(hv:Vis X.env.scope x)(hd:(x==("__debug__":Str))=false:=by decide)(hcd:(x==("__classdict__":Str))=false:=by decide):PE X (.Name x pos) (iI i):=by
 intro pins s σ H Q I h
 obtain⟨v,e,h⟩:=h
 obtain⟨m,hn,hl⟩:=I.loc
 obtain⟨u,r,l⟩:=hl i x v hN e hv
 have fin:EP X pins σ Q u s:=⟨v,H,I,r,h⟩
 rcases l with⟨hk,hm⟩| ⟨hk,c,hc,hcell⟩
 .exact wpAny_Name (wpAny_loadName_local I.ok.kind hk hn hm fin) hd
 .rcases hk with hk | hk
  .exact wpAny_Name (wpAny_loadName_cell I.ok.kind hk hc hcell fin) hd
  .exact wpAny_Name (wpAny_loadName_free I.ok.kind hk hc hcell fin hcd) hd
theorem pe_int{i j pos}:PE X (.Constant (.int i) j pos) (tC (.int i)):=λ_ _ _ H _ I h=>wpAny_Constant_int ⟨.int i,H,I.tok _,⟨_,rfl⟩,h⟩
theorem pe_bl{b j pos}:PE X (.Constant (.bool b) j pos) (tC (.bl b)):=λ_ _ _ H _ I h=>Constant_bool ⟨.bl b,H,I,rfl,h⟩
theorem M9{j pos}:PE X (.Constant .none j pos) (tC .non):=λ_ _ _ H _ I h=>Constant_none ⟨.non,H,I,rfl,h⟩
theorem pe_str{x j pos}:PE X (.Constant (.str x) j pos) (tC (.str x)):=λ_ _ _ H _ I h=>Calls.Constant_str ⟨.str x,H,I.tok _,⟨_,rfl⟩,h⟩
def Gl(X:Cx)(x:Str):Prop:=X.env.kindOf x=some .globalImplicit
theorem wC{E:Value->Shared->Prop}{pins:List (Addr×Obj)}{s:Shared}{σ:St}{H:Hp}{x:Str}{u:Value}{pos:Pos}{Q:Value->Shared->Prop}(I:Inv X pins σ H s)(hg:Gl X x)(hm:X.mg x=some u)(h:Q u s)
  (hd:(x==("__debug__":Str))=false:=by decide):wpAny (model X.prog X.w) X.A (eval (.Name x pos) X.env) Q E s :=
 Calls.Name_function_global I.ok.kind hg (Calls.loadGlobal_global (by rw[I.ok.glob];exact I.mod.glob.keeps I.bk) hm h) hd
theorem xU{E:Value->Shared->Prop}{pins:List (Addr×Obj)}{s:Shared}{σ:St}{H:Hp}{x:Str}{u:Value}{pos:Pos}{Q:Value->Shared->Prop}(I:Inv X pins σ H s)(hg:Gl X x)(hm:X.mg x=none)(hv:bootBuiltins x=some u)(h:Q u s)
  (hn:x≠"__name__":=by decide) (hd:(x==("__debug__":Str))=false:=by decide):wpAny (model X.prog X.w) X.A (eval (.Name x pos) X.env) Q E s:=by
 obtain⟨mb,h1,h2⟩:=I.mod.blt
 exact Calls.Name_function_global I.ok.kind hg (Calls.loadGlobal_builtin (by rw[I.ok.glob];exact I.mod.glob.keeps I.bk) hm (by rw[I.ok.blt];exact h1.keeps I.bk) ((h2 x hn).trans hv) h) hd
theorem zY{x:Str}{v:V}{u:Value}{pos:Pos}(hg:Gl X x)(hm:X.mg x=some u)(r:RelV v u)(hd:(x==("__debug__":Str))=false:=by decide):PE X (.Name x pos) (tC v) :=
 λ_ _ _ H _ I h=>wC I hg hm ⟨v,H,I,r,h⟩ hd
theorem gj{x:Str}{v:V}{u:Value}{pos:Pos}(hg:Gl X x)(hm:X.mg x=none)(hv:bootBuiltins x=some u)(r:RelV v u)(hn:x≠"__name__":=by decide)(hd:(x==("__debug__":Str))=false:=by decide):PE X (.Name x pos) (tC v) :=
 λ_ _ _ H _ I h=>xU I hg hm hv ⟨v,H,I,r,h⟩ hn hd
variable{a b:Expr}{ta tb:TE}{pos:Pos}
def PC(X:Cx)(op:CmpOp)(a b:Expr)(t:TE):Prop :=
 ∀(pins:List (Addr×Obj))(s:Shared)(σ:St)(H:Hp)(Q:VK),Inv X pins σ H s->t σ H Q ->
  wpAny (model X.prog X.w) X.A (eval a X.env) (λv s₁=>wpAny (model X.prog X.w) X.A (eval b X.env) (λu s₂=>wpAny (model X.prog X.w) X.A (compareOp op v u) (EP X pins σ Q) X.xe s₂) X.xe s₁) X.xe s
def tB(t:TE):TT:=λσ H Q=>t σ H λx H1=>∃c,x=.bl c/\Q c H1
theorem pt_cmp{op:CmpOp}{t:TE}(h:PC X op a b t)(h1:behindInMarks op b=false:=by first | exact nobehind _ (by decide) (by decide) | rfl):PT X (.Compare a [op] [b] pos) (tB t):=by
 intro pins s σ H Q I hw
 refine wpAny_isTrue_Compare1 (thn (h pins s σ H _ I hw) λv s1 h1=>thn h1 λu s2 h2=>thn h2 λc s3 ⟨x,H1,I1,r1,q1⟩=>?_) h1
 obtain⟨d,rfl,q⟩:=q1
 cases r1
 exact wpAny_truthy_bool ⟨H1,I1,q⟩
variable{tA tB':TT}{rest:List Expr}
def tAnd(t u:TT):TT:=λσ H Q=>t σ H λc H1=>if c=true then u σ H1 Q else Q false H1
def tOr(t u:TT):TT:=λσ H Q=>t σ H λc H1=>if c=true then Q true H1 else u σ H1 Q
def tNot(t:TT):TT:=λσ H Q=>t σ H λc H1=>Q (!c) H1
theorem pw_and1(ha:PT X a tA):PW X (.BoolOp .And [a] pos) tA:=by
 intro wh pins s σ H Q I h
 refine isTrue_and (thn (ha pins s σ H Q I h) λc s1 e=>?_)
 cases c with
 | true=>exact isTrue_and_nil e
 | false=>exact e
theorem pw_or1(ha:PT X a tA):PW X (.BoolOp .Or [a] pos) tA:=by
 intro wh pins s σ H Q I h
 refine isTrue_or (thn (ha pins s σ H Q I h) λc s1 e=>?_)
 cases c with
 | false=>exact isTrue_or_nil e
 | true=>exact e
theorem pw_and(ha:PT X a tA)(hb:PW X (.BoolOp .And (b::rest) pos) tB'):PW X (.BoolOp .And (a::b::rest) pos) (tAnd tA tB'):=by
 intro wh pins s σ H Q I h
 refine isTrue_and (thn (ha pins s σ H _ I h) λc s1 qq=>?_);obtain⟨H1,I1,q1⟩:=qq
 cases c with
 | true=>exact hb wh pins s1 σ H1 Q I1 q1
 | false=>exact⟨H1,I1,q1⟩
theorem pw_or(ha:PT X a tA)(hb:PW X (.BoolOp .Or (b::rest) pos) tB'):PW X (.BoolOp .Or (a::b::rest) pos) (tOr tA tB'):=by
 intro wh pins s σ H Q I h
 refine isTrue_or (thn (ha pins s σ H _ I h) λc s1 qq=>?_);obtain⟨H1,I1,q1⟩:=qq
 cases c with
 | true=>exact⟨H1,I1,q1⟩
 | false=>exact hb wh pins s1 σ H1 Q I1 q1
theorem pt_not(ha:PT X a tA):PT X (.UnaryOp .Not a pos) (tNot tA):=by
 intro pins s σ H Q I h
 exact isTrue_not (ha pins s σ H (λc H1=>Q (!c) H1) I h)
def tAndV(ta tb:TE):TE:=λσ H Q=>ta σ H λx H1=>∃c,x=.bl c/\if c=true then tb σ H1 Q else Q (.bl false) H1
def tOrV(ta tb:TE):TE:=λσ H Q=>ta σ H λx H1=>∃c,x=.bl c/\if c=true then Q (.bl true) H1 else tb σ H1 Q
def tNotV(ta:TE):TE:=λσ H Q=>ta σ H λx H1=>∃c,x=.bl c/\Q (.bl (!c)) H1
theorem pe_one{op}{t:TE}(h:PE X a t):PE X (.BoolOp op [a] pos) t:=λpins s σ H Q I hw=>BoolOp_one (h pins s σ H Q I hw)
theorem pe_and(ha:PE X a ta)(hb:PE X (.BoolOp .And (b::rest) pos) tb):PE X (.BoolOp .And (a::b::rest) pos) (tAndV ta tb):=by
 intro pins s σ H Q I h
 refine BoolOp_and (thn (ha pins s σ H _ I h) λv s1 qq=>?_);obtain⟨x,H1,I1,r1,q1⟩:=qq
 obtain⟨c,rfl,q1⟩:=q1
 cases r1
 refine wpAny_truthy_bool ?_
 cases c with
 | true=>exact hb pins s1 σ H1 Q I1 q1
 | false=>exact⟨.bl false,H1,I1,rfl,q1⟩
theorem pe_or(ha:PE X a ta)(hb:PE X (.BoolOp .Or (b::rest) pos) tb):PE X (.BoolOp .Or (a::b::rest) pos) (tOrV ta tb):=by
 intro pins s σ H Q I h
 refine BoolOp_or (thn (ha pins s σ H _ I h) λv s1 qq=>?_);obtain⟨x,H1,I1,r1,q1⟩:=qq
 obtain⟨c,rfl,q1⟩:=q1
 cases r1
 refine wpAny_truthy_bool ?_
 cases c with
 | false=>exact hb pins s1 σ H1 Q I1 q1
 | true=>exact⟨.bl true,H1,I1,rfl,q1⟩
theorem pe_not(ha:PE X a ta):PE X (.UnaryOp .Not a pos) (tNotV ta):=by
 intro pins s σ H Q I h
 refine UnaryOp_ (thn (ha pins s σ H _ I h) λv s1 qq=>?_);obtain⟨x,H1,I1,r1,q1⟩:=qq
 obtain⟨c,rfl,q1⟩:=q1
 cases r1
 exact not_of (wpAny_truthy_bool ⟨.bl (!c),H1,I1,rfl,q1⟩)
def tIf(t:TT)(ta tb:TE):TE:=λσ H Q=>t σ H λc H1=>if c=true then ta σ H1 Q else tb σ H1 Q
theorem pe_ifExp{c:Expr}(hc:PT X c tA)(ha:PE X a ta)(hb:PE X b tb):PE X (.IfExp c a b pos) (tIf tA ta tb):=by
 intro pins s σ H Q I h
 refine wpAny_IfExp (thn (hc pins s σ H _ I h) λd s1 qq=>?_);obtain⟨H1,I1,q1⟩:=qq
 cases d with
 | true=>exact ha pins s1 σ H1 Q I1 q1
 | false=>exact hb pins s1 σ H1 Q I1 q1
end
end L2
namespace L2
open PySem PySem.Spec PyProof.Rows
def SqL(K:Frag)(H:Hp)(a:Addr)(xs:List V):Prop :=
 Rd H a (.lst xs) ∨
  ∃(o:Obj)(its:Array Value)(n:Nat),K.lookup a=some o/\o.cls=.type "list"/\o.dict=none/\o.data=.seq its n/\its.size<=sizeLine/\Vals xs its.toList
def SqT(K:Frag)(H:Hp)(a:Addr)(xs:List V):Prop :=
 Rd H a (.tup xs) ∨
  ∃(o:Obj)(its:Array Value)(n:Nat),K.lookup a=some o/\o.cls=.type "tuple"/\o.data=.seq its n/\its.size<=sizeLine/\Vals xs its.toList
noncomputable def absV:Value->Option V
 | .none=>some .non
 | .bool b=>some (.bl b)
 | .int i _=>some (.int i)
 | .str x _=>some (.str x)
 | .bytes b _=>some (.byt b)
 | .float b _=>some (.flt b)
 | .ref a=>some (.ref a)
 | .type n=>some (.ty n)
 | _=>none
theorem RelV.abs{x:V}{u:Value}(r:RelV x u):absV u=some x:=by
 cases x with
 | non=>cases r;rfl
 | bl _=>cases r;rfl
 | int _=>obtain⟨t,rfl⟩:=r;rfl
 | str _=>obtain⟨t,rfl⟩:=r;rfl
 | byt _=>obtain⟨t,rfl⟩:=r;rfl
 | flt _=>obtain⟨t,rfl⟩:=r;rfl
 | ref _=>cases r;rfl
 | ty _=>cases r;rfl
theorem RelV.inj{x y:V}{u:Value}(r:RelV x u)(q:RelV y u):x=y:=Option.some.inj (r.abs.symm.trans q.abs)
theorem Vals.inj:∀{xs ys:List V}{us:List Value},Vals xs us->Vals ys us->xs=ys
 | _,_,_,.nil,.nil=>rfl
 | _,_,_,.cons r t,.cons r' t'=>by rw[r.inj r',Vals.inj t t']
section
variable{X:Cx}{pins:List (Addr×Obj)}{σ:St}{H:Hp}{s:Shared}{a:Addr}{xs ys:List V}
theorem SqL.of{K:Frag}(h:H a=some (.lst xs)):SqL K H a xs:=.inl (.inl h)
theorem SqT.of{K:Frag}(h:H a=some (.tup xs)):SqT K H a xs:=.inl (.inl h)
theorem Inv.list(I:Inv X pins σ H s)(h:SqL X.K H a xs):∃its:List Value,Vals xs its/\PlainL s.heap a its.toArray/\xs.length<=sizeLine:=by
 rcases h with h | ⟨o,its,n,hk,hc,hd,hs,hz,r⟩
 .obtain⟨z,its,n,r,e⟩:=h.ok I.hok
  exact⟨its,r,⟨_,n,e,rfl,rfl,rfl⟩,z⟩
 .refine⟨its.toList,r,⟨o,n,I.kIn a o hk,hc,hd,by simpa using hs⟩,?_⟩
  have e:=r.length
  simp only[Array.length_toList] at e
  omega
theorem Inv.tuple(I:Inv X pins σ H s)(h:SqT X.K H a xs):∃its:List Value,Vals xs its/\IsTup s.heap a its.toArray/\xs.length<=sizeLine:=by
 rcases h with h | ⟨o,its,n,hk,hc,hs,hz,r⟩
 .obtain⟨z,its,r,p⟩:=h.ok I.hok
  exact⟨its,r,p,z⟩
 .refine⟨its.toList,r,⟨o,I.kIn a o hk,hc,n,by simpa using hs⟩,?_⟩
  have e:=r.length
  simp only[Array.length_toList] at e
  omega
theorem Inv.J2(I:Inv X pins σ H s)(h:SqL X.K H a xs)(h':SqL X.K H a ys):xs=ys:=by
 obtain⟨its,r,⟨o,n,e,_,_,d⟩,_⟩:=I.list h
 obtain⟨its',r',⟨o',n',e',_,_,d'⟩,_⟩:=I.list h'
 rw[e] at e';cases e'
 rw[d] at d'
 injection d' with d1 _
 have:its=its':=by simpa using congrArg Array.toList d1
 subst this
 exact r.inj r'
theorem Inv.Eu(I:Inv X pins σ H s)(h:SqT X.K H a xs)(h':SqT X.K H a ys):xs=ys:=by
 obtain⟨its,r,⟨o,e,_,n,d⟩,_⟩:=I.tuple h
 obtain⟨its',r',⟨o',e',_,n',d'⟩,_⟩:=I.tuple h'
 rw[e] at e';cases e'
 rw[d] at d'
 injection d' with d1 _
 have:its=its':=by simpa using congrArg Array.toList d1
 subst this
 exact r.inj r'
end
abbrev Cx.wish(X:Cx)(E:Value->Shared->Prop):Cx:={ X with xe:=E }
abbrev Cx.nox(X:Cx):Cx:=X.wish λ_ _=>False
theorem Cx.Ok.wish{X:Cx}(ok:X.Ok)(E:Value->Shared->Prop):(X.wish E).Ok :=
 ⟨ok.mod,ok.kind,ok.glob,ok.blt,ok.above,ok.inj,ok.has,ok.cab,ok.hd,ok.frames,ok.stk,ok.exf,ok.bs,ok.bsz,ok.aZ,ok.exfs,ok.zc,ok.frf⟩
theorem Cx.Ok.uv{X:Cx}{E:Value->Shared->Prop}(ok:(X.wish E).Ok):X.Ok :=
 ⟨ok.mod,ok.kind,ok.glob,ok.blt,ok.above,ok.inj,ok.has,ok.cab,ok.hd,ok.frames,ok.stk,ok.exf,ok.bs,ok.bsz,ok.aZ,ok.exfs,ok.zc,ok.frf⟩
section
variable{X:Cx}{pins:List (Addr×Obj)}{σ:St}{H:Hp}{s:Shared}{E:Value->Shared->Prop}
theorem Inv.wish(I:Inv X pins σ H s)(E:Value->Shared->Prop):Inv (X.wish E) pins σ H s:=⟨I.ok.wish E,I.os,I.bare,I.base,I.loc,I.cell,I.free,I.sE,I.pin,I.hok,I.len⟩
theorem Inv.uv(I:Inv (X.wish E) pins σ H s):Inv X pins σ H s:=⟨I.ok.uv,I.os,I.bare,I.base,I.loc,I.cell,I.free,I.sE,I.pin,I.hok,I.len⟩
theorem SP.uv{D:Ends}{f:Flow}{s':Shared}(h:SP (X.wish E) pins D f s'):SP X pins D f s':=by
 cases f with
 | next=>obtain⟨σ',H',I,q⟩:=h;exact⟨σ',H',I.uv,q⟩
 | brk=>obtain⟨σ',H',I,q⟩:=h;exact⟨σ',H',I.uv,q⟩
 | cont=>obtain⟨σ',H',I,q⟩:=h;exact⟨σ',H',I.uv,q⟩
 | ret u=>obtain⟨v,σ',H',I,r,q⟩:=h;exact⟨v,σ',H',I.uv,r,q⟩
theorem PSs.nox{st:List Stmt}{t:TS}(h:PSs X.nox st t):PSs X st t:=λpins s σ H D I hw =>
 wpAny_mono (h pins s σ H D (I.wish _) hw) (λ_ _ q=>q.uv) λ_ _ z=>False.elim z
end
section
variable{X:Cx}{st:Stmt}{rest:List Stmt}{t u:TS}{e:Expr}{te:TE}{pos:Pos}
def tNext:TS:=λD σ H=>D.nx σ H
def tSeq(t u:TS):TS:=λD σ H=>t { D with nx:=u D } σ H
theorem pss_nil:PSs X [] tNext:=λ_ _ σ H _ I h=>wpAny_execs_nil ⟨σ,H,I,h⟩
theorem wK(h1:PS X st t)(h2:PSs X rest u):PSs X (st::rest) (tSeq t u):=by
 intro pins s σ H D I h
 refine wpAny_execs_cons (thn (h1 pins s σ H { D with nx:=u D } I h) λf s1 q=>?_)
 cases f with
 | next =>
  obtain⟨σ',H',I',q⟩:=q
  exact h2 pins s1 σ' H' D I' q
 | ret v=>exact q
 | brk=>exact q
 | cont=>exact q
theorem qp(h1:PS X st t):PSs X [st] t:=by
 intro pins s σ H D I h
 refine wpAny_execs_cons (thn (h1 pins s σ H D I h) λf s1 q=>?_)
 cases f with
 | next=>exact wpAny_execs_nil q
 | ret v=>exact q
 | brk=>exact q
 | cont=>exact q
theorem Inv.quiet{pins:List (Addr×Obj)}{σ:St}{H:Hp}{s:Shared}(I:Inv X pins σ H s):interactive X.env=false:=by simp[interactive,I.ok.kind]
def uq(te:TE):TS:=λD σ H=>te σ H λ_ H1=>D.nx σ H1
theorem nA(he:PE X e te)(hs:swapsWith e none pos.line X.env=pure false:=by rfl):PS X (.Expr e pos) (uq te):=by
 intro pins s σ H D I h
 exact wpAny_Expr_any (thn (he pins s σ H _ I h) λv s1 ⟨x,H1,I1,r1,q1⟩=>⟨σ,H1,I1,q1⟩) I.quiet hs
def tRet(te:TE):TS:=λD σ H=>te σ H D.rt
theorem xW(he:PE X e te):PS X (.Return (some e) pos) (tRet te):=by
 intro pins s σ H D I h
 exact wpAny_Return_some (thn (he pins s σ H _ I h) λv s1 ⟨x,H1,I1,r1,q1⟩=>⟨x,σ,H1,I1,r1,q1⟩)
def tIfS(c:TT)(t u:TS):TS:=λD σ H=>c σ H λb H1=>if b=true then t D σ H1 else u D σ H1
theorem ps_if{c:Expr}{a b:List Stmt}{tc:TT}(hc:PT X c tc)(ha:PSs X a t)(hb:PSs X b u):PS X (.If c a b pos) (tIfS tc t u):=by
 intro pins s σ H D I h
 refine wpAny_If (thn (hc pins s σ H _ I h) λd s1 qq=>?_);obtain⟨H1,I1,q1⟩:=qq
 cases d with
 | true=>exact ha pins s1 σ H1 D I1 q1
 | false=>exact hb pins s1 σ H1 D I1 q1
def tNever:TS:=λ_ _ _=>False
theorem ps_never:PS X st tNever:=λ_ _ _ _ _ _ h=>h.elim
end
abbrev TG:=V->St->Hp->(St->Hp->Prop)->Prop
abbrev TGs:=List V->St->Hp->(St->Hp->Prop)->Prop
def PG(X:Cx)(target:Expr)(t:TG):Prop :=
 ∀(pins:List (Addr×Obj))(s:Shared)(σ:St)(H:Hp)(v:V)(u:Value)(Q:St->Hp->Prop),Inv X pins σ H s->RelV v u->t v σ H Q ->
  wpAny (model X.prog X.w) X.A (assign target X.env u) (λ_ s'=>∃σ' H',Inv X pins σ' H' s'/\Q σ' H') X.xe s
def PGs(X:Cx)(ts:List Expr)(t:TGs):Prop :=
 ∀(pins:List (Addr×Obj))(s:Shared)(σ:St)(H:Hp)(vs:List V)(us:List Value)(Q:St->Hp->Prop),Inv X pins σ H s->Vals vs us->t vs σ H Q ->
  wpAny (model X.prog X.w) X.A (assignInOrder ((assignEach ts X.env).map (·.2)) us) (λ_ s'=>∃σ' H',Inv X pins σ' H' s'/\Q σ' H') X.xe s
abbrev TSet:=V->V->V->Hp->(Hp->Prop)->Prop
def PSet(X:Cx)(t:TSet):Prop :=
 ∀(pins:List (Addr×Obj))(s:Shared)(σ:St)(H:Hp)(o i v:V)(ov iv u:Value)(Q:Hp->Prop),Inv X pins σ H s->RelV o ov->RelV i iv->RelV v u->t o i v H Q ->
  wpAny (model X.prog X.w) X.A (setItem ov iv u) (λ_ s'=>∃H',Inv X pins σ H' s'/\Q H') X.xe s
abbrev TIp:=V->V->Hp->VK->Prop
def PIp(X:Cx)(op:Operator)(t:TIp):Prop :=
 ∀(pins:List (Addr×Obj))(s:Shared)(σ:St)(H:Hp)(x y:V)(v u:Value)(Q:VK),Inv X pins σ H s->RelV x v->RelV y u->t x y H Q ->
  wpAny (model X.prog X.w) X.A (inplaceOp op v u) (EP X pins σ Q) X.xe s
section
variable{X:Cx}{pos:Pos}
def mZ(i:Nat):TG:=λv σ H Q=>Q (σ.set i (some v)) H
theorem zZ{i:Nat}{x:Str}(hN:X.N.Nodup)(hi:X.N[i]?=some x)(hx:Loc X.env.scope x)(hf:X.fn x=true∨X.env.scope.names.lookup x=some .local:=by first | exact .inl rfl | exact .inr rfl | assumption):PG X (.Name x pos) (mZ i):=by
 intro pins s σ H v u Q I r h
 exact wpAny_assign_Name (Cu I hN hi hx r (λs' I'=>⟨_,H,I',h⟩) hf)
def gNil:TGs:=λvs σ H Q=>vs=[]/\Q σ H
def gCons(t:TG)(u:TGs):TGs:=λvs σ H Q=>∃v r,vs=v::r/\t v σ H λσ' H'=>u r σ' H' Q
theorem Ox:PGs X [] gNil:=by
 intro pins s σ H vs us Q I r h
 obtain⟨e,h⟩:=h
 subst e
 cases r
 exact assignInOrder_nil ⟨σ,H,I,h⟩
theorem bH{e:Expr}{es:List Expr}{t:TG}{u:TGs}(h1:PG X e t)(h2:PGs X es u)
  (hs:(assignEach (e::es) X.env).map (·.2)=assign e X.env::(assignEach es X.env).map (·.2):=by rfl):PGs X (e::es) (gCons t u):=by
 intro pins s σ H vs us Q I r h
 obtain⟨v,vr,e1,h⟩:=h
 subst e1
 cases r with
 | cons r rr =>
  rw[hs]
  refine assignInOrder_cons (thn (h1 pins s σ H _ _ _ I r h) λ_ s1 qq=>?_);obtain⟨σ1,H1,I1,q1⟩:=qq
  exact h2 pins s1 σ1 H1 _ _ Q I1 rr q1
def gTup(K:Frag)(n:Nat)(t:TGs):TG:=λv σ H Q=>∃a xs,v=.ref a/\SqT K H a xs/\xs.length=n/\t xs σ H Q
theorem qm{es:List Expr}{k:Nat}{t:TGs}{n:Nat}(hc:X.calm=true)(h:PGs X es t)
  (hn:(assignEach es X.env).length=n:=by rfl) (hst:(assignEach es X.env).findIdx? (·.1)=none:=by rfl):PG X (.Tuple es k pos) (gTup X.K n t):=by
 intro pins s σ H v u Q I r hw
 obtain⟨a,xs,e1,hq,hl,hw⟩:=hw
 subst e1
 cases r
 obtain⟨its,rv,ht,hz⟩:=I.tuple hq
 refine assign_Tuple_tuple (I.ok.hd hc) ht (by simp[hn,←hl,rv.length]) hst λh' hx=>?_
 have I1:Inv X pins σ H { s with heap:=h' }:=I.kept (t':=s.toks) λb o e=>hx b o (Nat.ne_of_lt (Heap.lt_size e)) e
 exact h pins _ σ H xs _ Q I1 (by simpa using rv) hw
def gSub(to ti:TE)(t:TSet):TG:=λv σ H Q=>to σ H λo H1=>ti σ H1 λi H2=>t o i v H2 λH3=>Q σ H3
theorem Nb{o i:Expr}{to ti:TE}{t:TSet}(ho:PE X o to)(hi:PE X i ti)(hs:PSet X t)
  (ha:∀v,assign (.Subscript o i pos) X.env v=(do
   let ov ←holding [v] (eval o X.env)
   let iv ←holding [v,ov] (eval i X.env)
   standAt pos
   holding [v,ov,iv] (setItem ov iv v)
   release [v,ov,iv] []):=by intro _;rfl):PG X (.Subscript o i pos) (gSub to ti t):=by
 intro pins s σ H v u Q I r h
 rw[ha]
 refine wpAny_bind (wpAny_holding (thn (ho pins s σ H _ I h) λov s1 qq=>?_));obtain⟨x,H1,I1,r1,q1⟩:=qq
 refine wpAny_bind (wpAny_holding (thn (hi pins s1 σ H1 _ I1 q1) λiv s2 qq=>?_));obtain⟨y,H2,I2,r2,q2⟩:=qq
 refine wpAny_bind (wpAny_standAt (wpAny_bind (wpAny_holding (thn (hs pins s2 σ H2 x y v ov iv u _ I2 r1 r2 r q2) λ_ s3 qq=>?_))));obtain⟨H3,I3,q3⟩:=qq
 exact wpAny_release ⟨σ,H3,I3,q3⟩
def zE(te:TE)(g:TG):TS:=λD σ H=>te σ H λx H1=>g x σ H1 D.nx
theorem Ng{tg e:Expr}{te:TE}{g:TG}(he:PE X e te)(hg:PG X tg g)(hs:swapsWithSole [tg] e pos.line X.env=pure false:=by rfl)(hw:swappedStores [tg] e X.env=pure none:=by rfl)
  (h1:(assignEach [tg] X.env).map (·.2)=[assign tg X.env]:=by rfl):PS X (.Assign [tg] e pos) (zE te g):=by
 intro pins s σ H D I h
 refine wpAny_Assign_stores (thn (he pins s σ H _ I h) λv s1 ⟨x,H1,I1,r1,q1⟩=>?_) hs hw
 rw[h1]
 exact thn (hg pins s1 σ H1 x v _ I1 r1 q1) λ_ s2 q=>q
theorem xX{i:Nat}{x:Str}{e:Expr}{te:TE}{pos':Pos}(hN:X.N.Nodup)(hi:X.N[i]?=some x)(hx:Loc X.env.scope x)(he:PE X e te)(hs:swapsWith e (some (.Name x pos')) pos.line X.env=pure false:=by rfl)(hf:X.fn x=true∨X.env.scope.names.lookup x=some .local:=by first | exact .inl rfl | exact .inr rfl | assumption):
  PS X (.Assign [.Name x pos'] e pos) (zE te (mZ i)):=by
 intro pins s σ H D I h
 refine wpAny_Assign_Name (thn (he pins s σ H _ I h) λv s1 ⟨y,H1,I1,r1,q1⟩=>?_) hs
 exact Cu I1 hN hi hx r1 (λs2 I2=>⟨_,H1,I2,q1⟩) hf
def tAug(i:Nat)(te:TE)(ti:TIp):TS:=λD σ H=>∃x,σ[i]?=some (some x)/\te σ H λy H1=>ti x y H1 λz H2=>D.nx (σ.set i (some z)) H2
theorem ps_aug{i:Nat}{x:Str}{e:Expr}{te:TE}{op:Operator}{ti:TIp}{pos':Pos}(hN:X.N.Nodup)(hi:X.N[i]?=some x)(hx:Loc X.env.scope x)(he:PE X e te)(ho:PIp X op ti)(hf:X.fn x=true∨X.env.scope.names.lookup x=some .local:=by first | exact .inl rfl | exact .inr rfl | assumption):
  PS X (.AugAssign (.Name x pos') op e pos) (tAug i te ti):=by
 intro pins s σ H D I h
 obtain⟨v,e1,h⟩:=h
 obtain⟨m,hn,hl⟩:=I.loc
 have vis:Vis X.env.scope x:=by rcases hx with k | k;exact .inl k;exact .inr (.inl k)
 obtain⟨u,r,l⟩:=hl i x v hi e1 vis
 refine wpAny_AugAssign_Name ?_
 have go:wpAny (model X.prog X.w) X.A (eval e X.env) (λw s₂=>wpAny (model X.prog X.w) X.A (inplaceOp op u w) (λr s₃=>wpAny (model X.prog X.w) X.A (storeName X.env x r) (λ_=>SP X pins D .next) X.xe s₃) X.xe s₂) X.xe s:=by
  refine thn (he pins s σ H _ I h) λw s1 qq=>?_;obtain⟨y,H1,I1,r1,q1⟩:=qq
  refine thn (ho pins s1 σ H1 v y u w _ I1 r r1 q1) λz s2 qq=>?_;obtain⟨zv,H2,I2,r2,q2⟩:=qq
  exact Cu I2 hN hi hx r2 (λs3 I3=>⟨_,H2,I3,q2⟩) hf
 rcases l with⟨hk,hm⟩| ⟨hk,c,hc,hcell⟩
 .exact wpAny_loadName_local I.ok.kind hk hn hm go
 .rcases hk with hk | hk
  .exact wpAny_loadName_cell I.ok.kind hk hc hcell go
  .rcases hx with k | k
   .have:X.env.scope.names.lookup x=some .free:=hk
    rw[k] at this;cases this
   .have:X.env.scope.names.lookup x=some .free:=hk
    rw[k] at this;cases this
def ipI(f:Int->Int->Int):TIp:=λx y H Q=>∃i j,x=.int i/\y=.int j/\Q (.int (f i j)) H
theorem ip_add:PIp X .Add (ipI λi j=>i+j):=by
 intro pins s σ H x y v u Q I r1 r2 h
 obtain⟨i,j,e1,e2,q⟩:=h
 subst e1;subst e2
 obtain⟨t,rfl⟩:=r1
 obtain⟨t',rfl⟩:=r2
 exact iadd_int ⟨.int _,H,I.tok _,⟨_,rfl⟩,q⟩
end
section
variable{X:Cx}{pos:Pos}
def tWhile(c:TT)(tb:TS):TS:=λD σ H=>∃W:Nat->St->Hp->Prop,(∃m,W m σ H)/\∀m σ H,W m σ H ->
 c σ H λb H1=>if b=true then ∃N:St->Hp->Prop,(∀σ' H',N σ' H'->∃m',m'<m/\W m' σ' H')/\tb { D with nx:=N,ct:=N,bk:=D.nx } σ H1 else D.nx σ H1
theorem ps_while{c:Expr}{body:List Stmt}{tc:TT}{tb:TS}(hp:PassesOwn (model X.prog X.w) X.A X.env X.xe)(hc:PT X c tc)(hb:PSs X body tb):PS X (.While c body [] pos) (tWhile tc tb):=by
 intro pins s σ H D I h
 obtain⟨W,⟨m0,w0⟩,turn⟩:=h
 refine wpAny_While (codeAny_whileLoop (λn s'=>∃σ' H',Inv X pins σ' H' s'/\W n σ' H') ?_ m0 ⟨σ,H,I,w0⟩)
 rintro n s1 ⟨σ1,H1,I1,w1⟩
 refine wpAny_passesOwn hp (thn (hc pins s1 σ1 H1 _ I1 (turn n σ1 H1 w1)) λb s2 qq=>?_);obtain⟨H2,I2,q2⟩:=qq
 cases b with
 | true =>
  obtain⟨N,hN,q2⟩:=q2
  rw[if_pos rfl]
  refine wpAny_passesOwn hp (thn (hb pins s2 σ1 H2 _ I2 q2) λf s3 q3=>?_)
  cases f with
  | next =>
   obtain⟨σ3,H3,I3,n3⟩:=q3
   obtain⟨m',hm,w3⟩:=hN σ3 H3 n3
   exact⟨m',hm,σ3,H3,I3,w3⟩
  | cont =>
   obtain⟨σ3,H3,I3,n3⟩:=q3
   obtain⟨m',hm,w3⟩:=hN σ3 H3 n3
   exact⟨m',hm,σ3,H3,I3,w3⟩
  | brk=>exact q3
  | ret v=>exact q3
 | false =>
  rw[if_neg Bool.false_ne_true]
  exact wpAny_execs_nil ⟨σ1,H2,I2,q2⟩
end
structure It where
 go:Nat->Hp->Prop
 yld:Nat->Hp->V->Hp->Prop
 stop:Nat->Hp->Prop
def yZ(X:Cx)(pins:List (Addr×Obj))(H:Hp)(b:Addr):Prop :=
 H b=none/\b≠X.env.locals/\b∉X.fs/\(b∈X.ex∨X.s₀.heap.objs.size<=b)/\(∀x c,X.env.cells.lookup x=some c->c≠b)/\∀p∈X.pn++pins,p.1≠b
theorem Inv.fpOk{X:Cx}{pins:List (Addr×Obj)}{σ:St}{H H':Hp}{s:Shared}{b:Addr}(I:Inv X pins σ H s)(hb:s.heap.objs.size<=b)(hn:H' b=none):yZ X pins H' b:=by
 refine⟨hn,Nat.ne_of_gt (Nat.lt_of_lt_of_le I.lt hb),I.nofs hb,.inr (Nat.le_trans I.sz hb),λx c e z=>?_,λp hp z=>?_⟩
 .obtain⟨v,q⟩:=I.cell x c e
  exact absurd (Nat.lt_of_lt_of_le q.lt (by rw[z];exact hb)) (Nat.lt_irrefl _)
 .exact absurd (Nat.lt_of_lt_of_le (Heap.lt_size (I.pin p hp).1) (by rw[z];exact hb)) (Nat.lt_irrefl _)
structure Turn(P:Program)(w:World)(K:Frag)(tg:Expr)(J:It)(fp:List Addr)(it:Addr)(tn:Nat->Heap->Prop):Prop where
 mem:it∈fp
 obj:∀i h,tn i h->∀b∈fp,∃o,h.get? b=some o/\∀v,o.data≠.cell v
 keep:∀i h h',tn i h->(∀b∈fp,∀o,h.get? b=some o->h'.get? b=some o)->tn i h'
 item:∀(X:Cx),X.prog=P->X.w=w->X.K=K->X.calm=true->∀(i:Nat)(pins:List (Addr×Obj))(s:Shared)(σ:St)(H:Hp)(E:Value->Shared->Prop),Inv X pins σ H s->(∀b∈fp,yZ X pins H b)->tn i s.heap->J.go i H ->
  wpAny (model P w) X.A (pyNext (.ref it)) (λr s1=>∃u,r=some u /\
   wpAny (model P w) X.A (letOwnedTupleGo tg (.ref it) u) (λ_ s2=>∃x H',Inv X pins σ H' s2/\RelV x u/\J.yld i H x H'/\tn (i+1) s2.heap/\∀b∈fp,H' b=none) E s1) E s
 done:∀(X:Cx),X.prog=P->X.w=w->X.K=K->X.calm=true->∀(i:Nat)(pins:List (Addr×Obj))(s:Shared)(σ:St)(H:Hp)(E:Value->Shared->Prop),Inv X pins σ H s->(∀b∈fp,yZ X pins H b)->tn i s.heap->J.stop i H ->
  wpAny (model P w) X.A (pyNext (.ref it)) (λr s1=>r=none/\Inv X pins σ H s1) E s
 self:∀(A:Around)(i:Nat)(s:Shared)(Q:Value->Shared->Prop)(E:Value->Shared->Prop),tn i s.heap->Q (.ref it) s->wpAny (model P w) A (pyIter (.ref it)) Q E s
abbrev TI:=St->Hp->(It->Hp->Prop)->Prop
def PIE(X:Cx)(pins:List (Addr×Obj))(σ:St)(tg:Expr)(R:It->Hp->Prop)(itv:Value)(s2:Shared):Prop :=
 ∃(it:Addr)(fp:List Addr)(tn:Nat->Heap->Prop)(J:It)(H':Hp),itv=.ref it/\Inv X pins σ H' s2/\Turn X.prog X.w X.K tg J fp it tn/\tn 0 s2.heap/\(∀b∈fp,yZ X pins H' b)/\R J H'
def PI(X:Cx)(tg iter:Expr)(wi:TI):Prop :=
 ∀(pins:List (Addr×Obj))(s:Shared)(σ:St)(H:Hp)(R:It->Hp->Prop),Inv X pins σ H s->wi σ H R ->
  wpAny (model X.prog X.w) X.A (eval iter X.env) (λv s1=>wpAny (model X.prog X.w) X.A (pyIter v) (PIE X pins σ tg R) X.xe s1) X.xe s
theorem JW{M:Model}{A:Around}{E:Value->Shared->Prop}{s:Shared}{tg:Expr}{it:Addr}{u:Value}{o:Obj}{n:String}{vs:Array Value}{Q:Unit->Shared->Prop}(ho:s.heap.get? it=some o)(hc:o.cls=.type n)(hd:o.data=.fields vs)
  (hn:["enumerate","zip","dict_itemiterator","dict_reverseitemiterator","odict_iterator","itertools.zip_longest","itertools.pairwise"].contains n=false) (hQ:Q () s):wpAny M A (letOwnedTupleGo tg (.ref it) u) Q E s:=by
 unfold letOwnedTupleGo
 cases tg <;> first
  | exact wpAny_pure hQ
  | (cases u <;> first
    | exact wpAny_pure hQ
    | (refine wpAny_bind (wpAny_load ho ?_)
       rw[hc,hd]
       show wpAny M A (if (["enumerate","zip","dict_itemiterator","dict_reverseitemiterator","odict_iterator","itertools.zip_longest","itertools.pairwise"].contains n && vs[0]?==some (rawInt _))=true then _ else _) Q E s
       rw[if_neg (by intro h;rw[hn,Bool.false_and] at h;cases h)]
       exact wpAny_pure hQ))
def Itl(K:Frag)(a:Addr):It :=
 ⟨λi H=>∃xs x,SqL K H a xs/\xs[i]?=some x,λi H x H'=>H'=H/\∀xs,SqL K H a xs->xs[i]?=some x,λi H=>∃xs,SqL K H a xs/\xs.length<=i⟩
def Itt(K:Frag)(a:Addr):It :=
 ⟨λi H=>∃xs x,SqT K H a xs/\xs[i]?=some x,λi H x H'=>H'=H/\∀xs,SqT K H a xs->xs[i]?=some x,λi H=>∃xs,SqT K H a xs/\xs.length<=i⟩
def Itr(lo:Int)(n:Nat):It:=⟨λi _=>i<n,λi H x H'=>H'=H/\x=.int (lo+i),λi _=>n<=i⟩
theorem QT{P:Program}{w:World}{K:Frag}{tg:Expr}(a it:Addr):Turn P w K tg (Itl K a) [it] it (λi h=>h.IsListIter it a i) where
 mem:=by simp
 obj:=λi h st b hb=>by
  have e:b=it:=by simpa using hb
  subst e
  obtain⟨o,e,c,d⟩:=st
  exact⟨o,e,λv z=>by rw[d] at z;cases z⟩
 keep:=λi h h' st k=>st.at λo e=>k it (by simp) o e
 item:=by
  intro X hP hw hK hc i pins s σ H E I hf st hg
  subst hP hw hK
  obtain⟨xs,x,hq,hx⟩:=hg
  obtain⟨its,rv,p,hz⟩:=I.list hq
  obtain⟨u,hu,ru⟩:=rv.get hx
  obtain⟨f0,f1,f2,f3,f4,f5⟩:=hf it (by simp)
  refine wpAny_pyNext_list_item st p.isList (x:=u) (by simpa using hu) λh' st' sb=>?_
  have I1:Inv X pins σ H { s with heap:=h' }:=I.turned (t':=s.toks) (λb o hb e=>(sb.2 b hb).trans e) f0 f1 f3 f4 f5
  obtain⟨o,e,c,d⟩:=id st'
  exact⟨u,rfl,JW (s:={ s with heap:=h' }) e c d (by decide) ⟨x,H,I1,ru,⟨rfl,λys hy=>by rw[I.J2 hy hq];exact hx⟩,st',λb hb=>(hf b hb).1⟩⟩
 done:=by
  intro X hP hw hK hc i pins s σ H E I hf st hg
  subst hP hw hK
  obtain⟨xs,hq,hx⟩:=hg
  obtain⟨its,rv,p,hz⟩:=I.list hq
  obtain⟨f0,f1,f2,f3,f4,f5⟩:=hf it (by simp)
  have hl:=rv.length
  exact wpAny_pyNext_list_end (I.ok.hd hc) st p.isList (by simp;omega) λh' eb=>⟨rfl,I.turned (t':=s.toks) (λb o hb e=>eb b o hb e) f0 f1 f3 f4 f5⟩
 self:=λ_ _ _ _ _ st h=>wpAny_pyIter_listiter st h
theorem N5{P:Program}{w:World}{K:Frag}{tg:Expr}(a it:Addr):Turn P w K tg (Itt K a) [it] it (λi h=>h.IsTupleIter it a i) where
 mem:=by simp
 obj:=λi h st b hb=>by
  have e:b=it:=by simpa using hb
  subst e
  obtain⟨o,e,c,d⟩:=st
  exact⟨o,e,λv z=>by rw[d] at z;cases z⟩
 keep:=λi h h' st k=>st.at λo e=>k it (by simp) o e
 item:=by
  intro X hP hw hK hc i pins s σ H E I hf st hg
  subst hP hw hK
  obtain⟨xs,x,hq,hx⟩:=hg
  obtain⟨its,rv,p,hz⟩:=I.tuple hq
  obtain⟨u,hu,ru⟩:=rv.get hx
  obtain⟨f0,f1,f2,f3,f4,f5⟩:=hf it (by simp)
  refine wpAny_pyNext_tuple_item st (show s.heap.IsTuple a its.toArray from p) (x:=u) (by simpa using hu) λh' st' sb=>?_
  have I1:Inv X pins σ H { s with heap:=h' }:=I.turned (t':=s.toks) (λb o hb e=>(sb.2 b hb).trans e) f0 f1 f3 f4 f5
  obtain⟨o,e,c,d⟩:=id st'
  exact⟨u,rfl,JW (s:={ s with heap:=h' }) e c d (by decide) ⟨x,H,I1,ru,⟨rfl,λys hy=>by rw[I.Eu hy hq];exact hx⟩,st',λb hb=>(hf b hb).1⟩⟩
 done:=by
  intro X hP hw hK hc i pins s σ H E I hf st hg
  subst hP hw hK
  obtain⟨xs,hq,hx⟩:=hg
  obtain⟨its,rv,p,hz⟩:=I.tuple hq
  obtain⟨f0,f1,f2,f3,f4,f5⟩:=hf it (by simp)
  have hl:=rv.length
  exact wpAny_pyNext_tuple_end (I.ok.hd hc) st (show s.heap.IsTuple a its.toArray from p) (by simp;omega) λh' eb=>⟨rfl,I.turned (t':=s.toks) (λb o hb e=>eb b o hb e) f0 f1 f3 f4 f5⟩
 self:=λ_ _ _ _ _ st h=>wpAny_pyIter_tupleiter st h
theorem NZ{P:Program}{w:World}{K:Frag}{tg:Expr}(it:Addr)(lo:Int)(n:Nat):Turn P w K tg (Itr lo n) [it] it (λi h=>IsRangeIter h it (lo+(i:Nat)*1) ((n:Int) - (i:Nat)) 1) where
 mem:=by simp
 obj:=λi h st b hb=>by
  have e:b=it:=by simpa using hb
  subst e
  exact⟨_,st,λv z=>by
   have z':Data.fields _=Data.cell v:=z
   cases z'⟩
 keep:=λi h h' st k=>k it (by simp) _ st
 item:=by
  intro X hP hw hK hc i pins s σ H E I hf st hg
  subst hP hw hK
  obtain⟨f0,f1,f2,f3,f4,f5⟩:=hf it (by simp)
  have W:=Walks.range (prog:=X.prog) (w:=X.w) (I.ok.hd hc) it lo 1 n
  refine W.item i s _ _ hg st λv h' tk hv st' kk=>?_
  obtain⟨t,rfl⟩:=hv
  have I1:Inv X pins σ H { s with heap:=h',toks:=tk }:=I.turned (λb o hb e=>kk b o (by simpa using hb) e) f0 f1 f3 f4 f5
  refine⟨_,rfl,JW (s:={ s with heap:=h',toks:=tk }) (n:="range_iterator") st' rfl rfl (by decide) ⟨.int (lo+i),H,I1,⟨t,?_⟩,⟨rfl,rfl⟩,st',λb hb=>(hf b hb).1⟩⟩
  rw[Int.mul_one]
 done:=by
  intro X hP hw hK hc i pins s σ H E I hf st hg
  subst hP hw hK
  obtain⟨f0,f1,f2,f3,f4,f5⟩:=hf it (by simp)
  exact wpAny_pyNext_range_end (I.ok.hd hc) st (by have:n<=i:=hg;omega) λh' eb=>⟨rfl,I.turned (t':=s.toks) (λb o hb e=>eb b o hb e) f0 f1 f3 f4 f5⟩
 self:=λ_ _ _ _ _ st h=>wpAny_pyIter_rangeiter st h
end L2
namespace L2
open PySem PySem.Spec PyProof.Rows
section
variable{X:Cx}{tg:Expr}
def iList(K:Frag)(tl:TE):TI:=λσ H R=>tl σ H λx H1=>∃a,x=.ref a/\(∃xs,SqL K H1 a xs)/\R (Itl K a) H1
def iTup(K:Frag)(tl:TE):TI:=λσ H R=>tl σ H λx H1=>∃a,x=.ref a/\(∃xs,SqT K H1 a xs)/\R (Itt K a) H1
theorem pi_list{l:Expr}{tl:TE}(hl:PE X l tl):PI X tg l (iList X.K tl):=by
 intro pins s σ H R I h
 refine thn (hl pins s σ H _ I h) λv s1 qq=>?_;obtain⟨x,H1,I1,r1,q1⟩:=qq
 obtain⟨a,e,⟨xs,hq⟩,q⟩:=q1
 subst e
 cases r1
 obtain⟨its,rv,p,hz⟩:=I1.list hq
 refine wpAny_pyIter_list p.isList ?_
 refine⟨s1.heap.objs.size,[s1.heap.objs.size],_,_,H1,rfl,I1.kept (t':=s1.toks) λb o e=>Heap.get?_push_of_some _ e,QT a _,⟨_,Heap.get?_push_size _ rfl,rfl,rfl⟩,λb hb=>?_,q⟩
 have e:b=s1.heap.objs.size:=by simpa using hb
 subst e
 exact I1.fpOk (Nat.le_refl _) (I1.hok.fresh (Nat.le_refl _))
theorem pi_tup{l:Expr}{tl:TE}(hl:PE X l tl):PI X tg l (iTup X.K tl):=by
 intro pins s σ H R I h
 refine thn (hl pins s σ H _ I h) λv s1 qq=>?_;obtain⟨x,H1,I1,r1,q1⟩:=qq
 obtain⟨a,e,⟨xs,hq⟩,q⟩:=q1
 subst e
 cases r1
 obtain⟨its,rv,p,hz⟩:=I1.tuple hq
 refine wpAny_pyIter_tuple (show s1.heap.IsTuple a its.toArray from p) ?_
 refine⟨s1.heap.objs.size,[s1.heap.objs.size],_,_,H1,rfl,I1.kept (t':=s1.toks) λb o e=>Heap.get?_push_of_some _ e,N5 a _,⟨_,Heap.get?_push_size _ rfl,rfl,rfl⟩,λb hb=>?_,q⟩
 have e:b=s1.heap.objs.size:=by simpa using hb
 subst e
 exact I1.fpOk (Nat.le_refl _) (I1.hok.fresh (Nat.le_refl _))
theorem range_it{pins:List (Addr×Obj)}{σ:St}{H:Hp}{s:Shared}{R:It->Hp->Prop}{E:Value->Shared->Prop}{lo hi:Int}{t u v:Tok}{tk:Nat}(I:Inv X pins σ H s)(h1:-(2 ^ 62)<=lo)(h2:lo<2 ^ 62)(h3:-(2 ^ 62)<=hi)(h4:hi<2 ^ 62)
  (q:R (Itr lo (hi - lo).toNat) H):wpAny (model X.prog X.w) X.A (pyIter (.ref s.heap.objs.size)) (PIE X pins σ tg R) E { s with heap:=s.heap.push { cls:=.type "range",data:=.fields #[.int lo t,.int hi u,.int 1 v] },toks:=tk }:=by
 refine wpAny_pyIter_range (IsRange.new ..) (small_one h1 h2 h3 h4) ?_
 have I1:Inv X pins σ H { s with heap:=s.heap.push { cls:=.type "range",data:=.fields #[.int lo t,.int hi u,.int 1 v] },toks:=tk }:=I.kept λb o e=>Heap.get?_push_of_some _ e
 refine⟨(s.heap.push { cls:=.type "range",data:=.fields #[.int lo t,.int hi u,.int 1 v] }).objs.size,[(s.heap.push { cls:=.type "range",data:=.fields #[.int lo t,.int hi u,.int 1 v] }).objs.size],_,_,H,rfl,
  I1.kept (t':=tk) λb o e=>Heap.get?_push_of_some _ e,NZ _ lo (hi - lo).toNat,?_,λb hb=>?_,q⟩
 .have e1:lo+((0:Nat):Int)*1=lo:=by simp
  have e2:(((hi - lo).toNat:Nat):Int) - ((0:Nat):Int)=Builtin.Range.rangeSize lo hi 1:=by rw[rangeSize_one];split <;> omega
  show IsRangeIter _ _ (lo+((0:Nat):Int)*1) ((((hi - lo).toNat:Nat):Int) - ((0:Nat):Int)) 1
  rw[e1,e2]
  exact Heap.get?_push_size _ rfl
 .have e:b=(s.heap.push { cls:=.type "range",data:=.fields #[.int lo t,.int hi u,.int 1 v] }).objs.size:=by simpa using hb
  subst e
  exact I1.fpOk (Nat.le_refl _) (I1.hok.fresh (Nat.le_refl _))
def iRng1(ta:TA):TI:=λσ H R=>ta σ H λvs H1=>∃j:Int,vs=[.int j]/\-(2 ^ 62)<=j/\j<2 ^ 62/\R (Itr 0 j.toNat) H1
theorem Qz{a:Expr}{ta:TA}{p pos:Pos}(hg:Gl X "range")(hm:X.mg "range"=none)(ha:PA X [a] ta)(hs:starEach [a] X.env=[(false,eval a X.env)]:=by rfl):PI X tg (.Call (.Name "range" p) [a] [] pos) (iRng1 ta):=by
 intro pins s σ H R I h
 refine Call_ (xU I hg hm boot_range (PyProof.Rows.callWith_type1 (thn (ha pos pins s σ H _ I h) λus s1 ⟨vs,H1,I1,r1,q1⟩=>?_) hs rfl))
 obtain⟨j,e,q1,q2,q⟩:=q1
 subst e
 cases r1 with
 | cons r rr =>
  cases rr
  obtain⟨t,rfl⟩:=r
  exact call_range_1 (range_it I1 (by omega) (by omega) q1 q2 (by simpa using q))
def tFor(wi:TI)(g:TG)(tb:TS):TS:=λD σ H=>wi σ H λJ H1=>∃W:Nat->Nat->St->Hp->Prop,(∃m,W 0 m σ H1)/\∀i m σ H,W i m σ H ->
 (J.stop i H/\D.nx σ H)∨(J.go i H/\∃N:St->Hp->Prop,(∀σ' H',N σ' H'->∃m',m'<m/\W (i+1) m' σ' H')/\∀x H',J.yld i H x H'->g x σ H' λσ2 H2=>tb { D with nx:=N,ct:=N,bk:=D.nx } σ2 H2)
noncomputable def BW(fp:List Addr)(h:Heap):List (Addr×Obj):=fp.filterMap λb=>(h.get? b).map λo=>(b,o)
theorem qg{fp:List Addr}{h:Heap}{b:Addr}{o:Obj}(hb:b∈fp)(e:h.get? b=some o):(b,o)∈BW fp h:=List.mem_filterMap.mpr ⟨b,hb,by rw[e];rfl⟩
theorem Qs{fp:List Addr}{h:Heap}{p:Addr×Obj}(hp:p∈BW fp h):p.1∈fp/\h.get? p.1=some p.2:=by
 obtain⟨b,hb,e⟩:=List.mem_filterMap.mp hp
 cases q:h.get? b with
 | none=>rw[q] at e;cases e
 | some o =>
  rw[q] at e
  have e':(b,o)=p:=Option.some.inj e
  subst e'
  exact⟨hb,q⟩
theorem Inv.pinned{pins:List (Addr×Obj)}{σ:St}{H:Hp}{s:Shared}{fp:List Addr}(I:Inv X pins σ H s)(hf:∀b∈fp,yZ X pins H b)(ho:∀b∈fp,∃o,s.heap.get? b=some o/\∀v,o.data≠.cell v):Inv X (pins++BW fp s.heap) σ H s :=
 I.Oz λp hp=>(List.mem_append.mp hp).elim (λz=>I.pin p (List.mem_append_right _ z)) λz=>by
  obtain⟨hb,e⟩:=Qs z
  obtain⟨f0,f1,f2,_⟩:=hf p.1 hb
  obtain⟨o,e',d⟩:=ho p.1 hb
  rw[e] at e';cases e'
  exact⟨e,f0,f1,f2,d⟩
theorem Inv.wY{pins pl:List (Addr×Obj)}{σ:St}{H:Hp}{s:Shared}(I:Inv X (pins++pl) σ H s):Inv X pins σ H s:=I.Oz λp hp=>I.pin p (List.mem_append_right _ (List.mem_append_left _ hp))
theorem ps_for{iter:Expr}{body:List Stmt}{wi:TI}{g:TG}{tb:TS}{pos:Pos}(hp:PassesOwn (model X.prog X.w) X.A X.env X.xe)(hc:X.calm=true)(hi:PI X tg iter wi)(hg:PG X tg g)(hb:PSs X body tb)
  (hs:∀x,foldedSetIterable iter X.env x=pure x:=by intro _;rfl):PS X (.For tg iter body [] pos) (tFor wi g tb):=by
 intro pins s σ H D I h
 refine wpAny_For (thn (hi pins s σ H _ I h) λv s1 h1=>thn h1 λitv s2 h2=>?_) hs
 obtain⟨it,fp,tn,J,H2,e,I2,T,st2,f2,W,⟨m0,w0⟩,turn⟩:=h2
 subst e
 have stat:∀{H':Hp},(∀b∈fp,H' b=none)->∀b∈fp,yZ X pins H' b:=λhn b hb=>⟨hn b hb,(f2 b hb).2⟩
 refine codeAny_forLoop_any (λn s'=>∃i σ' H',Inv X pins σ' H' s'/\tn i s'.heap/\(∀b∈fp,H' b=none)/\W i n σ' H') ?_ m0 ⟨0,σ,H2,I2,st2,λb hb=>(f2 b hb).1,w0⟩
 rintro n s3 ⟨i,σ3,H3,I3,st3,fr3,w3⟩
 rcases turn i n σ3 H3 w3 with⟨stop,qn⟩| ⟨go,N,hN,step⟩
 .refine wpAny_passesOwn hp (thn (T.done X rfl rfl rfl hc i pins s3 σ3 H3 X.xe I3 (stat fr3) st3 stop) λr s4 qq=>?_);obtain⟨hr,I4⟩:=qq
  subst hr
  exact wpAny_execs_nil ⟨σ3,H3,I4,qn⟩
 .refine wpAny_passesOwn hp (thn (T.item X rfl rfl rfl hc i pins s3 σ3 H3 X.xe I3 (stat fr3) st3 go) λr s4 qq=>?_);obtain⟨u,hr,h4⟩:=qq
  subst hr
  refine wpAny_passesOwn hp (thn h4 λ_ s5 qq=>?_);obtain⟨x,H5,I5,r5,y5,st5,fr5⟩:=qq
  have I5':=I5.pinned (stat fr5) (T.obj _ _ st5)
  refine wpAny_passesOwn hp (thn (hg _ s5 σ3 H5 x u _ I5' r5 (step x H5 y5)) λ_ s6 qq=>?_);obtain⟨σ6,H6,I6,q6⟩:=qq
  refine wpAny_passesOwn hp (thn (hb _ s6 σ6 H6 _ I6 q6) λf s7 q7=>?_)
  have again:∀{σ7:St}{H7:Hp},Inv X (pins++BW fp s5.heap) σ7 H7 s7->N σ7 H7->∃m,m<n/\∃i σ' H',Inv X pins σ' H' s7/\tn i s7.heap/\(∀b∈fp,H' b=none)/\W i m σ' H':=fun{σ7 H7} I7 n7=>by
   obtain⟨m',hm,w7⟩:=hN σ7 H7 n7
   refine⟨m',hm,i+1,σ7,H7,I7.wY,T.keep _ _ _ st5 λb hb o e=>(I7.pin (b,o) (List.mem_append_right _ (List.mem_append_right _ (qg hb e)))).1,λb hb=>?_,w7⟩
   obtain⟨o,e,d⟩:=T.obj _ _ st5 b hb
   exact(I7.pin (b,o) (List.mem_append_right _ (List.mem_append_right _ (qg hb e)))).2.1
  cases f with
  | next=>obtain⟨σ7,H7,I7,n7⟩:=q7;exact again I7 n7
  | cont=>obtain⟨σ7,H7,I7,n7⟩:=q7;exact again I7 n7
  | brk=>obtain⟨σ7,H7,I7,q7⟩:=q7;exact⟨σ7,H7,I7.wY,q7⟩
  | ret v=>obtain⟨x7,σ7,H7,I7,r7,q7⟩:=q7;exact⟨x7,σ7,H7,I7.wY,r7,q7⟩
end
end L2
namespace L2
open PySem PySem.Spec PyProof.Rows
abbrev R2:=V->V->Hp->VK->Prop
def OpR(X:Cx)(f:Value->Value->Sem Value)(r:R2):Prop :=
 ∀(pins:List (Addr×Obj))(s:Shared)(σ:St)(H:Hp)(x y:V)(v u:Value)(Q:VK),Inv X pins σ H s->RelV x v->RelV y u->r x y H Q ->
  wpAny (model X.prog X.w) X.A (f v u) (EP X pins σ Q) X.xe s
def UnR(X:Cx)(f:Value->Sem Value)(r:V->Hp->VK->Prop):Prop :=
 ∀(pins:List (Addr×Obj))(s:Shared)(σ:St)(H:Hp)(x:V)(v:Value)(Q:VK),Inv X pins σ H s->RelV x v->r x H Q ->
  wpAny (model X.prog X.w) X.A (f v) (EP X pins σ Q) X.xe s
def gH(X:Cx)(f:Value)(r:List V->Hp->VK->Prop):Prop :=
 ∀(pins:List (Addr×Obj))(s:Shared)(σ:St)(H:Hp)(xs:List V)(us:List Value)(Q:VK),Inv X pins σ H s->Vals xs us->r xs H Q ->
  wpAny (model X.prog X.w) X.A (call f us) (EP X pins σ Q) X.xe s
def TruR(X:Cx)(r:V->Hp->(Bool->Hp->Prop)->Prop):Prop :=
 ∀(pins:List (Addr×Obj))(s:Shared)(σ:St)(H:Hp)(x:V)(v:Value)(Q:Bool->Hp->Prop),Inv X pins σ H s->RelV x v->r x H Q ->
  wpAny (model X.prog X.w) X.A (truthy v) (TP X pins σ Q) X.xe s
def tOp(r:R2)(ta tb:TE):TE:=λσ H Q=>ta σ H λx H1=>tb σ H1 λy H2=>r x y H2 Q
def tUn(r:V->Hp->VK->Prop)(ta:TE):TE:=λσ H Q=>ta σ H λx H1=>r x H1 Q
def rI(C:Int->Int->Prop)(g:Int->Int->V):R2:=λx y H Q=>∃i j,x=.int i/\y=.int j/\C i j/\Q (g i j) H
def rI0(g:Int->Int->V):R2:=λx y H Q=>∃i j,x=.int i/\y=.int j/\Q (g i j) H
def rU(g:Int->V):V->Hp->VK->Prop:=λx H Q=>∃i,x=.int i/\Q (g i) H
section
variable{X:Cx}{a b c:Expr}{ta tb tc:TE}{pos:Pos}
theorem binT(ha:PE X a ta)(hb:PE X b tb){pins:List (Addr×Obj)}{s:Shared}{σ:St}{H:Hp}{R:V->V->Hp->Prop}(I:Inv X pins σ H s)
  (h:ta σ H λx H1=>tb σ H1 λy H2=>R x y H2) {Q:Value->Shared->Prop} {f:Value->Value->Sem Value}
  (hf:∀v u s2 x y H2,Inv X pins σ H2 s2->RelV x v->RelV y u->R x y H2->wpAny (model X.prog X.w) X.A (f v u) Q X.xe s2) :
  wpAny (model X.prog X.w) X.A (eval a X.env) (λv s₁=>wpAny (model X.prog X.w) X.A (eval b X.env) (λu s₂=>wpAny (model X.prog X.w) X.A (f v u) Q X.xe s₂) X.xe s₁) X.xe s:=by
 refine thn (ha pins s σ H _ I h) λv s1 qq=>?_;obtain⟨x,H1,I1,r1,q1⟩:=qq
 refine thn (hb pins s1 σ H1 _ I1 q1) λu s2 qq=>?_;obtain⟨y,H2,I2,r2,q2⟩:=qq
 exact hf v u s2 x y H2 I2 r1 r2 q2
theorem Eo{op:Operator}{r:R2}(ho:OpR X (binaryOp op) r)(ha:PE X a ta)(hb:PE X b tb):PE X (.BinOp a op b pos) (tOp r ta tb):=by
 intro pins s σ H Q I h
 exact wpAny_BinOp (binT ha hb I h λv u s2 x y H2 I2 rx ry q=>ho pins s2 σ H2 x y v u Q I2 rx ry q)
theorem pe_un{op:UnaryOp}{r:V->Hp->VK->Prop}(ho:UnR X (unaryOp op) r)(ha:PE X a ta):PE X (.UnaryOp op a pos) (tUn r ta):=by
 intro pins s σ H Q I h
 exact UnaryOp_ (thn (ha pins s σ H _ I h) λv s1 ⟨x,H1,I1,r1,q1⟩=>ho pins s1 σ H1 x v Q I1 r1 q1)
theorem opI{f:Value->Value->Sem Value}{C:Int->Int->Prop}{g:Int->Int->Int}
  (rule:∀(i j:Int)(t u:Tok)(s:Shared)(Q:Value->Shared->Prop)(E:Value->Shared->Prop),C i j->Q (.int (g i j) s.toks) { s with toks:=s.toks+1 }->wpAny (model X.prog X.w) X.A (f (.int i t) (.int j u)) Q E s) :
  OpR X f (rI C λi j=>.int (g i j)):=by
 intro pins s σ H x y v u Q I rx ry h
 obtain⟨i,j,rfl,rfl,hc,q⟩:=h
 obtain⟨t,rfl⟩:=rx
 obtain⟨t',rfl⟩:=ry
 exact rule i j t t' s _ _ hc ⟨.int (g i j),H,I.tok _,⟨_,rfl⟩,q⟩
theorem opI0{f:Value->Value->Sem Value}{g:Int->Int->Int}
  (rule:∀(i j:Int)(t u:Tok)(s:Shared)(Q:Value->Shared->Prop)(E:Value->Shared->Prop),Q (.int (g i j) s.toks) { s with toks:=s.toks+1 }->wpAny (model X.prog X.w) X.A (f (.int i t) (.int j u)) Q E s) :
  OpR X f (rI0 λi j=>.int (g i j)):=by
 intro pins s σ H x y v u Q I rx ry h
 obtain⟨i,j,rfl,rfl,q⟩:=h
 obtain⟨t,rfl⟩:=rx
 obtain⟨t',rfl⟩:=ry
 exact rule i j t t' s _ _ ⟨.int (g i j),H,I.tok _,⟨_,rfl⟩,q⟩
theorem opB0{f:Value->Value->Sem Value}{g:Int->Int->Bool}
  (rule:∀(i j:Int)(t u:Tok)(s:Shared)(Q:Value->Shared->Prop)(E:Value->Shared->Prop),Q (.bool (g i j)) s->wpAny (model X.prog X.w) X.A (f (.int i t) (.int j u)) Q E s) :
  OpR X f (rI0 λi j=>.bl (g i j)):=by
 intro pins s σ H x y v u Q I rx ry h
 obtain⟨i,j,rfl,rfl,q⟩:=h
 obtain⟨t,rfl⟩:=rx
 obtain⟨t',rfl⟩:=ry
 exact rule i j t t' s _ _ ⟨.bl (g i j),H,I,rfl,q⟩
def CDiv(i j:Int):Prop:=0<j/\j<1073741824
def qU(i j:Int):Prop:=(-(2 ^ 64)<i/\i<2 ^ 64)∨(-(2 ^ 64)<j/\j<2 ^ 64)
theorem qU.ok{i j:Int}(h:qU i j):IntMulOk i j:=by
 rcases h with⟨h1,h2⟩| ⟨h1,h2⟩
 .exact .of_left (intBits_le_64 h1 h2)
 .exact .of_right (intBits_le_64 h1 h2)
theorem op_add:OpR X (binaryOp .Add) (rI0 λi j=>.int (i+j)):=opI0 λ_ _ _ _ _ _ _ q=>add_int q
theorem op_sub:OpR X (binaryOp .Sub) (rI0 λi j=>.int (i - j)):=opI0 λ_ _ _ _ _ _ _ q=>sub_int q
theorem op_mul:OpR X (binaryOp .Mult) (rI qU λi j=>.int (i*j)):=opI λ_ _ _ _ _ _ _ hc q=>mul_int q hc.ok
theorem op_fdiv:OpR X (binaryOp .FloorDiv) (rI CDiv λi j=>.int (i / j)):=opI λi j _ _ _ _ _ hc q=>by
 have h1:(0:Int)<j:=hc.1
 have h2:j<1073741824:=hc.2
 exact floordiv_int (by omega) (by rw[Int.fdiv_eq_ediv_of_nonneg i (by omega)];exact q) (.inl (PyProof.noPylong_small (by omega)))
theorem op_mod:OpR X (binaryOp .Mod) (rI (λ_ j=>0<j) λi j=>.int (i % j)):=opI λi j _ _ _ _ _ hc q=>by
 have h1:(0:Int)<j:=hc
 exact mod_int' (by omega) (by rw[Int.fmod_eq_emod_of_nonneg i (by omega)];exact q)
theorem unI{f:Value->Sem Value}{g:Int->Int}
  (rule:∀(i:Int)(t:Tok)(s:Shared)(Q:Value->Shared->Prop)(E:Value->Shared->Prop),Q (.int (g i) s.toks) { s with toks:=s.toks+1 }->wpAny (model X.prog X.w) X.A (f (.int i t)) Q E s) :
  UnR X f (rU λi=>.int (g i)):=by
 intro pins s σ H x v Q I rx h
 obtain⟨i,rfl,q⟩:=h
 obtain⟨t,rfl⟩:=rx
 exact rule i t s _ _ ⟨.int (g i),H,I.tok _,⟨_,rfl⟩,q⟩
theorem un_neg:UnR X (unaryOp .USub) (rU λi=>.int (-i)):=unI λ_ _ _ _ _ q=>neg_int q
end
section
variable{X:Cx}{a b c:Expr}{ta tb tc:TE}{pos:Pos}
theorem Bj{pins:List (Addr×Obj)}{σ:St}{H:Hp}{s:Shared}{Q:VK}{k k':Bool}(I:Inv X pins σ H s)(q:Q (.bl k) H)(e:k=k'):EP X pins σ Q (.bool k') s:=by
 subst e
 exact⟨.bl k,H,I,rfl,q⟩
theorem op_lt:OpR X (compareOp .Lt) (rI0 λi j=>.bl (decide (i<j))):=opB0 λ_ _ _ _ _ _ _ q=>lt_int q
theorem op_le:OpR X (compareOp .LtE) (rI0 λi j=>.bl (decide (i<=j))):=opB0 λ_ _ _ _ _ _ _ q=>le_int q
theorem op_gt:OpR X (compareOp .Gt) (rI0 λi j=>.bl (decide (j<i))):=opB0 λ_ _ _ _ _ _ _ q=>gt_int q
theorem Qu:OpR X (compareOp .In) (λx y H Q=>∃i j,x=.str i/\y=.str j/\Q (.bl (!(Builtin.Str.occurrences j i 0 j.length 1).isEmpty)) H):=by
 intro pins s σ H x y v u Q I rx ry h
 obtain⟨i,j,rfl,rfl,q⟩:=h
 obtain⟨t,rfl⟩:=rx
 obtain⟨t',rfl⟩:=ry
 exact in_str (Bj I q rfl)
theorem op_isN:OpR X (compareOp .Is) (λx y H Q=>y=.non/\Q (.bl (decide (x=.non))) H):=by
 intro pins s σ H x y v u Q I rx ry h
 obtain⟨rfl,q⟩:=h
 cases ry
 refine is_none_gen (Bj I q ?_)
 cases x <;> first
  | (cases rx;rfl)
  | (obtain⟨t,rfl⟩:=rx;rfl)
theorem Ov:OpR X (compareOp .IsNot) (λx y H Q=>y=.non/\Q (.bl (!decide (x=.non))) H):=by
 intro pins s σ H x y v u Q I rx ry h
 obtain⟨rfl,q⟩:=h
 cases ry
 refine isnot_none_gen (Bj I q ?_)
 cases x <;> first
  | (cases rx;rfl)
  | (obtain⟨t,rfl⟩:=rx;rfl)
theorem OpR.or{f:Value->Value->Sem Value}{r r':R2}(h:OpR X f r)(h':OpR X f r'):OpR X f (λx y H Q=>r x y H Q∨r' x y H Q):=by
 intro pins s σ H x y v u Q I rx ry q
 rcases q with q | q
 .exact h pins s σ H x y v u Q I rx ry q
 .exact h' pins s σ H x y v u Q I rx ry q
theorem jJ(b:Expr){op:CmpOp}(h:op≠.In:=by decide)(h2:op≠.NotIn:=by decide):behindInMarks op b=false:=by
 have e1:(op==CmpOp.In)=false:=by cases op <;> first | rfl | exact absurd rfl h
 have e2:(op==CmpOp.NotIn)=false:=by cases op <;> first | rfl | exact absurd rfl h2
 cases b <;> simp[behindInMarks,e1,e2]
theorem ql{op:CmpOp}{r:R2}(ho:OpR X (compareOp op) r)(ha:PE X a ta)(hb:PE X b tb)(hm:behindInMarks op b=false):PE X (.Compare a [op] [b] pos) (tOp r ta tb):=by
 intro pins s σ H Q I h
 exact wpAny_Compare1 (binT ha hb I h λv u s2 x y H2 I2 rx ry q=>ho pins s2 σ H2 x y v u Q I2 rx ry q) hm
def tTest(t:TE):TT:=λσ H Q=>t σ H λx H'=>∃k,x=.bl k/\Q k H'
theorem uJ{op:CmpOp}{r:R2}(ho:OpR X (compareOp op) r)(ha:PE X a ta)(hb:PE X b tb)(hm:behindInMarks op b=false):PT X (.Compare a [op] [b] pos) (tTest (tOp r ta tb)):=by
 intro pins s σ H Q I h
 refine wpAny_isTrue_Compare1 (thn (ha pins s σ H _ I h) λv s1 ⟨x,H1,I1,r1,q1⟩=>thn (hb pins s1 σ H1 _ I1 q1) λu s2 ⟨y,H2,I2,r2,q2⟩ =>
  thn (ho pins s2 σ H2 x y v u _ I2 r1 r2 q2) λc s3 ⟨z,H3,I3,r3,k,e,q3⟩=>?_) hm
 subst e
 cases r3
 exact wpAny_truthy_bool ⟨H3,I3,q3⟩
def Cw(r r':R2)(ta tb tc:TE):TE:=λσ H Q=>ta σ H λx H1=>tb σ H1 λy H2=>r x y H2 λz H3=>∃k,z=.bl k /\
 (if k=true then tc σ H3 λw' H4=>r' y w' H4 Q else Q (.bl false) H3)
theorem pe_chain{op op':CmpOp}{r r':R2}(ho:OpR X (compareOp op) r)(ho':OpR X (compareOp op') r')(ha:PE X a ta)(hb:PE X b tb)(hc:PE X c tc)
  (hm:lastMarks [op,op'] [b,c]=false:=by with_unfolding_all rfl):PE X (.Compare a [op,op'] [b,c] pos) (Cw r r' ta tb tc):=by
 intro pins s σ H Q I h
 refine Compare_chain (thn (ha pins s σ H _ I h) λv s1 ⟨x,H1,I1,r1,q1⟩=>chain_link (thn (hb pins s1 σ H1 _ I1 q1) λu s2 ⟨y,H2,I2,r2,q2⟩ =>
  thn (ho pins s2 σ H2 x y v u _ I2 r1 r2 q2) λd s3 ⟨z,H3,I3,r3,k,e,q3⟩=>?_)) hm
 subst e
 cases r3
 refine wpAny_truthy_bool ?_
 cases k with
 | false=>exact ite_ff ⟨.bl false,H3,I3,rfl,q3⟩
 | true=>exact ite_tt (chain_last (thn (hc pins s3 σ H3 _ I3 q3) λw' s4 ⟨z',H4,I4,r4,q4⟩=>ho' pins s4 σ H4 y z' u w' Q I4 r2 r4 q4))
theorem Kp{op op':CmpOp}{r r':R2}(ho:OpR X (compareOp op) r)(ho':OpR X (compareOp op') r')(ha:PE X a ta)(hb:PE X b tb)(hc:PE X c tc)
  (hm:lastMarks [op,op'] [b,c]=false:=by with_unfolding_all rfl):PT X (.Compare a [op,op'] [b,c] pos) (tTest (Cw r r' ta tb tc)):=by
 intro pins s σ H Q I h
 refine isTrue_chain (thn (ha pins s σ H _ I h) λv s1 ⟨x,H1,I1,r1,q1⟩=>test_link (thn (hb pins s1 σ H1 _ I1 q1) λu s2 ⟨y,H2,I2,r2,q2⟩ =>
  thn (ho pins s2 σ H2 x y v u _ I2 r1 r2 q2) λd s3 ⟨z,H3,I3,r3,k,e,q3⟩=>?_)) hm
 subst e
 cases r3
 refine wpAny_truthy_bool ?_
 cases k with
 | false =>
  obtain⟨k',e',q'⟩:=q3
  cases e'
  exact ite_ff ⟨H3,I3,q'⟩
 | true =>
  refine ite_tt (test_last (thn (hc pins s3 σ H3 _ I3 q3) λw' s4 ⟨z',H4,I4,r4,q4⟩=>thn (ho' pins s4 σ H4 y z' u w' _ I4 r2 r4 q4) λd' s5 qq=>?_));obtain⟨z2,H5,I5,r5,k2,e2,q5⟩:=qq
  subst e2
  cases r5
  exact wpAny_truthy_bool ⟨H5,I5,q5⟩
def TruV(K:Frag)(x:V)(H:Hp)(k:Bool):Prop :=
 match x with
 | .non=>k=false
 | .bl b=>k=b
 | .int i=>k=(i != 0)
 | .str y=>y.length<=sizeLine/\k=((y.length:Int) != 0)
 | .byt y=>y.size<=sizeLine/\k=((y.size:Int) != 0)
 | .ref p=>(∃xs,SqL K H p xs/\k=!xs.isEmpty)∨(∃xs,SqT K H p xs/\k=!xs.isEmpty)∨∃kvs,H p=some (.dK kvs)/\k=!kvs.isEmpty
 | _=>False
theorem Ml{κ:Type}{kvs:List (κ×V)}{vs:List (κ×Value)}(r:KV kvs vs):(!vs.isEmpty)=!kvs.isEmpty:=by
 cases r <;> rfl
theorem Bp{xs:List V}{its:List Value}(r:Vals xs its):(!its.toArray.isEmpty)=!xs.isEmpty:=by
 cases r <;> simp
theorem vC:(sizeLine:Nat)<2 ^ 63:=by rw[sizeLine_eq];decide
theorem tru_ok:TruR X (λx H Q=>∃k,TruV X.K x H k/\Q k H):=by
 intro pins s σ H x v Q I rx h
 obtain⟨k,e,q⟩:=h
 have hl:=vC
 have hs:sizeLine=16777216:=sizeLine_eq
 cases x with
 | non =>
  cases rx
  have e':k=false:=e
  subst e'
  exact truthy_none ⟨H,I,q⟩
 | bl b =>
  cases rx
  have e':k=b:=e
  subst e'
  exact wpAny_truthy_bool ⟨H,I,q⟩
 | int i =>
  obtain⟨t,rfl⟩:=rx
  have e':k=(i != 0):=e
  subst e'
  exact PySem.P.truthy_int ⟨H,I,q⟩
 | str y =>
  obtain⟨t,rfl⟩:=rx
  obtain⟨hy,e'⟩:y.length<=sizeLine/\k=((y.length:Int) != 0):=e
  subst e'
  exact PySem.P.truthy_str (by omega) ⟨H,I.tok _,q⟩
 | byt y =>
  obtain⟨t,rfl⟩:=rx
  obtain⟨hy,e'⟩:y.size<=sizeLine/\k=((y.size:Int) != 0):=e
  subst e'
  exact PySem.W.truthy_bytes (by omega) ⟨H,I.tok _,q⟩
 | ref p =>
  cases rx
  have e':(∃xs,SqL X.K H p xs/\k=!xs.isEmpty)∨(∃xs,SqT X.K H p xs/\k=!xs.isEmpty)∨∃kvs,H p=some (.dK kvs)/\k=!kvs.isEmpty:=e
  rcases e' with⟨xs,hx,e'⟩| ⟨xs,hx,e'⟩| ⟨kvs,hx,e'⟩
  .subst e'
   obtain⟨its,r,pl,hz⟩:=I.list hx
   have hlen:=r.length
   exact wpAny_truthy_list pl.isList (by simp only[List.size_toArray];omega) ⟨H,I.tok _,by rw[Bp r];exact q⟩
  .subst e'
   obtain⟨its,r,pl,hz⟩:=I.tuple hx
   have hlen:=r.length
   exact truthy_tuple pl (by simp only[List.size_toArray];omega) ⟨H,I.tok _,by rw[Bp r];exact q⟩
  .subst e'
   obtain⟨hz,hS,vs,r,m⟩:kvs.length<=sizeLine/\(p==sysModules)=false/\∃vs,KV kvs vs/\s.heap.DictOf (bw X.prog X.w) p vs:=I.hok p _ hx
   have hlen:kvs.length=vs.length:=Paired.length r
   exact wpAny_truthy_dict hS m (by omega) ⟨H,I.tok _,by rw[Ml r];exact q⟩
 | _=>exact(show False from e).elim
theorem pt_truth(ha:PE X a ta)(he:∀whole,isTrue a X.env whole=(do let v ←whole;standAt a.pos;holding [v] (truthy v))):
  PT X a (λσ H Q=>ta σ H λx H'=>∃k,TruV X.K x H' k/\Q k H'):=by
 intro pins s σ H Q I h
 exact isTrue_plain (thn (ha pins s σ H _ I h) λv s1 ⟨x,H1,I1,r1,q1⟩=>tru_ok pins s1 σ H1 x v Q I1 r1 q1) (he _)
theorem M8:OpR X (binaryOp .Add) (λx y H Q=>∃i j,x=.str i/\y=.str j/\i.length+j.length<=sizeLine/\Q (.str (i++j)) H):=by
 intro pins s σ H x y v u Q I rx ry h
 obtain⟨i,j,rfl,rfl,hz,q⟩:=h
 obtain⟨t,rfl⟩:=rx
 obtain⟨t',rfl⟩:=ry
 exact add_str (λt' tk=>⟨.str (i++j),H,I.tok _,⟨_,rfl⟩,q⟩) hz
theorem vals1{x:V}{us:List Value}(r:Vals [x] us):∃u,us=[u]/\RelV x u:=by
 cases r with
 | cons r1 r2=>cases r2;exact⟨_,rfl,r1⟩
theorem vals2{x y:V}{us:List Value}(r:Vals [x,y] us):∃u w',us=[u,w']/\RelV x u/\RelV y w':=by
 cases r with
 | cons r1 r2 =>
  cases r2 with
  | cons r3 r4=>cases r4;exact⟨_,_,rfl,r1,r3⟩
theorem Pb(hc:X.calm=true):gH X (.builtin "min") (λxs H Q=>∃i j,xs=[.int i,.int j]/\Q (.int (if j<i then j else i)) H):=by
 intro pins s σ H xs us Q I r h
 obtain⟨i,j,rfl,q⟩:=h
 obtain⟨u,w',rfl,⟨t,rfl⟩,⟨t',rfl⟩⟩:=vals2 r
 refine min_two_ints (I.ok.hd hc) λh' tk k=>⟨_,H,I.kept k,?_,q⟩
 by_cases hj:j<i
 .rw[if_pos hj,if_pos hj];exact⟨_,rfl⟩
 .rw[if_neg hj,if_neg hj];exact⟨_,rfl⟩
theorem Pa:gH X (.type "int") (λxs H Q=>(∃i,xs=[.int i]/\Q (.int i) H)∨∃k,xs=[.bl k]/\Q (.int (if k then 1 else 0)) H):=by
 intro pins s σ H xs us Q I r h
 rcases h with⟨i,rfl,q⟩| ⟨k,rfl,q⟩
 .obtain⟨u,rfl,t,rfl⟩:=vals1 r
  exact call_int_int ⟨.int i,H,I,⟨_,rfl⟩,q⟩
 .obtain⟨u,rfl,r1⟩:=vals1 r
  cases r1
  exact call_int_bool ⟨.int (if k then 1 else 0),H,I.tok _,⟨_,rfl⟩,q⟩
end
end L2
namespace L2
open PySem PySem.Spec PyProof.Rows
structure ObjM(h:Heap)(x dx C:Addr)(mA:Str->Option Value):Prop where
 obj:h.get? x=some (PySem.W.instObj C dx)
 ns:h.Ns1 dx mA
 ne:dx≠x
theorem Qm{h:Heap}{dx:Addr}{mA:Str->Option Value}(n:h.Ns1 dx mA):∃od,h.get? dx=some od/\∀name,PySem.W.lookIn name od=some (mA name):=by
 obtain⟨o,es,ep,ho,hd,hk,_,hm⟩:=n
 refine⟨o,ho,λname=>?_⟩
 have e:=hm name
 unfold nsFind findBy at e
 rw[←Array.find?_toList] at e
 unfold PySem.W.lookIn
 rw[hd]
 dsimp only
 split
 .rename_i y q
  rw[q] at e
  exact congrArg some e
 .rename_i q
  rw[q] at e
  have a:es.toList.any (·.refKey)=false:=by
   rw[List.any_eq_false]
   intro y hy
   obtain⟨z,t,hkey⟩:=hk y (Array.mem_toList_iff.mp hy)
   simp[DictEntry.refKey,hkey]
  have a':¬es.toList.any (·.refKey)=true:=by rw[a];exact Bool.false_ne_true
  rw[if_neg a']
  exact congrArg some e
theorem ObjM.look{h:Heap}{x dx C:Addr}{mA:Str->Option Value}(I:ObjM h x dx C mA):∃od,PySem.W.InstAt h x (PySem.W.instObj C dx) C (some od)/\∀name,PySem.W.lookIn name od=some (mA name) :=
 let ⟨od,ho,hl⟩:=Qm I.ns
 ⟨od,⟨I.obj,rfl,rfl,ho⟩,hl⟩
section
variable{prog:Program}{w:World}{A:Around}{E:Value->Shared->Prop}{s:Shared}{K:Frag}{x dx C f:Addr}{mA:Str->Option Value}{name:Str}{v:Value}
theorem get_map{expr:Bool}{Q:Value->Shared->Prop}(X:K.In s.heap)(I:ObjM s.heap x dx C mA)(hg:PySem.W.plainGet K C name=true)(hh:PySem.W.hasDictIn K C=true)
  (ha:findIn K (.ref C) name=some none) (hv:mA name=some v) (hv':PySem.W.handedIn v=true) (h:Q v { s with toks:=s.toks+1 }) :
  wpAny (model prog w) A (getAttr (.ref x) name expr) Q E s:=by
 obtain⟨od,J,hl⟩:=I.look
 exact PySem.W.get_value X J (PySem.W.plainGet_of hg).1 (PySem.W.findObj_own hh ha rfl (by rw[hl,hv])) hv' h
theorem get_meth{pl:Sem Bool}{Q:Value×List Value->Shared->Prop}(X:K.In s.heap)(I:ObjM s.heap x dx C mA)(hg:PySem.W.plainGet K C name=true)
  (hf:findIn K (.ref C) name=some (some (.ref f))) (ht:PySem.W.isFn K (.ref f)=true) (hv:mA name=none) (h:Q (.ref f,[.ref x]) s) :
  wpAny (model prog w) A (getMethod (.ref x) name pl) Q E s:=by
 obtain⟨od,J,hl⟩:=I.look
 exact PySem.W.method_fn X J (PySem.W.plainGet_of hg).1 (PySem.W.plainGet_of hg).2 hf (beq_iff_eq.mp ht) (by show (PySem.W.lookIn name od).map (·.isSome)=some false;rw[hl,hv];rfl) h
theorem set_map{ns:List Str}{Q:Unit->Shared->Prop}(X:K.In s.heap)(I:ObjM s.heap x dx C mA)
  (hs:findIn K (.ref C) "__setattr__"=some (some (.builtin "object.__setattr__"))) (hp:PySem.W.plainOver K C=true) (ht:PySem.W.takerIn K C name=some none) (hh:PySem.W.hasDictIn K C=true)
  (hw:PySem.Within mA ns) (hsz:ns.length<=sizeLine)
  (h:∀h',ObjM h' x dx C (λy=>if y=name then some v else mA y)->Heap.SameBut dx s.heap h'->Q () { s with heap:=h',toks:=s.toks+2 }) :
  wpAny (model prog w) A (setAttr (.ref x) name v) Q E s:=by
 obtain⟨od,J,hl⟩:=I.look
 refine PySem.W.set_plain X J hs (PySem.W.osa_open (s:={ s with toks:=s.toks+1 }) (r:=none) X J hp ht λb=>?_)
 obtain⟨cd,hc,hd'⟩:=PySem.W.any_some hh
 have hx:s.heap.get? x=some ⟨.ref C,some dx,.plain,#[]⟩:=I.obj
 refine wpAny_bind (wpAny_pure (wpAny_bind (wpAny_bind (wpAny_loadPart hx (wpAny_bind (PySem.W.Looks.here (s:={ s with toks:=s.toks+1 }) (PySem.W.looks_clsIn X hc) ?_))))))
 rw[hd']
 refine wpAny_pure (a:=some dx) (wpAny_bind (wpAny_pure (wpAny_bind ?_)))
 refine wpAny_nsSet1 (s:={ s with toks:=s.toks+1 }) I.ns λh' hn2 hs2=>?_
 obtain⟨oD,esD,epD,hoD,hdD,hcD⟩:=hn2.count (PySem.Within.cons name v hw)
 refine wpAny_bind (wpAny_lookBehind hoD (by rw[hdD];exact pastItsLine_dict (Nat.le_trans hcD (by rw[List.length_cons];omega))) ?_)
 exact wpAny_pure (h _ ⟨(hs2.2 _ (Ne.symm I.ne)).trans I.obj,hn2,I.ne⟩ hs2)
theorem make_map{R:Result->Shared->Prop}{vs:List Value}{kw:List (Str×Value)}(X:K.In s.heap)(hm:PySem.W.makesIn K C=true)
  (hi:findIn K (.ref C) "__init__"=some (some (.ref f))) (hf:PySem.W.typeIn K (.ref f)=some (.type "function"))
  (h:codeAny (model prog w) (A.under (.builtin "type.__call__" ⟨.ref C::vs,kw⟩)) (.call (.ref f) ⟨.ref (s.heap.objs.size+1)::vs,kw⟩) (PySem.W.InitBack (s.heap.objs.size+1) R)
   { s with heap:=(s.heap.push PySem.W.emptyDict).push (PySem.W.instObj C s.heap.objs.size) }) :
  codeAny (model prog w) A (.call (.ref C) ⟨vs,kw⟩) R s:=by
 obtain⟨hh,g,d,t,os⟩:=s
 exact PySem.W.make_core (PySem.W.makes_of X hm) (PySem.W.looks_findIn X hi) (λself=>PySem.W.bind_fn X self hf) (.inl rfl) h
end
noncomputable def jL(f:Str)(v:V):List (Str×V)->List (Str×V)
 | []=>[(f,v)]
 | (g,x)::r=>if g=f then (g,v)::r else (g,x)::jL f v r
theorem yL(f g:Str)(v:V):∀fs:List (Str×V),(jL f v fs).lookup g=if g=f then some v else fs.lookup g
 | []=>by
  show List.lookup g [(f,v)]=_
  by_cases h:g=f
  .have hb:(g==f)=true:=beq_iff_eq.mpr h
   simp only[List.lookup,hb,if_pos h]
  .have hb:(g==f)=false:=beq_eq_false_iff_ne.mpr h
   simp only[List.lookup,hb,if_neg h]
 | (k,x)::r=>by
  have ih:=yL f g v r
  rw[show jL f v ((k,x)::r)=(if k=f then (k,v)::r else (k,x)::jL f v r) from rfl]
  by_cases hk:k=f
  .rw[if_pos hk]
   by_cases h:g=k
   .have hb:(g==k)=true:=beq_iff_eq.mpr h
    simp only[List.lookup,hb,if_pos (h.trans hk)]
   .have hb:(g==k)=false:=beq_eq_false_iff_ne.mpr h
    simp only[List.lookup,hb,if_neg (λe:g=f=>h (e.trans hk.symm))]
  .rw[if_neg hk]
   by_cases h:g=k
   .have hb:(g==k)=true:=beq_iff_eq.mpr h
    simp only[List.lookup,hb,if_neg (λe:g=f=>hk (h.symm.trans e))]
   .have hb:(g==k)=false:=beq_eq_false_iff_ne.mpr h
    simp only[List.lookup,hb]
    exact ih
theorem xT(f:Str)(v:V):∀fs:List (Str×V),f∈(jL f v fs).map (·.1)/\∀g,g∈fs.map (·.1)->g∈(jL f v fs).map (·.1)
 | []=>⟨by simp[jL],λg h=>by simp at h⟩
 | (k,x)::r=>by
  obtain⟨i1,i2⟩:=xT f v r
  rw[show jL f v ((k,x)::r)=(if k=f then (k,v)::r else (k,x)::jL f v r) from rfl]
  by_cases hk:k=f
  .rw[if_pos hk]
   subst hk
   exact⟨by simp,λg h=>by simpa using h⟩
  .rw[if_neg hk]
   refine⟨?_,λg h=>?_⟩
   .rw[List.map_cons]
    exact List.mem_cons_of_mem _ i1
   .rw[List.map_cons] at h ⊢
    rcases List.mem_cons.mp h with e | e
    .exact List.mem_cons.mpr (.inl e)
    .exact List.mem_cons_of_mem _ (i2 g e)
theorem yJ(f:Str)(v:V):∀fs:List (Str×V),(jL f v fs).length<=fs.length+1
 | []=>by simp[jL]
 | (k,x)::r=>by
  have ih:=yJ f v r
  rw[show jL f v ((k,x)::r)=(if k=f then (k,v)::r else (k,x)::jL f v r) from rfl]
  by_cases hk:k=f
  .rw[if_pos hk,List.length_cons,List.length_cons];omega
  .rw[if_neg hk,List.length_cons,List.length_cons];omega
theorem pG.some_of{v:V}{o:Option Value}(r:pG (some v) o):∃u,o=some u/\RelV v u:=by
 cases o with
 | none=>exact(show False from r).elim
 | some u=>exact⟨u,rfl,r⟩
theorem pG.none_of{o:Option Value}(r:pG none o):o=none:=by
 cases o with
 | none=>rfl
 | some u=>exact(show False from r).elim
theorem P0{v:V}{u:Value}(r:RelV v u):PySem.W.handedIn u=true:=by
 cases v with
 | non=>cases (show u=Value.none from r);rfl
 | bl b=>cases (show u=Value.bool b from r);rfl
 | int i=>obtain⟨t,e⟩:=(show ∃t,u=Value.int i t from r);cases e;rfl
 | str x=>obtain⟨t,e⟩:=(show ∃t,u=Value.str x t from r);cases e;rfl
 | byt b=>obtain⟨t,e⟩:=(show ∃t,u=Value.bytes b t from r);cases e;rfl
 | flt b=>obtain⟨t,e⟩:=(show ∃t,u=Value.float b t from r);cases e;rfl
 | ref a=>cases (show u=Value.ref a from r);rfl
 | ty n=>cases (show u=Value.type n from r);rfl
section
variable{P:Program}{w:World}{H H':Hp}{h h':Heap}{a C dx:Addr}{fs fs':List (Str×V)}
theorem zU(hok:HOk P w H h)(e:H a=some (.ins C dx fs)):∃mA,ObjM h a dx C mA/\(∀f,pG (fs.lookup f) (mA f))/\PySem.Within mA (fs.map (·.1))/\fs.length<=1000/\H dx=some (.own a):=by
 obtain⟨d,z,ne,ob,mA,n,r,q⟩:=(show cF P w H h a (.ins C dx fs) from hok a _ e)
 exact⟨mA,⟨ob,n,ne⟩,r,q,z,d⟩
end
structure Cls(K:Frag)(C:Addr):Prop where
 pg:PySem.W.plainGet K C Str.empty=true
 hd:PySem.W.hasDictIn K C=true
 po:PySem.W.plainOver K C=true
 sa:findIn K (.ref C) "__setattr__"=some (some (.builtin "object.__setattr__"))
theorem Cls.get{K:Frag}{C:Addr}(c:Cls K C)(f:Str):PySem.W.plainGet K C f=true:=c.pg
def bI(K:Frag)(C:Addr)(f:Str):Prop:=findIn K (.ref C) f=some none
theorem bI.taker{K:Frag}{C:Addr}{f:Str}(n:bI K C f):PySem.W.takerIn K C f=some none:=by
 unfold PySem.W.takerIn
 rw[show findIn K (.ref C) f=some none from n]
 rfl
structure Meth(K:Frag)(C:Addr)(m:Str)(f:Addr):Prop where
 at_:findIn K (.ref C) m=some (some (.ref f))
 fn:PySem.W.isFn K (.ref f)=true
 kp:keepIn K (.ref f)=true
section
variable{X:Cx}{pins:List (Addr×Obj)}{σ:St}{H:Hp}{s:Shared}{a C dx:Addr}{fs:List (Str×V)}{f:Str}{v:V}{A:Around}{E:Value->Shared->Prop}
theorem Mg{b:Bool}{Q:Value->Shared->Prop}(I:Inv X pins σ H s)(e:H a=some (.ins C dx fs))(c:Cls X.K C)(n:bI X.K C f)(l:fs.lookup f=some v)
  (h:∀u s',Inv X pins σ H s'->RelV v u->Q u s'):wpAny (model X.prog X.w) A (getAttr (.ref a) f b) Q E s:=by
 obtain⟨mA,O,r,_,_,_⟩:=zU I.hok e
 obtain⟨u,hu,ru⟩:=pG.some_of (v:=v) (o:=mA f) (by rw[←l];exact r f)
 exact get_map I.kIn O (c.get f) c.hd n hu (P0 ru) (h u _ (I.tok _) ru)
theorem Bm{m:Str}{g:Addr}{pl:Sem Bool}{Q:Value×List Value->Shared->Prop}(I:Inv X pins σ H s)(e:H a=some (.ins C dx fs))(c:Cls X.K C)(k:Meth X.K C m g)(l:fs.lookup m=none)
  (h:Q (.ref g,[.ref a]) s):wpAny (model X.prog X.w) A (getMethod (.ref a) m pl) Q E s:=by
 obtain⟨mA,O,r,_,_,_⟩:=zU I.hok e
 have hn:mA m=none:=pG.none_of (by rw[←l];exact r m)
 exact get_meth I.kIn O (c.get m) k.at_ k.fn hn h
theorem Nt{y:V}{u:Value}{Q:Unit->Shared->Prop}(I:Inv X pins σ H s)(e:H a=some (.ins C dx fs))(c:Cls X.K C)(n:bI X.K C f)(hl:fs.length<1000)(ry:RelV y u)
  (h:∀s',Inv X pins σ (upd H a (.ins C dx (jL f y fs))) s'->Q () s'):wpAny (model X.prog X.w) A (setAttr (.ref a) f u) Q E s:=by
 obtain⟨mA,O,r,wi,_,ho⟩:=zU I.hok e
 have hz:(fs.map (·.1)).length<=sizeLine:=by rw[List.length_map,sizeLine_eq];omega
 refine set_map I.kIn O c.sa c.po n.taker c.hd wi hz λh' O' sb=>h _ ?_
 have hd:∃o,h'.get? dx=some o:=let ⟨o,_,_,e',_⟩:=O'.ns;⟨o,e'⟩
 refine I.write (x:=a) (e:=dx) (by rw[e];exact True.intro) (.inr ho) (λb q hb z=>(sb.2 b hb).trans z) hd ?_
 refine⟨by rw[aF O.ne];exact ho,?_,O.ne,O'.obj,_,O'.ns,λg=>?_,λg hg=>?_⟩
 .have:=yJ f y fs;omega
 .show pG ((jL f y fs).lookup g) (if g=f then some u else mA g)
  rw[yL]
  by_cases q:g=f
  .rw[if_pos q,if_pos q];exact ry
  .rw[if_neg q,if_neg q];exact r g
 .by_cases q:g=f
  .rw[q];exact(xT f y fs).1
  .refine(xT f y fs).2 g (wi g λz=>hg ?_)
   show (if g=f then some u else mA g)=none
   rw[if_neg q];exact z
theorem Inv.made(I:Inv X pins σ H s):Inv X pins σ (upd (upd H s.heap.objs.size (.own (s.heap.objs.size+1))) (s.heap.objs.size+1) (.ins C s.heap.objs.size []))
  { s with heap:=(s.heap.push PySem.W.emptyDict).push (PySem.W.instObj C s.heap.objs.size) }:=by
 have e1:(s.heap.push PySem.W.emptyDict).get? s.heap.objs.size=some PySem.W.emptyDict:=Heap.get?_push_size s.heap rfl
 have e2:((s.heap.push PySem.W.emptyDict).push (PySem.W.instObj C s.heap.objs.size)).get? (s.heap.objs.size+1)=some (PySem.W.instObj C s.heap.objs.size):=by
  have:=Heap.get?_push_size (s.heap.push PySem.W.emptyDict) (o:=PySem.W.instObj C s.heap.objs.size) rfl
  rwa [Heap.size_push] at this
 have e3:(s.heap.push PySem.W.emptyDict).Ns s.heap.objs.size (λ_=>none):=⟨PySem.W.emptyDict,#[],_,e1,rfl,(λe he=>absurd he (by simp)),λ_=>rfl⟩
 have I1:=I.laid (a:=s.heap.objs.size) (o:=.own (s.heap.objs.size+1)) (h':=s.heap.push PySem.W.emptyDict) (t':=s.toks) (λb u q=>Heap.get?_push_of_some _ q) (Nat.le_refl _) ⟨_,e1⟩
 refine I1.laid (a:=s.heap.objs.size+1) (o:=.ins C s.heap.objs.size []) (t':=s.toks) (λb u q=>Heap.get?_push_of_some _ q) (Nat.le_of_eq (Heap.size_push _ _)) ?_
 have ne:s.heap.objs.size≠s.heap.objs.size+1:=Nat.ne_of_lt (Nat.lt_succ_self _)
 refine⟨by rw[aF ne,aG],Nat.zero_le _,ne,e2,λ_=>none,(Heap.Ns1.of_empty e3).at λo q=>Heap.get?_push_of_some _ q,λ_=>True.intro,λy hy=>absurd rfl hy⟩
theorem attr_of{prog:Program}{w:World}{env:Env}{e:Expr}{f:Str}{pos:Pos}{s:Shared}{Q:Value->Shared->Prop}(hb:attributeBase e f env (eval e env)=eval e env)
  (h:wpAny (model prog w) A (eval e env) (λo s₁=>wpAny (model prog w) A (getAttr o f true) Q E s₁) E s):wpAny (model prog w) A (eval (.Attribute e f pos) env) Q E s :=
 Attribute_any_ h (by rw[arm_eval_Attribute,hb])
end
def tFld(K:Frag)(ta:TE)(f:Str):TE:=λσ H Q=>ta σ H λx H1=>∃a C dx fs v,x=.ref a/\H1 a=some (.ins C dx fs)/\Cls K C/\bI K C f/\fs.lookup f=some v/\Q v H1
def sFld(K:Frag)(ta tv:TE)(f:Str):TS:=λD σ H=>tv σ H λy H1=>ta σ H1 λx H2=>∃a C dx fs,x=.ref a/\H2 a=some (.ins C dx fs)/\Cls K C/\bI K C f/\fs.length<1000 /\
 D.nx σ (upd H2 a (.ins C dx (jL f y fs)))
section
variable{X:Cx}{o e value:Expr}{f:Str}{pos pos' tpos:Pos}{ta tv:TE}
theorem pe_fld(he:PE X e ta)(hb:attributeBase e f X.env (eval e X.env)=eval e X.env):PE X (.Attribute e f pos) (tFld X.K ta f):=by
 intro pins s σ H Q I h
 refine attr_of hb (thn (he pins s σ H _ I h) λu s1 qq=>?_);obtain⟨x,H1,I1,rx,a,C,dx,fs,v,ex,ea,c,n,l,q⟩:=qq
 subst ex
 obtain rfl:u=Value.ref a:=rx
 exact Mg I1 ea c n l λu' s2 I2 ru=>⟨v,H1,I2,ru,q⟩
theorem Nh(ha:PE X o ta)(hv:PE X value tv)(hs:swapsWith value (some (.Attribute o f pos')) pos.line X.env=pure false):PS X (.Assign [.Attribute o f pos'] value pos) (sFld X.K ta tv f):=by
 intro pins s σ H D I h
 refine plainObj_wpAny_Assign_Attribute (thn (hv pins s σ H _ I h) λu s1 ⟨y,H1,I1,ry,q⟩=>thn (ha pins s1 σ H1 _ I1 q) λov s2 ⟨x,H2,I2,rx,a,C,dx,fs,ex,ea,c,n,l,q2⟩=>?_) hs
 subst ex
 obtain rfl:ov=Value.ref a:=rx
 exact Nt I2 ea c n l ry λs3 I3=>⟨σ,_,I3,q2⟩
end
section
variable{X:Cx}{pins:List (Addr×Obj)}{σ:St}{H:Hp}{s:Shared}{A:Around}{E:Value->Shared->Prop}{Q:Value->Shared->Prop}{c:Value}{b:Bool}
inductive xJ (K:Frag) (H:Hp):V->Value->Prop where
 | non:xJ K H .non (.type "NoneType")
 | bl (x:Bool):xJ K H (.bl x) (.type "bool")
 | int (i:Int):xJ K H (.int i) (.type "int")
 | str (x:Str):xJ K H (.str x) (.type "str")
 | flt (x:UInt64):xJ K H (.flt x) (.type "float")
 | lst {a:Addr} {xs:List V} (e:H a=some (.lst xs)):xJ K H (.ref a) (.type "list")
 | frz {a:Addr} {o:Obj} {xs:List V} (e:H a=some (.frz o (.lst xs))):xJ K H (.ref a) (.type "list")
 | tup {a:Addr} {xs:List V} (e:H a=some (.tup xs)):xJ K H (.ref a) (.type "tuple")
 | dK {a:Addr} {kvs:List (Key×V)} (e:H a=some (.dK kvs)):xJ K H (.ref a) (.type "dict")
 | dT {a:Addr} {kvs:List (List Key×V)} (e:H a=some (.dT kvs)):xJ K H (.ref a) (.type "dict")
 | ins {a C dx:Addr} {fs:List (Str×V)} (e:H a=some (.ins C dx fs)) (cl:Cls K C) (ha:findIn K (.ref C) "__class__"=some (some (.builtin "object.__class__")))
   (hn:PySem.W.specialIn K (.builtin "object.__class__") "__get__"=some (some (.builtin "getset_descriptor.__get__"))) (htk:PySem.W.takesIn K (.builtin "object.__class__")=some true)
   (hm:PySem.W.mroIn K C (.type "object")=some true):xJ K H (.ref a) (.ref C)
theorem Qg{x:V}{u t:Value}(I:Inv X pins σ H s)(rx:RelV x u)(ty:xJ X.K H x t)(e:PySem.W.kitOne X.K t c=some b)(h:∀tk,Q (.bool b) { s with toks:=tk }):
  wpAny (model X.prog X.w) A (call (.builtin "isinstance") [u,c]) Q E s:=by
 cases ty with
 | non=>cases (show u=Value.none from rx);exact PySem.W.kia_one PySem.W.kitx_none I.kIn True.intro e (λz=>nomatch z) h
 | bl y=>cases (show u=Value.bool y from rx);exact PySem.W.kia_one PySem.W.kitx_bool I.kIn True.intro e (λz=>nomatch z) h
 | int i=>obtain⟨t,q⟩:=(show ∃t,u=Value.int i t from rx);cases q;exact PySem.W.kia_one PySem.W.kitx_int I.kIn True.intro e (λz=>nomatch z) h
 | str y=>obtain⟨t,q⟩:=(show ∃t,u=Value.str y t from rx);cases q;exact PySem.W.kia_one PySem.W.kitx_str I.kIn True.intro e (λz=>nomatch z) h
 | flt y=>obtain⟨t,q⟩:=(show ∃t,u=Value.float y t from rx);cases q;exact PySem.W.kia_one PySem.W.kitx_float I.kIn True.intro e (λz=>nomatch z) h
 | @lst a xs ea =>
  cases (show u=Value.ref a from rx)
  obtain⟨_,_,n,_,h1⟩:=(show cF X.prog X.w H s.heap a (.lst xs) from I.hok a _ ea)
  exact PySem.W.kia_one PySem.W.kitx_list I.kIn ⟨_,h1,rfl⟩ e (λz=>nomatch z) h
 | @frz a ob xs ea =>
  cases (show u=Value.ref a from rx)
  obtain⟨_,_,_,n,_,h1⟩:=(show cF X.prog X.w H s.heap a (.frz ob (.lst xs)) from I.hok a _ ea)
  exact PySem.W.kia_one PySem.W.kitx_list I.kIn ⟨_,h1,rfl⟩ e (λz=>nomatch z) h
 | @tup a xs ea =>
  cases (show u=Value.ref a from rx)
  obtain⟨_,_,_,p⟩:=(show cF X.prog X.w H s.heap a (.tup xs) from I.hok a _ ea)
  obtain⟨o,h1,h2,_⟩:=p
  exact PySem.W.kia_one PySem.W.kitx_tuple I.kIn ⟨o,h1,h2⟩ e (λz=>nomatch z) h
 | @dK a kvs ea =>
  cases (show u=Value.ref a from rx)
  obtain⟨_,_,vs,_,p⟩:=(show cF X.prog X.w H s.heap a (.dK kvs) from I.hok a _ ea)
  obtain⟨o,es,ep,h1,h2,_⟩:=p
  exact PySem.W.kia_one PySem.W.kitx_dict I.kIn ⟨o,h1,h2.1⟩ e (λz=>nomatch z) h
 | @dT a kvs ea =>
  cases (show u=Value.ref a from rx)
  obtain⟨_,_,xs,_,o,es,ep,h1,h2,_⟩:=(show cF X.prog X.w H s.heap a (.dT kvs) from I.hok a _ ea)
  exact PySem.W.kia_one PySem.W.kitx_dict I.kIn ⟨o,h1,h2.1⟩ e (λz=>nomatch z) h
 | @ins a C dx fs ea cl ha hn htk hm =>
  cases (show u=Value.ref a from rx)
  obtain⟨mA,O,_⟩:=zU I.hok ea
  obtain⟨od,J,_⟩:=O.look
  exact PySem.W.kia_one (PySem.W.kitx_own (cl.get _) cl.hd ha hn htk hm) I.kIn J e (λz=>nomatch z) h
end
end L2
namespace L2
open PySem PySem.Spec PyProof.Rows
structure dz(k:Nat)(A:Around):Prop where
 hd:A.handled=none
 dp:A.depth+3*k+5<recursionLimit
 un:A.units+16*k+200<cLine
theorem dz.mono{j k:Nat}{A:Around}(r:dz k A)(h:j<=k):dz j A:=⟨r.hd,by have:=r.dp;omega,by have:=r.un;omega⟩
theorem dz.deeper{k:Nat}{A:Around}(r:dz (k+1) A)(env:Env):dz k (A.deeper env) :=
 ⟨r.hd,by have:=r.dp;show A.depth+1+3*k+5<_;omega,by have:=r.un;show A.units+3+16*k+200<_;omega⟩
theorem Mw{A:Around}{C:Addr}{us:List Value}{kw:List (Str×Value)}:(A.under (.builtin "type.__call__" ⟨.ref C::us,kw⟩)).depth=A.depth+1:=by
 first | rfl | simp[Around.under,Code.weight,Code.isCreation,Code.isGuard,Code.isCaller,Code.frames,Code.isFrame,guardIds]
theorem My{A:Around}{C:Addr}{us:List Value}{kw:List (Str×Value)}:(A.under (.builtin "type.__call__" ⟨.ref C::us,kw⟩)).units=A.units+1:=by
 first | rfl | simp[Around.under,Code.cUnits,Code.frames,Code.isFrame]
theorem dz.make{k:Nat}{A:Around}(r:dz (k+1) A)(C:Addr)(us:List Value)(kw:List (Str×Value)):dz k (A.under (.builtin "type.__call__" ⟨.ref C::us,kw⟩)) :=
 ⟨r.hd,by have:=r.dp;rw[Mw];omega,by have:=r.un;rw[My];omega⟩
theorem dz.depth{k:Nat}{A:Around}(r:dz k A):A.depth<recursionLimit:=by have:=r.dp;omega
theorem dz.units{k:Nat}{A:Around}(r:dz k A):A.units+64<cLine:=by have:=r.un;omega
def qJ:TA:=λ_ H Q=>Q [] H
def jE(ta:TE)(tr:TA):TA:=λσ H Q=>ta σ H λx H1=>tr σ H1 λxs H2=>Q (x::xs) H2
section
variable{X:Cx}{e:Expr}{es:List Expr}{te:TE}{t:TA}{pos:Pos}
theorem dw:PA X [] qJ:=λ_ _ _ _ H Q I h=>Calls.spliced_nil ⟨[],H,I,.nil,h⟩
theorem bD(ha:PE X e te)(hr:PA X es t)(hs:starEach (e::es) X.env=(false,eval e X.env)::starEach es X.env:=by rfl):PA X (e::es) (jE te t):=by
 intro pos pins s σ H Q I h
 rw[hs]
 show wpAny _ _ (spliced ((false,eval e X.env)::backTo pos (starEach es X.env))) _ _ s
 refine Calls.spliced_cons (thn (ha pins s σ H _ I h) λu s1 qq=>?_);obtain⟨x,H1,I1,r1,q1⟩:=qq
 exact thn (hr pos pins s1 σ H1 _ I1 q1) λus s2 ⟨xs,H2,I2,r2,q2⟩=>⟨x::xs,H2,I2,.cons r1 r2,q2⟩
def tTup(t:TA):TE:=λσ H Q=>t σ H λxs H1=>xs.length<=sizeLine/\∀p,H1 p=none->Q (.ref p) (upd H1 p (.tup xs))
def tLst(t:TA):TE:=λσ H Q=>t σ H λxs H1=>xs.length<=sizeLine/\∀p,H1 p=none->Q (.ref p) (upd H1 p (.lst xs))
theorem pe_tup{x1}(h:PA X es t):PE X (.Tuple es x1 pos) (tTup t):=by
 intro pins s σ H Q I hq
 refine wpAny_Tuple_spliced (thn (h pos pins s σ H _ I hq) λus s1 ⟨xs,H1,I1,r,z,q⟩=>⟨by rw[←r.length];exact z,?_⟩)
 have hf:H1 s1.heap.objs.size=none:=I1.hok.fresh (Nat.le_refl _)
 refine⟨.ref s1.heap.objs.size,upd H1 s1.heap.objs.size (.tup xs),I1.laid (t':=s1.toks) (λb u e=>Heap.get?_push_of_some _ e) (Nat.le_refl _) ?_,rfl,q _ hf⟩
 exact⟨z,us,r,⟨_,Heap.get?_push_size _ rfl,rfl,_,rfl⟩⟩
theorem pe_lst(h:PA X es t):PE X (.List es pos) (tLst t):=by
 intro pins s σ H Q I hq
 refine wpAny_List_spliced (thn (h pos pins s σ H _ I hq) λus s1 ⟨xs,H1,I1,r,z,q⟩=>⟨by rw[←r.length];exact z,?_⟩)
 have hf:H1 s1.heap.objs.size=none:=I1.hok.fresh (Nat.le_refl _)
 refine⟨.ref s1.heap.objs.size,upd H1 s1.heap.objs.size (.lst xs),I1.laid (t':=s1.toks) (λb u e=>Heap.get?_push_of_some _ e) (Nat.le_refl _) ?_,rfl,q _ hf⟩
 exact⟨z,us,0,r,Heap.get?_push_size _ rfl⟩
end
abbrev Sp:=List V->Hp->VK->XK->Prop
abbrev CXT:=List Env->Hp->Shared->XK->Value->Shared->Prop
structure Env0(P:Program)(w:World)(K:Frag)(mg:Str->Option Value)(base:Heap)(A:Around)(outer:List Env)(s:Shared)(H:Hp):Prop where
 frames:A.frames=some outer
 mod:Mod K mg base
 bs:∀b o,base.get? b=some o->s.heap.get? b=some o/\H b=none
 bsz:base.objs.size<=s.heap.objs.size
 zc:s.heap.FunFrames base outer
 frf:∀b∈frs outer,H b=none
 hok:HOk P w H s.heap
 bare:AllBare s.gens
def CE(outer:List Env)(P:Program)(w:World)(H:Hp)(s:Shared)(Q:VK)(u:Value)(s':Shared):Prop :=
 ∃v H',s'.os=s.os/\AllBare s'.gens/\Un (frs outer) [] H H' s.heap s'.heap/\HOk P w H' s'.heap/\RelV v u/\Q v H'
def CR(CX:CXT)(outer:List Env)(P:Program)(w:World)(H:Hp)(s:Shared)(Q:VK)(E:XK)(r:Result)(s':Shared):Prop :=
 match r with
 | .ok (.ret u)=>CE outer P w H s Q u s'
 | .ok _=>False
 | .error e=>CX outer H s E e s'
structure cJ(P:Program)(w:World)(K:Frag)(mg:Str->Option Value)(base:Heap)(CX:CXT)(k:Nat)(f:Addr)(fd:FuncData)(ps:List Str)(sp:Sp):Prop where
 len:∀vs H Q E,sp vs H Q E->vs.length=ps.length
 run:∀(A:Around)(outer:List Env)(s:Shared)(H:Hp)(args:Args)(us:List Value)(vs:List V)(Q:VK)(E:XK),dz k A->Env0 P w K mg base A outer s H->BindsTo s fd args (ps.zip us)->Vals vs us->sp vs H Q E ->
  codeAny (model P w) A (.call (.ref f) args) (CR CX outer P w H s Q E) s
theorem cJ.mono{P:Program}{w:World}{K:Frag}{mg:Str->Option Value}{base:Heap}{CX:CXT}{j k:Nat}{f:Addr}{fd:FuncData}{ps:List Str}{sp:Sp}(F:cJ P w K mg base CX j f fd ps sp)(h:j<=k):
  cJ P w K mg base CX k f fd ps sp:=⟨F.len,λA outer s H args us vs Q E hr=>F.run A outer s H args us vs Q E (hr.mono h)⟩
theorem cJ.imp{P:Program}{w:World}{K:Frag}{mg:Str->Option Value}{base:Heap}{CX:CXT}{k:Nat}{f:Addr}{fd:FuncData}{ps:List Str}{sp sp':Sp}(F:cJ P w K mg base CX k f fd ps sp)
  (h:∀vs H Q E,sp' vs H Q E->sp vs H Q E):cJ P w K mg base CX k f fd ps sp' :=
 ⟨λvs H Q E q=>F.len vs H Q E (h _ _ _ _ q),λA outer s H args us vs Q E hr he hb hv hs=>F.run A outer s H args us vs Q E hr he hb hv (h _ _ _ _ hs)⟩
theorem Env0.make{P:Program}{w:World}{K:Frag}{mg:Str->Option Value}{base:Heap}{A:Around}{outer:List Env}{s:Shared}{H:Hp}(e:Env0 P w K mg base A outer s H)(C:Addr)(us:List Value)(kw:List (Str×Value)):
  Env0 P w K mg base (A.under (.builtin "type.__call__" ⟨.ref C::us,kw⟩)) outer s H:=⟨by first | exact e.frames | (simpa[Around.under,Code.envs,Code.isFrame,pushEnvs] using e.frames),e.mod,e.bs,e.bsz,e.zc,e.frf,e.hok,e.bare⟩
section
variable{X:Cx}{pins:List (Addr×Obj)}{σ:St}{H:Hp}{s s':Shared}
theorem Inv.env0(I:Inv X pins σ H s):Env0 X.prog X.w X.K X.mg X.base X.A X.stack s H :=
 ⟨I.ok.frames,I.ok.mod,I.bs,Nat.le_trans I.ok.bsz I.sz,I.stack,I.O3,I.hok,I.bare⟩
theorem Inv.after{Q:VK}{u:Value}(I:Inv X pins σ H s)(h:CE X.stack X.prog X.w H s Q u s'):EP X pins σ Q u s':=by
 obtain⟨v,H',os,bare,un,hok,r,q⟩:=h
 obtain⟨hh,g,d,t,os'⟩:=s'
 obtain rfl:os'=s.os:=os
 exact⟨v,H',I.call (h':=hh) (g':=g) (d':=d) (t':=t) (ch:=[]) un hok bare (λb z=>absurd z (by simp)),r,q⟩
end
def Cv(sp:Sp)(dvs:List V)(E:XK)(t:TA):TE:=λσ H Q=>t σ H λvs H1=>sp (vs++dvs) H1 Q E
def tMeth(C:Addr)(m:Str)(sp:Sp)(dvs:List V)(E:XK)(ta:TE)(t:TA):TE:=λσ H Q=>ta σ H λx H1=>∃a dx fs,x=.ref a/\H1 a=some (.ins C dx fs)/\fs.lookup m=none /\
 t σ H1 λvs H2=>sp (x::(vs++dvs)) H2 Q E
def tMake(C:Addr)(sp:Sp)(dvs:List V)(E:XK)(t:TA):TE:=λσ H Q=>t σ H λvs H1=>∀x dx,H1 x=none->H1 dx=none->dx≠x ->
 sp (.ref x::(vs++dvs)) (upd (upd H1 dx (.own x)) x (.ins C dx [])) (λv H2=>v=.non/\Q (.ref x) H2) E
def Binds(K:Frag)(fd:FuncData)(ps:List Str)(ds:List Value):Prop :=
 ∀(s:Shared)(us:List Value),K.In s.heap->(us++ds).length=ps.length->BindsTo s fd ⟨us,[]⟩ (ps.zip (us++ds))
theorem Binds.all{K:Frag}{fd:FuncData}{ps:List Str}(h:∀us:List Value,us.length=ps.length->bindArgs fd ⟨us,[]⟩=pure (ps.zip us)):Binds K fd ps []:=λs us _ hl=>by
 rw[List.append_nil] at hl ⊢
 exact .of_eq (h us hl)
def nM(CX:CXT)(X:Cx)(E:XK):Prop:=∀(pins:List (Addr×Obj))(σ:St)(H:Hp)(s:Shared)(e:Value)(s':Shared),Inv X pins σ H s->CX X.stack H s E e s'->X.xe e s'
section
variable{X:Cx}{CX:CXT}{k:Nat}{f C:Addr}{fd:FuncData}{ps:List Str}{sp:Sp}{dvs:List V}{ds:List Value}{E:XK}{x m:Str}{p pos apos:Pos}{e o:Expr}{es:List Expr}{ta:TE}{t:TA}
theorem HN{pins:List (Addr×Obj)}{σ:St}{H:Hp}{s:Shared}{Q:VK}{us:List Value}{vs:List V}(F:cJ X.prog X.w X.K X.mg X.base CX k f fd ps sp)(hr:dz k X.A)(hb:Binds X.K fd ps ds)(hd:Vals dvs ds)(hx:nM CX X E)
  (I:Inv X pins σ H s) (r:Vals vs us) (h:sp (vs++dvs) H Q E):wpAny (model X.prog X.w) X.A (call (.ref f) us) (EP X pins σ Q) X.xe s:=by
 have r2:Vals (vs++dvs) (us++ds):=r.append hd
 have hl:(us++ds).length=ps.length:=by rw[←r2.length];exact F.len _ _ _ _ h
 refine wpAny_call (codeAny_mono (F.run X.A X.stack s H ⟨us,[]⟩ (us++ds) (vs++dvs) Q E hr I.env0 (hb s us I.kIn hl) r2 h) λr s' hq=>?_)
 cases r with
 | error e=>exact hx pins σ H s e s' I hq
 | ok fl =>
  cases fl with
  | ret u=>exact I.after hq
  | next=>exact False.elim hq
  | brk=>exact False.elim hq
  | cont=>exact False.elim hq
theorem uI(F:cJ X.prog X.w X.K X.mg X.base CX k f fd ps sp)(hr:dz k X.A)(hg:Gl X x)(hm:X.mg x=some (.ref f))(hk:keepIn X.K (.ref f)=true)(hb:Binds X.K fd ps ds)(hd:Vals dvs ds)(hx:nM CX X E)
  (ha:PA X (e::es) t) (hdb:(x==("__debug__":Str))=false:=by decide) (he:starEach (e::es) X.env=(false,eval e X.env)::starEach es X.env:=by rfl) (hpl:(backTo pos (starEach es X.env)).any (·.1)=false:=by rfl) :
  PE X (.Call (.Name x p) (e::es) [] pos) (Cv sp dvs E t):=by
 intro pins s σ H Q I h
 refine wpAny_Call_Name_kw (wC I hg hm ?_ hdb)
 refine PySem.W.callWith_K (h₀:=X.base) I.ok.mod.kin hk (thn (ha pos pins s σ H _ I h) λus s1 ⟨vs,H1,I1,r,q⟩=>⟨I1.kIn,?_⟩) he hpl
 exact HN F hr hb hd hx I1 r q
theorem pe_meth0{pl:Sem Bool}(he:PE X o ta)(c:Cls X.K C)(hm:Meth X.K C m f)(F:cJ X.prog X.w X.K X.mg X.base CX k f fd ps sp)(hr:dz k X.A)(hb:Binds X.K fd ps ds)(hd:Vals dvs ds)(hx:nM CX X E)
  (ht:eval (.Call (.Attribute o m apos) [] [] pos) X.env=(do
   let ov ←eval o X.env
   standAt apos.atName
   let (f,first) ←holding [ov] (getMethod ov m pl)
   callWith pos f first (backTo pos (starEach [] X.env)) (backToKw pos (keywordEach [] X.env))):=by rfl) :
  PE X (.Call (.Attribute o m apos) [] [] pos) (tMeth C m sp dvs E ta qJ):=by
 intro pins s σ H Q I h
 refine PySem.W.methodCall_KW (pl:=pl) (thn (he pins s σ H _ I h) λu s1 ⟨x,H1,I1,rx,a,dx,fs,ex,ea,l,q⟩=>?_) ht
 subst ex
 obtain rfl:u=Value.ref a:=rx
 refine Bm I1 ea c hm l ?_
 exact PySem.W.callWith_K0 (first:=[.ref a]) I1.kIn hm.kp (HN (us:=[.ref a]) (vs:=[.ref a]) F hr hb hd hx I1 (.cons rfl .nil) q)
structure Mk(K:Frag)(C f:Addr):Prop where
 makes:PySem.W.makesIn K C=true
 init:findIn K (.ref C) "__init__"=some (some (.ref f))
 fn:PySem.W.isFn K (.ref f)=true
 kp:keepIn K (.ref C)=true
theorem Ks{pins:List (Addr×Obj)}{σ:St}{H:Hp}{s:Shared}{Q:VK}{us:List Value}{vs:List V}(M:Mk X.K C f)(F:cJ X.prog X.w X.K X.mg X.base CX k f fd ps sp)(hr:dz (k+1) X.A)(hb:Binds X.K fd ps ds)(hd:Vals dvs ds)
  (hx:nM CX X E) (I:Inv X pins σ H s) (r:Vals vs us)
  (h:∀x dx,H x=none->H dx=none->dx≠x->sp (.ref x::(vs++dvs)) (upd (upd H dx (.own x)) x (.ins C dx [])) (λv H2=>v=.non/\Q (.ref x) H2) E) :
  wpAny (model X.prog X.w) X.A (call (.ref C) us) (EP X pins σ Q) X.xe s:=by
 have hq:=h (s.heap.objs.size+1) s.heap.objs.size (I.hok.fresh (Nat.le_succ _)) (I.hok.fresh (Nat.le_refl _)) (Nat.ne_of_lt (Nat.lt_succ_self _))
 have I2:=Inv.made (C:=C) I
 have r2:Vals (V.ref (s.heap.objs.size+1)::(vs++dvs)) (Value.ref (s.heap.objs.size+1)::(us++ds)):=.cons rfl (r.append hd)
 have hl:(Value.ref (s.heap.objs.size+1)::us++ds).length=ps.length:=by
  have e:=r2.length
  rw[F.len _ _ _ _ hq] at e
  exact e.symm
 refine wpAny_call (make_map (f:=f) I.kIn M.makes M.init (beq_iff_eq.mp M.fn) (codeAny_mono (F.run _ X.stack _ _ ⟨Value.ref (s.heap.objs.size+1)::us,[]⟩ (Value.ref (s.heap.objs.size+1)::(us++ds)) _ _ E (hr.make C us [])
  (I2.env0.make C us []) (hb _ (Value.ref (s.heap.objs.size+1)::us) I2.kIn hl) r2 hq) λr s' hq'=>?_))
 cases r with
 | error e=>exact hx pins σ _ _ e s' I2 hq'
 | ok fl =>
  cases fl with
  | ret u =>
   obtain⟨v,H',I3,rv,ev,q3⟩:=I2.after hq'
   subst ev
   exact⟨rv,⟨V.ref (s.heap.objs.size+1),H',I3,rfl,q3⟩⟩
  | next=>exact False.elim hq'
  | brk=>exact False.elim hq'
  | cont=>exact False.elim hq'
theorem pe_make(M:Mk X.K C f)(F:cJ X.prog X.w X.K X.mg X.base CX k f fd ps sp)(hr:dz (k+1) X.A)(hg:Gl X x)(hm:X.mg x=some (.ref C))(hb:Binds X.K fd ps ds)(hd:Vals dvs ds)(hx:nM CX X E)
  (ha:PA X (e::es) t) (hdb:(x==("__debug__":Str))=false:=by decide) (he:starEach (e::es) X.env=(false,eval e X.env)::starEach es X.env:=by rfl) (hpl:(backTo pos (starEach es X.env)).any (·.1)=false:=by rfl) :
  PE X (.Call (.Name x p) (e::es) [] pos) (tMake C sp dvs E t):=by
 intro pins s σ H Q I h
 refine wpAny_Call_Name_kw (wC I hg hm ?_ hdb)
 refine PySem.W.callWith_K (h₀:=X.base) I.ok.mod.kin M.kp (thn (ha pos pins s σ H _ I h) λus s1 ⟨vs,H1,I1,r,q⟩=>⟨I1.kIn,?_⟩) he hpl
 exact Ks M F hr hb hd hx I1 r q
theorem pe_make0(M:Mk X.K C f)(F:cJ X.prog X.w X.K X.mg X.base CX k f fd ps sp)(hr:dz (k+1) X.A)(hg:Gl X x)(hm:X.mg x=some (.ref C))(hb:Binds X.K fd ps ds)(hd:Vals dvs ds)(hx:nM CX X E)
  (hdb:(x==("__debug__":Str))=false:=by decide):PE X (.Call (.Name x p) [] [] pos) (tMake C sp dvs E qJ):=by
 intro pins s σ H Q I h
 refine wpAny_Call_Name_kw (wC I hg hm ?_ hdb)
 exact PySem.W.callWith_K0 I.kIn M.kp (Ks (us:=[]) M F hr hb hd hx I .nil h)
end
section
variable{X:Cx}{CX:CXT}{k:Nat}{f C:Addr}{fd:FuncData}{ps ks:List Str}{sp:Sp}{E:XK}{x m:Str}{p pos apos kpos:Pos}{e o:Expr}{es:List Expr}{kws:List Keyword}{te ta:TE}{t tk:TA}{nm:Option Str}
variable{g:List Value->List Value->List Value}{gV:List V->List V->List V}
end
structure aN(N P:List Str)(sc:Scope):Prop where
 kind:sc.kind=.function
 co:sc.isCoroutine=false
 gen:sc.isGenerator=false
 nd:N.Nodup
 pre:N.take P.length=P
 par:∀x∈P,sc.names.lookup x=some .local∨sc.names.lookup x=some .cell
 MT:∀y∈sc.names,y.2≠.free
theorem Ea{kindOf:Str->Option NameKind}{x:Str}:∀{binds:List (Str×Value)}{m:Str->Option Value},(∀v,(x,v)∉binds)->bindL kindOf binds m x=m x
 | [],_,_=>rfl
 | (n,v)::r,m,h=>by
  unfold bindL
  rw[Ea λw hw=>h w (List.mem_cons_of_mem _ hw)]
  split
  .have:x≠n:=by rintro rfl;exact h v List.mem_cons_self
   simp[this]
  .rfl
theorem DX{kindOf:Str->Option NameKind}{x:Str}:∀{binds:List (Str×Value)}{m:Str->Option Value},(∀v,(x,v)∉binds)->bindC kindOf binds m x=m x
 | [],_,_=>rfl
 | (n,v)::r,m,h=>by
  unfold bindC
  rw[DX λw hw=>h w (List.mem_cons_of_mem _ hw)]
  split
  .rfl
  .have:x≠n:=by rintro rfl;exact h v List.mem_cons_self
   simp[this]
theorem DY{kindOf:Str->Option NameKind}{x:Str}{v:Value}:∀{P:List Str}{vs:List Value}{i:Nat}{m:Str->Option Value},P.Nodup->P[i]?=some x->vs[i]?=some v->kindOf x=some .local ->
  bindL kindOf (P.zip vs) m x=some v
 | [],_,_,_,_,h,_,_=>by simp at h
 | _::_,[],_,_,_,_,h,_=>by simp at h
 | p::P,w::vs,0,m,nd,h1,h2,hk=>by
  simp at h1 h2;subst h1;subst h2
  show bindL kindOf ((p,w)::P.zip vs) m p=_
  unfold bindL
  rw[Ea λv hv=>(List.nodup_cons.mp nd).1 (List.of_mem_zip hv).1,if_pos hk]
  simp
 | p::P,w::vs,i+1,m,nd,h1,h2,hk=>by
  show bindL kindOf ((p,w)::P.zip vs) m x=_
  unfold bindL
  exact DY (i:=i) (List.nodup_cons.mp nd).2 (by simpa using h1) (by simpa using h2) hk
theorem DR{kindOf:Str->Option NameKind}{x:Str}{v:Value}:∀{P:List Str}{vs:List Value}{i:Nat}{m:Str->Option Value},P.Nodup->P[i]?=some x->vs[i]?=some v->kindOf x≠some .local ->
  bindC kindOf (P.zip vs) m x=some v
 | [],_,_,_,_,h,_,_=>by simp at h
 | _::_,[],_,_,_,_,h,_=>by simp at h
 | p::P,w::vs,0,m,nd,h1,h2,hk=>by
  simp at h1 h2;subst h1;subst h2
  show bindC kindOf ((p,w)::P.zip vs) m p=_
  unfold bindC
  rw[DX λv hv=>(List.nodup_cons.mp nd).1 (List.of_mem_zip hv).1,if_neg hk]
  simp
 | p::P,w::vs,i+1,m,nd,h1,h2,hk=>by
  show bindC kindOf ((p,w)::P.zip vs) m x=_
  unfold bindC
  exact DR (i:=i) (List.nodup_cons.mp nd).2 (by simpa using h1) (by simpa using h2) hk
noncomputable def start(N:List Str)(vs:List V):St:=vs.map some++List.replicate (N.length - vs.length) none
def cxOf(CX:CXT)(P:Program)(w:World)(K:Frag)(mg:Str->Option Value)(base:Heap)(N:List Str)(qual:Str)(scope:Scope)(f:Addr)(cd:Value)(A:Around)(outer:List Env)(s:Shared)(H:Hp)(E:XK):Cx where
 prog:=P
 w:=w
 K:=K
 mg:=mg
 base:=base
 A:=A.deeper (envOfC qual scope s.heap.objs.size f cd)
 N:=N
 s₀:=s
 H₀:=H
 env:=envOfC qual scope s.heap.objs.size f cd
 outer:=outer
 stack:=envOfC qual scope s.heap.objs.size f cd::outer
 ex:=[]
 calm:=true
 fn:=λ_=>true
 pn:=[]
 xe:=λe s'=>wpAny (model P w) (A.deeper (envOfC qual scope s.heap.objs.size f cd)) (leaving (envOfC qual scope s.heap.objs.size f cd) e) (λ_ s''=>CX outer H s E e s'') (λe' s''=>CX outer H s E e' s'') s'
theorem Jt{sc:Scope}{n:Nat}{x:Str}(h:sc.names.lookup x=some .cell):∃c,(cellsFrom n sc.names []).lookup x=some c:=by
 have q:=PySem.W.cellsFrom_some sc.names n [] (.inl h)
 exact Option.isSome_iff_exists.mp q
theorem Qe{CX:CXT}{P:Program}{w:World}{K:Frag}{mg:Str->Option Value}{base:Heap}{N ps:List Str}{qual:Str}{scope:Scope}{f:Addr}{cd:Value}{A:Around}{outer:List Env}{s s1:Shared}{H:Hp}{E:XK}{us:List Value}{vs:List V}
  (S:aN N ps scope) (hd:A.handled=none) (e0:Env0 P w K mg base A outer s H) (hl:vs.length=ps.length) (r:Vals vs us)
  (x:InCallC s s.heap.objs.size (bindL (envOfC qual scope s.heap.objs.size f cd).kindOf (ps.zip us) λ_=>none) (cellsFrom (s.heap.objs.size+1) scope.names []) (bindC (envOfC qual scope s.heap.objs.size f cd).kindOf (ps.zip us) λ_=>none) s1) :
  Inv (cxOf CX P w K mg base N qual scope f cd A outer s H E) [] (start N vs) H s1:=by
 have hpl:ps.length<=N.length:=by have:=congrArg List.length S.pre;rw[List.length_take] at this;omega
 obtain⟨h1,tk,rfl,hk⟩:=x.done
 have noA:∀b:Addr,b∉(cxOf CX P w K mg base N qual scope f cd A outer s H E).ex:=λb z=>absurd (show b∈([]:List Addr) from z) (by simp)
 refine⟨⟨e0.mod,S.kind,rfl,rfl,Nat.le_refl _,λy z c h1 h2=>?_,λy hy=>?_,λy c _ h=>?_,λ_=>hd,Around.frames_deeper e0.frames,.inr ⟨rfl,rfl⟩,λb z=>absurd z (noA b),e0.bs,e0.bsz,λb _ _=>noA b,λb z=>absurd z (noA b),e0.zc,e0.frf⟩,
  rfl,e0.bare,Un.kept hk,⟨_,x.toInCall.ns,λi y v h1 h2 h3=>?_⟩,λy c h=>⟨_,x.cell y c h⟩,e0.hok.fresh (Nat.le_refl _),λy c h=>?_,λp hp=>absurd (show p∈([]:List (Addr×Obj)) from hp) (by simp),e0.hok.kept hk,?_⟩
 .exact name_of_addr x.apart (PySem.mem_of_lookup h1) (PySem.mem_of_lookup h2)
 .have hy:scope.names.lookup y=some .cell∨scope.names.lookup y=some .free:=hy
  rcases hy with hy | hy
  .exact Jt hy
  .exact absurd rfl (S.MT _ (PySem.mem_of_lookup hy))
 .exact Nat.le_of_lt (x.above y c (PySem.mem_of_lookup h))
 .have hi:i<vs.length:=by
   unfold start at h2
   by_cases hi:i<vs.length
   .exact hi
   .rw[List.getElem?_append_right (by simpa using hi)] at h2
    rw[List.getElem?_replicate] at h2
    split at h2 <;> cases h2
  have ha:vs[i]?=some v:=by
   unfold start at h2
   rw[List.getElem?_append_left (by simpa using hi),List.getElem?_map] at h2
   cases e:vs[i]? with
   | none=>rw[e] at h2;cases h2
   | some a=>rw[e] at h2;cases h2;rfl
  obtain⟨u,hu,rv⟩:=r.get ha
  have hp:ps[i]?=some y:=by
   rw[←S.pre,List.getElem?_take_of_lt (by omega)];exact h1
  have ndP:ps.Nodup:=by rw[←S.pre];exact S.nd.sublist (List.take_sublist _ _)
  refine⟨u,rv,?_⟩
  rcases S.par y (List.mem_of_getElem? hp) with k | k
  .exact .inl ⟨k,DY ndP hp hu k⟩
  .obtain⟨c,e⟩:=Jt (n:=s.heap.objs.size+1) k
   refine .inr ⟨.inl k,c,e,?_⟩
   have q:=x.cell y c e
   rw[DR ndP hp hu (by show scope.names.lookup y≠_;rw[k];decide)] at q
   exact q
 .exact e0.hok.fresh (Nat.le_of_lt (x.above y c (PySem.mem_of_lookup h)))
 .unfold start
  show _=N.length
  rw[List.length_append,List.length_map,List.length_replicate]
  omega
theorem fn_of{CX:CXT}{P:Program}{w:World}{K:Frag}{mg:Str->Option Value}{base:Heap}{k:Nat}{f:Addr}{name qual:Str}{params:Arguments}{body:List Stmt}{scope:Scope}{dV kV doc pm cdv ct oc:Value}{an od:Option Addr}
  {osl:Array (Option Value)} {N ps:List Str} {sp:Sp} (lk:K.lookup f=some ⟨oc,od,.func (PySem.W.fnOf name qual params body scope dV kV doc pm an cdv ct),osl⟩) (hcd:PySem.W.codeIn K cdv qual=true) (S:aN N ps scope)
  (len:∀vs H Q E,sp vs H Q E->vs.length=ps.length)
  (hbody:∀(A:Around)(outer:List Env)(s:Shared)(H:Hp)(vs:List V)(Q:VK)(E:XK),dz k (A.deeper (envOfC qual scope s.heap.objs.size f cdv))->sp vs H Q E ->
   ∃t,PSs (cxOf CX P w K mg base N qual scope f cdv A outer s H E) body t/\t { nx:=λ_ H'=>Q .non H',rt:=Q } (start N vs) H) :
  cJ P w K mg base CX (k+1) f (PySem.W.fnOf name qual params body scope dV kV doc pm an cdv ct) ps sp:=by
 refine⟨len,λA outer s H args us vs Q E hr e0 hb r hsp=>?_⟩
 have hl:=len _ _ _ _ hsp
 have KX:K.In s.heap:=e0.mod.kin.keeps λb o e=>(e0.bs b o e).1
 have lim:s.heap.NoLimit:=e0.mod.nolimit.keeps λb o e=>(e0.bs b o e).1
 have hkind:∀y∈ps.zip us,scope.names.lookup y.1=some .local∨(scope.names.lookup y.1=some .cell/\((cellsFrom (s.heap.objs.size+1) scope.names []).lookup y.1).isSome=true):=λqq hy=>by
  obtain⟨n,v⟩:=qq;rcases S.par n (List.of_mem_zip hy).1 with q | q
  .exact .inl q
  .exact .inr ⟨q,PySem.W.cellsFrom_some _ _ _ (.inl q)⟩
 refine codeAny_call_function hr.depth (KX _ _ lk) rfl S.co S.gen rfl (PySem.W.codeRec_of KX hcd) (hb _ _ _ _ ?_)
 refine wpAny_newFunctionEnv_cells S.kind hkind λenv he s1 x=>?_
 subst he
 refine⟨lim.keeps x.toInCall.keep,codeAny_func ?_⟩
 obtain⟨t,ht,hq⟩:=hbody A outer s H vs Q E (hr.deeper _) hsp
 have I:Inv (cxOf CX P w K mg base N qual scope f cdv A outer s H E) [] (start N vs) H s1:=Qe S hr.hd e0 hl r x
 refine wpAny_mono (ht [] s1 (start N vs) H _ I hq) (λfl s' hs=>?_) λe s' hs=>hs
 have fin:∀{σ':St}{H':Hp}{v:V}{u:Value},Inv (cxOf CX P w K mg base N qual scope f cdv A outer s H E) [] σ' H' s'->RelV v u->Q v H'->CE outer P w H s Q u s' :=
  fun{σ' H' v u} J rv q=>⟨v,H',J.os,J.bare,J.base,J.hok,rv,q⟩
 cases fl with
 | ret u =>
  obtain⟨v,σ',H',J,rv,q⟩:=hs
  exact fin J rv q
 | next =>
  obtain⟨σ',H',J,q⟩:=hs
  exact fin (v:=V.non) (u:=Value.none) J rfl q
 | brk =>
  obtain⟨_,_,_,q⟩:=hs
  exact False.elim q
 | cont =>
  obtain⟨_,_,_,q⟩:=hs
  exact False.elim q
end L2
namespace L2
open PySem PySem.Spec PyProof.Rows
section
variable{X:Cx}{x:Str}{p pos:Pos}{e:Expr}{es:List Expr}{t:TA}{id T:String}{r:List V->Hp->VK->Prop}
def tCB(r:List V->Hp->VK->Prop)(t:TA):TE:=λσ H Q=>t σ H λvs H1=>r vs H1 Q
theorem lU(hc:gH X (.builtin id) r)(hg:Gl X x)(hm:X.mg x=none)(hv:bootBuiltins x=some (.builtin id))(ha:PA X (e::es) t)(hn:x≠"__name__":=by decide)(hdb:(x==("__debug__":Str))=false:=by decide)
  (he:starEach (e::es) X.env=(false,eval e X.env)::starEach es X.env:=by rfl) (hpl:(backTo pos (starEach es X.env)).any (·.1)=false:=by rfl):PE X (.Call (.Name x p) (e::es) [] pos) (tCB r t):=by
 intro pins s σ H Q I h
 refine wpAny_Call_Name_kw (xU I hg hm hv ?_ hn hdb)
 exact PyProof.Rows.callWith_builtin1 (thn (ha pos pins s σ H _ I h) λus s1 ⟨vs,H1,I1,r1,q1⟩=>hc pins s1 σ H1 vs us Q I1 r1 q1) he hpl
theorem oJ(hc:gH X (.type T) r)(hg:Gl X x)(hm:X.mg x=none)(hv:bootBuiltins x=some (.type T))(ha:PA X (e::es) t)(hn:x≠"__name__":=by decide)(hdb:(x==("__debug__":Str))=false:=by decide)
  (he:starEach (e::es) X.env=(false,eval e X.env)::starEach es X.env:=by rfl) (hpl:(backTo pos (starEach es X.env)).any (·.1)=false:=by rfl):PE X (.Call (.Name x p) (e::es) [] pos) (tCB r t):=by
 intro pins s σ H Q I h
 refine wpAny_Call_Name_kw (xU I hg hm hv ?_ hn hdb)
 exact PyProof.Rows.callWith_type1 (thn (ha pos pins s σ H _ I h) λus s1 ⟨vs,H1,I1,r1,q1⟩=>hc pins s1 σ H1 vs us Q I1 r1 q1) he hpl
end
end L2
namespace HT
open PySem PyProof.Rows
section
open PySem.SeqAt
open PySem.AutoSeq1 (wpAny_loadPart')
open PySem.MeetsSeq PySem.MeetsSeq2 PySem.MeetsSeq3
end
section
variable{prog:Program}{w:World}{A:Around}{E:Value->Shared->Prop}{s:Shared}
noncomputable def sIx(n d:Nat):Option Int->Nat
 | none=>d
 | some v=>if v<0 then (v+(n:Int)).toNat else min v.toNat n
theorem O2(n d k:Nat):sIx n d (some (k:Int))=min k n:=by
 show (if (k:Int)<0 then ((k:Int)+(n:Int)).toNat else min (k:Int).toNat n)=min k n
 rw[if_neg (by omega),Int.toNat_natCast]
end
end HT
namespace L2
open PySem PySem.Spec PyProof.Rows
abbrev TO:=St->Hp->(Option Int->Hp->Prop)->Prop
def PO(X:Cx)(e:Option Expr)(t:TO):Prop :=
 ∀(pins:List (Addr×Obj))(s:Shared)(σ:St)(H:Hp)(Q:Option Int->Hp->Prop),Inv X pins σ H s->t σ H Q ->
  wpAny (model X.prog X.w) X.A (evalPart e X.env) (λu s'=>∃o H',Inv X pins σ H' s'/\IsPart u o/\Q o H') X.xe s
def tPart(t:TE):TO:=λσ H Q=>t σ H λx H1=>∃i,x=.int i/\Q (some i) H1
section
variable{X:Cx}{e:Expr}{te:TE}{lo hi:Option Expr}{tl th:TO}{pos p2:Pos}
theorem po_some(h:PE X e te):PO X (some e) (tPart te):=by
 intro pins s σ H Q I hw
 rw[evalPart_some]
 refine thn (h pins s σ H _ I hw) λu s1 qq=>?_;obtain⟨x,H1,I1,r1,q1⟩:=qq
 obtain⟨i,rfl,q⟩:=q1
 obtain⟨t,rfl⟩:=r1
 exact⟨some i,H1,I1,.int i t,q⟩
def SlR(X:Cx)(r:V->Option Int->Option Int->Hp->VK->Prop):Prop :=
 ∀(pins:List (Addr×Obj))(s:Shared)(σ:St)(H:Hp)(x:V)(v vl vu:Value)(lo hi:Option Int)(sl:Addr)(Q:VK),Inv X pins σ H s->RelV x v->s.heap.IsSliceOf sl vl vu .none->IsPart vl lo->IsPart vu hi->r x lo hi H Q ->
  ∃T id,typeLookup (.type T) "__getitem__"=pure (some (.builtin id))/\s.TypeIs v T/\wpAny (model X.prog X.w) X.A (getItem v (.ref sl)) (EP X pins σ Q) X.xe s
theorem SlR.or{r r':V->Option Int->Option Int->Hp->VK->Prop}(h:SlR X r)(h':SlR X r'):SlR X (λx lo hi H Q=>r x lo hi H Q∨r' x lo hi H Q):=by
 intro pins s σ H x v vl vu lo hi sl Q I rx hs pl pu q
 rcases q with q | q
 .exact h pins s σ H x v vl vu lo hi sl Q I rx hs pl pu q
 .exact h' pins s σ H x v vl vu lo hi sl Q I rx hs pl pu q
def tSl(r:V->Option Int->Option Int->Hp->VK->Prop)(te:TE)(tl th:TO):TE:=λσ H Q=>te σ H λx H1=>tl σ H1 λl H2=>th σ H2 λu H3=>r x l u H3 Q
theorem pe_slice{r:V->Option Int->Option Int->Hp->VK->Prop}(hr:SlR X r)(he:PE X e te)(hl:PO X lo tl)(hu:PO X hi th):PE X (.Subscript e (.Slice lo hi none p2) pos) (tSl r te tl th):=by
 intro pins s σ H Q I h
 refine Subscript_ (thn (he pins s σ H _ I h) λv s1 qq=>?_);obtain⟨x,H1,I1,r1,q1⟩:=qq
 refine wpAny_Slice (thn (hl pins s1 σ H1 _ I1 q1) λvl s2 ⟨l,H2,I2,pl,q2⟩=>thn (hu pins s2 σ H2 _ I2 q2) λvu s3 qq=>?_);obtain⟨u,H3,I3,pu,q3⟩:=qq
 rw[evalPart_none]
 refine wpAny_pure ?_
 have I4:Inv X pins σ H3 { s3 with heap:=s3.heap.push { cls:=.type "slice",data:=.fields #[vl,vu,.none] } }:=I3.kept (t':=s3.toks) λb ob q=>Heap.get?_push_of_some _ q
 obtain⟨T,id,hT,ht,hg⟩:=hr pins { s3 with heap:=s3.heap.push { cls:=.type "slice",data:=.fields #[vl,vu,.none] } } σ H3 x v vl vu l u s3.heap.objs.size Q I4 r1 (Heap.IsSliceOf.new ..) pl pu q3
 show wpAny (model X.prog X.w) X.A (subscriptTail e (.Slice lo hi none p2) v (.ref s3.heap.objs.size)) (EP X pins σ Q) X.xe { s3 with heap:=s3.heap.push { cls:=.type "slice",data:=.fields #[vl,vu,.none] } }
 exact tail_any (ops:=[.ref s3.heap.objs.size,v]) ht hT hg (by with_unfolding_all rfl)
noncomputable def cutV(xs:List V)(lo hi:Option Int):List V:=(xs.drop (HT.sIx xs.length 0 lo)).take (HT.sIx xs.length xs.length hi - HT.sIx xs.length 0 lo)
theorem Jx(xs:List V)(lo hi:Option Int):(cutV xs lo hi).length<=xs.length:=by
 unfold cutV
 rw[List.length_take,List.length_drop]
 omega
end
end L2
namespace L2
open PySem PySem.Spec PyProof.Rows
noncomputable def ixN(n:Nat)(i:Int):Option Nat:=if 0<=i then (if i<n then some i.toNat else none) else if -(n:Int)<=i then some (i+n).toNat else none
noncomputable def atI{α:Type}(xs:List α)(i:Int):Option α:=(ixN xs.length i).bind λj=>xs[j]?
theorem GF{n:Nat}{i:Int}{j:Nat}(h:ixN n i=some j):seqIndex? i n=some j/\j<n/\-(n:Int)<=i/\i<n:=by
 unfold ixN at h
 by_cases h0:0<=i
 .rw[if_pos h0] at h
  by_cases h1:i<n
  .rw[if_pos h1] at h
   have e:i.toNat=j:=Option.some.inj h
   exact⟨by rw[seqIndex_of h0 h1,e],by omega,by omega,h1⟩
  .rw[if_neg h1] at h;cases h
 .rw[if_neg h0] at h
  by_cases h1:-(n:Int)<=i
  .rw[if_pos h1] at h
   have e:(i+n).toNat=j:=Option.some.inj h
   exact⟨by rw[seqIndex_neg (by omega) h1,e],by omega,h1,by omega⟩
  .rw[if_neg h1] at h;cases h
theorem Fi{α:Type}{xs:List α}{i:Int}{v:α}(h:atI xs i=some v):∃j,seqIndex? i xs.length=some j/\xs[j]?=some v/\j<xs.length/\-(xs.length:Int)<=i/\i<xs.length:=by
 unfold atI at h
 cases e:ixN xs.length i with
 | none=>rw[e] at h;cases h
 | some j =>
  rw[e] at h
  obtain⟨h1,h2,h3,h4⟩:=GF e
  exact⟨j,h1,h,h2,h3,h4⟩
theorem pK{α:Type}{xs:List α}{j:Nat}{v:α}(h:xs[j]?=some v):atI xs (j:Int)=some v:=by
 have hj:j<xs.length:=(List.getElem?_eq_some_iff.mp h).1
 have e:ixN xs.length (j:Int)=some j:=by
  unfold ixN
  rw[if_pos (by omega),if_pos (by omega)];simp
 unfold atI;rw[e];exact h
def vU(b:Expr):Prop:=∀o i,subscripted b false o i=operate [o,i] (getItem o i)
def IxR(X:Cx)(r:R2):Prop :=
 ∀(value slice:Expr)(pins:List (Addr×Obj))(s:Shared)(σ:St)(H:Hp)(x y:V)(v u:Value)(Q:VK),Inv X pins σ H s->RelV x v->RelV y u->r x y H Q ->
  subscripted slice false v u=operate [v,u] (getItem v u)->wpAny (model X.prog X.w) X.A (subscriptTail value slice v u) (EP X pins σ Q) X.xe s
def MtR(X:Cx)(id:String)(r:V->List V->Hp->VK->Prop):Prop :=
 ∀(pins:List (Addr×Obj))(s:Shared)(σ:St)(H:Hp)(x:V)(xs:List V)(v:Value)(us:List Value)(Q:VK),Inv X pins σ H s->RelV x v->Vals xs us->r x xs H Q ->
  wpAny (model X.prog X.w) X.A (call (.builtin id) (v::us)) (EP X pins σ Q) X.xe s
section
variable{X:Cx}{a b:Expr}{ta tb:TE}{pos:Pos}
theorem IxR.or{r r':R2}(h:IxR X r)(h':IxR X r'):IxR X (λx y H Q=>r x y H Q∨r' x y H Q):=by
 intro value slice pins s σ H x y v u Q I rx ry q hs
 rcases q with q | q
 .exact h value slice pins s σ H x y v u Q I rx ry q hs
 .exact h' value slice pins s σ H x y v u Q I rx ry q hs
theorem pe_ix{r:R2}(hr:IxR X r)(ha:PE X a ta)(hb:PE X b tb)(hs:vU b):PE X (.Subscript a b pos) (tOp r ta tb):=by
 intro pins s σ H Q I h
 exact Subscript_ (binT ha hb I h λv u s2 x y H2 I2 rx ry q=>hr a b pins s2 σ H2 x y v u Q I2 rx ry q (hs _ _))
def rIxL(K:Frag):R2:=λx y H Q=>∃p xs i v,x=.ref p/\y=.int i/\SqL K H p xs/\atI xs i=some v/\Q v H
def rIxT(K:Frag):R2:=λx y H Q=>∃p xs i v,x=.ref p/\y=.int i/\SqT K H p xs/\atI xs i=some v/\Q v H
def rIxS:R2:=λx y H Q=>∃z i c,x=.str z/\y=.int i/\z.length<=sizeLine/\atI z.cps.toList i=some c/\Q (.str ⟨#[c]⟩) H
theorem GJ:IxR X (rIxL X.K):=by
 intro value slice pins s σ H x y v u Q I rx ry h hs
 obtain⟨p,xs,i,z,rfl,rfl,hq,he,q⟩:=h
 cases rx
 obtain⟨t,rfl⟩:=ry
 obtain⟨its,r,pl,hz⟩:=I.list hq
 obtain⟨j,h1,h2,h3,h4,h5⟩:=Fi he
 obtain⟨w,ew,rw'⟩:=r.get h2
 have hl:=r.length
 have hn:=vC
 have fin:EP X pins σ Q w s:=⟨z,H,I,rw',q⟩
 by_cases h0:0<=i
 .have hj:i.toNat=j:=by
   rw[seqIndex_of h0 h5] at h1
   exact Option.some.inj h1
  exact item_listR pl.isList h0 (by omega) (by rw[hj];simpa using ew) fin hs
 .have hj:(i+(its.toArray.size:Int)).toNat=j:=by
   rw[seqIndex_neg (by omega) h4] at h1
   rw[List.size_toArray,←hl]
   exact Option.some.inj h1
  exact subscriptTail_builtinR (x:=w) pl.isList.typeIs slot_list_getitem.lookup
   (wpAny_getItem_list_neg (Q:=λr s'=>r=w/\EP X pins σ Q r s') pl.isList (by omega) (by rw[List.size_toArray] <;> omega) (by omega) (by rw[hj];simpa using ew) ⟨rfl,fin⟩) hs
theorem ix_tup:IxR X (rIxT X.K):=by
 intro value slice pins s σ H x y v u Q I rx ry h hs
 obtain⟨p,xs,i,z,rfl,rfl,hq,he,q⟩:=h
 cases rx
 obtain⟨t,rfl⟩:=ry
 obtain⟨its,r,pl,hz⟩:=I.tuple hq
 obtain⟨j,h1,h2,h3,h4,h5⟩:=Fi he
 obtain⟨w,ew,rw'⟩:=r.get h2
 have hl:=r.length
 have hn:=vC
 have fin:EP X pins σ Q w s:=⟨z,H,I,rw',q⟩
 exact subscriptTail_builtinR (x:=w) pl.typeIs slot_tuple_getitem.lookup
  (getItem_tuple (j:=j) (Q:=λr s'=>r=w/\EP X pins σ Q r s') pl (by omega) (by omega) (by rw[List.size_toArray,←hl];exact h1) (by simpa using ew) ⟨rfl,fin⟩) hs
theorem ix_str:IxR X rIxS:=by
 intro value slice pins s σ H x y v u Q I rx ry h hs
 obtain⟨z,i,c,rfl,rfl,hz,he,q⟩:=h
 obtain⟨t,rfl⟩:=rx
 obtain⟨t',rfl⟩:=ry
 obtain⟨j,h1,h2,h3,h4,h5⟩:=Fi he
 have hl:z.cps.toList.length=z.length:=by simp[Str.length]
 rw[hl] at h1 h4 h5
 have hn:=vC
 exact tail_any (typeIs_str s z t) slot_str_getitem.lookup (getItem_str (c:=c) (by
  have e1:decide (i < -(2 ^ 63:Int))=false:=decide_eq_false (by omega)
  have e2:decide (i≥2 ^ 63)=false:=decide_eq_false (by omega)
  rw[e1,e2,Bool.or_false]) (by rw[h1];simpa using h2) ⟨.str ⟨#[c]⟩,H,I.tok _,⟨_,rfl⟩,q⟩) hs
def rIx(K:Frag):R2:=λx y H Q=>rIxL K x y H Q∨rIxT K x y H Q∨rIxS x y H Q
theorem ix_seq:IxR X (rIx X.K):=GJ.or (ix_tup.or ix_str)
theorem Mz(its:List Value)(n j:Nat)(u:Value):Obj.mapSeq (·.setIfInBounds j u) { cls:=.type "list",data:=.seq its.toArray n }={ cls:=.type "list",data:=.seq (its.set j u).toArray n }:=by
 simp[Obj.mapSeq]
theorem Inv.lst{pins:List (Addr×Obj)}{σ:St}{H:Hp}{s:Shared}{p:Addr}{xs:List V}(I:Inv X pins σ H s)(h:H p=some (.lst xs)):
  ∃(its:List Value)(n:Nat),Vals xs its/\s.heap.get? p=some { cls:=.type "list",data:=.seq its.toArray n }/\xs.length<=sizeLine:=by
 obtain⟨z,its,n,r,e⟩:=I.hok p _ h
 exact⟨its,n,r,e,z⟩
theorem Inv.lstUpd{pins:List (Addr×Obj)}{σ:St}{H:Hp}{s:Shared}{p:Addr}{xs ys:List V}{its its':List Value}{n n':Nat}{f:Obj->Obj}(I:Inv X pins σ H s)(h:H p=some (.lst xs))
  (ho:s.heap.get? p=some { cls:=.type "list",data:=.seq its.toArray n }) (hf:f { cls:=.type "list",data:=.seq its.toArray n }={ cls:=.type "list",data:=.seq its'.toArray n' }) (r:Vals ys its') (hz:ys.length<=sizeLine) (t:Nat) :
  Inv X pins σ (upd H p (.lst ys)) { s with heap:=s.heap.update p f,toks:=t }:=by
 have e:(s.heap.update p f).get? p=some { cls:=.type "list",data:=.seq its'.toArray n' }:=by
  rw[Heap.get?_update_self f ho (by rw[hf] <;> rfl),hf]
 refine I.write (x:=p) (e:=p) (by rw[h];trivial) (.inl rfl) (λb u hb q=>(Heap.get?_update_other _ _ (Ne.symm hb)).trans q) ⟨_,e⟩ ?_
 exact⟨hz,its',n',r,e⟩
def rSetL:V->V->V->Hp->(Hp->Prop)->Prop:=λo i v H Q=>∃p xs k j,o=.ref p/\i=.int k/\H p=some (.lst xs)/\ixN xs.length k=some j/\Q (upd H p (.lst (xs.set j v)))
theorem set_list:PSet X rSetL:=by
 intro pins s σ H o i v ov iv u Q I ro ri rv h
 obtain⟨p,xs,k,j,rfl,rfl,hp,hj,q⟩:=h
 cases ro
 obtain⟨t,rfl⟩:=ri
 obtain⟨its,n,r,ho,hz⟩:=I.lst hp
 obtain⟨h1,h2,h3,h4⟩:=GF hj
 have hl:=r.length
 have hn:=vC
 have I':Inv X pins σ (upd H p (.lst (xs.set j v))) { s with heap:=s.heap.update p (Obj.mapSeq (·.setIfInBounds j u)) } :=
  I.lstUpd hp ho (Mz its n j u) (r.set rv j) (by rw[List.length_set];exact hz) s.toks
 by_cases h0:0<=k
 .have hk:k.toNat=j:=by
   rw[seqIndex_of h0 h4] at h1
   exact Option.some.inj h1
  exact PySem.W.ki_setAt ho h0 (by omega) (by rw[List.size_toArray,←hl];exact h4) (by rw[hk];exact⟨_,I',q⟩)
 .have hk:(k+(its.toArray.size:Int)).toNat=j:=by
   rw[seqIndex_neg (by omega) h3] at h1
   rw[List.size_toArray,←hl]
   exact Option.some.inj h1
  exact PySem.W.ki_setBack ho (by omega) (by rw[List.size_toArray,←hl];exact h3) (by omega) (by rw[hk];exact⟨_,I',q⟩)
theorem Ik(lo hi:Option Int)(n:Nat):(sliceBounds lo hi none n).1=((HT.sIx n 0 lo:Nat):Int)/\(sliceBounds lo hi none n).2.1=((HT.sIx n n hi:Nat):Int)/\(sliceBounds lo hi none n).2.2=1:=by
 refine⟨?_,?_,rfl⟩
 .cases lo with
  | none=>simp[sliceBounds,HT.sIx]
  | some i =>
   simp only[sliceBounds,HT.sIx,Option.getD_none,show (1:Int)>0 by decide,if_true]
   by_cases h:i<0
   .simp only[h,if_true] <;> omega
   .simp only[h,if_false] <;> omega
 .cases hi with
  | none=>simp[sliceBounds,HT.sIx]
  | some i =>
   simp only[sliceBounds,HT.sIx,Option.getD_none,show (1:Int)>0 by decide,if_true]
   by_cases h:i<0
   .simp only[h,if_true] <;> omega
   .simp only[h,if_false] <;> omega
theorem Dz(its:List Value)(lo hi:Option Int):slicePick its.toArray lo hi none=((its.drop (HT.sIx its.length 0 lo)).take (HT.sIx its.length its.length hi - HT.sIx its.length 0 lo)).toArray:=by
 obtain⟨h1,h2,h3⟩:=Ik lo hi its.toArray.size
 unfold slicePick
 rw[h1,h2,h3]
 simp only[sliceRange_one,pick_run,List.size_toArray] <;> rfl
def rSlL(K:Frag):V->Option Int->Option Int->Hp->VK->Prop:=λx lo hi H Q=>∃a xs,x=.ref a/\SqL K H a xs/\∀p,H p=none->Q (.ref p) (upd H p (.lst (cutV xs lo hi)))
theorem sl_list:SlR X (rSlL X.K):=by
 intro pins s σ H x v vl vu lo hi sl Q I rx hs pl pu h
 obtain⟨a,xs,rfl,hx,q⟩:=h
 cases rx
 obtain⟨its,r,ht,hz⟩:=I.list hx
 have hlen:=r.length
 refine⟨"list",_,slot_list_getitem.lookup,ht.isList.typeIs,?_⟩
 refine wpAny_getItem_list_slice ht.isList hs pl pu .none (by simp) ?_ (by rw[List.size_toArray] <;> omega)
 rw[Dz,←hlen]
 refine⟨.ref s.heap.objs.size,_,I.laid (t':=s.toks) (o:=.lst (cutV xs lo hi)) (λb ob q=>Heap.get?_push_of_some _ q) (Nat.le_refl _) ?_,rfl,q _ (I.hok.fresh (Nat.le_refl _))⟩
 exact⟨Nat.le_trans (Jx xs lo hi) hz,_,0,(r.drop (HT.sIx xs.length 0 lo)).take (HT.sIx xs.length xs.length hi - HT.sIx xs.length 0 lo),Heap.get?_push_size _ rfl⟩
noncomputable def qO:V->Bool
 | .non=>true
 | .bl _=>true
 | .int _=>true
 | .str _=>true
 | _=>false
noncomputable def eqV:V->V->Bool
 | .non,.non=>true
 | .bl a,.bl b=>a==b
 | .bl a,.int b=>(if a then 1 else 0)==b
 | .int a,.bl b=>a==(if b then 1 else 0)
 | .int a,.int b=>a==b
 | .str a,.str b=>a==b
 | _,_=>false
theorem eqAt_V{A:Around}{s:Shared}{y x:V}{u v:Value}(ry:RelV y u)(rx:RelV x v)(fy:qO y=true)(fx:qO x=true):SeqAt.EqAt A s u v (eqV y x):=by
 cases y with
 | non =>
  cases ry
  cases x with
  | non=>cases rx;exact SeqAt.EqAt.same _
  | bl b=>cases rx;exact SeqAt.EqAt.none_bool b
  | int b=>obtain⟨t,rfl⟩:=rx;exact SeqAt.EqAt.none_int b t
  | str b=>obtain⟨t,rfl⟩:=rx;exact SeqAt.EqAt.none_str b t
  | _=>exact absurd (show false=true from fx) Bool.false_ne_true
 | bl a =>
  cases ry
  cases x with
  | non=>cases rx;exact SeqAt.EqAt.bool_none a
  | bl b=>cases rx;exact SeqAt.EqAt.bool_bool a b
  | int b=>obtain⟨t,rfl⟩:=rx;exact SeqAt.EqAt.bool_int a b t
  | str b=>obtain⟨t,rfl⟩:=rx;exact SeqAt.EqAt.bool_str a b t
  | _=>exact absurd (show false=true from fx) Bool.false_ne_true
 | int a =>
  obtain⟨t',rfl⟩:=ry
  cases x with
  | non=>cases rx;exact SeqAt.EqAt.int_none a t'
  | bl b=>cases rx;exact SeqAt.EqAt.int_bool a t' b
  | int b=>obtain⟨t,rfl⟩:=rx;exact SeqAt.EqAt.int_int a t' b t
  | str b=>obtain⟨t,rfl⟩:=rx;exact SeqAt.EqAt.int_str a t' b t
  | _=>exact absurd (show false=true from fx) Bool.false_ne_true
 | str a =>
  obtain⟨t',rfl⟩:=ry
  cases x with
  | non=>cases rx;exact SeqAt.EqAt.str_none a t'
  | bl b=>cases rx;exact SeqAt.EqAt.str_bool a t' b
  | int b=>obtain⟨t,rfl⟩:=rx;exact SeqAt.EqAt.str_int a t' b t
  | str b=>obtain⟨t,rfl⟩:=rx;exact SeqAt.EqAt.str_str a t' b t
  | _=>exact absurd (show false=true from fx) Bool.false_ne_true
 | _=>exact absurd (show false=true from fy) Bool.false_ne_true
noncomputable def eqU(x:V)(u:Value):Bool:=match u with
 | .none=>eqV .non x
 | .bool b=>eqV (.bl b) x
 | .int i _=>eqV (.int i) x
 | .str z _=>eqV (.str z) x
 | _=>false
theorem eqU_of{x y:V}{u:Value}(r:RelV y u)(f:qO y=true):eqU x u=eqV y x:=by
 cases y with
 | non=>cases r;rfl
 | bl b=>cases r;rfl
 | int i=>obtain⟨t,rfl⟩:=r;rfl
 | str z=>obtain⟨t,rfl⟩:=r;rfl
 | _=>exact absurd (show false=true from f) Bool.false_ne_true
theorem Fg{x:V}:∀{xs:List V}{us:List Value},Vals xs us->xs.all qO=true->us.any (eqU x)=xs.any λy=>eqV y x
 | _,_,.nil,_=>rfl
 | y::xs,u::us,.cons r t,f=>by
  rw[List.all_cons,Bool.and_eq_true] at f
  rw[List.any_cons,List.any_cons,eqU_of r f.1,Fg t f.2]
theorem Bu{A:Around}{s:Shared}{x:V}{v:Value}(rx:RelV x v)(fx:qO x=true):∀{xs:List V}{us:List Value},Vals xs us->xs.all qO=true->∀u∈us,SeqAt.EqAt A s u v (eqU x u)
 | _,_,.nil,_=>λu hu=>by cases hu
 | y::xs,u::us,.cons r t,f=>λu' hu=>by
  rw[List.all_cons,Bool.and_eq_true] at f
  rcases List.mem_cons.mp hu with rfl | hu
  .rw[eqU_of r f.1];exact eqAt_V r rx f.1 fx
  .exact Bu rx fx t f.2 u' hu
noncomputable def inV(x:V)(xs:List V):Bool:=xs.any λy=>eqV y x
def rIn(K:Frag)(neg:Bool):R2:=λx y H Q=>∃p xs,y=.ref p/\(SqL K H p xs∨SqT K H p xs)/\qO x=true/\xs.all qO=true/\Q (.bl (if neg then !inV x xs else inV x xs)) H
theorem Qt:OpR X (compareOp .In) (rIn X.K false):=by
 intro pins s σ H x y v u Q I rx ry h
 obtain⟨p,xs,rfl,hq,fx,fs,q⟩:=h
 cases ry
 rcases hq with hq | hq
 .obtain⟨its,r,pl,hz⟩:=I.list hq
  refine SeqAt.in_listAt (eqU x) pl.isList (λw hw=>Bu rx fx r fs w (by simpa using hw)) ⟨.bl _,H,I,rfl,?_⟩
  rw[show its.toArray.any (eqU x)=its.any (eqU x) by simp,Fg r fs]
  exact q
 .obtain⟨its,r,pl,hz⟩:=I.tuple hq
  refine SeqAt.in_tupleAt (eqU x) pl (λw hw=>Bu rx fx r fs w (by simpa using hw)) ⟨.bl _,H,I,rfl,?_⟩
  rw[show its.toArray.any (eqU x)=its.any (eqU x) by simp,Fg r fs]
  exact q
theorem FT:gH X (.builtin "len") (λxs H Q=>∃p ys,xs=[.ref p]/\(SqL X.K H p ys∨SqT X.K H p ys)/\Q (.int ys.length) H):=by
 intro pins s σ H xs us Q I r h
 obtain⟨p,ys,rfl,hq,q⟩:=h
 obtain⟨u,rfl,rx⟩:=vals1 r
 cases rx
 have hn:=vC
 rcases hq with hq | hq
 .obtain⟨its,r',pl,hz⟩:=I.list hq
  have hlen:=r'.length
  exact Calls.call_len_list pl.isList (by simp only[List.size_toArray] <;> omega) ⟨.int ys.length,H,I.tok _,⟨s.toks+1,by rw[List.size_toArray,hlen]⟩,q⟩
 .obtain⟨its,r',pl,hz⟩:=I.tuple hq
  have hlen:=r'.length
  exact len_tuple pl (by simp only[List.size_toArray] <;> omega) ⟨.int ys.length,H,I.tok _,⟨s.toks+1,by rw[List.size_toArray,hlen]⟩,q⟩
theorem FW:gH X (.builtin "len") (λxs H Q=>∃z,xs=[.str z]/\z.length<=sizeLine/\Q (.int z.length) H):=by
 intro pins s σ H xs us Q I r h
 obtain⟨z,rfl,hz,q⟩:=h
 obtain⟨u,rfl,t,rfl⟩:=vals1 r
 have hn:=vC
 exact len_str (by omega) ⟨.int z.length,H,I.tok _,⟨_,rfl⟩,q⟩
theorem gH.or{f:Value}{r r':List V->Hp->VK->Prop}(h:gH X f r)(h':gH X f r'):gH X f (λxs H Q=>r xs H Q∨r' xs H Q):=by
 intro pins s σ H xs us Q I rs q
 rcases q with q | q
 .exact h pins s σ H xs us Q I rs q
 .exact h' pins s σ H xs us Q I rs q
theorem FZ:gH X (.type "list") (λxs H Q=>∃p ys,xs=[.ref p]/\(SqL X.K H p ys∨SqT X.K H p ys)/\∀l,H l=none->Q (.ref l) (upd H l (.lst ys))):=by
 intro pins s σ H xs us Q I r h
 obtain⟨p,ys,rfl,hq,q⟩:=h
 obtain⟨u,rfl,rx⟩:=vals1 r
 cases rx
 have fin:∀(its:List Value),Vals ys its->ys.length<=sizeLine->∀(h':Heap)(c':Nat),(∀b o',s.heap.get? b=some o'->h'.get? b=some o') ->
   h'.get? s.heap.objs.size=some { cls:=.type "list",dict:=none,data:=.seq its.toArray c',slots:=#[] }->EP X pins σ Q (.ref s.heap.objs.size) { s with heap:=h' }:=λits r' hz h' c' kp e =>
  ⟨.ref s.heap.objs.size,_,I.laid (t':=s.toks) kp (Nat.le_refl _) (show cF X.prog X.w _ h' _ (.lst ys) from ⟨hz,its,c',r',e⟩),rfl,q _ (I.hok.fresh (Nat.le_refl _))⟩
 rcases hq with hq | hq
 .obtain⟨its,r',pl,hz⟩:=I.list hq
  have hlen:=r'.length
  obtain⟨o,ho,hc,n,hd⟩:=pl.isList
  exact call_list_seq p (.inl rfl) ho hc hd (λh' c' kp e=>fin its r' hz h' c' kp e) (by simp only[List.size_toArray] <;> omega)
 .obtain⟨its,r',pl,hz⟩:=I.tuple hq
  have hlen:=r'.length
  obtain⟨o,ho,hc,n,hd⟩:=pl
  exact call_list_seq p (.inr rfl) ho hc hd (λh' c' kp e=>fin its r' hz h' c' kp e) (by simp only[List.size_toArray] <;> omega)
theorem Dc:gH X (.type "tuple") (λxs H Q=>∃p ys,xs=[.ref p]/\((SqL X.K H p ys/\∀l,H l=none->Q (.ref l) (upd H l (.tup ys)))∨(SqT X.K H p ys/\Q (.ref p) H))):=by
 intro pins s σ H xs us Q I r h
 obtain⟨p,ys,rfl,h⟩:=h
 obtain⟨u,rfl,rx⟩:=vals1 r
 cases rx
 rcases h with⟨hq,q⟩| ⟨hq,q⟩
 .obtain⟨its,r',pl,hz⟩:=I.list hq
  have hlen:=r'.length
  refine call_tuple_list pl.isList (λh' kp=>?_) (by simp only[List.size_toArray] <;> omega)
  have I1:Inv X pins σ H { s with heap:=h' }:=I.kept (t':=s.toks) kp
  have I2:Inv X pins σ (upd H h'.objs.size (.tup ys)) { s with heap:=h'.push { cls:=.type "tuple",data:=.seq its.toArray } } :=
   I1.laid (t':=s.toks) (λb o e=>Heap.get?_push_of_some _ e) (Nat.le_refl _) (show cF X.prog X.w _ _ _ (.tup ys) from ⟨hz,its,r',IsTup.new _ _⟩)
  exact⟨.ref h'.objs.size,_,I2,rfl,q _ (I1.hok.fresh (Nat.le_refl _))⟩
 .obtain⟨its,r',pl,hz⟩:=I.tuple hq
  exact call_tuple_same pl ⟨.ref p,H,I,rfl,q⟩
def tyV(K:Frag)(T:String)(x:V)(H:Hp):Prop:=match x with
 | .str _=>T="str"
 | .int _=>T="int"
 | .ref p=>(T="list"/\∃xs,SqL K H p xs)∨(T="tuple"/\∃o,K.lookup p=some o/\o.cls=.type "tuple"/\o.dict=none) ∨
   (T="dict"/\((∃kvs,H p=some (.dK kvs))∨∃kvs,H p=some (.dT kvs)))∨(T="set"/\∃S n,H p=some (.set S n))
 | _=>False
theorem tyV_is{pins:List (Addr×Obj)}{σ:St}{H:Hp}{s:Shared}{T:String}{x:V}{v:Value}(I:Inv X pins σ H s)(r:RelV x v)(ty:tyV X.K T x H):
  s.TypeIs v T/\∀a,v=.ref a->∃ob,s.heap.get? a=some ob/\ob.dict=none:=by
 cases x with
 | str z =>
  obtain⟨t,rfl⟩:=r
  cases (show T="str" from ty)
  exact⟨typeIs_str s z t,λ_ e=>nomatch e⟩
 | int i =>
  obtain⟨t,rfl⟩:=r
  cases (show T="int" from ty)
  exact⟨typeIs_int s i t,λ_ e=>nomatch e⟩
 | ref p =>
  cases r
  rcases ty with⟨rfl,xs,hq⟩| ⟨rfl,o,hk,hc,hd⟩| ⟨rfl,hk⟩| ⟨rfl,S,n,hk⟩
  .obtain⟨its,_,pl,_⟩:=I.list hq
   refine⟨pl.isList.typeIs,λa e=>?_⟩
   cases e
   obtain⟨o,n,e,c,hd,_⟩:=pl
   exact⟨o,e,hd⟩
  .refine⟨⟨o,I.kIn p o hk,hc⟩,λa e=>?_⟩
   cases e
   exact⟨o,I.kIn _ o hk,hd⟩
  .have z:∃o,s.heap.get? p=some o/\o.ExactDict:=by
    rcases hk with⟨kvs,hk⟩| ⟨kvs,hk⟩
    .obtain⟨_,_,_,_,o,_,_,e,ex,_⟩:=I.hok p _ hk
     exact⟨o,e,ex⟩
    .obtain⟨_,_,_,_,o,_,_,e,ex,_⟩:=I.hok p _ hk
     exact⟨o,e,ex⟩
   obtain⟨o,e,ex⟩:=z
   refine⟨⟨o,e,ex.1⟩,λa e2=>?_⟩
   cases e2
   exact⟨o,e,ex.2.1⟩
  .obtain⟨o,_,_,_,e,ex,_⟩:=I.hok p _ hk
   refine⟨⟨o,e,ex.1⟩,λa e2=>?_⟩
   cases e2
   exact⟨o,e,ex.2.1⟩
 | _=>exact False.elim ty
def tBM0(K:Frag)(T:String)(r:V->List V->Hp->VK->Prop)(to:TE):TE:=λσ H Q=>to σ H λx H1=>tyV K T x H1/\r x [] H1 Q
def tBM(K:Frag)(T:String)(r:V->List V->Hp->VK->Prop)(to:TE)(t:TA):TE:=λσ H Q=>to σ H λx H1=>tyV K T x H1/\t σ H1 λxs H2=>r x xs H2 Q
variable{o e:Expr}{es:List Expr}{to:TE}{t:TA}{name:Str}{apos cpos:Pos}{T id:String}{r:V->List V->Hp->VK->Prop}
theorem pe_bm0(pa:PlainAttrs T)(slot:Slot T name id)(hty:typeOf (.builtin id)=pure (.type "method_descriptor"))(hm:MtR X id r)(ho:PE X o to)
  (hbase:attributeBase o name X.env (eval o X.env)=eval o X.env:=by rfl) (hline:(apos.endLine==cpos.line)=true:=by rfl):PE X (.Call (.Attribute o name apos) [] [] cpos) (tBM0 X.K T r to):=by
 intro pins s σ H Q I h
 refine wpAny_Call_method0_late hbase hline (thn (ho pins s σ H _ I h) λv s1 qq=>?_);obtain⟨x,H1,I1,r1,ty,q1⟩:=qq
 obtain⟨h1,h2⟩:=tyV_is I1 r1 ty
 exact⟨T,id,pa,slot,hty,h1,h2,Calls.callWith_builtin rfl (PySem.evalArgs_none (hm pins s1 σ H1 x [] v [] Q I1 r1 .nil q1))⟩
theorem Km(pa:PlainAttrs T)(slot:Slot T name id)(hty:typeOf (.builtin id)=pure (.type "method_descriptor"))(hm:MtR X id r)(ho:PE X o to)(ha:PA X (e::es) t)
  (hbase:attributeBase o name X.env (eval o X.env)=eval o X.env:=by rfl)
  (hfew:((backTo cpos (starEach (e::es) X.env)).all (λx=>!x.1) && (backToKw cpos (keywordEach [] X.env)).all (λx=>x.1.isSome)
   && decide ((e::es).length+([]:List Keyword).length+(if ([]:List Keyword).isEmpty then 0 else 1)<30))=true:=by rfl)
  (hline:(apos.endLine==cpos.line)=true:=by rfl) (hs:starEach (e::es) X.env=(false,eval e X.env)::starEach es X.env:=by rfl) (hplain:(backTo cpos (starEach es X.env)).any (·.1)=false:=by rfl) :
  PE X (.Call (.Attribute o name apos) (e::es) [] cpos) (tBM X.K T r to t):=by
 intro pins s σ H Q I h
 refine wpAny_Call_method_late hbase hfew hline rfl (thn (ho pins s σ H _ I h) λv s1 qq=>?_);obtain⟨x,H1,I1,r1,ty,q1⟩:=qq
 obtain⟨h1,h2⟩:=tyV_is I1 r1 ty
 refine⟨T,id,pa,slot,hty,h1,h2,?_⟩
 have hA:=ha cpos pins s1 σ H1 _ I1 q1
 rw[hs] at hA ⊢
 refine Calls.callWith_builtin (by show (false || (backTo cpos (starEach es X.env)).any (·.1))=false;rw[hplain] <;> rfl) (Calls.evalArgs_plain ?_)
 exact thn hA λus s2 ⟨vs,H2,I2,r2,q2⟩=>hm pins s2 σ H2 x vs v us Q I2 r1 r2 q2
end
end L2
namespace L2
open PySem PySem.Spec PyProof.Rows
def MtM(X:Cx)(id:String)(r:V->List V->Hp->VK->Prop):Prop :=
 ∀(pins:List (Addr×Obj))(s:Shared)(σ:St)(H:Hp)(x:V)(xs:List V)(v:Value)(us:List Value)(Q:VK),Inv X pins σ H s->RelV x v->Vals xs us->r x xs H Q ->
  wpAny (model X.prog X.w) X.A (call (.builtin id) (v::us)) (EP X pins σ Q) X.xe s
theorem Vals.one:∀{x:V}{us:List Value},Vals [x] us->∃u,us=[u]/\RelV x u
 | _,_,.cons r .nil=>⟨_,rfl,r⟩
theorem Vals.zero:∀{us:List Value},Vals [] us->us=[]
 | _,.nil=>rfl
theorem Vals.rep{xs:List V}{us:List Value}(h:Vals xs us):∀k:Nat,Vals (List.replicate k xs).flatten (List.replicate k us).flatten
 | 0=>.nil
 | k+1=>by
  rw[List.replicate_succ,List.replicate_succ,List.flatten_cons,List.flatten_cons]
  exact Vals.append h (Vals.rep h k)
theorem foldl_rep(its:List Value):∀(k:Nat)(acc:List Value),
  List.foldl (λx1 x2=>x1++x2) acc.toArray (List.replicate k its.toArray)=(acc++(List.replicate k its).flatten).toArray
 | 0,acc=>by simp
 | k+1,acc=>by
  have e:acc.toArray++its.toArray=(acc++its).toArray:=by simp
  have e2:(acc++its)++(List.replicate k its).flatten=acc++(List.replicate (k+1) its).flatten:=by
   rw[List.replicate_succ,List.flatten_cons,List.append_assoc]
  rw[←e2,←foldl_rep its k (acc++its),←e,List.replicate_succ,List.foldl_cons]
section
variable{X:Cx}{pins:List (Addr×Obj)}{σ:St}{H:Hp}{s:Shared}{l b:Addr}{xs ys zs:List V}
theorem Inv.lset{its its':List Value}{n:Nat}{f:Array Value->Array Value}{t':Nat}(I:Inv X pins σ H s)(hH:H l=some (.lst xs))
  (e:s.heap.get? l=some { cls:=.type "list",data:=.seq its.toArray n }) (hf:f its.toArray=its'.toArray) (hv:Vals ys its') (hz:ys.length<=sizeLine) :
  Inv X pins σ (upd H l (.lst ys)) { s with heap:=s.heap.update l (Obj.mapSeq f),toks:=t' }:=by
 have q:=PySem.IsL.update e f
 rw[hf] at q
 refine I.write (x:=l) (e:=l) (by rw[hH];exact trivial) (.inl rfl) (λb' u hb hu=>(Heap.get?_update_other s.heap (Obj.mapSeq f) (Ne.symm hb)).trans hu) ⟨_,q⟩ ?_
 exact⟨hz,its',_,hv,q⟩
theorem Inv.lnew{its:List Value}{t':Nat}(I:Inv X pins σ H s)(hv:Vals ys its)(hz:ys.length<=sizeLine):
  Inv X pins σ (upd H s.heap.objs.size (.lst ys)) { s with heap:=s.heap.push { cls:=.type "list",data:=.seq its.toArray },toks:=t' } :=
 I.laid (λ_ _ q=>Heap.get?_push_of_some _ q) (Nat.le_refl _) ⟨hz,its,0,hv,Heap.get?_push_size _ rfl⟩
theorem Inv.fresh(I:Inv X pins σ H s):H s.heap.objs.size=none:=I.hok.fresh (Nat.le_refl _)
theorem Inv.lstM(I:Inv X pins σ H s)(hH:H l=some (.lst xs)):xs.length<=sizeLine/\∃(its:List Value)(n:Nat),Vals xs its/\xs.length=its.length/\s.heap.get? l=some { cls:=.type "list",data:=.seq its.toArray n }:=by
 obtain⟨z,its,n,r,e⟩:=I.hok l _ hH
 exact⟨z,its,n,r,r.length,e⟩
theorem notLongL{n:Nat}(h:n<=sizeLine):Builtin.List.listTooLong n=false:=by
 unfold Builtin.List.listTooLong
 exact decide_eq_false (by omega)
end
section
variable{X:Cx}
def uK:V->List V->Hp->VK->Prop:=λx vs H Q=>∃l xs y,x=.ref l/\vs=[y]/\H l=some (.lst xs)/\xs.length<sizeLine/\Q .non (upd H l (.lst (xs++[y])))
theorem uH:MtM X "list.append" uK:=by
 intro pins s σ H x vs v us Q I rx rv h
 obtain⟨l,xs,y,rfl,rfl,hH,hz,q⟩:=h
 cases rx
 obtain⟨u,rfl,ru⟩:=rv.one
 obtain⟨z,its,n,r,hl,e⟩:=I.lstM hH
 refine call_meets F.slot_list_append ⟨_,e,rfl⟩ F.entry_list_append (F.args_list_append_2 _ _) (PySem.list_append l its.toArray n u (by rw[List.size_toArray];omega)) ⟨e,?_⟩
 refine⟨.non,_,I.lset (its':=its++[u]) hH e (by simp) (r.append (.cons ru .nil)) ?_,rfl,q⟩
 rw[List.length_append,List.length_singleton]
 omega
def rClear:V->List V->Hp->VK->Prop:=λx vs H Q=>∃l xs,x=.ref l/\vs=[]/\H l=some (.lst xs)/\Q .non (upd H l (.lst []))
theorem mt_clear:MtM X "list.clear" rClear:=by
 intro pins s σ H x vs v us Q I rx rv h
 obtain⟨l,xs,rfl,rfl,hH,q⟩:=h
 cases rx
 have hus:=rv.zero
 subst hus
 obtain⟨z,its,n,r,hl,e⟩:=I.lstM hH
 refine call_meets F.slot_list_clear ⟨_,e,rfl⟩ F.entry_list_clear (F.args_list_clear_1 _) (AutoSeq1.list_clear_list_0 l its.toArray n (by rw[List.size_toArray];omega)) ⟨e,?_⟩
 exact⟨.non,_,I.lset (its':=[]) (ys:=[]) hH e rfl .nil (Nat.zero_le _),rfl,q⟩
def rCat:R2:=λx y H Q=>∃l b xs zs,x=.ref l/\y=.ref b/\H l=some (.lst xs)/\H b=some (.lst zs)/\xs.length+zs.length<=sizeLine/\∀p,H p=none->Q (.ref p) (upd H p (.lst (xs++zs)))
theorem op_cat:OpR X (binaryOp .Add) rCat:=by
 intro pins s σ H x y v u Q I rx ry h
 obtain⟨l,b,xs,zs,rfl,rfl,hH,hB,hz,q⟩:=h
 cases rx
 cases ry
 obtain⟨z,its,n,r,hl,e⟩:=I.lstM hH
 obtain⟨z2,its2,n2,r2,hl2,e2⟩:=I.lstM hB
 refine PySem.P.add_list e e2 ?_ (by rw[List.size_toArray,List.size_toArray];omega)
 have ea:its.toArray++its2.toArray=(its++its2).toArray:=by simp
 rw[ea]
 exact⟨.ref _,_,I.lnew (t':=s.toks) (r.append r2) (by rw[List.length_append];omega),rfl,q _ I.fresh⟩
def rRep:R2:=λx y H Q=>∃l k xs,x=.ref l/\y=.int k/\H l=some (.lst xs)/\-(2 ^ 63)<=k/\k<2 ^ 63/\xs.length*k.toNat<=sizeLine /\
 ∀p,H p=none->Q (.ref p) (upd H p (.lst (List.replicate k.toNat xs).flatten))
theorem len_rep{α:Type}(xs:List α)(k:Nat):(List.replicate k xs).flatten.length=k*xs.length:=by
 induction k with
 | zero=>simp
 | succ k ih=>rw[List.replicate_succ,List.flatten_cons,List.length_append,ih,Nat.succ_mul,Nat.add_comm]
theorem op_rep:OpR X (binaryOp .Mult) rRep:=by
 intro pins s σ H x y v u Q I rx ry h
 obtain⟨l,k,xs,rfl,rfl,hH,h1,h2,hz,q⟩:=h
 cases rx
 obtain⟨t,rfl⟩:=ry
 obtain⟨z,its,n,r,hl,e⟩:=I.lstM hH
 have hlen:its.toArray.size*k.toNat<=sizeLine:=by rw[List.size_toArray,←hl];exact hz
 have hcap:¬its.toArray.size*k.toNat>(2 ^ 63 - 1) / 8:=by
  have:(sizeLine:Nat)<=(2 ^ 63 - 1) / 8:=by decide
  omega
 have hfit:¬(!Builtin.List.listFitsIndex k)=true:=by
  rw[fitsIndex_both h1 h2]
  exact Bool.false_ne_true
 have hlong:¬Builtin.List.listTooLong (its.toArray.size*k.toNat)=true:=by
  rw[notLongL hlen]
  exact Bool.false_ne_true
 have hnew:List.foldl (λx1 x2=>x1++x2) #[] (List.replicate (if its.toArray.isEmpty=true then 0 else k.toNat) its.toArray)=(List.replicate k.toNat its).flatten.toArray:=by
  have f0:∀m:Nat,List.foldl (λx1 x2=>x1++x2) #[] (List.replicate m its.toArray)=(List.replicate m its).flatten.toArray:=λm=>by
   have:=foldl_rep its m []
   rw[List.nil_append] at this
   exact this
  rw[f0]
  cases its with
  | nil=>simp
  | cons a r'=>rw[if_neg (by simp)]
 refine wpAny_binaryOp_repeat_ref (T:="list") (U:="int") (by decide) ⟨_,e,rfl⟩ (λs'=>typeIs_int s' k t) noFill_list_mul F.fills_int_mul F.slot_int_rmul repeat_list F.slot_int_index.lookup
  (call_meets F.slot_int_rmul (typeIs_int s k t) F.entry_int_rmul (F.args_int_rmul_2 _ _) (int___rmul___int_list k t l its.toArray n)
   ⟨e,rfl,⟨_,e,rfl⟩,call_meets F.slot_list_mul ⟨_,e,rfl⟩ F.entry_list_mul (F.args_list_mul_2 _ _) (AutoListH.list___mul___list_int_3 l its.toArray n k t hfit hcap hlong) ⟨e,?_⟩⟩)
 rw[hnew]
 exact⟨.ref _,_,I.lnew (t':=s.toks) (r.rep k.toNat) (by rw[len_rep,Nat.mul_comm];exact hz),rfl,q _ I.fresh⟩
end
section
variable{prog:Program}{w:World}{A:Around}{E:Value->Shared->Prop}{s:Shared}
end
section
variable{X:Cx}
end
end L2
namespace Att
open PySem PySem.W PySem.Calls PyProof.Rows
theorem zg{P:Params}{h:Heap}:∀(ns:List Int)(vs:List Value),WellAll P h vs (ns.map WData.int)->IntsAre vs ns:=by
 intro ns
 induction ns with
 | nil =>
  intro vs w
  rw[List.map_nil] at w
  cases w
  exact .nil
 | cons n ns ih =>
  intro vs w
  rw[List.map_cons] at w
  cases w with
  | cons a b =>
   cases a
   exact .cons _ _ (ih _ b)
theorem QJ{l:OpenLaw}{n:Nat}(hn:l.most=some n){P:Params}{h:Heap}{args:List WData}{vals:List Value}
  (hpre:l.row.toRowW.claim.pre args=true) (hwl:WellAll P h vals args) :
  ∃a vs ns,vals=[Value.ref a]/\args=[WData.list (ns.map WData.int)]/\h.get? a=some { cls:=.type "list",data:=.seq vs.toArray }/\IntsAre vs ns/\ns.length<=n:=by
 have hsh:WShape.hasAll [] args [.list .int]=true:=(pre_splitW hpre).1
 have hc:l.pre.holds [] { args:=args }=true:=(pre_splitW hpre).2
 obtain⟨d,r,rfl,h1,h2⟩:=hasAllW_cons hsh
 obtain rfl:=hasAllW_nil h2
 obtain⟨xs,rfl,h3⟩:=hasW_list h1
 obtain⟨ns,rfl⟩:=items_int h3
 have hlen:ns.length<=n:=by
  unfold OpenLaw.pre at hc
  have h4:(WTm.not (.lt (.lit (.int (n:Int))) (.len (.arg 0)))).holds [] { args:=[.list (ns.map .int)] }=true:=by
   have h4:=(holds_andW hc).1
   rw[hn] at h4
   exact h4
  have h5:=condW_of h4 (w_not (w_lt w_lit (w_len_list (w_arg rfl))))
  rw[List.length_map] at h5
  refine Nat.le_of_not_lt λq=>?_
  have q':(n:Int)<((ns.length:Nat):Int):=by omega
  first
   | (rw[decide_eq_true q'] at h5;exact absurd h5 (by decide))
   | (simp at h5;omega)
 cases hwl with
 | cons w1 w2 =>
  cases w2
  cases w1 with
  | list ho hall=>exact⟨_,_,ns,rfl,rfl,ho,zg ns _ hall,hlen⟩
theorem QB(l:OpenLaw)(args:List WData):l.row.toRowW.claim.post args (.bool true) args=true :=
 postW_of (r:=l.row.toRowW) (X:=(true==true))
  (show WShape.has [] (.bool true) .bool=true by first | rfl | decide | simp[WShape.has,WShape.arms,WShape.armsAll])
  (show (WTm.eq .res (.lit (.bool true))).value [] { args:=args,res:=some (.bool true),after:=args }=some (.bool (true==true)) from w_eq_bool (w_res rfl) w_lit) rfl
theorem Jq{l:OpenLaw}{n:Nat}{q:Program}{loose:List Str}{XP:(Str->Option Value)->Heap->Prop}{YP:World->Heap->Prop}{d:DefRec}
  (hn:l.most=some n) (hdf:d.params.defaults=[])
  (call:∀(w:World)(s₀ s₁:Shared)(mg mb:Str->Option Value)(fa:Addr)(o:Obj)(pm cd doc:Value)(a:Addr)(vs:List Value)(ns:List Int),
   Ground q loose [] XP w s₀ mg mb s₁.heap->YP w s₁.heap ->
   s₁.heap.get? fa=some o->o.data=.func (docDef d.name d.params d.body d.scope pm cd doc)->s₁.heap.CodeRec cd d.name->mg d.name=some (.ref fa) ->
   s₁.heap.get? a=some { cls:=.type "list",data:=.seq vs.toArray }->IntsAre vs ns->ns.length<=n->s₁.gens=#[] ->
   codeAny (model l.prog w) callerA (.call (.ref fa) ⟨[.ref a],[]⟩) (λr s'=>r=.ok (.ret (.bool true))/\OldK s₁.heap s'.heap/\s'.os=s₁.os/\AllBare s'.gens) s₁) :
  WalkO q loose XP YP l.row.toRowW d [] (λf vs=>PySem.call f vs):=by
 intro w s₀ s₁ mg mb G Y fa o pm cd doc dV kV ho hd hcd hD hmg hg args vals as hpre hlay hrd hwl hlo
 obtain rfl:dV=.none:=Dflts.none hD hdf
 obtain rfl:kV=.none:=Dflts.noKw hD
 obtain⟨a,vs,ns,rfl,rfl,hobj,hints,hlen⟩:=QJ hn hpre hwl
 refine enter_call (codeAny_mono (call w s₀ s₁ mg mb fa o pm cd doc a vs ns G Y ho (fd_plain hd) hcd hmg hobj hints hlen hg) λr s' hq=>?_)
 obtain⟨rfl,h2,h3,h4⟩:=hq
 exact⟨.inl ⟨.bool true,.bool true,[],rfl,λ_=>rfl,.bool true,QB l _,λ_=>⟨List.Pairwise.nil,λ_ hm=>(nomatch hm)⟩⟩,h2,h3,h4⟩
section
variable{prog:Program}{w:World}{A:Around}{E:Value->Shared->Prop}{s:Shared}{K:Frag}
end
end Att
namespace L2
open PySem PySem.Spec PyProof.Rows
theorem Ew:∀{vs:List Value}{ns:List Int},IntsAre vs ns->Vals (ns.map V.int) vs
 | _,_,.nil=>.nil
 | _,_,.cons n t h=>.cons ⟨t,rfl⟩ (Ew h)
def Only(H:Hp):Prop:=∀b,H b=none∨∃o xs,H b=some (.frz o (.lst xs))
theorem law_call{P:Program}{w:World}{K:Frag}{mg mb:Str->Option Value}{CX:CXT}{k:Nat}{fa a:Addr}{fd:FuncData}{x:Str}{sp:Sp}{s₁:Shared}{vs:List Value}{ns:List Int}
  (KX:K.In s₁.heap) (hns:s₁.heap.Ns mainGlobals mg) (hb:s₁.heap.Ns builtinsNs mb) (hbb:∀x:Str,x≠"__name__"->mb x=bootBuiltins x) (hlim:s₁.heap.NoLimit) (hg:s₁.gens=#[])
  (ha:s₁.heap.get? a=some { cls:=.type "list",data:=.seq vs.toArray }) (hi:IntsAre vs ns) (hl:ns.length<=sizeLine) (hr:dz k callerA)
  (F:∀base:Heap,K.In base->base.Ns mainGlobals mg->cJ P w K mg base CX k fa fd [x] sp) (hbind:∀(s:Shared)(u:Value),BindsTo s fd ⟨[u],[]⟩ [(x,u)])
  (hsp:∀H:Hp,Only H->SqL K H a (ns.map V.int)->sp [.ref a] H (λv _=>v=.bl true) λ_ _ _=>False)
  (hCX:∀H e s',CX [] H s₁ (λ_ _ _=>False) e s'->False) :
  codeAny (model P w) callerA (.call (.ref fa) ⟨[.ref a],[]⟩) (λr s'=>r=.ok (.ret (.bool true))/\OldK s₁.heap s'.heap/\s'.os=s₁.os/\AllBare s'.gens) s₁:=by
 have rv:=Ew hi
 have lenV:=hi.length
 have core:∀H:Hp,Only H->SqL K H a (ns.map V.int)->HOk P w H s₁.heap->(∀b,H b≠none->b=a)->(H a≠none->K.lookup a=none) ->
   codeAny (model P w) callerA (.call (.ref fa) ⟨[.ref a],[]⟩) (λr s'=>r=.ok (.ret (.bool true))/\OldK s₁.heap s'.heap/\s'.os=s₁.os/\AllBare s'.gens) s₁:=by
  intro H hO hS hok hA hK
  have base_of:∀{b:Addr}{o:Obj},s₁.heap.get? b=some o->H b=none->(hidT s₁.heap H).get? b=some o:=λe n=>hidT_get e n
  have noA:∀{b:Addr}{o:Obj}{es:Array DictEntry}{ep:Nat},s₁.heap.get? b=some o->o.data=.dict es ep->H b=none:=fun{b o es ep} e d=>by
   cases q:H b with
   | none=>rfl
   | some u =>
    have e':b=a:=hA b (by rw[q];simp)
    subst e'
    rw[ha] at e;cases e
    have d':Data.seq vs.toArray _=Data.dict es ep:=d
    cases d'
  have nsK:∀{b:Addr}{m:Str->Option Value},s₁.heap.Ns b m->(hidT s₁.heap H).Ns b m:=λ{b m} ⟨o,es,ep,e,d,r⟩=>⟨o,es,ep,base_of e (noA e d),d,r⟩
  have hKb:K.In (hidT s₁.heap H):=λb o e=>base_of (KX b o e) (by
   cases q:H b with
   | none=>rfl
   | some u =>
    have e':b=a:=hA b (by rw[q];simp)
    subst e'
    rw[hK (by rw[q];simp)] at e;cases e)
  have hM:Mod K mg (hidT s₁.heap H):=⟨hKb,nsK hns,⟨mb,nsK hb,hbb⟩,let ⟨mc,h1,h2⟩:=hlim;⟨mc,nsK h1,h2⟩⟩
  have e0:Env0 P w K mg (hidT s₁.heap H) callerA [] s₁ H:=⟨rfl,hM,λb o e=>of_hidT e,Nat.le_of_eq (Qc _ _),trivial,λb hb=>absurd (show b∈([]:List Addr) from hb) (by simp),hok,.of_eq hg⟩
  refine codeAny_mono ((F _ hKb (nsK hns)).run callerA [] s₁ H ⟨[.ref a],[]⟩ [.ref a] [.ref a] _ _ hr e0 (hbind s₁ (.ref a)) (.cons rfl .nil) (hsp H hO hS)) λr s' h=>?_
  cases r with
  | error e=>exact(hCX H e s' h).elim
  | ok fl =>
   cases fl with
   | next=>exact False.elim h
   | brk=>exact False.elim h
   | cont=>exact False.elim h
   | ret u =>
    obtain⟨v,H',os,bare,un,hok',r',q⟩:=h
    have q':v=.bl true:=q
    subst q'
    obtain rfl:u=Value.bool true:=r'
    refine⟨rfl,OldK.of_keep λb o e=>?_,os,bare⟩
    cases q:H b with
    | none=>exact un.keep b o e q (by intro z;exact absurd (show b∈([]:List Addr) from z) (by simp)) (by simp)
    | some u =>
     rcases hO b with z | ⟨ob,xs,z⟩
     .rw[q] at z;cases z
     .have z2:=un.vp b ob _ z
      obtain⟨e1,_⟩:=hok b _ z
      obtain⟨e2,_⟩:=hok' b _ z2
      rw[e] at e1;cases e1
      exact e2
 cases hk:K.lookup a with
 | some o =>
  have e:=KX a o hk
  rw[ha] at e
  cases e
  refine core (λ_=>none) (λ_=>.inl rfl) (.inr ⟨_,vs.toArray,_,hk,rfl,rfl,rfl,by rw[List.size_toArray,lenV];exact hl,by simpa using rv⟩) (λb u z=>by have z':(none:Option HO)=some u:=z;cases z') (λb z=>absurd rfl z) λz=>absurd rfl z
 | none =>
  refine core (λb=>if b=a then some (.frz { cls:=.type "list",data:=.seq vs.toArray } (.lst (ns.map V.int))) else none) (λb=>?_) (.inl (.inr ⟨{ cls:=.type "list",data:=.seq vs.toArray },if_pos rfl⟩)) (λb u z=>?_) (λb z=>?_) λ_=>hk
  .by_cases hb:b=a
   .exact .inr ⟨_,_,if_pos hb⟩
   .exact .inl (if_neg hb)
  .by_cases hb:b=a
   .have z':=(if_pos hb).symm.trans z
    cases z'
    subst hb
    exact⟨ha,by rw[List.length_map];exact hl,vs,_,rv,ha⟩
   .have z':=(if_neg hb).symm.trans z
    cases z'
  .by_cases hb:b=a
   .exact hb
   .exact absurd (if_neg hb) z
end L2
namespace L2
open PySem PySem.Spec PyProof.Rows
theorem walk_of{l:PySem.W.OpenLaw}{n k:Nat}{q:Program}{loose:List Str}{XP:(Str->Option Value)->Heap->Prop}{YP:World->Heap->Prop}{d:DefRec}{K:Params->Frag}{CX:World->CXT}{sp:World->Sp}{x:Str}
  (hn:l.most=some n) (hn2:n<=sizeLine) (hdf:d.params.defaults=[]) (hr:dz k callerA)
  (hY:∀(w:World)(h:Heap),YP w h->(K w.params).In h)
  (F:∀(w:World)(mg:Str->Option Value)(fa:Addr)(h:Heap),(K w.params).In h->h.Ns mainGlobals mg->mg d.name=some (.ref fa) ->
   ∃fd:FuncData,(∀(s:Shared)(u:Value),BindsTo s fd ⟨[u],[]⟩ [(x,u)]) /\
    ∀base:Heap,(K w.params).In base->base.Ns mainGlobals mg->cJ l.prog w (K w.params) mg base (CX w) k fa fd [x] (sp w))
  (hsp:∀(w:World)(H:Hp)(a:Addr)(ns:List Int),ns.length<=n->Only H->SqL (K w.params) H a (ns.map V.int)->sp w [.ref a] H (λv _=>v=.bl true) λ_ _ _=>False)
  (hCX:∀(w:World)(H:Hp)(s:Shared)(e:Value)(s':Shared),CX w [] H s (λ_ _ _=>False) e s'->False) :
  PySem.W.WalkO q loose XP YP l.row.toRowW d [] (λf vs=>PySem.call f vs):=by
 refine Att.Jq hn hdf λw s₀ s₁ mg mb fa o pm cd doc a vs ns G Y ho hd hcd hmg hobj hints hlen hg=>?_
 have KX:=hY w _ Y
 obtain⟨fd,hb,hF⟩:=F w mg fa _ KX G.T.g hmg
 exact law_call KX G.T.g G.T.b G.T.builtins G.T.nolimit hg hobj hints (Nat.le_trans hlen hn2) hr hF hb (λH hO hS=>hsp w H a ns hlen hO hS) λH e s'=>hCX w H s₁ e s'
end L2
namespace L2
open PySem PySem.Spec PyProof.Rows
def inClass(s:Stmt)(j:Nat):Stmt:=match s with
 | .ClassDef _ _ _ body _ _ _ _ _ _ _=>body.getD j (.Pass ⟨0,0,0,0⟩)
 | _=>.Pass ⟨0,0,0,0⟩
def mW(s:Stmt):Arguments:=match s with
 | .FunctionDef _ a _ _ _ _ _ _ _ _=>a
 | _=>{ posonlyargs:=[],args:=[],vararg:=none,kwonlyargs:=[],kw_defaults:=[],kwarg:=none,defaults:=[] }
noncomputable def fC(s:Stmt):List Stmt:=match s with
 | .FunctionDef _ _ b _ _ _ _ _ _ _=>b
 | _=>[]
def aA(s:Stmt):Scope:=match s with
 | .FunctionDef _ _ _ _ _ _ sc _ _ _=>sc
 | _=>{ kind:=.function,names:=[],isGenerator:=false,isCoroutine:=false }
abbrev CX0:CXT:=λ_ _ _ _ _ _=>False
abbrev E0:XK:=λ_ _ _=>False
theorem pass0{X:Cx}:nM CX0 X E0:=λ_ _ _ _ _ _ _ h=>h.elim
structure Fun(K:Frag)(x qual:Str)(st:Stmt)(f:Addr)(fd:FuncData):Prop where
 ex:∃(oc:Value)(od:Option Addr)(kV doc pm:Value)(an:Option Addr)(cdv ct:Value)(osl:Array (Option Value)),
  fd=PySem.W.fnOf x qual (mW st) (fC st) (aA st) .none kV doc pm an cdv ct/\K.lookup f=some ⟨oc,od,.func fd,osl⟩/\PySem.W.codeIn K cdv qual=true
 kp:keepIn K (.ref f)=true
section
variable{P:Program}{w:World}{K:Frag}{mg:Str->Option Value}{base:Heap}
theorem Fun.ok{x qual:Str}{st:Stmt}{f:Addr}{fd:FuncData}{N ps:List Str}{k:Nat}{sp:Sp}(F:Fun K x qual st f fd)(S:aN N ps (aA st))(len:∀vs H Q E,sp vs H Q E->vs.length=ps.length)
  (hbody:∀(cdv:Value)(A:Around)(outer:List Env)(s:Shared)(H:Hp)(vs:List V)(Q:VK)(E:XK),dz k (A.deeper (envOfC qual (aA st) s.heap.objs.size f cdv))->sp vs H Q E ->
   ∃t,PSs (cxOf CX0 P w K mg base N qual (aA st) f cdv A outer s H E).nox (fC st) t/\t { nx:=λ_ H'=>Q .non H',rt:=Q } (start N vs) H):cJ P w K mg base CX0 (k+1) f fd ps sp:=by
 obtain⟨oc,od,kV,doc,pm,an,cdv,ct,osl,rfl,lk,hcd⟩:=F.ex
 refine fn_of lk hcd S len λA outer s H vs Q E hr hsp=>?_
 obtain⟨t,h,q⟩:=hbody cdv A outer s H vs Q E hr hsp
 exact⟨t,h.nox,q⟩
theorem Fun.binds{x qual:Str}{st:Stmt}{f:Addr}{fd:FuncData}{ps:List Str}(F:Fun K x qual st f fd)
  (h:∀(kV doc pm:Value)(an:Option Addr)(cdv ct:Value)(us:List Value),us.length=ps.length->bindArgs (PySem.W.fnOf x qual (mW st) (fC st) (aA st) .none kV doc pm an cdv ct) ⟨us,[]⟩=pure (ps.zip us)):Binds K fd ps []:=by
 obtain⟨oc,od,kV,doc,pm,an,cdv,ct,osl,rfl,lk,hcd⟩:=F.ex
 exact .all (h kV doc pm an cdv ct)
theorem fun_mk{x qual:Str}{st:Stmt}{f:Addr}{oc:Value}{od an:Option Addr}{osl:Array (Option Value)}{kV doc pm cdv ct:Value}(l:K.lookup f=some ⟨oc,od,.func (PySem.W.fnOf x qual (mW st) (fC st) (aA st) .none kV doc pm an cdv ct),osl⟩)
  (c:PySem.W.codeIn K cdv qual=true) (k:keepIn K (.ref f)=true):Fun K x qual st f (PySem.W.fnOf x qual (mW st) (fC st) (aA st) .none kV doc pm an cdv ct):=⟨⟨oc,od,kV,doc,pm,an,cdv,ct,osl,rfl,l,c⟩,k⟩
end
section
variable{X:Cx}
theorem pv(i:Nat){x:Str}{pos:Pos}(hN:X.N[i]?=some x:=by rfl)(hv:Vis X.env.scope x:=by first | exact Or.inl rfl | exact Or.inr (Or.inl rfl) | exact Or.inr (Or.inr rfl))(hd:(x==("__debug__":Str))=false:=by decide)
  (hcd:(x==("__classdict__":Str))=false:=by decide):PE X (.Name x pos) (iI i):=pe_var hN hv hd hcd
end
def aY(H H':Hp):Prop:=∀b o,H b=some o->H' b=some o
theorem aY.refl(H:Hp):aY H H:=λ_ _ h=>h
theorem aY.trans{H H1 H2:Hp}(a:aY H H1)(b:aY H1 H2):aY H H2:=λc o h=>b c o (a c o h)
theorem aY.free{H H':Hp}(e:aY H H'){l:Addr}(h:H' l=Option.none):H l=Option.none:=by
 cases q:H l with
 | none=>rfl
 | some o =>
  rw[e l o q] at h
  cases h
theorem aY.seq{K:Frag}{H H':Hp}{a:Addr}{xs:List V}(e:aY H H')(h:SqL K H a xs):SqL K H' a xs:=by
 rcases h with (h | ⟨o,h⟩) | h
 .exact .inl (.inl (e _ _ h))
 .exact .inl (.inr ⟨o,e _ _ h⟩)
 .exact .inr h
end L2
set_option maxHeartbeats 1000000
namespace MX
open PySem
section
variable{prog:Program}{w:World}{A:Around}{E:Value->Shared->Prop}{h:Heap}{g:Array GenState}{d:Drawn}{t:Nat}{os:OsState}
variable{nm q:Str}{C N:Addr}{bs bm bmB:List Value}{hdct:Bool}{sn:List Str}{sub:List Value}{ab:Bool}{col:Option Bool}{dd:Option Addr}{k0 k1 k2 k3 k5:Option Value}{B newId initId:String}
end
section
variable{prog:Program}{w:World}{A:Around}{E:Value->Shared->Prop}{h:Heap}{g:Array GenState}{d:Drawn}{t:Nat}{os:OsState}{x C:Addr}{ox:Obj}{cd:ClassData}{name:Str}{v:Value}{tk:Tok}
open Builtin Builtin.ObjectAttr
end
end MX
namespace MX
open PySem PySem.W PySem.Calls PyProof.Rows Builtin Builtin.ObjectAttr
abbrev bmV:List Value:=[.type "ValueError",.type "Exception",.type "BaseException",.type "object"]
noncomputable def onlyRefs:List Value->Bool
 | []=>true
 | .ref _::r=>onlyRefs r
 | _=>false
structure ExcGet(K:Frag)(C:Addr):Prop where
 ga:findIn K (.ref C) "__getattribute__"=some (some (.builtin "BaseException.__getattribute__"))
 gh:findIn K (.ref C) "__getattr__"=some none
 sa:findIn K (.ref C) "__setattr__"=some (some (.builtin "object.__setattr__"))
 sub:mroIn K C (.type "BaseException")=some true
 top:mroIn K C (.type "object")=some true
 cl:findIn K (.ref C) "__class__"=some (some (.builtin "object.__class__"))
 get:specialIn K (.builtin "object.__class__") "__get__"=some (some (.builtin "getset_descriptor.__get__"))
 tk:takesIn K (.builtin "object.__class__")=some true
 cls:∃cd l,clsIn K C=some cd/\cd.hasDict=true/\cd.mro=l++bmV/\onlyRefs l=true
section
variable{prog:Program}{w:World}{A:Around}{E:Value->Shared->Prop}{s:Shared}{K:Frag}{x C:Addr}{ox:Obj}{od:Option Obj}{name:Str}
theorem excBy{fill expr:Bool}{tk:Tok}{Q:Value->Shared->Prop}{v:Value}(G:ExcGet K C)(X:K.In s.heap)(I:InstAt s.heap x ox C od)(hh:handedIn v=true)
  (hf:wpAny (model prog w) A.in1 (Builtin.«object.__getattribute__» ⟨[.ref x,.str name tk],[]⟩) (λfin s'=>fin=.done (.ret v)/\Q v s') (λ_ _=>False) s) :
  wpAny (model prog w) A (getAttrBy (.ref x) (.str name tk) fill expr) Q E s:=by
 have L0:=I.type (M:=model prog w)
 have L1:=looks_findIn (M:=model prog w) X G.ga
 have L2:Looks (model prog w) s.heap (hookBefore (.ref C)) none:=looks_findIn (M:=model prog w) X G.gh
 have b:=PySem.F.attr_ValueError.ga.bind (.ref x)
 unfold getAttrBy
 refine wpAny_holding (wpAny_bind (L0.here (wpAny_bind (L1.here ?_))))
 have c1:(onTheHeap (Value.ref C) && Value.builtin "BaseException.__getattribute__"==Value.builtin "object.__getattribute__")=false:=by
  rw[show (Value.builtin "BaseException.__getattribute__"==Value.builtin "object.__getattribute__")=false by decide +kernel]
  simp
 show wpAny _ _ (if (onTheHeap (Value.ref C) && Value.builtin "BaseException.__getattribute__"==Value.builtin "object.__getattribute__")=true then _ else _) _ _ _
 rw[c1,if_neg Bool.false_ne_true]
 unfold getAttrByItsOwn
 refine wpAny_bind (L2.here (wpAny_bind (wpAny_attempt (wpAny_holding ?_))))
 have c2:callGetattribute (.ref x) (.str name tk) (.builtin "BaseException.__getattribute__") expr=boundAndCalled (.builtin "BaseException.__getattribute__") (.ref x) (.str name tk):=by cases expr <;> rfl
 rw[c2]
 unfold boundAndCalled
 rw[b]
 refine wpAny_bind (wpAny_pure ?_)
 have hk:builtinKind "BaseException.__getattribute__"=some .slot:=by decide +kernel
 have hs:splitId "BaseException.__getattribute__"=some ("BaseException","__getattribute__"):=by decide +kernel
 show wpAny (model prog w) A (call (.builtin "BaseException.__getattribute__") [.ref x,.str name tk]) _ _ s
 have sub:Looks (model prog w) s.heap (isInstance (.ref x) (.type "BaseException")) true:=L0.andThen (looks_mroIn X G.sub)
 refine wpAny_call (codeAny_call_builtin PySem.F.attr_ValueError.ga.plain PySem.F.entry_bexc_ga (@check_slot (model prog w) _ _ s "BaseException.__getattribute__" "BaseException" "__getattribute__" (.ref x) [.str name tk] [] _ hk hs sub (PySem.F.args_bexc_ga (.ref x) (.str name tk)) ?_))
 refine wpAny_mono hf (λfin s' z=>?_) λ_ _ z=>z.elim
 obtain⟨rfl,z⟩:=z
 show wpAny _ _ (handedOut v) _ _ _
 rw[handedOut_of hh]
 exact wpAny_pure z
theorem excClass{Q:Option Value->Shared->Prop}(G:ExcGet K C)(X:K.In s.heap)(I:InstAt s.heap x ox C od)(h:Q (some (.ref C)) { s with toks:=s.toks+1 }):
  wpAny (model prog w) A (getAttr? (.ref x) "__class__") Q E s:=by
 obtain⟨cd,l,hc,hd,hm,hr⟩:=G.cls
 have hf:findObj K C od "__class__"=some (.bind (.builtin "getset_descriptor.__get__") (.builtin "object.__class__")):=by
  unfold findObj
  rw[hc,Option.bind_some,G.cl,Option.bind_some]
  dsimp only
  rw[G.get,Option.bind_some]
  dsimp only
  rw[G.tk,Option.bind_some]
 unfold getAttr? getAttrBy?
 refine wpAny_bind (wpAny_mkText (wpAny_bind (wpAny_attempt (excBy (v:=.ref C) (s:={ s with toks:=s.toks+1 }) G X I rfl ?_))))
 .obtain⟨hp,g,d,t,os⟩:=s
  have L0:=I.type (M:=model prog w)
  have L3:=looks_find (M:=model prog w) X I hf
  unfold Builtin.«object.__getattribute__»
  repeat (first | with_reducible refine wpAny_call ?_ | lk)
  refine class_get X I G.top ?_
  exact wpAny_pure ⟨rfl,wpAny_pure h⟩
theorem excKit(G:ExcGet K C):KitX K (.ref x) (.ref C) (λh=>InstAt h x ox C od) where
 ty:=λ_ _ _ I=>I.type
 it:=λ_ _ X _=>by
  obtain⟨cd,l,hc,_⟩:=G.cls
  unfold clsIn at hc
  split at hc
  .rename_i ho
   intro A' Q' E' s' k q
   unfold isType loadHead
   exact wpAny_bind (wpAny_loadPart (k _ _ (X _ _ ho)) (wpAny_pure q))
  .cases hc
 ne:=λh tp dd its n sl X htp=>by
  obtain⟨cd,l,hc,_⟩:=G.cls
  refine Bool.eq_false_iff.mpr λq=>?_
  obtain rfl:C=tp:=Value.ref.inj (beq_iff_eq.mp q)
  unfold clsIn at hc
  split at hc
  .rename_i ho
   have z:=(X _ _ ho).symm.trans htp
   cases z
  .cases hc
 ca:=λX I k=>excClass G X I k
end
end MX
namespace L2
open PySem PySem.Spec PyProof.Rows
section
variable{prog:Program}{w:World}{A:Around}{R:Result->Shared->Prop}{s:Shared}
theorem Jw{elt tg iter:Expr}{ifs:List Expr}{sc:Scope}{pos:Pos}{it acc:Value}{env:Env}(J:Nat->Shared->Prop)
  (turn:∀n s,J n s->wpAny (model prog w) A (pyNext it) (λr s1=>match r with
   | none=>R (.ok .next) s1
   | some v=>wpAny (model prog w) A (letOwnedTupleGo tg it v) (λ_ s2=>wpAny (model prog w) A (assign tg env v) (λ_ s3 =>
     wpAny (model prog w) A (forIn ifs true λc r=>if r=true then do let ok ←isTrue c env (eval c env);pure (ForInStep.yield ok) else pure (ForInStep.yield r)) (λok s4 =>
      if ok=true then wpAny (model prog w) A (eval elt env) (λx s5=>wpAny (model prog w) A (call (.builtin "list.append") [acc,x]) (λ_ s6=>∃m,m<n/\J m s6) (λ_ _=>False) s5) (λ_ _=>False) s4
      else ∃m,m<n/\J m s4) (λ_ _=>False) s3) (λ_ _=>False) s2) (λ_ _=>False) s1) (λ_ _=>False) s)
  (n:Nat) (h:J n s):codeAny (model prog w) A (.compLoop (.ListComp elt [⟨tg,iter,ifs,0⟩] sc pos) 0 it acc env) R s:=by
 refine codeAny_loop rfl J (λn s hJ=>?_) n h
 show wpAny _ A ((compTurn (.ListComp elt [⟨tg,iter,ifs,0⟩] sc pos) 0 it acc env).onRaise (λx=>do noteFrame x env;theTreesLotGoes x)) _ _ s
 refine wpAny_noted ?_
 rw[compTurn_list]
 refine wpAny_bind (wpAny_standAt (wpAny_bind (wpAny_mono (turn n s hJ) (λr s1 h1=>?_) λ_ _ z=>z.elim)))
 cases r with
 | none=>exact wpAny_pure h1
 | some v =>
  refine wpAny_bind (wpAny_mono h1 (λ_ s2 h2=>?_) λ_ _ z=>z.elim)
  refine wpAny_bind (wpAny_mono h2 (λ_ s3 h3=>?_) λ_ _ z=>z.elim)
  refine wpAny_bind (wpAny_mono h3 (λok s4 h4=>?_) λ_ _ z=>z.elim)
  cases ok with
  | false=>exact wpAny_pure ⟨rfl,h4⟩
  | true =>
   refine wpAny_bind (wpAny_bind (wpAny_mono h4 (λx s5 h5=>?_) λ_ _ z=>z.elim))
   exact wpAny_bind (wpAny_mono h5 (λ_ s6 h6=>wpAny_pure (wpAny_pure ⟨rfl,h6⟩)) λ_ _ z=>z.elim)
end
abbrev bh(X:Cx)(N':List Str)(sc:Scope)(cl:List (Str×Addr))(s₀:Shared)(H₀:Hp)(C:Addr)(fp:List Addr)(pn:List (Addr×Obj)):Cx :=
 { X with N:=N',s₀:=s₀,H₀:=H₀,env:=compEnvC sc cl C X.env,outer:=X.stack,ex:=fp,fn:=λ_=>false,pn:=pn,xe:=λ_ _=>False }
def CellsOk(X:Cx):List (Str×Addr)->Prop
 | []=>True
 | (y,c)::r=>(X.env.cells.lookup y=some c/\(X.env.kindOf y=some .cell∨X.env.kindOf y=some .free))/\CellsOk X r
def ym(X:Cx)(sc:Scope)(cl:List (Str×Addr)):List Str->List (Option Nat)->Prop
 | [],[]=>True
 | y::r,o::q=>(match o with
   | none=>True
   | some j=>X.N[j]?=some y/\(cl.lookup y).isSome=true/\((relabel sc X.env).names.lookup y=some .cell∨(relabel sc X.env).names.lookup y=some .free))/\ym X sc cl r q
 | _,_=>False
noncomputable def capS(cap:List (Option Nat))(σ:St):St:=cap.map λo=>match o with | none=>none | some j=>(σ[j]?).join
structure Ey(X:Cx)(sc:Scope)(cl:List (Str×Addr))(N':List Str)(cap:List (Option Nat)):Prop where
 clos:closureFor sc X.env=pure cl
 kind:sc.kind=.function
 G9:(sc.names.all λy=>y.2 != .cell)=true
 locals:(sc.names.all λy=>y.2 != .local || sc.names.lookup y.1==some .local)=true
 frees:(sc.names.all λy=>y.2 != .free || (cl.lookup y.1).isSome)=true
 cells:CellsOk X cl
 caps:ym X sc cl N' cap
theorem CellsOk.get{X:Cx}:∀{cl:List (Str×Addr)}{y:Str}{c:Addr},CellsOk X cl->cl.lookup y=some c->X.env.cells.lookup y=some c/\(X.env.kindOf y=some .cell∨X.env.kindOf y=some .free)
 | [],_,_,_,e=>by simp at e
 | (z,d)::r,y,c,h,e=>by
  by_cases q:y=z
  .subst q
   simp only[List.lookup_cons,beq_self_eq_true] at e
   cases e
   exact h.1
  .have q':(y==z)=false:=beq_eq_false_iff_ne.mpr q
   simp only[List.lookup_cons,q'] at e
   exact CellsOk.get h.2 e
theorem ym.get{X:Cx}{sc:Scope}{cl:List (Str×Addr)}:∀{N':List Str}{cap:List (Option Nat)}{i j:Nat}{y:Str},ym X sc cl N' cap->N'[i]?=some y->cap[i]?=some (some j) ->
  X.N[j]?=some y/\(cl.lookup y).isSome=true/\((relabel sc X.env).names.lookup y=some .cell∨(relabel sc X.env).names.lookup y=some .free)
 | [],_,_,_,_,_,e,_=>by simp at e
 | _::_,[],_,_,_,_,_,e=>by simp at e
 | z::r,o::q,0,j,y,h,e1,e2=>by
  simp at e1 e2
  subst e1 e2
  exact h.1
 | z::r,o::q,i+1,j,y,h,e1,e2=>ym.get (i:=i) h.2 (by simpa using e1) (by simpa using e2)
theorem ym.len{X:Cx}{sc:Scope}{cl:List (Str×Addr)}:∀{N':List Str}{cap:List (Option Nat)},ym X sc cl N' cap->cap.length=N'.length
 | [],[],_=>rfl
 | [],_::_,h=>h.elim
 | _::_,[],h=>h.elim
 | _::_,_::_,h=>by simp[ym.len h.2]
theorem Un.sameBut{fs ex:List Addr}{H H':Hp}{h h' h'':Heap}{C:Addr}(u:Un fs ex H H' h h')(sb:Heap.SameBut C h' h'')(hC:h.get? C=none):Un fs ex H H' h h'':=by
 have ne:∀b o,h.get? b=some o->b≠C:=λb o e z=>by rw[z,hC] at e;cases e
 refine⟨λb o e n h1 h2=>(sb.2 b (ne b o e)).trans (u.keep b o e n h1 h2),λb o e n h1 h2=>?_,u.free,λb o e hx=>?_,u.tups,u.vp,u.yg⟩
 .obtain⟨sl,q⟩:=u.slot b o e n h1 h2
  exact⟨sl,(sb.2 b (ne b o e)).trans q⟩
 .obtain⟨o',q⟩:=u.there b o e hx
  exact⟨o',(sb.2 b (ne b o e)).trans q⟩
theorem HOk.sameBut{P:Program}{w:World}{H:Hp}{h h':Heap}{C:Addr}(x:HOk P w H h)(sb:Heap.SameBut C h h')(hC:H C=none):HOk P w H h':=λb o e=>by
 refine(x b o e).stay (λc u hc q=>(sb.2 c ?_).trans q) (λ_ q=>q) λ_ _ q=>q
 rintro rfl
 rcases hc with z | z
 .rw[←z,hC] at e;cases e
 .rw[hC] at z;cases z
def uL(X:Cx)(ifs:List Expr)(t:TT):Prop :=
 ∀(pins:List (Addr×Obj))(s:Shared)(σ:St)(H:Hp)(Q:Bool->Hp->Prop),Inv X pins σ H s->t σ H Q ->
  wpAny (model X.prog X.w) X.A (forIn ifs true λc r=>if r=true then do let ok ←isTrue c X.env (eval c X.env);pure (ForInStep.yield ok) else pure (ForInStep.yield r)) (TP X pins σ Q) X.xe s
def tTrue:TT:=λ_ H Q=>Q true H
theorem pf_nil{X:Cx}:uL X [] tTrue:=λ_ _ _ H _ I h=>wpAny_tests_nil ⟨H,I,h⟩
theorem pf_one{X:Cx}{c:Expr}{t:TT}(h:PT X c t):uL X [c] t:=λpins s σ H Q I hw=>wpAny_tests_one (h pins s σ H Q I hw)
def CompGo(J:It)(g:TG)(tt:TT)(te:TE)(acc:Addr)(τ0:St)(H1:Hp)(Q:VK):Prop:=∃W:Nat->Nat->List V->St->Hp->Prop,
 (∃m,W 0 m [] τ0 (upd H1 acc (.lst [])))/\∀i m ys τ H,W i m ys τ H->H acc=some (.lst ys)/\ys.length<sizeLine /\
  ((J.stop i H/\Q (.ref acc) H)∨(J.go i H/\∀x H',J.yld i H x H'->g x τ H' λτ2 H2=>tt τ2 H2 λb H3 =>
   if b=true then te τ2 H3 λy H4=>H4 acc=some (.lst ys)/\∃m',m'<m/\W (i+1) m' (ys++[y]) τ2 (upd H4 acc (.lst (ys++[y])))
   else ∃m',m'<m/\W (i+1) m' ys τ2 H3))
def uo(cap:List (Option Nat))(wi:TI)(g:TG)(tt:TT)(te:TE):TE:=λσ H Q=>wi σ H λJ H1=>∀acc,H1 acc=none->CompGo J g tt te acc (capS cap σ) H1 Q
abbrev nLs:Obj:={ cls:=.type "list",data:=.seq ([]:List Value).toArray }
abbrev ccX(X:Cx)(N':List Str)(sc:Scope)(cl:List (Str×Addr))(s2:Shared)(H2:Hp)(fp:List Addr)(pn:List (Addr×Obj)):Cx:=bh X N' sc cl { s2 with heap:=s2.heap.push nLs } (upd H2 s2.heap.objs.size (.lst [])) (s2.heap.push nLs).objs.size fp pn
section
variable{X:Cx}{tg iter elt:Expr}{ifs:List Expr}{sc:Scope}{pos:Pos}{cl:List (Str×Addr)}{N':List Str}{cap:List (Option Nat)}{wi:TI}{g:TG}{tt:TT}{te:TE}
theorem inv_comp{pins:List (Addr×Obj)}{σ:St}{H:Hp}{s:Shared}{fp:List Addr}{h1:Heap}(S:Ey X sc cl N' cap)(I:Inv X pins σ H s)(hf:∀b∈fp,yZ X pins H b)(hlt:∀b∈fp,b<s.heap.objs.size)
  (hns:h1.Ns s.heap.objs.size (λx=>([]:List (Str×Value)).reverse.lookup x)) (keep:∀b o,s.heap.get? b=some o->h1.get? b=some o) :
  Inv (bh X N' sc cl s H s.heap.objs.size fp (X.pn++pins)) [] (capS cap σ) H { s with heap:=h1 }:=by
 have nC:∀b o,s.heap.get? b=some o->b≠s.heap.objs.size:=λb o e=>Nat.ne_of_lt (Heap.lt_size e)
 have fsub:∀b,b≠X.env.locals->b∉X.fs->b∉frs X.stack:=λb h1 h2 z=>(List.mem_cons.mp (I.Nv b z)).elim h1 h2
 refine⟨⟨I.ok.mod,?_,I.ok.glob,I.ok.blt,Nat.le_refl _,λx y c e1 e2=>?_,λx hx=>?_,λx c e=>absurd e (by simp),I.ok.hd,I.ok.frames,.inl rfl,λb hb=>?_,I.bs,Nat.le_trans I.ok.bsz I.sz,λb o e hb=>?_,λb hb=>?_,I.stack,I.O3⟩,
  rfl,I.bare,Un.kept keep,⟨_,hns,λi y v e1 e2 e3=>?_⟩,λy c e=>?_,I.hok.fresh (Nat.le_refl _),λy c e=>?_,λp hp=>?_,I.hok.kept keep,?_⟩
 .show (relabel sc X.env).kind=.function
  exact S.kind
 .exact I.ok.inj _ _ c (S.cells.get e1).1 (S.cells.get e2).1
 ·
  have key:∀k,(relabel sc X.env).names.lookup x=some k->k≠.local->k≠.globalImplicit->(x,NameKind.free)∈sc.names∨(x,k)∈sc.names:=λk hk h1 h2=>by
   obtain⟨⟨n,k0⟩,hm,e⟩:=List.mem_map.mp (PySem.mem_of_lookup hk)
   dsimp only at e
   split at e
   .rename_i q
    have q1:k0=NameKind.free:=by
     rw[Bool.and_eq_true,Bool.and_eq_true] at q
     exact beq_iff_eq.mp q.1.1
    cases e
    subst q1
    exact .inl hm
   .cases e
    exact .inr hm
  have fin:(x,NameKind.free)∈sc.names->∃c,cl.lookup x=some c:=λhm=>by
   have z:=List.all_eq_true.mp S.frees _ hm
   simp only[bne_self_eq_false,Bool.false_or] at z
   exact Option.isSome_iff_exists.mp z
  have hx:(relabel sc X.env).names.lookup x=some .cell∨(relabel sc X.env).names.lookup x=some .free:=hx
  rcases hx with hx | hx
  .rcases key _ hx (by decide) (by decide) with z | z
   .exact fin z
   .exact absurd (List.all_eq_true.mp S.G9 _ z) (by simp)
  .rcases key _ hx (by decide) (by decide) with z | z <;> exact fin z
 .obtain⟨_,_,_,_,h5,_⟩:=hf b hb
  exact⟨Nat.ne_of_lt (hlt b hb),λx c e=>h5 x c (S.cells.get e).1⟩
 .obtain⟨_,_,_,h4,_,_⟩:=hf b hb
  rcases h4 with z | z
  .exact I.ok.aZ b o e z
  .exact absurd (Nat.lt_of_lt_of_le (Nat.lt_of_lt_of_le (Heap.lt_size e) I.ok.bsz) z) (Nat.lt_irrefl _)
 .obtain⟨_,h2,h3,_,_,_⟩:=hf b hb
  exact fsub b h2 h3
 ·
  unfold capS at e2
  rw[List.getElem?_map] at e2
  cases ec:cap[i]? with
  | none=>rw[ec] at e2;cases e2
  | some o =>
   rw[ec] at e2
   cases o with
   | none=>cases e2
   | some j =>
    have e2:(σ[j]?).join=some v:=Option.some.inj e2
    obtain⟨hj,hs,hk⟩:=S.caps.get e1 ec
    obtain⟨c,hc⟩:=Option.isSome_iff_exists.mp hs
    obtain⟨c1,c2⟩:=S.cells.get hc
    have ej:σ[j]?=some (some v):=by
     cases q:σ[j]? with
     | none=>rw[q] at e2;cases e2
     | some z=>rw[q] at e2;exact congrArg some e2
    obtain⟨m,hm,hl⟩:=id I.loc
    obtain⟨u,ru,lk⟩:=hl j y v hj ej (c2.elim (λz=>.inr (.inl z)) λz=>.inr (.inr z))
    refine⟨u,ru,?_⟩
    rcases lk with⟨z,_⟩| ⟨_,c',e',⟨oc,eo,ed⟩⟩
    .rcases c2 with q | q <;> · rw[q] at z;cases z
    .rw[c1] at e'
     cases e'
     exact .inr ⟨hk,c,hc,oc,keep _ _ eo,ed⟩
 .obtain⟨v,o,e1,e2⟩:=I.cell y c (S.cells.get e).1
  exact⟨v,o,keep _ _ e1,e2⟩
 .exact I.sE y c (S.cells.get e).1
 .have hp:p∈X.pn++pins:=by simpa using hp
  obtain⟨e,n,ne,nf,d⟩:=I.pin p hp
  exact⟨keep _ _ e,n,nC _ _ e,fsub _ ne nf,d⟩
 .show (capS cap σ).length=N'.length
  unfold capS
  rw[List.length_map]
  exact S.caps.len
theorem Bs{pp:Pos}{use:Option (Value->Sem Unit)}{Q':Value->Shared->Prop}{pins:List (Addr×Obj)}{s:Shared}{σ:St}{H:Hp}{Q:VK}(S:Ey X sc cl N' cap)(hc:X.calm=true)(hi:PI X tg iter wi)(hg:∀s₀ H₀ C fp pn,PG (bh X N' sc cl s₀ H₀ C fp pn) tg g)(ht:∀s₀ H₀ C fp pn,uL (bh X N' sc cl s₀ H₀ C fp pn) ifs tt)
  (he:∀s₀ H₀ C fp pn,PE (bh X N' sc cl s₀ H₀ C fp pn) elt te) (hs:∀x,foldedSetIterable iter X.env x=pure x) (I:Inv X pins σ H s) (h:uo cap wi g tt te σ H Q)
  (fin:∀(s6:Shared)(C a:Addr)(H6:Hp)(m:Str->Option Value),s6.heap.Ns C m->yZ X pins H6 C->(∀h',Heap.SameBut C s6.heap h'->Inv X pins σ H6 { s6 with heap:=h' })->Q (.ref a) H6->compPost (model X.prog X.w) X.A X.xe use Q' (.ref a) C (.ok .next) s6) :
  wpAny (model X.prog X.w) X.A (comprehension (.ListComp elt [⟨tg,iter,ifs,0⟩] sc pos) sc X.env pp (newList []) false (eval iter X.env) use) Q' X.xe s:=by
 have G9:∀y∈sc.names,y.2≠.cell:=λy hy z=>absurd (List.all_eq_true.mp S.G9 y hy) (by rw[z];decide)
 have locals:∀y∈sc.names,y.2=.local->sc.names.lookup y.1=some .local:=λy hy z=>by
  have q:=List.all_eq_true.mp S.locals y hy
  rw[z] at q
  simpa using q
 refine wpAny_comprehension_free (use:=use) rfl hs S.clos S.kind locals (thn (hi pins s σ H _ I h) λv s1 h1=>thn h1 λitv s2 h2=>?_)
 obtain⟨it,fp,tn,J,H2,e,I2,T,st2,f2,hR⟩:=h2
 subst e
 have nAcc:H2 s2.heap.objs.size=none:=I2.hok.fresh (Nat.le_refl _)
 obtain⟨W,⟨m0,w0⟩,step⟩:=hR s2.heap.objs.size nAcc
 refine wpAny_newObj_type (wpAny_newFunctionEnv G9 (by intro y hy;simp at hy) (λh1 hns hsb=>?_) S.kind)
 have I3:Inv X pins σ (upd H2 s2.heap.objs.size (.lst [])) { s2 with heap:=s2.heap.push nLs } :=
  I2.laid (t':=s2.toks) (λb u e=>Heap.get?_push_of_some _ e) (Nat.le_refl _) ⟨Nat.zero_le _,[],0,.nil,Heap.get?_push_size _ rfl⟩
 have fpn:∀b∈fp,b<s2.heap.objs.size:=λb hb=>by
  obtain⟨o,e,_⟩:=T.obj _ _ st2 b hb
  exact Heap.lt_size e
 have f3:∀b∈fp,yZ X pins (upd H2 s2.heap.objs.size (.lst [])) b:=λb hb=>⟨by rw[aF (Nat.ne_of_lt (fpn b hb))];exact(f2 b hb).1,(f2 b hb).2⟩
 have hC:(s2.heap.push nLs).get? (s2.heap.push nLs).objs.size=none:=Heap.get?_none_of_le (Nat.le_refl _)
 have keep:∀b o,(s2.heap.push nLs).get? b=some o->h1.get? b=some o:=λb o e =>
  (hsb.2 b (Nat.ne_of_lt (Heap.lt_size e))).trans (Heap.get?_push_of_some _ e)
 have I4:=inv_comp S I3 f3 (λb hb=>by
  show b<(s2.heap.push _).objs.size
  rw[Heap.size_push]
  exact Nat.lt_succ_of_lt (fpn b hb)) hns keep
 have fpc:∀{H':Hp},(∀b∈fp,H' b=none)->∀b∈fp,yZ (ccX X N' sc cl s2 H2 fp (X.pn++pins)) [] H' b :=
  λhn b hb=>⟨hn b hb,(I4.ok.exf b hb).1,I4.ok.exfs b hb,.inl hb,(I4.ok.exf b hb).2,λp hp=>(f2 b hb).2.2.2.2.2 p (by simpa using hp)⟩
 have loop:∀s5:Shared,(∃i m ys τ H',Inv (ccX X N' sc cl s2 H2 fp (X.pn++pins)) [] τ H' s5 /\
   tn i s5.heap/\(∀b∈fp,H' b=none)/\W i m ys τ H')->codeAny (model X.prog X.w) X.A (.compLoop (.ListComp elt [⟨tg,iter,ifs,0⟩] sc pos) 0 (.ref it) (.ref s2.heap.objs.size) (compEnvC sc cl (s2.heap.push nLs).objs.size X.env))
   (compPost (model X.prog X.w) X.A X.xe use Q' (.ref s2.heap.objs.size) (s2.heap.push nLs).objs.size) s5:=by
  rintro s5 ⟨i0,m0',ys0,τ0,H0',I0,st0,fr0,w0'⟩
  refine Jw (λn s'=>∃i ys τ H',Inv (ccX X N' sc cl s2 H2 fp (X.pn++pins)) [] τ H' s' /\
   tn i s'.heap/\(∀b∈fp,H' b=none)/\W i n ys τ H') ?_ m0' ⟨i0,ys0,τ0,H0',I0,st0,fr0,w0'⟩
  rintro n s' ⟨i,ys,τ,H',I',st,fr,wv⟩
  obtain⟨hacc,hlen,alt⟩:=step i n ys τ H' wv
  rcases alt with⟨stop,q⟩| ⟨go,stp⟩
  .refine thn (T.done (ccX X N' sc cl s2 H2 fp (X.pn++pins)) rfl rfl rfl hc i [] s' τ H' _ I' (fpc fr) st stop) λr s6 qq=>?_;obtain⟨hr,I6⟩:=qq
   subst hr
   obtain⟨m,hn,_⟩:=id I6.loc
   refine fin s6 _ _ H' m hn (I2.fpOk (by rw[Heap.size_push];exact Nat.le_succ _) I6.free) (λh' sb=>?_) q
   have un:Un (frs X.stack) fp H2 H' s2.heap h':=(Un.laid (o:=.lst []) (h':=s2.heap.push nLs) (λb u e=>Heap.get?_push_of_some _ e) (Nat.le_refl _) nAcc).trans (I6.base.sameBut sb hC)
   exact I2.call' (s':={ s6 with heap:=h' }) (ch:=fp) I6.os un (I6.hok.sameBut sb I6.free) I6.bare λb hb=>⟨(f2 b hb).2.2.2.1,(f2 b hb).2.1,(f2 b hb).2.2.2.2.1,(f2 b hb).2.2.2.2.2⟩
  .refine thn (T.item (ccX X N' sc cl s2 H2 fp (X.pn++pins)) rfl rfl rfl hc i [] s' τ H' _ I' (fpc fr) st go) λr s6 qq=>?_;obtain⟨u,hr,h6⟩:=qq
   subst hr
   refine thn h6 λ_ s7 qq=>?_;obtain⟨x,H7,I7,rx,y7,st7,fr7⟩:=qq
   have I7':=I7.pinned (fpc fr7) (T.obj _ _ st7)
   refine thn (hg _ _ _ _ _ _ s7 τ H7 x u _ I7' rx (stp x H7 y7)) λ_ s8 qq=>?_;obtain⟨τ8,H8,I8,q8⟩:=qq
   refine thn (ht _ _ _ _ _ _ s8 τ8 H8 _ I8 q8) λok s9 qq=>?_;obtain⟨H9,I9,q9⟩:=qq
   have again:∀{τa:St}{Ha:Hp}{sa:Shared}{ysa:List V},Inv (ccX X N' sc cl s2 H2 fp (X.pn++pins)) ([]++BW fp s7.heap) τa Ha sa ->
     (∃m',m'<n/\W (i+1) m' ysa τa Ha)->∃m',m'<n/\∃i ys τ H',Inv (ccX X N' sc cl s2 H2 fp (X.pn++pins)) [] τ H' sa /\
      tn i sa.heap/\(∀b∈fp,H' b=none)/\W i m' ys τ H':=fun{τa Ha sa ysa} Ia ⟨m',lt,wa⟩=>by
    refine⟨m',lt,i+1,ysa,τa,Ha,Ia.wY,T.keep _ _ _ st7 λb hb o e=>(Ia.pin (b,o) (List.mem_append_right _ (List.mem_append_right _ (qg hb e)))).1,λb hb=>?_,wa⟩
    obtain⟨o,e,_⟩:=T.obj _ _ st7 b hb
    exact(Ia.pin (b,o) (List.mem_append_right _ (List.mem_append_right _ (qg hb e)))).2.1
   cases ok with
   | false=>exact again I9 q9
   | true =>
    refine thn (he _ _ _ _ _ _ s9 τ8 H9 _ I9 q9) λv s10 qq=>?_;obtain⟨y,H10,I10,ry,ha,hw⟩:=qq
    refine thn (uH _ s10 τ8 H10 (.ref s2.heap.objs.size) [y] (.ref s2.heap.objs.size) [v] (λ_ Hq=>Hq=upd H10 s2.heap.objs.size (.lst (ys++[y]))) I10 rfl (.cons ry .nil) ⟨_,_,_,rfl,rfl,ha,hlen,rfl⟩) λ_ s11 qq=>?_;obtain⟨_,H11,I11,_,e11⟩:=qq
    subst e11
    exact again I11 hw
 have start:∃i m ys τ H',Inv (ccX X N' sc cl s2 H2 fp (X.pn++pins)) [] τ H' { s2 with heap:=h1 } /\
   tn i h1/\(∀b∈fp,H' b=none)/\W i m ys τ H' :=
  ⟨0,m0,[],capS cap σ,_,I4,T.keep _ _ _ st2 λb hb o e=>keep _ _ (Heap.get?_push_of_some _ e),λb hb=>(f3 b hb).1,w0⟩
 exact codeAny_compStart_list (loop _ start) (T.self _ 0 _ _ _ (T.keep _ _ _ st2 λb hb o e=>keep _ _ (Heap.get?_push_of_some _ e)) (loop _ start))
theorem cA(S:Ey X sc cl N' cap)(hc:X.calm=true)(hi:PI X tg iter wi)(hg:∀s₀ H₀ C fp pn,PG (bh X N' sc cl s₀ H₀ C fp pn) tg g)(ht:∀s₀ H₀ C fp pn,uL (bh X N' sc cl s₀ H₀ C fp pn) ifs tt)
  (he:∀s₀ H₀ C fp pn,PE (bh X N' sc cl s₀ H₀ C fp pn) elt te) (hs:∀x,foldedSetIterable iter X.env x=pure x:=by intro _;rfl) :
  PE X (.ListComp elt [⟨tg,iter,ifs,0⟩] sc pos) (uo cap wi g tt te):=by
 intro pins s σ H Q I h
 rw[eval_ListComp]
 exact Bs (use:=none) (Q':=EP X pins σ Q) S hc hi hg ht he hs I h λs6 C a H6 m hn _ hI q=>⟨m,hn,λh' sb=>⟨.ref a,H6,hI h' sb,rfl,q⟩⟩
theorem gB{i:Nat}{x:Str}{pos' spos:Pos}(S:Ey X sc cl N' cap)(hc:X.calm=true)(hN:X.N.Nodup)(hi':X.N[i]?=some x)(hx:Loc X.env.scope x)(hi:PI X tg iter wi)(hg:∀s₀ H₀ C fp pn,PG (bh X N' sc cl s₀ H₀ C fp pn) tg g)(ht:∀s₀ H₀ C fp pn,uL (bh X N' sc cl s₀ H₀ C fp pn) ifs tt)
  (he:∀s₀ H₀ C fp pn,PE (bh X N' sc cl s₀ H₀ C fp pn) elt te) (hsw:swapsWith (.ListComp elt [⟨tg,iter,ifs,0⟩] sc pos) (some (.Name x pos')) spos.line X.env=pure true) (hs:∀x,foldedSetIterable iter X.env x=pure x:=by intro _;rfl)
  (hf:X.fn x=true∨X.env.scope.names.lookup x=some .local:=by first | exact .inl rfl | exact .inr rfl | assumption) :
  PS X (.Assign [.Name x pos'] (.ListComp elt [⟨tg,iter,ifs,0⟩] sc pos) spos) (zE (uo cap wi g tt te) (mZ i)):=by
 intro pins s σ H D I h
 rw[exec_Assign_Name_used _ _ _ _ hsw]
 refine wpAny_bind (wpAny_standAt (wpAny_bind ?_))
 show wpAny _ _ (do let _ ←comprehension (.ListComp elt [⟨tg,iter,ifs,0⟩] sc pos) sc X.env _ (newList []) false (eval iter X.env) (some (assign (.Name x pos') X.env))) _ _ s
 refine wpAny_bind (wpAny_mono (Bs (use:=some (assign (.Name x pos') X.env)) (Q':=λ_ s'=>SP X pins D .next s') S hc hi hg ht he hs I h λs6 C a H6 m hn fp hI q=>?_) (λ_ s' hq=>wpAny_pure (wpAny_pure hq)) λ_ _ e=>e)
 refine wpAny_assign_Name (Es (v:=.ref a) (hI _ (Heap.SameBut.refl _ _)) hN hi' hx rfl (λs7 I7 ⟨a7,sb7,ha7⟩=>?_) hf)
 have ne:C≠a7:=by
  rintro rfl
  rcases ha7 with e | e
  .exact fp.2.1 e
  .exact fp.2.2.2.2.1 _ _ e rfl
 refine⟨m,hn.sameBut sb7 ne,λh' sb=>?_⟩
 have un:Un (frs X.stack) [C] H6 H6 s7.heap h':=by
  have k:∀b o,s7.heap.get? b=some o->b∉[C]->h'.get? b=some o:=λb o e n=>(sb.2 b (λz=>n (by simp[z]))).trans e
  exact⟨λb o e _ _ n=>k b o e n,λb o e _ _ n=>⟨o.slots,k b o e n⟩,λ_ _ _ n _=>n,λb o e n=>⟨o,k b o e n⟩,λ_ _ q=>q,λ_ _ _ q=>q,λ_ ps q=>⟨#[],by simpa using q⟩⟩
 refine⟨_,H6,I7.call' (s':={ s7 with heap:=h' }) (ch:=[C]) rfl un (I7.hok.sameBut sb fp.1) I7.bare λb hb=>?_,q⟩
 obtain rfl:=List.mem_singleton.mp hb
 exact⟨fp.2.2.2.1,fp.2.1,fp.2.2.2.2.1,fp.2.2.2.2.2⟩
end
end L2
namespace L2
open PySem PySem.Spec PyProof.Rows
section
variable{X:Cx}{pins:List (Addr×Obj)}{σ:St}{H:Hp}{s:Shared}{h':Heap}
theorem Inv.vN{ch:List Addr}{a:Addr}{o:HO}{t':Nat}(I:Inv X pins σ H s)(hch:∀b∈ch,yZ X pins H b)(k:∀b u,b∉ch->s.heap.get? b=some u->h'.get? b=some u)(ha:s.heap.objs.size<=a)
  (new:cF X.prog X.w (upd H a o) h' a o):Inv X pins σ (upd H a o) { s with heap:=h',toks:=t' }:=by
 have hn:H a=none:=I.hok.fresh ha
 have nch:∀b u,H b=some u->b∉ch:=λb u e z=>by rw[(hch b z).1] at e;cases e
 have nea:∀b u,s.heap.get? b=some u->b≠a:=λb u e=>Nat.ne_of_lt (Nat.lt_of_lt_of_le (Heap.lt_size e) ha)
 refine I.step (g':=s.gens) (d':=s.drawn) (ch:=ch) (λb hb=>?_) (λb u _ _ hc e _=>k b u hc e) (λb u _ _ hc e _=>⟨u.slots,k b u hc e⟩) (λb u hc e n=>by rw[aF (nea b u e)];exact n) (λb u hc e=>⟨u,k b u hc e⟩)
  (λb xs e=>by rw[aF (aW e hn)];exact e) (λb u xs e=>by rw[aF (aW e hn)];exact e) (λb ps e=>⟨#[],by rw[aF (aW e hn),e];simp⟩) (λm hm=>?_) (λb u e=>?_) I.bare
 .obtain⟨_,h2,_,h4,h5,h6⟩:=hch b hb
  exact⟨h4,h2,h5,h6⟩
 .obtain⟨o',es,ep,ho,r⟩:=hm
  exact⟨o',es,ep,k _ o' (λz=>(hch _ z).2.1 rfl) ho,r⟩
 .by_cases hb:b=a
  .subst hb
   rw[aG] at e
   cases e
   exact new
  .rw[aF hb] at e
   refine(I.hok b u e).stay (λc v hc q=>k c v ?_ q) (λc q=>by rw[aF (aW q hn)];exact q) λc xs q=>by rw[aF (aW q hn)];exact q
   rcases hc with z | z
   .rw[z];exact nch b u e
   .exact nch c _ z
end
def Ite(K:Frag)(a:Addr):It :=
 ⟨λi H=>∃xs x,SqL K H a xs/\xs[i]?=some x,λi H v H'=>∃p x,v=.ref p/\H p=none/\H'=upd H p (.tup [.int i,x])/\∀xs,SqL K H a xs->xs[i]?=some x,λi H=>∃xs,SqL K H a xs/\xs.length<=i⟩
theorem QR{P:Program}{w:World}{K:Frag}{es:List Expr}{kk:Nat}{tp:Pos}(a e it:Addr)(hne:e≠it):
  Turn P w K (.Tuple es kk tp) (Ite K a) [e,it] e (λi h=>(∃old,IsEnum h e it (i:Nat) old)/\h.IsListIter it a i) where
 mem:=by simp
 obj:=λi h st b hb=>by
  obtain⟨⟨old,s1⟩,s2⟩:=st
  rcases List.mem_cons.mp hb with z | z
  .subst z
   exact⟨_,s1,λv q=>by
    have q':Data.fields _=Data.cell v:=q
    cases q'⟩
  .have z:b=it:=by simpa using z
   subst z
   obtain⟨o,e1,c,d⟩:=s2
   exact⟨o,e1,λv q=>by rw[d] at q;cases q⟩
 keep:=λi h h' st k=>by
  obtain⟨⟨old,s1⟩,s2⟩:=st
  exact⟨⟨old,k e (by simp) _ s1⟩,s2.at λo q=>k it (by simp) o q⟩
 item:=by
  intro X hP hw hK hc i pins s σ H E I hf st hg
  subst hP hw hK
  obtain⟨xs,x,hq,hx⟩:=hg
  obtain⟨⟨old,s1⟩,s2⟩:=st
  obtain⟨its,rv,p,hz⟩:=I.list hq
  obtain⟨u,hu,ru⟩:=rv.get hx
  refine wpAny_pyNext_enum_item s1 s2 p.isList (x:=u) (by simpa using hu) hne λh1 eo li tu sz kk'=>⟨_,rfl,wpAny_letOwnedTupleGo_enum eo λh2 ie sb=>?_⟩
  have hp:H s.heap.objs.size=none:=I.hok.fresh (Nat.le_refl _)
  have lt1:e<s.heap.objs.size:=Heap.lt_size s1
  have ne1:s.heap.objs.size≠e:=Nat.ne_of_gt lt1
  have tu2:h2.get? s.heap.objs.size=some { cls:=.type "tuple",data:=.seq #[.int i s.toks,u] }:=(sb.2 _ ne1).trans tu
  have I2:Inv X pins σ (upd H s.heap.objs.size (.tup [.int i,x])) { s with heap:=h2,toks:=s.toks+1 }:=I.vN (ch:=[e,it]) hf (λb o hb q=>by
    have hb1:b≠e:=λz=>hb (by simp[z])
    have hb2:b≠it:=λz=>hb (by simp[z])
    exact(sb.2 b hb1).trans (kk' b o hb1 hb2 q)) (Nat.le_refl _) ⟨by show 2<=sizeLine;decide,[.int i s.toks,u],.cons ⟨_,rfl⟩ (.cons ru .nil),_,tu2,rfl,0,rfl⟩
  refine⟨.ref s.heap.objs.size,_,I2,rfl,⟨_,x,rfl,hp,rfl,λys hy=>by rw[I.J2 hy hq];exact hx⟩,⟨⟨u,?_⟩,?_⟩,λb hb=>?_⟩
  .have q:IsEnum h2 e it ((i:Int)+1) u:=ie
   rw[show ((i:Int)+1)=((i+1:Nat):Int) by omega] at q
   exact q
  .obtain⟨o,e1,r⟩:=li
   exact⟨o,(sb.2 it (Ne.symm hne)).trans e1,r⟩
  .have lt2:b<s.heap.objs.size:=by
    rcases List.mem_cons.mp hb with z | z
    .rw[z];exact lt1
    .have z:b=it:=by simpa using z
     rw[z]
     obtain⟨o,e1,_⟩:=s2
     exact Heap.lt_size e1
   rw[aF (Nat.ne_of_lt lt2)]
   exact(hf b hb).1
 done:=by
  intro X hP hw hK hc i pins s σ H E I hf st hg
  subst hP hw hK
  obtain⟨xs,hq,hx⟩:=hg
  obtain⟨⟨old,s1⟩,s2⟩:=st
  obtain⟨its,rv,p,hz⟩:=I.list hq
  obtain⟨f0,f1,f2,f3,f4,f5⟩:=hf it (by simp)
  have hl:=rv.length
  exact wpAny_pyNext_enum_end (I.ok.hd hc) s1 s2 p.isList (by simp;omega) λh' eb=>⟨rfl,I.turned (t':=s.toks) (λb o hb q=>eb b o hb q) f0 f1 f3 f4 f5⟩
 self:=λ_ _ _ _ _ st h=>wpAny_pyIter_enum st.1.choose_spec h
section
variable{X:Cx}
def iEnum(K:Frag)(ta:TA):TI:=λσ H R=>ta σ H λvs H1=>∃a,vs=[.ref a]/\(∃xs,SqL K H1 a xs)/\R (Ite K a) H1
theorem pi_enum{es:List Expr}{kk:Nat}{tp:Pos}{l:Expr}{ta:TA}{p pos:Pos}(hg:Gl X "enumerate")(hm:X.mg "enumerate"=none)(ha:PA X [l] ta)(hs:starEach [l] X.env=[(false,eval l X.env)]:=by rfl):
  PI X (.Tuple es kk tp) (.Call (.Name "enumerate" p) [l] [] pos) (iEnum X.K ta):=by
 intro pins s σ H R I h
 refine Call_ (xU I hg hm PyProof.Rows.boot_enumerate (PyProof.Rows.callWith_type1 (thn (ha pos pins s σ H _ I h) λus s1 ⟨vs,H1,I1,r1,q1⟩=>?_) hs rfl))
 obtain⟨a,e,⟨xs,hq⟩,q⟩:=q1
 subst e
 cases r1 with
 | cons r rr =>
  cases rr
  cases r
  obtain⟨its,rv,pl,hz⟩:=I1.list hq
  refine call_enumerate_list pl.isList λh' ie li sz kp=>?_
  refine wpAny_pyIter_enum (it:=s1.heap.objs.size) (i:=0) (old:=.none) ie ?_
  have I2:Inv X pins σ H1 { s1 with heap:=h' }:=I1.kept (t':=s1.toks) kp
  refine⟨s1.heap.objs.size+1,[s1.heap.objs.size+1,s1.heap.objs.size],_,_,H1,rfl,I2,QR a (s1.heap.objs.size+1) s1.heap.objs.size (Nat.succ_ne_self _),⟨⟨.none,ie⟩,li⟩,λb hb=>?_,q⟩
  have hb':s1.heap.objs.size<=b:=by
   rcases List.mem_cons.mp hb with z | z
   .rw[z];exact Nat.le_succ _
   .have z:b=s1.heap.objs.size:=by simpa using z
    exact Nat.le_of_eq z.symm
  obtain⟨g1,g2,g3,g4,g5,g6⟩:=I1.fpOk hb' (I1.hok.fresh hb')
  exact⟨g1,g2,g3,g4,g5,g6⟩
end
section
variable{X:Cx}{e:Expr}{es:List Expr}{pos:Pos}
end
end L2
namespace L2
open PySem PySem.Spec PyProof.Rows MX
section
variable{X:Cx}{CX:CXT}{k:Nat}{f C:Addr}{fd:FuncData}{ps:List Str}{sp:Sp}{dvs:List V}{ds:List Value}{E:XK}{x m:Str}{p pos apos:Pos}{e:Expr}{es:List Expr}{t:TA}
structure zF(K:Frag)(C:Addr)(m:Str)(v:Value):Prop where
 sp:PySem.W.specialIn K (.ref C) "__getattribute__"=some (some (.builtin "type.__getattribute__"))
 rd:PySem.W.readsIn K C (.type "type")=true
 at_:PySem.W.findCls K (.ref C) (.type "type") m=some (.val v)
theorem Ko{pl:Sem Bool}(F:cJ X.prog X.w X.K X.mg X.base CX k f fd ps sp)(hr:dz k X.A)(hg:Gl X x)(hm:X.mg x=some (.ref C))(ca:zF X.K C m (.ref f))(hk:keepIn X.K (.ref f)=true)(hb:Binds X.K fd ps ds)(hd:Vals dvs ds)(hx:nM CX X E)
  (ha:PA X (e::es) t) (hdb:(x==("__debug__":Str))=false:=by decide) (he:starEach (e::es) X.env=(false,eval e X.env)::starEach es X.env:=by rfl) (hpl:(backTo pos (starEach es X.env)).any (·.1)=false:=by rfl)
  (ht:eval (.Call (.Attribute (.Name x p) m apos) (e::es) [] pos) X.env=(do
   let ov ←eval (.Name x p) X.env
   standAt apos.atName
   let (f,first) ←holding [ov] (getMethod ov m pl)
   callWith pos f first (backTo pos (starEach (e::es) X.env)) (backToKw pos (keywordEach [] X.env))):=by rfl) :
  PE X (.Call (.Attribute (.Name x p) m apos) (e::es) [] pos) (Cv sp dvs E t):=by
 intro pins s σ H Q I h
 refine PySem.W.methodCall_KW (pl:=pl) (wC I hg hm ?_ hdb) ht
 refine PySem.W.method_cls I.kIn ca.sp (PySem.W.cls_value I.kIn ca.rd ca.at_ rfl ?_)
 have I1:=I.tok (s.toks+1)
 refine PySem.W.callWith_K (first:=[]) (h₀:=X.base) I.ok.mod.kin hk (thn (ha pos pins _ σ H _ I1 h) λus s1 ⟨vs,H1,I2,r,q⟩=>⟨I2.kIn,?_⟩) he hpl
 exact HN F hr hb hd hx I2 r q
end
def excP(n:Bool)(C:Addr)(dd:Option Addr)(e:Addr)(h:Heap):Prop:=∃o vs t,h.get? e=some o/\o.cls=.ref C/\o.dict=dd/\o.data=.fields vs/\vs[0]?=some (.ref t)/\(n=true->vs=#[.ref t,.none,.none,.none,.bool false,.none])
def xdP(fs:List (Str×V))(d:Addr)(h:Heap):Prop:=∃mA,h.Ns1 d mA/\(∀f,pG (fs.lookup f) (mA f))/\PySem.Within mA (fs.map (·.1))
abbrev HO.exc(n:Bool)(C:Addr)(dd:Option Addr)(e:Addr):HO:=.ext (excP n C dd e)
abbrev HO.xds(fs:List (Str×V))(d:Addr):HO:=.ext (xdP fs d)
section
variable{X:Cx}{CX:CXT}{k:Nat}{f C N:Addr}{fd:FuncData}{ps:List Str}{sp:Sp}{dvs:List V}{ds:List Value}{E:XK}{x m:Str}{p pos apos:Pos}{e:Expr}{es:List Expr}{t:TA}
end
end L2
namespace L2
open PySem PySem.Spec PyProof.Rows MX
section
variable{X:Cx}{pins:List (Addr×Obj)}{σ:St}{H:Hp}{s:Shared}{h':Heap}
end
section
variable{X:Cx}{o e value:Expr}{f:Str}{pos pos':Pos}{ta tv:TE}
inductive TyX (K:Frag) (H:Hp):V->Value->Prop where
 | of {x:V} {t:Value} (h:xJ K H x t):TyX K H x t
 | e0 {n:Bool} {a C:Addr} (h:H a=some (.exc n C none a)) (g:ExcGet K C):TyX K H (.ref a) (.ref C)
 | e1 {n:Bool} {a C d:Addr} {fs:List (Str×V)} (h:H a=some (.exc n C (some d) a)) (h':H d=some (.xds fs d)) (g:ExcGet K C):TyX K H (.ref a) (.ref C)
 | kt {a:Addr} {xs:List V} (h:SqT K H a xs):TyX K H (.ref a) (.type "tuple")
noncomputable def clsV:V->Value
 | .ref C=>.ref C
 | .ty n=>.type n
 | _=>.none
def rIsi(K:Frag)(xs:List V)(H:Hp)(Q:VK):Prop:=∃x c t b,xs=[x,c]/\(c=.ref (match c with | .ref C=>C | _=>0)∨c=.ty (match c with | .ty n=>n | _=>""))/\TyX K H x t/\PySem.W.kitOne K t (clsV c)=some b/\Q (.bl b) H
theorem call_isi:gH X (.builtin "isinstance") (rIsi X.K):=by
 intro pins s σ H xs us Q I r h
 obtain⟨x,c,t,b,rfl,hc,ty,ek,q⟩:=h
 cases r with
 | @cons _ u _ _ rx rr =>
  cases rr with
  | @cons _ cu _ _ rc rr =>
   cases rr
   have ec:cu=clsV c:=by
    rcases hc with z | z <;> · rw[z] at rc ⊢;exact rc
   subst ec
   have fin:∀tk,EP X pins σ Q (.bool b) { s with toks:=tk }:=λtk=>⟨.bl b,H,I.tok tk,rfl,q⟩
   cases ty with
   | of ty=>exact Qg I rx ty ek fin
   | @e0 n a C hH G =>
    cases rx
    obtain⟨⟨ob,vs,t0,e1,e2,e3,e4,e5⟩,_,_⟩:=I.hok a _ hH
    have IA:PySem.W.InstAt s.heap a ob C none:=⟨e1,e2,by unfold PySem.W.notCls;rw[e4],by rw[e3];trivial⟩
    exact PySem.W.kia_one (excKit G) I.kIn IA ek (λz=>nomatch z) fin
   | @e1 n a C d fs hH hD G =>
    cases rx
    obtain⟨⟨ob,vs,t0,e1,e2,e3,e4,e5⟩,_,_⟩:=I.hok a _ hH
    obtain⟨⟨mA,n1,rl,wi⟩,_,_⟩:=I.hok d _ hD
    obtain⟨oD,esD,epD,eD,_⟩:=n1
    have IA:PySem.W.InstAt s.heap a ob C (some oD):=⟨e1,e2,by unfold PySem.W.notCls;rw[e4],by rw[e3];exact eD⟩
    exact PySem.W.kia_one (excKit G) I.kIn IA ek (λz=>nomatch z) fin
   | @kt a xs hs =>
    cases rx
    obtain⟨its,_,⟨o,h1,h2,_⟩,_⟩:=I.tuple hs
    exact PySem.W.kia_one PySem.W.kitx_tuple I.kIn ⟨o,h1,h2⟩ ek (λz=>nomatch z) fin
end
end L2
namespace L2
open PySem PySem.Spec PyProof.Rows
mutual
inductive xq (K:Frag) (H:Hp):V->PyData->Prop
 | non:xq K H .non .none
 | bl (b:Bool):xq K H (.bl b) (.bool b)
 | int (i:Int):xq K H (.int i) (.int i)
 | str (x:Str):xq K H (.str x) (.str x)
 | lst {a:Addr} {xs:List V} {ds:List PyData} (h:SqL K H a xs) (r:gK K H xs ds):xq K H (.ref a) (.list ds)
 | tup {a:Addr} {xs:List V} {ds:List PyData} (h:SqT K H a xs) (r:gK K H xs ds):xq K H (.ref a) (.tuple ds)
inductive gK (K:Frag) (H:Hp):List V->List PyData->Prop
 | nil:gK K H [] []
 | cons {x:V} {xs:List V} {d:PyData} {ds:List PyData} (h:xq K H x d) (r:gK K H xs ds):gK K H (x::xs) (d::ds)
end
section
variable{X:Cx}{pins:List (Addr×Obj)}{σ:St}{H:Hp}{s:Shared}
mutual
theorem xq.reads(I:Inv X pins σ H s):∀{x:V}{d:PyData}{u:Value},xq X.K H x d->RelV x u->∃as,Reads s.heap u d as
 | _,_,_,.non,r=>by cases r;exact⟨_,.none⟩
 | _,_,_,.bl b,r=>by cases r;exact⟨_,.bool b⟩
 | _,_,_,.int i,r=>by obtain⟨t,rfl⟩:=r;exact⟨_,.int i t⟩
 | _,_,_,.str x,r=>by obtain⟨t,rfl⟩:=r;exact⟨_,.str x t⟩
 | _,_,_,.lst h q,r=>by
  cases r
  obtain⟨its,rv,p,_⟩:=I.list h
  obtain⟨as,z⟩:=gK.reads I q rv
  obtain⟨o,e,c,n,dd⟩:=p.isList
  exact⟨_,.list e c dd (by simpa using z)⟩
 | _,_,_,.tup h q,r=>by
  cases r
  obtain⟨its,rv,p,_⟩:=I.tuple h
  obtain⟨as,z⟩:=gK.reads I q rv
  obtain⟨o,e,c,n,dd⟩:=p
  exact⟨_,.tuple e c dd (by simpa using z)⟩
theorem gK.reads(I:Inv X pins σ H s):∀{xs:List V}{ds:List PyData}{us:List Value},gK X.K H xs ds->Vals xs us->∃as,ReadsAll s.heap us ds as
 | _,_,_,.nil,.nil=>⟨_,.nil⟩
 | _,_,_,.cons h q,.cons r rr=>by
  obtain⟨as,z⟩:=xq.reads I h r
  obtain⟨bs,y⟩:=gK.reads I q rr
  exact⟨_,.cons z y⟩
end
end
def rEqD(K:Frag)(neg:Bool):R2:=λx y H Q=>∃da db,xq K H x da/\xq K H y db/\da.canLay0=true/\db.canLay0=true/\da.depth<=50/\Q (.bl (PyData.eqv da db != neg)) H
section
variable{X:Cx}
theorem op_eqD(hu:X.A.units+64<cLine):OpR X (compareOp .Eq) (rEqD X.K false):=by
 intro pins s σ H x y v u Q I rx ry h
 obtain⟨da,db,d1,d2,c1,c2,dp,q⟩:=h
 obtain⟨as,r1⟩:=d1.reads I rx
 obtain⟨bs,r2⟩:=d2.reads I ry
 exact SeqAt.compareEq_reads r1 r2 c1 c2 (by omega) ⟨.bl (PyData.eqv da db),H,I,rfl,by simpa using q⟩
theorem op_neD(hu:X.A.units+64<cLine):OpR X (compareOp .NotEq) (rEqD X.K true):=by
 intro pins s σ H x y v u Q I rx ry h
 obtain⟨da,db,d1,d2,c1,c2,dp,q⟩:=h
 obtain⟨as,r1⟩:=d1.reads I rx
 obtain⟨bs,r2⟩:=d2.reads I ry
 exact SeqAt.compareNe_reads r1 r2 c1 c2 (by omega) ⟨.bl (!PyData.eqv da db),H,I,rfl,by simpa using q⟩
theorem op_mulS:OpR X (binaryOp .Mult) (λx y H Q=>∃i n,x=.str i/\y=.int n/\i.length<=1000/\0<=n/\n<=1000/\Q (.str (Txt.mul i n)) H):=by
 intro pins s σ H x y v u Q I rx ry h
 obtain⟨i,n,rfl,rfl,h1,h2,h3,q⟩:=h
 obtain⟨t,rfl⟩:=rx
 obtain⟨t',rfl⟩:=ry
 exact PySem.SB.mul (mulOk_of 1000 1000 h1 (by omega) (by omega) (by decide) (by decide)) λt'' k=>⟨.str (Txt.mul i n),H,I.tok k,⟨_,rfl⟩,q⟩
end
end L2
namespace L2
open PySem PySem.Spec PyProof.Rows
section
variable{κ:Type}[DecidableEq κ]
noncomputable def uP(kvs:List (κ×V))(k:κ):Option V:=(kvs.find? λkv=>decide (kv.1=k)).map (·.2)
noncomputable def putK(kvs:List (κ×V))(k:κ)(v:V):List (κ×V) :=
 if (kvs.any λkv=>decide (kv.1=k))=true then kvs.map (λkv=>if kv.1=k then (kv.1,v) else kv) else kvs++[(k,v)]
theorem w6{p:κ×V}{r:List (κ×V)}{k:κ}(e:p.1=k):uP (p::r) k=some p.2:=by simp[uP,List.find?_cons,e]
theorem wZ{p:κ×V}{r:List (κ×V)}{k:κ}(e:¬p.1=k):uP (p::r) k=uP r k:=by simp[uP,List.find?_cons,e]
theorem CP(k:κ):∀kvs:List (κ×V),(kvs.any λkv=>decide (kv.1=k))=(uP kvs k).isSome
 | []=>rfl
 | p::r=>by
  rw[List.any_cons]
  by_cases e:p.1=k
  .simp only[w6 e,decide_eq_true e,Bool.true_or,Option.isSome_some]
  .rw[wZ e,decide_eq_false e,Bool.false_or];exact CP k r
theorem sV(kvs:List (κ×V))(k:κ)(v:V):(putK kvs k v).length<=kvs.length+1:=by
 unfold putK
 split
 .rw[List.length_map];omega
 .rw[List.length_append,List.length_cons,List.length_nil];omega
theorem pG.oG{o:Option V}{u:Option Value}(r:pG o u):o.isSome=u.isSome:=by
 cases o with
 | none=>cases u with
  | none=>rfl
  | some _=>exact(show False from r).elim
 | some _=>cases u with
  | none=>exact(show False from r).elim
  | some _=>rfl
theorem pG.getD{o:Option V}{u:Option Value}{d:V}{d':Value}(r:pG o u)(rd:RelV d d'):RelV (o.getD d) (u.getD d'):=by
 cases o with
 | none=>cases u with
  | none=>exact rd
  | some _=>exact(show False from r).elim
 | some _=>cases u with
  | none=>exact(show False from r).elim
  | some _=>exact r
theorem KV.val{kvs:List (κ×V)}{vs:List (κ×Value)}(r:KV kvs vs)(k:κ):pG (uP kvs k) (valueAt vs k):=by
 unfold KV at r
 induction r with
 | nil=>exact True.intro
 | @cons p q ps qs h t ih =>
  obtain⟨h1,h2⟩:=h
  by_cases e:p.1=k
  .have e':q.1=k:=h1.symm.trans e
   have b:valueAt (q::qs) k=some q.2:=by simp[valueAt,List.find?_cons,e']
   rw[w6 e,b];exact h2
  .have e':¬q.1=k:=λz=>e (h1.trans z)
   have b:valueAt (q::qs) k=valueAt qs k:=by simp[valueAt,List.find?_cons,e']
   rw[wZ e,b];exact ih
theorem KV.any{kvs:List (κ×V)}{vs:List (κ×Value)}(r:KV kvs vs)(k:κ):(kvs.any λkv=>decide (kv.1=k))=vs.any λkv=>decide (kv.1=k):=by
 unfold KV at r
 induction r with
 | nil=>rfl
 | cons h t ih=>rw[List.any_cons,List.any_cons,ih,h.1]
theorem KV.repl{kvs:List (κ×V)}{vs:List (κ×Value)}(r:KV kvs vs)(k:κ){y:V}{u:Value}(ry:RelV y u):
  KV (kvs.map λkv=>if kv.1=k then (kv.1,y) else kv) (vs.map λkv=>if kv.1=k then (kv.1,u) else kv):=by
 unfold KV at r ⊢
 induction r with
 | nil=>exact .nil
 | @cons p q ps qs h t ih =>
  rw[List.map_cons,List.map_cons]
  refine .cons ?_ ih
  obtain⟨h1,h2⟩:=h
  by_cases e:p.1=k
  .rw[if_pos e,if_pos (h1.symm.trans e)];exact⟨h1,ry⟩
  .rw[if_neg e,if_neg (λz=>e (h1.trans z))];exact⟨h1,h2⟩
theorem KV.put{kvs:List (κ×V)}{vs:List (κ×Value)}(r:KV kvs vs)(k:κ){y:V}{u:Value}(ry:RelV y u):KV (putK kvs k y) (stored vs k u):=by
 unfold putK stored
 rw[r.any k]
 by_cases e:(vs.any λkv=>decide (kv.1=k))=true
 .rw[if_pos e,if_pos e];exact r.repl k ry
 .rw[if_neg e,if_neg e];exact Paired.snoc r ⟨rfl,ry⟩
theorem KV.length{kvs:List (κ×V)}{vs:List (κ×Value)}(r:KV kvs vs):kvs.length=vs.length:=Paired.length r
end
theorem yG{P:Program}{w:World}{k:Key}{u:Value}(r:RelV (kV k) u):(bw P w).is k u=true:=by
 cases k with
 | inl i=>obtain⟨t,e⟩:=(show ∃t,u=Value.int i t from r);subst e;exact J4 P w i t
 | inr x=>obtain⟨t,e⟩:=(show ∃t,u=Value.str x t from r);subst e;exact J5 P w x t
theorem Ek{P:Program}{w:World}:∀{ks:List Key}{us:List Value},Vals (ks.map kV) us->ItemsAre (bw P w) ks us
 | [],_,r=>by rw[List.map_nil] at r;cases r;exact .nil
 | k::ks,_,r=>by
  rw[List.map_cons] at r
  cases r with
  | cons h t=>exact .cons (yG h) (Ek t)
abbrev KT(H:Hp):List (List Key×V)->List (List Key×Addr×Value)->Prop:=Paired λp q=>p.1=q.1/\H q.2.1=some (.tup (p.1.map kV))/\RelV p.2 q.2.2
theorem KT.val{H:Hp}{kvs:List (List Key×V)}{xs:List (List Key×Addr×Value)}(r:KT H kvs xs)(k:List Key):pG (uP kvs k) ((atKey xs k).map (·.2)):=by
 induction r with
 | nil=>exact True.intro
 | @cons p q ps qs h t ih =>
  obtain⟨h1,_,h2⟩:=h
  by_cases e:p.1=k
  .have e':q.1=k:=h1.symm.trans e
   have b:atKey (q::qs) k=some q.2:=by simp[atKey,List.find?_cons,e']
   rw[w6 e,b];exact h2
  .have e':¬q.1=k:=λz=>e (h1.trans z)
   have b:atKey (q::qs) k=atKey qs k:=by simp[atKey,List.find?_cons,e']
   rw[wZ e,b];exact ih
theorem KT.repl{H:Hp}{kvs:List (List Key×V)}{xs:List (List Key×Addr×Value)}(r:KT H kvs xs)(k:List Key){y:V}{u:Value}(ry:RelV y u):
  KT H (kvs.map λkv=>if kv.1=k then (kv.1,y) else kv) (xs.map (putAt k u)):=by
 induction r with
 | nil=>exact .nil
 | @cons p q ps qs h t ih =>
  rw[List.map_cons,List.map_cons]
  refine .cons ?_ ih
  obtain⟨h1,h2,h3⟩:=h
  unfold putAt
  by_cases e:p.1=k
  .rw[if_pos e,if_pos (h1.symm.trans e)];exact⟨h1,h2,ry⟩
  .rw[if_neg e,if_neg (λz=>e (h1.trans z))];exact⟨h1,h2,h3⟩
theorem KT.put{H:Hp}{kvs:List (List Key×V)}{xs:List (List Key×Addr×Value)}(r:KT H kvs xs)(k:List Key){b:Addr}{y:V}{u:Value}(hb:H b=some (.tup (k.map kV)))(ry:RelV y u):
  KT H (putK kvs k y) (storedH xs k b u):=by
 have e:(kvs.any λkv=>decide (kv.1=k))=(atKey xs k).isSome:=by
  rw[CP,(r.val k).oG,Option.isSome_map]
 unfold putK storedH
 rw[e]
 by_cases q:(atKey xs k).isSome=true
 .rw[if_pos q,if_pos q];exact r.repl k ry
 .rw[if_neg q,if_neg q];exact Paired.snoc r ⟨rfl,hb,ry⟩
theorem KT.keeps{H H':Hp}{kvs:List (List Key×V)}{xs:List (List Key×Addr×Value)}(r:KT H kvs xs)(ht:∀b ys,H b=some (.tup ys)->H' b=some (.tup ys)):KT H' kvs xs :=
 Paired.mapP r λ_ _ z=>⟨z.1,ht _ _ z.2.1,z.2.2⟩
section
variable{P:Program}{w:World}{H:Hp}{h:Heap}{a:Addr}
theorem rd_of{u:HO}(ok:HOk P w H h)(e:Rd H a u):cF P w H h a u:=e.ok ok
theorem v7{kvs:List (Key×V)}(ok:HOk P w H h)(e:Rd H a (.dK kvs)):kvs.length<=sizeLine/\(a==sysModules)=false/\∃vs,KV kvs vs/\h.DictOf (bw P w) a vs :=
 show cF P w H h a (.dK kvs) from rd_of ok e
theorem dk_of{kvs:List (Key×V)}(ok:HOk P w H h)(e:H a=some (.dK kvs)):kvs.length<=sizeLine/\(a==sysModules)=false/\∃vs,KV kvs vs/\h.DictOf (bw P w) a vs:=v7 ok (.inl e)
theorem vB{ks:List Key}(ok:HOk P w H h)(e:H a=some (.tup (ks.map kV))):(tupleKind (bw P w)).is h ks a:=by
 obtain⟨_,its,r,o,h1,h2,n,h3⟩:=(show cF P w H h a (.tup (ks.map kV)) from ok a _ e)
 exact⟨o,its.toArray,n,h1,h2,h3,by simpa using Ek r⟩
theorem yw{kvs:List (List Key×V)}(ok:HOk P w H h)(e:Rd H a (.dT kvs)):kvs.length<=sizeLine/\(a==sysModules)=false /\
  ∃xs,KT H kvs xs/\h.DictOfH (tupleKind (bw P w)) a xs:=by
 obtain⟨z,y,xs,r,o,es,ep,h1,h2,h3,h4,h5⟩:=(show cF P w H h a (.dT kvs) from rd_of ok e)
 refine⟨z,y,xs,r,o,es,ep,h1,h2,h3,h4,λx hx=>?_,h5⟩
 have all:∀{l:List (List Key×V)}{m:List (List Key×Addr×Value)},KT H l m->∀x∈m,(tupleKind (bw P w)).is h x.1 x.2.1:=by
  intro l m q
  induction q with
  | nil=>intro x hx;exact nomatch hx
  | @cons p q ps qs hq t ih =>
   intro x hx
   rcases List.mem_cons.mp hx with e | hx
   .subst e
    exact vB ok (by rw[←hq.1];exact hq.2.1)
   .exact ih x hx
 exact all r x hx
theorem dt_of{kvs:List (List Key×V)}(ok:HOk P w H h)(e:H a=some (.dT kvs)):kvs.length<=sizeLine/\(a==sysModules)=false /\
  ∃xs,KT H kvs xs/\h.DictOfH (tupleKind (bw P w)) a xs:=yw ok (.inl e)
end
def n6(H:Hp)(a:Addr)(y:V)(r:Option V):Prop :=
 (∃kvs k,Rd H a (.dK kvs)/\y=kV k/\r=uP kvs k)∨∃kvs k b,Rd H a (.dT kvs)/\y=.ref b/\H b=some (.tup (k.map kV))/\r=uP kvs k
def DPut(H:Hp)(a:Addr)(y v:V)(H':Hp):Prop :=
 (∃kvs k,H a=some (.dK kvs)/\y=kV k/\kvs.length<sizeLine/\H'=upd H a (.dK (putK kvs k v))) ∨
 ∃kvs k b,H a=some (.dT kvs)/\y=.ref b/\H b=some (.tup (k.map kV))/\kvs.length<sizeLine/\H'=upd H a (.dT (putK kvs k v))
theorem n6.k{H:Hp}{a:Addr}{kvs:List (Key×V)}{k:Key}(e:H a=some (.dK kvs)):n6 H a (kV k) (uP kvs k):=.inl ⟨kvs,k,.inl e,rfl,rfl⟩
theorem DPut.k{H:Hp}{a:Addr}{kvs:List (Key×V)}{k:Key}{v:V}(e:H a=some (.dK kvs))(hl:kvs.length<sizeLine):DPut H a (kV k) v (upd H a (.dK (putK kvs k v))):=.inl ⟨kvs,k,e,rfl,hl,rfl⟩
section
variable{X:Cx}{pins:List (Addr×Obj)}{σ:St}{H:Hp}{s:Shared}{a:Addr}{y v:V}{u r:Value}{o:Option V}{A:Around}{E:Value->Shared->Prop}
theorem Inv.big(I:Inv X pins σ H s):sysModules<s.heap.objs.size:=by
 have h:mainGlobals<s.heap.objs.size:=(I.mod.glob.keeps I.bk).lt
 exact Nat.lt_trans (by decide) h
theorem Pg{Q:Value->Shared->Prop}(hu:A.units+1<cLine)(I:Inv X pins σ H s)(g:n6 H a y (some v))(ry:RelV y u)(h:∀w' s',Inv X pins σ H s'->RelV v w'->Q w' s'):
  wpAny (model X.prog X.w) A (getItem (.ref a) u) Q E s:=by
 rcases g with⟨kvs,k,e,ey,l⟩| ⟨kvs,k,b,e,ey,eb,l⟩
 .subst ey
  obtain⟨z,hd,vs,rel,dd⟩:=v7 I.hok e
  obtain⟨w',hw,rw'⟩:=pG.some_of (v:=v) (o:=valueAt vs k) (by rw[l];exact rel.val k)
  exact wpAny_getItem_of (yG ry) dd.mapOf hw (h w' _ (I.tok _) rw')
 .subst ey
  cases (show u=Value.ref b from ry)
  obtain⟨z,hd,xs,rel,dd⟩:=yw I.hok e
  obtain⟨w',hw,rw'⟩:=pG.some_of (v:=v) (o:=(atKey xs k).map (·.2)) (by rw[l];exact rel.val k)
  obtain⟨p,hp,hp2⟩:=Option.map_eq_some_iff.mp hw
  refine wpAny_getItem_heap (tupleKind_room_in1 hu) (vB I.hok eb) dd hp ?_
  rw[hp2]
  exact h w' _ (I.tok _) rw'
theorem d_in{Q:Value->Shared->Prop}(hu:A.units+1<cLine)(I:Inv X pins σ H s)(g:n6 H a y o)(ry:RelV y u)(h:∀s',Inv X pins σ H s'->Q (.bool o.isSome) s'):
  wpAny (model X.prog X.w) A (compareOp .In u (.ref a)) Q E s:=by
 rcases g with⟨kvs,k,e,ey,l⟩| ⟨kvs,k,b,e,ey,eb,l⟩
 .subst ey
  obtain⟨z,hd,vs,rel,dd⟩:=v7 I.hok e
  refine wpAny_in_of (yG ry) hd dd.mapOf ?_
  rw[←(rel.val k).oG,←l]
  exact h _ (I.tok _)
 .subst ey
  cases (show u=Value.ref b from ry)
  obtain⟨z,hd,xs,rel,dd⟩:=yw I.hok e
  refine wpAny_in_heap (tupleKind_room_in1 hu) (vB I.hok eb) hd dd ?_
  have q:=(rel.val k).oG
  rw[Option.isSome_map] at q
  rw[←q,←l]
  exact h _ (I.tok _)
theorem d_notIn{Q:Value->Shared->Prop}(hu:A.units+1<cLine)(I:Inv X pins σ H s)(g:n6 H a y o)(ry:RelV y u)(h:∀s',Inv X pins σ H s'->Q (.bool (!o.isSome)) s'):
  wpAny (model X.prog X.w) A (compareOp .NotIn u (.ref a)) Q E s:=by
 rcases g with⟨kvs,k,e,ey,l⟩| ⟨kvs,k,b,e,ey,eb,l⟩
 .subst ey
  obtain⟨z,hd,vs,rel,dd⟩:=v7 I.hok e
  refine wpAny_notIn_of (yG ry) hd dd.mapOf ?_
  rw[←(rel.val k).oG,←l]
  exact h _ (I.tok _)
 .subst ey
  cases (show u=Value.ref b from ry)
  obtain⟨z,hd,xs,rel,dd⟩:=yw I.hok e
  refine wpAny_notIn_heap (tupleKind_room_in1 hu) (vB I.hok eb) hd dd ?_
  have q:=(rel.val k).oG
  rw[Option.isSome_map] at q
  rw[←q,←l]
  exact h _ (I.tok _)
theorem N6{h':Heap}{t':Nat}{ob:HO}(I:Inv X pins σ H s)(mu:Mut (H a))(hs:Heap.SameBut a s.heap h')(he:∃q,h'.get? a=some q)(new:cF X.prog X.w (upd H a ob) h' a ob):
  Inv X pins σ (upd H a ob) { s with heap:=h',toks:=t' } :=
 I.write (x:=a) (e:=a) mu (.inl rfl) (λb q hb z=>(hs.2 b hb).trans z) he new
theorem dk_new{P:Program}{w:World}{H':Hp}{h':Heap}{kvs:List (Key×V)}{vs:List (Key×Value)}(z:kvs.length<=sizeLine)(hd:(a==sysModules)=false)(rel:KV kvs vs)(dd:h'.DictOf (bw P w) a vs):
  cF P w H' h' a (.dK kvs):=⟨z,hd,vs,rel,dd⟩
theorem Ph{H':Hp}{Q:Unit->Shared->Prop}(hu:A.units+1<cLine)(I:Inv X pins σ H s)(g:DPut H a y v H')(ry:RelV y u)(rv:RelV v r)(h:∀s',Inv X pins σ H' s'->Q () s'):
  wpAny (model X.prog X.w) A (setItem (.ref a) u r) Q E s:=by
 rcases g with⟨kvs,k,e,ey,l,eH⟩| ⟨kvs,k,b,e,ey,eb,l,eH⟩
 .subst ey eH
  obtain⟨z,hd,vs,rel,dd⟩:=dk_of I.hok e
  have hz:vs.length<=sizeLine:=by rw[←rel.length];exact z
  have hl:(putK kvs k v).length<=sizeLine:=by have:=sV kvs k v;omega
  refine wpAny_setItem_pairs (hsz:=hz) (yG ry) dd λh' dd' hs=>h _ ?_
  have he:∃q,h'.get? a=some q:=let ⟨q,_,_,hq,_⟩:=dd';⟨q,hq⟩
  exact N6 I (by rw[e];exact True.intro) hs he (dk_new hl hd (rel.put k rv) dd')
 .subst ey eH
  cases (show u=Value.ref b from ry)
  obtain⟨z,hd,xs,rel,dd⟩:=dt_of I.hok e
  have hz:xs.length<=sizeLine:=by rw[←Paired.length rel];exact z
  have hl:(putK kvs k v).length<=sizeLine:=by have:=sV kvs k v;omega
  refine wpAny_setItem_heap (hsz:=hz) (tupleKind_room_in1 hu) (vB I.hok eb) dd λh' dd' hs=>h _ ?_
  obtain⟨q,es,ep,hq,h2,h3,h4,_,h5⟩:=dd'
  refine N6 I (by rw[e];exact True.intro) hs ⟨q,hq⟩ ⟨hl,hd,_,(rel.put k eb rv).keeps λc ys ec=>?_,q,es,ep,hq,h2,h3,h4,h5⟩
  rw[aF (ne_of ec e (λz=>nomatch z))]
  exact ec
end
section
variable{X:Cx}{pins:List (Addr×Obj)}{σ:St}{H:Hp}{s:Shared}{a:Addr}{kvs:List (Key×V)}{k:Key}{u:Value}{A:Around}{E:Value->Shared->Prop}
end
def NoSl(i:Expr):Prop:=∀ov iv,subscripted i false ov iv=operate [ov,iv] (getItem ov iv)
theorem subD_of{prog:Program}{w:World}{A:Around}{E:Value->Shared->Prop}{s:Shared}{env:Env}{value slice:Expr}{pos:Pos}{T id:String}{Q:Value->Shared->Prop}
  (hl:typeLookup (.type T) "__getitem__"=pure (some (.builtin id))) (hs:NoSl slice)
  (h:wpAny (model prog w) A (eval value env) (λo s₁=>wpAny (model prog w) A (eval slice env) (λi s₂=>s₂.TypeIs o T/\wpAny (model prog w) A (getItem o i) Q E s₂) E s₁) E s) :
  wpAny (model prog w) A (eval (.Subscript value slice pos) env) Q E s:=by
 refine Subscript_ (wpAny_mono h (λo s₁ h₁=>wpAny_mono h₁ (λi s₂ h₂=>?_) λ_ _ x=>x) λ_ _ x=>x)
 obtain⟨hT,h₂⟩:=h₂
 unfold subscriptTail
 refine wpAny_bind ?_
 rw[getitemInPython_of_ne hT.not_modules]
 refine wpAny_bind (wpAny_specialOf hT hl ?_)
 have fin:wpAny (model prog w) A (subscripted slice false o i) (λr s₃=>wpAny (model prog w) A (letTemporaryGo value o r >>= λ_=>pure r) Q E s₃) E s₂:=by
  rw[hs o i]
  exact wpAny_operating (wpAny_mono h₂ (λr s₃ h₃=>wpAny_bind (wpAny_letTemporaryGo (wpAny_pure h₃))) λ_ _ x=>x)
 first
  | exact wpAny_pure (wpAny_bind fin)
  | exact wpAny_bind (wpAny_pure (wpAny_bind fin))
  | exact wpAny_bind fin
theorem JB{X:Cx}{pins:List (Addr×Obj)}{σ:St}{H:Hp}{s:Shared}{a:Addr}{y:V}{o:Option V}(I:Inv X pins σ H s)(g:n6 H a y o):s.TypeIs (.ref a) "dict":=by
 rcases g with⟨kvs,k,e,_,_⟩| ⟨kvs,k,b,e,_,_,_⟩
 .obtain⟨_,_,vs,_,dd⟩:=v7 I.hok e
  exact dd.typeIs
 .obtain⟨_,_,xs,_,dd⟩:=yw I.hok e
  exact dd.typeIs
def tDGet(td ty:TE):TE:=λσ H Q=>td σ H λx H1=>ty σ H1 λy H2=>∃a v,x=.ref a/\n6 H2 a y (some v)/\Q v H2
def tDIn(ty td:TE):TE:=λσ H Q=>ty σ H λy H1=>td σ H1 λx H2=>∃a o,x=.ref a/\n6 H2 a y o/\Q (.bl o.isSome) H2
def tDNotIn(ty td:TE):TE:=λσ H Q=>ty σ H λy H1=>td σ H1 λx H2=>∃a o,x=.ref a/\n6 H2 a y o/\Q (.bl (!o.isSome)) H2
def sDPut(td ty tv:TE):TS:=λD σ H=>tv σ H λv H1=>td σ H1 λx H2=>ty σ H2 λy H3=>∃a H4,x=.ref a/\DPut H3 a y v H4/\D.nx σ H4
section
variable{X:Cx}{o i e value:Expr}{pos pos' tpos:Pos}{td ty tv:TE}
theorem pe_dget(hu:X.A.units+1<cLine)(ho:PE X o td)(hi:PE X i ty)(hs:NoSl i):PE X (.Subscript o i pos) (tDGet td ty):=by
 intro pins s σ H Q I h
 refine subD_of PySem.F.slot_dict_getitem.lookup hs (thn (ho pins s σ H _ I h) λu s1 ⟨x,H1,I1,rx,q1⟩=>thn (hi pins s1 σ H1 _ I1 q1) λiv s2 qq=>?_);obtain⟨y,H2,I2,ry,a,v,ex,g,q2⟩:=qq
 subst ex
 obtain rfl:u=Value.ref a:=rx
 exact⟨JB I2 g,Pg hu I2 g ry λw' s3 I3 rw'=>⟨v,H2,I3,rw',q2⟩⟩
theorem pc_din(hu:X.A.units+1<cLine)(hi:PE X i ty)(ho:PE X o td):PC X .In i o (tDIn ty td):=by
 intro pins s σ H Q I h
 refine thn (hi pins s σ H _ I h) λiv s1 ⟨y,H1,I1,ry,q1⟩=>thn (ho pins s1 σ H1 _ I1 q1) λu s2 qq=>?_;obtain⟨x,H2,I2,rx,a,ov,ex,g,q2⟩:=qq
 subst ex
 obtain rfl:u=Value.ref a:=rx
 exact d_in hu I2 g ry λs3 I3=>⟨.bl ov.isSome,H2,I3,rfl,q2⟩
theorem Qw(hu:X.A.units+1<cLine)(hi:PE X i ty)(ho:PE X o td):PC X .NotIn i o (tDNotIn ty td):=by
 intro pins s σ H Q I h
 refine thn (hi pins s σ H _ I h) λiv s1 ⟨y,H1,I1,ry,q1⟩=>thn (ho pins s1 σ H1 _ I1 q1) λu s2 qq=>?_;obtain⟨x,H2,I2,rx,a,ov,ex,g,q2⟩:=qq
 subst ex
 obtain rfl:u=Value.ref a:=rx
 exact d_notIn hu I2 g ry λs3 I3=>⟨.bl (!ov.isSome),H2,I3,rfl,q2⟩
theorem ps_dput(hu:X.A.units+1<cLine)(ho:PE X o td)(hi:PE X i ty)(hv:PE X value tv)(hs:swapsWith value (some (.Subscript o i pos')) pos.line X.env=pure false):
  PS X (.Assign [.Subscript o i pos'] value pos) (sDPut td ty tv):=by
 intro pins s σ H D I h
 refine wpAny_Assign_Subscript (thn (hv pins s σ H _ I h) λr s1 ⟨v,H1,I1,rv,q1⟩=>thn (ho pins s1 σ H1 _ I1 q1) λu s2 ⟨x,H2,I2,rx,q2⟩=>thn (hi pins s2 σ H2 _ I2 q2) λiv s3 ⟨y,H3,I3,ry,a,H4,ex,g,q3⟩=>?_) hs
 subst ex
 obtain rfl:u=Value.ref a:=rx
 exact Ph hu I3 g ry rv λs4 I4=>⟨σ,H4,I4,q3⟩
end
theorem dk_empty{P:Program}{w:World}{H:Hp}(h:Heap)(hb:sysModules<h.objs.size):cF P w H (h.push { cls:=.type "dict",data:=.dict #[] }) h.objs.size (.dK []) :=
 ⟨Nat.zero_le _,beq_eq_false_iff_ne.mpr (Ne.symm (Nat.ne_of_lt hb)),[],.nil,Heap.DictOf.new h⟩
def tDNewK:TE:=λ_ H Q=>∀p,H p=none->Q (.ref p) (upd H p (.dK []))
section
variable{X:Cx}{pos:Pos}
theorem pe_dnewK:PE X (.Dict [] [] pos) tDNewK:=λpins s σ H Q I h =>
 wpAny_Dict_empty ⟨.ref s.heap.objs.size,_,I.laid (a:=s.heap.objs.size) (o:=.dK []) (t':=s.toks) (λ_ _ q=>Heap.get?_push_of_some _ q) (Nat.le_refl _) (dk_empty s.heap I.big),rfl,h _ (I.hok.fresh (Nat.le_refl _))⟩
end
noncomputable def sY(kvs more:List (Key×V)):List (Key×V):=more.foldl (λacc kv=>putK acc kv.1 kv.2) kvs
theorem KV.merge:∀{more:List (Key×V)}{rs:List (Key×Value)}{kvs:List (Key×V)}{vs:List (Key×Value)},KV more rs->KV kvs vs->KV (sY kvs more) (merged vs rs):=by
 intro more rs kvs vs r
 unfold KV at r
 induction r generalizing kvs vs with
 | nil=>intro q;exact q
 | @cons p q ps qs h t ih =>
  intro r0
  have e:KV (putK kvs p.1 p.2) (stored vs q.1 q.2):=by
   have:=r0.put p.1 h.2
   rw[←h.1];exact this
  exact ih e
theorem uW:∀(more kvs:List (Key×V)),(sY kvs more).length<=kvs.length+more.length
 | [],kvs=>by show kvs.length<=kvs.length+0;omega
 | p::r,kvs=>by
  have h1:=uW r (putK kvs p.1 p.2)
  have h2:=sV kvs p.1 p.2
  show (sY (putK kvs p.1 p.2) r).length<=_
  rw[List.length_cons];omega
structure M1(X:Cx)(o:Expr)(m:Str)(apos:Pos)(e:Expr)(cpos:Pos):Prop where
 base:attributeBase o m X.env (eval o X.env)=eval o X.env
 few:((backTo cpos (starEach [e] X.env)).all (λx=>!x.1) && (backToKw cpos (keywordEach [] X.env)).all (λx=>x.1.isSome)
  && decide (([e]:List Expr).length+([]:List Keyword).length+(if ([]:List Keyword).isEmpty then 0 else 1)<30))=true
 line:(apos.endLine==cpos.line)=true
 trees:backTo cpos (starEach [e] X.env)=[(false,eval e X.env)]
structure M2(X:Cx)(o:Expr)(m:Str)(apos:Pos)(e f:Expr)(cpos:Pos):Prop where
 base:attributeBase o m X.env (eval o X.env)=eval o X.env
 few:((backTo cpos (starEach [e,f] X.env)).all (λx=>!x.1) && (backToKw cpos (keywordEach [] X.env)).all (λx=>x.1.isSome)
  && decide (([e,f]:List Expr).length+([]:List Keyword).length+(if ([]:List Keyword).isEmpty then 0 else 1)<30))=true
 line:(apos.endLine==cpos.line)=true
 trees:backTo cpos (starEach [e,f] X.env)=[(false,eval e X.env),(false,eval f X.env)]
def IsD(H:Hp)(a:Addr):Prop:=(∃kvs,Rd H a (.dK kvs))∨∃kvs,Rd H a (.dT kvs)
theorem isD_at{X:Cx}{pins:List (Addr×Obj)}{σ:St}{H:Hp}{s:Shared}{a:Addr}(I:Inv X pins σ H s)(d:IsD H a):
  s.TypeIs (.ref a) "dict"/\(∀b,Value.ref a=.ref b->∃ob,s.heap.get? b=some ob/\ob.dict=none)/\(a==sysModules)=false:=by
 rcases d with⟨kvs,e⟩| ⟨kvs,e⟩
 .obtain⟨_,hd,vs,_,dd⟩:=v7 I.hok e
  refine⟨dd.typeIs,λb q=>?_,hd⟩
  cases q
  obtain⟨ob,_,_,h1,h2,_⟩:=dd
  exact⟨ob,h1,h2.2.1⟩
 .obtain⟨_,hd,xs,_,dd⟩:=yw I.hok e
  refine⟨dd.typeIs,λb q=>?_,hd⟩
  cases q
  obtain⟨ob,_,_,h1,h2,_⟩:=dd
  exact⟨ob,h1,h2.2.1⟩
section
variable{X:Cx}{pins:List (Addr×Obj)}{σ:St}{H:Hp}{s:Shared}{a:Addr}{y d:V}{u r:Value}{o:Option V}{A:Around}{E:Value->Shared->Prop}
theorem d_get1{Q:Value->Shared->Prop}(hu:A.units+1<cLine)(I:Inv X pins σ H s)(g:n6 H a y o)(ry:RelV y u)(h:∀w' s',Inv X pins σ H s'->RelV (o.getD .non) w'->Q w' s'):
  wpAny (model X.prog X.w) A (call (.builtin "dict.get") [.ref a,u]) Q E s:=by
 rcases g with⟨kvs,k,e,ey,l⟩| ⟨kvs,k,b,e,ey,eb,l⟩
 .subst ey
  obtain⟨z,hd,vs,rel,dd⟩:=v7 I.hok e
  refine call_meetsIn PySem.F.slot_dict_get dd.typeIs PySem.F.entry_dict_get (PySem.F.args_dict_get_2 _ _) (meets_dict_get (bw X.prog X.w) a (yG ry) hd) ⟨_,dd.mapOf,h _ _ (I.tok _) ?_⟩
  rw[l]
  exact(rel.val k).getD rfl
 .subst ey
  cases (show u=Value.ref b from ry)
  obtain⟨z,hd,xs,rel,dd⟩:=yw I.hok e
  refine call_meetsIn PySem.F.slot_dict_get dd.typeIs PySem.F.entry_dict_get (PySem.F.args_dict_get_2 _ _) (meetsH_dict_get (tupleKind (bw X.prog X.w)) a b hd) ⟨tupleKind_room_in1 hu,k,xs,vB I.hok eb,dd,h _ _ (I.tok _) ?_⟩
  rw[l]
  exact(rel.val k).getD rfl
theorem d_get2{Q:Value->Shared->Prop}(hu:A.units+1<cLine)(I:Inv X pins σ H s)(g:n6 H a y o)(ry:RelV y u)(rd:RelV d r)(h:∀w' s',Inv X pins σ H s'->RelV (o.getD d) w'->Q w' s'):
  wpAny (model X.prog X.w) A (call (.builtin "dict.get") [.ref a,u,r]) Q E s:=by
 rcases g with⟨kvs,k,e,ey,l⟩| ⟨kvs,k,b,e,ey,eb,l⟩
 .subst ey
  obtain⟨z,hd,vs,rel,dd⟩:=v7 I.hok e
  refine call_meetsIn PySem.F.slot_dict_get dd.typeIs PySem.F.entry_dict_get (PySem.F.args_dict_get_3 _ _ _) (meets_dict_get_default (bw X.prog X.w) a (yG ry) hd r) ⟨_,dd.mapOf,h _ _ (I.tok _) ?_⟩
  rw[l]
  exact(rel.val k).getD rd
 .subst ey
  cases (show u=Value.ref b from ry)
  obtain⟨z,hd,xs,rel,dd⟩:=yw I.hok e
  refine call_meetsIn PySem.F.slot_dict_get dd.typeIs PySem.F.entry_dict_get (PySem.F.args_dict_get_3 _ _ _) (meetsH_dict_get_default (tupleKind (bw X.prog X.w)) a b hd r) ⟨tupleKind_room_in1 hu,k,xs,vB I.hok eb,dd,h _ _ (I.tok _) ?_⟩
  rw[l]
  exact(rel.val k).getD rd
end
def tDGet2(td ty tx:TE):TE:=λσ H Q=>td σ H λx H1=>∃a,x=.ref a/\IsD H1 a/\ty σ H1 λy H2=>tx σ H2 λz H3=>∃o,n6 H3 a y o/\Q (o.getD z) H3
section
variable{X:Cx}{o e f:Expr}{apos cpos:Pos}{td ty tx:TE}
theorem pe_dget2(hu:X.A.units+1<cLine)(ho:PE X o td)(he:PE X e ty)(hf:PE X f tx)(m:M2 X o "get" apos e f cpos):PE X (.Call (.Attribute o "get" apos) [e,f] [] cpos) (tDGet2 td ty tx):=by
 intro pins s σ H Q I h
 refine wpAny_Call_method m.base m.few m.line PySem.F.plainAttrs_dict PySem.F.slot_dict_get PySem.F.type_dict_get (thn (ho pins s σ H _ I h) λu s1 qq=>?_);obtain⟨x,H1,I1,rx,a,ex,d,q1⟩:=qq
 subst ex
 obtain rfl:u=Value.ref a:=rx
 obtain⟨t1,t2,_⟩:=isD_at I1 d
 refine⟨t1,t2,?_⟩
 rw[m.trees]
 refine Calls.callWith_builtin rfl (Calls.evalArgs_plain (Calls.spliced_cons (thn (he pins s1 σ H1 _ I1 q1) λiv s2 ⟨y,H2,I2,ry,q2⟩ =>
  Calls.spliced_cons (thn (hf pins s2 σ H2 _ I2 q2) λfv s3 ⟨z,H3,I3,rz,ov,g,q3⟩=>Calls.spliced_nil ?_))))
 exact d_get2 hu I3 g ry rz λw' s4 I4 rw'=>⟨_,H3,I4,rw',q3⟩
end
section
variable{X:Cx}{pins:List (Addr×Obj)}{σ:St}{H:Hp}{s:Shared}{a:Addr}{kvs:List (Key×V)}{A:Around}{E:Value->Shared->Prop}
end
section
variable{X:Cx}{pins:List (Addr×Obj)}{σ:St}{H:Hp}{s:Shared}{a:Addr}{y:V}{u:Value}{A:Around}{E:Value->Shared->Prop}
end
end L2
namespace PySem
open Sem (wp)
theorem Qj:typeLookup (.type "list") "keys"=pure none:=am_miss_of_fast (by kernel_rfl)
theorem Mp{prog:Program}{w:World}{A:Around}{E:Value->Shared->Prop}{s:Shared}{a:Addr}{o:Obj}{xs:Array Value}{k:Nat}{Q:Option Value->Shared->Prop}
  (hx:s.heap.get? a=some o) (hc:o.cls=.type "list") (hdat:o.data=.seq xs k) (hd:o.dict=none) (hA:A.handled=none)
  (h:∀h' tk,(∀b ob,s.heap.get? b=some ob->h'.get? b=some ob)->Q none { s with heap:=h',toks:=tk }) :
  wpAny (model prog w) A (getAttr? (.ref a) "keys") Q E s:=by
 obtain⟨c,dct,dat,sl⟩:=o
 simp only at hc hdat hd
 subst hc hdat hd
 obtain⟨hp,g,d,tk,os⟩:=s
 have hT:∀tk',(⟨hp,g,d,tk',os⟩:Shared).TypeIs (.ref a) "list":=λ_=>⟨_,hx,rfl⟩
 have f1:=sub_AttributeError
 have f3:=F.slot_list_getattribute.lookup
 have f4:=F.slot_list_getattribute.bind (.ref a)
 have f5:=am_list_getattr_none
 unfold getAttr? getAttrBy? getAttrBy
 repeat (any_goals (first | assumption | exact hT _ | ((with_reducible show wpAny _ _ (call (Value.builtin "list.__getattribute__") _ _) _ _ _);refine call_meets F.slot_list_getattribute (hT _) am_entry_list_getattribute (F.args_list_getattribute_2 _ _) (meets_getattribute_miss_list a xs k sl "keys" _ Qj (by decide +kernel) (by size_fits)) ⟨hx,hA,λh' tk' e hx'=>?_⟩) | wp_step))
 obtain⟨t',u',he⟩:=hx'.there
 show wpAny _ _ (getattributeRaised _ _ _ _ _ _ _) _ _ _
 unfold getattributeRaised
 repeat (any_goals (first | assumption | wp_step))
 exact h _ _ hx'.keeps
theorem v8:plainId "dict.update.loop"=true:=by decide +kernel
theorem JC:entryFor table "dict.update.loop"=some Builtin.«dict.update.loop»:=entryFor_of_tree (by kernel_rfl)
section
variable{prog:Program}{w:World}{K:Type}[DecidableEq K]{knd:KeyKind prog w K}{A:Around}{R:Result->Shared->Prop}
theorem zz{T:Addr}{vs:Array Value}{s:Shared}{Q:List Value->Shared->Prop}{E:Value->Shared->Prop}(hT:s.heap.IsTuple T vs)(h:Q vs.toList s):wpAny (model prog w) A (Builtin.Dict.pairItems (.ref T)) Q E s:=by
 unfold Builtin.Dict.pairItems
 refine wpAny_bind (wpAny_typeOf hT.typeIs ?_)
 simp only[show ((Value.type "tuple"==Value.type "list") || (Value.type "tuple"==Value.type "tuple"))=true by decide,if_true]
 obtain⟨o,ho,_,n,hd⟩:=hT
 exact wpAny_bind (wpAny_seqItems ho hd (wpAny_pure h))
theorem v4{I l d:Addr}{items:Array Value}(hh:A.in1.handled=none)(dI:d≠I)(dl:d≠l)(Il:l≠I)(ps:List (K×Value))(hn:items.size=ps.length):∀(k i:Nat)(t:Tok)(s:Shared)(kvs:List (K×Value)),ps.length - i=k->i<=ps.length->s.heap.IsListIter I l i->s.heap.IsList l items->s.heap.DictOf knd d kvs->kvs.length+(ps.length - i)<=sizeLine ->
  (∀(j:Nat)(p:K×Value),ps[j]?=some p->∃(T:Addr)(key:Value),items[j]?=some (Value.ref T)/\T≠I/\T≠d/\s.heap.IsTuple T #[key,p.2]/\knd.is p.1 key=true) ->
  (∀h' tk kvs',h'.DictOf knd d kvs'->kvs'=(ps.drop i).foldl (λacc p=>stored acc p.1 p.2) kvs->(∀b o,b≠I->b≠d->s.heap.get? b=some o->h'.get? b=some o)->R (.ok (.ret .none)) { s with heap:=h',toks:=tk }) ->
  codeAny (model prog w) A (.builtin "dict.update.loop" ⟨[.ref d,.ref I,.int i t,.none],[]⟩) R s:=by
 intro k
 induction k with
 | zero =>
  intro i t s kvs hk hi hit hl hd hz hp hR
  have hin:i=ps.length:=by omega
  subst hin
  refine codeAny_builtin JC ?_
  rw[Around.under_plainId v8 _]
  show wpAny _ A.in1 (pyNext (.ref I) >>= _) _ _ s
  refine wpAny_bind ((Walks.list hh I l Il items).done s _ _ ⟨by rw[hn];exact hit,hl⟩ λh' tk hk'=>?_)
  show wpAny _ _ (Builtin.Dict.addKeywords d [] >>= _) _ _ _
  have:=hR h' tk kvs ⟨_,_,_,hk' d _ (by simp[dI]) hd.choose_spec.choose_spec.choose_spec.1,hd.choose_spec.choose_spec.choose_spec.2⟩ (by rw[List.drop_of_length_le (Nat.le_refl _)];rfl) (λb o h1 h2 e=>hk' b o (by simp[h1]) e)
  exact wpAny_bind (wpAny_pure (wpAny_pure this))
 | succ k ih =>
  intro i t s kvs hk hi hit hl hd hz hp hR
  have hlt:i<ps.length:=by omega
  obtain⟨p,ep⟩:∃p,ps[i]?=some p:=⟨_,List.getElem?_eq_getElem hlt⟩
  obtain⟨T,key,eT,TI,Td,hT,hkey⟩:=hp i p ep
  have hdr:ps.drop i=p::ps.drop (i+1):=by
   rw[List.drop_eq_getElem_cons hlt]
   rw[List.getElem?_eq_getElem hlt] at ep
   rw[Option.some.inj ep]
  refine codeAny_builtin JC ?_
  rw[Around.under_plainId v8 _]
  show wpAny _ A.in1 (pyNext (.ref I) >>= _) _ _ s
  refine wpAny_bind ((Walks.list hh I l Il items).item i s _ _ (by omega) ⟨hit,hl⟩ λv h' tk hP hst' hk'=>?_)
  have hP:items[i]?=some v:=hP
  rw[eT] at hP
  cases hP
  have kT:∀b,b≠I->∀o,s.heap.get? b=some o->h'.get? b=some o:=λb hb o e=>hk' b o (by simp[hb]) e
  have hT':(h':Heap).IsTuple T #[key,p.2]:=let ⟨o,ho,r⟩:=hT;⟨o,kT T TI o ho,r⟩
  have hd':(h':Heap).DictOf knd d kvs:=let ⟨o,es,ep,ho,r⟩:=hd;⟨o,es,ep,kT d dI o ho,r⟩
  refine wpAny_bind (wpAny_holding (wpAny_bind (wpAny_tryCatch (zz (s:={ s with heap:=h',toks:=tk }) hT' ?_))))
  show wpAny _ _ (holding [key,p.2] (dictSet d key p.2)) _ _ _
  refine wpAny_holding (wpAny_dictSet_pairs (s:={ s with heap:=h',toks:=tk }) hkey hd' (λh'' hd'' hs''=>?_) (by omega))
  have kk:∀b,b≠I->b≠d->∀o,s.heap.get? b=some o->h''.get? b=some o:=λb h1 h2 o e=>(hs''.2 b h2).trans (kT b h1 o e)
  refine wpAny_pure ⟨plainId_quiet v8 _,ih (i+1) _ _ (stored kvs p.1 p.2) (by omega) hlt (hst'.1.at λo e=>(hs''.2 I (λz=>dI z.symm)).trans e) (hst'.2.at λo e=>(hs''.2 l (λz=>dl z.symm)).trans e) hd'' (by have:=stored_length_le kvs p.1 p.2;omega) (λj q eq=>?_) λh3 tk3 kvs3 d3 e3 k3=>?_⟩
  .obtain⟨T2,key2,a1,a2,a3,a4,a5⟩:=hp j q eq
   exact⟨T2,key2,a1,a2,a3,let ⟨o,ho,r⟩:=a4;⟨o,kk T2 a2 a3 o ho,r⟩,a5⟩
  .exact hR h3 tk3 kvs3 d3 (by rw[hdr];exact e3) λb o h1 h2 e=>k3 b o h1 h2 (kk b h1 h2 o e)
theorem zb{E:Value->Shared->Prop}{s:Shared}{l:Addr}{o:Obj}{items:Array Value}{n0:Nat}{Q:Value->Shared->Prop}(hx:s.heap.get? l=some o)(hc:o.cls=.type "list")(hdat:o.data=.seq items n0)(hdn:o.dict=none)(hA:∀B:Around,B.handled=A.handled->B.handled=none)(ps:List (K×Value))(hn:items.size=ps.length)(hz:ps.length<=sizeLine)
  (hp:∀(j:Nat)(p:K×Value),ps[j]?=some p->∃(T:Addr)(key:Value),items[j]?=some (Value.ref T)/\s.heap.IsTuple T #[key,p.2]/\knd.is p.1 key=true)
  (h:∀h' tk,h'.DictOf knd s.heap.objs.size (ps.foldl (λacc p=>stored acc p.1 p.2) [])->(∀b ob,s.heap.get? b=some ob->h'.get? b=some ob)->Q (.ref s.heap.objs.size) { s with heap:=h',toks:=tk }) :
  wpAny (model prog w) A (call (.type "dict") [.ref l]) Q E s:=by
 refine callType_codes (Q₁:=λobj s₁=>obj=.ref s.heap.objs.size/\s₁={ s with heap:=s.heap.push { cls:=.type "dict",data:=.dict #[] } }) F.kt_called_dict (F.kt_typeCall_dict_1 _) F.entry_dict_init (kt_code_dict_new _ ⟨rfl,rfl⟩) ?_
 rintro obj s₁ ⟨rfl,rfl⟩
 have hnew:(s.heap.push { cls:=.type "dict",data:=.dict #[] }).DictOf knd s.heap.objs.size []:=Heap.DictOf.new s.heap
 have hx':(s.heap.push { cls:=.type "dict",data:=.dict #[] }).get? l=some o:=Heap.get?_push_of_some _ hx
 have hll:l<s.heap.objs.size:=Heap.lt_size hx
 refine⟨hnew.typeIs,F.args_dict_init_2 _ _,?_⟩
 unfold Builtin.«dict.__init__»
 refine wpAny_bind ?_
 unfold Builtin.Dict.selfAndRest
 refine wpAny_bind (wpAny_notOrdered_dict hnew.typeIs ?_)
 show wpAny _ _ (pure (s.heap.objs.size,[Value.ref l])) _ _ _
 refine wpAny_pure ?_
 show wpAny _ _ (Builtin.Dict.updateFrom "dict.__init__" s.heap.objs.size (.ref l) [] .none) _ _ _
 unfold Builtin.Dict.updateFrom
 refine wpAny_bind (wpAny_typeOf (T:="list") ⟨_,hx',hc⟩ ?_)
 rw[if_pos (by decide)]
 refine wpAny_bind (Mp hx' hc hdat hdn (hA _ rfl) λh1 tk1 k1=>?_)
 rw[if_pos (by rfl)]
 refine wpAny_bind (wpAny_rule ?_)
 have hl1:h1.IsList l items:=⟨o,k1 _ _ hx',hc,_,hdat⟩
 refine wpAny_bind (wpAny_pyIter_list (s:={ s with heap:=h1,toks:=tk1 }) hl1 ?_)
 have kd:∀b ob,s.heap.get? b=some ob->(h1.push { cls:=.type "list_iterator",data:=.fields #[.ref l,.int 0 0] }).get? b=some ob:=λb ob e=>Heap.get?_push_of_some _ (k1 b ob (Heap.get?_push_of_some _ e))
 obtain⟨od,es,ep,hod,rd⟩:=hnew
 have hod1:h1.get? s.heap.objs.size=some od:=k1 _ _ hod
 have ld:s.heap.objs.size<h1.objs.size:=Heap.lt_size hod1
 refine wpAny_pure ⟨plainId_quiet v8 _,v4 (knd:=knd) (A:=A.in1) (l:=l) (I:=h1.objs.size) (d:=s.heap.objs.size) (items:=items) (hA _ rfl) (Nat.ne_of_lt ld) (Nat.ne_of_gt hll) (Nat.ne_of_lt (Nat.lt_trans hll ld)) ps hn ps.length 0 0 { s with heap:=h1.push { cls:=.type "list_iterator",data:=.fields #[.ref l,.int 0 0] },toks:=tk1 } [] (by omega) (Nat.zero_le _) ⟨_,Heap.get?_push_size _ rfl,rfl,rfl⟩ (hl1.push _) ⟨od,es,ep,Heap.get?_push_of_some _ hod1,rd⟩ (by simpa using hz) (λj p e=>?_) λh3 tk3 kvs3 d3 e3 k3=>?_⟩
 .obtain⟨T,key,a1,a2,a3⟩:=hp j p e
  obtain⟨oT,hoT,rT⟩:=a2
  have lT:=Heap.lt_size hoT
  exact⟨T,key,a1,Nat.ne_of_lt (Nat.lt_trans lT ld),Nat.ne_of_lt lT,⟨oT,kd T oT hoT,rT⟩,a3⟩
 .refine⟨rfl,h h3 tk3 (by rw[e3] at d3;exact d3) λb ob e=>?_⟩
  have lb:=Heap.lt_size e
  exact k3 b ob (Nat.ne_of_lt (Nat.lt_trans lb ld)) (Nat.ne_of_lt lb) (kd b ob e)
end
end PySem
namespace L2
open PySem PySem.Spec PyProof.Rows
section
variable{X:Cx}{pins:List (Addr×Obj)}{σ:St}{H:Hp}{s:Shared}
theorem O5(I:Inv X pins σ H s):∀(ts:List Addr)(ps:List (Key×V)),ts.length=ps.length->(∀(j:Nat)(t:Addr)(p:Key×V),ts[j]?=some t->ps[j]?=some p->SqT X.K H t [kV p.1,p.2]) ->
  ∃rs:List (Key×Value),KV ps rs/\∀(j:Nat)(p:Key×Value),rs[j]?=some p->∃(T:Addr)(key:Value),ts[j]?=some T/\s.heap.IsTuple T #[key,p.2]/\(bw X.prog X.w).is p.1 key=true
 | [],[],_,_=>⟨[],.nil,λj p e=>by simp at e⟩
 | [],_::_,h,_=>by cases h
 | _::_,[],h,_=>by cases h
 | t::ts,p::ps,h,k=>by
  obtain⟨rs,r,q⟩:=O5 I ts ps (Nat.succ.inj h) λj t' p' e1 e2=>k (j+1) t' p' e1 e2
  obtain⟨its,v,ht,_⟩:=I.tuple (k 0 t p rfl rfl)
  obtain⟨key,val,rfl,rk,rv⟩:∃key val,its=[key,val]/\RelV (kV p.1) key/\RelV p.2 val:=by
   cases v with
   | cons a v=>cases v with
    | cons b v=>cases v;exact⟨_,_,rfl,a,b⟩
  refine⟨(p.1,val)::rs,.cons ⟨rfl,rv⟩ r,λj p' e=>?_⟩
  cases j with
  | zero =>
   cases e
   exact⟨t,key,rfl,ht,yG rk⟩
  | succ j=>exact q j p' e
theorem FQ(hc:X.calm=true):gH X (.type "dict") (λxs H Q=>∃(q:Addr)(ts:List Addr)(ps:List (Key×V)),xs=[.ref q]/\SqL X.K H q (ts.map V.ref)/\ts.length=ps.length/\(∀(j:Nat)(t:Addr)(p:Key×V),ts[j]?=some t->ps[j]?=some p->SqT X.K H t [kV p.1,p.2])/\∀d,H d=none->Q (.ref d) (upd H d (.dK (sY [] ps)))):=by
 intro pins s σ H xs us Q I r h
 obtain⟨q,ts,ps,rfl,hq,hl,ht,k⟩:=h
 obtain⟨u,rfl,rx⟩:=vals1 r
 cases rx
 obtain⟨its,r',pl,hz⟩:=I.list hq
 obtain⟨rs,rk,hp⟩:=O5 I ts ps hl ht
 have el:its.length=ps.length:=by rw[←hl,←List.length_map (f:=V.ref),r'.length]
 have ei:∀(j:Nat)(T:Addr),ts[j]?=some T->its[j]?=some (Value.ref T):=λj T e=>by
  obtain⟨u,e1,e2⟩:=r'.get (i:=j) (x:=V.ref T) (by rw[List.getElem?_map,e];rfl)
  cases e2
  exact e1
 obtain⟨ob,n0,ho,hcls,hdict,hdat⟩:=pl
 have lr:ps.length=rs.length:=rk.length
 refine zb (knd:=bw X.prog X.w) ho hcls hdat hdict (λB e=>?_) rs (by simp;omega) (by rw[List.length_map] at hz;omega) (λj p e=>?_) λh' tk dd kp=>?_
 .rw[e];exact I.ok.hd hc
 .obtain⟨T,key,a1,a2,a3⟩:=hp j p e
  exact⟨T,key,by simpa using ei j T a1,a2,a3⟩
 .have z:(sY [] ps).length<=sizeLine:=by
   have h1:=uW ps []
   rw[List.length_map] at hz
   simp at h1
   omega
  exact⟨.ref s.heap.objs.size,_,I.laid (a:=s.heap.objs.size) (o:=.dK (sY [] ps)) (t':=tk) (λb q hq=>kp b q hq) (Nat.le_refl _) (dk_new z (beq_eq_false_iff_ne.mpr (Ne.symm (Nat.ne_of_lt I.big))) (rk.merge .nil) dd),rfl,k _ (I.hok.fresh (Nat.le_refl _))⟩
end
end L2
namespace L2
open PySem PySem.Spec PyProof.Rows
section
variable{prog:Program}{w:World}{A:Around}{E:Value->Shared->Prop}{s:Shared}
theorem Qa{Q:Int->Shared->Prop}(h:Q 4238894112 { s with toks:=s.toks+1 }):wpAny (model prog w) A (pyHash .none) Q E s:=by
 have hT:s.TypeIs .none "NoneType":=rfl
 unfold pyHash
 have hv:[Value.none].any Value.onHeap=false:=rfl
 show wpAny _ _ (pyHashByItsType .none) Q E s
 unfold pyHashByItsType
 refine wpAny_bind ?_
 rw[cRoomFor,if_neg (by rw[hv];exact Bool.false_ne_true)];refine wpAny_pure ?_
 refine wpAny_bind (wpAny_specialOf hT F.slot_NoneType_hash.lookup ?_)
 show wpAny _ _ (if (some (Value.builtin "NoneType.__hash__")==some Value.none)=true then _ else _) Q E s
 rw[if_neg (by rw[beq_builtin_none];exact Bool.false_ne_true)]
 refine wpAny_bind (wpAny_specialOf hT F.slot_NoneType_hash.lookup ?_)
 show wpAny _ _ (callSpecialIfBoundUnlessNone? .none "__hash__" _ >>= _) Q E s
 refine wpAny_bind (wpAny_callSpecialIfBoundUnlessNone?_slot hT F.slot_NoneType_hash
  (wpAny_call_entry F.slot_NoneType_hash hT F.entry_NoneType_hash
   (show wpAny _ _ (do ret (←mkInt 4238894112)) _ _ s from wpAny_ret_mkInt ?_) (F.args_NoneType_hash_1 _)))
 show wpAny _ _ (if (decide (-(2:Int) ^ 63<=4238894112) && decide ((4238894112:Int)<2 ^ 63))=true then _ else _) Q E _
 rw[if_pos (by decide)]
 exact wpAny_pure h
end
noncomputable def oIs:Option Key->Value->Bool
 | none,v=>v==.none
 | some k,v=>wA k v
theorem iC{v:Value}(h:oIs none v=true):v=.none:=eq_of_beq h
def Ow(prog:Program)(w:World):PySem.KeyKind prog w (Option Key) where
 is:=oIs
 hash:=λk=>match k with
  | none=>4238894112
  | some k=>keyH w k
 inj:=λv a b ha hb=>by
  cases a with
  | none =>
   cases b with
   | none=>rfl
   | some b=>rw[iC ha] at hb;rcases bC hb with⟨i,t,rfl,e⟩| ⟨x,t,rfl,e⟩ <;> exact nomatch e
  | some a =>
   cases b with
   | none=>rw[iC hb] at ha;rcases bC ha with⟨i,t,rfl,e⟩| ⟨x,t,rfl,e⟩ <;> exact nomatch e
   | some b=>exact congrArg some ((bw prog w).inj v a b ha hb)
 byValue:=λk v h=>by
  cases k with
  | none=>rw[iC h];rfl
  | some k=>exact(bw prog w).byValue k v h
 pyHash:=fun{A E s k v Q} hv h=>by
  cases k with
  | none=>rw[iC hv];exact Qa h
  | some k=>exact(bw prog w).pyHash hv h
 eqBool:=fun{A E s a b u v Q} hu hv h=>by
  cases a with
  | none =>
   have:=iC hu
   subst this
   cases b with
   | none =>
    have:=iC hv
    subst this
    exact SeqAt.EqAt.same Value.none _ _ _ _ (by simpa using h)
   | some b =>
    rcases bC hv with⟨j,u,rfl,rfl⟩| ⟨y,u,rfl,rfl⟩
    .exact SeqAt.EqAt.none_int j u _ _ _ _ (by simpa using h)
    .exact SeqAt.EqAt.none_str y u _ _ _ _ (by simpa using h)
  | some a =>
   cases b with
   | none =>
    have:=iC hv
    subst this
    rcases bC hu with⟨j,u,rfl,rfl⟩| ⟨y,u,rfl,rfl⟩
    .exact SeqAt.EqAt.int_none j u _ _ _ _ (by simpa using h)
    .exact SeqAt.EqAt.str_none y u _ _ _ _ (by simpa using h)
   | some b=>exact(bw prog w).eqBool hu hv (by simpa using h)
 «strs»:=λk x t v h=>by
  cases k with
  | none=>exact nomatch (iC h)
  | some k=>exact(bw prog w).strs k x t v h
theorem map_opt{prog:Program}{w:World}{h:Heap}{a:Addr}{vs:List (Key×Value)}(dd:h.DictOf (bw prog w) a vs):∃f:Option Key->Option Value,h.MapOf (Ow prog w) a f/\f none=none:=by
 obtain⟨o,es,ep,ho,hx,hd,hk,hp,hn⟩:=dd
 refine⟨_,⟨o,es,ep,ho,hx,hd,λe he=>?_,λk=>rfl⟩,?_⟩
 .obtain⟨k,h1,h2⟩:=hk e he
  exact⟨some k,h1,h2⟩
 .show (es.find? λe=>oIs none e.key).map (·.val)=none
  have:es.find? (λe=>oIs none e.key)=none:=Array.find?_eq_none.mpr λe he q=>by
   obtain⟨k,h1,_⟩:=hk e he
   have q:=iC q
   have h1:wA k e.key=true:=h1
   rw[q] at h1
   rcases bC h1 with⟨i,t,rfl,e⟩| ⟨x,t,rfl,e⟩ <;> exact nomatch e
  rw[this]
  rfl
section
variable{X:Cx}{pins:List (Addr×Obj)}{σ:St}{H:Hp}{s:Shared}{a:Addr}{A:Around}{E:Value->Shared->Prop}
theorem d_get1n{kvs:List (Key×V)}{Q:Value->Shared->Prop}(I:Inv X pins σ H s)(e:Rd H a (.dK kvs))(h:∀s',Inv X pins σ H s'->Q .none s'):
  wpAny (model X.prog X.w) A (call (.builtin "dict.get") [.ref a,.none]) Q E s:=by
 obtain⟨z,hd,vs,rel,dd⟩:=v7 I.hok e
 obtain⟨f,hm,hf⟩:=map_opt dd
 refine call_meetsIn PySem.F.slot_dict_get dd.typeIs PySem.F.entry_dict_get (PySem.F.args_dict_get_2 _ _) (meets_dict_get (Ow X.prog X.w) a (k:=none) (show oIs none .none=true from rfl) hd) ⟨_,hm,?_⟩
 rw[hf]
 exact h _ (I.tok _)
def tDGet1N(td ty:TE):TE:=λσ H Q=>td σ H λx H1=>∃a,x=.ref a/\IsD H1 a/\ty σ H1 λy H2=>(y=.non/\(∃kvs,Rd H2 a (.dK kvs))/\Q .non H2)∨∃o,n6 H2 a y o/\Q (o.getD .non) H2
theorem Qx{o e:Expr}{apos cpos:Pos}{td ty:TE}(hu:X.A.units+1<cLine)(ho:PE X o td)(he:PE X e ty)(m:M1 X o "get" apos e cpos):PE X (.Call (.Attribute o "get" apos) [e] [] cpos) (tDGet1N td ty):=by
 intro pins s σ H Q I h
 refine wpAny_Call_method m.base m.few m.line PySem.F.plainAttrs_dict PySem.F.slot_dict_get PySem.F.type_dict_get (thn (ho pins s σ H _ I h) λu s1 qq=>?_);obtain⟨x,H1,I1,rx,a,ex,d,q1⟩:=qq
 subst ex
 obtain rfl:u=Value.ref a:=rx
 obtain⟨t1,t2,_⟩:=isD_at I1 d
 refine⟨t1,t2,?_⟩
 rw[m.trees]
 refine Calls.callWith_builtin rfl (Calls.evalArgs_plain (Calls.spliced_cons (thn (he pins s1 σ H1 _ I1 q1) λiv s2 ⟨y,H2,I2,ry,q2⟩=>Calls.spliced_nil ?_)))
 rcases q2 with⟨rfl,⟨kvs,hk⟩,q2⟩| ⟨ov,g,q2⟩
 .cases ry
  exact d_get1n I2 hk λs3 I3=>⟨.non,H2,I3,rfl,q2⟩
 .exact d_get1 hu I2 g ry λw' s3 I3 rw'=>⟨_,H2,I3,rw',q2⟩
end
end L2
namespace DL
open PySem PySem.Spec PyProof.Rows MX L2
inductive D where
 | non | bl (b:Bool) | int (i:Int) | str (x:Str) | ty (n:String) | cls (c:Nat)
 | lst (xs:List D) | tup (xs:List D) | rol (xs:List D) | rot (xs:List D)
 | dK (kvs:List (Key×D)) | dT (kvs:List (List Key×D))
 | obj (c:Nat) (fs:List (Str×D)) | exc (c:Nat) (fs:List (Str×D))
inductive Out (α:Type) where
 | ok (a:α) | ex (x:D) | stuck
namespace Out
noncomputable def bind{α β:Type}(o:Out α)(k:α->Out β):Out β:=match o with
 | .ok a=>k a
 | .ex x=>.ex x
 | .stuck=>.stuck
noncomputable def opt{α:Type}:Option α->Out α
 | some a=>.ok a
 | none=>.stuck
noncomputable def aZ{α:Type}:Out α->Out α
 | .ok a=>.ok a
 | _=>.stuck
@[simp] theorem aM{α β:Type}(a:α)(k:α->Out β):(Out.ok a).bind k=k a:=rfl
@[simp] theorem FJ{α β:Type}(x:D)(k:α->Out β):(Out.ex x).bind k=.ex x:=rfl
@[simp] theorem vh{α β:Type}(k:α->Out β):(Out.stuck:Out α).bind k=.stuck:=rfl
@[simp] theorem cU{α:Type}(a:α):opt (some a)=.ok a:=rfl
@[simp] theorem BR{α:Type}:(opt none:Out α)=.stuck:=rfl
@[simp] theorem jr{α:Type}(a:α):aZ (Out.ok a)=.ok a:=rfl
end Out
def wpO{α:Type}(o:Out α)(P:α->Prop)(R:D->Prop):Prop:=match o with
 | .ok a=>P a
 | .ex x=>R x
 | .stuck=>False
theorem aj{α β:Type}{o:Out α}{k:α->Out β}{P:β->Prop}{R:D->Prop}(h:wpO (o.bind k) P R):wpO o (λa=>wpO (k a) P R) R:=by
 cases o <;> exact h
theorem wpO.mono{α:Type}{o:Out α}{P P':α->Prop}{R R':D->Prop}(h:wpO o P R)(k:∀a,P a->P' a)(r:∀x,R x->R' x):wpO o P' R':=by
 cases o with
 | ok a=>exact k a h
 | ex x=>exact r x h
 | stuck=>exact h
theorem bB{α:Type}{o:Option α}{P:α->Prop}{R:D->Prop}(h:wpO (Out.opt o) P R):∃a,o=some a/\P a:=by
 cases o with
 | none=>exact False.elim h
 | some a=>exact⟨a,rfl,h⟩
theorem cY{α:Type}{o:Out α}{P:α->Prop}{R R':D->Prop}(h:wpO o.aZ P R):wpO o P R':=by
 cases o with
 | ok a=>exact h
 | ex x=>exact False.elim h
 | stuck=>exact h
section
variable(K:Frag)(Γ:Nat->Option Addr)
mutual
inductive Rep (G:Hp):V->D->Prop
 | non:Rep G .non .non
 | bl (b:Bool):Rep G (.bl b) (.bl b)
 | int (i:Int):Rep G (.int i) (.int i)
 | str (x:Str):Rep G (.str x) (.str x)
 | ty (n:String):Rep G (.ty n) (.ty n)
 | cls {c:Nat} {C:Addr} (h:Γ c=some C):Rep G (.ref C) (.cls c)
 | lst {a:Addr} {vs:List V} {ds:List D} (h:G a=some (.lst vs)) (r:au G vs ds):Rep G (.ref a) (.lst ds)
 | tup {a:Addr} {vs:List V} {ds:List D} (h:G a=some (.tup vs)) (r:au G vs ds):Rep G (.ref a) (.tup ds)
 | rol {a:Addr} {vs:List V} {ds:List D} (h:SqL K G a vs) (r:au G vs ds):Rep G (.ref a) (.rol ds)
 | rot {a:Addr} {vs:List V} {ds:List D} (h:SqT K G a vs) (r:au G vs ds):Rep G (.ref a) (.rot ds)
 | dK {a:Addr} {kvs:List (Key×V)} {kds:List (Key×D)} (h:G a=some (.dK kvs)) (r:cZ G kvs kds):Rep G (.ref a) (.dK kds)
 | dT {a:Addr} {kvs:List (List Key×V)} {kds:List (List Key×D)} (h:G a=some (.dT kvs)) (r:RepT G kvs kds):Rep G (.ref a) (.dT kds)
 | obj {a:Addr} {c:Nat} {C dx:Addr} {fs:List (Str×V)} {fds:List (Str×D)} (h:G a=some (.ins C dx fs)) (g:Γ c=some C) (r:lC G fs fds):Rep G (.ref a) (.obj c fds)
 | e0 {n:Bool} {a:Addr} {c:Nat} {C:Addr} (h:G a=some (.exc n C none a)) (g:Γ c=some C):Rep G (.ref a) (.exc c [])
 | e1 {n:Bool} {a:Addr} {c:Nat} {C d:Addr} {fs:List (Str×V)} {fds:List (Str×D)} (h:G a=some (.exc n C (some d) a)) (h':G d=some (.xds fs d)) (g:Γ c=some C) (r:lC G fs fds):Rep G (.ref a) (.exc c fds)
inductive au (G:Hp):List V->List D->Prop
 | nil:au G [] []
 | cons {v:V} {vs:List V} {d:D} {ds:List D} (h:Rep G v d) (r:au G vs ds):au G (v::vs) (d::ds)
inductive lC (G:Hp):List (Str×V)->List (Str×D)->Prop
 | nil:lC G [] []
 | cons {f:Str} {v:V} {fs:List (Str×V)} {d:D} {fds:List (Str×D)} (h:Rep G v d) (r:lC G fs fds):lC G ((f,v)::fs) ((f,d)::fds)
inductive cZ (G:Hp):List (Key×V)->List (Key×D)->Prop
 | nil:cZ G [] []
 | cons {k:Key} {v:V} {fs:List (Key×V)} {d:D} {fds:List (Key×D)} (h:Rep G v d) (r:cZ G fs fds):cZ G ((k,v)::fs) ((k,d)::fds)
inductive RepT (G:Hp):List (List Key×V)->List (List Key×D)->Prop
 | nil:RepT G [] []
 | cons {k:List Key} {v:V} {fs:List (List Key×V)} {d:D} {fds:List (List Key×D)} (h:Rep G v d) (r:RepT G fs fds):RepT G ((k,v)::fs) ((k,d)::fds)
end
end
section
variable{K:Frag}{Γ:Nat->Option Addr}{G G':Hp}
theorem SqT.same(e:aY G G'){a:Addr}{xs:List V}(h:SqT K G a xs):SqT K G' a xs:=by
 rcases h with h | h
 .rcases h with h | ⟨o,h⟩
  .exact .inl (.inl (e _ _ h))
  .exact .inl (.inr ⟨o,e _ _ h⟩)
 .exact .inr h
mutual
theorem Rep.mono(e:aY G G'):∀{v:V}{d:D},Rep K Γ G v d->Rep K Γ G' v d
 | _,_,.non=>.non
 | _,_,.bl b=>.bl b
 | _,_,.int i=>.int i
 | _,_,.str x=>.str x
 | _,_,.ty n=>.ty n
 | _,_,.cls h=>.cls h
 | _,_,.lst h r=>.lst (e _ _ h) (au.mono e r)
 | _,_,.tup h r=>.tup (e _ _ h) (au.mono e r)
 | _,_,.rol h r=>.rol (e.seq h) (au.mono e r)
 | _,_,.rot h r=>.rot (SqT.same e h) (au.mono e r)
 | _,_,.dK h r=>.dK (e _ _ h) (cZ.mono e r)
 | _,_,.dT h r=>.dT (e _ _ h) (RepT.mono e r)
 | _,_,.obj h g r=>.obj (e _ _ h) g (lC.mono e r)
 | _,_,.e0 h g=>.e0 (e _ _ h) g
 | _,_,.e1 h h' g r=>.e1 (e _ _ h) (e _ _ h') g (lC.mono e r)
theorem au.mono(e:aY G G'):∀{v:List V}{d:List D},au K Γ G v d->au K Γ G' v d
 | _,_,.nil=>.nil
 | _,_,.cons h r=>.cons (Rep.mono e h) (au.mono e r)
theorem lC.mono(e:aY G G'):∀{v:List (Str×V)}{d:List (Str×D)},lC K Γ G v d->lC K Γ G' v d
 | _,_,.nil=>.nil
 | _,_,.cons h r=>.cons (Rep.mono e h) (lC.mono e r)
theorem cZ.mono(e:aY G G'):∀{v:List (Key×V)}{d:List (Key×D)},cZ K Γ G v d->cZ K Γ G' v d
 | _,_,.nil=>.nil
 | _,_,.cons h r=>.cons (Rep.mono e h) (cZ.mono e r)
theorem RepT.mono(e:aY G G'):∀{v:List (List Key×V)}{d:List (List Key×D)},RepT K Γ G v d->RepT K Γ G' v d
 | _,_,.nil=>.nil
 | _,_,.cons h r=>.cons (Rep.mono e h) (RepT.mono e r)
end
theorem au.length:∀{vs:List V}{ds:List D},au K Γ G vs ds->vs.length=ds.length
 | _,_,.nil=>rfl
 | _,_,.cons _ r=>by rw[List.length_cons,List.length_cons,r.length]
theorem au.get:∀{vs:List V}{ds:List D}{i:Nat}{d:D},au K Γ G vs ds->ds[i]?=some d->∃v,vs[i]?=some v/\Rep K Γ G v d
 | _,_,_,_,.nil,e=>by simp at e
 | _,_,0,_,.cons h _,e=>by simp at e;subst e;exact⟨_,rfl,h⟩
 | _,_,i+1,d,.cons _ r,e=>by
  obtain⟨v,h1,h2⟩:=au.get (i:=i) (d:=d) r (by simpa using e)
  exact⟨v,by simpa using h1,h2⟩
theorem au.append:∀{vs ws:List V}{ds es:List D},au K Γ G vs ds->au K Γ G ws es->au K Γ G (vs++ws) (ds++es)
 | _,_,_,_,.nil,s=>s
 | _,_,_,_,.cons h r,s=>.cons h (r.append s)
theorem au.take:∀{vs:List V}{ds:List D}(n:Nat),au K Γ G vs ds->au K Γ G (vs.take n) (ds.take n)
 | _,_,0,_=>by simpa using au.nil
 | _,_,_+1,.nil=>.nil
 | _,_,n+1,.cons h r=>.cons h (r.take n)
theorem au.drop:∀{vs:List V}{ds:List D}(n:Nat),au K Γ G vs ds->au K Γ G (vs.drop n) (ds.drop n)
 | _,_,0,r=>r
 | _,_,_+1,.nil=>.nil
 | _,_,n+1,.cons _ r=>r.drop n
theorem au.set{v:V}{d:D}(h:Rep K Γ G v d):∀{vs:List V}{ds:List D}(n:Nat),au K Γ G vs ds->au K Γ G (vs.set n v) (ds.set n d)
 | _,_,_,.nil=>.nil
 | _,_,0,.cons _ r=>.cons h r
 | _,_,n+1,.cons h' r=>.cons h' (au.set h n r)
theorem au.rep{vs:List V}{ds:List D}(h:au K Γ G vs ds):∀k:Nat,au K Γ G (List.replicate k vs).flatten (List.replicate k ds).flatten
 | 0=>.nil
 | k+1=>by
  rw[List.replicate_succ,List.replicate_succ,List.flatten_cons,List.flatten_cons]
  exact h.append (h.rep k)
theorem lC.look{f:Str}:∀{fs:List (Str×V)}{fds:List (Str×D)}{d:D},lC K Γ G fs fds->fds.lookup f=some d->∃v,fs.lookup f=some v/\Rep K Γ G v d
 | _,_,_,.nil,e=>by simp at e
 | _,_,d,.cons (f:=g) h r,e=>by
  by_cases q:f=g
  .subst q
   simp only[List.lookup_cons,beq_self_eq_true] at e
   cases e
   exact⟨_,by simp[List.lookup_cons],h⟩
  .have q':(f==g)=false:=beq_eq_false_iff_ne.mpr q
   simp only[List.lookup_cons,q'] at e
   obtain⟨v,h1,h2⟩:=r.look e
   exact⟨v,by simp only[List.lookup_cons,q'];exact h1,h2⟩
theorem lC.none{f:Str}:∀{fs:List (Str×V)}{fds:List (Str×D)},lC K Γ G fs fds->fds.lookup f=none->fs.lookup f=none
 | _,_,.nil,_=>rfl
 | _,_,.cons (f:=g) h r,e=>by
  by_cases q:f=g
  .subst q
   simp only[List.lookup_cons,beq_self_eq_true] at e
   cases e
  .have q':(f==g)=false:=beq_eq_false_iff_ne.mpr q
   simp only[List.lookup_cons,q'] at e ⊢
   exact r.none e
end
structure Step(G H G' H':Hp):Prop where
 gg:aY G G'
 hh:aY H H'
 gh:aY G' H'
 sep:∀b,H b≠none->G b=none->G' b=none
theorem Step.refl{G H:Hp}(s:aY G H):Step G H G H:=⟨aY.refl _,aY.refl _,s,λ_ _ h=>h⟩
theorem Step.trans{G H G1 H1 G2 H2:Hp}(a:Step G H G1 H1)(b:Step G1 H1 G2 H2):Step G H G2 H2 :=
 ⟨a.gg.trans b.gg,a.hh.trans b.hh,b.gh,λx h g=>b.sep x (λq=>by
  cases e:H x with
  | none=>exact h e
  | some o=>rw[a.hh _ _ e] at q;cases q) (a.sep x h g)⟩
theorem aY.up{H:Hp}{p:Addr}{o:HO}(h:H p=none):aY H (upd H p o):=λb u q=>by rw[aF (aW q h)];exact q
theorem aD{G H:Hp}(s:aY G H){p:Addr}(h:H p=none):G p=none:=s.free h
theorem Step.new{G H:Hp}(s:aY G H){p:Addr}{o:HO}(h:H p=none):Step G H (upd G p o) (upd H p o):=by
 refine⟨aY.up (aD s h),aY.up h,λb u q=>?_,λb hb g=>?_⟩
 .by_cases e:b=p
  .subst e;rw[aG] at q ⊢;exact q
  .rw[aF e] at q ⊢;exact s _ _ q
 .have e:b≠p:=λe=>hb (e▸h)
  rw[aF e];exact g
theorem Step.aside{G H:Hp}(s:aY G H){p:Addr}{o:HO}(h:H p=none):Step G H G (upd H p o) :=
 ⟨aY.refl _,aY.up h,s.trans (aY.up h),λ_ _ g=>g⟩
inductive Mx where
 | own (ds:List D) | fix (d:D)
noncomputable def Mx.d:Mx->D
 | .own ds=>.lst ds
 | .fix d=>d
inductive Sl where
 | sh (d:D) | ol (ds:List D) | oll (dss:List (List D)) | od (kvs:List (Key×D)) | odT (kvs:List (List Key×D)) | omx (es:List Mx)
abbrev DSt:=List (Option Sl)
section
variable(K:Frag)(Γ:Nat->Option Addr)(G0 H0 G H:Hp)(O:Addr->Option Nat)
inductive Inner (i:Nat):List V->List (List D)->Prop
 | nil:Inner i [] []
 | cons {b:Addr} {vs ws:List V} {ds:List D} {dss:List (List D)} (h:H b=some (.lst ws)) (g:G b=none) (h0:H0 b=none) (o:O b=some i) (r:au K Γ G ws ds) (n:V.ref b∉vs) (t:Inner i vs dss):Inner i (.ref b::vs) (ds::dss)
inductive bQ (i:Nat):List V->List Mx->List Addr->Prop
 | nil:bQ i [] [] []
 | own {b:Addr} {vs ws:List V} {ds:List D} {es:List Mx} {bs:List Addr} (h:H b=some (.lst ws)) (g:G b=none) (h0:H0 b=none) (o:O b=some i) (r:au K Γ G ws ds) (n:b∉bs) (t:bQ i vs es bs):bQ i (.ref b::vs) (.own ds::es) (b::bs)
 | fix {v:V} {vs:List V} {d:D} {es:List Mx} {bs:List Addr} (r:Rep K Γ G v d) (t:bQ i vs es bs):bQ i (v::vs) (.fix d::es) bs
def cC(i:Nat)(v:V):Sl->Prop
 | .sh d=>Rep K Γ G v d
 | .ol ds=>∃a vs,v=.ref a/\H a=some (.lst vs)/\G a=none/\H0 a=none/\O a=some i/\au K Γ G vs ds
 | .oll dss=>∃a vs,v=.ref a/\H a=some (.lst vs)/\G a=none/\H0 a=none/\O a=some i/\V.ref a∉vs/\Inner K Γ H0 G H O i vs dss
 | .od kvs=>∃a vs,v=.ref a/\H a=some (.dK vs)/\G a=none/\H0 a=none/\O a=some i/\cZ K Γ G vs kvs
 | .odT kvs=>∃a vs,v=.ref a/\H a=some (.dT vs)/\G a=none/\H0 a=none/\O a=some i/\RepT K Γ G vs kvs
 | .omx es=>∃a vs bs,v=.ref a/\H a=some (.lst vs)/\G a=none/\H0 a=none/\O a=some i/\a∉bs/\bQ K Γ H0 G H O i vs es bs
def Slots(σ:L2.St)(δ:DSt):Prop:=∃O:Addr->Option Nat,∀i s,δ[i]?=some (some s)->∃v,σ[i]?=some (some v)/\cC K Γ H0 G H O i v s
structure SR(σ:L2.St)(δ:DSt):Prop where
 st:Step G0 H0 G H
 len:δ.length=σ.length
 sl:Slots K Γ H0 G H σ δ
end
section
variable{K:Frag}{Γ:Nat->Option Addr}{G0 H0 G H G' H':Hp}{O:Addr->Option Nat}{σ:L2.St}{δ:DSt}
theorem Inner.step(s:Step G H G' H'){i:Nat}:∀{vs:List V}{dss:List (List D)},Inner K Γ H0 G H O i vs dss->Inner K Γ H0 G' H' O i vs dss
 | _,_,.nil=>.nil
 | _,_,.cons h g h0 o r n t=>.cons (s.hh _ _ h) (s.sep _ (by rw[h];exact λq=>nomatch q) g) h0 o (r.mono s.gg) n (t.step s)
theorem bQ.step(s:Step G H G' H'){i:Nat}:∀{vs:List V}{es:List Mx}{bs:List Addr},bQ K Γ H0 G H O i vs es bs->bQ K Γ H0 G' H' O i vs es bs
 | _,_,_,.nil=>.nil
 | _,_,_,.own h g h0 o r n t=>.own (s.hh _ _ h) (s.sep _ (by rw[h];exact λq=>nomatch q) g) h0 o (r.mono s.gg) n (t.step s)
 | _,_,_,.fix r t=>.fix (r.mono s.gg) (t.step s)
theorem cC.step(s:Step G H G' H'){i:Nat}{v:V}{x:Sl}(h:cC K Γ H0 G H O i v x):cC K Γ H0 G' H' O i v x:=by
 have sp:∀{a:Addr}{o:HO},H a=some o->G a=none->G' a=none:=λh g=>s.sep _ (by rw[h];exact λq=>nomatch q) g
 cases x with
 | sh d=>exact Rep.mono s.gg h
 | ol ds =>
  obtain⟨a,vs,e,h1,h2,h3,h4,h5⟩:=h
  exact⟨a,vs,e,s.hh _ _ h1,sp h1 h2,h3,h4,h5.mono s.gg⟩
 | oll ds =>
  obtain⟨a,vs,e,h1,h2,h3,h4,h5,h6⟩:=h
  exact⟨a,vs,e,s.hh _ _ h1,sp h1 h2,h3,h4,h5,h6.step s⟩
 | od ds =>
  obtain⟨a,vs,e,h1,h2,h3,h4,h5⟩:=h
  exact⟨a,vs,e,s.hh _ _ h1,sp h1 h2,h3,h4,h5.mono s.gg⟩
 | odT ds =>
  obtain⟨a,vs,e,h1,h2,h3,h4,h5⟩:=h
  exact⟨a,vs,e,s.hh _ _ h1,sp h1 h2,h3,h4,h5.mono s.gg⟩
 | omx ds =>
  obtain⟨a,vs,bs,e,h1,h2,h3,h4,h5,h6⟩:=h
  exact⟨a,vs,bs,e,s.hh _ _ h1,sp h1 h2,h3,h4,h5,h6.step s⟩
theorem SR.step(S:SR K Γ G0 H0 G H σ δ)(s:Step G H G' H'):SR K Γ G0 H0 G' H' σ δ:=by
 obtain⟨O,q⟩:=S.sl
 refine⟨S.st.trans s,S.len,O,λi x e=>?_⟩
 obtain⟨v,h1,h2⟩:=q i x e
 exact⟨v,h1,h2.step s⟩
theorem SR.set(S:SR K Γ G0 H0 G H σ δ){i:Nat}{v:V}{d:D}(r:Rep K Γ G v d):SR K Γ G0 H0 G H (σ.set i (some v)) (δ.set i (some (.sh d))):=by
 obtain⟨O,q⟩:=S.sl
 refine⟨S.st,by rw[List.length_set,List.length_set];exact S.len,O,λj x e=>?_⟩
 by_cases ij:i=j
 .subst ij
  rw[List.getElem?_set_self'] at e
  cases h:δ[i]? with
  | none=>rw[h] at e;simp at e
  | some y =>
   rw[h] at e
   simp at e
   have lt:i<σ.length:=by rw[←S.len];exact(List.getElem?_eq_some_iff.mp h).1
   subst e
   exact⟨v,by rw[List.getElem?_set_self lt],r⟩
 .rw[List.getElem?_set_ne ij] at e
  obtain⟨v',h1,h2⟩:=q j x e
  exact⟨v',by rw[List.getElem?_set_ne ij];exact h1,h2⟩
end
inductive bx (K:Frag) (Γ:Nat->Option Addr) (H G' H':Hp):List V->List (List D)->Prop
 | nil:bx K Γ H G' H' [] []
 | cons {b:Addr} {vs ws:List V} {ds:List D} {dss:List (List D)} (f:H b=none) (h:H' b=some (.lst ws)) (g:G' b=none) (r:au K Γ G' ws ds) (n:V.ref b∉vs) (t:bx K Γ H G' H' vs dss):bx K Γ H G' H' (.ref b::vs) (ds::dss)
section
variable(K:Frag)(Γ:Nat->Option Addr)(E:XK)
def okD(G H:Hp)(Q:VK)(d:D):Prop:=∀v G' H',Step G H G' H'->Rep K Γ G' v d->Q v H'
def exD(G H:Hp)(x:D):Prop:=∀a G' H',Step G H G' H'->Rep K Γ G' (.ref a) x->E (.ref a) none H'
def teD(f:DSt->Out D):TE:=λσ H Q=>∃G0 H0 G δ,SR K Γ G0 H0 G H σ δ/\wpO (f δ) (okD K Γ G H Q) (exD K Γ E G H)
def ttD(f:DSt->Out Bool):TT:=λσ H Q=>∃G0 H0 G δ,SR K Γ G0 H0 G H σ δ/\wpO (f δ) (λb=>∀G' H',Step G H G' H'->Q b H') (exD K Γ E G H)
def taD(f:DSt->Out (List D)):TA:=λσ H Q=>∃G0 H0 G δ,SR K Γ G0 H0 G H σ δ/\wpO (f δ) (λds=>∀vs G' H',Step G H G' H'->au K Γ G' vs ds->Q vs H') (exD K Γ E G H)
def tbD(f:DSt->Out D):TE:=λσ H Q=>∃G0 H0 G δ,SR K Γ G0 H0 G H σ δ/\wpO (f δ) (λd=>∀v G' H',Step G H G' H'->Rep K Γ H' v d->Q v H') (exD K Γ E G H)
inductive Fl where
 | nx (δ:DSt) | rt (d:D) | bk (δ:DSt) | ct (δ:DSt) | rl (ds:List D) | rll (dss:List (List D))
def FlOk(G0 H0:Hp)(N:Ends):Fl->Prop
 | .nx δ=>∀σ G H,SR K Γ G0 H0 G H σ δ->N.nx σ H
 | .rt d=>∀v G H,Step G0 H0 G H->Rep K Γ G v d->N.rt v H
 | .bk δ=>∀σ G H,SR K Γ G0 H0 G H σ δ->N.bk σ H
 | .ct δ=>∀σ G H,SR K Γ G0 H0 G H σ δ->N.ct σ H
 | .rl ds=>∀a vs G H,Step G0 H0 G H->H0 a=none->H a=some (.lst vs)->G a=none->au K Γ G vs ds->N.rt (.ref a) H
 | .rll dss=>∀a vs G H,Step G0 H0 G H->H0 a=none->H a=some (.lst vs)->G a=none->V.ref a∉vs->bx K Γ H0 G H vs dss->N.rt (.ref a) H
def tsD(g:DSt->Out Fl):TS:=λN σ H=>∃G0 H0 G δ,SR K Γ G0 H0 G H σ δ/\wpO (g δ) (FlOk K Γ G0 H0 N) (exD K Γ E G0 H0)
end
section
variable{K:Frag}{Γ:Nat->Option Addr}{E:XK}{G H G1 H1:Hp}
theorem okD.step{Q:VK}{d:D}(h:okD K Γ G H Q d)(s:Step G H G1 H1):okD K Γ G1 H1 Q d:=λv G' H' s' r=>h v G' H' (s.trans s') r
theorem exD.step{x:D}(h:exD K Γ E G H x)(s:Step G H G1 H1):exD K Γ E G1 H1 x:=λv G' H' s' r=>h v G' H' (s.trans s') r
end
abbrev DE(X:Cx)(Γ:Nat->Option Addr)(E:XK)(e:Expr)(f:DSt->Out D):Prop:=PE X e (teD X.K Γ E f)
abbrev DB(X:Cx)(Γ:Nat->Option Addr)(E:XK)(e:Expr)(f:DSt->Out D):Prop:=PE X e (tbD X.K Γ E f)
abbrev DT(X:Cx)(Γ:Nat->Option Addr)(E:XK)(e:Expr)(f:DSt->Out Bool):Prop:=PT X e (ttD X.K Γ E f)
abbrev DW(X:Cx)(Γ:Nat->Option Addr)(E:XK)(e:Expr)(f:DSt->Out Bool):Prop:=PW X e (ttD X.K Γ E f)
abbrev DA(X:Cx)(Γ:Nat->Option Addr)(E:XK)(es:List Expr)(f:DSt->Out (List D)):Prop:=PA X es (taD X.K Γ E f)
abbrev DS(X:Cx)(Γ:Nat->Option Addr)(E:XK)(st:Stmt)(g:DSt->Out Fl):Prop:=PS X st (tsD X.K Γ E g)
abbrev DSs(X:Cx)(Γ:Nat->Option Addr)(E:XK)(st:List Stmt)(g:DSt->Out Fl):Prop:=PSs X st (tsD X.K Γ E g)
section
variable{X:Cx}
theorem PE.imp{e:Expr}{t t':TE}(h:PE X e t)(k:∀σ H Q,t' σ H Q->t σ H Q):PE X e t':=λpins s σ H Q I q=>h pins s σ H Q I (k _ _ _ q)
theorem PT.imp{e:Expr}{t t':TT}(h:PT X e t)(k:∀σ H Q,t' σ H Q->t σ H Q):PT X e t':=λpins s σ H Q I q=>h pins s σ H Q I (k _ _ _ q)
theorem PW.imp{e:Expr}{t t':TT}(h:PW X e t)(k:∀σ H Q,t' σ H Q->t σ H Q):PW X e t':=λwh pins s σ H Q I q=>h wh pins s σ H Q I (k _ _ _ q)
theorem PA.imp{e:List Expr}{t t':TA}(h:PA X e t)(k:∀σ H Q,t' σ H Q->t σ H Q):PA X e t':=λp pins s σ H Q I q=>h p pins s σ H Q I (k _ _ _ q)
theorem PS.imp{e:Stmt}{t t':TS}(h:PS X e t)(k:∀D σ H,t' D σ H->t D σ H):PS X e t':=λpins s σ H Q I q=>h pins s σ H Q I (k _ _ _ q)
theorem PSs.imp{e:List Stmt}{t t':TS}(h:PSs X e t)(k:∀D σ H,t' D σ H->t D σ H):PSs X e t':=λpins s σ H Q I q=>h pins s σ H Q I (k _ _ _ q)
end
end DL
namespace DL
open PySem PySem.Spec PyProof.Rows MX L2
noncomputable def gv(i:Nat):DSt->Out D:=λδ=>match δ[i]? with
 | some (some (.sh d))=>.ok d
 | _=>.stuck
noncomputable def slD:Sl->D
 | .sh d=>d
 | .ol ds=>.lst ds
 | .oll dss=>.lst (dss.map .lst)
 | .od kvs=>.dK kvs
 | .odT kvs=>.dT kvs
 | .omx es=>.lst (es.map Mx.d)
noncomputable def gb(i:Nat):DSt->Out D:=λδ=>match δ[i]? with
 | some (some s)=>.ok (slD s)
 | _=>.stuck
section
variable{X:Cx}{Γ:Nat->Option Addr}{E:XK}{e a b c:Expr}{pos:Pos}
theorem de_var(i:Nat){x:Str}(h:PE X (.Name x pos) (iI i)):DE X Γ E (.Name x pos) (gv i):=PE.imp h λσ H Q qq=>by
 obtain⟨G0,H0,G,δ,S,w⟩:=qq;unfold gv at w
 split at w
 .rename_i d e
  obtain⟨O,q⟩:=S.sl
  obtain⟨v,h1,h2⟩:=q i _ e
  exact⟨v,h1,w v G H (.refl S.st.gh) h2⟩
 .exact False.elim w
theorem Inner.rep{K:Frag}{H0 G H:Hp}{O:Addr->Option Nat}(s:aY G H){i:Nat}:∀{vs:List V}{dss:List (List D)},Inner K Γ H0 G H O i vs dss->au K Γ H vs (dss.map .lst)
 | _,_,.nil=>.nil
 | _,_,.cons h g h0 o r n t=>.cons (.lst h (r.mono s)) (t.rep s)
theorem bQ.rep{K:Frag}{H0 G H:Hp}{O:Addr->Option Nat}(s:aY G H){i:Nat}:∀{vs:List V}{es:List Mx}{bs:List Addr},bQ K Γ H0 G H O i vs es bs->au K Γ H vs (es.map Mx.d)
 | _,_,_,.nil=>.nil
 | _,_,_,.own h g h0 o r n t=>.cons (.lst h (r.mono s)) (t.rep s)
 | _,_,_,.fix r t=>.cons (r.mono s) (t.rep s)
theorem cC.rep{K:Frag}{H0 G H:Hp}{O:Addr->Option Nat}(s:aY G H){i:Nat}{v:V}{x:Sl}(h:cC K Γ H0 G H O i v x):Rep K Γ H v (slD x):=by
 cases x with
 | sh d=>exact Rep.mono s h
 | ol ds=>obtain⟨a,vs,e,h1,h2,h3,h4,h5⟩:=h;subst e;exact .lst h1 (h5.mono s)
 | oll ds=>obtain⟨a,vs,e,h1,h2,h3,h4,h5,h6⟩:=h;subst e;exact .lst h1 (h6.rep s)
 | od ds=>obtain⟨a,vs,e,h1,h2,h3,h4,h5⟩:=h;subst e;exact .dK h1 (h5.mono s)
 | odT ds=>obtain⟨a,vs,e,h1,h2,h3,h4,h5⟩:=h;subst e;exact .dT h1 (h5.mono s)
 | omx ds=>obtain⟨a,vs,bs,e,h1,h2,h3,h4,h5,h6⟩:=h;subst e;exact .lst h1 (h6.rep s)
theorem aP(i:Nat){x:Str}(h:PE X (.Name x pos) (iI i)):DB X Γ E (.Name x pos) (gb i):=PE.imp h λσ H Q qq=>by
 obtain⟨G0,H0,G,δ,S,w⟩:=qq;unfold gb at w
 split at w
 .rename_i d e
  obtain⟨O,q⟩:=S.sl
  obtain⟨v,h1,h2⟩:=q i _ e
  exact⟨v,h1,w v G H (.refl S.st.gh) (h2.rep S.st.gh)⟩
 .exact False.elim w
theorem aL{f:DSt->Out D}(h:DE X Γ E e f):DB X Γ E e f:=PE.imp h λσ H Q ⟨G0,H0,G,δ,S,w⟩ =>
 ⟨G0,H0,G,δ,S,w.mono (λd k v G' H' s r=>k v G' H' s (r.mono s.gh)) λ_ k=>k⟩
theorem de_c{v:V}{d:D}(h:PE X e (tC v))(r:∀G,Rep X.K Γ G v d):DE X Γ E e (λ_=>.ok d):=PE.imp h λσ H Q ⟨G0,H0,G,δ,S,w⟩=>w v G H (.refl S.st.gh) (r G)
theorem aB{i j}:DE X Γ E (.Constant (.int i) j pos) (λ_=>.ok (.int i)):=de_c pe_int λ_=>.int i
theorem mV{i j}:DE X Γ E (.Constant (.bool i) j pos) (λ_=>.ok (.bl i)):=de_c pe_bl λ_=>.bl i
theorem jH{j}:DE X Γ E (.Constant .none j pos) (λ_=>.ok .non):=de_c M9 λ_=>.non
theorem bJ{x j}:DE X Γ E (.Constant (.str x) j pos) (λ_=>.ok (.str x)):=de_c pe_str λ_=>.str x
def o2(g:D->D->Option D)(fa fb:DSt->Out D):DSt->Out D:=λδ=>(fa δ).bind λx=>(fb δ).bind λy=>.opt (g x y)
def DR2(K:Frag)(Γ:Nat->Option Addr)(r:R2)(g:D->D->Option D):Prop :=
 ∀G H x y dx dy d Q,aY G H->Rep K Γ G x dx->Rep K Γ G y dy->g dx dy=some d->okD K Γ G H Q d->r x y H Q
theorem d2{r:R2}{g:D->D->Option D}{fa fb:DSt->Out D}(hr:DR2 X.K Γ r g)(h:PE X e (tOp r (teD X.K Γ E fa) (teD X.K Γ E fb))):DE X Γ E e (o2 g fa fb):=PE.imp h λσ H Q qq=>by
 obtain⟨G0,H0,G,δ,S,w⟩:=qq;refine⟨G0,H0,G,δ,S,(aj w).mono (λx w v G1 H1 s1 r1=>?_) λ_ k=>k⟩
 refine⟨G0,H0,G1,δ,S.step s1,(aj w).mono (λy w u G2 H2 s2 r2=>?_) λ_ k=>k.step s1⟩
 obtain⟨d,e,k⟩:=bB w
 exact hr G2 H2 v u x y d Q s2.gh (r1.mono s2.gg) r2 e (k.step (s1.trans s2))
noncomputable def o2b(g:D->D->Option Bool)(fa fb:DSt->Out D):DSt->Out Bool:=λδ=>(fa δ).bind λx=>(fb δ).bind λy=>.opt (g x y)
noncomputable def bV(f:DSt->Out Bool):DSt->Out D:=λδ=>(f δ).bind λb=>.ok (.bl b)
def DRB(K:Frag)(Γ:Nat->Option Addr)(r:R2)(g:D->D->Option Bool):Prop :=
 ∀H x y dx dy b Q,Rep K Γ H x dx->Rep K Γ H y dy->g dx dy=some b->Q (.bl b) H->r x y H Q
theorem d2b{r:R2}{g:D->D->Option Bool}{fa fb:DSt->Out D}(hr:DRB X.K Γ r g)(h:PE X e (tOp r (tbD X.K Γ E fa) (tbD X.K Γ E fb))):DE X Γ E e (bV (o2b g fa fb)):=PE.imp h λσ H Q qq=>by
 obtain⟨G0,H0,G,δ,S,w⟩:=qq;refine⟨G0,H0,G,δ,S,(aj (aj w)).mono (λx w v G1 H1 s1 r1=>?_) λ_ k=>k⟩
 refine⟨G0,H0,G1,δ,S.step s1,(aj w).mono (λy w u G2 H2 s2 r2=>?_) λ_ k=>k.step s1⟩
 obtain⟨d,e,k⟩:=bB w
 exact hr H2 v u x y d Q (r1.mono s2.hh) r2 e (k _ G2 H2 (s1.trans s2) (.bl d))
theorem d2t{r:R2}{g:D->D->Option Bool}{fa fb:DSt->Out D}(hr:DRB X.K Γ r g)(h:PT X e (tTest (tOp r (tbD X.K Γ E fa) (tbD X.K Γ E fb)))):DT X Γ E e (o2b g fa fb):=PT.imp h λσ H Q qq=>by
 obtain⟨G0,H0,G,δ,S,w⟩:=qq;refine⟨G0,H0,G,δ,S,(aj w).mono (λx w v G1 H1 s1 r1=>?_) λ_ k=>k⟩
 refine⟨G0,H0,G1,δ,S.step s1,(aj w).mono (λy w u G2 H2 s2 r2=>?_) λ_ k=>k.step s1⟩
 obtain⟨d,e,k⟩:=bB w
 exact hr H2 v u x y d _ (r1.mono s2.hh) r2 e ⟨d,rfl,k G2 H2 (s1.trans s2)⟩
noncomputable def gq:D->D->Option D
 | .int i,.int j=>some (.int (i+j))
 | .str i,.str j=>if i.length+j.length<=sizeLine then some (.str (i++j)) else none
 | .lst i,.lst j=>if i.length+j.length<=sizeLine then some (.lst (i++j)) else none
 | _,_=>none
noncomputable def nZ:D->D->Option D
 | .int i,.int j=>some (.int (i - j))
 | _,_=>none
instance (i j:Int):Decidable (qU i j):=by unfold qU;infer_instance
instance (i j:Int):Decidable (CDiv i j):=by unfold CDiv;infer_instance
noncomputable def qY:D->D->Option D
 | .int i,.int j=>if qU i j then some (.int (i*j)) else none
 | .str i,.int j=>if i.length<=1000/\0<=j/\j<=1000 then some (.str (Txt.mul i j)) else none
 | .lst i,.int j=>if -(2 ^ 63)<=j/\j<2 ^ 63/\i.length*j.toNat<=sizeLine then some (.lst (List.replicate j.toNat i).flatten) else none
 | _,_=>none
noncomputable def eQ:D->D->Option D
 | .int i,.int j=>if CDiv i j then some (.int (i / j)) else none
 | _,_=>none
noncomputable def du:D->D->Option D
 | .int i,.int j=>if 0<j then some (.int (i % j)) else none
 | _,_=>none
theorem dr_add{K:Frag}:DR2 K Γ (λx y H Q=>(rI0 λi j=>.int (i+j)) x y H Q∨(∃i j,x=.str i/\y=.str j/\i.length+j.length<=sizeLine/\Q (.str (i++j)) H)∨rCat x y H Q) gq:=by
 intro G H x y dx dy d Q s rx ry e k
 unfold gq at e
 split at e
 .cases e;cases rx;cases ry;exact .inl ⟨_,_,rfl,rfl,k _ G H (.refl s) (.int _)⟩
 .split at e
  .cases e;cases rx;cases ry;rename_i h;exact .inr (.inl ⟨_,_,rfl,rfl,h,k _ G H (.refl s) (.str _)⟩)
  .cases e
 .split at e
  .cases e
   rename_i h
   cases rx with
   | lst h1 r1 =>
    cases ry with
    | lst h2 r2 =>
     refine .inr (.inr ⟨_,_,_,_,rfl,rfl,s _ _ h1,s _ _ h2,by rw[r1.length,r2.length];exact h,λp hp=>k _ _ _ (.new s hp) (.lst aG ?_)⟩)
     exact(r1.append r2).mono (aY.up (aD s hp))
  .cases e
 .cases e
theorem dG{fa fb:DSt->Out D}(ha:DE X Γ E a fa)(hb:DE X Γ E b fb):DE X Γ E (.BinOp a .Add b pos) (o2 gq fa fb):=d2 dr_add (Eo (op_add.or (M8.or op_cat)) ha hb)
theorem vm{fa fb:DSt->Out D}(ha:DE X Γ E a fa)(hb:DE X Γ E b fb):DE X Γ E (.BinOp a .Sub b pos) (o2 nZ fa fb):=d2 (λG H x y dx dy d Q s rx ry e k=>by
 unfold nZ at e
 split at e
 .cases e;cases rx;cases ry;exact⟨_,_,rfl,rfl,k _ G H (.refl s) (.int _)⟩
 .cases e) (Eo op_sub ha hb)
theorem dr_mul{K:Frag}:DR2 K Γ (λx y H Q=>(rI qU λi j=>.int (i*j)) x y H Q∨(∃i n,x=.str i/\y=.int n/\i.length<=1000/\0<=n/\n<=1000/\Q (.str (Txt.mul i n)) H)∨rRep x y H Q) qY:=by
 intro G H x y dx dy d Q s rx ry e k
 unfold qY at e
 split at e
 .split at e
  .rename_i h;cases e;cases rx;cases ry;exact .inl ⟨_,_,rfl,rfl,h,k _ G H (.refl s) (.int _)⟩
  .cases e
 .split at e
  .rename_i h;cases e;cases rx;cases ry;exact .inr (.inl ⟨_,_,rfl,rfl,h.1,h.2.1,h.2.2,k _ G H (.refl s) (.str _)⟩)
  .cases e
 .split at e
  .rename_i h
   cases e
   cases ry
   cases rx with
   | lst h1 r1 =>
    refine .inr (.inr ⟨_,_,_,rfl,rfl,s _ _ h1,h.1,h.2.1,by rw[r1.length];exact h.2.2,λp hp=>k _ _ _ (.new s hp) (.lst aG ?_)⟩)
    exact(r1.rep _).mono (aY.up (aD s hp))
  .cases e
 .cases e
theorem lE{fa fb:DSt->Out D}(ha:DE X Γ E a fa)(hb:DE X Γ E b fb):DE X Γ E (.BinOp a .Mult b pos) (o2 qY fa fb):=d2 dr_mul (Eo (op_mul.or (op_mulS.or op_rep)) ha hb)
theorem jj{fa fb:DSt->Out D}(ha:DE X Γ E a fa)(hb:DE X Γ E b fb):DE X Γ E (.BinOp a .FloorDiv b pos) (o2 eQ fa fb):=d2 (λG H x y dx dy d Q s rx ry e k=>by
 unfold eQ at e
 split at e
 .split at e
  .rename_i h;cases e;cases rx;cases ry;exact⟨_,_,rfl,rfl,h,k _ G H (.refl s) (.int _)⟩
  .cases e
 .cases e) (Eo op_fdiv ha hb)
theorem cD{fa fb:DSt->Out D}(ha:DE X Γ E a fa)(hb:DE X Γ E b fb):DE X Γ E (.BinOp a .Mod b pos) (o2 du fa fb):=d2 (λG H x y dx dy d Q s rx ry e k=>by
 unfold du at e
 split at e
 .split at e
  .rename_i h;cases e;cases rx;cases ry;exact⟨_,_,rfl,rfl,h,k _ G H (.refl s) (.int _)⟩
  .cases e
 .cases e) (Eo op_mod ha hb)
def o1(g:D->Option D)(fa:DSt->Out D):DSt->Out D:=λδ=>(fa δ).bind λx=>.opt (g x)
noncomputable def wH:D->Option D
 | .int i=>some (.int (-i))
 | _=>none
theorem Lw{fa:DSt->Out D}(ha:DE X Γ E a fa):DE X Γ E (.UnaryOp .USub a pos) (o1 wH fa):=PE.imp (pe_un un_neg ha) λσ H Q qq=>by
 obtain⟨G0,H0,G,δ,S,w⟩:=qq;refine⟨G0,H0,G,δ,S,(aj w).mono (λx w v G1 H1 s1 r1=>?_) λ_ k=>k⟩
 obtain⟨d,e,k⟩:=bB w
 unfold wH at e
 split at e
 .cases e;cases r1;exact⟨_,rfl,k _ G1 H1 s1 (.int _)⟩
 .cases e
noncomputable def cmpI(p:Int->Int->Bool):D->D->Option Bool
 | .int i,.int j=>some (p i j)
 | _,_=>none
theorem jk{K:Frag}{p:Int->Int->Bool}:DRB K Γ (rI0 λi j=>.bl (p i j)) (cmpI p):=λH x y dx dy b Q rx ry e k=>by
 unfold cmpI at e
 split at e
 .cases e;cases rx;cases ry;exact⟨_,_,rfl,rfl,k⟩
 .cases e
abbrev ltD:D->D->Option Bool:=cmpI λi j=>decide (i<j)
abbrev leD:D->D->Option Bool:=cmpI λi j=>decide (i<=j)
abbrev gtD:D->D->Option Bool:=cmpI λi j=>decide (j<i)
mutual
noncomputable def toPy:D->Option PyData
 | .non=>some .none
 | .bl b=>some (.bool b)
 | .int i=>some (.int i)
 | .str x=>some (.str x)
 | .lst xs=>(toPyL xs).map .list
 | .rol xs=>(toPyL xs).map .list
 | .tup xs=>(toPyL xs).map .tuple
 | .rot xs=>(toPyL xs).map .tuple
 | _=>none
noncomputable def toPyL:List D->Option (List PyData)
 | []=>some []
 | d::r=>match toPy d,toPyL r with
  | some p,some q=>some (p::q)
  | _,_=>none
end
mutual
theorem Rep.deep{K:Frag}{H:Hp}:∀{v:V}{d:D}{p:PyData},Rep K Γ H v d->toPy d=some p->xq K H v p
 | _,_,_,.non,e=>by simp only[toPy] at e;cases e;exact .non
 | _,_,_,.bl b,e=>by simp only[toPy] at e;cases e;exact .bl b
 | _,_,_,.int b,e=>by simp only[toPy] at e;cases e;exact .int b
 | _,_,_,.str b,e=>by simp only[toPy] at e;cases e;exact .str b
 | _,_,_,.lst h r,e=>by
  simp only[toPy] at e
  obtain⟨q,e1,rfl⟩:=Option.map_eq_some_iff.mp e
  exact .lst (SqL.of h) (au.deep r e1)
 | _,_,_,.rol h r,e=>by
  simp only[toPy] at e
  obtain⟨q,e1,rfl⟩:=Option.map_eq_some_iff.mp e
  exact .lst h (au.deep r e1)
 | _,_,_,.tup h r,e=>by
  simp only[toPy] at e
  obtain⟨q,e1,rfl⟩:=Option.map_eq_some_iff.mp e
  exact .tup (SqT.of h) (au.deep r e1)
 | _,_,_,.rot h r,e=>by
  simp only[toPy] at e
  obtain⟨q,e1,rfl⟩:=Option.map_eq_some_iff.mp e
  exact .tup h (au.deep r e1)
 | _,_,_,.ty n,e=>by simp only[toPy] at e;cases e
 | _,_,_,.cls h,e=>by simp only[toPy] at e;cases e
 | _,_,_,.dK h r,e=>by simp only[toPy] at e;cases e
 | _,_,_,.dT h r,e=>by simp only[toPy] at e;cases e
 | _,_,_,.obj h g r,e=>by simp only[toPy] at e;cases e
 | _,_,_,.e0 h g,e=>by simp only[toPy] at e;cases e
 | _,_,_,.e1 h h' g r,e=>by simp only[toPy] at e;cases e
theorem au.deep{K:Frag}{H:Hp}:∀{v:List V}{d:List D}{p:List PyData},au K Γ H v d->toPyL d=some p->gK K H v p
 | _,_,_,.nil,e=>by simp only[toPyL] at e;cases e;exact .nil
 | _,_,_,.cons (d:=d) (ds:=ds) h r,e=>by
  simp only[toPyL] at e
  cases h1:toPy d with
  | none=>rw[h1] at e;cases e
  | some p =>
   cases h2:toPyL ds with
   | none=>rw[h1,h2] at e;cases e
   | some q =>
    rw[h1,h2] at e
    cases e
    exact .cons (Rep.deep h h1) (au.deep r h2)
end
noncomputable def layP(p:PyData):Bool:=p.canLay0 && decide (p.depth<=50)
noncomputable def eqD(x y:D):Option Bool:=match toPy x,toPy y with
 | some p,some q=>if layP p && layP q then some (PyData.eqv p q) else none
 | _,_=>none
noncomputable def neD(x y:D):Option Bool:=(eqD x y).map (! ·)
theorem JK{x y:D}{b:Bool}(h:eqD x y=some b):∃p q,toPy x=some p/\toPy y=some q/\p.canLay0=true/\q.canLay0=true/\p.depth<=50/\PyData.eqv p q=b:=by
 unfold eqD at h
 split at h
 .rename_i p q h1 h2
  split at h
  .rename_i z
   unfold layP at z
   simp only[Bool.and_eq_true,decide_eq_true_eq] at z
   exact⟨p,q,h1,h2,z.1.1,z.2.1,z.1.2,Option.some.inj h⟩
  .cases h
 .cases h
theorem drb_eq{K:Frag}:DRB K Γ (rEqD K false) eqD:=λH x y dx dy b Q rx ry e k=>by
 obtain⟨p,q,h1,h2,c1,c2,c3,e⟩:=JK e
 exact⟨p,q,rx.deep h1,ry.deep h2,c1,c2,c3,by rw[e];simpa using k⟩
theorem drb_ne{K:Frag}:DRB K Γ (rEqD K true) neD:=λH x y dx dy b Q rx ry e k=>by
 obtain⟨b',e',rfl⟩:=Option.map_eq_some_iff.mp e
 obtain⟨p,q,h1,h2,c1,c2,c3,e⟩:=JK e'
 exact⟨p,q,rx.deep h1,ry.deep h2,c1,c2,c3,by rw[e];simpa using k⟩
noncomputable def vA:D->Bool
 | .non=>true
 | _=>false
noncomputable def isND(x y:D):Option Bool:=match y with
 | .non=>some (vA x)
 | _=>none
noncomputable def uX(x y:D):Option Bool:=match y with
 | .non=>some (!vA x)
 | _=>none
theorem Rep.isNon{K:Frag}{H:Hp}{v:V}{d:D}(r:Rep K Γ H v d):decide (v=.non)=vA d:=by
 cases r <;> first | rfl | exact decide_eq_false (λq=>nomatch q)
theorem drb_is{K:Frag}:DRB K Γ (λx y H Q=>y=.non/\Q (.bl (decide (x=.non))) H) isND:=λH x y dx dy b Q rx ry e k=>by
 unfold isND at e
 split at e
 .cases e;cases ry;exact⟨rfl,by rw[rx.isNon];exact k⟩
 .cases e
theorem Eb{K:Frag}:DRB K Γ (λx y H Q=>y=.non/\Q (.bl (!decide (x=.non))) H) uX:=λH x y dx dy b Q rx ry e k=>by
 unfold uX at e
 split at e
 .cases e;cases ry;exact⟨rfl,by rw[rx.isNon];exact k⟩
 .cases e
noncomputable def Eg:D->Option V
 | .non=>some .non
 | .bl b=>some (.bl b)
 | .int i=>some (.int i)
 | .str x=>some (.str x)
 | _=>none
noncomputable def Bk:List D->Option (List V)
 | []=>some []
 | d::r=>match Eg d,Bk r with
  | some v,some vs=>some (v::vs)
  | _,_=>none
theorem Rep.flat{K:Frag}{H:Hp}{v u:V}{d:D}(r:Rep K Γ H v d)(e:Eg d=some u):v=u/\qO v=true:=by
 cases r <;> simp only[Eg] at e <;> cases e <;> exact⟨rfl,rfl⟩
theorem au.flat{K:Frag}{H:Hp}:∀{vs us:List V}{ds:List D},au K Γ H vs ds->Bk ds=some us->vs=us/\vs.all qO=true
 | _,_,_,.nil,e=>by simp only[Bk] at e;cases e;exact⟨rfl,rfl⟩
 | _,_,_,.cons (d:=d) (ds:=ds) h r,e=>by
  simp only[Bk] at e
  cases h1:Eg d with
  | none=>rw[h1] at e;cases e
  | some p =>
   cases h2:Bk ds with
   | none=>rw[h1,h2] at e;cases e
   | some q =>
    rw[h1,h2] at e
    cases e
    obtain⟨e1,f1⟩:=h.flat h1
    obtain⟨e2,f2⟩:=r.flat h2
    exact⟨by rw[e1,e2],by rw[List.all_cons,f1,f2];rfl⟩
noncomputable def vX:D->Option (List D)
 | .lst xs=>some xs
 | .rol xs=>some xs
 | .tup xs=>some xs
 | .rot xs=>some xs
 | _=>none
theorem Rep.seq{K:Frag}{H:Hp}{v:V}{d:D}{ds:List D}(r:Rep K Γ H v d)(e:vX d=some ds):∃a vs,v=.ref a/\(SqL K H a vs∨SqT K H a vs)/\au K Γ H vs ds:=by
 cases r <;> simp only[vX] at e <;> cases e
 .exact⟨_,_,rfl,.inl (SqL.of ‹_›),‹_›⟩
 .exact⟨_,_,rfl,.inr (SqT.of ‹_›),‹_›⟩
 .exact⟨_,_,rfl,.inl ‹_›,‹_›⟩
 .exact⟨_,_,rfl,.inr ‹_›,‹_›⟩
noncomputable def inD(x y:D):Option Bool:=match x,y with
 | .str i,.str j=>some (!(Builtin.Str.occurrences j i 0 j.length 1).isEmpty)
 | x,y=>match Eg x,(vX y).bind Bk with
  | some v,some vs=>some (inV v vs)
  | _,_=>none
theorem inD_some{K:Frag}{H:Hp}{x y:V}{dx dy:D}{b:Bool}(rx:Rep K Γ H x dx)(ry:Rep K Γ H y dy)(h:inD dx dy=some b):
  (∃i j,x=.str i/\y=.str j/\b=!(Builtin.Str.occurrences j i 0 j.length 1).isEmpty)∨∃p xs,y=.ref p/\(SqL K H p xs∨SqT K H p xs)/\qO x=true/\xs.all qO=true/\b=inV x xs:=by
 unfold inD at h
 split at h
 .cases h;cases rx;cases ry;exact .inl ⟨_,_,rfl,rfl,rfl⟩
 .cases h1:Eg dx with
  | none=>rw[h1] at h;cases h
  | some v =>
   cases h2:vX dy with
   | none=>rw[h1,h2] at h;cases h
   | some ds =>
    rw[h1,h2] at h
    dsimp only[Option.bind_some] at h
    cases h3:Bk ds with
    | none=>rw[h3] at h;cases h
    | some vs =>
     rw[h3] at h
     cases h
     obtain⟨e1,f1⟩:=rx.flat h1
     obtain⟨a,ws,e2,sq,ra⟩:=ry.seq h2
     obtain⟨e3,f3⟩:=ra.flat h3
     exact .inr ⟨a,ws,e2,sq,f1,f3,by rw[e1,e3]⟩
theorem drb_in{K:Frag}:DRB K Γ (λx y H Q=>(∃i j,x=.str i/\y=.str j/\Q (.bl (!(Builtin.Str.occurrences j i 0 j.length 1).isEmpty)) H)∨rIn K false x y H Q) inD:=λH x y dx dy b Q rx ry e k=>by
 rcases inD_some rx ry e with⟨i,j,e1,e2,rfl⟩| ⟨p,xs,e1,sq,f1,f2,rfl⟩
 .exact .inl ⟨i,j,e1,e2,k⟩
 .exact .inr ⟨p,xs,e1,sq,f1,f2,k⟩
section
variable{fa fb:DSt->Out D}(hu:X.A.units+64<cLine)(ha:DB X Γ E a fa)(hb:DB X Γ E b fb)
theorem de_lt(ha:DB X Γ E a fa)(hb:DB X Γ E b fb):DE X Γ E (.Compare a [.Lt] [b] pos) (bV (o2b ltD fa fb)):=d2b jk (ql op_lt ha hb (jJ _))
theorem de_gt(ha:DB X Γ E a fa)(hb:DB X Γ E b fb):DE X Γ E (.Compare a [.Gt] [b] pos) (bV (o2b gtD fa fb)):=d2b jk (ql op_gt ha hb (jJ _))
theorem v5(hu:X.A.units+64<cLine)(ha:DB X Γ E a fa)(hb:DB X Γ E b fb):DE X Γ E (.Compare a [.Eq] [b] pos) (bV (o2b eqD fa fb)):=d2b drb_eq (ql (op_eqD hu) ha hb (jJ _))
theorem de_is(ha:DB X Γ E a fa)(hb:DB X Γ E b fb):DE X Γ E (.Compare a [.Is] [b] pos) (bV (o2b isND fa fb)):=d2b drb_is (ql op_isN ha hb (jJ _))
theorem de_isnot(ha:DB X Γ E a fa)(hb:DB X Γ E b fb):DE X Γ E (.Compare a [.IsNot] [b] pos) (bV (o2b uX fa fb)):=d2b Eb (ql Ov ha hb (jJ _))
theorem de_in(ha:DB X Γ E a fa)(hb:DB X Γ E b fb)(hm:behindInMarks .In b=false:=by rfl):DE X Γ E (.Compare a [.In] [b] pos) (bV (o2b inD fa fb)):=d2b drb_in (ql (Qu.or Qt) ha hb hm)
theorem JF(ha:DB X Γ E a fa)(hb:DB X Γ E b fb):DT X Γ E (.Compare a [.Lt] [b] pos) (o2b ltD fa fb):=d2t jk (uJ op_lt ha hb (jJ _))
theorem dt_gt(ha:DB X Γ E a fa)(hb:DB X Γ E b fb):DT X Γ E (.Compare a [.Gt] [b] pos) (o2b gtD fa fb):=d2t jk (uJ op_gt ha hb (jJ _))
theorem mY(hu:X.A.units+64<cLine)(ha:DB X Γ E a fa)(hb:DB X Γ E b fb):DT X Γ E (.Compare a [.Eq] [b] pos) (o2b eqD fa fb):=d2t drb_eq (uJ (op_eqD hu) ha hb (jJ _))
theorem JG(hu:X.A.units+64<cLine)(ha:DB X Γ E a fa)(hb:DB X Γ E b fb):DT X Γ E (.Compare a [.NotEq] [b] pos) (o2b neD fa fb):=d2t drb_ne (uJ (op_neD hu) ha hb (jJ _))
theorem dt_isnot(ha:DB X Γ E a fa)(hb:DB X Γ E b fb):DT X Γ E (.Compare a [.IsNot] [b] pos) (o2b uX fa fb):=d2t Eb (uJ Ov ha hb (jJ _))
end
def o3(g g':D->D->Option Bool)(fa fb fc:DSt->Out D):DSt->Out Bool:=λδ=>(fa δ).bind λx=>(fb δ).bind λy=>(Out.opt (g x y)).bind λk=>if k=true then (fc δ).bind λz=>.opt (g' y z) else .ok false
theorem d3_aux{r r':R2}{g g':D->D->Option Bool}{fa fb fc:DSt->Out D}(hr:DRB X.K Γ r g)(hr':DRB X.K Γ r' g'){P:Bool->Hp->Prop}{σ:L2.St}{H:Hp}
  (w:ttD X.K Γ E (o3 g g' fa fb fc) σ H P):Cw r r' (tbD X.K Γ E fa) (tbD X.K Γ E fb) (tbD X.K Γ E fc) σ H λv H'=>∃k,v=.bl k/\P k H':=by
 obtain⟨G0,H0,G,δ,S,w⟩:=w
 refine⟨G0,H0,G,δ,S,(aj w).mono (λx w v G1 H1 s1 r1=>?_) λ_ k=>k⟩
 refine⟨G0,H0,G1,δ,S.step s1,(aj w).mono (λy w u G2 H2 s2 r2=>?_) λ_ k=>k.step s1⟩
 obtain⟨k,e,w⟩:=bB (aj w)
 refine hr H2 v u x y k _ (r1.mono s2.hh) r2 e ⟨k,rfl,?_⟩
 cases k with
 | false =>
  rw[if_neg Bool.false_ne_true] at w ⊢
  exact⟨false,rfl,w G2 H2 (s1.trans s2)⟩
 | true =>
  rw[if_pos rfl] at w ⊢
  refine⟨G0,H0,G2,δ,(S.step s1).step s2,(aj w).mono (λz w t G3 H3 s3 r3=>?_) λ_ k=>k.step (s1.trans s2)⟩
  obtain⟨k,e,w⟩:=bB w
  exact hr' H3 u t y z k _ (r2.mono s3.hh) r3 e ⟨k,rfl,w G3 H3 ((s1.trans s2).trans s3)⟩
theorem d3t{r r':R2}{g g':D->D->Option Bool}{fa fb fc:DSt->Out D}(hr:DRB X.K Γ r g)(hr':DRB X.K Γ r' g')(h:PT X e (tTest (Cw r r' (tbD X.K Γ E fa) (tbD X.K Γ E fb) (tbD X.K Γ E fc)))):DT X Γ E e (o3 g g' fa fb fc):=PT.imp h λσ H Q w=>d3_aux hr hr' w
theorem d3v{r r':R2}{g g':D->D->Option Bool}{fa fb fc:DSt->Out D}(hr:DRB X.K Γ r g)(hr':DRB X.K Γ r' g')(h:PE X e (Cw r r' (tbD X.K Γ E fa) (tbD X.K Γ E fb) (tbD X.K Γ E fc))):DE X Γ E e (bV (o3 g g' fa fb fc)):=PE.imp h λσ H Q qq=>by
 obtain⟨G0,H0,G,δ,S,w⟩:=qq;have w:=aj w
 refine⟨G0,H0,G,δ,S,(aj w).mono (λx w v G1 H1 s1 r1=>?_) λ_ k=>k⟩
 refine⟨G0,H0,G1,δ,S.step s1,(aj w).mono (λy w u G2 H2 s2 r2=>?_) λ_ k=>k.step s1⟩
 obtain⟨k,e,w⟩:=bB (aj w)
 refine hr H2 v u x y k _ (r1.mono s2.hh) r2 e ⟨k,rfl,?_⟩
 cases k with
 | false =>
  rw[if_neg Bool.false_ne_true] at w ⊢
  exact w _ G2 H2 (s1.trans s2) (.bl _)
 | true =>
  rw[if_pos rfl] at w ⊢
  refine⟨G0,H0,G2,δ,(S.step s1).step s2,(aj w).mono (λz w t G3 H3 s3 r3=>?_) λ_ k=>k.step (s1.trans s2)⟩
  obtain⟨k,e,w⟩:=bB w
  exact hr' H3 u t y z k _ (r2.mono s3.hh) r3 e (w _ G3 H3 ((s1.trans s2).trans s3) (.bl _))
theorem Gk{fa fb fc:DSt->Out D}(ha:DB X Γ E a fa)(hb:DB X Γ E b fb)(hc:DB X Γ E c fc)(hm:lastMarks [.LtE,.LtE] [b,c]=false:=by with_unfolding_all rfl):DT X Γ E (.Compare a [.LtE,.LtE] [b,c] pos) (o3 leD leD fa fb fc):=d3t jk jk (Kp op_le op_le ha hb hc hm)
theorem dt_lelt{fa fb fc:DSt->Out D}(ha:DB X Γ E a fa)(hb:DB X Γ E b fb)(hc:DB X Γ E c fc)(hm:lastMarks [.LtE,.Lt] [b,c]=false:=by with_unfolding_all rfl):DT X Γ E (.Compare a [.LtE,.Lt] [b,c] pos) (o3 leD ltD fa fb fc):=d3t jk jk (Kp op_le op_lt ha hb hc hm)
theorem de_lelt{fa fb fc:DSt->Out D}(ha:DB X Γ E a fa)(hb:DB X Γ E b fb)(hc:DB X Γ E c fc)(hm:lastMarks [.LtE,.Lt] [b,c]=false:=by with_unfolding_all rfl):DE X Γ E (.Compare a [.LtE,.Lt] [b,c] pos) (bV (o3 leD ltD fa fb fc)):=d3v jk jk (pe_chain op_le op_lt ha hb hc hm)
noncomputable def truD:D->Option Bool
 | .non=>some false
 | .bl b=>some b
 | .int i=>some (i != 0)
 | .str y=>if y.length<=sizeLine then some ((y.length:Int) != 0) else none
 | .lst xs=>some (!xs.isEmpty)
 | .rol xs=>some (!xs.isEmpty)
 | .tup xs=>some (!xs.isEmpty)
 | .rot xs=>some (!xs.isEmpty)
 | .dK xs=>some (!xs.isEmpty)
 | _=>none
noncomputable def tst(f:DSt->Out D):DSt->Out Bool:=λδ=>(f δ).bind λd=>.opt (truD d)
theorem uG{K:Frag}{H:Hp}{vs:List V}{ds:List D}(r:au K Γ H vs ds):(!ds.isEmpty)=!vs.isEmpty:=by cases r <;> rfl
theorem Qf{K:Frag}{H:Hp}{vs:List (Key×V)}{ds:List (Key×D)}(r:cZ K Γ H vs ds):(!ds.isEmpty)=!vs.isEmpty:=by cases r <;> rfl
theorem Rep.tru{K:Frag}{H:Hp}{v:V}{d:D}{k:Bool}(r:Rep K Γ H v d)(e:truD d=some k):TruV K v H k:=by
 cases r <;> simp only[truD] at e
 case non=>cases e;exact rfl
 case bl=>cases e;exact rfl
 case int=>cases e;exact rfl
 case str =>
  split at e
  .cases e;exact⟨‹_›,rfl⟩
  .cases e
 case lst h r=>cases e;rw[uG r];exact .inl ⟨_,SqL.of h,rfl⟩
 case rol h r=>cases e;rw[uG r];exact .inl ⟨_,h,rfl⟩
 case tup h r=>cases e;rw[uG r];exact .inr (.inl ⟨_,SqT.of h,rfl⟩)
 case rot h r=>cases e;rw[uG r];exact .inr (.inl ⟨_,h,rfl⟩)
 case dK h r=>cases e;rw[Qf r];exact .inr (.inr ⟨_,h,rfl⟩)
 all_goals cases e
theorem c7{f:DSt->Out D}(h:DB X Γ E e f)(he:∀whole,isTrue e X.env whole=(do let v ←whole;standAt e.pos;holding [v] (truthy v)):=by intro _;rfl):DT X Γ E e (tst f):=PT.imp (pt_truth h he) λσ H Q qq=>by
 obtain⟨G0,H0,G,δ,S,w⟩:=qq;refine⟨G0,H0,G,δ,S,(aj w).mono (λx w v G1 H1 s1 r1=>?_) λ_ k=>k⟩
 obtain⟨k,e,q⟩:=bB w
 exact⟨k,r1.tru e,q G1 H1 s1⟩
noncomputable def qW(f g:DSt->Out Bool):DSt->Out Bool:=λδ=>(f δ).bind λk=>if k=true then g δ else .ok false
noncomputable def orT(f g:DSt->Out Bool):DSt->Out Bool:=λδ=>(f δ).bind λk=>if k=true then .ok true else g δ
noncomputable def gA(f:DSt->Out Bool):DSt->Out Bool:=λδ=>(f δ).bind λk=>.ok (!k)
variable{rest:List Expr}{ft gt:DSt->Out Bool}
theorem uB(ha:DT X Γ E a ft):DW X Γ E (.BoolOp .And [a] pos) ft:=pw_and1 ha
theorem lF(ha:DT X Γ E a ft):DW X Γ E (.BoolOp .Or [a] pos) ft:=pw_or1 ha
theorem vo(ha:DT X Γ E a ft)(hb:DW X Γ E (.BoolOp .And (b::rest) pos) gt):DW X Γ E (.BoolOp .And (a::b::rest) pos) (qW ft gt):=PW.imp (pw_and ha hb) λσ H Q qq=>by
 obtain⟨G0,H0,G,δ,S,w⟩:=qq;refine⟨G0,H0,G,δ,S,(aj w).mono (λk w G1 H1 s1=>?_) λ_ k=>k⟩
 cases k with
 | false=>rw[if_neg Bool.false_ne_true] at w ⊢;exact w G1 H1 s1
 | true=>rw[if_pos rfl] at w ⊢;exact⟨G0,H0,G1,δ,S.step s1,w.mono (λb q G2 H2 s2=>q G2 H2 (s1.trans s2)) λ_ k=>k.step s1⟩
theorem ou(ha:DT X Γ E a ft)(hb:DW X Γ E (.BoolOp .Or (b::rest) pos) gt):DW X Γ E (.BoolOp .Or (a::b::rest) pos) (orT ft gt):=PW.imp (pw_or ha hb) λσ H Q qq=>by
 obtain⟨G0,H0,G,δ,S,w⟩:=qq;refine⟨G0,H0,G,δ,S,(aj w).mono (λk w G1 H1 s1=>?_) λ_ k=>k⟩
 cases k with
 | true=>rw[if_pos rfl] at w ⊢;exact w G1 H1 s1
 | false=>rw[if_neg Bool.false_ne_true] at w ⊢;exact⟨G0,H0,G1,δ,S.step s1,w.mono (λb q G2 H2 s2=>q G2 H2 (s1.trans s2)) λ_ k=>k.step s1⟩
theorem su(h:DW X Γ E e ft):DT X Γ E e ft:=L2.PW.pt h
theorem d8(ha:DT X Γ E a ft):DT X Γ E (.UnaryOp .Not a pos) (gA ft):=PT.imp (pt_not ha) λσ H Q ⟨G0,H0,G,δ,S,w⟩ =>
 ⟨G0,H0,G,δ,S,(aj w).mono (λk w G1 H1 s1=>w G1 H1 s1) λ_ k=>k⟩
noncomputable def asB:D->Option Bool
 | .bl b=>some b
 | _=>none
noncomputable def vf(f g:DSt->Out D):DSt->Out D:=λδ=>(f δ).bind λd=>(Out.opt (asB d)).bind λk=>if k=true then g δ else .ok (.bl false)
noncomputable def orV(f g:DSt->Out D):DSt->Out D:=λδ=>(f δ).bind λd=>(Out.opt (asB d)).bind λk=>if k=true then .ok (.bl true) else g δ
noncomputable def notV(f:DSt->Out D):DSt->Out D:=λδ=>(f δ).bind λd=>(Out.opt (asB d)).bind λk=>.ok (.bl (!k))
theorem Rep.asB{K:Frag}{H:Hp}{v:V}{d:D}{k:Bool}(r:Rep K Γ H v d)(e:asB d=some k):v=.bl k:=by
 cases r <;> simp only[DL.asB] at e <;> cases e;rfl
variable{fa fb:DSt->Out D}
theorem rY{op}(ha:DE X Γ E a fa):DE X Γ E (.BoolOp op [a] pos) fa:=pe_one ha
theorem pO(ha:DE X Γ E a fa)(hb:DE X Γ E (.BoolOp .And (b::rest) pos) fb):DE X Γ E (.BoolOp .And (a::b::rest) pos) (vf fa fb):=PE.imp (pe_and ha hb) λσ H Q qq=>by
 obtain⟨G0,H0,G,δ,S,w⟩:=qq;refine⟨G0,H0,G,δ,S,(aj w).mono (λx w v G1 H1 s1 r1=>?_) λ_ k=>k⟩
 obtain⟨k,e,w⟩:=bB (aj w)
 refine⟨k,r1.asB e,?_⟩
 cases k with
 | false=>rw[if_neg Bool.false_ne_true] at w ⊢;exact w _ G1 H1 s1 (.bl false)
 | true=>rw[if_pos rfl] at w ⊢;exact⟨G0,H0,G1,δ,S.step s1,w.mono (λb q=>q.step s1) λ_ k=>k.step s1⟩
theorem de_or(ha:DE X Γ E a fa)(hb:DE X Γ E (.BoolOp .Or (b::rest) pos) fb):DE X Γ E (.BoolOp .Or (a::b::rest) pos) (orV fa fb):=PE.imp (pe_or ha hb) λσ H Q qq=>by
 obtain⟨G0,H0,G,δ,S,w⟩:=qq;refine⟨G0,H0,G,δ,S,(aj w).mono (λx w v G1 H1 s1 r1=>?_) λ_ k=>k⟩
 obtain⟨k,e,w⟩:=bB (aj w)
 refine⟨k,r1.asB e,?_⟩
 cases k with
 | true=>rw[if_pos rfl] at w ⊢;exact w _ G1 H1 s1 (.bl true)
 | false=>rw[if_neg Bool.false_ne_true] at w ⊢;exact⟨G0,H0,G1,δ,S.step s1,w.mono (λb q=>q.step s1) λ_ k=>k.step s1⟩
theorem de_not(ha:DE X Γ E a fa):DE X Γ E (.UnaryOp .Not a pos) (notV fa):=PE.imp (pe_not ha) λσ H Q qq=>by
 obtain⟨G0,H0,G,δ,S,w⟩:=qq;refine⟨G0,H0,G,δ,S,(aj w).mono (λx w v G1 H1 s1 r1=>?_) λ_ k=>k⟩
 obtain⟨k,e,w⟩:=bB (aj w)
 exact⟨k,r1.asB e,w _ G1 H1 s1 (.bl _)⟩
noncomputable def ifV(t:DSt->Out Bool)(f g:DSt->Out D):DSt->Out D:=λδ=>(t δ).bind λk=>if k=true then f δ else g δ
theorem de_ifExp(hc:DT X Γ E c ft)(ha:DE X Γ E a fa)(hb:DE X Γ E b fb):DE X Γ E (.IfExp c a b pos) (ifV ft fa fb):=PE.imp (pe_ifExp hc ha hb) λσ H Q qq=>by
 obtain⟨G0,H0,G,δ,S,w⟩:=qq;refine⟨G0,H0,G,δ,S,(aj w).mono (λk w G1 H1 s1=>?_) λ_ k=>k⟩
 cases k with
 | false=>rw[if_neg Bool.false_ne_true] at w ⊢;exact⟨G0,H0,G1,δ,S.step s1,w.mono (λb q=>q.step s1) λ_ k=>k.step s1⟩
 | true=>rw[if_pos rfl] at w ⊢;exact⟨G0,H0,G1,δ,S.step s1,w.mono (λb q=>q.step s1) λ_ k=>k.step s1⟩
noncomputable def aK:DSt->Out (List D):=λ_=>.ok []
noncomputable def ao(f:DSt->Out D)(r:DSt->Out (List D)):DSt->Out (List D):=λδ=>(f δ).bind λd=>(r δ).bind λds=>.ok (d::ds)
variable{es:List Expr}{fr:DSt->Out (List D)}
theorem aJ:DA X Γ E [] aK:=PA.imp dw λσ H Q ⟨G0,H0,G,δ,S,w⟩=>w _ G H (.refl S.st.gh) .nil
theorem ak(ha:DE X Γ E e fa)(hr:DA X Γ E es fr)(hs:starEach (e::es) X.env=(false,eval e X.env)::starEach es X.env:=by rfl):DA X Γ E (e::es) (ao fa fr):=PA.imp (bD ha hr hs) λσ H Q qq=>by
 obtain⟨G0,H0,G,δ,S,w⟩:=qq;refine⟨G0,H0,G,δ,S,(aj w).mono (λx w v G1 H1 s1 r1=>?_) λ_ k=>k⟩
 refine⟨G0,H0,G1,δ,S.step s1,(aj w).mono (λds w vs G2 H2 s2 r2=>?_) λ_ k=>k.step s1⟩
 exact w _ G2 H2 (s1.trans s2) (.cons (r1.mono s2.gg) r2)
noncomputable def dh(f:DSt->Out (List D)):DSt->Out D:=λδ=>(f δ).bind λds=>if ds.length<=sizeLine then .ok (.tup ds) else .stuck
noncomputable def sZ(f:DSt->Out (List D)):DSt->Out D:=λδ=>(f δ).bind λds=>if ds.length<=sizeLine then .ok (.lst ds) else .stuck
theorem eO{x1}(h:DA X Γ E es fr):DE X Γ E (.Tuple es x1 pos) (dh fr):=PE.imp (pe_tup h) λσ H Q qq=>by
 obtain⟨G0,H0,G,δ,S,w⟩:=qq;refine⟨G0,H0,G,δ,S,(aj w).mono (λds w vs G1 H1 s1 r1=>?_) λ_ k=>k⟩
 split at w
 .rename_i h
  exact⟨by rw[r1.length];exact h,λp hp=>w _ _ _ (s1.trans (.new s1.gh hp)) (.tup aG (r1.mono (aY.up (aD s1.gh hp))))⟩
 .exact False.elim w
theorem Ay(h:DA X Γ E es fr):DE X Γ E (.List es pos) (sZ fr):=PE.imp (pe_lst h) λσ H Q qq=>by
 obtain⟨G0,H0,G,δ,S,w⟩:=qq;refine⟨G0,H0,G,δ,S,(aj w).mono (λds w vs G1 H1 s1 r1=>?_) λ_ k=>k⟩
 split at w
 .rename_i h
  exact⟨by rw[r1.length];exact h,λp hp=>w _ _ _ (s1.trans (.new s1.gh hp)) (.lst aG (r1.mono (aY.up (aD s1.gh hp))))⟩
 .exact False.elim w
theorem au.atI{K:Frag}{H:Hp}{vs:List V}{ds:List D}{i:Int}{d:D}(r:au K Γ H vs ds)(e:atI ds i=some d):∃v,atI vs i=some v/\Rep K Γ H v d:=by
 unfold L2.atI at e ⊢
 rw[r.length]
 cases q:ixN ds.length i with
 | none=>rw[q] at e;cases e
 | some j =>
  rw[q] at e
  exact r.get e
noncomputable def ixD:D->D->Option D
 | .str z,.int i=>if z.length<=sizeLine then (atI z.cps.toList i).map λc=>.str ⟨#[c]⟩ else none
 | x,.int i=>(vX x).bind λds=>atI ds i
 | _,_=>none
theorem dr_ix{K:Frag}:DR2 K Γ (rIx K) ixD:=by
 intro G H x y dx dy d Q s rx ry e k
 unfold ixD at e
 split at e
 .split at e
  .obtain⟨c,e1,rfl⟩:=Option.map_eq_some_iff.mp e
   cases rx;cases ry
   exact .inr (.inr ⟨_,_,c,rfl,rfl,‹_›,e1,k _ G H (.refl s) (.str _)⟩)
  .cases e
 .cases ry
  obtain⟨ds,e1,e2⟩:=Option.bind_eq_some_iff.mp e
  obtain⟨a,vs,rfl,sq,ra⟩:=rx.seq e1
  obtain⟨v,h1,h2⟩:=ra.atI e2
  rcases sq with sq | sq
  .exact .inl ⟨a,vs,_,v,rfl,rfl,s.seq sq,h1,k _ G H (.refl s) h2⟩
  .exact .inr (.inl ⟨a,vs,_,v,rfl,rfl,SqT.same s sq,h1,k _ G H (.refl s) h2⟩)
 .cases e
theorem de_ix(ha:DE X Γ E a fa)(hb:DE X Γ E b fb)(hs:vU b:=by exact λ_ _=>rfl):DE X Γ E (.Subscript a b pos) (o2 ixD fa fb):=d2 dr_ix (pe_ix ix_seq ha hb hs)
noncomputable def gvo(i:Nat):DSt->Out D:=λδ=>match δ[i]? with
 | some (some (.sh d))=>.ok d
 | some (some (.ol ds))=>.ok (.lst ds)
 | _=>.stuck
theorem cQ(i:Nat){x:Str}{p:Pos}(h:PE X (.Name x p) (iI i))(hb:DE X Γ E b fb)(hs:vU b:=by exact λ_ _=>rfl):DE X Γ E (.Subscript (.Name x p) b pos) (o2 ixD (gvo i) fb):=PE.imp (pe_ix ix_seq h hb hs) λσ H Q qq=>by
 obtain⟨G0,H0,G,δ,S,w⟩:=qq;obtain⟨O,q⟩:=id S.sl
 unfold o2 gvo at w
 split at w
 .rename_i d e
  obtain⟨v,h1,h2⟩:=q i _ e
  refine⟨v,h1,G0,H0,G,δ,S,(aj (o:=fb δ) w).mono (λy w u G2 H2 s2 r2=>?_) λ_ k=>k⟩
  obtain⟨d,e,k⟩:=bB w
  exact dr_ix G2 H2 v u _ y d Q s2.gh (Rep.mono s2.gg h2) r2 e (k.step s2)
 .rename_i ds e
  obtain⟨v,h1,a,vs,ev,ha,ga,h0,hO,ra⟩:=q i _ e
  subst ev
  refine⟨_,h1,G0,H0,G,δ,S,(aj (o:=fb δ) w).mono (λy w u G2 H2 s2 r2=>?_) λ_ k=>k⟩
  obtain⟨d,e,k⟩:=bB w
  unfold ixD at e
  split at e
  .exact absurd (‹D.lst ds=D.str _›) (λq=>by cases q)
  .cases r2
   obtain⟨ds',e1,e2⟩:=Option.bind_eq_some_iff.mp e
   cases e1
   obtain⟨v,h1,h2⟩:=ra.atI e2
   exact .inl ⟨a,vs,_,v,rfl,rfl,SqL.of (s2.hh _ _ ha),h1,k _ G2 H2 s2 (h2.mono s2.gg)⟩
  .cases e
 .exact False.elim w
def DRC(K:Frag)(Γ:Nat->Option Addr)(r:List V->Hp->VK->Prop)(g:List D->Option D):Prop :=
 ∀G H vs ds d Q,aY G H->au K Γ G vs ds->g ds=some d->okD K Γ G H Q d->r vs H Q
noncomputable def oC(g:List D->Option D)(f:DSt->Out (List D)):DSt->Out D:=λδ=>(f δ).bind λds=>.opt (g ds)
theorem dC{r:List V->Hp->VK->Prop}{g:List D->Option D}(hr:DRC X.K Γ r g)(h:PE X e (tCB r (taD X.K Γ E fr))):DE X Γ E e (oC g fr):=PE.imp h λσ H Q qq=>by
 obtain⟨G0,H0,G,δ,S,w⟩:=qq;refine⟨G0,H0,G,δ,S,(aj w).mono (λds w vs G1 H1 s1 r1=>?_) λ_ k=>k⟩
 obtain⟨d,e,k⟩:=bB w
 exact hr G1 H1 vs ds d Q s1.gh r1 e (k.step s1)
def DRC1(K:Frag)(Γ:Nat->Option Addr)(r:List V->Hp->VK->Prop)(g:D->Option D):Prop :=
 ∀G H v dx d Q,aY G H->Rep K Γ H v dx->g dx=some d->okD K Γ G H Q d->r [v] H Q
theorem dC1{r:List V->Hp->VK->Prop}{g:D->Option D}(hr:DRC1 X.K Γ r g)(h:PE X e (tCB r (jE (tbD X.K Γ E fa) qJ))):DE X Γ E e (o1 g fa):=PE.imp h λσ H Q qq=>by
 obtain⟨G0,H0,G,δ,S,w⟩:=qq;refine⟨G0,H0,G,δ,S,(aj w).mono (λx w v G1 H1 s1 r1=>?_) λ_ k=>k⟩
 obtain⟨d,e,k⟩:=bB w
 exact hr G1 H1 v x d Q s1.gh r1 e (k.step s1)
noncomputable def dj:D->Option D
 | .str z=>if z.length<=sizeLine then some (.int z.length) else none
 | x=>(vX x).map λds=>.int ds.length
theorem drc_len{K:Frag}:DRC1 K Γ (λxs H Q=>(∃p ys,xs=[.ref p]/\(SqL K H p ys∨SqT K H p ys)/\Q (.int ys.length) H)∨∃z,xs=[.str z]/\z.length<=sizeLine/\Q (.int z.length) H) dj:=by
 intro G H v dx d Q s r e k
 unfold dj at e
 split at e
 .split at e
  .cases e;cases r;exact .inr ⟨_,rfl,‹_›,k _ G H (.refl s) (.int _)⟩
  .cases e
 .obtain⟨ds,e1,rfl⟩:=Option.map_eq_some_iff.mp e
  obtain⟨a,vs,rfl,sq,ra⟩:=r.seq e1
  exact .inl ⟨a,vs,rfl,sq,by rw[ra.length];exact k _ G H (.refl s) (.int _)⟩
variable{p:Pos}
theorem cV(hg:Gl X "len")(hm:X.mg "len"=none)(ha:DB X Γ E a fa)(hs:starEach [a] X.env=[(false,eval a X.env)]:=by rfl):DE X Γ E (.Call (.Name "len" p) [a] [] pos) (o1 dj fa) :=
 dC1 drc_len (lU (FT.or FW) hg hm PySem.boot_len (bD ha dw (by rw[hs];rfl)) (by decide) (by decide) (by rw[hs];rfl) (by rfl))
noncomputable def intD:D->Option D
 | .int i=>some (.int i)
 | .bl k=>some (.int (if k then 1 else 0))
 | _=>none
theorem N7(hg:Gl X "int")(hm:X.mg "int"=none)(ha:DE X Γ E a fa)(hs:starEach [a] X.env=[(false,eval a X.env)]:=by rfl):DE X Γ E (.Call (.Name "int" p) [a] [] pos) (o1 intD fa) :=
 dC1 (λG H v dx d Q s r e k=>by
  unfold intD at e
  split at e
  .cases e;cases r;exact .inl ⟨_,rfl,k _ G H (.refl s) (.int _)⟩
  .cases e;cases r;exact .inr ⟨_,rfl,k _ G H (.refl s) (.int _)⟩
  .cases e) (oJ Pa hg hm (by decide +kernel) (bD (aL ha) dw (by rw[hs];rfl)) (by decide) (by decide) (by rw[hs];rfl) (by rfl))
noncomputable def maxD:List D->Option D
 | [.int i,.int j]=>some (.int (if j>i then j else i))
 | _=>none
noncomputable def minD:List D->Option D
 | [.int i,.int j]=>some (.int (if j<i then j else i))
 | _=>none
theorem de_min(hc:X.calm=true)(hg:Gl X "min")(hm:X.mg "min"=none)(ha:DA X Γ E (e::es) fr)(he:starEach (e::es) X.env=(false,eval e X.env)::starEach es X.env:=by rfl)(hpl:(backTo pos (starEach es X.env)).any (·.1)=false:=by rfl):DE X Γ E (.Call (.Name "min" p) (e::es) [] pos) (oC minD fr) :=
 dC (λG H vs ds d Q s r e k=>by
  unfold minD at e
  split at e
  .cases e
   cases r with
   | cons r1 r2=>cases r1;cases r2 with
    | cons r2 r3=>cases r2;cases r3;exact⟨_,_,rfl,k _ G H (.refl s) (.int _)⟩
  .cases e) (lU (Pb hc) hg hm (by decide +kernel) ha (by decide) (by decide) he hpl)
noncomputable def wG:D->Option D:=λx=>(vX x).map .lst
theorem Gf(hg:Gl X "list")(hm:X.mg "list"=none)(ha:DE X Γ E a fa)(hs:starEach [a] X.env=[(false,eval a X.env)]:=by rfl):DE X Γ E (.Call (.Name "list" p) [a] [] pos) (oC (λds=>match ds with | [x]=>wG x | _=>none) (ao fa aK)) :=
 dC (λG H vs ds d Q s r e k=>by
  cases r with
  | nil=>cases e
  | cons r1 r2 =>
   cases r2 with
   | cons _ _=>cases e
   | nil =>
    dsimp only at e
    unfold wG at e
    obtain⟨xs,e1,rfl⟩:=Option.map_eq_some_iff.mp e
    obtain⟨a,vs,rfl,sq,ra⟩:=r1.seq e1
    exact⟨a,vs,rfl,sq.imp (λz=>s.seq z) (λz=>SqT.same s z),λl hl=>k _ _ _ (.new s hl) (.lst aG (ra.mono (aY.up (aD s hl))))⟩) (oJ FZ hg hm (by decide +kernel) (ak ha aJ (by rw[hs];rfl)) (by decide) (by decide) (by rw[hs];rfl) (by rfl))
noncomputable def vM:D->Option D
 | .lst xs=>some (.tup xs)
 | .rol xs=>some (.tup xs)
 | .tup xs=>some (.tup xs)
 | _=>none
theorem Az(hg:Gl X "tuple")(hm:X.mg "tuple"=none)(ha:DE X Γ E a fa)(hs:starEach [a] X.env=[(false,eval a X.env)]:=by rfl):DE X Γ E (.Call (.Name "tuple" p) [a] [] pos) (oC (λds=>match ds with | [x]=>vM x | _=>none) (ao fa aK)) :=
 dC (λG H vs ds d Q s r e k=>by
  cases r with
  | nil=>cases e
  | cons r1 r2 =>
   cases r2 with
   | cons _ _=>cases e
   | nil =>
    dsimp only at e
    unfold vM at e
    split at e
    .cases e
     cases r1 with
     | lst h ra=>exact⟨_,_,rfl,.inl ⟨s.seq (SqL.of h),λl hl=>k _ _ _ (.new s hl) (.tup aG (ra.mono (aY.up (aD s hl))))⟩⟩
    .cases e
     cases r1 with
     | rol h ra=>exact⟨_,_,rfl,.inl ⟨s.seq h,λl hl=>k _ _ _ (.new s hl) (.tup aG (ra.mono (aY.up (aD s hl))))⟩⟩
    .cases e
     cases r1 with
     | tup h ra=>exact⟨_,_,rfl,.inr ⟨SqT.of (s _ _ h),k _ G H (.refl s) (.tup h ra)⟩⟩
    .cases e) (oJ Dc hg hm (by decide +kernel) (ak ha aJ (by rw[hs];rfl)) (by decide) (by decide) (by rw[hs];rfl) (by rfl))
end
end DL
namespace DL
open PySem PySem.Spec PyProof.Rows MX L2
section
variable{K:Frag}{Γ:Nat->Option Addr}{G0 H0 G H G' H':Hp}{O O':Addr->Option Nat}{σ:L2.St}{δ:DSt}
theorem Inner.reO(k:∀b,H b≠none->O' b=O b){i:Nat}:∀{vs:List V}{dss:List (List D)},Inner K Γ H0 G H O i vs dss->Inner K Γ H0 G H O' i vs dss
 | _,_,.nil=>.nil
 | _,_,.cons h g h0 o r n t=>.cons h g h0 (by rw[k _ (by rw[h];exact λq=>nomatch q)];exact o) r n (t.reO k)
theorem bQ.reO(k:∀b,H b≠none->O' b=O b){i:Nat}:∀{vs:List V}{es:List Mx}{bs:List Addr},bQ K Γ H0 G H O i vs es bs->bQ K Γ H0 G H O' i vs es bs
 | _,_,_,.nil=>.nil
 | _,_,_,.own h g h0 o r n t=>.own h g h0 (by rw[k _ (by rw[h];exact λq=>nomatch q)];exact o) r n (t.reO k)
 | _,_,_,.fix r t=>.fix r (t.reO k)
theorem cC.reO{i:Nat}{v:V}{x:Sl}(h:cC K Γ H0 G H O i v x)(k:∀b,H b≠none->O' b=O b):cC K Γ H0 G H O' i v x:=by
 have kk:∀{a:Addr}{o:HO},H a=some o->O' a=O a:=λh=>k _ (by rw[h];exact λq=>nomatch q)
 cases x with
 | sh d=>exact h
 | ol ds=>obtain⟨a,vs,e,h1,h2,h3,h4,h5⟩:=h;exact⟨a,vs,e,h1,h2,h3,(kk h1).trans h4,h5⟩
 | oll ds=>obtain⟨a,vs,e,h1,h2,h3,h4,h5,h6⟩:=h;exact⟨a,vs,e,h1,h2,h3,(kk h1).trans h4,h5,h6.reO k⟩
 | od ds=>obtain⟨a,vs,e,h1,h2,h3,h4,h5⟩:=h;exact⟨a,vs,e,h1,h2,h3,(kk h1).trans h4,h5⟩
 | odT ds=>obtain⟨a,vs,e,h1,h2,h3,h4,h5⟩:=h;exact⟨a,vs,e,h1,h2,h3,(kk h1).trans h4,h5⟩
 | omx ds=>obtain⟨a,vs,bs,e,h1,h2,h3,h4,h5,h6⟩:=h;exact⟨a,vs,bs,e,h1,h2,h3,(kk h1).trans h4,h5,h6.reO k⟩
theorem Inner.frame{i j:Nat}(ij:j≠i)(hh:∀b,O b≠some i->H' b=H b)(gg:aY G G')(gn:∀b,O b≠some i->G b=none->G' b=none):∀{vs:List V}{dss:List (List D)},Inner K Γ H0 G H O j vs dss->Inner K Γ H0 G' H' O j vs dss
 | _,_,.nil=>.nil
 | _,_,.cons h g h0 o r n t=>.cons ((hh _ (by rw[o];exact λq=>ij (Option.some.inj q))).trans h) (gn _ (by rw[o];exact λq=>ij (Option.some.inj q)) g) h0 o (r.mono gg) n (t.frame ij hh gg gn)
theorem bQ.frame{i j:Nat}(ij:j≠i)(hh:∀b,O b≠some i->H' b=H b)(gg:aY G G')(gn:∀b,O b≠some i->G b=none->G' b=none):∀{vs:List V}{es:List Mx}{bs:List Addr},bQ K Γ H0 G H O j vs es bs->bQ K Γ H0 G' H' O j vs es bs
 | _,_,_,.nil=>.nil
 | _,_,_,.own h g h0 o r n t=>.own ((hh _ (by rw[o];exact λq=>ij (Option.some.inj q))).trans h) (gn _ (by rw[o];exact λq=>ij (Option.some.inj q)) g) h0 o (r.mono gg) n (t.frame ij hh gg gn)
 | _,_,_,.fix r t=>.fix (r.mono gg) (t.frame ij hh gg gn)
theorem cC.frame{i j:Nat}{v:V}{x:Sl}(h:cC K Γ H0 G H O j v x)(ij:j≠i)(hh:∀b,O b≠some i->H' b=H b)(gg:aY G G')(gn:∀b,O b≠some i->G b=none->G' b=none):cC K Γ H0 G' H' O j v x:=by
 have nz:∀{a:Addr},O a=some j->O a≠some i:=λo=>by rw[o];exact λq=>ij (Option.some.inj q)
 cases x with
 | sh d=>exact Rep.mono gg h
 | ol ds=>obtain⟨a,vs,e,h1,h2,h3,h4,h5⟩:=h;exact⟨a,vs,e,(hh _ (nz h4)).trans h1,gn _ (nz h4) h2,h3,h4,h5.mono gg⟩
 | oll ds=>obtain⟨a,vs,e,h1,h2,h3,h4,h5,h6⟩:=h;exact⟨a,vs,e,(hh _ (nz h4)).trans h1,gn _ (nz h4) h2,h3,h4,h5,h6.frame ij hh gg gn⟩
 | od ds=>obtain⟨a,vs,e,h1,h2,h3,h4,h5⟩:=h;exact⟨a,vs,e,(hh _ (nz h4)).trans h1,gn _ (nz h4) h2,h3,h4,h5.mono gg⟩
 | odT ds=>obtain⟨a,vs,e,h1,h2,h3,h4,h5⟩:=h;exact⟨a,vs,e,(hh _ (nz h4)).trans h1,gn _ (nz h4) h2,h3,h4,h5.mono gg⟩
 | omx ds=>obtain⟨a,vs,bs,e,h1,h2,h3,h4,h5,h6⟩:=h;exact⟨a,vs,bs,e,(hh _ (nz h4)).trans h1,gn _ (nz h4) h2,h3,h4,h5,h6.frame ij hh gg gn⟩
theorem Slots.put{i:Nat}{v:V}{x:Sl}(hl:δ.length=σ.length)(q:∀j s,δ[j]?=some (some s)->j≠i->∃v,σ[j]?=some (some v)/\cC K Γ H0 G H O j v s)(n:cC K Γ H0 G H O i v x):Slots K Γ H0 G H (σ.set i (some v)) (δ.set i (some x)):=by
 refine⟨O,λj y e=>?_⟩
 by_cases ij:i=j
 .subst ij
  rw[List.getElem?_set_self'] at e
  cases h:δ[i]? with
  | none=>rw[h] at e;simp at e
  | some z =>
   rw[h] at e
   simp at e
   have lt:i<σ.length:=by rw[←hl];exact(List.getElem?_eq_some_iff.mp h).1
   subst e
   exact⟨v,by rw[List.getElem?_set_self lt],n⟩
 .rw[List.getElem?_set_ne ij] at e
  obtain⟨v',h1,h2⟩:=q j y e (λz=>ij z.symm)
  exact⟨v',by rw[List.getElem?_set_ne ij];exact h1,h2⟩
theorem wV{α:Type}{l:List α}{i:Nat}{x:α}(h:l[i]?=some x):l.set i x=l:=by
 obtain⟨lt,e⟩:=List.getElem?_eq_some_iff.mp h
 subst e
 exact List.set_getElem_self lt
theorem SR.setl(S:SR K Γ G0 H0 G H σ δ)(s:Step G H G' H'){i:Nat}{a:Addr}{vs:List V}{ds:List D}(f:H a=none)(h:H' a=some (.lst vs))(g:G' a=none)(r:au K Γ G' vs ds):
  SR K Γ G0 H0 G' H' (σ.set i (some (.ref a))) (δ.set i (some (.ol ds))):=by
 obtain⟨O,q⟩:=S.sl
 have k:∀b,H b≠none->(λb=>if b=a then some i else O b) b=O b:=λb hb=>by
  have:b≠a:=λz=>hb (z▸f)
  simp[this]
 refine⟨S.st.trans s,by rw[List.length_set,List.length_set];exact S.len,Slots.put (O:=λb=>if b=a then some i else O b) S.len (λj y e ij=>?_) ⟨a,vs,rfl,h,g,aD S.st.hh f,by simp,r⟩⟩
 obtain⟨v,h1,h2⟩:=q j y e
 exact⟨v,h1,(h2.reO k).step s⟩
theorem bx.mem{G' H':Hp}:∀{vs:List V}{dss:List (List D)},bx K Γ H G' H' vs dss->∀b,V.ref b∈vs->H b=none/\H' b≠none
 | _,_,.nil,b,hb=>by cases hb
 | _,_,.cons f h g r n t,b,hb=>by
  rcases List.mem_cons.mp hb with z | z
  .cases z;exact⟨f,by rw[h];exact λq=>nomatch q⟩
  .exact t.mem b z
theorem bx.inner{i:Nat}{vs₀:List V}(h0:∀b,H b=none->H0 b=none)(o:∀b,V.ref b∈vs₀->O b=some i):∀{vs:List V}{dss:List (List D)},(∀b,V.ref b∈vs->V.ref b∈vs₀)->bx K Γ H G' H' vs dss->Inner K Γ H0 G' H' O i vs dss
 | _,_,_,.nil=>.nil
 | _,_,m,.cons f h g r n t=>.cons h g (h0 _ f) (o _ (m _ List.mem_cons_self)) r n (bx.inner h0 o (λb hb=>m b (List.mem_cons_of_mem _ hb)) t)
theorem SR.setll(S:SR K Γ G0 H0 G H σ δ)(s:Step G H G' H'){i:Nat}{a:Addr}{vs:List V}{dss:List (List D)}(f:H a=none)(h:H' a=some (.lst vs))(g:G' a=none)(n:V.ref a∉vs)(r:bx K Γ H G' H' vs dss):
  SR K Γ G0 H0 G' H' (σ.set i (some (.ref a))) (δ.set i (some (.oll dss))):=by
 obtain⟨O,q⟩:=S.sl
 have k:∀b,H b≠none->(λb=>if b=a∨V.ref b∈vs then some i else O b) b=O b:=λb hb=>by
  have h1:b≠a:=λz=>hb (z▸f)
  have h2:V.ref b∉vs:=λz=>hb (r.mem b z).1
  simp[h1,h2]
 refine⟨S.st.trans s,by rw[List.length_set,List.length_set];exact S.len,Slots.put (O:=λb=>if b=a∨V.ref b∈vs then some i else O b) S.len (λj y e ij=>?_) ⟨a,vs,rfl,h,g,aD S.st.hh f,by simp,n,r.inner (vs₀:=vs) (λb z=>aD S.st.hh z) (λb z=>by simp[z]) λ_ z=>z⟩⟩
 obtain⟨v,h1,h2⟩:=q j y e
 exact⟨v,h1,(h2.reO k).step s⟩
theorem SR.write(S:SR K Γ G0 H0 G H σ δ)(q:∀i s,δ[i]?=some (some s)->∃v,σ[i]?=some (some v)/\cC K Γ H0 G H O i v s){i:Nat}{a:Addr}{o:HO}{v:V}{x:Sl}(g:G a=none)(h0:H0 a=none)(oa:O a=some i)(hv:σ[i]?=some (some v))
  (n:cC K Γ H0 G (upd H a o) O i v x):SR K Γ G0 H0 G (upd H a o) σ (δ.set i (some x)):=by
 have hh:∀b,O b≠some i->upd H a o b=H b:=λb hb=>aF λz=>hb (z▸oa)
 refine⟨⟨S.st.gg,λb u e=>?_,λb u e=>?_,S.st.sep⟩,by rw[List.length_set];exact S.len,?_⟩
 .rw[aF (aW e h0)];exact S.st.hh _ _ e
 .rw[aF (aW e g)];exact S.st.gh _ _ e
 .have z:=Slots.put (v:=v) (i:=i) (x:=x) S.len (λj y e ij=>by
   obtain⟨v',h1,h2⟩:=q j y e
   exact⟨v',h1,h2.frame ij hh (aY.refl _) (λ_ _ g=>g)⟩) n
  rwa [wV hv] at z
noncomputable def dJ(G H:Hp)(p:Addr->Bool):Hp:=λb=>if p b=true then H b else G b
theorem SR.wu(S:SR K Γ G0 H0 G H σ δ)(q:∀i s,δ[i]?=some (some s)->∃v,σ[i]?=some (some v)/\cC K Γ H0 G H O i v s){i:Nat}(p:Addr->Bool)(hp:∀b,p b=true->O b=some i/\G b=none/\H0 b=none){v:V}{d:D}(hv:σ[i]?=some (some v))
  (n:Rep K Γ (dJ G H p) v d):SR K Γ G0 H0 (dJ G H p) H σ (δ.set i (some (.sh d))):=by
 have gg:aY G (dJ G H p):=λb u e=>by
  unfold dJ
  split
  .rw[(hp b ‹_›).2.1] at e;cases e
  .exact e
 have gn:∀b,O b≠some i->G b=none->dJ G H p b=none:=λb hb g=>by
  unfold dJ
  split
  .exact absurd (hp b ‹_›).1 hb
  .exact g
 refine⟨⟨S.st.gg.trans gg,S.st.hh,λb u e=>?_,λb hb g0=>?_⟩,by rw[List.length_set];exact S.len,?_⟩
 .unfold dJ at e
  split at e
  .exact e
  .exact S.st.gh _ _ e
 .unfold dJ
  split
  .exact absurd (hp b ‹_›).2.2 hb
  .exact S.st.sep b hb g0
 .have z:=Slots.put (v:=v) (i:=i) (x:=.sh d) S.len (λj y e ij=>by
   obtain⟨v',h1,h2⟩:=q j y e
   exact⟨v',h1,h2.frame ij (λ_ _=>rfl) gg gn⟩) n
  rwa [wV hv] at z
theorem Inner.facts{i:Nat}:∀{vs:List V}{dss:List (List D)},Inner K Γ H0 G H O i vs dss->∀b,V.ref b∈vs->O b=some i/\G b=none/\H0 b=none
 | _,_,.nil,b,hb=>by cases hb
 | _,_,.cons h g h0 o r n t,b,hb=>by
  rcases List.mem_cons.mp hb with z | z
  .cases z;exact⟨o,g,h0⟩
  .exact t.facts b z
theorem Inner.frozen{i:Nat}{p:Addr->Bool}(gg:aY G (dJ G H p)):∀{vs:List V}{dss:List (List D)},(∀b,V.ref b∈vs->p b=true)->Inner K Γ H0 G H O i vs dss->au K Γ (dJ G H p) vs (dss.map .lst)
 | _,_,_,.nil=>.nil
 | _,_,m,.cons h g h0 o r n t=>.cons (.lst (by unfold dJ;rw[if_pos (m _ List.mem_cons_self)];exact h) (r.mono gg)) (Inner.frozen gg (λb' hb=>m b' (List.mem_cons_of_mem _ hb)) t)
theorem bQ.facts{i:Nat}:∀{vs:List V}{es:List Mx}{bs:List Addr},bQ K Γ H0 G H O i vs es bs->∀b∈bs,O b=some i/\G b=none/\H0 b=none
 | _,_,_,.nil,b,hb=>by cases hb
 | _,_,_,.own h g h0 o r n t,b,hb=>by
  rcases List.mem_cons.mp hb with z | z
  .cases z;exact⟨o,g,h0⟩
  .exact t.facts b z
 | _,_,_,.fix r t,b,hb=>t.facts b hb
theorem bQ.frozen{i:Nat}{p:Addr->Bool}(gg:aY G (dJ G H p)):∀{vs:List V}{es:List Mx}{bs:List Addr},(∀b∈bs,p b=true)->bQ K Γ H0 G H O i vs es bs->au K Γ (dJ G H p) vs (es.map Mx.d)
 | _,_,_,_,.nil=>.nil
 | _,_,_,m,.own h g h0 o r n t=>.cons (.lst (by unfold dJ;rw[if_pos (m _ List.mem_cons_self)];exact h) (r.mono gg)) (bQ.frozen gg (λb' hb=>m b' (List.mem_cons_of_mem _ hb)) t)
 | _,_,_,m,.fix r t=>.cons (r.mono gg) (bQ.frozen gg m t)
noncomputable def frzS:Sl->Sl
 | .sh d=>.sh d
 | .ol ds=>.sh (.lst ds)
 | .oll dss=>.sh (.lst (dss.map .lst))
 | .od kvs=>.sh (.dK kvs)
 | .odT kvs=>.sh (.dT kvs)
 | .omx es=>.sh (.lst (es.map Mx.d))
noncomputable def frz(i:Nat)(δ:DSt):DSt:=match δ[i]? with
 | some (some s)=>δ.set i (some (frzS s))
 | _=>δ
theorem cX{p:Addr->Bool}(hp:∀b,p b=true->G b=none):aY G (dJ G H p):=λb u e=>by
 unfold dJ
 split
 .rw[hp b ‹_›] at e;cases e
 .exact e
theorem SR.freeze(S:SR K Γ G0 H0 G H σ δ)(i:Nat):∃G',SR K Γ G0 H0 G' H σ (frz i δ):=by
 obtain⟨O,q⟩:=id S.sl
 unfold frz
 split
 .rename_i s e
  obtain⟨v,hv,h⟩:=q i s e
  cases s with
  | sh d=>exact⟨G,by rw[show frzS (.sh d)=.sh d from rfl,wV e];exact S⟩
  | ol ds =>
   obtain⟨a,vs,ev,h1,h2,h3,h4,h5⟩:=h
   subst ev
   have hp:∀b,decide (b=a)=true->O b=some i/\G b=none/\H0 b=none:=λb z=>by obtain rfl:=of_decide_eq_true z;exact⟨h4,h2,h3⟩
   exact⟨_,S.wu q (λb=>decide (b=a)) hp hv (.lst (by unfold dJ;rw[if_pos (by simp)];exact h1) (h5.mono (cX λb z=>(hp b z).2.1)))⟩
  | oll ds =>
   obtain⟨a,vs,ev,h1,h2,h3,h4,h5,h6⟩:=h
   subst ev
   have hp:∀b,decide (b=a∨V.ref b∈vs)=true->O b=some i/\G b=none/\H0 b=none:=λb z=>by
    rcases of_decide_eq_true z with z | z
    .subst z;exact⟨h4,h2,h3⟩
    .exact h6.facts b z
   exact⟨_,S.wu q (λb=>decide (b=a∨V.ref b∈vs)) hp hv (.lst (by unfold dJ;rw[if_pos (by simp)];exact h1) (h6.frozen (cX λb z=>(hp b z).2.1) λb hb=>by simp[hb]))⟩
  | od ds =>
   obtain⟨a,vs,ev,h1,h2,h3,h4,h5⟩:=h
   subst ev
   have hp:∀b,decide (b=a)=true->O b=some i/\G b=none/\H0 b=none:=λb z=>by obtain rfl:=of_decide_eq_true z;exact⟨h4,h2,h3⟩
   exact⟨_,S.wu q (λb=>decide (b=a)) hp hv (.dK (by unfold dJ;rw[if_pos (by simp)];exact h1) (h5.mono (cX λb z=>(hp b z).2.1)))⟩
  | odT ds =>
   obtain⟨a,vs,ev,h1,h2,h3,h4,h5⟩:=h
   subst ev
   have hp:∀b,decide (b=a)=true->O b=some i/\G b=none/\H0 b=none:=λb z=>by obtain rfl:=of_decide_eq_true z;exact⟨h4,h2,h3⟩
   exact⟨_,S.wu q (λb=>decide (b=a)) hp hv (.dT (by unfold dJ;rw[if_pos (by simp)];exact h1) (h5.mono (cX λb z=>(hp b z).2.1)))⟩
  | omx ds =>
   obtain⟨a,vs,bs,ev,h1,h2,h3,h4,h5,h6⟩:=h
   subst ev
   have hp:∀b,decide (b=a∨b∈bs)=true->O b=some i/\G b=none/\H0 b=none:=λb z=>by
    rcases of_decide_eq_true z with z | z
    .subst z;exact⟨h4,h2,h3⟩
    .exact h6.facts b z
   exact⟨_,S.wu q (λb=>decide (b=a∨b∈bs)) hp hv (.lst (by unfold dJ;rw[if_pos (by simp)];exact h1) (h6.frozen (cX λb z=>(hp b z).2.1) λb hb=>by simp[hb]))⟩
 .exact⟨G,S⟩
end
section
variable(K:Frag)(Γ:Nat->Option Addr)(E:XK)
def okF(G H:Hp)(Q:VK)(ds:List D):Prop:=∀a vs G' H',Step G H G' H'->H a=none->H' a=some (.lst vs)->G' a=none->au K Γ G' vs ds->Q (.ref a) H'
def okFF(G H:Hp)(Q:VK)(dss:List (List D)):Prop:=∀a vs G' H',Step G H G' H'->H a=none->H' a=some (.lst vs)->G' a=none->V.ref a∉vs->bx K Γ H G' H' vs dss->Q (.ref a) H'
def tfD(f:DSt->Out (List D)):TE:=λσ H Q=>∃G0 H0 G δ,SR K Γ G0 H0 G H σ δ/\wpO (f δ) (okF K Γ G H Q) (exD K Γ E G H)
def tffD(f:DSt->Out (List (List D))):TE:=λσ H Q=>∃G0 H0 G δ,SR K Γ G0 H0 G H σ δ/\wpO (f δ) (okFF K Γ G H Q) (exD K Γ E G H)
end
abbrev DF(X:Cx)(Γ:Nat->Option Addr)(E:XK)(e:Expr)(f:DSt->Out (List D)):Prop:=PE X e (tfD X.K Γ E f)
abbrev DFF(X:Cx)(Γ:Nat->Option Addr)(E:XK)(e:Expr)(f:DSt->Out (List (List D))):Prop:=PE X e (tffD X.K Γ E f)
section
variable{X:Cx}{Γ:Nat->Option Addr}{E:XK}{e a b c:Expr}{pos:Pos}{es:List Expr}{fa fb:DSt->Out D}{fr:DSt->Out (List D)}
theorem bx.frozen{K:Frag}{H0 G H:Hp}{p:Addr->Bool}(gg:aY G (dJ G H p)):∀{vs:List V}{dss:List (List D)},(∀b,V.ref b∈vs->p b=true)->bx K Γ H0 G H vs dss->au K Γ (dJ G H p) vs (dss.map .lst)
 | _,_,_,.nil=>.nil
 | _,_,m,.cons f h g r n t=>.cons (.lst (by unfold dJ;rw[if_pos (m _ List.mem_cons_self)];exact h) (r.mono gg)) (bx.frozen gg (λb' hb=>m b' (List.mem_cons_of_mem _ hb)) t)
theorem bx.gnone{K:Frag}{H G' H':Hp}:∀{vs:List V}{dss:List (List D)},bx K Γ H G' H' vs dss->∀b,V.ref b∈vs->G' b=none
 | _,_,.nil,b,hb=>by cases hb
 | _,_,.cons f h g r n t,b,hb=>by
  rcases List.mem_cons.mp hb with z | z
  .cases z;exact g
  .exact t.gnone b z
theorem Step.frz{G H G' H':Hp}(s:Step G H G' H')(p:Addr->Bool)(hp:∀b,p b=true->G' b=none/\H b=none):Step G H (dJ G' H' p) H' :=
 ⟨s.gg.trans (cX λb z=>(hp b z).1),s.hh,λb u e=>by
  unfold dJ at e
  split at e
  .exact e
  .exact s.gh _ _ e,λb hb g=>by
  unfold dJ
  split
  .exact absurd (hp b ‹_›).2 hb
  .exact s.sep b hb g⟩
noncomputable def gG(f:DSt->Out (List D)):DSt->Out D:=λδ=>(f δ).bind λds=>.ok (.lst ds)
theorem qN{f:DSt->Out (List D)}(h:DF X Γ E e f):DE X Γ E e (gG f):=PE.imp h λσ H Q qq=>by
 obtain⟨G0,H0,G,δ,S,w⟩:=qq;refine⟨G0,H0,G,δ,S,(aj w).mono (λds w a vs G1 H1 s1 f h g r=>?_) λ_ k=>k⟩
 have hp:∀b,decide (b=a)=true->G1 b=none/\H b=none:=λb z=>by obtain rfl:=of_decide_eq_true z;exact⟨g,f⟩
 exact w _ _ H1 (s1.frz (λb=>decide (b=a)) hp) (.lst (by unfold dJ;rw[if_pos (by simp)];exact h) (r.mono (cX λb z=>(hp b z).1)))
noncomputable def Ar(f:DSt->Out (List D)):DSt->Out (List D):=λδ=>(f δ).bind λds=>if ds.length<=sizeLine then .ok ds else .stuck
theorem Gg(h:DA X Γ E es fr):DF X Γ E (.List es pos) (Ar fr):=PE.imp (pe_lst h) λσ H Q qq=>by
 obtain⟨G0,H0,G,δ,S,w⟩:=qq;refine⟨G0,H0,G,δ,S,(aj w).mono (λds w vs G1 H1 s1 r1=>?_) λ_ k=>k⟩
 split at w
 .rename_i h
  exact⟨by rw[r1.length];exact h,λp hp=>w p vs G1 _ (s1.trans (.aside s1.gh hp)) (aD s1.hh hp) aG (aD s1.gh hp) r1⟩
 .exact False.elim w
noncomputable def bL(f:DSt->Out D):DSt->Out (List D):=λδ=>(f δ).bind λd=>.opt (vX d)
end
section
variable{X:Cx}{Γ:Nat->Option Addr}{E:XK}{e a b c:Expr}{pos:Pos}{es:List Expr}{fa fb:DSt->Out D}{fr:DSt->Out (List D)}{ft:DSt->Out Bool}{st:Stmt}{rest sa sb:List Stmt}{g g':DSt->Out Fl}
noncomputable def dX:DSt->Out Fl:=λδ=>.ok (.nx δ)
noncomputable def aR(g g':DSt->Out Fl):DSt->Out Fl:=λδ=>(g δ).bind λfl=>match fl with
 | .nx δ'=>g' δ'
 | fl=>.ok fl
theorem bu:DSs X Γ E [] dX:=PSs.imp pss_nil λN σ H ⟨G0,H0,G,δ,S,w⟩=>w σ G H S
theorem aq(h1:DS X Γ E st g)(h2:DSs X Γ E rest g'):DSs X Γ E (st::rest) (aR g g'):=PSs.imp (wK h1 h2) λN σ H qq=>by
 obtain⟨G0,H0,G,δ,S,w⟩:=qq;refine⟨G0,H0,G,δ,S,(aj w).mono (λfl w=>?_) λ_ k=>k⟩
 cases fl with
 | nx δ'=>exact λσ' G' H' S'=>⟨G0,H0,G',δ',S',w⟩
 | rt d=>exact w
 | bk d=>exact w
 | ct d=>exact w
 | rl d=>exact w
 | rll d=>exact w
theorem az(h1:DS X Γ E st g):DSs X Γ E [st] g:=qp h1
theorem xM(i:Nat)(h:DS X Γ E st g):DS X Γ E st (λδ=>g (frz i δ)):=PS.imp h λN σ H qq=>by
 obtain⟨G0,H0,G,δ,S,w⟩:=qq;obtain⟨G',S'⟩:=S.freeze i
 exact⟨G0,H0,G',_,S',w⟩
theorem v9:DS X Γ E st (λ_=>.stuck):=PS.imp ps_never λN σ H ⟨G0,H0,G,δ,S,w⟩=>w
noncomputable def bG(f:DSt->Out D):DSt->Out Fl:=λδ=>(f δ).bind λd=>.ok (.rt d)
theorem aU(he:DE X Γ E e fa):DS X Γ E (.Return (some e) pos) (bG fa):=PS.imp (xW he) λN σ H ⟨G0,H0,G,δ,S,w⟩ =>
 ⟨G0,H0,G,δ,S,(aj w).mono (λd w v G' H' s r=>w v G' H' (S.st.trans s) r) λx k=>exD.step k S.st⟩
noncomputable def Ci(f:DSt->Out (List D)):DSt->Out Fl:=λδ=>(f δ).bind λd=>.ok (.rl d)
theorem Gj(he:DF X Γ E e fr):DS X Γ E (.Return (some e) pos) (Ci fr):=PS.imp (xW he) λN σ H ⟨G0,H0,G,δ,S,w⟩ =>
 ⟨G0,H0,G,δ,S,(aj w).mono (λd w a vs G' H' s f h g r=>w a vs G' H' (S.st.trans s) (aD S.st.hh f) h g r) λx k=>exD.step k S.st⟩
theorem bx.reF{K:Frag}{H H2 G' H':Hp}(k:∀b,H b=none->H2 b=none):∀{vs:List V}{dss:List (List D)},bx K Γ H G' H' vs dss->bx K Γ H2 G' H' vs dss
 | _,_,.nil=>.nil
 | _,_,.cons f h g r n t=>.cons (k _ f) h g r n (bx.reF k t)
noncomputable def Nj(f:DSt->Out (List (List D))):DSt->Out Fl:=λδ=>(f δ).bind λd=>.ok (.rll d)
theorem ds_retff{ff:DSt->Out (List (List D))}(he:DFF X Γ E e ff):DS X Γ E (.Return (some e) pos) (Nj ff):=PS.imp (xW he) λN σ H ⟨G0,H0,G,δ,S,w⟩ =>
 ⟨G0,H0,G,δ,S,(aj w).mono (λd w a vs G' H' s f h g n r=>w a vs G' H' (S.st.trans s) (aD S.st.hh f) h g n (r.reF λb z=>aD S.st.hh z)) λx k=>exD.step k S.st⟩
noncomputable def Er(i:Nat):DSt->Out Fl:=λδ=>match δ[i]? with
 | some (some (.sh d))=>.ok (.rt d)
 | some (some (.ol ds))=>.ok (.rl ds)
 | some (some (.oll dss))=>.ok (.rll dss)
 | _=>.stuck
theorem Inner.toN{K:Frag}{H0 G H:Hp}{O:Addr->Option Nat}{i:Nat}:∀{vs:List V}{dss:List (List D)},Inner K Γ H0 G H O i vs dss->bx K Γ H0 G H vs dss
 | _,_,.nil=>.nil
 | _,_,.cons h g h0 o r n t=>.cons h0 h g r n t.toN
theorem zM(i:Nat){x:Str}{p:Pos}(hv:PE X (.Name x p) (iI i)):DS X Γ E (.Return (some (.Name x p)) pos) (Er i):=PS.imp (xW hv) λN σ H qq=>by
 obtain⟨G0,H0,G,δ,S,w⟩:=qq;obtain⟨O,q⟩:=id S.sl
 unfold Er at w
 split at w
 .rename_i d e
  obtain⟨v,hv,h⟩:=q i _ e
  exact⟨v,hv,w v G H S.st h⟩
 .rename_i d e
  obtain⟨v,hv,a,vs,ev,h1,h2,h3,h4,h5⟩:=q i _ e
  subst ev
  exact⟨_,hv,w a vs G H S.st h3 h1 h2 h5⟩
 .rename_i d e
  obtain⟨v,hv,a,vs,ev,h1,h2,h3,h4,h5,h6⟩:=q i _ e
  subst ev
  exact⟨_,hv,w a vs G H S.st h3 h1 h2 h5 h6.toN⟩
 .exact False.elim w
noncomputable def sIf(t:DSt->Out Bool)(g g':DSt->Out Fl):DSt->Out Fl:=λδ=>(t δ).bind λk=>if k=true then g δ else g' δ
theorem cR(hc:DT X Γ E c ft)(ha:DSs X Γ E sa g)(hb:DSs X Γ E sb g'):DS X Γ E (.If c sa sb pos) (sIf ft g g'):=PS.imp (ps_if hc ha hb) λN σ H qq=>by
 obtain⟨G0,H0,G,δ,S,w⟩:=qq;refine⟨G0,H0,G,δ,S,(aj w).mono (λk w G1 H1 s1=>?_) λx k=>exD.step k S.st⟩
 cases k with
 | true=>rw[if_pos rfl] at w ⊢;exact⟨G0,H0,G1,δ,S.step s1,w⟩
 | false=>rw[if_neg Bool.false_ne_true] at w ⊢;exact⟨G0,H0,G1,δ,S.step s1,w⟩
def tgD(K:Frag)(Γ:Nat->Option Addr)(f:D->DSt->Option DSt):TG:=λv σ H Q=>∃G0 H0 G δ d δ',SR K Γ G0 H0 G H σ δ/\Rep K Γ G v d/\f d δ=some δ'/\∀σ',SR K Γ G0 H0 G H σ' δ'->Q σ' H
def tgsD(K:Frag)(Γ:Nat->Option Addr)(f:List D->DSt->Option DSt):TGs:=λvs σ H Q=>∃G0 H0 G δ ds δ',SR K Γ G0 H0 G H σ δ/\au K Γ G vs ds/\f ds δ=some δ'/\∀σ',SR K Γ G0 H0 G H σ' δ'->Q σ' H
abbrev DG(X:Cx)(Γ:Nat->Option Addr)(e:Expr)(f:D->DSt->Option DSt):Prop:=PG X e (tgD X.K Γ f)
abbrev DGs(X:Cx)(Γ:Nat->Option Addr)(es:List Expr)(f:List D->DSt->Option DSt):Prop:=PGs X es (tgsD X.K Γ f)
theorem PG.imp{e:Expr}{t t':TG}(h:PG X e t)(k:∀v σ H Q,t' v σ H Q->t v σ H Q):PG X e t':=λpins s σ H v u Q I r q=>h pins s σ H v u Q I r (k _ _ _ _ q)
theorem PGs.imp{e:List Expr}{t t':TGs}(h:PGs X e t)(k:∀v σ H Q,t' v σ H Q->t v σ H Q):PGs X e t':=λpins s σ H v u Q I r q=>h pins s σ H v u Q I r (k _ _ _ _ q)
noncomputable def gN(i:Nat):D->DSt->Option DSt:=λd δ=>some (δ.set i (some (.sh d)))
theorem Oa{i:Nat}{x:Str}(h:PG X (.Name x pos) (mZ i)):DG X Γ (.Name x pos) (gN i):=PG.imp h λv σ H Q qq=>by
 obtain⟨G0,H0,G,δ,d,δ',S,r,e,q⟩:=qq;cases e
 exact q _ (S.set r)
noncomputable def cN:List D->DSt->Option DSt:=λds δ=>match ds with
 | []=>some δ
 | _=>none
noncomputable def aQ(f:D->DSt->Option DSt)(g:List D->DSt->Option DSt):List D->DSt->Option DSt:=λds δ=>match ds with
 | d::r=>(f d δ).bind (g r)
 | []=>none
theorem mX:DGs X Γ [] cN:=PGs.imp Ox λvs σ H Q qq=>by
 obtain⟨G0,H0,G,δ,ds,δ',S,r,e,q⟩:=qq;cases r with
 | nil=>cases e;exact⟨rfl,q _ S⟩
 | cons _ _=>cases e
theorem bW{f:D->DSt->Option DSt}{h:List D->DSt->Option DSt}(h1:DG X Γ e f)(h2:DGs X Γ es h)(hh:∀{t:TG} {u:TGs},PG X e t->PGs X es u->PGs X (e::es) (gCons t u)):DGs X Γ (e::es) (aQ f h):=PGs.imp (hh h1 h2) λvs σ H Q qq=>by
 obtain⟨G0,H0,G,δ,ds,δ',S,r,e,q⟩:=qq;cases r with
 | nil=>cases e
 | cons r1 r2 =>
  unfold aQ at e
  obtain⟨δ1,e1,e2⟩:=Option.bind_eq_some_iff.mp e
  exact⟨_,_,rfl,G0,H0,G,δ,_,δ1,S,r1,e1,λσ' S'=>⟨G0,H0,G,δ1,_,δ',S',r2,e2,q⟩⟩
noncomputable def gT(n:Nat)(f:List D->DSt->Option DSt):D->DSt->Option DSt:=λd δ=>match d with
 | .tup ds=>if ds.length=n then f ds δ else none
 | _=>none
theorem sr{f:List D->DSt->Option DSt}{n:Nat}(hh:∀{t:TGs},PGs X es t->PG X e (gTup X.K n t))(h:DGs X Γ es f):DG X Γ e (gT n f):=PG.imp (hh h) λv σ H Q qq=>by
 obtain⟨G0,H0,G,δ,d,δ',S,r,e,q⟩:=qq;unfold gT at e
 split at e
 .split at e
  .cases r with
   | tup h1 r1=>exact⟨_,_,rfl,SqT.of (S.st.gh _ _ h1),by rw[r1.length];assumption,G0,H0,G,δ,_,δ',S,r1,e,q⟩
  .cases e
 .cases e
noncomputable def bz(i:Nat)(f:DSt->Out D):DSt->Out Fl:=λδ=>(f δ).bind λd=>.ok (.nx (δ.set i (some (.sh d))))
theorem ds_set(i:Nat){x:Str}{pos':Pos}(hh:∀{te:TE},PE X e te->PS X (.Assign [.Name x pos'] e pos) (zE te (mZ i)))(he:DE X Γ E e fa):DS X Γ E (.Assign [.Name x pos'] e pos) (bz i fa):=PS.imp (hh he) λN σ H ⟨G0,H0,G,δ,S,w⟩ =>
 ⟨G0,H0,G,δ,S,(aj w).mono (λd w v G1 H1 s1 r1=>w _ G1 H1 ((S.step s1).set r1)) λx k=>exD.step k S.st⟩
noncomputable def lV(i:Nat)(f:DSt->Out (List D)):DSt->Out Fl:=λδ=>(f δ).bind λd=>.ok (.nx (δ.set i (some (.ol d))))
theorem ds_setl(i:Nat){x:Str}{pos':Pos}(hh:∀{te:TE},PE X e te->PS X (.Assign [.Name x pos'] e pos) (zE te (mZ i)))(he:DF X Γ E e fr):DS X Γ E (.Assign [.Name x pos'] e pos) (lV i fr):=PS.imp (hh he) λN σ H ⟨G0,H0,G,δ,S,w⟩ =>
 ⟨G0,H0,G,δ,S,(aj w).mono (λd w a vs G1 H1 s1 f h g r=>w _ G1 H1 (S.setl s1 f h g r)) λx k=>exD.step k S.st⟩
noncomputable def jc(i:Nat)(f:DSt->Out (List (List D))):DSt->Out Fl:=λδ=>(f δ).bind λd=>.ok (.nx (δ.set i (some (.oll d))))
theorem ds_setll(i:Nat){x:Str}{pos':Pos}{ff:DSt->Out (List (List D))}(hh:∀{te:TE},PE X e te->PS X (.Assign [.Name x pos'] e pos) (zE te (mZ i)))(he:DFF X Γ E e ff):DS X Γ E (.Assign [.Name x pos'] e pos) (jc i ff):=PS.imp (hh he) λN σ H ⟨G0,H0,G,δ,S,w⟩ =>
 ⟨G0,H0,G,δ,S,(aj w).mono (λd w a vs G1 H1 s1 f h g n r=>w _ G1 H1 (S.setll s1 f h g n r)) λx k=>exD.step k S.st⟩
end
end DL
namespace DL
open PySem PySem.Spec PyProof.Rows MX L2
section
variable{X:Cx}{Γ:Nat->Option Addr}{E:XK}{e a b c:Expr}{pos:Pos}{es:List Expr}{fa fb:DSt->Out D}{fr:DSt->Out (List D)}{ft:DSt->Out Bool}{st:Stmt}{rest sa sb:List Stmt}{g g':DSt->Out Fl}
noncomputable def Cg(i:Nat)(f:DSt->Out D):DSt->Out Fl:=λδ=>match δ[i]? with
 | some (some (.ol ds))=>(f δ).bind λd=>if ds.length<sizeLine then .ok (.nx (δ.set i (some (.ol (ds++[d]))))) else .stuck
 | _=>.stuck
theorem ds_app(i:Nat){x m:Str}{p apos cpos:Pos}(hv:PE X (.Name x p) (iI i))(he:DE X Γ E e fa)(hh:∀{to te:TE},PE X (.Name x p) to->PE X e te->PS X (.Expr (.Call (.Attribute (.Name x p) m apos) [e] [] cpos) pos) (uq (tBM X.K "list" uK to (jE te qJ)))):
  DS X Γ E (.Expr (.Call (.Attribute (.Name x p) m apos) [e] [] cpos) pos) (Cg i fa) :=
 PS.imp (hh hv he) λN σ H qq=>by
  obtain⟨G0,H0,G,δ,S,w⟩:=qq;obtain⟨O,q⟩:=id S.sl
  unfold Cg at w
  split at w
  .rename_i ds ei
   obtain⟨v,hvi,h⟩:=id (q i _ ei)
   obtain⟨aa,vs,ev,h1,h2,h3,h4,h5⟩:=h
   subst ev
   refine⟨_,hvi,.inl ⟨rfl,vs,SqL.of h1⟩,G0,H0,G,δ,S,(aj w).mono (λd w u G1 H1 s1 r1=>?_) λx k=>exD.step k S.st⟩
   split at w
   .rename_i hz
    have S1:=S.step s1
    have q1:∀i s,δ[i]?=some (some s)->∃v,σ[i]?=some (some v)/\cC X.K Γ H0 G1 H1 O i v s:=λj y e=>by
     obtain⟨v',z1,z2⟩:=q j y e
     exact⟨v',z1,z2.step s1⟩
    refine⟨aa,vs,u,rfl,rfl,s1.hh _ _ h1,by rw[h5.length];exact hz,w σ G1 _ (S1.write q1 (s1.sep aa (by rw[h1];exact λz=>nomatch z) h2) h3 h4 hvi ?_)⟩
    exact⟨aa,vs++[u],rfl,aG,s1.sep aa (by rw[h1];exact λz=>nomatch z) h2,h3,h4,(h5.mono s1.gg).append (.cons r1 .nil)⟩
   .exact False.elim w
  .exact False.elim w
noncomputable def yO(i:Nat)(f:DSt->Out (List D)):DSt->Out Fl:=λδ=>match δ[i]? with
 | some (some (.oll dss))=>(f δ).bind λd=>if dss.length<sizeLine then .ok (.nx (δ.set i (some (.oll (dss++[d]))))) else .stuck
 | some (some (.ol []))=>(f δ).bind λd=>.ok (.nx (δ.set i (some (.oll [d]))))
 | _=>.stuck
theorem Inner.length{K:Frag}{H0 G H:Hp}{O:Addr->Option Nat}{i:Nat}:∀{vs:List V}{dss:List (List D)},Inner K Γ H0 G H O i vs dss->vs.length=dss.length
 | _,_,.nil=>rfl
 | _,_,.cons h g h0 o r n t=>by rw[List.length_cons,List.length_cons,t.length]
theorem Inner.updI{K:Frag}{H0 G H:Hp}{O:Addr->Option Nat}{i:Nat}{a:Addr}{o:HO}:∀{vs:List V}{dss:List (List D)},V.ref a∉vs->Inner K Γ H0 G H O i vs dss->Inner K Γ H0 G (upd H a o) O i vs dss
 | _,_,_,.nil=>.nil
 | _,_,m,.cons h g h0 oo r n t=>.cons ((aF λz=>m (by rw[z];exact List.mem_cons_self)).trans h) g h0 oo r n (Inner.updI (λz=>m (List.mem_cons_of_mem _ z)) t)
theorem Inner.snoc{K:Frag}{H0 G H:Hp}{O:Addr->Option Nat}{i:Nat}{b:Addr}{ws:List V}{ds:List D}(h:H b=some (.lst ws))(g:G b=none)(h0:H0 b=none)(o:O b=some i)(r:au K Γ G ws ds):∀{vs:List V}{dss:List (List D)},V.ref b∉vs->Inner K Γ H0 G H O i vs dss->Inner K Γ H0 G H O i (vs++[.ref b]) (dss++[ds])
 | _,_,_,.nil=>.cons h g h0 o r (by simp) .nil
 | _,_,m,.cons h' g' h0' o' r' n' t=>.cons h' g' h0' o' r' (λz=>by
   rcases List.mem_append.mp z with z | z
   .exact n' z
   .exact m (by rw[List.mem_singleton.mp z];exact List.mem_cons_self)) (Inner.snoc h g h0 o r (λz=>m (List.mem_cons_of_mem _ z)) t)
theorem ds_appl(i:Nat){x m:Str}{p apos cpos:Pos}(hv:PE X (.Name x p) (iI i))(he:DF X Γ E e fr)(hh:∀{to te:TE},PE X (.Name x p) to->PE X e te->PS X (.Expr (.Call (.Attribute (.Name x p) m apos) [e] [] cpos) pos) (uq (tBM X.K "list" uK to (jE te qJ)))):
  DS X Γ E (.Expr (.Call (.Attribute (.Name x p) m apos) [e] [] cpos) pos) (yO i fr) :=
 PS.imp (hh hv he) λN σ H qq=>by
  obtain⟨G0,H0,G,δ,S,w⟩:=qq;obtain⟨O,q⟩:=id S.sl
  have core:∀(dss:List (List D))(aa:Addr)(vs:List V),δ[i]?≠none->σ[i]?=some (some (.ref aa))->H aa=some (.lst vs)->G aa=none->H0 aa=none->O aa=some i->V.ref aa∉vs->Inner X.K Γ H0 G H O i vs dss->dss.length<sizeLine ->
    wpO ((fr δ).bind λd=>.ok (.nx (δ.set i (some (.oll (dss++[d])))))) (FlOk X.K Γ G0 H0 N) (exD X.K Γ E G0 H0)->uq (tBM X.K "list" uK (iI i) (jE (tfD X.K Γ E fr) qJ)) N σ H:=by
   intro dss aa vs hδ hvi h1 h2 h3 h4 h5 h6 hz w
   refine⟨_,hvi,.inl ⟨rfl,vs,SqL.of h1⟩,G0,H0,G,δ,S,(aj w).mono (λd w b ws G1 H1 s1 fb hb gb rb=>?_) λx k=>exD.step k S.st⟩
   have ne:aa≠b:=λz=>by rw[z,fb] at h1;cases h1
   have nm:V.ref b∉vs:=λz=>by
    have:=h6.facts b z
    have st:∀{vs:List V}{dss:List (List D)},Inner X.K Γ H0 G H O i vs dss->V.ref b∈vs->H b≠none:=by
     intro vs dss hI
     induction hI with
     | nil=>intro z;cases z
     | cons h g h0 o r n t ih =>
      intro z
      rcases List.mem_cons.mp z with z | z
      .cases z;rw[h];exact λq=>nomatch q
      .exact ih z
    exact st h6 z fb
   have k:∀b',H b'≠none->(λb'=>if b'=b then some i else O b') b'=O b':=λb' hb'=>by
    have:b'≠b:=λz=>hb' (z▸fb)
    simp[this]
   have S1:=S.step s1
   have q1:∀j s,δ[j]?=some (some s)->∃v,σ[j]?=some (some v)/\cC X.K Γ H0 G1 H1 (λb'=>if b'=b then some i else O b') j v s:=λj y e=>by
    obtain⟨v',z1,z2⟩:=q j y e
    exact⟨v',z1,(z2.reO k).step s1⟩
   have ga:G1 aa=none:=s1.sep aa (by rw[h1];exact λz=>nomatch z) h2
   refine⟨aa,vs,.ref b,rfl,rfl,s1.hh _ _ h1,by rw[h6.length];exact hz,w σ G1 _ (S1.write q1 ga h3 (by simp[ne,h4]) hvi ?_)⟩
   refine⟨aa,vs++[.ref b],rfl,aG,ga,h3,by simp[ne,h4],λz=>?_,?_⟩
   .rcases List.mem_append.mp z with z | z
    .exact h5 z
    .have z:V.ref aa=V.ref b:=by simpa using z
     cases z
     exact ne rfl
   .exact Inner.snoc ((aF (Ne.symm ne)).trans hb) gb (aD S.st.hh fb) (by simp) rb nm (Inner.updI h5 ((h6.reO k).step s1))
  unfold yO at w
  split at w
  .rename_i dss ei
   obtain⟨v,hvi,aa,vs,ev,h1,h2,h3,h4,h5,h6⟩:=id (q i _ ei)
   subst ev
   by_cases hz:dss.length<sizeLine
   .refine core dss aa vs (by rw[ei];exact λz=>nomatch z) hvi h1 h2 h3 h4 h5 h6 hz ?_
    have e2:((fr δ).bind λd=>if dss.length<sizeLine then Out.ok (Fl.nx (δ.set i (some (.oll (dss++[d]))))) else .stuck)=(fr δ).bind λd=>.ok (.nx (δ.set i (some (.oll (dss++[d]))))):=by
     congr 1;funext d;rw[if_pos hz]
    rw[e2] at w
    exact w
   .refine⟨_,hvi,.inl ⟨rfl,vs,SqL.of h1⟩,G0,H0,G,δ,S,(aj w).mono (λd w b ws G1 H1 s1 fb hb gb rb=>?_) λx k=>exD.step k S.st⟩
    rw[if_neg hz] at w
    exact False.elim w
  .rename_i ei
   obtain⟨v,hvi,aa,vs,ev,h1,h2,h3,h4,h5⟩:=id (q i _ ei)
   subst ev
   cases h5
   exact core [] aa [] (by rw[ei];exact λz=>nomatch z) hvi h1 h2 h3 h4 (by simp) .nil (by decide) w
  .exact False.elim w
noncomputable def sClr(i:Nat):DSt->Out Fl:=λδ=>match δ[i]? with
 | some (some (.ol _))=>.ok (.nx (δ.set i (some (.ol []))))
 | some (some (.oll _))=>.ok (.nx (δ.set i (some (.ol []))))
 | _=>.stuck
theorem ds_clr(i:Nat){x m:Str}{p apos cpos:Pos}(hv:PE X (.Name x p) (iI i))(hh:∀{to:TE},PE X (.Name x p) to->PS X (.Expr (.Call (.Attribute (.Name x p) m apos) [] [] cpos) pos) (uq (tBM0 X.K "list" rClear to))):
  DS X Γ E (.Expr (.Call (.Attribute (.Name x p) m apos) [] [] cpos) pos) (sClr i) :=
 PS.imp (hh hv) λN σ H qq=>by
  obtain⟨G0,H0,G,δ,S,w⟩:=qq;obtain⟨O,q⟩:=id S.sl
  unfold sClr at w
  split at w
  .rename_i ds ei
   obtain⟨v,hvi,aa,vs,ev,h1,h2,h3,h4,h5⟩:=id (q i _ ei)
   subst ev
   exact⟨_,hvi,.inl ⟨rfl,vs,SqL.of h1⟩,aa,vs,rfl,rfl,h1,w σ G _ (S.write q h2 h3 h4 hvi ⟨aa,[],rfl,aG,h2,h3,h4,.nil⟩)⟩
  .rename_i ds ei
   obtain⟨v,hvi,aa,vs,ev,h1,h2,h3,h4,h5,h6⟩:=id (q i _ ei)
   subst ev
   exact⟨_,hvi,.inl ⟨rfl,vs,SqL.of h1⟩,aa,vs,rfl,rfl,h1,w σ G _ (S.write q h2 h3 h4 hvi ⟨aa,[],rfl,aG,h2,h3,h4,.nil⟩)⟩
  .exact False.elim w
theorem Inner.at{K:Frag}{H0 G H:Hp}{O:Addr->Option Nat}{i:Nat}:∀{vs:List V}{dss:List (List D)}{j:Nat}{ds:List D},Inner K Γ H0 G H O i vs dss->dss[j]?=some ds->∃b ws,vs[j]?=some (.ref b)/\H b=some (.lst ws)/\G b=none/\H0 b=none/\O b=some i/\au K Γ G ws ds
 | _,_,_,_,.nil,e=>by simp at e
 | _,_,0,_,.cons h g h0 o r n t,e=>by simp at e;subst e;exact⟨_,_,rfl,h,g,h0,o,r⟩
 | _,_,j+1,_,.cons h g h0 o r n t,e=>by
  obtain⟨b,ws,z1,z⟩:=Inner.at (j:=j) t (by simpa using e)
  exact⟨b,ws,by simpa using z1,z⟩
theorem Inner.put{K:Frag}{H0 G H:Hp}{O:Addr->Option Nat}{i:Nat}{b:Addr}{ws:List V}{ds:List D}(r:au K Γ G ws ds):∀{vs:List V}{dss:List (List D)}{j:Nat},Inner K Γ H0 G H O i vs dss->vs[j]?=some (.ref b)->Inner K Γ H0 G (upd H b (.lst ws)) O i vs (dss.set j ds)
 | _,_,_,.nil,e=>by simp at e
 | _,_,0,.cons h g h0 o r' n t,e=>by
  simp at e
  subst e
  exact .cons aG g h0 o r n (Inner.updI n t)
 | _,_,j+1,.cons (b:=b') (vs:=vs') h g h0 o r' n t,e=>by
  have e':vs'[j]?=some (V.ref b):=by simpa using e
  have ne:b'≠b:=λz=>n (by rw[z];exact List.mem_of_getElem? e')
  exact .cons ((aF ne).trans h) g h0 o r' n (Inner.put (j:=j) r t e')
noncomputable def sClr2(i:Nat)(fk:DSt->Out D):DSt->Out Fl:=λδ=>match δ[i]? with
 | some (some (.oll dss))=>(fk δ).bind λk=>match k with
  | .int k=>match ixN dss.length k with
   | some j=>.ok (.nx (δ.set i (some (.oll (dss.set j [])))))
   | none=>.stuck
  | _=>.stuck
 | _=>.stuck
theorem ixN_lt{n:Nat}{i:Int}{j:Nat}(h:ixN n i=some j):j<n:=(GF h).2.1
noncomputable def tM(i:Nat)(fe fk fl:DSt->Out D):DSt->Out Fl:=λδ=>(fe δ).bind λd=>match δ[i]? with
 | some (some (.oll dss))=>(fk δ).bind λk=>match k with
  | .int k=>match ixN dss.length k with
   | some j=>(fl δ).bind λl=>match l with
    | .int l=>match ixN (dss.getD j []).length l with
     | some m=>.ok (.nx (δ.set i (some (.oll (dss.set j ((dss.getD j []).set m d))))))
     | none=>.stuck
    | _=>.stuck
   | none=>.stuck
  | _=>.stuck
 | _=>.stuck
theorem Gi(i:Nat){x:Str}{p p2 p3:Pos}{fc:DSt->Out D}(hv:PE X (.Name x p) (iI i))(he:DE X Γ E e fa)(hb:DE X Γ E b fb)(hc:DE X Γ E c fc)(hh:∀{te to ti:TE},PE X e te->PE X (.Subscript (.Name x p) b p3) to->PE X c ti->PS X (.Assign [.Subscript (.Subscript (.Name x p) b p3) c p2] e pos) (zE te (gSub to ti rSetL)))(hs:vU b:=by exact λ_ _=>rfl):
  DS X Γ E (.Assign [.Subscript (.Subscript (.Name x p) b p3) c p2] e pos) (tM i fa fb fc) :=
 PS.imp (hh he (pe_ix GJ hv hb hs) hc) λN σ H qq=>by
  obtain⟨G0,H0,G,δ,S,w⟩:=qq;refine⟨G0,H0,G,δ,S,(aj w).mono (λd w u G1 H1 s1 r1=>?_) λx k=>exD.step k S.st⟩
  have S1:=S.step s1
  obtain⟨O,q⟩:=id S1.sl
  split at w
  .rename_i dss ei
   obtain⟨v,hvi,aa,vs,ev,h1,h2,h3,h4,h5,h6⟩:=id (q i _ ei)
   subst ev
   refine⟨_,hvi,G0,H0,G1,δ,S1,(aj w).mono (λd2 w u2 G2 H2 s2 r2=>?_) λx k=>exD.step k S1.st⟩
   split at w
   .rename_i k
    split at w
    .rename_i j hj
     cases r2
     have S2:=S1.step s2
     have lt:=ixN_lt hj
     have I6:=h6.step s2
     obtain⟨bb,ws,z1,z2,z3,z4,z5,z6⟩:=I6.at (j:=j) (ds:=dss[j]) (by simp[lt])
     have gd:dss.getD j []=dss[j]:=by simp[lt]
     refine⟨aa,vs,k,.ref bb,rfl,rfl,SqL.of (s2.hh _ _ h1),by unfold atI;rw[h6.length,hj];exact z1,G0,H0,G2,δ,S2,(aj w).mono (λd3 w u3 G3 H3 s3 r3=>?_) λx k=>exD.step k S2.st⟩
     split at w
     .rename_i l
      split at w
      .rename_i m hm
       cases r3
       have S3:=S2.step s3
       have I7:=I6.step s3
       have q1:∀i s,δ[i]?=some (some s)->∃v,σ[i]?=some (some v)/\cC X.K Γ H0 G3 H3 O i v s:=λj y e=>by
        obtain⟨v',z1,z2⟩:=q j y e
        exact⟨v',z1,(z2.step s2).step s3⟩
       have ga:G3 aa=none:=s3.sep aa (by rw[s2.hh _ _ h1];exact λz=>nomatch z) (s2.sep aa (by rw[h1];exact λz=>nomatch z) h2)
       have gb:G3 bb=none:=s3.sep bb (by rw[z2];exact λz=>nomatch z) z3
       have ne:aa≠bb:=λz=>h5 (by rw[z];exact List.mem_of_getElem? z1)
       rw[gd] at hm w
       refine⟨bb,ws,l,m,rfl,rfl,s3.hh _ _ z2,by rw[z6.length];exact hm,w σ G3 _ (S3.write q1 gb z4 z5 hvi ?_)⟩
       exact⟨aa,vs,rfl,(aF ne).trans (s3.hh _ _ (s2.hh _ _ h1)),ga,h3,h4,h5,I7.put (au.set (r1.mono (s2.trans s3).gg) m (z6.mono s3.gg)) z1⟩
      .exact False.elim w
     .exact False.elim w
    .exact False.elim w
   .exact False.elim w
  .exact False.elim w
structure Yl(K:Frag)(Γ:Nat->Option Addr)(G1:Hp)(J:It)(ds:List D):Prop where
 go:∀i H,aY G1 H->i<ds.length->J.go i H
 yld:∀i G H x H' d,aY G1 G->aY G H->J.yld i H x H'->ds[i]?=some d->∃G',Step G H G' H'/\Rep K Γ G' x d
 stop:∀i H,aY G1 H->ds.length<=i->J.stop i H
def tiD(K:Frag)(Γ:Nat->Option Addr)(E:XK)(f:DSt->Out (List D)):TI:=λσ H R=>∃G0 H0 G δ,SR K Γ G0 H0 G H σ δ/\wpO (f δ) (λds=>∀J G' H',Step G H G' H'->Yl K Γ G' J ds->R J H') (exD K Γ E G H)
abbrev DI(X:Cx)(Γ:Nat->Option Addr)(E:XK)(tg iter:Expr)(f:DSt->Out (List D)):Prop:=PI X tg iter (tiD X.K Γ E f)
theorem PI.imp{tg iter:Expr}{t t':TI}(h:PI X tg iter t)(k:∀σ H R,t' σ H R->t σ H R):PI X tg iter t':=λpins s σ H R I q=>h pins s σ H R I (k _ _ _ q)
theorem O7{K:Frag}{G:Hp}{a:Addr}{vs:List V}{ds:List D}(h:SqL K G a vs)(r:au K Γ G vs ds):Yl K Γ G (Itl K a) ds:=by
 refine⟨λi H s lt=>?_,λi G' H x H' d s s' y e=>?_,λi H s le=>⟨vs,s.seq h,by rw[r.length];exact le⟩⟩
 .obtain⟨v,e,_⟩:=r.get (i:=i) (d:=ds[i]) (by simp[lt])
  exact⟨vs,v,s.seq h,e⟩
 .obtain⟨rfl,y⟩:=y
  obtain⟨v,e1,e2⟩:=r.get e
  have:=y vs ((s.trans s').seq h)
  rw[e1] at this
  cases this
  exact⟨G',.refl s',e2.mono s⟩
theorem yl_tup{K:Frag}{G:Hp}{a:Addr}{vs:List V}{ds:List D}(h:SqT K G a vs)(r:au K Γ G vs ds):Yl K Γ G (Itt K a) ds:=by
 refine⟨λi H s lt=>?_,λi G' H x H' d s s' y e=>?_,λi H s le=>⟨vs,SqT.same s h,by rw[r.length];exact le⟩⟩
 .obtain⟨v,e,_⟩:=r.get (i:=i) (d:=ds[i]) (by simp[lt])
  exact⟨vs,v,SqT.same s h,e⟩
 .obtain⟨rfl,y⟩:=y
  obtain⟨v,e1,e2⟩:=r.get e
  have:=y vs (SqT.same (s.trans s') h)
  rw[e1] at this
  cases this
  exact⟨G',.refl s',e2.mono s⟩
theorem pi_or{tg iter:Expr}{w w':TI}(h:PI X tg iter w)(h':PI X tg iter w'):PI X tg iter (λσ H R=>w σ H R∨w' σ H R):=λpins s σ H R I q=>by
 rcases q with q | q
 .exact h pins s σ H R I q
 .exact h' pins s σ H R I q
theorem cL{tg:Expr}(ha:DE X Γ E a fa):DI X Γ E tg a (bL fa):=PI.imp (pi_or (pi_list ha) (pi_tup ha)) λσ H R qq=>by
 obtain⟨G0,H0,G,δ,S,w⟩:=qq;unfold bL at w
 cases h:fa δ with
 | stuck=>rw[h] at w;exact False.elim w
 | ex x=>rw[h] at w;exact .inl ⟨G0,H0,G,δ,S,by rw[h];exact w⟩
 | ok d =>
  rw[h] at w
  obtain⟨ds,e,k⟩:=bB w
  cases d <;> simp only[vX] at e <;> cases e
  .refine .inl ⟨G0,H0,G,δ,S,?_⟩
   rw[h]
   intro v G1 H1 s1 r1
   cases r1 with
   | lst h r=>exact⟨_,rfl,⟨_,SqL.of (s1.gh _ _ h)⟩,k _ G1 H1 s1 (O7 (SqL.of h) r)⟩
  .refine .inr ⟨G0,H0,G,δ,S,?_⟩
   rw[h]
   intro v G1 H1 s1 r1
   cases r1 with
   | tup h r=>exact⟨_,rfl,⟨_,SqT.of (s1.gh _ _ h)⟩,k _ G1 H1 s1 (yl_tup (SqT.of h) r)⟩
  .refine .inl ⟨G0,H0,G,δ,S,?_⟩
   rw[h]
   intro v G1 H1 s1 r1
   cases r1 with
   | rol h r=>exact⟨_,rfl,⟨_,s1.gh.seq h⟩,k _ G1 H1 s1 (O7 h r)⟩
  .refine .inr ⟨G0,H0,G,δ,S,?_⟩
   rw[h]
   intro v G1 H1 s1 r1
   cases r1 with
   | rot h r=>exact⟨_,rfl,⟨_,SqT.same s1.gh h⟩,k _ G1 H1 s1 (yl_tup h r)⟩
noncomputable def rngL(lo:Int)(n:Nat):List D:=(List.range n).map λi=>.int (lo+(i:Nat))
theorem yl_rng{K:Frag}{G:Hp}{lo:Int}{n:Nat}:Yl K Γ G (Itr lo n) (rngL lo n):=by
 have hl:(rngL lo n).length=n:=by simp[rngL]
 refine⟨λi H s lt=>by rw[hl] at lt;exact lt,λi G' H x H' d s s' y e=>?_,λi H s le=>by rw[hl] at le;exact le⟩
 obtain⟨rfl,rfl⟩:=y
 unfold rngL at e
 rw[List.getElem?_map] at e
 obtain⟨j,e1,e2⟩:=Option.map_eq_some_iff.mp e
 obtain⟨lt,e3⟩:=List.getElem?_eq_some_iff.mp e1
 rw[List.getElem_range] at e3
 subst e2 e3
 exact⟨G',.refl s',.int _⟩
noncomputable def tK(f:DSt->Out D):DSt->Out (List D):=λδ=>(f δ).bind λd=>match d with
 | .int j=>if -(2 ^ 62)<=j/\j<2 ^ 62 then .ok (rngL 0 j.toNat) else .stuck
 | _=>.stuck
theorem fG{tg:Expr}{p:Pos}(hg:Gl X "range")(hm:X.mg "range"=none)(ha:DE X Γ E a fa)(hs:starEach [a] X.env=[(false,eval a X.env)]:=by rfl):DI X Γ E tg (.Call (.Name "range" p) [a] [] pos) (tK fa) :=
 PI.imp (Qz hg hm (bD ha dw (by rw[hs];rfl)) hs) λσ H R qq=>by
  obtain⟨G0,H0,G,δ,S,w⟩:=qq;refine⟨G0,H0,G,δ,S,(aj w).mono (λd w v G1 H1 s1 r1=>?_) λ_ k=>k⟩
  split at w
  .split at w
   .rename_i h;cases r1;exact⟨_,rfl,h.1,h.2,w _ G1 H1 s1 yl_rng⟩
   .exact False.elim w
  .exact False.elim w
noncomputable def fL:Nat->List D->List D
 | _,[]=>[]
 | n,d::ds=>.tup [.int n,d]::fL (n+1) ds
theorem xN:∀(ds:List D)(n i:Nat),(fL n ds)[i]?=(ds[i]?).map λd=>.tup [.int ((n+i:Nat):Int),d]
 | [],n,i=>by simp[fL]
 | d::ds,n,0=>by simp[fL]
 | d::ds,n,i+1=>by
  have:=xN ds (n+1) i
  simp only[fL,List.getElem?_cons_succ]
  rw[this]
  congr 1
  funext d
  congr 2
  simp only[List.cons.injEq,D.int.injEq,and_true]
  omega
theorem uC(ds:List D):∀n,(fL n ds).length=ds.length:=by
 induction ds with
 | nil=>intro n;rfl
 | cons d ds ih=>intro n;simp[fL,ih]
theorem O6{K:Frag}{G:Hp}{a:Addr}{vs:List V}{ds:List D}(h:SqL K G a vs)(r:au K Γ G vs ds):Yl K Γ G (Ite K a) (fL 0 ds):=by
 refine⟨λi H s lt=>?_,λi G' H x H' d s s' y e=>?_,λi H s le=>⟨vs,s.seq h,by rw[uC] at le;rw[r.length];exact le⟩⟩
 .rw[uC] at lt
  obtain⟨v,e,_⟩:=r.get (i:=i) (d:=ds[i]) (by simp[lt])
  exact⟨vs,v,s.seq h,e⟩
 .obtain⟨p,x0,rfl,hp,rfl,y⟩:=y
  rw[xN] at e
  obtain⟨d0,e0,rfl⟩:=Option.map_eq_some_iff.mp e
  obtain⟨v,e1,e2⟩:=r.get e0
  have:=y vs ((s.trans s').seq h)
  rw[e1] at this
  cases this
  refine⟨_,.new s' hp,.tup aG (.cons ?_ (.cons ((e2.mono s).mono (aY.up (aD s' hp))) .nil))⟩
  rw[Nat.zero_add]
  exact .int _
noncomputable def gF:D->Option (List D)
 | .lst xs=>some xs
 | .rol xs=>some xs
 | _=>none
noncomputable def enum(f:DSt->Out D):DSt->Out (List D):=λδ=>(f δ).bind λd=>(Out.opt (gF d)).bind λds=>.ok (fL 0 ds)
theorem zJ{es':List Expr}{kk:Nat}{tp p:Pos}(hg:Gl X "enumerate")(hm:X.mg "enumerate"=none)(ha:DE X Γ E a fa)(hs:starEach [a] X.env=[(false,eval a X.env)]:=by rfl):DI X Γ E (.Tuple es' kk tp) (.Call (.Name "enumerate" p) [a] [] pos) (enum fa) :=
 PI.imp (pi_enum hg hm (bD ha dw (by rw[hs];rfl)) hs) λσ H R qq=>by
  obtain⟨G0,H0,G,δ,S,w⟩:=qq;refine⟨G0,H0,G,δ,S,(aj w).mono (λd w v G1 H1 s1 r1=>?_) λ_ k=>k⟩
  obtain⟨ds,e,w⟩:=bB (aj w)
  unfold gF at e
  split at e
  .cases e
   cases r1 with
   | lst h r=>exact⟨_,rfl,⟨_,SqL.of (s1.gh _ _ h)⟩,w _ G1 H1 s1 (O6 (SqL.of h) r)⟩
  .cases e
   cases r1 with
   | rol h r=>exact⟨_,rfl,⟨_,s1.gh.seq h⟩,w _ G1 H1 s1 (O6 h r)⟩
  .cases e
noncomputable def jC(tg:D->DSt->Option DSt)(body:DSt->Out Fl):List D->DSt->Out Fl
 | [],δ=>.ok (.nx δ)
 | d::ds,δ=>(Out.opt (tg d δ)).bind λδ1=>(body δ1).bind λfl=>match fl with
  | .nx δ2=>jC tg body ds δ2
  | .ct δ2=>jC tg body ds δ2
  | .bk δ2=>.ok (.nx δ2)
  | fl=>.ok fl
noncomputable def dB(fi:DSt->Out (List D))(tg:D->DSt->Option DSt)(body:DSt->Out Fl):DSt->Out Fl:=λδ=>(fi δ).bind λds=>jC tg body ds δ
noncomputable def un2(H0 G1:Hp):Hp:=λb=>match H0 b with
 | some o=>some o
 | none=>G1 b
theorem mq{H0 G1:Hp}{b:Addr}:un2 H0 G1 b=none↔H0 b=none/\G1 b=none:=by
 unfold un2
 cases h:H0 b <;> simp
theorem un2_some{H0 G1:Hp}{b:Addr}{o:HO}(h:un2 H0 G1 b=some o):H0 b=some o∨G1 b=some o:=by
 unfold un2 at h
 cases h0:H0 b with
 | none=>rw[h0] at h;exact .inr h
 | some u=>rw[h0] at h;exact .inl h
theorem Inner.reH{K:Frag}{H0 H0' G H:Hp}{O:Addr->Option Nat}{i:Nat}(k:∀b,H0 b=none->G b=none->H0' b=none):∀{vs:List V}{dss:List (List D)},Inner K Γ H0 G H O i vs dss->Inner K Γ H0' G H O i vs dss
 | _,_,.nil=>.nil
 | _,_,.cons h g h0 o r n t=>.cons h g (k _ h0 g) o r n (Inner.reH k t)
theorem bQ.reH{K:Frag}{H0 H0' G H:Hp}{O:Addr->Option Nat}{i:Nat}(k:∀b,H0 b=none->G b=none->H0' b=none):∀{vs:List V}{es:List Mx}{bs:List Addr},bQ K Γ H0 G H O i vs es bs->bQ K Γ H0' G H O i vs es bs
 | _,_,_,.nil=>.nil
 | _,_,_,.own h g h0 o r n t=>.own h g (k _ h0 g) o r n (bQ.reH k t)
 | _,_,_,.fix r t=>.fix r (bQ.reH k t)
theorem cC.reH{K:Frag}{H0 H0' G H:Hp}{O:Addr->Option Nat}{i:Nat}{v:V}{x:Sl}(h:cC K Γ H0 G H O i v x)(k:∀b,H0 b=none->G b=none->H0' b=none):cC K Γ H0' G H O i v x:=by
 cases x with
 | sh d=>exact h
 | ol ds=>obtain⟨a,vs,e,h1,h2,h3,h4,h5⟩:=h;exact⟨a,vs,e,h1,h2,k _ h3 h2,h4,h5⟩
 | oll ds=>obtain⟨a,vs,e,h1,h2,h3,h4,h5,h6⟩:=h;exact⟨a,vs,e,h1,h2,k _ h3 h2,h4,h5,h6.reH k⟩
 | od ds=>obtain⟨a,vs,e,h1,h2,h3,h4,h5⟩:=h;exact⟨a,vs,e,h1,h2,k _ h3 h2,h4,h5⟩
 | odT ds=>obtain⟨a,vs,e,h1,h2,h3,h4,h5⟩:=h;exact⟨a,vs,e,h1,h2,k _ h3 h2,h4,h5⟩
 | omx ds=>obtain⟨a,vs,bs,e,h1,h2,h3,h4,h5,h6⟩:=h;exact⟨a,vs,bs,e,h1,h2,k _ h3 h2,h4,h5,h6.reH k⟩
theorem SR.later{K:Frag}{G0 H0 G1 H1 G H:Hp}{σ:L2.St}{δ:DSt}(s1:Step G0 H0 G1 H1)(S:SR K Γ G0 H0 G H σ δ)(s:aY G1 G):SR K Γ G1 (un2 H0 G1) G H σ δ:=by
 refine⟨⟨s,λb o e=>?_,S.st.gh,λb hb g=>?_⟩,S.len,?_⟩
 .rcases un2_some e with e | e
  .exact S.st.hh _ _ e
  .exact S.st.gh _ _ (s _ _ e)
 .have h0:H0 b≠none:=λz=>hb (mq.mpr ⟨z,g⟩)
  exact S.st.sep b h0 (s1.gg.free g)
 .obtain⟨O,q⟩:=S.sl
  refine⟨O,λi x e=>?_⟩
  obtain⟨v,h1,h2⟩:=q i x e
  exact⟨v,h1,h2.reH λb z g=>mq.mpr ⟨z,s.free g⟩⟩
theorem Step.back{G0 H0 G1 H1 G H:Hp}(s1:Step G0 H0 G1 H1)(s:Step G1 (un2 H0 G1) G H):Step G0 H0 G H :=
 ⟨s1.gg.trans s.gg,λb o e=>s.hh _ _ (by unfold un2;rw[e]),s.gh,λb hb g=>s.sep b (λz=>hb (mq.mp z).1) (s1.sep b hb g)⟩
theorem SR.back{K:Frag}{G0 H0 G1 H1 G H:Hp}{σ:L2.St}{δ:DSt}(s1:Step G0 H0 G1 H1)(S:SR K Γ G1 (un2 H0 G1) G H σ δ):SR K Γ G0 H0 G H σ δ:=by
 refine⟨s1.back S.st,S.len,?_⟩
 obtain⟨O,q⟩:=S.sl
 refine⟨O,λi x e=>?_⟩
 obtain⟨v,h1,h2⟩:=q i x e
 exact⟨v,h1,h2.reH λb z _=>(mq.mp z).1⟩
theorem ds_for{tg iter:Expr}{body:List Stmt}{fi:DSt->Out (List D)}{t:D->DSt->Option DSt}(hh:∀{wi:TI} {g:TG} {tb:TS},PI X tg iter wi->PG X tg g->PSs X body tb->PS X (.For tg iter body [] pos) (tFor wi g tb))(hi:DI X Γ E tg iter fi)(hg:DG X Γ tg t)(hb:DSs X Γ E body g):
  DS X Γ E (.For tg iter body [] pos) (dB fi t g):=PS.imp (hh hi hg hb) λN σ H qq=>by
 obtain⟨G0,H0,G,δ,S,w⟩:=qq;refine⟨G0,H0,G,δ,S,(aj w).mono (λds w J G1 H1 s1 Y=>?_) λx k=>exD.step k S.st⟩
 have sb:Step G0 H0 G1 H1:=S.st.trans s1
 refine⟨λi m σ H=>∃G δ,SR X.K Γ G0 H0 G H σ δ/\aY G1 G/\m=ds.length - i/\i<=ds.length/\wpO (jC t g (ds.drop i) δ) (FlOk X.K Γ G0 H0 N) (exD X.K Γ E G0 H0),⟨_,G1,δ,S.step s1,aY.refl _,rfl,Nat.zero_le _,w⟩,?_⟩
 rintro i m σ H ⟨G2,δ2,S2,s2,rfl,hi,w⟩
 by_cases lt:i<ds.length
 .refine .inr ⟨Y.go i H (s2.trans S2.st.gh) lt,λσ' H'=>∃G δ,SR X.K Γ G0 H0 G H' σ' δ/\aY G1 G/\wpO (jC t g (ds.drop (i+1)) δ) (FlOk X.K Γ G0 H0 N) (exD X.K Γ E G0 H0),λσ' H' ⟨G',δ',a1,a2,a3⟩=>⟨ds.length - (i+1),by omega,G',δ',a1,a2,rfl,lt,a3⟩,λx H' y=>?_⟩
  obtain⟨G3,s3,r3⟩:=Y.yld i G2 H x H' ds[i] s2 S2.st.gh y (by simp[lt])
  rw[List.drop_eq_getElem_cons lt] at w
  obtain⟨δ3,e3,w⟩:=bB (aj w)
  have S3:=(S2.step s3).later sb (s2.trans s3.gg)
  refine⟨G1,un2 H0 G1,G3,δ2,ds[i],δ3,S3,r3,e3,λσ4 S4=>?_⟩
  refine⟨G1,un2 H0 G1,G3,δ3,S4,(aj w).mono (λfl w=>?_) λx k a G' H' s' r'=>k a G' H' (sb.back s') r'⟩
  cases fl with
  | nx δ'=>exact λσ' G' H' S'=>⟨G',δ',S'.back sb,S'.st.gg,w⟩
  | ct δ'=>exact λσ' G' H' S'=>⟨G',δ',S'.back sb,S'.st.gg,w⟩
  | bk δ'=>exact λσ' G' H' S'=>w σ' G' H' (S'.back sb)
  | rt d=>exact λv G' H' s' r'=>w v G' H' (sb.back s') r'
  | rl d=>exact λa vs G' H' s' f h g r=>w a vs G' H' (sb.back s') (mq.mp f).1 h g r
  | rll d=>exact λa vs G' H' s' f h g n r=>w a vs G' H' (sb.back s') (mq.mp f).1 h g n (r.reF λb z=>(mq.mp z).1)
 .obtain rfl:i=ds.length:=by omega
  rw[List.drop_length] at w
  exact .inl ⟨Y.stop _ H (s2.trans S2.st.gh) (Nat.le_refl _),w σ G2 H S2⟩
noncomputable def whD(t:DSt->Out Bool)(body:DSt->Out Fl):Nat->DSt->Out Fl
 | 0,_=>.stuck
 | n+1,δ=>(t δ).bind λk=>if k=true then (body δ).bind λfl=>match fl with
   | .nx δ2=>whD t body n δ2
   | .ct δ2=>whD t body n δ2
   | .bk δ2=>.ok (.nx δ2)
   | fl=>.ok fl
  else .ok (.nx δ)
theorem ds_while{body:List Stmt}(fuel:DSt->Nat)(hh:∀{tc:TT} {tb:TS},PT X c tc->PSs X body tb->PS X (.While c body [] pos) (tWhile tc tb))(hc:DT X Γ E c ft)(hb:DSs X Γ E body g):
  DS X Γ E (.While c body [] pos) (λδ=>whD ft g (fuel δ) δ):=PS.imp (hh hc hb) λN σ H qq=>by
 obtain⟨G0,H0,G,δ,S,w⟩:=qq;refine⟨λm σ H=>∃G δ,SR X.K Γ G0 H0 G H σ δ/\wpO (whD ft g m δ) (FlOk X.K Γ G0 H0 N) (exD X.K Γ E G0 H0),⟨_,G,δ,S,w⟩,?_⟩
 rintro m σ H ⟨G2,δ2,S2,w⟩
 cases m with
 | zero=>exact False.elim w
 | succ n =>
  refine⟨G0,H0,G2,δ2,S2,(aj w).mono (λk w G3 H3 s3=>?_) λx k=>exD.step k S2.st⟩
  cases k with
  | false=>rw[if_neg Bool.false_ne_true] at w ⊢;exact w σ G3 H3 (S2.step s3)
  | true =>
   rw[if_pos rfl] at w ⊢
   refine⟨λσ' H'=>∃G δ,SR X.K Γ G0 H0 G H' σ' δ/\wpO (whD ft g n δ) (FlOk X.K Γ G0 H0 N) (exD X.K Γ E G0 H0),λσ' H' ⟨G',δ',a1,a3⟩=>⟨n,Nat.lt_succ_self n,G',δ',a1,a3⟩,G0,H0,G3,δ2,S2.step s3,(aj w).mono (λfl w=>?_) λx k=>k⟩
   cases fl with
   | nx δ'=>exact λσ' G' H' S'=>⟨G',δ',S',w⟩
   | ct δ'=>exact λσ' G' H' S'=>⟨G',δ',S',w⟩
   | bk δ'=>exact w
   | rt d=>exact w
   | rl d=>exact w
   | rll d=>exact w
noncomputable def capD(cap:List (Option Nat))(δ:DSt):DSt:=cap.map λo=>match o with
 | none=>none
 | some j=>match δ[j]? with
  | some (some (.sh d))=>some (.sh d)
  | _=>none
noncomputable def rW{α:Type}(tg:D->DSt->Option DSt)(t:DSt->Out Bool)(fe:DSt->Out α):List D->DSt->Out (List α)
 | [],_=>.ok []
 | d::ds,δ=>(Out.opt (tg d δ)).bind λδ1=>(t δ1).aZ.bind λk=>if k=true then (fe δ1).aZ.bind λy=>(rW tg t fe ds δ1).bind λys=>.ok (y::ys) else rW tg t fe ds δ1
noncomputable def bj{α:Type}(cap:List (Option Nat))(fi:DSt->Out (List D))(tg:D->DSt->Option DSt)(t:DSt->Out Bool)(fe:DSt->Out α):DSt->Out (List α):=λδ=>(fi δ).bind λds=>if ds.length<sizeLine then rW tg t fe ds (capD cap δ) else .stuck
abbrev DTs(X:Cx)(Γ:Nat->Option Addr)(E:XK)(ifs:List Expr)(f:DSt->Out Bool):Prop:=uL X ifs (ttD X.K Γ E f)
theorem bY:DTs X Γ E [] (λ_=>.ok true):=λpins s σ H Q I ⟨G0,H0,G,δ,S,w⟩=>pf_nil pins s σ H Q I (w G H (.refl S.st.gh))
theorem Ob(h:DT X Γ E c ft):DTs X Γ E [c] ft:=pf_one h
theorem SR.cap{K:Frag}{G0 H0 G H:Hp}{σ:L2.St}{δ:DSt}(S:SR K Γ G0 H0 G H σ δ)(cap:List (Option Nat)):SR K Γ G H G H (capS cap σ) (capD cap δ):=by
 refine⟨.refl S.st.gh,by simp[capS,capD],λ_=>none,λi x e=>?_⟩
 obtain⟨O,q⟩:=S.sl
 unfold capD at e
 rw[List.getElem?_map] at e
 obtain⟨o,e1,e2⟩:=Option.map_eq_some_iff.mp e
 cases o with
 | none=>cases e2
 | some j =>
  dsimp only at e2
  split at e2
  .rename_i d ej
   cases e2
   obtain⟨v,h1,h2⟩:=q j _ ej
   exact⟨v,by unfold capS;rw[List.getElem?_map,e1];simp[h1],h2⟩
  .cases e2
def yj(δ:DSt):Prop:=∀(i:Nat) x,δ[i]?=some (some x)->∃d,x=.sh d
def ShT(t:D->DSt->Option DSt):Prop:=∀d δ δ',t d δ=some δ'->yj δ->yj δ'
def ShTs(t:List D->DSt->Option DSt):Prop:=∀d δ δ',t d δ=some δ'->yj δ->yj δ'
theorem sh_cap(cap:List (Option Nat))(δ:DSt):yj (capD cap δ):=λi x e=>by
 unfold capD at e
 rw[List.getElem?_map] at e
 obtain⟨o,e1,e2⟩:=Option.map_eq_some_iff.mp e
 cases o with
 | none=>cases e2
 | some j =>
  dsimp only at e2
  split at e2
  .cases e2;exact⟨_,rfl⟩
  .cases e2
theorem jM(i:Nat):ShT (gN i):=λd δ δ' e h j x ej=>by
 cases e
 rw[List.getElem?_set] at ej
 split at ej
 .split at ej
  .cases ej;exact⟨_,rfl⟩
  .cases ej
 .exact h j x ej
theorem sh_nil:ShTs cN:=λd δ δ' e h=>by
 unfold cN at e
 split at e
 .cases e;exact h
 .cases e
theorem Aa{f:D->DSt->Option DSt}{g:List D->DSt->Option DSt}(h1:ShT f)(h2:ShTs g):ShTs (aQ f g):=λd δ δ' e h=>by
 unfold aQ at e
 split at e
 .obtain⟨δ1,e1,e2⟩:=Option.bind_eq_some_iff.mp e
  exact h2 _ _ _ e2 (h1 _ _ _ e1 h)
 .cases e
theorem sh_t{n:Nat}{f:List D->DSt->Option DSt}(h1:ShTs f):ShT (gT n f):=λd δ δ' e h=>by
 unfold gT at e
 split at e
 .split at e
  .exact h1 _ _ _ e h
  .cases e
 .cases e
theorem SR.beside{K:Frag}{G0 H0 G H:Hp}{σ:L2.St}{δ:DSt}(S:SR K Γ G0 H0 G H σ δ)(sh:yj δ){a:Addr}{o:HO}(g:G a=none)(h0:H0 a=none):SR K Γ G0 H0 G (upd H a o) σ δ:=by
 have sx:=S.st
 refine⟨⟨sx.gg,λb u e=>by rw[aF (aW e h0)];exact sx.hh _ _ e,λb u e=>by rw[aF (aW e g)];exact sx.gh _ _ e,sx.sep⟩,S.len,?_⟩
 obtain⟨O,q⟩:=S.sl
 refine⟨O,λi x e=>?_⟩
 obtain⟨d,rfl⟩:=sh i x e
 exact q i _ e
theorem rZ{cap:List (Option Nat)}{fi:DSt->Out (List D)}{t:D->DSt->Option DSt}{ft:DSt->Out Bool}{fe:DSt->Out D}(sh:ShT t)(σ:L2.St)(H:Hp)(Q:VK):tfD X.K Γ E (bj cap fi t ft fe) σ H Q->uo cap (tiD X.K Γ E fi) (tgD X.K Γ t) (ttD X.K Γ E0 ft) (teD X.K Γ E0 fe) σ H Q:=λqq=>by
 obtain⟨G0,H0,G,δ,S,w⟩:=qq;refine⟨G0,H0,G,δ,S,(aj w).mono (λds w J G1 H1 s1 Y=>?_) λx k=>k⟩
 by_cases hz:ds.length<sizeLine
 .rw[if_pos hz] at w
  intro acc hacc
  have Sc:=(S.step s1).cap cap
  refine⟨λi m ys τ H=>∃G δ done,Step G1 H1 G H/\SR X.K Γ G1 H1 G H τ δ/\yj δ/\H acc=some (.lst ys)/\G acc=none/\au X.K Γ G ys done/\m=ds.length - i/\i<=ds.length/\ys.length<=i /\
   wpO (rW t ft fe (ds.drop i) δ) (λrest=>∀G' H' vs,Step G1 H1 G' H'->H' acc=some (.lst vs)->G' acc=none->au X.K Γ G' vs (done++rest)->Q (.ref acc) H') (λ_=>True),?_,?_⟩
  .have g1:G1 acc=none:=aD s1.gh hacc
   have st:=Step.aside s1.gh (o:=.lst []) hacc
   refine⟨_,G1,_,[],st,Sc.step st,sh_cap _ _,aG,g1,.nil,rfl,Nat.zero_le _,Nat.le_refl _,w.mono (λrest k G' H' vs s' h' g' r'=>k acc vs G' H' (s1.trans s') (aD s1.hh hacc) h' g' r') λ_ _=>trivial⟩
  .rintro i m ys τ H ⟨G2,δ2,done,st,S2,sh2,h2,g2,r2,rfl,hi,hl,w⟩
   refine⟨h2,Nat.lt_of_le_of_lt (Nat.le_trans hl hi) hz,?_⟩
   by_cases lt:i<ds.length
   .refine .inr ⟨Y.go i H (st.gg.trans st.gh) lt,λx H' y=>?_⟩
    obtain⟨G3,s3,r3⟩:=Y.yld i G2 H x H' ds[i] st.gg st.gh y (by simp[lt])
    rw[List.drop_eq_getElem_cons lt] at w
    obtain⟨δ3,e3,w⟩:=bB (aj w)
    refine⟨G1,H1,G3,δ2,ds[i],δ3,S2.step s3,r3,e3,λσ4 S4=>?_⟩
    have w:=cY (R':=exD X.K Γ E0 G3 H') (aj w)
    refine⟨G1,H1,G3,δ3,S4,w.mono (λk w G5 H5 s5=>?_) λ_ k=>k⟩
    have s25:=s3.trans s5
    have sh3:=sh _ _ _ e3 sh2
    cases k with
    | false =>
     rw[if_neg Bool.false_ne_true] at w
     dsimp only
     rw[if_neg Bool.false_ne_true]
     exact⟨_,Nat.sub_lt_sub_left lt (Nat.lt_succ_self i),G5,δ3,done,st.trans s25,S4.step s5,sh3,s25.hh _ _ h2,s25.sep acc (by rw[h2];exact λz=>nomatch z) g2,r2.mono s25.gg,rfl,lt,Nat.le_succ_of_le hl,w⟩
    | true =>
     rw[if_pos rfl] at w
     dsimp only
     rw[if_pos rfl]
     have w:=cY (R':=exD X.K Γ E0 G5 H5) (aj w)
     refine⟨G1,H1,G5,δ3,S4.step s5,w.mono (λy w v G6 H6 s6 r6=>?_) λ_ k=>k⟩
     have s26:=s25.trans s6
     have h6:=s26.hh _ _ h2
     have g6:G6 acc=none:=s26.sep acc (by rw[h2];exact λz=>nomatch z) g2
     have n1:H1 acc=none:=hacc
     refine⟨h6,_,Nat.sub_lt_sub_left lt (Nat.lt_succ_self i),G6,δ3,done++[y],?_,?_,sh3,aG,g6,(r2.mono s26.gg).append (.cons r6 .nil),rfl,lt,by rw[List.length_append];exact Nat.succ_le_succ hl,?_⟩
     .have sx:=st.trans s26
      exact⟨sx.gg,λb u e=>by rw[aF (aW e n1)];exact sx.hh _ _ e,λb u e=>by rw[aF (aW e g6)];exact sx.gh _ _ e,sx.sep⟩
     .exact((S4.step s5).step s6).beside sh3 g6 n1
     .refine(aj w).mono (λrest k G' H' vs s' h' g' r'=>k G' H' vs s' h' g' (by simpa using r')) λ_ k=>k
   .obtain rfl:i=ds.length:=by omega
    rw[List.drop_length] at w
    exact .inl ⟨Y.stop _ H (st.gg.trans st.gh) (Nat.le_refl _),w G2 H ys st h2 g2 (by simpa using r2)⟩
 .rw[if_neg hz] at w
  exact False.elim w
theorem dH{tg iter elt:Expr}{ifs:List Expr}{sc:Scope}{cl:List (Str×Addr)}{N':List Str}{cap:List (Option Nat)}{fi:DSt->Out (List D)}{t:D->DSt->Option DSt}{ft:DSt->Out Bool}{fe:DSt->Out D}
  (hh:∀{wi:TI}{g:TG}{tt:TT}{te:TE},PI X tg iter wi->(∀s₀ H₀ C fp pn,PG (bh X N' sc cl s₀ H₀ C fp pn) tg g)->(∀s₀ H₀ C fp pn,uL (bh X N' sc cl s₀ H₀ C fp pn) ifs tt)->(∀s₀ H₀ C fp pn,PE (bh X N' sc cl s₀ H₀ C fp pn) elt te)->PE X (.ListComp elt [⟨tg,iter,ifs,0⟩] sc pos) (uo cap wi g tt te))
  (hi:DI X Γ E tg iter fi) (sh:ShT t) (hg:∀s₀ H₀ C fp pn,PG (bh X N' sc cl s₀ H₀ C fp pn) tg (tgD X.K Γ t)) (ht:∀s₀ H₀ C fp pn,uL (bh X N' sc cl s₀ H₀ C fp pn) ifs (ttD X.K Γ E0 ft)) (he:∀s₀ H₀ C fp pn,PE (bh X N' sc cl s₀ H₀ C fp pn) elt (teD X.K Γ E0 fe)) :
  DF X Γ E (.ListComp elt [⟨tg,iter,ifs,0⟩] sc pos) (bj cap fi t ft fe):=PE.imp (hh hi hg ht he) (rZ sh)
theorem bx.snoc{K:Frag}{H G' H':Hp}{b:Addr}{ws:List V}{ds:List D}(f:H b=none)(h:H' b=some (.lst ws))(g:G' b=none)(r:au K Γ G' ws ds):∀{vs:List V}{dss:List (List D)},V.ref b∉vs->bx K Γ H G' H' vs dss->bx K Γ H G' H' (vs++[.ref b]) (dss++[ds])
 | _,_,_,.nil=>.cons f h g r (by simp) .nil
 | _,_,m,.cons f' h' g' r' n' t=>.cons f' h' g' r' (λz=>by
   rcases List.mem_append.mp z with z | z
   .exact n' z
   .exact m (by rw[List.mem_singleton.mp z];exact List.mem_cons_self)) (bx.snoc f h g r (λz=>m (List.mem_cons_of_mem _ z)) t)
theorem bx.step{K:Frag}{H G H1 G2 H2:Hp}(s:Step G H1 G2 H2):∀{vs:List V}{dss:List (List D)},bx K Γ H G H1 vs dss->bx K Γ H G2 H2 vs dss
 | _,_,.nil=>.nil
 | _,_,.cons f h g r n t=>.cons f (s.hh _ _ h) (s.sep _ (by rw[h];exact λq=>nomatch q) g) (r.mono s.gg) n (bx.step s t)
theorem bx.updI{K:Frag}{H G' H':Hp}{a:Addr}{o:HO}:∀{vs:List V}{dss:List (List D)},V.ref a∉vs->bx K Γ H G' H' vs dss->bx K Γ H G' (upd H' a o) vs dss
 | _,_,_,.nil=>.nil
 | _,_,m,.cons f h g r n t=>.cons f ((aF λz=>m (by rw[z];exact List.mem_cons_self)).trans h) g r n (bx.updI (λz=>m (List.mem_cons_of_mem _ z)) t)
theorem v6{cap:List (Option Nat)}{fi:DSt->Out (List D)}{t:D->DSt->Option DSt}{ft:DSt->Out Bool}{fe:DSt->Out (List D)}(sh:ShT t)(σ:L2.St)(H:Hp)(Q:VK):tffD X.K Γ E (bj cap fi t ft fe) σ H Q->uo cap (tiD X.K Γ E fi) (tgD X.K Γ t) (ttD X.K Γ E0 ft) (tfD X.K Γ E0 fe) σ H Q:=λqq=>by
 obtain⟨G0,H0,G,δ,S,w⟩:=qq;refine⟨G0,H0,G,δ,S,(aj w).mono (λds w J G1 H1 s1 Y=>?_) λx k=>k⟩
 by_cases hz:ds.length<sizeLine
 .rw[if_pos hz] at w
  intro acc hacc
  have Sc:=(S.step s1).cap cap
  refine⟨λi m ys τ H=>∃G δ done,Step G1 H1 G H/\SR X.K Γ G1 H1 G H τ δ/\yj δ/\H acc=some (.lst ys)/\G acc=none/\V.ref acc∉ys/\bx X.K Γ H1 G H ys done/\m=ds.length - i/\i<=ds.length/\ys.length<=i /\
   wpO (rW t ft fe (ds.drop i) δ) (λrest=>∀G' H' vs,Step G1 H1 G' H'->H' acc=some (.lst vs)->G' acc=none->V.ref acc∉vs->bx X.K Γ H1 G' H' vs (done++rest)->Q (.ref acc) H') (λ_=>True),?_,?_⟩
  .have g1:G1 acc=none:=aD s1.gh hacc
   have st:=Step.aside s1.gh (o:=.lst []) hacc
   refine⟨_,G1,_,[],st,Sc.step st,sh_cap _ _,aG,g1,(by simp),.nil,rfl,Nat.zero_le _,Nat.le_refl _,w.mono (λrest k G' H' vs s' h' g' n' r'=>k acc vs G' H' (s1.trans s') (aD s1.hh hacc) h' g' n' (r'.reF λb z=>aD s1.hh z)) λ_ _=>trivial⟩
  .rintro i m ys τ H ⟨G2,δ2,done,st,S2,sh2,h2,g2,n2,r2,rfl,hi,hl,w⟩
   refine⟨h2,Nat.lt_of_le_of_lt (Nat.le_trans hl hi) hz,?_⟩
   by_cases lt:i<ds.length
   .refine .inr ⟨Y.go i H (st.gg.trans st.gh) lt,λx H' y=>?_⟩
    obtain⟨G3,s3,r3⟩:=Y.yld i G2 H x H' ds[i] st.gg st.gh y (by simp[lt])
    rw[List.drop_eq_getElem_cons lt] at w
    obtain⟨δ3,e3,w⟩:=bB (aj w)
    refine⟨G1,H1,G3,δ2,ds[i],δ3,S2.step s3,r3,e3,λσ4 S4=>?_⟩
    have w:=cY (R':=exD X.K Γ E0 G3 H') (aj w)
    refine⟨G1,H1,G3,δ3,S4,w.mono (λk w G5 H5 s5=>?_) λ_ k=>k⟩
    have s25:=s3.trans s5
    have sh3:=sh _ _ _ e3 sh2
    cases k with
    | false =>
     rw[if_neg Bool.false_ne_true] at w
     dsimp only
     rw[if_neg Bool.false_ne_true]
     exact⟨_,Nat.sub_lt_sub_left lt (Nat.lt_succ_self i),G5,δ3,done,st.trans s25,S4.step s5,sh3,s25.hh _ _ h2,s25.sep acc (by rw[h2];exact λz=>nomatch z) g2,n2,r2.step s25,rfl,lt,Nat.le_succ_of_le hl,w⟩
    | true =>
     rw[if_pos rfl] at w
     dsimp only
     rw[if_pos rfl]
     have w:=cY (R':=exD X.K Γ E0 G5 H5) (aj w)
     refine⟨G1,H1,G5,δ3,S4.step s5,w.mono (λy w bb wv G6 H6 s6 fb hb gb rb=>?_) λ_ k=>k⟩
     have s26:=s25.trans s6
     have h6:=s26.hh _ _ h2
     have g6:G6 acc=none:=s26.sep acc (by rw[h2];exact λz=>nomatch z) g2
     have n1:H1 acc=none:=hacc
     have neb:acc≠bb:=λz=>by
      have:=s25.hh _ _ h2
      rw[z,fb] at this
      cases this
     have nbm:V.ref bb∉ys:=λz=>(r2.step s25).mem bb z |>.2 fb
     have f1:H1 bb=none:=aD ((st.trans s25).hh) fb
     refine⟨h6,_,Nat.sub_lt_sub_left lt (Nat.lt_succ_self i),G6,δ3,done++[y],?_,?_,sh3,aG,g6,(λz=>by
      rcases List.mem_append.mp z with z | z
      .exact n2 z
      .exact neb (V.ref.inj (List.mem_singleton.mp z))),bx.snoc f1 ((aF (Ne.symm neb)).trans hb) gb rb nbm (bx.updI n2 (r2.step s26)),rfl,lt,by rw[List.length_append];exact Nat.succ_le_succ hl,?_⟩
     .have sx:=st.trans s26
      exact⟨sx.gg,λb u e=>by rw[aF (aW e n1)];exact sx.hh _ _ e,λb u e=>by rw[aF (aW e g6)];exact sx.gh _ _ e,sx.sep⟩
     .exact((S4.step s5).step s6).beside sh3 g6 n1
     .refine(aj w).mono (λrest k G' H' vs s' h' g' n' r'=>k G' H' vs s' h' g' n' (by simpa using r')) λ_ k=>k
   .obtain rfl:i=ds.length:=by omega
    rw[List.drop_length] at w
    exact .inl ⟨Y.stop _ H (st.gg.trans st.gh) (Nat.le_refl _),w G2 H ys st h2 g2 n2 (by simpa using r2)⟩
 .rw[if_neg hz] at w
  exact False.elim w
theorem dff_comp{tg iter elt:Expr}{ifs:List Expr}{sc:Scope}{cl:List (Str×Addr)}{N':List Str}{cap:List (Option Nat)}{fi:DSt->Out (List D)}{t:D->DSt->Option DSt}{ft:DSt->Out Bool}{fe:DSt->Out (List D)}
  (hh:∀{wi:TI}{g:TG}{tt:TT}{te:TE},PI X tg iter wi->(∀s₀ H₀ C fp pn,PG (bh X N' sc cl s₀ H₀ C fp pn) tg g)->(∀s₀ H₀ C fp pn,uL (bh X N' sc cl s₀ H₀ C fp pn) ifs tt)->(∀s₀ H₀ C fp pn,PE (bh X N' sc cl s₀ H₀ C fp pn) elt te)->PE X (.ListComp elt [⟨tg,iter,ifs,0⟩] sc pos) (uo cap wi g tt te))
  (hi:DI X Γ E tg iter fi) (sh:ShT t) (hg:∀s₀ H₀ C fp pn,PG (bh X N' sc cl s₀ H₀ C fp pn) tg (tgD X.K Γ t)) (ht:∀s₀ H₀ C fp pn,uL (bh X N' sc cl s₀ H₀ C fp pn) ifs (ttD X.K Γ E0 ft)) (he:∀s₀ H₀ C fp pn,PE (bh X N' sc cl s₀ H₀ C fp pn) elt (tfD X.K Γ E0 fe)) :
  DFF X Γ E (.ListComp elt [⟨tg,iter,ifs,0⟩] sc pos) (bj cap fi t ft fe):=PE.imp (hh hi hg ht he) (v6 sh)
section
variable{tg iter elt:Expr}{ifs:List Expr}{sc:Scope}{cl:List (Str×Addr)}{N':List Str}{cap:List (Option Nat)}{fi:DSt->Out (List D)}{t:D->DSt->Option DSt}{ft:DSt->Out Bool}{x:Str}{pos' spos:Pos}
theorem ds_setlc(i:Nat){fe:DSt->Out D}
  (hh:∀{wi:TI}{g:TG}{tt:TT}{te:TE},PI X tg iter wi->(∀s₀ H₀ C fp pn,PG (bh X N' sc cl s₀ H₀ C fp pn) tg g)->(∀s₀ H₀ C fp pn,uL (bh X N' sc cl s₀ H₀ C fp pn) ifs tt)->(∀s₀ H₀ C fp pn,PE (bh X N' sc cl s₀ H₀ C fp pn) elt te)->PS X (.Assign [.Name x pos'] (.ListComp elt [⟨tg,iter,ifs,0⟩] sc pos) spos) (zE (uo cap wi g tt te) (mZ i)))
  (hi:DI X Γ E tg iter fi) (sh:ShT t) (hg:∀s₀ H₀ C fp pn,PG (bh X N' sc cl s₀ H₀ C fp pn) tg (tgD X.K Γ t)) (ht:∀s₀ H₀ C fp pn,uL (bh X N' sc cl s₀ H₀ C fp pn) ifs (ttD X.K Γ E0 ft)) (he:∀s₀ H₀ C fp pn,PE (bh X N' sc cl s₀ H₀ C fp pn) elt (teD X.K Γ E0 fe)) :
  DS X Γ E (.Assign [.Name x pos'] (.ListComp elt [⟨tg,iter,ifs,0⟩] sc pos) spos) (lV i (bj cap fi t ft fe)):=PS.imp (hh hi hg ht he) λN σ H ⟨G0,H0,G,δ,S,w⟩=>rZ sh _ _ _
 ⟨G0,H0,G,δ,S,(aj w).mono (λd w a vs G1 H1 s1 f h g r=>w _ G1 H1 (S.setl s1 f h g r)) λx k=>exD.step k S.st⟩
theorem zN(i:Nat){fe:DSt->Out D}
  (hh:∀{wi:TI}{g:TG}{tt:TT}{te:TE},PI X tg iter wi->(∀s₀ H₀ C fp pn,PG (bh X N' sc cl s₀ H₀ C fp pn) tg g)->(∀s₀ H₀ C fp pn,uL (bh X N' sc cl s₀ H₀ C fp pn) ifs tt)->(∀s₀ H₀ C fp pn,PE (bh X N' sc cl s₀ H₀ C fp pn) elt te)->PS X (.Assign [.Name x pos'] (.ListComp elt [⟨tg,iter,ifs,0⟩] sc pos) spos) (zE (uo cap wi g tt te) (mZ i)))
  (hi:DI X Γ E tg iter fi) (sh:ShT t) (hg:∀s₀ H₀ C fp pn,PG (bh X N' sc cl s₀ H₀ C fp pn) tg (tgD X.K Γ t)) (ht:∀s₀ H₀ C fp pn,uL (bh X N' sc cl s₀ H₀ C fp pn) ifs (ttD X.K Γ E0 ft)) (he:∀s₀ H₀ C fp pn,PE (bh X N' sc cl s₀ H₀ C fp pn) elt (teD X.K Γ E0 fe)) :
  DS X Γ E (.Assign [.Name x pos'] (.ListComp elt [⟨tg,iter,ifs,0⟩] sc pos) spos) (bz i (gG (bj cap fi t ft fe))):=PS.imp (hh hi hg ht he) λN σ H ⟨G0,H0,G,δ,S,w⟩=>rZ sh _ _ _
 ⟨G0,H0,G,δ,S,(aj (aj w)).mono (λds w a vs G1 H1 s1 f h g r=>by
  have hp:∀b,decide (b=a)=true->G1 b=none/\H b=none:=λb z=>by obtain rfl:=of_decide_eq_true z;exact⟨g,f⟩
  have s2:=s1.frz (λb=>decide (b=a)) hp
  exact w _ _ H1 ((S.step s2).set (.lst (by unfold dJ;rw[if_pos (by simp)];exact h) (r.mono (cX λb z=>(hp b z).1))))) λx k=>exD.step k S.st⟩
theorem Ec(i:Nat){fe:DSt->Out (List D)}
  (hh:∀{wi:TI}{g:TG}{tt:TT}{te:TE},PI X tg iter wi->(∀s₀ H₀ C fp pn,PG (bh X N' sc cl s₀ H₀ C fp pn) tg g)->(∀s₀ H₀ C fp pn,uL (bh X N' sc cl s₀ H₀ C fp pn) ifs tt)->(∀s₀ H₀ C fp pn,PE (bh X N' sc cl s₀ H₀ C fp pn) elt te)->PS X (.Assign [.Name x pos'] (.ListComp elt [⟨tg,iter,ifs,0⟩] sc pos) spos) (zE (uo cap wi g tt te) (mZ i)))
  (hi:DI X Γ E tg iter fi) (sh:ShT t) (hg:∀s₀ H₀ C fp pn,PG (bh X N' sc cl s₀ H₀ C fp pn) tg (tgD X.K Γ t)) (ht:∀s₀ H₀ C fp pn,uL (bh X N' sc cl s₀ H₀ C fp pn) ifs (ttD X.K Γ E0 ft)) (he:∀s₀ H₀ C fp pn,PE (bh X N' sc cl s₀ H₀ C fp pn) elt (tfD X.K Γ E0 fe)) :
  DS X Γ E (.Assign [.Name x pos'] (.ListComp elt [⟨tg,iter,ifs,0⟩] sc pos) spos) (jc i (bj cap fi t ft fe)):=PS.imp (hh hi hg ht he) λN σ H ⟨G0,H0,G,δ,S,w⟩=>v6 sh _ _ _
 ⟨G0,H0,G,δ,S,(aj w).mono (λd w a vs G1 H1 s1 f h g n r=>w _ G1 H1 (S.setll s1 f h g n r)) λx k=>exD.step k S.st⟩
end
end
end DL
namespace DL
open PySem PySem.Spec PyProof.Rows MX L2
noncomputable def jN(n:Nat)(ds:List D):DSt:=ds.map (λd=>some (.sh d))++List.replicate (n - ds.length) none
noncomputable def iG:Fl->Out D
 | .nx _=>.ok .non
 | .rt d=>.ok d
 | .rl ds=>.ok (.lst ds)
 | .rll dss=>.ok (.lst (dss.map .lst))
 | _=>.stuck
noncomputable def endF:Fl->Out (List D)
 | .rl ds=>.ok ds
 | _=>.stuck
noncomputable def Bb:Fl->Out (List (List D))
 | .rll ds=>.ok ds
 | _=>.stuck
noncomputable def eE(n:Nat)(g:DSt->Out Fl)(ds:List D):Out D:=(g (jN n ds)).bind iG
noncomputable def runL(n:Nat)(g:DSt->Out Fl)(ds:List D):Out (List D):=(g (jN n ds)).bind endF
noncomputable def Ep(n:Nat)(g:DSt->Out Fl)(ds:List D):Out (List (List D)):=(g (jN n ds)).bind Bb
def spF(K:Frag)(Γ:Nat->Option Addr)(n:Nat)(F:List D->Out (List D)):Sp:=λvs H Q E=>vs.length=n/\∃G ds,aY G H/\au K Γ G vs ds/\wpO (F ds) (okF K Γ G H Q) (exD K Γ E G H)
def Cq(K:Frag)(Γ:Nat->Option Addr)(n:Nat)(F:List D->Out (List (List D))):Sp:=λvs H Q E=>vs.length=n/\∃G ds,aY G H/\au K Γ G vs ds/\wpO (F ds) (okFF K Γ G H Q) (exD K Γ E G H)
def spD(K:Frag)(Γ:Nat->Option Addr)(n:Nat)(F:List D->Out D):Sp:=λvs H Q E=>vs.length=n/\∃G ds,aY G H/\au K Γ G vs ds/\wpO (F ds) (okD K Γ G H Q) (exD K Γ E G H)
theorem SR.Ir{K:Frag}{Γ:Nat->Option Addr}{G H:Hp}{vs:List V}{ds:List D}{N:List Str}(s:aY G H)(r:au K Γ G vs ds):SR K Γ G H G H (L2.start N vs) (jN N.length ds):=by
 refine⟨.refl s,by simp[jN,L2.start,r.length],λ_=>none,λi x e=>?_⟩
 unfold jN at e
 by_cases h:i<ds.length
 .rw[List.getElem?_append_left (by simpa using h),List.getElem?_map] at e
  obtain⟨d,e1,e2⟩:=Option.map_eq_some_iff.mp e
  cases e2
  obtain⟨v,h1,h2⟩:=r.get e1
  refine⟨v,?_,h2⟩
  unfold L2.start
  rw[List.getElem?_append_left (by rw[List.length_map,r.length];exact h),List.getElem?_map,h1]
  rfl
 .rw[List.getElem?_append_right (by simpa using h),List.getElem?_replicate] at e
  split at e <;> cases e
theorem frz_rl{K:Frag}{Γ:Nat->Option Addr}{G H:Hp}{Q:VK}{ds:List D}(q:okD K Γ G H Q (.lst ds)):okF K Γ G H Q ds:=λa vs G1 H1 s1 f h g r=>by
 have hp:∀b,decide (b=a)=true->G1 b=none/\H b=none:=λb z=>by obtain rfl:=of_decide_eq_true z;exact⟨g,f⟩
 exact q _ _ H1 (s1.frz (λb=>decide (b=a)) hp) (.lst (by unfold dJ;rw[if_pos (by simp)];exact h) (r.mono (cX λb z=>(hp b z).1)))
theorem Oh{K:Frag}{Γ:Nat->Option Addr}{G H:Hp}{Q:VK}{dss:List (List D)}(q:okD K Γ G H Q (.lst (dss.map .lst))):okFF K Γ G H Q dss:=λa vs G1 H1 s1 f h g n r=>by
 have hp:∀b,decide (b=a∨V.ref b∈vs)=true->G1 b=none/\H b=none:=λb z=>by
  rcases of_decide_eq_true z with z | z
  .subst z;exact⟨g,f⟩
  .exact⟨r.gnone b z,(r.mem b z).1⟩
 exact q _ _ H1 (s1.frz (λb=>decide (b=a∨V.ref b∈vs)) hp) (.lst (by unfold dJ;rw[if_pos (by simp)];exact h) (bx.frozen (cX λb z=>(hp b z).1) (λb hb=>by simp[hb]) r))
section
variable{P:Program}{w:World}{K:Frag}{mg:Str->Option Value}{base:Heap}{Γ:Nat->Option Addr}
theorem Fun.okD{x qual:Str}{st:Stmt}{f:Addr}{fd:FuncData}{N ps:List Str}{k:Nat}{g:DSt->Out Fl}(F:L2.Fun K x qual st f fd)(S:aN N ps (aA st))
  (h:∀(cdv:Value)(A:Around)(outer:List Env)(s:Shared)(H:Hp)(E:XK),dz k (A.deeper (envOfC qual (aA st) s.heap.objs.size f cdv))->DSs (cxOf CX0 P w K mg base N qual (aA st) f cdv A outer s H E).nox Γ E0 (fC st) g) :
  cJ P w K mg base CX0 (k+1) f fd ps (spD K Γ ps.length λds=>(eE N.length g ds).aZ) :=
 L2.Fun.ok F S (λvs H Q E h=>h.1) λcdv A outer s H vs Q E hr qq=>by
  obtain⟨hl,G,ds,sg,r,q⟩:=qq;refine⟨_,h cdv A outer s H E hr,G,H,G,jN N.length ds,SR.Ir sg r,(aj (cY (R':=exD K Γ E0 G H) q)).mono (λfl q=>?_) λ_ k=>k⟩
  cases fl with
  | nx δ=>exact λσ G' H' S'=>q _ G' H' S'.st .non
  | rt d=>exact λv G' H' s' r'=>q v G' H' s' r'
  | bk δ=>exact False.elim q
  | ct δ=>exact False.elim q
  | rl ds=>exact frz_rl q
  | rll dss=>exact Oh q
theorem Fun.okF{x qual:Str}{st:Stmt}{f:Addr}{fd:FuncData}{N ps:List Str}{k:Nat}{g:DSt->Out Fl}(F:L2.Fun K x qual st f fd)(S:aN N ps (aA st))
  (h:∀(cdv:Value)(A:Around)(outer:List Env)(s:Shared)(H:Hp)(E:XK),dz k (A.deeper (envOfC qual (aA st) s.heap.objs.size f cdv))->DSs (cxOf CX0 P w K mg base N qual (aA st) f cdv A outer s H E).nox Γ E0 (fC st) g) :
  cJ P w K mg base CX0 (k+1) f fd ps (spF K Γ ps.length λds=>(runL N.length g ds).aZ) :=
 L2.Fun.ok F S (λvs H Q E h=>h.1) λcdv A outer s H vs Q E hr qq=>by
  obtain⟨hl,G,ds,sg,r,q⟩:=qq;refine⟨_,h cdv A outer s H E hr,G,H,G,jN N.length ds,SR.Ir sg r,(aj (cY (R':=exD K Γ E0 G H) q)).mono (λfl q=>?_) λ_ k=>k⟩
  cases fl with
  | rl ds=>exact λa vs G' H' s f h g r=>q a vs G' H' s f h g r
  | _=>exact False.elim q
theorem Fun.okFF{x qual:Str}{st:Stmt}{f:Addr}{fd:FuncData}{N ps:List Str}{k:Nat}{g:DSt->Out Fl}(F:L2.Fun K x qual st f fd)(S:aN N ps (aA st))
  (h:∀(cdv:Value)(A:Around)(outer:List Env)(s:Shared)(H:Hp)(E:XK),dz k (A.deeper (envOfC qual (aA st) s.heap.objs.size f cdv))->DSs (cxOf CX0 P w K mg base N qual (aA st) f cdv A outer s H E).nox Γ E0 (fC st) g) :
  cJ P w K mg base CX0 (k+1) f fd ps (Cq K Γ ps.length λds=>(Ep N.length g ds).aZ) :=
 L2.Fun.ok F S (λvs H Q E h=>h.1) λcdv A outer s H vs Q E hr qq=>by
  obtain⟨hl,G,ds,sg,r,q⟩:=qq;refine⟨_,h cdv A outer s H E hr,G,H,G,jN N.length ds,SR.Ir sg r,(aj (cY (R':=exD K Γ E0 G H) q)).mono (λfl q=>?_) λ_ k=>k⟩
  cases fl with
  | rll ds=>exact λa vs G' H' s f h g n r=>q a vs G' H' s f h g n r
  | _=>exact False.elim q
theorem okF_D{CX:CXT}{k n:Nat}{f:Addr}{fd:FuncData}{ps:List Str}{F:List D->Out (List D)}(h:cJ P w K mg base CX k f fd ps (spF K Γ n F)):cJ P w K mg base CX k f fd ps (spD K Γ n λds=>(F ds).bind λxs=>.ok (.lst xs)) :=
 h.imp λvs H Q E ⟨hl,G,ds,sg,r,q⟩=>⟨hl,G,ds,sg,r,(aj q).mono (λxs q=>frz_rl q) λ_ k=>k⟩
theorem okFF_D{CX:CXT}{k n:Nat}{f:Addr}{fd:FuncData}{ps:List Str}{F:List D->Out (List (List D))}(h:cJ P w K mg base CX k f fd ps (Cq K Γ n F)):cJ P w K mg base CX k f fd ps (spD K Γ n λds=>(F ds).bind λxs=>.ok (.lst (xs.map .lst))) :=
 h.imp λvs H Q E ⟨hl,G,ds,sg,r,q⟩=>⟨hl,G,ds,sg,r,(aj q).mono (λxs q=>Oh q) λ_ k=>k⟩
end
section
variable{X:Cx}{Γ:Nat->Option Addr}{E:XK}{e a b c o:Expr}{pos apos:Pos}{es:List Expr}{fa fb fo:DSt->Out D}{fr:DSt->Out (List D)}{CX:CXT}
noncomputable def oF(n:Nat)(F:List D->Out D)(fr:DSt->Out (List D)):DSt->Out D:=λδ=>(fr δ).bind λds=>if ds.length=n then F ds else .stuck
theorem dcall{n:Nat}{F:List D->Out D}(h:PE X e (Cv (spD X.K Γ n F) [] E (taD X.K Γ E fr))):DE X Γ E e (oF n F fr):=PE.imp h λσ H Q qq=>by
 obtain⟨G0,H0,G,δ,S,w⟩:=qq;refine⟨G0,H0,G,δ,S,(aj w).mono (λds w vs G1 H1 s1 r1=>?_) λ_ k=>k⟩
 split at w
 .rename_i h
  rw[List.append_nil]
  exact⟨by rw[r1.length];exact h,G1,ds,s1.gh,r1,w.mono (λd k=>k.step s1) λx k=>k.step s1⟩
 .exact False.elim w
def Ai{α:Type}(X:Cx)(Γ:Nat->Option Addr)(CX:CXT)(m:Str)(sp:(List D->Out α)->Sp):List (Nat×(List D->Out α))->Prop
 | []=>True
 | (c,F)::r=>(∃C f fd ps k,Γ c=some C/\Cls X.K C/\Meth X.K C m f/\cJ X.prog X.w X.K X.mg X.base CX k f fd ps (sp F)/\dz k X.A/\Binds X.K fd ps [])/\Ai X Γ CX m sp r
theorem Ai.get{α:Type}{m:Str}{sp:(List D->Out α)->Sp}:∀{M:List (Nat×(List D->Out α))}{c:Nat}{F:List D->Out α},Ai X Γ CX m sp M->M.lookup c=some F ->
  ∃C f fd ps k,Γ c=some C/\Cls X.K C/\Meth X.K C m f/\cJ X.prog X.w X.K X.mg X.base CX k f fd ps (sp F)/\dz k X.A/\Binds X.K fd ps []
 | [],_,_,_,e=>by cases e
 | (c',F')::r,c,F,h,e=>by
  by_cases q:c=c'
  .subst q
   simp only[List.lookup_cons,beq_self_eq_true] at e
   cases e
   exact h.1
  .have q':(c==c')=false:=beq_eq_false_iff_ne.mpr q
   simp only[List.lookup_cons,q'] at e
   exact h.2.get e
def tMethD{α:Type}(Γ:Nat->Option Addr)(m:Str)(sp:(List D->Out α)->Sp)(M:List (Nat×(List D->Out α)))(E:XK)(ta:TE)(t:TA):TE:=λσ H Q=>ta σ H λx H1=>∃c a C dx fs F,x=.ref a/\H1 a=some (.ins C dx fs)/\Γ c=some C/\M.lookup c=some F/\fs.lookup m=none /\
 t σ H1 λvs H2=>sp F (x::vs) H2 Q E
theorem Qy{α:Type}{m:Str}{sp:(List D->Out α)->Sp}{M:List (Nat×(List D->Out α))}{ta:TE}{pl:Sem Bool}(hM:Ai X Γ CX m sp M)(hx:nM CX X E)(he:PE X o ta)
  (ht:eval (.Call (.Attribute o m apos) [] [] pos) X.env=(do
   let ov ←eval o X.env
   standAt apos.atName
   let (f,first) ←holding [ov] (getMethod ov m pl)
   callWith pos f first (backTo pos (starEach [] X.env)) (backToKw pos (keywordEach [] X.env))):=by rfl) :
  PE X (.Call (.Attribute o m apos) [] [] pos) (tMethD Γ m sp M E ta qJ):=by
 intro pins s σ H Q I h
 refine PySem.W.methodCall_KW (pl:=pl) (thn (he pins s σ H _ I h) λu s1 ⟨x,H1,I1,rx,c,a,C,dx,fs,F,ex,ea,hc,hF,l,q⟩=>?_) ht
 subst ex
 obtain rfl:u=Value.ref a:=rx
 obtain⟨C',f,fd,ps,k,hc',cl,hm,G,hr,hb⟩:=hM.get hF
 rw[hc] at hc'
 cases hc'
 refine Bm I1 ea cl hm l ?_
 exact PySem.W.callWith_K0 (first:=[.ref a]) I1.kIn hm.kp (HN (dvs:=[]) (us:=[.ref a]) (vs:=[.ref a]) G hr hb .nil hx I1 (.cons rfl .nil) (by rw[List.append_nil];exact q))
noncomputable def oM(m:Str)(n:Nat)(M:List (Nat×(List D->Out D)))(fo:DSt->Out D)(fr:DSt->Out (List D)):DSt->Out D:=λδ=>(fo δ).bind λo=>match o with
 | .obj c fs=>match M.lookup c with
  | some F=>if (fs.lookup m).isNone=true then (fr δ).bind λds=>if ds.length+1=n then F (o::ds) else .stuck else .stuck
  | none=>.stuck
 | _=>.stuck
theorem de_meth0{m:Str}{n:Nat}{M:List (Nat×(List D->Out D))}(h:PE X e (tMethD Γ m (spD X.K Γ n) M E (teD X.K Γ E fo) qJ)):DE X Γ E e (oM m n M fo aK):=PE.imp h λσ H Q qq=>by
 obtain⟨G0,H0,G,δ,S,w⟩:=qq;refine⟨G0,H0,G,δ,S,(aj w).mono (λd w v G1 H1 s1 r1=>?_) λ_ k=>k⟩
 split at w
 .rename_i c fs
  split at w
  .rename_i F hF
   split at w
   .rename_i hn
    have r1':=r1
    cases r1 with
    | obj ha hc rf =>
     refine⟨c,_,_,_,_,F,rfl,s1.gh _ _ ha,hc,hF,rf.none (Option.isNone_iff_eq_none.mp hn),?_⟩
     have w:wpO (if 0+1=n then F [.obj c fs] else .stuck) (okD X.K Γ G H Q) (exD X.K Γ E G H):=w
     split at w
     .rename_i hl
      exact⟨hl,G1,_,s1.gh,.cons r1' .nil,w.mono (λd k=>k.step s1) λx k=>k.step s1⟩
     .exact False.elim w
   .exact False.elim w
  .exact False.elim w
 .exact False.elim w
noncomputable def oFl{α:Type}(n:Nat)(F:List D->Out α)(fr:DSt->Out (List D)):DSt->Out α:=λδ=>(fr δ).bind λds=>if ds.length=n then F ds else .stuck
theorem dcallF{n:Nat}{F:List D->Out (List D)}(h:PE X e (Cv (spF X.K Γ n F) [] E (taD X.K Γ E fr))):DF X Γ E e (oFl n F fr):=PE.imp h λσ H Q qq=>by
 obtain⟨G0,H0,G,δ,S,w⟩:=qq;refine⟨G0,H0,G,δ,S,(aj w).mono (λds w vs G1 H1 s1 r1=>?_) λ_ k=>k⟩
 split at w
 .rename_i h
  rw[List.append_nil]
  exact⟨by rw[r1.length];exact h,G1,ds,s1.gh,r1,w.mono (λd k a vs G' H' s f h g r=>k a vs G' H' (s1.trans s) (aD s1.hh f) h g r) λx k=>k.step s1⟩
 .exact False.elim w
theorem dcallFF{n:Nat}{F:List D->Out (List (List D))}(h:PE X e (Cv (Cq X.K Γ n F) [] E (taD X.K Γ E fr))):DFF X Γ E e (oFl n F fr):=PE.imp h λσ H Q qq=>by
 obtain⟨G0,H0,G,δ,S,w⟩:=qq;refine⟨G0,H0,G,δ,S,(aj w).mono (λds w vs G1 H1 s1 r1=>?_) λ_ k=>k⟩
 split at w
 .rename_i h
  rw[List.append_nil]
  exact⟨by rw[r1.length];exact h,G1,ds,s1.gh,r1,w.mono (λd k a vs G' H' s f h g n r=>k a vs G' H' (s1.trans s) (aD s1.hh f) h g n (r.reF λb z=>aD s1.hh z)) λx k=>k.step s1⟩
 .exact False.elim w
def FldOk(K:Frag)(Γ:Nat->Option Addr)(f:Str):List Nat->Prop
 | []=>True
 | c::r=>(∃C,Γ c=some C/\Cls K C/\bI K C f)/\FldOk K Γ f r
theorem FldOk.get{K:Frag}{f:Str}:∀{cs:List Nat}{c:Nat},FldOk K Γ f cs->cs.contains c=true->∃C,Γ c=some C/\Cls K C/\bI K C f
 | [],_,_,e=>by cases e
 | d::r,c,h,e=>by
  by_cases q:c=d
  .subst q;exact h.1
  .exact h.2.get (by simpa[q] using e)
noncomputable def iH(f:Str)(cs:List Nat)(fo:DSt->Out D):DSt->Out D:=λδ=>(fo δ).bind λo=>match o with
 | .obj c fs=>if cs.contains c=true then .opt (fs.lookup f) else .stuck
 | _=>.stuck
theorem nO{f:Str}{cs:List Nat}(hf:FldOk X.K Γ f cs)(he:DE X Γ E o fo)(hb:attributeBase o f X.env (eval o X.env)=eval o X.env:=by rfl):DE X Γ E (.Attribute o f pos) (iH f cs fo):=PE.imp (pe_fld he hb) λσ H Q qq=>by
 obtain⟨G0,H0,G,δ,S,w⟩:=qq;refine⟨G0,H0,G,δ,S,(aj w).mono (λd w v G1 H1 s1 r1=>?_) λ_ k=>k⟩
 split at w
 .rename_i c fs
  split at w
  .rename_i hc
   obtain⟨d,e,k⟩:=bB w
   cases r1 with
   | obj ha hC rf =>
    obtain⟨C',hC',cl,na⟩:=hf.get hc
    rw[hC] at hC'
    cases hC'
    obtain⟨v,h1,h2⟩:=rf.look e
    exact⟨_,_,_,_,v,rfl,s1.gh _ _ ha,cl,na,h1,k _ G1 H1 s1 h2⟩
  .exact False.elim w
 .exact False.elim w
def spI(K:Frag)(Γ:Nat->Option Addr)(c n:Nat)(F:List D->Out (List (Str×D))):Sp:=λvs H Q E=>vs.length=n+1/\∃a dx C us G ds,vs=.ref a::us/\H a=some (.ins C dx [])/\Γ c=some C/\G a=none/\aY G H/\au K Γ G us ds /\
 wpO (F ds) (λfds=>∀fs G' H',aY G G'->(∀b o,H b=some o->b≠a->H' b=some o)->aY G' H'->(∀b,H b≠none->G b=none->G' b=none)->H' a=some (.ins C dx fs)->lC K Γ G' fs fds->Q .non H')
  (λx=>∀a' G' H',aY G G'->(∀b o,H b=some o->b≠a->H' b=some o)->aY G' H'->(∀b,H b≠none->G b=none->G' b=none)->Rep K Γ G' (.ref a') x->E (.ref a') none H')
noncomputable def oMk(c n:Nat)(F:List D->Out (List (Str×D)))(fr:DSt->Out (List D)):DSt->Out D:=λδ=>(fr δ).bind λds=>if ds.length=n then (F ds).bind λfds=>.ok (.obj c fds) else .stuck
theorem Oq{c n:Nat}{C:Addr}{F:List D->Out (List (Str×D))}{G H G1 H1:Hp}{Q:VK}{vs:List V}{ds:List D}(hC:Γ c=some C)(s1:Step G H G1 H1)(r1:au X.K Γ G1 vs ds)(hl:ds.length=n)(w:wpO ((F ds).bind λfds=>.ok (.obj c fds)) (okD X.K Γ G H Q) (exD X.K Γ E G H))(x dx:Addr)(hx:H1 x=none)(hdx:H1 dx=none)(ne:dx≠x):
  spI X.K Γ c n F (.ref x::vs) (upd (upd H1 dx (.own x)) x (.ins C dx [])) (λv H2=>v=.non/\Q (.ref x) H2) E:=by
 have gx:G1 x=none:=aD s1.gh hx
 have gdx:G1 dx=none:=aD s1.gh hdx
 have up:∀b o,H1 b=some o->b≠x/\upd (upd H1 dx (.own x)) x (.ins C dx []) b=some o:=λb o e=>⟨aW e hx,by rw[aF (aW e hx),aF (aW e hdx)];exact e⟩
 have nn:∀b,H1 b≠none->upd (upd H1 dx (.own x)) x (.ins C dx []) b≠none:=λb hb z=>by
  cases q:H1 b with
  | none=>exact hb q
  | some o=>rw[(up b o q).2] at z;cases z
 refine⟨by rw[List.length_cons,r1.length,hl],x,dx,C,vs,G1,ds,rfl,aG,hC,gx,λb o e=>(up b o (s1.gh _ _ e)).2,r1,(aj w).mono (λfds w fs G' H' a1 a2 a3 a4 a5 a6=>⟨rfl,?_⟩) λex k a' G' H' a1 a2 a3 a4 a5=>k a' G' H' (s1.trans ⟨a1,λb o e=>a2 b o (up b o e).2 (up b o e).1,a3,λb hb g=>a4 b (nn b hb) g⟩) a5⟩
 have gx':G' x=none:=a4 x (by rw[aG];exact λz=>nomatch z) gx
 refine w _ (upd G' x (.ins C dx fs)) H' (s1.trans ⟨a1.trans (aY.up gx'),λb o e=>a2 b o (up b o e).2 (up b o e).1,λb o e=>?_,λb hb g=>?_⟩) (.obj aG hC (a6.mono (aY.up gx')))
 .by_cases z:b=x
  .subst z;rw[aG] at e;cases e;exact a5
  .rw[aF z] at e;exact a3 _ _ e
 .have z:b≠x:=λz=>hb (by rw[z];exact hx)
  rw[aF z];exact a4 b (nn b hb) g
theorem dmake{c n:Nat}{C:Addr}{F:List D->Out (List (Str×D))}(hC:Γ c=some C)(h:PE X e (tMake C (spI X.K Γ c n F) [] E (taD X.K Γ E fr))):DE X Γ E e (oMk c n F fr):=PE.imp h λσ H Q qq=>by
 obtain⟨G0,H0,G,δ,S,w⟩:=qq;refine⟨G0,H0,G,δ,S,(aj w).mono (λds w vs G1 H1 s1 r1=>?_) λ_ k=>k⟩
 split at w
 .rename_i hl
  intro x dx hx hdx ne
  rw[List.append_nil]
  exact Oq hC s1 r1 hl w x dx hx hdx ne
 .exact False.elim w
theorem dmake0{c n:Nat}{C:Addr}{F:List D->Out (List (Str×D))}(hC:Γ c=some C)(h:PE X e (tMake C (spI X.K Γ c n F) [] E qJ)):DE X Γ E e (oMk c n F aK):=PE.imp h λσ H Q qq=>by
 obtain⟨G0,H0,G,δ,S,w⟩:=qq;have w:wpO (if 0=n then (F []).bind λfds=>.ok (.obj c fds) else .stuck) (okD X.K Γ G H Q) (exD X.K Γ E G H):=w
 split at w
 .rename_i hl
  intro x dx hx hdx ne
  rw[List.append_nil]
  exact Oq (G:=G) (H:=H) hC (.refl S.st.gh) .nil hl w x dx hx hdx ne
 .exact False.elim w
structure uQ(K:Frag)(C:Addr):Prop where
 cls:Cls K C
 ha:findIn K (.ref C) "__class__"=some (some (.builtin "object.__class__"))
 hn:PySem.W.specialIn K (.builtin "object.__class__") "__get__"=some (some (.builtin "getset_descriptor.__get__"))
 htk:PySem.W.takesIn K (.builtin "object.__class__")=some true
 hm:PySem.W.mroIn K C (.type "object")=some true
 ty:PySem.W.typeIn K (.ref C)=some (.type "type")
 cd:∃cd,PySem.W.clsIn K C=some cd
def Ae(K:Frag)(Γ:Nat->Option Addr)(cv:V)(isi:D->Option Bool):Prop:=∀H v d b,Rep K Γ H v d->isi d=some b->∃t,TyX K H v t/\PySem.W.kitOne K t (clsV cv)=some b
noncomputable def mz(isi:D->Option Bool)(fo:DSt->Out D):DSt->Out D:=λδ=>(fo δ).bind λd=>(Out.opt (isi d)).bind λb=>.ok (.bl b)
theorem jG{cv:V}{isi:D->Option Bool}{p:Pos}(hc:(cv=.ref (match cv with | .ref C=>C | _=>0)∨cv=.ty (match cv with | .ty n=>n | _=>"")))(hi:Ae X.K Γ cv isi)(hg:Gl X "isinstance")(hm:X.mg "isinstance"=none)(ho:DB X Γ E o fo)(hcv:PE X c (tC cv))
  (hs:starEach [o,c] X.env=(false,eval o X.env)::starEach [c] X.env:=by rfl) (hs2:starEach [c] X.env=[(false,eval c X.env)]:=by rfl):DE X Γ E (.Call (.Name "isinstance" p) [o,c] [] pos) (mz isi fo) :=
 PE.imp (lU call_isi hg hm PyProof.Rows.boot_isinstance (bD ho (bD hcv dw (by rw[hs2];rfl)) hs) (by decide) (by decide) hs (by rw[hs2];rfl)) λσ H Q qq=>by
  obtain⟨G0,H0,G,δ,S,w⟩:=qq;refine⟨G0,H0,G,δ,S,(aj w).mono (λd w v G1 H1 s1 r1=>?_) λ_ k=>k⟩
  obtain⟨b,e,k⟩:=bB (aj w)
  obtain⟨t,ty,kt⟩:=hi H1 v d b r1 e
  exact⟨v,cv,t,b,rfl,hc,ty,kt,k _ G1 H1 s1 (.bl b)⟩
end
end DL
namespace DL
open PySem PySem.Spec PyProof.Rows MX L2
abbrev kc(d:D):DSt->Out D:=λ_=>.ok d
abbrev uO(g:D->Option D):List D->Option D:=λds=>match ds with
 | [x]=>g x
 | _=>none
abbrev frzd(i:Nat)(g:DSt->Out Fl):DSt->Out Fl:=λδ=>g (frz i δ)
abbrev Nm(fuel:DSt->Nat)(t:DSt->Out Bool)(b:DSt->Out Fl):DSt->Out Fl:=λδ=>whD t b (fuel δ) δ
structure Def(P:Program)(w:World)(K:Frag)(mg:Str->Option Value)(base:Heap)(x:Str)(k:Nat)(ps:List Str)(sp:Sp):Prop where
 ex:∃f fd,cJ P w K mg base CX0 k f fd ps sp/\Binds K fd ps []/\mg x=some (.ref f)/\keepIn K (.ref f)=true
structure Ini(P:Program)(w:World)(K:Frag)(mg:Str->Option Value)(base:Heap)(C:Addr)(k:Nat)(ps:List Str)(sp:Sp):Prop where
 ex:∃f fd,Mk K C f/\cJ P w K mg base CX0 k f fd ps sp/\Binds K fd ps []
def nJ{α:Type}(P:Program)(w:World)(K:Frag)(mg:Str->Option Value)(base:Heap)(Γ:Nat->Option Addr)(m:Str)(sp:(List D->Out α)->Sp)(k:Nat):List (Nat×(List D->Out α))->Prop
 | []=>True
 | (c,F)::r=>(∃C f fd ps,Γ c=some C/\Cls K C/\Meth K C m f/\cJ P w K mg base CX0 k f fd ps (sp F)/\Binds K fd ps [])/\nJ P w K mg base Γ m sp k r
theorem nJ.ok{α:Type}{X:Cx}{Γ:Nat->Option Addr}{m:Str}{sp:(List D->Out α)->Sp}{k:Nat}(hr:dz k X.A):∀{M:List (Nat×(List D->Out α))},nJ X.prog X.w X.K X.mg X.base Γ m sp k M->Ai X Γ CX0 m sp M
 | [],_=>trivial
 | (c,F)::r,⟨⟨C,f,fd,ps,h1,h2,h3,h4,h5⟩,t⟩=>⟨⟨C,f,fd,ps,k,h1,h2,h3,h4,hr,h5⟩,nJ.ok hr t⟩
abbrev dOf(F:List D->Out (List D)):List D->Out D:=λds=>(F ds).bind λxs=>.ok (.lst xs)
abbrev dOff(F:List D->Out (List (List D))):List D->Out D:=λds=>(F ds).bind λxs=>.ok (.lst (xs.map .lst))
abbrev K4(M:List (Nat×(List D->Out (List (List D))))):List (Nat×(List D->Out D)):=M.map λp=>(p.1,dOff p.2)
theorem nJ.dFF{P:Program}{w:World}{K:Frag}{mg:Str->Option Value}{base:Heap}{Γ:Nat->Option Addr}{m:Str}{n k:Nat}:∀{M:List (Nat×(List D->Out (List (List D))))},nJ P w K mg base Γ m (Cq K Γ n) k M->nJ P w K mg base Γ m (spD K Γ n) k (K4 M)
 | [],_=>trivial
 | (c,F)::r,⟨⟨C,f,fd,ps,h1,h2,h3,h4,h5⟩,t⟩=>⟨⟨C,f,fd,ps,h1,h2,h3,okFF_D h4,h5⟩,nJ.dFF t⟩
def Fb(K:Frag)(Γ:Nat->Option Addr)(cv:Value):List (Nat×Bool)->Prop
 | []=>True
 | (c,b)::r=>(∃C',Γ c=some C'/\uQ K C'/\PySem.W.kitOne K (.ref C') cv=some b)/\Fb K Γ cv r
theorem Fb.get{K:Frag}{Γ:Nat->Option Addr}{cv:Value}:∀{tab:List (Nat×Bool)}{c:Nat}{b:Bool},Fb K Γ cv tab->tab.lookup c=some b->∃C',Γ c=some C'/\uQ K C'/\PySem.W.kitOne K (.ref C') cv=some b
 | [],_,_,_,e=>by cases e
 | (c',b')::r,c,b,h,e=>by
  by_cases q:c=c'
  .subst q
   simp only[List.lookup_cons,beq_self_eq_true] at e
   cases e
   exact h.1
  .have q':(c==c')=false:=beq_eq_false_iff_ne.mpr q
   simp only[List.lookup_cons,q'] at e
   exact h.2.get e
noncomputable def my(n:String)(tab:List (Nat×Bool)):D->Option Bool
 | .obj c _=>tab.lookup c
 | .non=>some false
 | .bl _=>some (n=="bool" || n=="int")
 | .int _=>some (n=="int")
 | .str _=>some (n=="str")
 | .lst _=>some (n=="list")
 | .tup _=>some (n=="tuple")
 | .rot _=>some (n=="tuple")
 | .dK _=>some (n=="dict")
 | .dT _=>some (n=="dict")
 | _=>none
noncomputable def ttB(a b:String):Option Bool:=if (Value.type a==Value.type b)=true then some true else if PySem.W.kitMeta b=true then (PySem.fastBuiltinMro a).map (·.contains (.type b)) else none
noncomputable def CK(n:String):Bool:=ttB "NoneType" n==some false && ttB "bool" n==some (n=="bool" || n=="int") && ttB "int" n==some (n=="int") && ttB "str" n==some (n=="str") && ttB "list" n==some (n=="list") && ttB "tuple" n==some (n=="tuple") && ttB "dict" n==some (n=="dict")
theorem wz{K:Frag}{Γ:Nat->Option Addr}{n:String}{tab:List (Nat×Bool)}(a:CK n=true)(h:Fb K Γ (.type n) tab):Ae K Γ (.ty n) (my n tab):=by
 unfold CK at a
 simp only[Bool.and_eq_true,beq_iff_eq] at a
 obtain⟨⟨⟨⟨⟨⟨a0,a1⟩,a2⟩,a3⟩,a4⟩,a5⟩,a6⟩:=a
 intro H v d b r e
 cases r <;> simp only[my] at e
 case non=>cases e;exact⟨_,.of .non,a0⟩
 case bl=>cases e;exact⟨_,.of (.bl _),a1⟩
 case int=>cases e;exact⟨_,.of (.int _),a2⟩
 case str=>cases e;exact⟨_,.of (.str _),a3⟩
 case lst h1 _=>cases e;exact⟨_,.of (.lst h1),a4⟩
 case tup h1 _=>cases e;exact⟨_,.of (.tup h1),a5⟩
 case rot h1 _=>cases e;exact⟨_,.kt h1,a5⟩
 case dK h1 _=>cases e;exact⟨_,.of (.dK h1),a6⟩
 case dT h1 _=>cases e;exact⟨_,.of (.dT h1),a6⟩
 case obj h1 g _ =>
  obtain⟨C',g',i,k⟩:=h.get e
  rw[g] at g'
  cases g'
  exact⟨_,.of (.ins h1 i.cls i.ha i.hn i.htk i.hm),k⟩
 all_goals cases e
theorem tt_bool:CK "bool"=true:=by decide +kernel
theorem tt_int:CK "int"=true:=by decide +kernel
theorem tt_str:CK "str"=true:=by decide +kernel
theorem tt_list:CK "list"=true:=by decide +kernel
theorem tt_tuple:CK "tuple"=true:=by decide +kernel
end DL
namespace DL
open PySem PySem.Spec PyProof.Rows MX L2
theorem Ff(i j:Int):gq (.int i) (.int j)=some (.int (i+j)):=rfl
theorem Iv(i j:Int):nZ (.int i) (.int j)=some (.int (i - j)):=rfl
theorem zX{i j:Int}(h:qU i j):qY (.int i) (.int j)=some (.int (i*j)):=by show (if qU i j then _ else _)=_;rw[if_pos h]
theorem wk{i j:Int}(h:CDiv i j):eQ (.int i) (.int j)=some (.int (i / j)):=by show (if CDiv i j then _ else _)=_;rw[if_pos h]
theorem zW{i j:Int}(h:0<j):du (.int i) (.int j)=some (.int (i % j)):=by show (if 0<j then _ else _)=_;rw[if_pos h]
theorem Gd(p:Int->Int->Bool)(i j:Int):cmpI p (.int i) (.int j)=some (p i j):=rfl
theorem NP(b:Bool):truD (.bl b)=some b:=rfl
theorem asB_b(b:Bool):asB (.bl b)=some b:=rfl
theorem Mt(xs:List D):dj (.lst xs)=some (.int xs.length):=rfl
theorem Mu(xs:List D):dj (.rol xs)=some (.int xs.length):=rfl
theorem Mv(xs:List D):dj (.tup xs)=some (.int xs.length):=rfl
theorem J0(xs:List D)(i:Int):ixD (.lst xs) (.int i)=atI xs i:=rfl
theorem ixD_r(xs:List D)(i:Int):ixD (.rol xs) (.int i)=atI xs i:=rfl
theorem Bq(xs:List D)(i:Int):ixD (.tup xs) (.int i)=atI xs i:=rfl
theorem Mj(i:Int):intD (.int i)=some (.int i):=rfl
theorem GC(b:Bool):intD (.bl b)=some (.int (if b then 1 else 0)):=rfl
theorem MF(i j:Int):maxD [.int i,.int j]=some (.int (if j>i then j else i)):=rfl
theorem MJ(i j:Int):minD [.int i,.int j]=some (.int (if j<i then j else i)):=rfl
theorem modb(a b:Int){m:Int}(h:0<m)(h2:m<=2 ^ 32):qU (a % m) b:=by
 have h3:=Int.emod_nonneg a (show m≠0 by omega)
 have h4:=Int.emod_lt_of_pos a h
 exact .inl ⟨by omega,by omega⟩
theorem uA{a b:Int}(h1:-1000000000<=a)(h2:a<=1000000000):qU a b:=.inl ⟨by omega,by omega⟩
def nxP(o:Out Fl)(I:DSt->Prop):Prop:=match o with
 | .ok (.nx δ)=>I δ
 | _=>False
theorem M3(δ:DSt)(I:DSt->Prop):nxP (.ok (.nx δ)) I=I δ:=rfl
theorem Ou{o:Out Fl}{I:DSt->Prop}(h:nxP o I):∃δ,o=.ok (.nx δ)/\I δ:=by
 unfold nxP at h
 split at h
 .exact⟨_,rfl,h⟩
 .exact h.elim
theorem Hd{a b:String}:Str.ofString a=Str.ofString b↔a=b:=by
 constructor
 .intro h
  rw[Str.ofString_eq_toList,Str.ofString_eq_toList] at h
  have h1:a.toList.map Char.toNat=b.toList.map Char.toNat:=by
   have:=congrArg (λs:Str=>s.cps.toList) h
   simpa using this
  have inj:∀{x y:List Char},x.map Char.toNat=y.map Char.toNat->x=y:=by
   intro x
   induction x with
   | nil=>intro y h;cases y with | nil=>rfl | cons _ _=>cases h
   | cons c x ih =>
    intro y h
    cases y with
    | nil=>cases h
    | cons d y =>
     simp only[List.map_cons,List.cons.injEq] at h
     rw[ih h.2]
     congr 1
     exact Char.ext (UInt32.toNat_inj.mp h.1)
  exact String.toList_inj.mp (inj h1)
 .rintro rfl;rfl
theorem Hc(a b:String):(Str.ofString a==Str.ofString b)=(a==b):=by
 by_cases h:a=b
 .subst h;simp
 .rw[beq_eq_false_iff_ne.mpr h,beq_eq_false_iff_ne.mpr (λq=>h (Hd.mp q))]
mutual
theorem eqv_refl:∀d:PyData,d.canLay0=true->PyData.eqv d d=true
 | .none,_=>by simp[PyData.eqv]
 | .bool b,_=>by simp[PyData.eqv]
 | .int i,_=>by simp[PyData.eqv]
 | .str x,_=>by simp[PyData.eqv]
 | .list xs,h=>by
  simp only[PyData.eqv]
  exact eqvAll_refl xs (by simpa[PyData.canLay0] using h)
 | .tuple xs,h=>by
  simp only[PyData.eqv]
  exact eqvAll_refl xs (by simpa[PyData.canLay0] using h)
 | .dict _,h=>by simp[PyData.canLay0] at h
theorem eqvAll_refl:∀ds:List PyData,PyData.canLayAll0 ds=true->PyData.eqvAll ds ds=true
 | [],_=>by simp[PyData.eqvAll]
 | d::ds,h=>by
  simp only[PyData.canLayAll0,Bool.and_eq_true] at h
  simp only[PyData.eqvAll,eqv_refl d h.1,eqvAll_refl ds h.2,Bool.and_self]
end
mutual
noncomputable def dU:Nat->D->Bool
 | _,.non=>true
 | _,.bl _=>true
 | _,.int _=>true
 | _,.str x=>PyData.strOk x
 | n+1,.lst xs=>jO n xs
 | n+1,.tup xs=>jO n xs
 | n+1,.rol xs=>jO n xs
 | n+1,.rot xs=>jO n xs
 | _,_=>false
noncomputable def jO:Nat->List D->Bool
 | _,[]=>true
 | n,d::ds=>dU n d && jO n ds
end
mutual
theorem wB:∀(d:D)(n:Nat),dU n d=true->∃p,toPy d=some p/\p.canLay0=true/\p.depth<=n
 | .non,n,_=>⟨_,rfl,by simp[PyData.canLay0],by simp[PyData.depth]⟩
 | .bl b,n,_=>⟨_,rfl,by simp[PyData.canLay0],by simp[PyData.depth]⟩
 | .int b,n,_=>⟨_,rfl,by simp[PyData.canLay0],by simp[PyData.depth]⟩
 | .str x,n,h=>⟨_,rfl,by simpa[PyData.canLay0,dU] using h,by simp[PyData.depth]⟩
 | .lst xs,n+1,h=>by
  obtain⟨q,e,c,k⟩:=sO xs n (by simpa[dU] using h)
  exact⟨.list q,by simp[toPy,e],by simpa[PyData.canLay0] using c,by simp[PyData.depth];omega⟩
 | .rol xs,n+1,h=>by
  obtain⟨q,e,c,k⟩:=sO xs n (by simpa[dU] using h)
  exact⟨.list q,by simp[toPy,e],by simpa[PyData.canLay0] using c,by simp[PyData.depth];omega⟩
 | .tup xs,n+1,h=>by
  obtain⟨q,e,c,k⟩:=sO xs n (by simpa[dU] using h)
  exact⟨.tuple q,by simp[toPy,e],by simpa[PyData.canLay0] using c,by simp[PyData.depth];omega⟩
 | .rot xs,n+1,h=>by
  obtain⟨q,e,c,k⟩:=sO xs n (by simpa[dU] using h)
  exact⟨.tuple q,by simp[toPy,e],by simpa[PyData.canLay0] using c,by simp[PyData.depth];omega⟩
 | .lst xs,0,h=>by simp[dU] at h
 | .rol xs,0,h=>by simp[dU] at h
 | .tup xs,0,h=>by simp[dU] at h
 | .rot xs,0,h=>by simp[dU] at h
 | .ty _,n,h=>by simp[dU] at h
 | .cls _,n,h=>by simp[dU] at h
 | .dK _,n,h=>by simp[dU] at h
 | .dT _,n,h=>by simp[dU] at h
 | .obj _ _,n,h=>by simp[dU] at h
 | .exc _ _,n,h=>by simp[dU] at h
theorem sO:∀(ds:List D)(n:Nat),jO n ds=true->∃p,toPyL ds=some p/\PyData.canLayAll0 p=true/\PyData.depthAll p<=n
 | [],n,_=>⟨_,rfl,by simp[PyData.canLayAll0],by simp[PyData.depthAll]⟩
 | d::ds,n,h=>by
  simp only[jO,Bool.and_eq_true] at h
  obtain⟨p,e1,c1,k1⟩:=wB d n h.1
  obtain⟨q,e2,c2,k2⟩:=sO ds n h.2
  exact⟨p::q,by simp[toPyL,e1,e2],by simp[PyData.canLayAll0,c1,c2],by simp[PyData.depthAll];omega⟩
end
noncomputable def eqB(x y:D):Bool:=match toPy x,toPy y with
 | some p,some q=>PyData.eqv p q
 | _,_=>false
theorem zO{x y:D}(hx:dU 50 x=true)(hy:dU 50 y=true):eqD x y=some (eqB x y):=by
 obtain⟨p,e1,c1,k1⟩:=wB x 50 hx
 obtain⟨q,e2,c2,k2⟩:=wB y 50 hy
 unfold eqD eqB layP
 rw[e1,e2]
 simp[c1,c2,k1,k2]
theorem neD_lay{x y:D}(hx:dU 50 x=true)(hy:dU 50 y=true):neD x y=some (!eqB x y):=by
 unfold neD
 rw[zO hx hy]
 rfl
theorem eqB_refl{n:Nat}{x:D}(hx:dU n x=true):eqB x x=true:=by
 obtain⟨p,e1,c1,k1⟩:=wB x n hx
 unfold eqB
 rw[e1]
 exact eqv_refl p c1
theorem oA{x:D}(hx:dU 50 x=true):eqD x x=some true:=by rw[zO hx hx,eqB_refl hx]
theorem Oc(i j:Int):eqB (.int i) (.int j)=(i==j):=by simp[eqB,toPy,PyData.eqv]
theorem Gm(i j:Int):eqD (.int i) (.int j)=some (i==j):=by rw[zO (by simp[dU]) (by simp[dU]),Oc]
theorem MN(i j:Int):neD (.int i) (.int j)=some (!(i==j)):=by rw[neD_lay (by simp[dU]) (by simp[dU]),Oc]
theorem atI_0{α:Type}(x0:α)(r:List α):atI (x0::r) 0=some x0:=pK (j:=0) rfl
theorem atI_1{α:Type}(x0 x1:α)(r:List α):atI (x0::x1::r) 1=some x1:=pK (j:=1) rfl
theorem atI_2{α:Type}(x0 x1 x2:α)(r:List α):atI (x0::x1::x2::r) 2=some x2:=pK (j:=2) rfl
end DL
namespace DL
open PySem PySem.Spec PyProof.Rows MX L2
section
variable{X:Cx}{Γ:Nat->Option Addr}{E:XK}{e a b c o:Expr}{pos apos p:Pos}{es:List Expr}{fa fb fo:DSt->Out D}{fr:DSt->Out (List D)}
theorem vP:∀{bs:List Bool}{us:List Value},Vals (bs.map V.bl) us->us=bs.map Value.bool
 | [],_,r=>by cases r;rfl
 | b::bs,_,r=>by
  cases r with
  | cons r1 r2=>cases r1;rw[vP r2];rfl
theorem all_range(bs:List Bool):(List.range bs.length).all (λi=>bs.getD i true)=bs.all id:=by
 induction bs with
 | nil=>rfl
 | cons b bs ih =>
  rw[List.length_cons,List.range_succ_eq_map,List.all_cons,List.all_map,List.all_cons]
  have:((λi=>(b::bs).getD i true)∘Nat.succ)=λi=>bs.getD i true:=by funext i;simp
  rw[this,ih];simp
theorem Ao(hc:X.calm=true):gH X (.builtin "all") (λxs H Q=>∃(q:Addr)(bs:List Bool),xs=[.ref q]/\SqL X.K H q (bs.map V.bl)/\Q (.bl (bs.all id)) H):=by
 intro pins s σ H xs us Q I r h
 obtain⟨q,bs,rfl,hq,k⟩:=h
 obtain⟨u,rfl,rx⟩:=vals1 r
 cases rx
 obtain⟨its,r',pl,hz⟩:=I.list hq
 have ei:=vP r'
 subst ei
 refine call_all_walk (PySem.wpAny_pyIter_list pl.isList ?_)
 have hh:X.A.in1.handled=none:=I.ok.hd hc
 have hlt:q<s.heap.objs.size:=by obtain⟨ob,hob,_⟩:=pl.isList;exact Heap.lt_size hob
 refine⟨_,_,_,_,_,_,λi=>bs.getD i true,rfl,Walks.list hh s.heap.objs.size q (Nat.ne_of_lt hlt) _,⟨⟨_,Heap.get?_push_size _ rfl,rfl,rfl⟩,pl.isList.push _⟩,λi v s' Q' E' hv hQ=>?_,λh' tk kp=>?_⟩
 .have hv:(bs.map Value.bool)[i]?=some v:=by simpa using hv
  rw[List.getElem?_map] at hv
  obtain⟨b,hb,rfl⟩:=Option.map_eq_some_iff.mp hv
  have hQ:Q' (bs.getD i true) s':=hQ
  rw[List.getD_eq_getElem?_getD,hb] at hQ
  exact wpAny_truthy_bool hQ
 .have es:(bs.map Value.bool).toArray.size=bs.length:=by simp
  rw[es,all_range]
  exact⟨.bl _,H,I.kept (t':=tk) λb ob hb=>kp b ob (by simp;exact Nat.ne_of_lt (Heap.lt_size hb)) (Heap.get?_push_of_some _ hb),rfl,k⟩
noncomputable def pL:List D->Option (List Bool)
 | []=>some []
 | d::r=>match asB d,pL r with
  | some b,some bs=>some (b::bs)
  | _,_=>none
theorem au.bools{K:Frag}{H:Hp}:∀{vs:List V}{ds:List D}{bs:List Bool},au K Γ H vs ds->pL ds=some bs->vs=bs.map V.bl
 | _,_,_,.nil,e=>by simp only[pL] at e;cases e;rfl
 | _,_,_,.cons (d:=d) (ds:=ds) h r,e=>by
  simp only[pL] at e
  cases h1:asB d with
  | none=>rw[h1] at e;cases e
  | some b =>
   cases h2:pL ds with
   | none=>rw[h1,h2] at e;cases e
   | some bs =>
    rw[h1,h2] at e
    cases e
    rw[h.asB h1,r.bools h2];rfl
noncomputable def allD(d:D):Option D:=(gF d).bind λds=>(pL ds).map λbs=>.bl (bs.all id)
theorem Rep.gF{K:Frag}{H:Hp}{v:V}{d:D}{ds:List D}(r:Rep K Γ H v d)(e:gF d=some ds):∃a vs,v=.ref a/\SqL K H a vs/\au K Γ H vs ds:=by
 cases r <;> simp only[DL.gF] at e <;> cases e
 .exact⟨_,_,rfl,SqL.of ‹_›,‹_›⟩
 .exact⟨_,_,rfl,‹_›,‹_›⟩
theorem Ls(hc:X.calm=true)(hg:Gl X "all")(hm:X.mg "all"=none)(ha:DB X Γ E a fa)(hs:starEach [a] X.env=[(false,eval a X.env)]:=by rfl):DE X Γ E (.Call (.Name "all" p) [a] [] pos) (o1 allD fa) :=
 dC1 (λG H v dx d Q s r e k=>by
  unfold allD at e
  obtain⟨ds,e1,e2⟩:=Option.bind_eq_some_iff.mp e
  obtain⟨bs,e3,rfl⟩:=Option.map_eq_some_iff.mp e2
  obtain⟨q,vs,rfl,sq,ra⟩:=r.gF e1
  exact⟨q,bs,rfl,(ra.bools e3)▸sq,k _ G H (.refl s) (.bl _)⟩) (lU (Ao hc) hg hm (by decide +kernel) (bD ha dw (by rw[hs];rfl)) (by decide) (by decide) (by rw[hs];rfl) (by rfl))
def Its(x:Str):It:=⟨λi _=>i<x.cps.size,λi H v H'=>H'=H/\∃c,x.cps[i]?=some c/\v=.str ⟨#[c]⟩,λi _=>x.cps.size<=i⟩
theorem CN{P:Program}{w:World}{K:Frag}{tg:Expr}(x:Str)(tk:Tok)(it:Addr):Turn P w K tg (Its x) [it] it (λi h=>h.IsStrIter it "str_ascii_iterator" x tk i) where
 mem:=by simp
 obj:=λi h st b hb=>by
  have z:b=it:=by simpa using hb
  subst z
  obtain⟨ob,e1,e2,e3⟩:=st
  exact⟨ob,e1,λv z=>by rw[e3] at z;cases z⟩
 keep:=λi h h' st kp=>by
  obtain⟨ob,e1,e2⟩:=st
  exact⟨ob,kp it (by simp) ob e1,e2⟩
 item:=by
  intro X hP hw hK hc i pins s σ H E I hf st hg
  subst hP hw hK
  obtain⟨f0,f1,f2,f3,f4,f5⟩:=hf it (by simp)
  have lt:i<x.cps.size:=hg
  have hx:x.cps[i]?=some x.cps[i]:=Array.getElem?_eq_getElem lt
  refine wpAny_pyNext_ascii_item st hx λh' st' sb=>?_
  have I1:Inv X pins σ H { s with heap:=h',toks:=s.toks+1 }:=I.turned (t':=s.toks+1) (λb ob hb q=>(sb.2 b hb).trans q) f0 f1 f3 f4 f5
  obtain⟨ob,e1,e2,e3⟩:=id st'
  exact⟨_,rfl,JW (s:={ s with heap:=h',toks:=s.toks+1 }) e1 e2 e3 (by decide) ⟨.str ⟨#[x.cps[i]]⟩,H,I1,⟨_,rfl⟩,⟨rfl,_,hx,rfl⟩,st',λb hb=>(hf b hb).1⟩⟩
 done:=by
  intro X hP hw hK hc i pins s σ H E I hf st hg
  subst hP hw hK
  obtain⟨f0,f1,f2,f3,f4,f5⟩:=hf it (by simp)
  have hx:x.cps[i]?=none:=by
   have:x.cps.size<=i:=hg
   simp[this]
  exact wpAny_pyNext_ascii_end (I.ok.hd hc) st hx λh' eb=>⟨rfl,I.turned (t':=s.toks) (λb ob hb q=>eb b ob hb q) f0 f1 f3 f4 f5⟩
 self:=λ_ _ _ _ _ st h=>wpAny_pyIter_striter_ascii st h
theorem DQ{P:Program}{w:World}{K:Frag}{tg:Expr}(x:Str)(tk:Tok)(it:Addr):Turn P w K tg (Its x) [it] it (λi h=>h.IsStrIter it "str_iterator" x tk i) where
 mem:=by simp
 obj:=λi h st b hb=>by
  have z:b=it:=by simpa using hb
  subst z
  obtain⟨ob,e1,e2,e3⟩:=st
  exact⟨ob,e1,λv z=>by rw[e3] at z;cases z⟩
 keep:=λi h h' st kp=>by
  obtain⟨ob,e1,e2⟩:=st
  exact⟨ob,kp it (by simp) ob e1,e2⟩
 item:=by
  intro X hP hw hK hc i pins s σ H E I hf st hg
  subst hP hw hK
  obtain⟨f0,f1,f2,f3,f4,f5⟩:=hf it (by simp)
  have lt:i<x.cps.size:=hg
  have hx:x.cps[i]?=some x.cps[i]:=Array.getElem?_eq_getElem lt
  refine wpAny_pyNext_wide_item st hx λh' st' sb=>?_
  have I1:Inv X pins σ H { s with heap:=h',toks:=s.toks+1 }:=I.turned (t':=s.toks+1) (λb ob hb q=>(sb.2 b hb).trans q) f0 f1 f3 f4 f5
  obtain⟨ob,e1,e2,e3⟩:=id st'
  exact⟨_,rfl,JW (s:={ s with heap:=h',toks:=s.toks+1 }) e1 e2 e3 (by decide) ⟨.str ⟨#[x.cps[i]]⟩,H,I1,⟨_,rfl⟩,⟨rfl,_,hx,rfl⟩,st',λb hb=>(hf b hb).1⟩⟩
 done:=by
  intro X hP hw hK hc i pins s σ H E I hf st hg
  subst hP hw hK
  obtain⟨f0,f1,f2,f3,f4,f5⟩:=hf it (by simp)
  have hx:x.cps[i]?=none:=by
   have:x.cps.size<=i:=hg
   simp[this]
  exact wpAny_pyNext_wide_end (I.ok.hd hc) st hx λh' eb=>⟨rfl,I.turned (t':=s.toks) (λb ob hb q=>eb b ob hb q) f0 f1 f3 f4 f5⟩
 self:=λ_ _ _ _ _ st h=>wpAny_pyIter_striter_wide st h
def iStr(tl:TE):TI:=λσ H R=>tl σ H λv H1=>∃x,v=.str x/\R (Its x) H1
theorem pi_str{tg l:Expr}{tl:TE}(hl:PE X l tl):PI X tg l (iStr tl):=by
 intro pins s σ H R I h
 refine thn (hl pins s σ H _ I h) λv s1 qq=>?_;obtain⟨x,H1,I1,r1,q1⟩:=qq
 obtain⟨z,ez,q⟩:=q1
 subst ez
 obtain⟨tk,rfl⟩:=r1
 have fp:∀b∈[s1.heap.objs.size],yZ X pins H1 b:=λb hb=>by
  have eb:b=s1.heap.objs.size:=by simpa using hb
  subst eb
  exact I1.fpOk (Nat.le_refl _) (I1.hok.fresh (Nat.le_refl _))
 cases ha:z.cps.all (·<128) with
 | true=>exact wpAny_pyIter_ascii ha ⟨s1.heap.objs.size,[s1.heap.objs.size],_,_,H1,rfl,I1.kept (t':=s1.toks) λb ob q=>Heap.get?_push_of_some _ q,CN z tk _,⟨_,Heap.get?_push_size _ rfl,rfl,rfl⟩,fp,q⟩
 | false=>exact wpAny_pyIter_wide ha ⟨s1.heap.objs.size,[s1.heap.objs.size],_,_,H1,rfl,I1.kept (t':=s1.toks) λb ob q=>Heap.get?_push_of_some _ q,DQ z tk _,⟨_,Heap.get?_push_size _ rfl,rfl,rfl⟩,fp,q⟩
noncomputable def KD(x:Str):List D:=x.cps.toList.map λc=>.str ⟨#[c]⟩
theorem yl_str{K:Frag}{G:Hp}{x:Str}:Yl K Γ G (Its x) (KD x):=by
 have hl:(KD x).length=x.cps.size:=by simp[KD]
 refine⟨λi H s lt=>by rw[hl] at lt;exact lt,λi G' H v H' d s s' y ed=>?_,λi H s le=>by rw[hl] at le;exact le⟩
 obtain⟨rfl,ch,hx,rfl⟩:=y
 unfold KD at ed
 rw[List.getElem?_map] at ed
 obtain⟨ch',e1,rfl⟩:=Option.map_eq_some_iff.mp ed
 have e2:x.cps.toList[i]?=some ch:=by simpa using hx
 rw[e1] at e2
 cases e2
 exact⟨G',.refl s',.str _⟩
noncomputable def strO(f:DSt->Out D):DSt->Out (List D):=λδ=>(f δ).bind λd=>match d with
 | .str x=>.ok (KD x)
 | _=>.stuck
theorem di_str{tg:Expr}(ha:DE X Γ E a fa):DI X Γ E tg a (strO fa):=PI.imp (pi_str ha) λσ H R qq=>by
 obtain⟨G0,H0,G,δ,S,w⟩:=qq;refine⟨G0,H0,G,δ,S,(aj w).mono (λd w v G1 H1 s1 r1=>?_) λ_ k=>k⟩
 split at w
 .cases r1;exact⟨_,rfl,w _ G1 H1 s1 yl_str⟩
 .exact False.elim w
def rSlS:V->Option Int->Option Int->Hp->VK->Prop:=λx lo hi H Q=>∃z,x=.str z/\z.length<=sizeLine/\Q (.str (Txt.slice z lo hi)) H
theorem sl_str:SlR X rSlS:=by
 intro pins s σ H x v vl vu lo hi sl Q I rx hs pl pu h
 obtain⟨z,rfl,hz,q⟩:=h
 obtain⟨t,rfl⟩:=rx
 obtain⟨ob,h1,h2,h3⟩:=hs
 refine⟨"str",_,PySem.F.slot_str_getitem.lookup,typeIs_str _ _ _,?_⟩
 have fin:∀t' k,EP X pins σ Q (.str (Txt.slice z lo hi) t') { s with toks:=k }:=λt' k=>⟨.str _,H,I.tok k,⟨_,rfl⟩,q⟩
 cases pl with
 | none =>
  cases pu with
  | none=>exact wpAny_getItem_str_slice (l:=none) (u:=none) (st:=none) ⟨ob,h1,h2,h3⟩ rfl (post_val_or_str ⟨Nat.le_trans (Txt.slice_le z _ _) hz,λt' k=>fin t' k⟩)
  | int j u=>exact wpAny_getItem_str_slice (l:=none) (u:=some (j,u)) (st:=none) ⟨ob,h1,h2,h3⟩ rfl (post_val_or_str ⟨Nat.le_trans (Txt.slice_le z _ _) hz,λt' k=>fin t' k⟩)
 | int i u' =>
  cases pu with
  | none=>exact wpAny_getItem_str_slice (l:=some (i,u')) (u:=none) (st:=none) ⟨ob,h1,h2,h3⟩ rfl (post_val_or_str ⟨Nat.le_trans (Txt.slice_le z _ _) hz,λt' k=>fin t' k⟩)
  | int j u=>exact wpAny_getItem_str_slice (l:=some (i,u')) (u:=some (j,u)) (st:=none) ⟨ob,h1,h2,h3⟩ rfl (post_val_or_str ⟨Nat.le_trans (Txt.slice_le z _ _) hz,λt' k=>fin t' k⟩)
def toD(K:Frag)(Γ:Nat->Option Addr)(E:XK)(f:DSt->Out (Option Int)):TO:=λσ H Q=>∃G0 H0 G δ,SR K Γ G0 H0 G H σ δ/\wpO (f δ) (λb=>∀G' H',Step G H G' H'->Q b H') (exD K Γ E G H)
abbrev DO(X:Cx)(Γ:Nat->Option Addr)(E:XK)(lo:Option Expr)(f:DSt->Out (Option Int)):Prop:=PO X lo (toD X.K Γ E f)
theorem PO.imp{lo:Option Expr}{t t':TO}(h:PO X lo t)(k:∀σ H Q,t' σ H Q->t σ H Q):PO X lo t':=λpins s σ H Q I q=>h pins s σ H Q I (k _ _ _ q)
noncomputable def soI(f:DSt->Out D):DSt->Out (Option Int):=λδ=>(f δ).bind λd=>match d with
 | .int i=>.ok (some i)
 | _=>.stuck
theorem zK(h:DE X Γ E e fa):DO X Γ E (some e) (soI fa):=PO.imp (po_some h) λσ H Q qq=>by
 obtain⟨G0,H0,G,δ,S,w⟩:=qq;refine⟨G0,H0,G,δ,S,(aj w).mono (λd w v G1 H1 s1 r1=>?_) λ_ k=>k⟩
 split at w
 .cases r1;exact⟨_,rfl,w G1 H1 s1⟩
 .exact False.elim w
noncomputable def cutL(xs:List D)(lo hi:Option Int):List D:=List.take (HT.sIx xs.length xs.length hi - HT.sIx xs.length 0 lo) (List.drop (HT.sIx xs.length 0 lo) xs)
noncomputable def cutD:D->Option Int->Option Int->Option D
 | .str z,lo,hi=>if z.length<=sizeLine then some (.str (Txt.slice z lo hi)) else none
 | .lst xs,lo,hi=>some (.lst (cutL xs lo hi))
 | .rol xs,lo,hi=>some (.lst (cutL xs lo hi))
 | _,_,_=>none
noncomputable def oSl(fa:DSt->Out D)(fl fh:DSt->Out (Option Int)):DSt->Out D:=λδ=>(fa δ).bind λx=>(fl δ).bind λl=>(fh δ).bind λh=>.opt (cutD x l h)
theorem au.cut{K:Frag}{H:Hp}{vs:List V}{ds:List D}(r:au K Γ H vs ds)(lo hi:Option Int):au K Γ H (cutV vs lo hi) (cutL ds lo hi):=by
 unfold cutV cutL
 rw[r.length]
 exact(r.drop _).take _
theorem Jz{lo hi:Option Expr}{p2:Pos}{fl fh:DSt->Out (Option Int)}(he:DE X Γ E e fa)(hl:DO X Γ E lo fl)(hu:DO X Γ E hi fh):DE X Γ E (.Subscript e (.Slice lo hi none p2) pos) (oSl fa fl fh):=PE.imp (pe_slice (sl_str.or sl_list) he hl hu) λσ H Q qq=>by
 obtain⟨G0,H0,G,δ,S,w⟩:=qq;refine⟨G0,H0,G,δ,S,(aj w).mono (λx w v G1 H1 s1 r1=>?_) λ_ k=>k⟩
 refine⟨G0,H0,G1,δ,S.step s1,(aj w).mono (λl w G2 H2 s2=>?_) λ_ k=>k.step s1⟩
 refine⟨G0,H0,G2,δ,(S.step s1).step s2,(aj w).mono (λh w G3 H3 s3=>?_) λ_ k=>k.step (s1.trans s2)⟩
 obtain⟨d,e,k⟩:=bB w
 have r3:=(r1.mono s2.gg).mono s3.gg
 have k3:=k.step ((s1.trans s2).trans s3)
 unfold cutD at e
 split at e
 .split at e
  .cases e;cases r1;exact .inl ⟨_,rfl,‹_›,k3 _ G3 H3 (.refl s3.gh) (.str _)⟩
  .cases e
 .cases e
  cases r3 with
  | lst h r=>exact .inr ⟨_,_,rfl,SqL.of (s3.gh _ _ h),λq hq=>k3 _ _ _ (.new s3.gh hq) (.lst aG ((r.cut _ _).mono (aY.up (aD s3.gh hq))))⟩
 .cases e
  cases r3 with
  | rol h r=>exact .inr ⟨_,_,rfl,s3.gh.seq h,λq hq=>k3 _ _ _ (.new s3.gh hq) (.lst aG ((r.cut _ _).mono (aY.up (aD s3.gh hq))))⟩
 .cases e
theorem O4:∀{ss:List Str}{us:List Value},Vals (ss.map V.str) us->StrsAre us ss
 | [],_,r=>by cases r;exact .nil
 | x::ss,_,r=>by
  cases r with
  | cons r1 r2=>obtain⟨t,rfl⟩:=r1;exact .cons x t (O4 r2)
def rJoin(K:Frag):V->List V->Hp->VK->Prop:=λx vs H Q=>∃(z:Str)(q:Addr)(ss:List Str),x=.str z/\vs=[.ref q]/\SqL K H q (ss.map V.str)/\(ss.map (·.length)).sum+ss.length*z.length<=16777216/\Q (.str (Txt.join z ss)) H
theorem mt_join:MtR X "str.join" (rJoin X.K):=by
 intro pins s σ H x vs v us Q I rx rv h
 obtain⟨z,q,ss,rfl,rfl,hq,hz,k⟩:=h
 obtain⟨t,rfl⟩:=rx
 obtain⟨u,rfl,ru⟩:=rv.one
 cases ru
 obtain⟨its,r',pl,_⟩:=I.list hq
 exact join_list pl.isList (by simpa using O4 r') hz λt' tk=>⟨.str _,H,I.tok tk,⟨_,rfl⟩,k⟩
noncomputable def yP:List D->Option (List Str)
 | []=>some []
 | .str x::r=>(yP r).map (x::·)
 | _=>none
theorem au.strs{K:Frag}{H:Hp}:∀{vs:List V}{ds:List D}{ss:List Str},au K Γ H vs ds->yP ds=some ss->vs=ss.map V.str
 | _,_,_,.nil,e=>by simp only[yP] at e;cases e;rfl
 | _,_,_,.cons (d:=d) (ds:=ds) h r,e=>by
  unfold yP at e
  split at e
  .rename_i z;cases z
  .rename_i z
   cases z
   obtain⟨q,e1,rfl⟩:=Option.map_eq_some_iff.mp e
   cases h
   rw[au.strs r e1];rfl
  .cases e
noncomputable def joinD(z:Str)(d:D):Option D:=(gF d).bind λds=>(yP ds).bind λss=>if (ss.map (·.length)).sum+ss.length*z.length<=16777216 then some (.str (Txt.join z ss)) else none
noncomputable def oJoin(fo fa:DSt->Out D):DSt->Out D:=λδ=>(fo δ).bind λd=>match d with
 | .str z=>(fa δ).bind λy=>.opt (joinD z y)
 | _=>.stuck
theorem de_join{m:Str}{apos cpos:Pos}(ho:DE X Γ E o fo)(ha:DE X Γ E a fa)(hh:∀{to te:TE},PE X o to->PE X a te->PE X (.Call (.Attribute o m apos) [a] [] cpos) (tBM X.K "str" (rJoin X.K) to (jE te qJ))):DE X Γ E (.Call (.Attribute o m apos) [a] [] cpos) (oJoin fo fa):=PE.imp (hh ho ha) λσ H Q qq=>by
 obtain⟨G0,H0,G,δ,S,w⟩:=qq;refine⟨G0,H0,G,δ,S,(aj w).mono (λd w v G1 H1 s1 r1=>?_) λ_ k=>k⟩
 split at w
 .rename_i z
  cases r1
  refine⟨rfl,G0,H0,G1,δ,S.step s1,(aj w).mono (λy w u G2 H2 s2 r2=>?_) λ_ k=>k.step s1⟩
  obtain⟨r,e,k⟩:=bB w
  unfold joinD at e
  obtain⟨ds,e1,e2⟩:=Option.bind_eq_some_iff.mp e
  obtain⟨ss,e3,e4⟩:=Option.bind_eq_some_iff.mp e2
  split at e4
  .cases e4
   obtain⟨q,vs,rfl,sq,ra⟩:=r2.gF e1
   exact⟨z,q,ss,rfl,rfl,(ra.strs e3)▸s2.gh.seq sq,‹_›,k _ G2 H2 (s1.trans s2) (.str _)⟩
  .cases e4
 .exact False.elim w
noncomputable def jK:List Str->List Str->List Str
 | acc,[]=>acc
 | acc,x::r=>jK (if acc.contains x then acc else acc++[x]) r
end
end DL
namespace DL
open PySem PySem.Spec PyProof.Rows MX L2
theorem xV:∀(l acc:List Str)(x:Str),jK acc (l++[x])=if (jK acc l).contains x then jK acc l else jK acc l++[x]
 | [],acc,x=>rfl
 | y::l,acc,x=>by simp only[List.cons_append,jK];exact xV l _ x
theorem Bx:∀(l acc:List Str),(jK acc l).length<=acc.length+l.length
 | [],acc=>Nat.le_refl _
 | y::l,acc=>by
  simp only[jK,List.length_cons]
  have h1:=Bx l (if acc.contains y then acc else acc++[y])
  have h2:(if acc.contains y=true then acc else acc++[y]).length<=acc.length+1:=by split <;> simp
  omega
theorem By:∀(l acc:List Str),(acc++l).Nodup->jK acc l=acc++l
 | [],acc,_=>by simp[jK]
 | y::l,acc,h=>by
  have hy:y∉acc:=λz=>by
   have:=(List.nodup_append.mp h).2.2 y z y List.mem_cons_self
   exact this rfl
  simp only[jK]
  rw[if_neg (by simpa using hy),By l (acc++[y]) (by simpa using h)]
  simp
section
variable{prog:Program}{w:World}{A:Around}{E:Value->Shared->Prop}{R:Result->Shared->Prop}
theorem isS(x:Str)(t:Tok):(PySem.strKind prog w).is x (.str x t)=true:=strKind_is prog w x t
theorem Kz{h h':Heap}{a:Addr}{S:Str->Bool}{n:Nat}(x:h.SetOf (PySem.strKind prog w) a S n)(k:∀o,h.get? a=some o->h'.get? a=some o):h'.SetOf (PySem.strKind prog w) a S n:=by
 obtain⟨o,es,ep,tb,ho,z⟩:=x
 exact⟨o,es,ep,tb,k o ho,z⟩
theorem KC{h:Heap}{a:Addr}{S S':Str->Bool}{n n':Nat}(x:h.SetOf (PySem.strKind prog w) a S n)(e:S=S')(en:n=n'):h.SetOf (PySem.strKind prog w) a S' n':=by subst e en;exact x
theorem set_loop{I l S:Addr}{items:Array Value}{ss:List Str}(hi:items.toList.length=ss.length)(hv:∀(i:Nat) v,items[i]?=some v->∃x t,ss[i]?=some x/\v=.str x t)(W:Walks prog w A.in1 I [I,l] [I] items.size (λi v=>items[i]?=some v) (λi h=>h.IsListIter I l i/\h.IsList l items))
  (nI:S≠I) (nl:S≠l) (few:ss.length+1<scanBound):∀(k i:Nat)(s:Shared),items.size - i=k->i<=items.size->(s.heap.IsListIter I l i/\s.heap.IsList l items) ->
   s.heap.SetOf (PySem.strKind prog w) S (λx=>(jK [] (ss.take i)).contains x) (jK [] (ss.take i)).length ->
   (∀h' tk,(∀b o,b≠S->b≠I->s.heap.get? b=some o->h'.get? b=some o)->h'.SetOf (PySem.strKind prog w) S (λx=>(jK [] ss).contains x) (jK [] ss).length->R (.ok (.ret .none)) { s with heap:=h',toks:=tk }) ->
   codeAny (model prog w) A (.builtin "set.update.loop" ⟨[.ref S,.ref I],[]⟩) R s:=by
 have hsz:items.size=ss.length:=by simpa using hi
 intro k
 induction k with
 | zero =>
  intro i s ek le st hS q
  obtain rfl:i=items.size:=by omega
  refine codeAny_builtin PyProof.Rows.F.entry_set_update_loop ?_
  rw[Around.under_plainId PyProof.Rows.F.plain_set_update_loop _]
  show wpAny _ A.in1 (pyNext (.ref I) >>= _) _ _ s
  refine wpAny_bind (W.done s _ _ st λh' tk kp=>wpAny_pure (q h' tk (λb o h1 h2 z=>kp b o (by simpa using h2) z) ?_))
  have z:=Kz hS λo ho=>kp S o (by simpa using nI) ho
  rwa [hsz,List.take_length] at z
 | succ k ih =>
  intro i s ek le st hS q
  have lt:i<items.size:=by omega
  refine codeAny_builtin PyProof.Rows.F.entry_set_update_loop ?_
  rw[Around.under_plainId PyProof.Rows.F.plain_set_update_loop _]
  show wpAny _ A.in1 (pyNext (.ref I) >>= _) _ _ s
  refine wpAny_bind (W.item i s _ _ lt st λv h1 tk1 pv st1 kp1=>?_)
  obtain⟨x,t,hx,rfl⟩:=hv i v pv
  have hS1:=Kz (h':=h1) hS λo ho=>kp1 S o (by simpa using nI) ho
  show wpAny _ A.in1 (holding [Value.str x t] (setAdd S (.str x t)) >>= _) _ _ _
  refine wpAny_bind (wpAny_holding ?_)
  unfold setAdd
  refine wpAny_holding (wpAny_bind ((PySem.strKind prog w).pyHash (k:=x) (isS x t) ?_))
  have nl2:=Bx (ss.take i) []
  have tl:(ss.take i).length<=ss.length:=List.length_take_le' i ss
  refine wpAny_setAddHashed_of (knd:=PySem.strKind prog w) (k:=x) (isS x t) rfl hS1 (by simp at nl2;omega) λh2 sb hS2=>?_
  have tk2:ss.take (i+1)=ss.take i++[x]:=by
   obtain⟨hl,e⟩:=List.getElem?_eq_some_iff.mp hx
   rw[List.take_succ,hx];rfl
  have hS3:h2.SetOf (PySem.strKind prog w) S (λx=>(jK [] (ss.take (i+1))).contains x) (jK [] (ss.take (i+1))).length:=by
   refine KC hS2 (funext λy=>?_) ?_
   .rw[tk2,xV]
    by_cases c:(jK [] (ss.take i)).contains x=true
    .rw[if_pos c]
     by_cases e:y=x
     .subst e;simp only[c,Bool.true_or]
     .simp[e]
    .rw[if_neg c]
     simp
   .rw[tk2,xV]
    by_cases c:(jK [] (ss.take i)).contains x=true
    .rw[if_pos c,if_pos c]
    .rw[if_neg c,if_neg c];simp
  refine wpAny_pure ⟨plainId_quiet PyProof.Rows.F.plain_set_update_loop _,ih (i+1) _ (by omega) lt ?_ hS3 λh3 tk3 kp3 z=>q h3 tk3 (λb o b1 b2 y=>kp3 b o b1 b2 ((sb.2 b b1).trans (kp1 b o (by simpa using b2) y))) z⟩
  refine W.frame _ _ _ st1 λb hb o y=>?_
  have bS:b≠S:=λz=>by
   subst z
   rcases List.mem_cons.mp hb with z | z
   .exact nI z
   .exact nl (by simpa using z)
  exact(sb.2 b bS).trans y
set_option maxHeartbeats 4000000 in
theorem CZ{s:Shared}{l:Addr}{items:Array Value}{ss:List Str}{Q:Value->Shared->Prop}(hh:A.handled=none)(hl:s.heap.IsList l items)(hi:items.toList.length=ss.length)(hv:∀(i:Nat) v,items[i]?=some v->∃x t,ss[i]?=some x/\v=.str x t)(few:ss.length+1<scanBound)
  (q:∀(h':Heap)(tk:Nat),h'.SetOf (PySem.strKind prog w) s.heap.objs.size (λx=>(jK [] ss).contains x) (jK [] ss).length->(∀b o,s.heap.get? b=some o->h'.get? b=some o)->Q (.ref s.heap.objs.size) { s with heap:=h',toks:=tk }) :
  wpAny (model prog w) A (call (.type "set") [.ref l]) Q E s:=by
 obtain⟨c0,tl0,mro0⟩:=PySem.F.called_set.mro
 have made0:=PySem.F.called_set.made
 have sub0:=PySem.F.called_set.sub
 have nt0:=PySem.F.called_set.notType
 have cc0:=PySem.F.called_set.canCreate
 have tc0:=PySem.F.typeCall_set_1 (.ref l)
 refine wpAny_call (codeAny_of_tree ?_)
 show wpAny _ _ (callAny (.type "set") _) _ _ _
 refine wpAny_pure ⟨Code.quiet_builtin _ (by decide +kernel),codeAny_builtin PySem.F.entry_type_call ?_⟩
 rw[Around.under_plain (weight_type_call_type "set" [.ref l] []) rfl]
 repeat (any_goals (first | assumption | wp_step))
 refine codeAny_mono (code_set_new_1 (.ref l) (E:=E) (Q₁:=λob s1=>∃led:Bool,ob=.ref s.heap.objs.size/\s1={ s with heap:=s.heap.push { cls:=.type "set",dict:=none,data:=.set #[] 0 (.fresh 0 0 led) } }) λled=>⟨led,rfl,rfl⟩) λr1 s1 z1=>?_
 cases r1 with
 | error e=>exact z1
 | ok fl1 =>
  cases fl1 with
  | ret ob1 =>
   obtain⟨led,rfl,rfl⟩:=z1
   have hS:=Heap.get?_push_size s.heap (o:={ cls:=.type "set",dict:=none,data:=.set #[] 0 (.fresh 0 0 led) }) rfl
   have hT:Shared.TypeIs { s with heap:=s.heap.push { cls:=.type "set",dict:=none,data:=.set #[] 0 (.fresh 0 0 led) } } (.ref s.heap.objs.size) "set":=⟨_,hS,rfl⟩
   have il0:=PySem.F.called_set.init.lookup
   have ib0:=PySem.F.called_set.init.bind (.ref s.heap.objs.size)
   repeat (any_goals (first | assumption | wp_step))
   refine codeAny_mono (codeAny_call_builtin (R:=wants (λr2 s2=>r2=.none/\∃h' tk,s2={ s with heap:=h',toks:=tk }/\h'.SetOf (PySem.strKind prog w) s.heap.objs.size (λx=>(jK [] ss).contains x) (jK [] ss).length/\(∀b o,s.heap.get? b=some o->h'.get? b=some o)) E)
    PySem.F.called_set.init.plain PySem.F.entry_set_init (check_set_init_1 hT ?_)) λr2 s2 z2=>?_
   .obtain⟨⟨cl,dl,dt,sl⟩,hol,hc1,nn,hd1⟩:=hl
    dsimp only at hc1 hd1
    subst hc1
    subst hd1
    have hol1:=Heap.get?_push_of_some (h:=s.heap) { cls:=.type "set",dict:=none,data:=.set #[] 0 (.fresh 0 0 led) } hol
    have sls:=PySem.F.sub_list_set
    have slf:=PySem.F.sub_list_frozenset
    have nld:(Value.type "list"==Value.type "dict")=false:=by decide
    have hl1:(s.heap.push { cls:=.type "set",dict:=none,data:=.set #[] 0 (.fresh 0 0 led) }).IsList l items:=⟨_,hol1,rfl,nn,rfl⟩
    unfold Builtin.«set.__init__» noKeywords Builtin.Frozenset.updateFrom
    generalize hPI:pyIter=PI
    wp_walk
    subst hPI
    refine wpAny_pyIter_list hl1 (wpAny_bind (wpAny_runValue ?_))
    have lS:l<s.heap.objs.size:=Heap.lt_size hol
    have h3:A.in1.in1.in1.handled=none:=by simp[hh]
    have sz1:(s.heap.push { cls:=.type "set",dict:=none,data:=.set #[] 0 (.fresh 0 0 led) }).objs.size=s.heap.objs.size+1:=Heap.size_push ..
    have nel:l≠(s.heap.push { cls:=.type "set",dict:=none,data:=.set #[] 0 (.fresh 0 0 led) }).objs.size:=by rw[sz1];exact Nat.ne_of_lt (Nat.lt_succ_of_lt lS)
    refine set_loop hi hv (Walks.list h3 _ l nel items) (by rw[sz1];exact Nat.ne_of_lt (Nat.lt_succ_self _)) (Nat.ne_of_gt lS) few (items.size - 0) 0 _ rfl (Nat.zero_le _) ⟨⟨_,Heap.get?_push_size _ rfl,rfl,rfl⟩,hl1.push _⟩ ?_ λh' tk kp z=>?_
    .exact KC ((PyProof.Rows.setObjOf_fresh (knd:=PySem.strKind prog w) led).setOf (Heap.get?_push_of_some _ hS) (by decide)) rfl rfl
    .refine wpAny_pure (wpAny_pure ⟨rfl,h',tk,rfl,z,λb o y=>?_⟩)
     have blt:=Heap.lt_size y
     exact kp b o (Nat.ne_of_lt blt) (by rw[sz1];exact Nat.ne_of_lt (Nat.lt_succ_of_lt blt)) (Heap.get?_push_of_some _ (Heap.get?_push_of_some _ y))
   .cases r2 with
    | error e=>exact z2
    | ok fl2 =>
     cases fl2 with
     | ret r =>
      obtain⟨rfl,h',tk,rfl,zS,kp⟩:=z2
      repeat (any_goals (first | assumption | wp_step))
      exact q _ _ zS kp
     | _=>exact z2.elim
  | _=>exact z1.elim
end
def sstP(n:Nat)(a:Addr)(h:Heap):Prop:=∃o es ep tb,h.get? a=some o/\o.ExactSet/\o.data=.set es ep tb/\tb.fits es.size=true/\es.size=n
section
variable{X:Cx}{Γ:Nat->Option Addr}{E:XK}{e a b c o:Expr}{pos apos p p2 pos2:Pos}{fa:DSt->Out D}
theorem sst_ok{P:Program}{w:World}{H:Hp}{h:Heap}{n:Nat}{a:Addr}(x:sstP n a h):cF P w H h a (.ext (sstP n a)):=by
 refine⟨x,?_,λh1 h2 y k=>?_⟩
 .obtain⟨o,_,_,_,q,_⟩:=x
  exact⟨o,q⟩
 .obtain⟨o,es,ep,tb,q,r⟩:=y
  exact⟨o,es,ep,tb,k o q,r⟩
theorem Lq(hc:X.calm=true):gH X (.type "set") (λxs H Q=>∃(q:Addr)(ss:List Str),xs=[.ref q]/\SqL X.K H q (ss.map V.str)/\ss.length<=1000/\∀z,H z=none->Q (.ref z) (upd H z (.ext (sstP (jK [] ss).length z)))):=by
 intro pins s σ H xs us Q I r h
 obtain⟨q,ss,rfl,hq,hz,k⟩:=h
 obtain⟨u,rfl,rx⟩:=vals1 r
 cases rx
 obtain⟨its,r',pl,_⟩:=I.list hq
 have hl:=r'.length
 rw[List.length_map] at hl
 refine CZ (ss:=ss) (I.ok.hd hc) pl.isList (by simpa using hl.symm) (λi v hv=>?_) (by unfold scanBound;omega) λh' tk hS kp=>?_
 .have hv:its[i]?=some v:=by simpa using hv
  have lt:i<its.length:=(List.getElem?_eq_some_iff.mp hv).1
  have:(ss.map V.str)[i]?=some (V.str ss[i]):=by rw[List.getElem?_map,List.getElem?_eq_getElem (by omega)];rfl
  obtain⟨u,hu,ru⟩:=r'.get this
  rw[hv] at hu
  cases hu
  obtain⟨t,rfl⟩:=ru
  exact⟨_,t,List.getElem?_eq_getElem (by omega),rfl⟩
 .obtain⟨ob,es,ep,tb,h1,h2,h3,_,_,_,h4,h5⟩:=hS
  exact⟨.ref s.heap.objs.size,_,I.laid (t':=tk) kp (Nat.le_refl _) (sst_ok ⟨ob,es,ep,tb,h1,h2,h3,h4,h5⟩),rfl,k _ (I.hok.fresh (Nat.le_refl _))⟩
theorem Lp:gH X (.builtin "len") (λxs H Q=>∃(z:Addr)(n:Nat),xs=[.ref z]/\H z=some (.ext (sstP n z))/\n<=1000/\Q (.int n) H):=by
 intro pins s σ H xs us Q I r h
 obtain⟨z,n,rfl,hz,hn,k⟩:=h
 obtain⟨u,rfl,rx⟩:=vals1 r
 cases rx
 obtain⟨⟨ob,es,ep,tb,h1,h2,h3,h4,h5⟩,_,_⟩:=I.hok z _ hz
 refine call_len_set h1 h2 h3 h4 (by omega) ⟨.int n,H,I.tok _,⟨s.toks+1,by rw[h5]⟩,k⟩
noncomputable def Bt:D->Option D:=λd=>(gF d).bind λds=>(yP ds).bind λss=>if ss.length<=1000 then some (.int (jK [] ss).length) else none
theorem Pq(hc:X.calm=true)(hg:Gl X "len")(hm:X.mg "len"=none)(hg2:Gl X "set")(hm2:X.mg "set"=none)(ha:DE X Γ E a fa)(hs:starEach [a] X.env=[(false,eval a X.env)]:=by rfl)(hs2:starEach [.Call (.Name "set" p2) [a] [] pos2] X.env=[(false,eval (.Call (.Name "set" p2) [a] [] pos2) X.env)]:=by rfl):
  DE X Γ E (.Call (.Name "len" p) [.Call (.Name "set" p2) [a] [] pos2] [] pos) (o1 Bt fa) :=
 PE.imp (lU Lp hg hm PySem.boot_len (bD (oJ (Lq hc) hg2 hm2 (by decide +kernel) (bD ha dw (by rw[hs];rfl)) (by decide) (by decide) (by rw[hs];rfl) (by rfl)) dw (by rw[hs2];rfl)) (by decide) (by decide) (by rw[hs2];rfl) (by rfl)) λσ H Q qq=>by
  obtain⟨G0,H0,G,δ,S,w⟩:=qq;refine⟨G0,H0,G,δ,S,(aj w).mono (λd w v G1 H1 s1 r1=>?_) λ_ k=>k⟩
  obtain⟨r,e,k⟩:=bB w
  unfold Bt at e
  obtain⟨ds,e1,e2⟩:=Option.bind_eq_some_iff.mp e
  obtain⟨ss,e3,e4⟩:=Option.bind_eq_some_iff.mp e2
  split at e4
  .rename_i hz
   cases e4
   obtain⟨q,vs,rfl,sq,ra⟩:=r1.gF e1
   have ev:=ra.strs e3
   subst ev
   have hn:=Bx ss []
   exact⟨q,ss,rfl,s1.gh.seq sq,hz,λz hz0=>⟨z,_,rfl,aG,by simp at hn;omega,k _ G1 _ (s1.trans (.aside s1.gh hz0)) (.int _)⟩⟩
  .cases e4
end
end DL
namespace DL
open PySem PySem.Spec PyProof.Rows MX L2
mutual
noncomputable def noL:D->Bool
 | .non=>true
 | .bl _=>true
 | .int _=>true
 | .str _=>true
 | .ty _=>true
 | .cls _=>true
 | .tup xs=>zp xs
 | .obj _ fs=>noLf fs
 | _=>false
noncomputable def zp:List D->Bool
 | []=>true
 | d::r=>noL d && zp r
noncomputable def noLf:List (Str×D)->Bool
 | []=>true
 | (_,d)::r=>noL d && noLf r
end
noncomputable def yI:HO->Bool
 | .lst _=>true
 | .dK _=>true
 | .dT _=>true
 | _=>false
section
variable{K:Frag}{Γ:Nat->Option Addr}{G1 G2:Hp}
mutual
theorem Rep.less(e:∀b o,G1 b=some o->yI o=false->G2 b=some o):∀{v:V}{d:D},Rep K Γ G1 v d->noL d=true->Rep K Γ G2 v d
 | _,_,.non,_=>.non
 | _,_,.bl b,_=>.bl b
 | _,_,.int i,_=>.int i
 | _,_,.str x,_=>.str x
 | _,_,.ty n,_=>.ty n
 | _,_,.cls h,_=>.cls h
 | _,_,.tup h r,q=>.tup (e _ _ h rfl) (au.less e r (by simpa[noL] using q))
 | _,_,.obj h g r,q=>.obj (e _ _ h rfl) g (lC.less e r (by simpa[noL] using q))
 | _,_,.lst _ _,q=>by simp[noL] at q
 | _,_,.rol _ _,q=>by simp[noL] at q
 | _,_,.rot _ _,q=>by simp[noL] at q
 | _,_,.dK _ _,q=>by simp[noL] at q
 | _,_,.dT _ _,q=>by simp[noL] at q
 | _,_,.e0 _ _,q=>by simp[noL] at q
 | _,_,.e1 _ _ _ _,q=>by simp[noL] at q
theorem au.less(e:∀b o,G1 b=some o->yI o=false->G2 b=some o):∀{v:List V}{d:List D},au K Γ G1 v d->zp d=true->au K Γ G2 v d
 | _,_,.nil,_=>.nil
 | _,_,.cons h r,q=>by
  simp only[zp,Bool.and_eq_true] at q
  exact .cons (Rep.less e h q.1) (au.less e r q.2)
theorem lC.less(e:∀b o,G1 b=some o->yI o=false->G2 b=some o):∀{v:List (Str×V)}{d:List (Str×D)},lC K Γ G1 v d->noLf d=true->lC K Γ G2 v d
 | _,_,.nil,_=>.nil
 | _,_,.cons h r,q=>by
  simp only[noLf,Bool.and_eq_true] at q
  exact .cons (Rep.less e h q.1) (lC.less e r q.2)
end
end
section
variable{K:Frag}{Γ:Nat->Option Addr}{G0 H0 G H:Hp}{σ:L2.St}{δ:DSt}
noncomputable def lends:Sl->Bool
 | .sh _=>true
 | .ol _=>true
 | .oll _=>true
 | .od _=>true
 | .odT _=>true
 | _=>false
theorem Inner.lsts{O:Addr->Option Nat}{i:Nat}:∀{vs:List V}{dss:List (List D)},Inner K Γ H0 G H O i vs dss->∀b,V.ref b∈vs->∃us,H b=some (.lst us)
 | _,_,.nil,b,hb=>by cases hb
 | _,_,.cons h g h0 o r n t,b,hb=>by
  rcases List.mem_cons.mp hb with z | z
  .cases z;exact⟨_,h⟩
  .exact t.lsts b z
theorem SR.lend(S:SR K Γ G0 H0 G H σ δ)(i:Nat)(hl:∀s,δ[i]?=some (some s)->lends s=true):∃G',SR K Γ G0 H0 G' H σ (frz i δ)/\∀b,G' b=G b∨(G b=none/\∃o,G' b=some o/\yI o=true):=by
 obtain⟨O,q⟩:=id S.sl
 unfold frz
 split
 .rename_i s e
  obtain⟨v,hv,h⟩:=q i s e
  cases s with
  | sh d=>exact⟨G,by rw[show frzS (.sh d)=.sh d from rfl,wV e];exact S,λ_=>.inl rfl⟩
  | ol ds =>
   obtain⟨a,vs,ev,h1,h2,h3,h4,h5⟩:=h
   subst ev
   have hp:∀b,decide (b=a)=true->O b=some i/\G b=none/\H0 b=none:=λb z=>by obtain rfl:=of_decide_eq_true z;exact⟨h4,h2,h3⟩
   refine⟨_,S.wu q (λb=>decide (b=a)) hp hv (.lst (by unfold dJ;rw[if_pos (by simp)];exact h1) (h5.mono (cX λb z=>(hp b z).2.1))),λb=>?_⟩
   unfold dJ
   by_cases z:b=a
   .subst z
    exact .inr ⟨h2,_,by rw[if_pos (by simp)];exact h1,rfl⟩
   .exact .inl (if_neg (by simp[z]))
  | oll ds =>
   obtain⟨a,vs,ev,h1,h2,h3,h4,h5,h6⟩:=h
   subst ev
   have hp:∀b,decide (b=a∨V.ref b∈vs)=true->O b=some i/\G b=none/\H0 b=none:=λb z=>by
    rcases of_decide_eq_true z with z | z
    .subst z;exact⟨h4,h2,h3⟩
    .exact h6.facts b z
   refine⟨_,S.wu q (λb=>decide (b=a∨V.ref b∈vs)) hp hv (.lst (by unfold dJ;rw[if_pos (by simp)];exact h1) (h6.frozen (cX λb z=>(hp b z).2.1) λb hb=>by simp[hb])),λb=>?_⟩
   unfold dJ
   by_cases z:b=a∨V.ref b∈vs
   .refine .inr ⟨(hp b (decide_eq_true z)).2.1,?_⟩
    rw[if_pos (decide_eq_true z)]
    rcases z with z | z
    .subst z;exact⟨_,h1,rfl⟩
    .obtain⟨us,hus⟩:=h6.lsts b z;exact⟨_,hus,rfl⟩
   .exact .inl (if_neg (by simp[z]))
  | od ds =>
   obtain⟨a,vs,ev,h1,h2,h3,h4,h5⟩:=h
   subst ev
   have hp:∀b,decide (b=a)=true->O b=some i/\G b=none/\H0 b=none:=λb z=>by obtain rfl:=of_decide_eq_true z;exact⟨h4,h2,h3⟩
   refine⟨_,S.wu q (λb=>decide (b=a)) hp hv (.dK (by unfold dJ;rw[if_pos (by simp)];exact h1) (h5.mono (cX λb z=>(hp b z).2.1))),λb=>?_⟩
   unfold dJ
   by_cases z:b=a
   .subst z
    exact .inr ⟨h2,_,by rw[if_pos (by simp)];exact h1,rfl⟩
   .exact .inl (if_neg (by simp[z]))
  | odT ds =>
   obtain⟨a,vs,ev,h1,h2,h3,h4,h5⟩:=h
   subst ev
   have hp:∀b,decide (b=a)=true->O b=some i/\G b=none/\H0 b=none:=λb z=>by obtain rfl:=of_decide_eq_true z;exact⟨h4,h2,h3⟩
   refine⟨_,S.wu q (λb=>decide (b=a)) hp hv (.dT (by unfold dJ;rw[if_pos (by simp)];exact h1) (h5.mono (cX λb z=>(hp b z).2.1))),λb=>?_⟩
   unfold dJ
   by_cases z:b=a
   .subst z
    exact .inr ⟨h2,_,by rw[if_pos (by simp)];exact h1,rfl⟩
   .exact .inl (if_neg (by simp[z]))
  | omx ds=>exact absurd (hl _ e) (by simp[lends])
 .exact⟨G,S,λ_=>.inl rfl⟩
end
section
variable{X:Cx}{Γ:Nat->Option Addr}{E:XK}{e:Expr}
noncomputable def sW(i:Nat)(f:DSt->Out D):DSt->Out D:=λδ=>match δ[i]? with
 | some (some s)=>if lends s=true then (f (frz i δ)).aZ.bind λd=>if noL d=true then .ok d else .stuck else .stuck
 | _=>.stuck
theorem zH(i:Nat){f:DSt->Out D}(h:DE X Γ E e f):DE X Γ E e (sW i f):=PE.imp h λσ H Q qq=>by
 obtain⟨G0,H0,G,δ,S,w⟩:=qq;unfold sW at w
 split at w
 .rename_i s es
  by_cases hl:lends s=true
  .rw[if_pos hl] at w
   obtain⟨G',S',hG⟩:=S.lend i (λs' e'=>by rw[es] at e';cases e';exact hl)
   refine⟨G0,H0,G',_,S',(cY (aj w)).mono (λd w v G1 H1 s1 r1=>?_) λ_ k=>k⟩
   by_cases hd:noL d=true
   .rw[if_pos hd] at w
    have key:∀b,(∃o,G' b=some o/\yI o=true)/\G b=none∨G' b=G b:=λb=>by
     rcases hG b with z | ⟨z1,z2⟩
     .exact .inr z
     .exact .inl ⟨z2,z1⟩
    classical
    refine w v (λb=>if G b=none/\G' b≠none then none else G1 b) H1 ⟨λb o q=>?_,s1.hh,λb o q=>?_,λb hb g=>?_⟩ (r1.less (λb o q n=>?_) hd)
    .rw[if_neg (λz=>by rw[q] at z;cases z.1)]
     refine s1.gg b o ?_
     rcases key b with⟨_,z⟩| z
     .rw[q] at z;cases z
     .rw[z];exact q
    .split at q
     .cases q
     .exact s1.gh b o q
    .split
     .rfl
     .rename_i nz
      have:G' b=none:=by
       cases z:G' b with
       | none=>rfl
       | some o=>exact absurd ⟨g,by rw[z];exact λz=>nomatch z⟩ nz
      exact s1.sep b hb this
    .rw[if_neg λz=>?_]
     .exact q
     .rcases key b with⟨⟨o',z1,z3⟩,_⟩| z1
      .have:=s1.gg b _ z1
       rw[q] at this
       rw[Option.some.inj this,z3] at n
       cases n
      .exact z.2 (z1.trans z.1)
   .rw[if_neg hd] at w
    exact False.elim w
  .rw[if_neg hl] at w
   exact False.elim w
 .exact False.elim w
end
end DL
namespace DL
open PySem PySem.Spec PyProof.Rows MX L2
noncomputable def zj:D->Option Key
 | .int i=>some (.inl i)
 | .str x=>some (.inr x)
 | _=>none
noncomputable def zf(kvs:List (Key×D))(k:Key):Bool:=kvs.any λkv=>decide (kv.1=k)
noncomputable def jD(kvs:List (Key×D))(k:Key)(v:D):List (Key×D) :=
 if (kvs.any λkv=>decide (kv.1=k))=true then kvs.map (λkv=>if kv.1=k then (kv.1,v) else kv) else kvs++[(k,v)]
section
variable{X:Cx}{Γ:Nat->Option Addr}{E:XK}{e a b c:Expr}{pos:Pos}{es:List Expr}{fa fb:DSt->Out D}{fr:DSt->Out (List D)}{ft:DSt->Out Bool}{K:Frag}{G H:Hp}
theorem Rep.key{v:V}{d:D}{k:Key}(r:Rep K Γ G v d)(e:zj d=some k):v=kV k:=by
 cases r <;> simp only[zj] at e <;> cases e <;> rfl
theorem cZ.any{k:Key}:∀{kvs:List (Key×V)}{kds:List (Key×D)},cZ K Γ G kvs kds->(kvs.any λkv=>decide (kv.1=k))=(kds.any λkv=>decide (kv.1=k))
 | _,_,.nil=>rfl
 | _,_,.cons h r=>by rw[List.any_cons,List.any_cons,r.any]
theorem cZ.snoc{k:Key}{v:V}{d:D}(h:Rep K Γ G v d):∀{kvs:List (Key×V)}{kds:List (Key×D)},cZ K Γ G kvs kds->cZ K Γ G (kvs++[(k,v)]) (kds++[(k,d)])
 | _,_,.nil=>.cons h .nil
 | _,_,.cons h' r=>.cons h' (r.snoc h)
theorem cZ.repl{k:Key}{v:V}{d:D}(h:Rep K Γ G v d):∀{kvs:List (Key×V)}{kds:List (Key×D)},cZ K Γ G kvs kds->cZ K Γ G (kvs.map λkv=>if kv.1=k then (kv.1,v) else kv) (kds.map λkv=>if kv.1=k then (kv.1,d) else kv)
 | _,_,.nil=>.nil
 | _,_,.cons (k:=k') h' r=>by
  rw[List.map_cons,List.map_cons]
  by_cases z:k'=k
  .simp only[z,if_true];exact .cons h (r.repl h)
  .simp only[z,if_false];exact .cons h' (r.repl h)
theorem cZ.put{k:Key}{v:V}{d:D}(h:Rep K Γ G v d){kvs:List (Key×V)}{kds:List (Key×D)}(r:cZ K Γ G kvs kds):cZ K Γ G (putK kvs k v) (jD kds k d):=by
 unfold putK jD
 rw[r.any]
 split
 .exact r.repl h
 .exact r.snoc h
theorem cZ.length:∀{kvs:List (Key×V)}{kds:List (Key×D)},cZ K Γ G kvs kds->kvs.length=kds.length
 | _,_,.nil=>rfl
 | _,_,.cons _ r=>by rw[List.length_cons,List.length_cons,r.length]
theorem SR.setd{G0 H0 G' H':Hp}{σ:L2.St}{δ:DSt}(S:SR K Γ G0 H0 G H σ δ)(s:Step G H G' H'){i:Nat}{a:Addr}{vs:List (Key×V)}{ds:List (Key×D)}(f:H a=none)(h:H' a=some (.dK vs))(g:G' a=none)(r:cZ K Γ G' vs ds):
  SR K Γ G0 H0 G' H' (σ.set i (some (.ref a))) (δ.set i (some (.od ds))):=by
 obtain⟨O,q⟩:=id S.sl
 have S':=S.step s
 have k:∀b,H b≠none->(λb=>if b=a then some i else O b) b=O b:=λb hb=>by
  have:b≠a:=λz=>hb (z▸f)
  simp[this]
 refine⟨S'.st,by rw[List.length_set,List.length_set];exact S.len,Slots.put S.len (O:=λb=>if b=a then some i else O b) (λj x e ij=>?_) ⟨a,vs,rfl,h,g,aD S.st.hh f,by simp,r⟩⟩
 obtain⟨v,h1,h2⟩:=q j x e
 exact⟨v,h1,(h2.reO k).step s⟩
noncomputable def Nk(i:Nat):DSt->Out Fl:=λδ=>.ok (.nx (δ.set i (some (.od []))))
theorem JD(i:Nat){x:Str}{pos' p:Pos}(hh:∀{te:TE},PE X (.Dict [] [] p) te->PS X (.Assign [.Name x pos'] (.Dict [] [] p) pos) (zE te (mZ i))):DS X Γ E (.Assign [.Name x pos'] (.Dict [] [] p) pos) (Nk i) :=
 PS.imp (hh pe_dnewK) λN σ H ⟨G0,H0,G,δ,S,w⟩=>λq hq=>w _ G _ (S.setd (.aside S.st.gh hq) hq aG (aD S.st.gh hq) .nil)
noncomputable def Ax(i:Nat)(fk:DSt->Out D):DSt->Out Bool:=λδ=>(fk δ).bind λk=>match zj k,δ[i]? with
 | some key,some (some (.od kvs))=>.ok (!zf kvs key)
 | _,_=>.stuck
theorem cZ.has{k:Key}{kvs:List (Key×V)}{kds:List (Key×D)}(r:cZ K Γ G kvs kds):(uP kvs k).isSome=zf kds k:=by
 unfold zf
 rw[←CP,r.any]
theorem Ed(i:Nat){x:Str}{p:Pos}(hu:X.A.units+64<cLine)(hv:PE X (.Name x p) (iI i))(ha:DE X Γ E a fa)(hm:behindInMarks .NotIn (.Name x p)=false:=by rfl):DT X Γ E (.Compare a [.NotIn] [.Name x p] pos) (Ax i fa) :=
 PT.imp (pt_cmp (Qw (by omega) ha hv) hm) λσ H Q qq=>by
  obtain⟨G0,H0,G,δ,S,w⟩:=qq;refine⟨G0,H0,G,δ,S,(aj w).mono (λd w v G1 H1 s1 r1=>?_) λ_ k=>k⟩
  split at w
  .rename_i key kvs ek ei
   obtain⟨O,q⟩:=(S.step s1).sl
   obtain⟨u,hu,aa,vs,ev,h1,h2,h3,h4,h5⟩:=q i _ ei
   subst ev
   have e:=r1.key ek
   subst e
   refine⟨_,hu,aa,uP vs key,rfl,n6.k h1,_,rfl,?_⟩
   rw[h5.has]
   exact w G1 H1 s1
  .exact False.elim w
noncomputable def xY(i:Nat)(fv fk:DSt->Out D):DSt->Out Fl:=λδ=>(fv δ).bind λv=>match δ[i]? with
 | some (some (.od kvs))=>(fk δ).bind λk=>match zj k with
  | some key=>if kvs.length<sizeLine then .ok (.nx (δ.set i (some (.od (jD kvs key v))))) else .stuck
  | none=>.stuck
 | _=>.stuck
theorem Gh(i:Nat){x:Str}{p p2:Pos}(hu:X.A.units+64<cLine)(hv:PE X (.Name x p) (iI i))(he:DE X Γ E e fa)(hb:DE X Γ E b fb)(hs:swapsWith e (some (.Subscript (.Name x p) b p2)) pos.line X.env=pure false:=by rfl):
  DS X Γ E (.Assign [.Subscript (.Name x p) b p2] e pos) (xY i fa fb) :=
 PS.imp (ps_dput (by omega) hv hb he hs) λN σ H qq=>by
  obtain⟨G0,H0,G,δ,S,w⟩:=qq;refine⟨G0,H0,G,δ,S,(aj w).mono (λd w u G1 H1 s1 r1=>?_) λx k=>exD.step k S.st⟩
  have S1:=S.step s1
  obtain⟨O,q⟩:=id S1.sl
  split at w
  .rename_i kvs ei
   obtain⟨v,hvi,aa,vs,ev,h1,h2,h3,h4,h5⟩:=id (q i _ ei)
   subst ev
   refine⟨_,hvi,G0,H0,G1,δ,S1,(aj w).mono (λd2 w u2 G2 H2 s2 r2=>?_) λx k=>exD.step k S1.st⟩
   split at w
   .rename_i key ek
    split at w
    .rename_i hz
     have S2:=S1.step s2
     have q1:∀i s,δ[i]?=some (some s)->∃v,σ[i]?=some (some v)/\cC X.K Γ H0 G2 H2 O i v s:=λj y e=>by
      obtain⟨v',z1,z2⟩:=q j y e
      exact⟨v',z1,z2.step s2⟩
     have ga:G2 aa=none:=s2.sep aa (by rw[h1];exact λz=>nomatch z) h2
     have e:=r2.key ek
     subst e
     refine⟨aa,_,rfl,DPut.k (s2.hh _ _ h1) (by rw[h5.length];exact hz),w σ G2 _ (S2.write q1 ga h3 h4 hvi ⟨aa,_,rfl,aG,ga,h3,h4,cZ.put (r1.mono s2.gg) (h5.mono s2.gg)⟩)⟩
    .exact False.elim w
   .exact False.elim w
  .exact False.elim w
noncomputable def sAugA(i:Nat)(f:DSt->Out D):DSt->Out Fl:=λδ=>match δ[i]? with
 | some (some (.sh (.int m)))=>(f δ).bind λd=>match d with
  | .int n=>.ok (.nx (δ.set i (some (.sh (.int (m+n))))))
  | _=>.stuck
 | _=>.stuck
theorem ds_aug(i:Nat){x:Str}{pos':Pos}(hh:∀{te:TE},PE X e te->PS X (.AugAssign (.Name x pos') .Add e pos) (tAug i te (ipI λi j=>i+j)))(he:DE X Γ E e fa):DS X Γ E (.AugAssign (.Name x pos') .Add e pos) (sAugA i fa) :=
 PS.imp (hh he) λN σ H qq=>by
  obtain⟨G0,H0,G,δ,S,w⟩:=qq;unfold sAugA at w
  split at w
  .rename_i m ei
   obtain⟨O,q⟩:=id S.sl
   obtain⟨v,hvi,h⟩:=id (q i _ ei)
   refine⟨v,hvi,G0,H0,G,δ,S,(aj w).mono (λd w u G1 H1 s1 r1=>?_) λx k=>exD.step k S.st⟩
   split at w
   .rename_i n
    have h:Rep X.K Γ G v (.int m):=h
    cases h
    cases r1
    exact⟨_,_,rfl,rfl,w _ G1 H1 ((S.step s1).set (.int _))⟩
   .exact False.elim w
  .exact False.elim w
noncomputable def repL(fa fb:DSt->Out D):DSt->Out (List D):=λδ=>(fa δ).bind λx=>(fb δ).bind λy=>match x,y with
 | .lst i,.int j=>if -(2 ^ 63)<=j/\j<2 ^ 63/\i.length*j.toNat<=sizeLine then .ok (List.replicate j.toNat i).flatten else .stuck
 | _,_=>.stuck
theorem df_rep(ha:DE X Γ E a fa)(hb:DE X Γ E b fb):DF X Γ E (.BinOp a .Mult b pos) (repL fa fb):=PE.imp (Eo op_rep ha hb) λσ H Q qq=>by
 obtain⟨G0,H0,G,δ,S,w⟩:=qq;refine⟨G0,H0,G,δ,S,(aj w).mono (λx w v G1 H1 s1 r1=>?_) λ_ k=>k⟩
 refine⟨G0,H0,G1,δ,S.step s1,(aj w).mono (λy w u G2 H2 s2 r2=>?_) λ_ k=>k.step s1⟩
 split at w
 .split at w
  .rename_i h
   cases r2
   cases r1 with
   | lst h1 r1 =>
    refine⟨_,_,_,rfl,rfl,s2.gh _ _ (s2.gg _ _ h1),h.1,h.2.1,by rw[r1.length];exact h.2.2,λl hl=>?_⟩
    have st:=(s1.trans s2)
    exact w l _ G2 _ (st.trans (.aside st.gh hl)) (aD st.hh hl) aG (aD st.gh hl) ((r1.rep _).mono s2.gg)
  .exact False.elim w
 .exact False.elim w
end
end DL
namespace DL
open PySem PySem.Spec PyProof.Rows MX L2
theorem uZ{X:Cx}{E:XK}:nM CX0 X E:=λ_ _ _ _ _ _ _ h=>h.elim
noncomputable def Ba(i:Nat)(δ:DSt):Option (List (Key×D)):=match δ[i]? with
 | some (some (.od kvs))=>some kvs
 | some (some (.sh (.dK kvs)))=>some kvs
 | _=>none
noncomputable def d9(kvs:List (Key×D))(k:Key):Option D:=(kvs.find? λkv=>decide (kv.1=k)).map (·.2)
section
variable{X:Cx}{Γ:Nat->Option Addr}{E:XK}{e a b c:Expr}{pos:Pos}{es:List Expr}{fa fb:DSt->Out D}{fr:DSt->Out (List D)}{ft:DSt->Out Bool}{K:Frag}{G H:Hp}
theorem cZ.get{k:Key}:∀{kvs:List (Key×V)}{kds:List (Key×D)},cZ K Γ G kvs kds->(uP kvs k=none/\d9 kds k=none)∨∃v d,uP kvs k=some v/\d9 kds k=some d/\Rep K Γ G v d
 | _,_,.nil=>.inl ⟨rfl,rfl⟩
 | _,_,.cons (k:=k') (v:=v) (d:=d) (fds:=fds) h r=>by
  by_cases z:k'=k
  .exact .inr ⟨v,d,w6 z,by simp[d9,List.find?_cons,z],h⟩
  .rw[wZ (p:=(k',v)) z,show d9 ((k',d)::fds) k=d9 fds k by simp[d9,List.find?_cons,z]]
   exact r.get
theorem SR.dk{G0 H0:Hp}{σ:L2.St}{δ:DSt}{i:Nat}{kds:List (Key×D)}(S:SR K Γ G0 H0 G H σ δ)(e:Ba i δ=some kds):∃a vs,σ[i]?=some (some (.ref a))/\H a=some (.dK vs)/\cZ K Γ G vs kds:=by
 obtain⟨O,q⟩:=S.sl
 unfold Ba at e
 split at e
 .rename_i kvs ei
  cases e
  obtain⟨v,hv,a,vs,ev,h1,h2,h3,h4,h5⟩:=q i _ ei
  subst ev
  exact⟨a,vs,hv,h1,h5⟩
 .rename_i kvs ei
  cases e
  obtain⟨v,hv,h⟩:=q i _ ei
  have h:Rep K Γ G v (.dK kds):=h
  cases h with
  | dK h' r=>exact⟨_,_,hv,S.st.gh _ _ h',r⟩
 .cases e
noncomputable def uT(i:Nat)(fk fx:DSt->Out D):DSt->Out D:=λδ=>match Ba i δ with
 | some kvs=>(fk δ).bind λk=>(fx δ).bind λx=>match zj k with
  | some key=>.ok ((d9 kvs key).getD x)
  | none=>.stuck
 | none=>.stuck
theorem Jy(i:Nat){x:Str}{p apos cpos:Pos}(hu:X.A.units+64<cLine)(hv:PE X (.Name x p) (iI i))(ha:DE X Γ E a fa)(hb:DE X Γ E b fb)(m:M2 X (.Name x p) "get" apos a b cpos):DE X Γ E (.Call (.Attribute (.Name x p) "get" apos) [a,b] [] cpos) (uT i fa fb) :=
 PE.imp (pe_dget2 (by omega) hv ha hb m) λσ H Q qq=>by
  obtain⟨G0,H0,G,δ,S,w⟩:=qq;unfold uT at w
  split at w
  .rename_i kds ek
   obtain⟨aa,vs,hvi,h1,r⟩:=S.dk ek
   refine⟨_,hvi,aa,rfl,.inl ⟨vs,.inl h1⟩,G0,H0,G,δ,S,(aj w).mono (λd w u G1 H1 s1 r1=>?_) λ_ k=>k⟩
   refine⟨G0,H0,G1,δ,S.step s1,(aj w).mono (λd2 w u2 G2 H2 s2 r2=>?_) λ_ k=>k.step s1⟩
   split at w
   .rename_i key ekey
    have e:=r1.key ekey
    subst e
    rcases ((r.mono s1.gg).mono s2.gg).get (k:=key) with⟨z1,z2⟩| ⟨v,d',z1,z2,z3⟩
    .refine⟨_,n6.k (s2.hh _ _ (s1.hh _ _ h1)),?_⟩
     rw[z1]
     rw[z2] at w
     exact w _ G2 H2 (s1.trans s2) r2
    .refine⟨_,n6.k (s2.hh _ _ (s1.hh _ _ h1)),?_⟩
     rw[z1]
     rw[z2] at w
     exact w _ G2 H2 (s1.trans s2) z3
   .exact False.elim w
  .exact False.elim w
noncomputable def dInX(i:Nat)(fk:DSt->Out D):DSt->Out Bool:=λδ=>(fk δ).bind λk=>match zj k,Ba i δ with
 | some key,some kvs=>.ok (zf kvs key)
 | _,_=>.stuck
theorem dt_dinX(i:Nat){x:Str}{p:Pos}(hu:X.A.units+64<cLine)(hv:PE X (.Name x p) (iI i))(ha:DE X Γ E a fa)(hm:behindInMarks .In (.Name x p)=false:=by rfl):DT X Γ E (.Compare a [.In] [.Name x p] pos) (dInX i fa) :=
 PT.imp (pt_cmp (pc_din (by omega) ha hv) hm) λσ H Q qq=>by
  obtain⟨G0,H0,G,δ,S,w⟩:=qq;refine⟨G0,H0,G,δ,S,(aj w).mono (λd w v G1 H1 s1 r1=>?_) λ_ k=>k⟩
  split at w
  .rename_i key kvs ek ei
   obtain⟨aa,vs,hvi,h1,r⟩:=(S.step s1).dk ei
   have e:=r1.key ek
   subst e
   refine⟨_,hvi,aa,uP vs key,rfl,n6.k h1,_,rfl,?_⟩
   rw[r.has]
   exact w G1 H1 s1
  .exact False.elim w
theorem op_isB:OpR X (compareOp .Is) (λx y H Q=>∃c d,x=.bl c/\y=.bl d/\Q (.bl (c==d)) H):=by
 intro pins s σ H x y v u Q I rx ry h
 obtain⟨c,d,rfl,rfl,q⟩:=h
 cases rx;cases ry
 exact is_bool (Bj I q rfl)
theorem Qv:OpR X (compareOp .IsNot) (λx y H Q=>∃c d,x=.bl c/\y=.bl d/\Q (.bl (c != d)) H):=by
 intro pins s σ H x y v u Q I rx ry h
 obtain⟨c,d,rfl,rfl,q⟩:=h
 cases rx;cases ry
 exact isnot_bool (Bj I q rfl)
noncomputable def isBD:D->D->Option Bool
 | .bl c,.bl d=>some (c==d)
 | _,_=>none
noncomputable def J8:D->D->Option Bool
 | .bl c,.bl d=>some (c != d)
 | _,_=>none
theorem drb_isB{K:Frag}:DRB K Γ (λx y H Q=>∃c d,x=.bl c/\y=.bl d/\Q (.bl (c==d)) H) isBD:=λH x y dx dy b Q rx ry e k=>by
 unfold isBD at e
 split at e
 .cases e;cases rx;cases ry;exact⟨_,_,rfl,rfl,k⟩
 .cases e
theorem Lz{K:Frag}:DRB K Γ (λx y H Q=>∃c d,x=.bl c/\y=.bl d/\Q (.bl (c != d)) H) J8:=λH x y dx dy b Q rx ry e k=>by
 unfold J8 at e
 split at e
 .cases e;cases rx;cases ry;exact⟨_,_,rfl,rfl,k⟩
 .cases e
theorem de_isB(ha:DB X Γ E a fa)(hb:DB X Γ E b fb):DE X Γ E (.Compare a [.Is] [b] pos) (bV (o2b isBD fa fb)):=d2b drb_isB (ql op_isB ha hb (jJ _))
theorem Pz(ha:DB X Γ E a fa)(hb:DB X Γ E b fb):DT X Γ E (.Compare a [.IsNot] [b] pos) (o2b J8 fa fb):=d2t Lz (uJ Qv ha hb (jJ _))
end
section
variable{X:Cx}{Γ:Nat->Option Addr}{E:XK}{e:Expr}{K:Frag}
theorem Ql{G G' G1 H H1:Hp}(hG:∀b,G' b=G b∨(G b=none/\∃o,G' b=some o/\yI o=true))(s1:Step G' H G1 H1):∃G2,Step G H G2 H1/\(∀b o,G1 b=some o->yI o=false->G2 b=some o)/\∀b,G1 b=none->G2 b=none:=by
 have key:∀b,(∃o,G' b=some o/\yI o=true)/\G b=none∨G' b=G b:=λb=>by
  rcases hG b with z | ⟨z1,z2⟩
  .exact .inr z
  .exact .inl ⟨z2,z1⟩
 classical
 refine⟨λb=>if G b=none/\G' b≠none then none else G1 b,⟨λb o q=>?_,s1.hh,λb o q=>?_,λb hb g=>?_⟩,λb o q n=>?_,λb z=>?_⟩
 .rw[if_neg (λz=>by rw[q] at z;cases z.1)]
  refine s1.gg b o ?_
  rcases key b with⟨_,z⟩| z
  .rw[q] at z;cases z
  .rw[z];exact q
 .split at q
  .cases q
  .exact s1.gh b o q
 .split
  .rfl
  .rename_i nz
   have:G' b=none:=by
    cases z:G' b with
    | none=>rfl
    | some o=>exact absurd ⟨g,by rw[z];exact λz=>nomatch z⟩ nz
   exact s1.sep b hb this
 .dsimp only
  rw[if_neg λz=>?_]
  .exact q
  .rcases key b with⟨⟨o',z1,z3⟩,_⟩| z1
   .have:=s1.gg b _ z1
    rw[q] at this
    rw[Option.some.inj this,z3] at n
    cases n
   .exact z.2 (z1.trans z.1)
 .dsimp only
  split
  .rfl
  .exact z
noncomputable def yK(i:Nat)(f:DSt->Out (List D)):DSt->Out (List D):=λδ=>match δ[i]? with
 | some (some s)=>if lends s=true then (f (frz i δ)).aZ.bind λd=>if zp d=true then .ok d else .stuck else .stuck
 | _=>.stuck
theorem N8(i:Nat){f:DSt->Out (List D)}(h:DF X Γ E e f):DF X Γ E e (yK i f):=PE.imp h λσ H Q qq=>by
 obtain⟨G0,H0,G,δ,S,w⟩:=qq;unfold yK at w
 split at w
 .rename_i s es
  by_cases hl:lends s=true
  .rw[if_pos hl] at w
   obtain⟨G',S',hG⟩:=S.lend i (λs' e'=>by rw[es] at e';cases e';exact hl)
   refine⟨G0,H0,G',_,S',(cY (aj w)).mono (λd w a vs G1 H1 s1 fa ha ga r1=>?_) λ_ k=>k⟩
   by_cases hd:zp d=true
   .rw[if_pos hd] at w
    obtain⟨G2,s2,l2,n2⟩:=Ql hG s1
    exact w a vs G2 H1 s2 fa ha (n2 _ ga) (r1.less l2 hd)
   .rw[if_neg hd] at w
    exact False.elim w
  .rw[if_neg hl] at w
   exact False.elim w
 .exact False.elim w
end
end DL
namespace DL
open PySem PySem.Spec PyProof.Rows MX L2
section
variable{X:Cx}{Γ:Nat->Option Addr}{E:XK}{e a b c o:Expr}{pos p:Pos}{es:List Expr}{fa fb fo:DSt->Out D}{K:Frag}{G H:Hp}
noncomputable def qi:List D->Option (List (Key×D))
 | []=>some []
 | .tup [k,v]::r=>match zj k,qi r with
  | some k,some ps=>some ((k,v)::ps)
  | _,_=>none
 | _=>none
noncomputable def vD(ps:List (Key×D)):List (Key×D):=ps.foldl (λacc p=>jD acc p.1 p.2) []
theorem au.pairs:∀{vs:List V}{ds:List D}{ps:List (Key×D)},au K Γ G vs ds->qi ds=some ps ->
  ∃(ts:List Addr)(pv:List (Key×V)),vs=ts.map V.ref/\ts.length=pv.length/\(∀(j:Nat)(t:Addr)(p:Key×V),ts[j]?=some t->pv[j]?=some p->G t=some (.tup [kV p.1,p.2]))/\cZ K Γ G pv ps
 | _,_,_,.nil,e=>by
  simp only[qi] at e
  cases e
  exact⟨[],[],rfl,rfl,λj t p h=>by simp at h,.nil⟩
 | _,_,_,.cons (v:=v) (d:=d) (ds:=ds) h r,e=>by
  unfold qi at e
  split at e
  .rename_i z;cases z
  .rename_i k u r' z
   cases z
   split at e
   .rename_i key ps ek ep
    cases e
    obtain⟨ts,pv,e1,e2,e3,e4⟩:=au.pairs r ep
    cases h with
    | tup hG hr =>
     cases hr with
     | cons h1 hr=>cases hr with
      | cons h2 hr =>
       cases hr
       have:=h1.key ek
       subst this
       refine⟨_::ts,(key,_)::pv,by rw[List.map_cons,e1],by simp[e2],λj t p a1 a2=>?_,.cons h2 e4⟩
       cases j with
       | zero=>cases a1;cases a2;exact hG
       | succ j=>exact e3 j t p a1 a2
   .cases e
  .cases e
theorem cZ.vD:∀{ps:List (Key×V)}{qs:List (Key×D)}{kvs:List (Key×V)}{kds:List (Key×D)},cZ K Γ G ps qs->cZ K Γ G kvs kds->cZ K Γ G (sY kvs ps) (qs.foldl (λacc p=>jD acc p.1 p.2) kds)
 | _,_,_,_,.nil,h=>h
 | _,_,kvs,kds,.cons (k:=kk) (v:=v) (d:=d) (fs:=fs) (fds:=fds) h r,k=>by
  show cZ K Γ G (sY (putK kvs kk v) fs) (fds.foldl (λacc p=>jD acc p.1 p.2) (jD kds kk d))
  exact cZ.vD r (cZ.put h k)
noncomputable def Av(i:Nat)(fk:DSt->Out D):DSt->Out D:=λδ=>match Ba i δ with
 | some kvs=>(fk δ).bind λk=>match k with
  | .non=>.ok .non
  | k=>match zj k with
   | some key=>.ok ((d9 kvs key).getD .non)
   | none=>.stuck
 | none=>.stuck
theorem Pj(i:Nat){x:Str}{p apos cpos:Pos}(hu:X.A.units+64<cLine)(hv:PE X (.Name x p) (iI i))(ha:DE X Γ E a fa)(m:M1 X (.Name x p) "get" apos a cpos):DE X Γ E (.Call (.Attribute (.Name x p) "get" apos) [a] [] cpos) (Av i fa) :=
 PE.imp (Qx (by omega) hv ha m) λσ H Q qq=>by
  obtain⟨G0,H0,G,δ,S,w⟩:=qq;unfold Av at w
  split at w
  .rename_i kds ek
   obtain⟨aa,vs,hvi,h1,r⟩:=S.dk ek
   refine⟨_,hvi,aa,rfl,.inl ⟨vs,.inl h1⟩,G0,H0,G,δ,S,(aj w).mono (λd w u G1 H1 s1 r1=>?_) λ_ k=>k⟩
   split at w
   .cases r1
    exact .inl ⟨rfl,⟨vs,.inl (s1.hh _ _ h1)⟩,w _ G1 H1 s1 .non⟩
   .split at w
    .rename_i key ekey
     have e:=r1.key ekey
     subst e
     rcases (r.mono s1.gg).get (k:=key) with⟨z1,z2⟩| ⟨v,d',z1,z2,z3⟩
     .refine .inr ⟨_,n6.k (s1.hh _ _ h1),?_⟩
      rw[z1]
      rw[z2] at w
      exact w _ G1 H1 s1 .non
     .refine .inr ⟨_,n6.k (s1.hh _ _ h1),?_⟩
      rw[z1]
      rw[z2] at w
      exact w _ G1 H1 s1 z3
    .exact False.elim w
  .exact False.elim w
noncomputable def eqI(i:Int):Value->Bool
 | .int k _=>k==i
 | _=>false
noncomputable def isLst:D->Bool
 | .lst _=>true
 | .rol _=>true
 | _=>false
theorem Rep.listTy{v:V}{d:D}(r:Rep X.K Γ G v d)(h:isLst d=true)(s:aY G H):tyV X.K "list" v H:=by
 obtain⟨ds,e⟩:∃ds,DL.gF d=some ds:=by cases d <;> first | exact⟨_,rfl⟩| cases h
 obtain⟨a,vs,rfl,sq,_⟩:=r.gF e
 exact .inl ⟨rfl,_,s.seq sq⟩
end
end DL
namespace DL
open PySem PySem.Spec PyProof.Rows MX L2
section
variable{P:Program}{w:World}{K:Frag}{mg:Str->Option Value}{base:Heap}{Γ:Nat->Option Addr}
end
section
variable{X:Cx}{Γ:Nat->Option Addr}{E:XK}{e a b c o:Expr}{pos apos:Pos}{es:List Expr}{fa fb fo:DSt->Out D}{fr:DSt->Out (List D)}{CX:CXT}
theorem Py{sts:List Stmt}:DSs X Γ E sts (λ_=>.stuck):=λ_ _ _ _ _ _ ⟨_,_,_,_,_,w⟩=>False.elim w
end
end DL
namespace DL
open PySem PySem.Spec PyProof.Rows MX L2
abbrev Plc:=Nat->Option Addr
def xt(Γ:Plc)(L:Plc):Plc:=λc=>if c<1000 then Γ c else L (c - 1000)
section
variable{P:Program}{w:World}{K:Frag}{mg:Str->Option Value}{base:Heap}
structure DefA(P:Program)(w:World)(K:Frag)(mg:Str->Option Value)(base:Heap)(x:Str)(k:Nat)(ps:List Str)(sp:Plc->Sp):Prop where
 ex:∃f fd,(∀L,cJ P w K mg base CX0 k f fd ps (sp L))/\Binds K fd ps []/\mg x=some (.ref f)/\keepIn K (.ref f)=true
theorem DefA.at{x:Str}{k:Nat}{ps:List Str}{sp:Plc->Sp}(h:DefA P w K mg base x k ps sp)(L:Plc):Def P w K mg base x k ps (sp L):=by
 obtain⟨f,fd,G,r⟩:=h.ex
 exact⟨f,fd,G L,r⟩
structure IniA(P:Program)(w:World)(K:Frag)(mg:Str->Option Value)(base:Heap)(C:Addr)(k:Nat)(ps:List Str)(sp:Plc->Sp):Prop where
 ex:∃f fd,Mk K C f/\(∀L,cJ P w K mg base CX0 k f fd ps (sp L))/\Binds K fd ps []
theorem IniA.at{C:Addr}{k:Nat}{ps:List Str}{sp:Plc->Sp}(h:IniA P w K mg base C k ps sp)(L:Plc):Ini P w K mg base C k ps (sp L):=by
 obtain⟨f,fd,M,G,r⟩:=h.ex
 exact⟨f,fd,M,G L,r⟩
end
end DL
namespace DL
open PySem PySem.Spec PyProof.Rows MX L2
structure yX(K:Frag)(n:Str)(C:Addr):Prop where
 a:nsIn K mainGlobals n=some (some (.ref C))
 pg:PySem.W.plainGet K C Str.empty=true
 hd:PySem.W.hasDictIn K C=true
 po:PySem.W.plainOver K C=true
 sa:findIn K (.ref C) "__setattr__"=some (some (.builtin "object.__setattr__"))
 ha:findIn K (.ref C) "__class__"=some (some (.builtin "object.__class__"))
 hm:PySem.W.mroIn K C (.type "object")=some true
 ty:PySem.W.typeIn K (.ref C)=some (.type "type")
 cd:∃cd,PySem.W.clsIn K C=some cd
theorem yX.of{K:Frag}{n:Str}{C:Addr}{cd:ClassData}(a:nsIn K mainGlobals n=some (some (.ref C)))(pg:PySem.W.plainGet K C Str.empty=true)(hd:PySem.W.hasDictIn K C=true)(po:PySem.W.plainOver K C=true)(sa:findIn K (.ref C) "__setattr__"=some (some (.builtin "object.__setattr__")))(ha:findIn K (.ref C) "__class__"=some (some (.builtin "object.__class__")))(hm:PySem.W.mroIn K C (.type "object")=some true)(ty:PySem.W.typeIn K (.ref C)=some (.type "type"))(h:PySem.W.clsIn K C=some cd):yX K n C:=⟨a,pg,hd,po,sa,ha,hm,ty,cd,h⟩
structure GetF(K:Frag):Prop where
 hn:PySem.W.specialIn K (.builtin "object.__class__") "__get__"=some (some (.builtin "getset_descriptor.__get__"))
 htk:PySem.W.takesIn K (.builtin "object.__class__")=some true
theorem yX.i{K:Frag}{n:Str}{C:Addr}(c:yX K n C)(g:GetF K):uQ K C:=⟨⟨c.pg,c.hd,c.po,c.sa⟩,c.ha,g.hn,g.htk,c.hm,c.ty,c.cd⟩
structure FX(K:Frag)(n q:Str)(s:Stmt)(f:Addr):Prop where
 ex:∃fd,L2.Fun K n q s f fd
 fn:PySem.W.isFn K (.ref f)=true
theorem FX.of{K:Frag}{n q:Str}{s:Stmt}{f:Addr}{oc:Value}{od an:Option Addr}{osl:Array (Option Value)}{kV doc pm cdv ct:Value}(l:K.lookup f=some ⟨oc,od,.func (PySem.W.fnOf n q (mW s) (fC s) (aA s) .none kV doc pm an cdv ct),osl⟩)
  (c:PySem.W.codeIn K cdv q=true) (k:keepIn K (.ref f)=true) (fn:PySem.W.isFn K (.ref f)=true):FX K n q s f:=⟨⟨_,fun_mk l c k⟩,fn⟩
structure TX(K:Frag)(n:Str)(s:Stmt)(f:Addr):Prop where
 m:nsIn K mainGlobals n=some (some (.ref f))
 x:FX K n n s f
structure MkF(K:Frag)(C f:Addr):Prop where
 mks:PySem.W.makesIn K C=true
 ini:findIn K (.ref C) "__init__"=some (some (.ref f))
 kC:keepIn K (.ref C)=true
theorem MkF.k{K:Frag}{C f:Addr}(m:MkF K C f){n q:Str}{s:Stmt}(x:FX K n q s f):Mk K C f:=⟨m.mks,m.ini,x.fn,m.kC⟩
theorem FX.me{K:Frag}{n q:Str}{s:Stmt}{f C:Addr}{m:Str}(x:FX K n q s f)(a:findIn K (.ref C) m=some (some (.ref f))):Meth K C m f:=⟨a,x.fn,x.ex.choose_spec.kp⟩
section
variable{K:Frag}{x q:Str}{st:Stmt}{f:Addr}{fd:FuncData}{ps:List Str}
abbrev BA(x q:Str)(st:Stmt)(ps:List Str)(us:List Value):Prop:=∀(kV doc pm:Value)(an:Option Addr)(cdv ct:Value),bindArgs (PySem.W.fnOf x q (mW st) (fC st) (aA st) .none kV doc pm an cdv ct) ⟨us,[]⟩=pure (ps.zip us)
theorem bd1(F:L2.Fun K x q st f fd)(hl:ps.length=1:=by rfl)(h:∀a,BA x q st ps [a]:=by intro _ _ _ _ _ _ _;rfl):Binds K fd ps []:=F.binds λ_ _ _ _ _ _ us e=>match us,e.trans hl with | [_],_=>h _ _ _ _ _ _ _
theorem bd2(F:L2.Fun K x q st f fd)(hl:ps.length=2:=by rfl)(h:∀a b,BA x q st ps [a,b]:=by intro _ _ _ _ _ _ _ _;rfl):Binds K fd ps []:=F.binds λ_ _ _ _ _ _ us e=>match us,e.trans hl with | [_,_],_=>h _ _ _ _ _ _ _ _
theorem bd3(F:L2.Fun K x q st f fd)(hl:ps.length=3:=by rfl)(h:∀a b c,BA x q st ps [a,b,c]:=by intro _ _ _ _ _ _ _ _ _;rfl):Binds K fd ps []:=F.binds λ_ _ _ _ _ _ us e=>match us,e.trans hl with | [_,_,_],_=>h _ _ _ _ _ _ _ _ _
end
theorem scm{N P:List Str}{sc:Scope}(kind:sc.kind=.function:=by rfl)(co:sc.isCoroutine=false:=by rfl)(gen:sc.isGenerator=false:=by rfl)(nd:N.Nodup:=by decide +kernel)(pre:N.take P.length=P:=by rfl)
  (par:∀x∈P,sc.names.lookup x=some .local∨sc.names.lookup x=some .cell:=by decide +kernel) (MT:∀y∈sc.names,y.2≠.free:=by decide +kernel):aN N P sc:=⟨kind,co,gen,nd,pre,par,MT⟩
structure Inf(α:Type) where
 x:Str
 k:Nat
 ps:List Str
 F:List D->Out α
section
variable(P:Program)(w:World)(K:Frag)(mg:Str->Option Value)(base:Heap)
abbrev DD(Γ:Plc)(I:Inf D):Prop:=Def P w K mg base I.x I.k I.ps (spD K Γ I.ps.length I.F)
abbrev DDf(Γ:Plc)(I:Inf (List D)):Prop:=Def P w K mg base I.x I.k I.ps (spF K Γ I.ps.length I.F)
abbrev DDg(Γ:Plc)(I:Inf (List (List D))):Prop:=Def P w K mg base I.x I.k I.ps (Cq K Γ I.ps.length I.F)
abbrev DA'(Γ:Plc)(I:Inf D):Prop:=DefA P w K mg base I.x I.k I.ps (λL=>spD K (xt Γ L) I.ps.length I.F)
abbrev DAf(Γ:Plc)(I:Inf (List D)):Prop:=DefA P w K mg base I.x I.k I.ps (λL=>spF K (xt Γ L) I.ps.length I.F)
abbrev DAg(Γ:Plc)(I:Inf (List (List D))):Prop:=DefA P w K mg base I.x I.k I.ps (λL=>Cq K (xt Γ L) I.ps.length I.F)
abbrev OD(Γ:Plc)(I:Inf D)(f:Addr)(fd:FuncData):Prop:=cJ P w K mg base CX0 I.k f fd I.ps (spD K Γ I.ps.length I.F)
abbrev ODf(Γ:Plc)(I:Inf (List D))(f:Addr)(fd:FuncData):Prop:=cJ P w K mg base CX0 I.k f fd I.ps (spF K Γ I.ps.length I.F)
abbrev ODg(Γ:Plc)(I:Inf (List (List D)))(f:Addr)(fd:FuncData):Prop:=cJ P w K mg base CX0 I.k f fd I.ps (Cq K Γ I.ps.length I.F)
end
section
variable{P:Program}{w:World}{K:Frag}{mg:Str->Option Value}{base:Heap}{Γ:Plc}{x q:Str}{st:Stmt}{f:Addr}{fd:FuncData}{N:List Str}{k:Nat}
abbrev BodyOk(P:Program)(w:World)(K:Frag)(mg:Str->Option Value)(base:Heap)(Γ:Plc)(q:Str)(st:Stmt)(f:Addr)(N:List Str)(k:Nat)(g:DSt->Out Fl):Prop:=∀(cdv:Value)(A:Around)(outer:List Env)(s:Shared)(H:Hp)(E:XK),dz k (A.deeper (envOfC q (aA st) s.heap.objs.size f cdv))->DSs (cxOf CX0 P w K mg base N q (aA st) f cdv A outer s H E).nox Γ E0 (fC st) g
theorem okJ{I:Inf D}(k:Nat)(g:DSt->Out Fl)(F:L2.Fun K x q st f fd)(S:aN N I.ps (aA st))(h:BodyOk P w K mg base Γ q st f N k g)(hk:I.k=k+1:=by rfl)(hF:I.F=λds=>(eE N.length g ds).aZ:=by rfl):OD P w K mg base Γ I f fd:=by
 have:=DL.Fun.okD F S h
 rw[←hk,←hF] at this
 exact this
theorem okJf{I:Inf (List D)}(k:Nat)(g:DSt->Out Fl)(F:L2.Fun K x q st f fd)(S:aN N I.ps (aA st))(h:BodyOk P w K mg base Γ q st f N k g)(hk:I.k=k+1:=by rfl)(hF:I.F=λds=>(runL N.length g ds).aZ:=by rfl):ODf P w K mg base Γ I f fd:=by
 have:=DL.Fun.okF F S h
 rw[←hk,←hF] at this
 exact this
theorem okJg{I:Inf (List (List D))}(k:Nat)(g:DSt->Out Fl)(F:L2.Fun K x q st f fd)(S:aN N I.ps (aA st))(h:BodyOk P w K mg base Γ q st f N k g)(hk:I.k=k+1:=by rfl)(hF:I.F=λds=>(Ep N.length g ds).aZ:=by rfl):ODg P w K mg base Γ I f fd:=by
 have:=DL.Fun.okFF F S h
 rw[←hk,←hF] at this
 exact this
end
section
variable{X:Cx}{Γ:Plc}{E:XK}{e a b c o:Expr}{pos apos p:Pos}{es:List Expr}{x m:Str}{j k n i:Nat}{ps:List Str}{pos':Pos}
theorem dO(i:Nat){fa:DSt->Out D}(hN:X.N.Nodup)(he:DE X Γ E e fa)(hi:X.N[i]?=some x:=by rfl)(hx:Loc X.env.scope x:=by first | exact Or.inl rfl | exact Or.inr rfl)(hs:swapsWith e (some (.Name x pos')) pos.line X.env=pure false:=by rfl)
  (hf:X.fn x=true∨X.env.scope.names.lookup x=some .local:=by first | exact .inl rfl | exact .inr rfl | assumption):DS X Γ E (.Assign [.Name x pos'] e pos) (bz i fa):=ds_set i (λh=>xX hN hi hx h hs hf) he
theorem nsetl(i:Nat){fa:DSt->Out (List D)}(hN:X.N.Nodup)(he:DF X Γ E e fa)(hi:X.N[i]?=some x:=by rfl)(hx:Loc X.env.scope x:=by first | exact Or.inl rfl | exact Or.inr rfl)(hs:swapsWith e (some (.Name x pos')) pos.line X.env=pure false:=by rfl)
  (hf:X.fn x=true∨X.env.scope.names.lookup x=some .local:=by first | exact .inl rfl | exact .inr rfl | assumption):DS X Γ E (.Assign [.Name x pos'] e pos) (lV i fa):=ds_setl i (λh=>xX hN hi hx h hs hf) he
theorem nsetll(i:Nat){fa:DSt->Out (List (List D))}(hN:X.N.Nodup)(he:DFF X Γ E e fa)(hi:X.N[i]?=some x:=by rfl)(hx:Loc X.env.scope x:=by first | exact Or.inl rfl | exact Or.inr rfl)(hs:swapsWith e (some (.Name x pos')) pos.line X.env=pure false:=by rfl)
  (hf:X.fn x=true∨X.env.scope.names.lookup x=some .local:=by first | exact .inl rfl | exact .inr rfl | assumption):DS X Γ E (.Assign [.Name x pos'] e pos) (jc i fa):=ds_setll i (λh=>xX hN hi hx h hs hf) he
theorem ngn{i:Nat}(hN:X.N.Nodup)(hi:X.N[i]?=some x:=by rfl)(hx:Loc X.env.scope x:=by first | exact Or.inl rfl | exact Or.inr rfl)(hf:X.fn x=true∨X.env.scope.names.lookup x=some .local:=by first | exact .inl rfl | exact .inr rfl | assumption):DG X Γ (.Name x pos) (gN i):=Oa (zZ hN hi hx hf)
theorem nv(i:Nat)(hN:X.N[i]?=some x:=by rfl)(hv:Vis X.env.scope x:=by first | exact Or.inl rfl | exact Or.inr (Or.inl rfl) | exact Or.inr (Or.inr rfl))(hd:(x==("__debug__":Str))=false:=by decide)
  (hcd:(x==("__classdict__":Str))=false:=by decide):DE X Γ E (.Name x pos) (gv i):=de_var i (pe_var hN hv hd hcd)
section
theorem bK{F:List D->Out D}{fr:DSt->Out (List D)}(Df:Def X.prog X.w X.K X.mg X.base x k ps (spD X.K Γ n F))(hr:dz j X.A)(ha:DA X Γ E (e::es) fr)(hk:k<=j:=by decide)(hg:Gl X x:=by rfl)(hdb:(x==("__debug__":Str))=false:=by decide)
  (he:starEach (e::es) X.env=(false,eval e X.env)::starEach es X.env:=by rfl) (hpl:(backTo pos (starEach es X.env)).any (·.1)=false:=by rfl):DE X Γ E (.Call (.Name x p) (e::es) [] pos) (oF n F fr):=by
 obtain⟨f,fd,G,b,m,kk⟩:=Df.ex
 exact dcall (uI G (hr.mono hk) hg m kk b .nil uZ ha hdb he hpl)
theorem G8{F:List D->Out (List D)}{fr:DSt->Out (List D)}(Df:Def X.prog X.w X.K X.mg X.base x k ps (spF X.K Γ n F))(hr:dz j X.A)(ha:DA X Γ E (e::es) fr)(hk:k<=j:=by decide)(hg:Gl X x:=by rfl)(hdb:(x==("__debug__":Str))=false:=by decide)
  (he:starEach (e::es) X.env=(false,eval e X.env)::starEach es X.env:=by rfl) (hpl:(backTo pos (starEach es X.env)).any (·.1)=false:=by rfl):DE X Γ E (.Call (.Name x p) (e::es) [] pos) (oF n (dOf F) fr):=by
 obtain⟨f,fd,G,b,m,kk⟩:=Df.ex
 exact dcall (uI (okF_D G) (hr.mono hk) hg m kk b .nil uZ ha hdb he hpl)
theorem Ot{F:List D->Out (List (List D))}{fr:DSt->Out (List D)}(Df:Def X.prog X.w X.K X.mg X.base x k ps (Cq X.K Γ n F))(hr:dz j X.A)(ha:DA X Γ E (e::es) fr)(hk:k<=j:=by decide)(hg:Gl X x:=by rfl)(hdb:(x==("__debug__":Str))=false:=by decide)
  (he:starEach (e::es) X.env=(false,eval e X.env)::starEach es X.env:=by rfl) (hpl:(backTo pos (starEach es X.env)).any (·.1)=false:=by rfl):DE X Γ E (.Call (.Name x p) (e::es) [] pos) (oF n (dOff F) fr):=by
 obtain⟨f,fd,G,b,m,kk⟩:=Df.ex
 exact dcall (uI (okFF_D G) (hr.mono hk) hg m kk b .nil uZ ha hdb he hpl)
theorem ncallF{F:List D->Out (List D)}{fr:DSt->Out (List D)}(Df:Def X.prog X.w X.K X.mg X.base x k ps (spF X.K Γ n F))(hr:dz j X.A)(ha:DA X Γ E (e::es) fr)(hk:k<=j:=by decide)(hg:Gl X x:=by rfl)(hdb:(x==("__debug__":Str))=false:=by decide)
  (he:starEach (e::es) X.env=(false,eval e X.env)::starEach es X.env:=by rfl) (hpl:(backTo pos (starEach es X.env)).any (·.1)=false:=by rfl):DF X Γ E (.Call (.Name x p) (e::es) [] pos) (oFl n F fr):=by
 obtain⟨f,fd,G,b,m,kk⟩:=Df.ex
 exact dcallF (uI G (hr.mono hk) hg m kk b .nil uZ ha hdb he hpl)
theorem ncallFF{F:List D->Out (List (List D))}{fr:DSt->Out (List D)}(Df:Def X.prog X.w X.K X.mg X.base x k ps (Cq X.K Γ n F))(hr:dz j X.A)(ha:DA X Γ E (e::es) fr)(hk:k<=j:=by decide)(hg:Gl X x:=by rfl)(hdb:(x==("__debug__":Str))=false:=by decide)
  (he:starEach (e::es) X.env=(false,eval e X.env)::starEach es X.env:=by rfl) (hpl:(backTo pos (starEach es X.env)).any (·.1)=false:=by rfl):DFF X Γ E (.Call (.Name x p) (e::es) [] pos) (oFl n F fr):=by
 obtain⟨f,fd,G,b,m,kk⟩:=Df.ex
 exact dcallFF (uI G (hr.mono hk) hg m kk b .nil uZ ha hdb he hpl)
theorem J6{c n:Nat}{C:Addr}{F:List D->Out (List (Str×D))}{fr:DSt->Out (List D)}(N:Ini X.prog X.w X.K X.mg X.base C k ps (spI X.K Γ c n F))(hr:dz j X.A)(hm:X.mg x=some (.ref C))(ha:DA X Γ E (e::es) fr)(hC:Γ c=some C:=by rfl)(hk:k+1<=j:=by decide)(hg:Gl X x:=by rfl)
  (hdb:(x==("__debug__":Str))=false:=by decide) (he:starEach (e::es) X.env=(false,eval e X.env)::starEach es X.env:=by rfl) (hpl:(backTo pos (starEach es X.env)).any (·.1)=false:=by rfl):DE X Γ E (.Call (.Name x p) (e::es) [] pos) (oMk c n F fr):=by
 obtain⟨f,fd,M,G,b⟩:=N.ex
 exact dmake hC (pe_make M G (hr.mono hk) hg hm b .nil uZ ha hdb he hpl)
theorem nmake0{c n:Nat}{C:Addr}{F:List D->Out (List (Str×D))}(N:Ini X.prog X.w X.K X.mg X.base C k ps (spI X.K Γ c n F))(hr:dz j X.A)(hm:X.mg x=some (.ref C))(hC:Γ c=some C:=by rfl)(hk:k+1<=j:=by decide)(hg:Gl X x:=by rfl)
  (hdb:(x==("__debug__":Str))=false:=by decide):DE X Γ E (.Call (.Name x p) [] [] pos) (oMk c n F aK):=by
 obtain⟨f,fd,M,G,b⟩:=N.ex
 exact dmake0 hC (pe_make0 M G (hr.mono hk) hg hm b .nil uZ hdb)
end
theorem ngc{i:Nat}(hN:X.N.Nodup:=by(show List.Nodup (_::_));decide +kernel)(hi:X.N[i]?=some x:=by rfl)(hx:Loc X.env.scope x:=by first | exact Or.inl rfl | exact Or.inr rfl)(hf:X.fn x=true∨X.env.scope.names.lookup x=some .local:=by first | exact .inl rfl | exact .inr rfl | assumption):DG X Γ (.Name x pos) (gN i):=Oa (zZ hN hi hx hf)
theorem tE{M:List (Nat×(List D->Out D))}{fo:DSt->Out D}{pl:Sem Bool}(hM:nJ X.prog X.w X.K X.mg X.base Γ m (spD X.K Γ n) k M)(hr:dz j X.A)(he:DE X Γ E o fo)(hk:k<=j:=by decide)
  (ht:eval (.Call (.Attribute o m apos) [] [] pos) X.env=(do
   let ov ←eval o X.env
   standAt apos.atName
   let (f,first) ←holding [ov] (getMethod ov m pl)
   callWith pos f first (backTo pos (starEach [] X.env)) (backToKw pos (keywordEach [] X.env))):=by rfl):DE X Γ E (.Call (.Attribute o m apos) [] [] pos) (oM m n M fo aK):=de_meth0 (Qy (hM.ok (hr.mono hk)) uZ he ht)
theorem napp(i:Nat){fa:DSt->Out D}{cpos:Pos}(he:DE X Γ E e fa)(hv:PE X (.Name x p) (iI i):=by exact pv _)(hh:∀{to te:TE},PE X (.Name x p) to->PE X e te->PS X (.Expr (.Call (.Attribute (.Name x p) "append" apos) [e] [] cpos) pos) (uq (tBM X.K "list" uK to (jE te qJ))):=by exact λa b=>nA (Km PySem.F.plainAttrs_list PySem.F.slot_list_append PySem.F.type_list_append uH a (bD b dw))):
  DS X Γ E (.Expr (.Call (.Attribute (.Name x p) "append" apos) [e] [] cpos) pos) (Cg i fa):=ds_app i hv he hh
variable{iter tg:Expr}{body:List Stmt}
theorem uN{fi:DSt->Out (List D)}{t:D->DSt->Option DSt}{g:DSt->Out Fl}(hi:DI X Γ E tg iter fi)(hg:DG X Γ tg t)(hb:DSs X Γ E body g)(hp:PassesOwn (model X.prog X.w) X.A X.env X.xe:=by exact PassesOwn.never)(hc:X.calm=true:=by rfl)(hs:∀x,foldedSetIterable iter X.env x=pure x:=by intro _;rfl):DS X Γ E (.For tg iter body [] pos) (dB fi t g):=ds_for (λa b c=>ps_for hp hc a b c hs) hi hg hb
theorem nwhile(fuel:DSt->Nat){ft:DSt->Out Bool}{g:DSt->Out Fl}(hc:DT X Γ E c ft)(hb:DSs X Γ E body g)(hp:PassesOwn (model X.prog X.w) X.A X.env X.xe:=by exact PassesOwn.never):DS X Γ E (.While c body [] pos) (Nm fuel ft g):=ds_while fuel (λa b=>ps_while hp a b) hc hb
end
end DL
namespace DL
open PySem PySem.Spec PyProof.Rows MX L2 PySem.Builtin PySem.Builtin.Str
section
variable{X:Cx}{pins:List (Addr×Obj)}{σ:L2.St}{H:Hp}{s:Shared}{Q:VK}
end
section
variable{X:Cx}{Γ:Nat->Option Addr}{E:XK}{e a b c o:Expr}{pos:Pos}{es:List Expr}{fa fb fo:DSt->Out D}{fr:DSt->Out (List D)}{ft:DSt->Out Bool}{K:Frag}{G H:Hp}
noncomputable def dIx(i:Nat)(fk:DSt->Out D):DSt->Out D:=λδ=>match Ba i δ with
 | some kvs=>(fk δ).bind λk=>match zj k with
  | some key=>.opt (d9 kvs key)
  | none=>.stuck
 | none=>.stuck
theorem de_dix(i:Nat){x:Str}{p:Pos}(hu:X.A.units+64<cLine)(hv:PE X (.Name x p) (iI i))(ha:DE X Γ E a fa)(hs:NoSl a):DE X Γ E (.Subscript (.Name x p) a pos) (dIx i fa) :=
 PE.imp (pe_dget (by omega) hv ha hs) λσ H Q qq=>by
  obtain⟨G0,H0,G,δ,S,w⟩:=qq;unfold dIx at w
  split at w
  .rename_i kds ek
   obtain⟨aa,vs,hvi,h1,r⟩:=S.dk ek
   refine⟨_,hvi,G0,H0,G,δ,S,(aj w).mono (λd w u G1 H1 s1 r1=>?_) λ_ k=>k⟩
   split at w
   .rename_i key ekey
    have e:=r1.key ekey
    subst e
    obtain⟨d',e',k⟩:=bB w
    rcases (r.mono s1.gg).get (k:=key) with⟨z1,z2⟩| ⟨v,d'',z1,z2,z3⟩
    .rw[z2] at e';cases e'
    .rw[z2] at e'
     cases e'
     exact⟨aa,v,rfl,z1▸n6.k (s1.hh _ _ h1),k _ G1 H1 s1 z3⟩
   .exact False.elim w
  .exact False.elim w
end
end DL
namespace MX
open PySem PySem.Spec PyProof.Rows L2
section
variable{prog:Program}{w:World}{A:Around}{E:Value->Shared->Prop}{s:Shared}
theorem MP{it a:Addr}{n:Nat}{us:Array Value}{u:Value}{Q:Value->Shared->Prop}(r:s.heap.IsTupleIter it a n)(q:s.heap.IsTuple a us)(e:us[n]?=some u)
  (k:∀h1,h1.IsTupleIter it a (n+1)->Heap.SameBut it s.heap h1->Q u { s with heap:=h1 }):wpAny (model prog w) A (Builtin.SmallTypes.nextOf (.ref it)) Q E s:=by
 have ⟨o1,g1,c1,d1⟩:=r
 have ⟨o2,g2,_,m2,d2⟩:=q
 rw[Builtin.SmallTypes.nextOf]
 apply wpAny_bind
 apply wpAny_callSpecial?_slot (name:=Str.ofString "__next__") r.typeIs F.slot_tuple_iterator_next
 apply wpAny_call_entry F.slot_tuple_iterator_next r.typeIs F.entry_tuple_iterator_next _ (F.args_tuple_iterator_next_1 _)
 change wpAny _ _ (field _ 0 >>= _) _ _ _
 refine wpAny_bind (wpAny_field (i:=0) g1 d1 (x:=.ref a) rfl ?_)
 have nn:(Value.ref a==Value.none)=false:=rfl
 change wpAny _ _ (ite _ _ _) _ _ _
 rw[nn,if_neg Bool.false_ne_true]
 change wpAny _ _ (field _ 1 >>= _) _ _ _
 refine wpAny_bind (wpAny_field (i:=1) g1 d1 (x:=.int n 0) rfl ?_)
 change wpAny _ _ (seqItems? _ >>= _) _ _ _
 refine wpAny_bind (wpAny_seqItems g2 d2 ?_)
 simp only[e,Int.toNat_natCast]
 refine wpAny_bind (wpAny_setField g1 d1 (by simp) (wpAny_pure ⟨u,rfl,wpAny_pure (k _ ⟨_,Heap.get?_update_self _ g1 (Obj.isFreed_of_fields (Obj.data_mapFields d1 _)),?_,?_⟩ (Heap.SameBut.update ..))⟩))
 .rw[Obj.cls_mapFields,c1]
 .rw[Obj.data_mapFields d1,rawInt];simp
theorem Qq{it a:Addr}{n:Nat}{us:Array Value}{Q:Value->Shared->Prop}(hd:A.handled=none)(r:s.heap.IsTupleIter it a n)(q:s.heap.IsTuple a us)(e:us[n]?=none)
  (k:∀h1 x,Heap.ExtBut it s.heap h1->(∃o,h1.get? x=some o/\o.cls=.type "StopIteration")->E (.ref x) { s with heap:=h1 }):wpAny (model prog w) A (Builtin.SmallTypes.nextOf (.ref it)) Q E s:=by
 have ⟨o1,g1,c1,d1⟩:=r
 have ⟨o2,g2,_,m2,d2⟩:=q
 rw[Builtin.SmallTypes.nextOf]
 apply wpAny_bind
 apply wpAny_callSpecial?_slot (name:=Str.ofString "__next__") r.typeIs F.slot_tuple_iterator_next
 apply wpAny_call_entry F.slot_tuple_iterator_next r.typeIs F.entry_tuple_iterator_next _ (F.args_tuple_iterator_next_1 _)
 change wpAny _ _ (field _ 0 >>= _) _ _ _
 refine wpAny_bind (wpAny_field (i:=0) g1 d1 (x:=.ref a) rfl ?_)
 have nn:(Value.ref a==Value.none)=false:=rfl
 change wpAny _ _ (ite _ _ _) _ _ _
 rw[nn,if_neg Bool.false_ne_true]
 change wpAny _ _ (field _ 1 >>= _) _ _ _
 refine wpAny_bind (wpAny_field (i:=1) g1 d1 (x:=.int n 0) rfl ?_)
 change wpAny _ _ (seqItems? _ >>= _) _ _ _
 refine wpAny_bind (wpAny_seqItems g2 d2 ?_)
 simp only[e,Int.toNat_natCast]
 refine wpAny_bind (wpAny_rule (wpAny_bind (wpAny_setField g1 d1 (by simp) ?_)))
 change wpAny _ _ (newExc _ _ >>= _) _ _ _
 apply wpAny_bind
 simp only[newExc,newTuple]
 refine wpAny_bind (wpAny_newObj_type (wpAny_bind (m:=firstArgMember _ _) (wpAny_of_eq (a:=Value.none) (by first | rfl | (simp only[firstArgMember];rfl)) ?_)) (by size_fits))
 refine wpAny_newObj_type ?_ (by size_fits)
 rw[raiseNew]
 apply wpAny_bind
 apply wpAny_handled
 first | rw[hd] | rw[show A.in1.handled=none from hd]
 refine wpAny_bind (wpAny_pure (wpAny_throw (k _ _ (((Heap.SameBut.update ..).extBut.push _).push _) ⟨_,Heap.get?_push_size _ rfl,rfl⟩)))
theorem LC{e it a:Addr}{n:Nat}{us:Array Value}{u o0:Value}{Q:Option Value->Shared->Prop}(r0:IsEnum s.heap e it n o0)(r:s.heap.IsTupleIter it a n)(q:s.heap.IsTuple a us)(hu:us[n]?=some u)(ne:e≠it)
  (k:∀h1,IsEnumOut h1 e it ((n:Int)+1) u s.heap.objs.size->h1.IsTupleIter it a (n+1)->h1.get? s.heap.objs.size=some { cls:=.type "tuple",data:=.seq #[.int n s.toks,u] } ->
   (∀b o,b≠e->b≠it->s.heap.get? b=some o->h1.get? b=some o)->Q (some (.ref s.heap.objs.size)) { s with heap:=h1,toks:=s.toks+1 }):wpAny (model prog w) A (pyNext (.ref e)) Q E s:=by
 have ty:s.TypeIs (.ref e) "enumerate":=⟨_,r0,rfl⟩
 rw[pyNext]
 apply wpAny_bind
 apply wpAny_attempt
 apply wpAny_callSpecial?_slot (name:=Str.ofString "__next__") ty F.slot_enumerate_next
 apply wpAny_call_entry F.slot_enumerate_next ty F.entry_enumerate_next _ (F.args_enumerate_next_1 _)
 rcases s with⟨g0,gn,dr,tk,os⟩
 change wpAny _ _ (field _ 2 >>= _) _ _ _
 refine wpAny_bind (wpAny_field r0 rfl (x:=.ref it) rfl (wpAny_bind (MP r q hu λg1 r1 b1=>?_)))
 have b1:Heap.SameBut it g0 g1:=b1
 have x1:IsEnum g1 e it n o0:=by have z:=b1.2 e ne;exact z.trans r0
 change wpAny _ _ (field _ 3 >>= _) _ _ ⟨g1,gn,dr,tk,os⟩
 refine wpAny_bind (wpAny_field x1 rfl (x:=rawInt n) rfl ?_)
 change wpAny _ _ (field _ 4 >>= _) _ _ ⟨g1,gn,dr,tk,os⟩
 refine wpAny_bind (wpAny_field x1 rfl (x:=.none) rfl ?_)
 change wpAny _ _ (mkInt n >>= _) _ _ ⟨g1,gn,dr,tk,os⟩
 apply wpAny_bind
 apply wpAny_mkInt
 change wpAny _ _ (setField _ 3 (rawInt ((n:Int)+1)) >>= _) _ _ ⟨g1,gn,dr,tk+1,os⟩
 refine wpAny_bind (wpAny_setField_rec x1 (by simp) λg2 x2 b2=>?_)
 have b2:Heap.SameBut e g1 g2:=b2
 have x2:IsEnum g2 e it ((n:Int)+1) o0:=x2
 change wpAny _ _ (setField _ 4 _ >>= _) _ _ ⟨g2,gn,dr,tk+1,os⟩
 refine wpAny_bind (wpAny_setField_rec x2 (by simp) λg3 x3 b3=>?_)
 have b3:Heap.SameBut e g2 g3:=b3
 have x3:IsEnum g3 e it ((n:Int)+1) o0:=x3
 change wpAny _ _ (newTuple [.int n tk,u] >>= _) _ _ ⟨g3,gn,dr,tk+1,os⟩
 refine wpAny_bind (wpAny_newTuple ?_)
 have x4:IsEnum (g3.push { cls:=.type "tuple",data:=.seq #[.int n tk,u] }) e it ((n:Int)+1) o0:=Heap.get?_push_of_some _ x3
 have z3:g3.objs.size=g0.objs.size:=b3.1.trans (b2.1.trans b1.1)
 have t4:(g3.push { cls:=.type "tuple",data:=.seq #[.int n tk,u] }).get? g0.objs.size=some { cls:=.type "tuple",data:=.seq #[.int n tk,u] }:=z3▸Heap.get?_push_size _ rfl
 have k4:∀b o,b≠e->b≠it->g0.get? b=some o->(g3.push { cls:=.type "tuple",data:=.seq #[.int n tk,u] }).get? b=some o:=λb o n1 n2 y =>
  Heap.get?_push_of_some _ (b3.extBut b o n1 (b2.extBut b o n1 (b1.extBut b o n2 y)))
 have i4:(g3.push { cls:=.type "tuple",data:=.seq #[.int n tk,u] }).IsTupleIter it a (n+1):=by
  have ⟨o,y,z⟩:=(r1.extBut b2.extBut (Ne.symm ne)).extBut b3.extBut (Ne.symm ne)
  exact⟨o,Heap.get?_push_of_some _ y,z⟩
 generalize g3.push { cls:=.type "tuple",data:=.seq #[.int n tk,u] }=g4 at x4 t4 k4 i4
 rw[z3]
 have le:g0.objs.size≠e:=Nat.ne_of_gt (Heap.lt_size r0)
 change wpAny _ _ (Builtin.SmallTypes.ownedTupleIsFree _ >>= _) _ _ ⟨g4,gn,dr,tk+1,os⟩
 apply wpAny_bind
 rw[Builtin.SmallTypes.ownedTupleIsFree]
 refine wpAny_bind (wpAny_field x4 rfl (x:=.none) rfl (wpAny_pure ?_))
 rw[if_pos rfl]
 refine wpAny_bind (wpAny_rule (wpAny_bind (wpAny_field x4 rfl (x:=o0) rfl (wpAny_bind (wpAny_setField_rec x4 (by simp) λg5 x5 b5=>?_)))))
 have b5:Heap.SameBut e g4 g5:=b5
 have x5:IsEnum g5 e it ((n:Int)+1) u:=x5
 change wpAny _ _ (Builtin.SmallTypes.ownedTupleHandOut _ (.ref g0.objs.size) >>= _) _ _ ⟨g5,gn,dr,tk+1,os⟩
 apply wpAny_bind
 rw[Builtin.SmallTypes.ownedTupleHandOut]
 refine wpAny_bind (wpAny_setField_rec x5 (by simp) λg6 x6 b6=>?_)
 have b6:Heap.SameBut e g5 g6:=b6
 have x6:IsEnumOut g6 e it ((n:Int)+1) u g0.objs.size:=x6
 refine wpAny_setField_rec x6 (by simp) λg7 x7 b7=>?_
 have b7:Heap.SameBut e g6 g7:=b7
 have x7:IsEnumOut g7 e it ((n:Int)+1) u g0.objs.size:=x7
 have up:∀b o,b≠e->g4.get? b=some o->g7.get? b=some o:=λb o n1 y=>b7.extBut b o n1 (b6.extBut b o n1 (b5.extBut b o n1 y))
 refine wpAny_bind (wpAny_letGo (wpAny_pure ⟨_,rfl,wpAny_pure (k g7 x7 ?_ (up _ _ le t4) λb o n1 n2 y=>up b o n1 (k4 b o n1 n2 y))⟩))
 have ⟨o,y,z⟩:=i4
 exact⟨o,up _ _ (Ne.symm ne) y,z⟩
theorem PB{e it a:Addr}{n:Nat}{us:Array Value}{o0:Value}{Q:Option Value->Shared->Prop}(hd:A.handled=none)(r0:IsEnum s.heap e it n o0)(r:s.heap.IsTupleIter it a n)(q:s.heap.IsTuple a us)(hu:us[n]?=none)
  (k:∀h1,Heap.ExtBut it s.heap h1->Q none { s with heap:=h1 }):wpAny (model prog w) A (pyNext (.ref e)) Q E s:=by
 have ty:s.TypeIs (.ref e) "enumerate":=⟨_,r0,rfl⟩
 rw[pyNext]
 apply wpAny_bind
 apply wpAny_attempt
 apply wpAny_callSpecial?_slot (name:=Str.ofString "__next__") ty F.slot_enumerate_next
 apply wpAny_call_entry F.slot_enumerate_next ty F.entry_enumerate_next _ (F.args_enumerate_next_1 _)
 change wpAny _ _ (field _ 2 >>= _) _ _ _
 refine wpAny_bind (wpAny_field r0 rfl (x:=.ref it) rfl (wpAny_bind (Qq hd r q hu λg1 x b1 qq=>?_)));obtain⟨o,y,z⟩:=qq
 exact wpAny_bind (wpAny_isInstance (T:="StopIteration") (b:=true) ⟨o,y,z⟩ isSubtype_stop (wpAny_pure (k _ b1)))
abbrev eT(it:Addr):Obj:={ cls:=.type "enumerate",data:=.fields #[.none,.bool false,.ref it,rawInt 0,.none,.none] }
abbrev iT(a:Addr):Obj:={ cls:=.type "tuple_iterator",data:=.fields #[.ref a,.int 0 0] }
theorem J3(a:Addr)(us:Array Value)(n:Nat)(dc:Option Addr)(sl:Array (Option Value)):Meets (Builtin.«enumerate.__new__» ⟨[.type "enumerate",.ref a],[]⟩) (λ_ R s=>s.heap.get? a=some { cls:=.type "tuple",dict:=dc,data:=.seq us n,slots:=sl } /\
   R (.ok (.ret (.ref (s.heap.push (iT a)).objs.size))) { s with heap:=(s.heap.push (iT a)).push (eT s.heap.objs.size) }):=.of_wp λprog w A R s y=>by
 rcases s with⟨g0,gn,dr,tk,os⟩
 rcases y with⟨y,z⟩
 have hsub:=sub_enumerate
 have q:Heap.IsTuple (Shared.heap ⟨g0,gn,dr,tk,os⟩) a us:=⟨_,y,rfl,n,rfl⟩
 wp_walk using AutoSeq1.wpAny_loadPart' y
 refine wpAny_stack_any λst=>wpAny_pure ?_
 split
 .rename_i c _ _ _ _ _
  cases (c==Value.type "enumerate") <;> (wp_walk using AutoSeq1.wpAny_loadPart' y,wpAny_pyIter_tuple q;exact⟨_,rfl,z⟩)
 .wp_walk using AutoSeq1.wpAny_loadPart' y,wpAny_pyIter_tuple q
  exact⟨_,rfl,z⟩
theorem Ln{a:Addr}{us:Array Value}{Q:Value->Shared->Prop}(q:s.heap.IsTuple a us)
  (k:∀h1,IsEnum h1 (s.heap.objs.size+1) s.heap.objs.size 0 .none->h1.IsTupleIter s.heap.objs.size a 0->(∀b o,s.heap.get? b=some o->h1.get? b=some o)->Q (.ref (s.heap.objs.size+1)) { s with heap:=h1 }) :
  wpAny (model prog w) A (call (.type "enumerate") [.ref a]) Q E s:=by
 obtain⟨⟨c,dc,dt,sl⟩,y,e1,n,e2⟩:=q
 cases (show c=.type "tuple" from e1)
 cases (show dt=.seq us n from e2)
 refine callType_new F.called_enumerate (by decide) (F.typeCall_enumerate_1 _) (F.newCall_enumerate_1 _) (λobj=>F.args_object_init_2 obj _) F.entry_enumerate_new (J3 a us n dc sl) ⟨y,?_⟩
 have sz:(s.heap.push (iT a)).objs.size=s.heap.objs.size+1:=Heap.size_push ..
 have ie:IsEnum ((s.heap.push (iT a)).push (eT s.heap.objs.size)) (s.heap.objs.size+1) s.heap.objs.size 0 .none:=sz▸Heap.get?_push_size _ rfl
 change _/\_
 rw[sz]
 exact⟨⟨_,ie,rfl⟩,k _ ie ⟨_,Heap.get?_push_of_some _ (Heap.get?_push_size _ rfl),rfl,rfl⟩ λb o x=>Heap.get?_push_of_some _ (Heap.get?_push_of_some _ x)⟩
end
def Iet(K:Frag)(a:Addr):It :=
 ⟨λi H=>∃xs x,SqT K H a xs/\xs[i]?=some x,λi H v H'=>∃p x,v=.ref p/\H p=none/\H'=upd H p (.tup [.int i,x])/\∀xs,SqT K H a xs->xs[i]?=some x,λi H=>∃xs,SqT K H a xs/\xs.length<=i⟩
theorem NQ{P:Program}{w:World}{K:Frag}{es:List Expr}{kk:Nat}{tp:Pos}(a e it:Addr)(hne:e≠it):
  Turn P w K (.Tuple es kk tp) (Iet K a) [e,it] e (λi h=>(∃old,IsEnum h e it (i:Nat) old)/\h.IsTupleIter it a i) where
 mem:=by simp
 obj:=λi h st b hb=>by
  obtain⟨⟨old,s1⟩,s2⟩:=st
  rcases List.mem_cons.mp hb with z | z
  .subst z
   exact⟨_,s1,λv q=>by
    have q':Data.fields _=Data.cell v:=q
    cases q'⟩
  .have z:b=it:=by simpa using z
   subst z
   obtain⟨o,e1,c,d⟩:=s2
   exact⟨o,e1,λv q=>by rw[d] at q;cases q⟩
 keep:=λi h h' st k=>by
  obtain⟨⟨old,s1⟩,s2⟩:=st
  exact⟨⟨old,k e (by simp) _ s1⟩,s2.at λo q=>k it (by simp) o q⟩
 item:=by
  intro X hP hw hK hc i pins s σ H E I hf st hg
  subst hP hw hK
  obtain⟨xs,x,hq,hx⟩:=hg
  obtain⟨⟨old,s1⟩,s2⟩:=st
  obtain⟨its,rv,p,hz⟩:=I.tuple hq
  obtain⟨u,hu,ru⟩:=rv.get hx
  refine LC s1 s2 (show s.heap.IsTuple a its.toArray from p) (u:=u) (by simpa using hu) hne λh1 eo li tu kk'=>⟨_,rfl,wpAny_letOwnedTupleGo_enum eo λh2 ie sb=>?_⟩
  have hp:H s.heap.objs.size=none:=I.hok.fresh (Nat.le_refl _)
  have lt1:e<s.heap.objs.size:=Heap.lt_size s1
  have ne1:s.heap.objs.size≠e:=Nat.ne_of_gt lt1
  have tu2:h2.get? s.heap.objs.size=some { cls:=.type "tuple",data:=.seq #[.int i s.toks,u] }:=(sb.2 _ ne1).trans tu
  have I2:Inv X pins σ (upd H s.heap.objs.size (.tup [.int i,x])) { s with heap:=h2,toks:=s.toks+1 }:=I.vN (ch:=[e,it]) hf (λb o hb q=>by
    have hb1:b≠e:=λz=>hb (by simp[z])
    have hb2:b≠it:=λz=>hb (by simp[z])
    exact(sb.2 b hb1).trans (kk' b o hb1 hb2 q)) (Nat.le_refl _) ⟨by show 2<=sizeLine;decide,[.int i s.toks,u],.cons ⟨_,rfl⟩ (.cons ru .nil),_,tu2,rfl,0,rfl⟩
  refine⟨.ref s.heap.objs.size,_,I2,rfl,⟨_,x,rfl,hp,rfl,λys hy=>by rw[I.Eu hy hq];exact hx⟩,⟨⟨u,?_⟩,?_⟩,λb hb=>?_⟩
  .have q:IsEnum h2 e it ((i:Int)+1) u:=ie
   rw[show ((i:Int)+1)=((i+1:Nat):Int) by omega] at q
   exact q
  .obtain⟨o,e1,r⟩:=li
   exact⟨o,(sb.2 it (Ne.symm hne)).trans e1,r⟩
  .have lt2:b<s.heap.objs.size:=by
    rcases List.mem_cons.mp hb with z | z
    .rw[z];exact lt1
    .have z:b=it:=by simpa using z
     rw[z]
     obtain⟨o,e1,_⟩:=s2
     exact Heap.lt_size e1
   rw[aF (Nat.ne_of_lt lt2)]
   exact(hf b hb).1
 done:=by
  intro X hP hw hK hc i pins s σ H E I hf st hg
  subst hP hw hK
  obtain⟨xs,hq,hx⟩:=hg
  obtain⟨⟨old,s1⟩,s2⟩:=st
  obtain⟨its,rv,p,hz⟩:=I.tuple hq
  obtain⟨f0,f1,f2,f3,f4,f5⟩:=hf it (by simp)
  have hl:=rv.length
  exact PB (I.ok.hd hc) s1 s2 (show s.heap.IsTuple a its.toArray from p) (by simp;omega) λh' eb=>⟨rfl,I.turned (t':=s.toks) (λb o hb q=>eb b o hb q) f0 f1 f3 f4 f5⟩
 self:=λ_ _ _ _ _ st h=>wpAny_pyIter_enum st.1.choose_spec h
section
variable{X:Cx}
def iEnumT(K:Frag)(ta:TA):TI:=λσ H R=>ta σ H λvs H1=>∃a,vs=[.ref a]/\(∃xs,SqT K H1 a xs)/\R (Iet K a) H1
theorem pi_enumT{es:List Expr}{kk:Nat}{tp:Pos}{l:Expr}{ta:TA}{p pos:Pos}(hg:Gl X "enumerate")(hm:X.mg "enumerate"=none)(ha:PA X [l] ta)(hs:starEach [l] X.env=[(false,eval l X.env)]:=by rfl):
  PI X (.Tuple es kk tp) (.Call (.Name "enumerate" p) [l] [] pos) (iEnumT X.K ta):=by
 intro pins s σ H R I h
 refine Call_ (xU I hg hm PyProof.Rows.boot_enumerate (PyProof.Rows.callWith_type1 (thn (ha pos pins s σ H _ I h) λus s1 ⟨vs,H1,I1,r1,q1⟩=>?_) hs rfl))
 obtain⟨a,e,⟨xs,hq⟩,q⟩:=q1
 subst e
 cases r1 with
 | cons r rr =>
  cases rr
  cases r
  obtain⟨its,rv,pl,hz⟩:=I1.tuple hq
  refine Ln (show s1.heap.IsTuple a its.toArray from pl) λh' ie li kp=>?_
  refine wpAny_pyIter_enum (it:=s1.heap.objs.size) (i:=0) (old:=.none) ie ?_
  have I2:Inv X pins σ H1 { s1 with heap:=h' }:=I1.kept (t':=s1.toks) kp
  refine⟨s1.heap.objs.size+1,[s1.heap.objs.size+1,s1.heap.objs.size],_,_,H1,rfl,I2,NQ a (s1.heap.objs.size+1) s1.heap.objs.size (Nat.succ_ne_self _),⟨⟨.none,ie⟩,li⟩,λb hb=>?_,q⟩
  have hb':s1.heap.objs.size<=b:=by
   rcases List.mem_cons.mp hb with z | z
   .rw[z];exact Nat.le_succ _
   .have z:b=s1.heap.objs.size:=by simpa using z
    exact Nat.le_of_eq z.symm
  obtain⟨g1,g2,g3,g4,g5,g6⟩:=I1.fpOk hb' (I1.hok.fresh hb')
  exact⟨g1,g2,g3,g4,g5,g6⟩
end
end MX
namespace DL
open PySem PySem.Spec PyProof.Rows MX L2
theorem K6{Γ:Nat->Option Addr}{K:Frag}{G:Hp}{a:Addr}{vs:List V}{ds:List D}(h:SqT K G a vs)(r:au K Γ G vs ds):Yl K Γ G (Iet K a) (fL 0 ds):=by
 refine⟨λi H s lt=>?_,λi G' H x H' d s s' y e=>?_,λi H s le=>⟨vs,SqT.same s h,by rw[uC] at le;rw[r.length];exact le⟩⟩
 .rw[uC] at lt
  obtain⟨v,e,_⟩:=r.get (i:=i) (d:=ds[i]) (by simp[lt])
  exact⟨vs,v,SqT.same s h,e⟩
 .obtain⟨p,x0,rfl,hp,rfl,y⟩:=y
  rw[xN] at e
  obtain⟨d0,e0,rfl⟩:=Option.map_eq_some_iff.mp e
  obtain⟨v,e1,e2⟩:=r.get e0
  have:=y vs (SqT.same (s.trans s') h)
  rw[e1] at this
  cases this
  refine⟨_,.new s' hp,.tup aG (.cons ?_ (.cons ((e2.mono s).mono (aY.up (aD s' hp))) .nil))⟩
  rw[Nat.zero_add]
  exact .int _
noncomputable def tupO:D->Option (List D)
 | .tup xs=>some xs
 | .rot xs=>some xs
 | _=>none
noncomputable def JH(f:DSt->Out D):DSt->Out (List D):=λδ=>(f δ).bind λd=>(Out.opt (tupO d)).bind λds=>.ok (fL 0 ds)
section
variable{X:Cx}{Γ:Nat->Option Addr}{E:XK}{a:Expr}{pos:Pos}{fa:DSt->Out D}
theorem di_enumT{es':List Expr}{kk:Nat}{tp p:Pos}(hg:Gl X "enumerate")(hm:X.mg "enumerate"=none)(ha:DE X Γ E a fa)(hs:starEach [a] X.env=[(false,eval a X.env)]:=by rfl):DI X Γ E (.Tuple es' kk tp) (.Call (.Name "enumerate" p) [a] [] pos) (JH fa) :=
 PI.imp (pi_enumT hg hm (bD ha dw (by rw[hs];rfl)) hs) λσ H R qq=>by
  obtain⟨G0,H0,G,δ,S,w⟩:=qq;refine⟨G0,H0,G,δ,S,(aj w).mono (λd w v G1 H1 s1 r1=>?_) λ_ k=>k⟩
  obtain⟨ds,e,w⟩:=bB (aj w)
  unfold tupO at e
  split at e
  .cases e
   cases r1 with
   | tup h r=>exact⟨_,rfl,⟨_,SqT.of (s1.gh _ _ h)⟩,w _ G1 H1 s1 (K6 (SqT.of h) r)⟩
  .cases e
   cases r1 with
   | rot h r=>exact⟨_,rfl,⟨_,SqT.same s1.gh h⟩,w _ G1 H1 s1 (K6 h r)⟩
  .cases e
end
end DL
namespace DL
open PySem PySem.Spec PyProof.Rows MX L2
section
variable{X:Cx}{Γ:Nat->Option Addr}{E:XK}{a:Expr}{pos p:Pos}{fa:DSt->Out D}
variable{b e:Expr}{fb:DSt->Out D}
noncomputable def Ku(i:Nat)(fk fe:DSt->Out D):DSt->Out Fl:=λδ=>match δ[i]? with
 | some (some (.oll dss))=>(fk δ).bind λk=>match k with
  | .int k=>match ixN dss.length k with
   | some j=>(fe δ).bind λd=>if (dss.getD j []).length<sizeLine then .ok (.nx (δ.set i (some (.oll (dss.set j (dss.getD j []++[d])))))) else .stuck
   | none=>.stuck
  | _=>.stuck
 | _=>.stuck
theorem ds_app2(i:Nat){x m:Str}{p p3 apos cpos:Pos}(hv:PE X (.Name x p) (iI i))(hb:DE X Γ E b fb)(he:DE X Γ E e fa)(hh:∀{to te:TE},PE X (.Subscript (.Name x p) b p3) to->PE X e te->PS X (.Expr (.Call (.Attribute (.Subscript (.Name x p) b p3) m apos) [e] [] cpos) pos) (uq (tBM X.K "list" uK to (jE te qJ))))(hs:vU b:=by exact λ_ _=>rfl):
  DS X Γ E (.Expr (.Call (.Attribute (.Subscript (.Name x p) b p3) m apos) [e] [] cpos) pos) (Ku i fb fa) :=
 PS.imp (hh (pe_ix GJ hv hb hs) he) λN σ H qq=>by
  obtain⟨G0,H0,G,δ,S,w⟩:=qq;obtain⟨O,q⟩:=id S.sl
  unfold Ku at w
  split at w
  .rename_i dss ei
   obtain⟨v,hvi,aa,vs,ev,h1,h2,h3,h4,h5,h6⟩:=id (q i _ ei)
   subst ev
   refine⟨_,hvi,G0,H0,G,δ,S,(aj w).mono (λd2 w u2 G2 H2 s2 r2=>?_) λx k=>exD.step k S.st⟩
   split at w
   .rename_i k
    split at w
    .rename_i j hj
     cases r2
     have S2:=S.step s2
     have lt:=ixN_lt hj
     have I6:=h6.step s2
     obtain⟨bb,ws,z1,z2,z3,z4,z5,z6⟩:=I6.at (j:=j) (ds:=dss[j]) (by simp[lt])
     have gd:dss.getD j []=dss[j]:=by simp[lt]
     refine⟨aa,vs,k,.ref bb,rfl,rfl,SqL.of (s2.hh _ _ h1),by unfold atI;rw[h6.length,hj];exact z1,.inl ⟨rfl,ws,SqL.of z2⟩,G0,H0,G2,δ,S2,(aj w).mono (λd3 w u3 G3 H3 s3 r3=>?_) λx k=>exD.step k S2.st⟩
     split at w
     .rename_i hz
      have S3:=S2.step s3
      have I7:=I6.step s3
      have q1:∀i s,δ[i]?=some (some s)->∃v,σ[i]?=some (some v)/\cC X.K Γ H0 G3 H3 O i v s:=λj y e=>by
       obtain⟨v',z1,z2⟩:=q j y e
       exact⟨v',z1,(z2.step s2).step s3⟩
      have ga:G3 aa=none:=s3.sep aa (by rw[s2.hh _ _ h1];exact λz=>nomatch z) (s2.sep aa (by rw[h1];exact λz=>nomatch z) h2)
      have gb:G3 bb=none:=s3.sep bb (by rw[z2];exact λz=>nomatch z) z3
      have ne:aa≠bb:=λz=>h5 (by rw[z];exact List.mem_of_getElem? z1)
      rw[gd] at hz w
      refine⟨bb,ws,u3,rfl,rfl,s3.hh _ _ z2,by rw[z6.length];exact hz,w σ G3 _ (S3.write q1 gb z4 z5 hvi ?_)⟩
      exact⟨aa,vs,rfl,(aF ne).trans (s3.hh _ _ (s2.hh _ _ h1)),ga,h3,h4,h5,I7.put ((z6.mono s3.gg).append (.cons r3 .nil)) z1⟩
     .exact False.elim w
    .exact False.elim w
   .exact False.elim w
  .exact False.elim w
end
end DL
namespace L2
open PySem PySem.Spec PyProof.Rows
section
variable{X:Cx}{pins:List (Addr×Obj)}{σ σ0:St}{H H0:Hp}{s s0:Shared}{a:Addr}{o:Obj}{kvs:List (Key×V)}
theorem Inv.fixed(I:Inv X pins σ H s)(e:H a=some (.dK kvs))(ho:s.heap.get? a=some o):Inv X pins σ (upd H a (.frz o (.dK kvs))) s :=
 I.write (h':=s.heap) (t':=s.toks) (by rw[e];trivial) (.inl rfl) (λ_ _ _ z=>z) ⟨o,ho⟩ ⟨ho,(I.hok a _ e).stay (λ_ _ _ z=>z) (λb z=>by rw[aF (ne_of z e (λq=>nomatch q))];exact z) λb xs z=>by rw[aF (ne_of z e (λq=>nomatch q))];exact z⟩
theorem Inv.thaw(I0:Inv X pins σ0 H0 s0)(e0:H0 a=some (.dK kvs))(I:Inv X pins σ H s)(e:H a=some (.frz o (.dK kvs))):Inv X pins σ (upd H a (.dK kvs)) s:=by
 have ne:∀{b:Addr}{u:HO},H b=some u->(∀p q,u≠.frz p q)->upd H a (.dK kvs) b=some u:=fun{b u} q n=>by
  rw[aF (λz=>by subst z;rw[e] at q;cases q;exact n _ _ rfl)]
  exact q
 have no:∀{b:Addr},H b=none->upd H a (.dK kvs) b=none:=fun{b} q=>by
  rw[aF (λz=>by subst z;rw[e] at q;cases q)]
  exact q
 refine⟨I.ok,I.os,I.bare,⟨I.base.keep,I.base.slot,λb ob q n x=>no (I.base.free b ob q n x),I.base.there,λb xs q=>ne (I.base.tups b xs q) (λ_ _ z=>nomatch z),λb ob u q=>?_,λb ps q=>?_⟩,I.loc,I.cell,no I.free,λx c q=>no (I.sE x c q),λp hp=>let ⟨q1,q2,q3⟩:=I.pin p hp;⟨q1,no q2,q3⟩,λb u q=>?_,I.len⟩
 .rw[aF (λz=>by
   subst z
   have:=I0.base.vp _ ob u q
   rw[e0] at this
   cases this)]
  exact I.base.vp b ob u q
 .obtain⟨m,z⟩:=I.base.yg b ps q
  exact⟨m,ne z (λ_ _ z=>nomatch z)⟩
 .by_cases z:b=a
  .subst z
   rw[aG] at q
   cases q
   exact(show cF X.prog X.w H s.heap b (.frz o (.dK kvs)) from I.hok b _ e).2.stay (λ_ _ _ y=>y) (λc y=>ne y (λ_ _ z=>nomatch z)) λc xs y=>ne y (λ_ _ z=>nomatch z)
  .rw[aF z] at q
   exact(I.hok b u q).stay (λ_ _ _ y=>y) (λc y=>ne y (λ_ _ z=>nomatch z)) λc xs y=>ne y (λ_ _ z=>nomatch z)
end
def tThaw(te:TE):TE:=λσ H Q=>∃a kvs,H a=some (.dK kvs)/\te σ H λv H1=>∃o,H1 a=some (.frz o (.dK kvs))/\Q v (upd H1 a (.dK kvs))
theorem pe_thaw{X:Cx}{e:Expr}{te:TE}(h:PE X e te):PE X e (tThaw te):=by
 rintro pins s σ H Q I ⟨a,kvs,e,q⟩
 exact thn (h pins s σ H _ I q) λv s1 ⟨x,H1,I1,r,o,e1,q1⟩=>⟨x,_,I.thaw e I1 e1,r,q1⟩
theorem rel_key{P:Program}{w:World}{k:Key}{u:Value}(h:(bw P w).is k u=true):RelV (kV k) u:=by
 rcases bC (show wA k u=true from h) with⟨i,t,rfl,rfl⟩| ⟨x,t,rfl,rfl⟩
 .exact⟨t,rfl⟩
 .exact⟨t,rfl⟩
theorem KV.at{kvs:List (Key×V)}{vs:List (Key×Value)}(r:KV kvs vs){i:Nat}(h:i<kvs.length):∃x,vs[i]?=some ((kvs[i]).1,x)/\RelV (kvs[i]).2 x:=by
 induction r generalizing i with
 | nil=>simp at h
 | cons q t ih =>
  cases i with
  | zero=>exact⟨_,by simp[q.1],q.2⟩
  | succ i=>exact ih (by simpa using h)
theorem Od{H H':Hp}{a acc:Addr}{u:HO}{f:HO}{l:HO}(ha:H a=some u)(ne:acc≠a)(e:H'=upd (upd H a f) acc l):upd H' a u=upd H acc l:=by
 subst e
 funext b
 by_cases z1:b=a
 .subst z1;rw[aG,aF (Ne.symm ne),ha]
 .rw[aF z1]
  by_cases z2:b=acc
  .subst z2;rw[aG,aG]
  .rw[aF z2,aF z2,aF z1]
end L2
namespace DL
open PySem PySem.Spec PyProof.Rows MX L2
noncomputable def keyDD:Key->D
 | .inl i=>.int i
 | .inr x=>.str x
theorem QF{K:Frag}{Γ:Nat->Option Addr}{G:Hp}(k:Key):Rep K Γ G (kV k) (keyDD k):=by
 cases k with
 | inl i=>exact .int i
 | inr x=>exact .str x
section
variable{X:Cx}{Γ:Nat->Option Addr}{E:XK}{e:Expr}
end
end DL
namespace QS
open PySem PySem.W PyProof.Rows
abbrev Cmp:=Nat->Nat->(Bool->Shared->Prop)->Shared->Prop
def Ans(cmp:Cmp)(key:Nat->Int)(n:Nat)(s:Shared):Prop:=∀i j C,i<n->j<n->C (decide (key i<key j)) s->cmp i j C s
structure Pm(n:Nat)(p:Array Nat):Prop where
 perm:p.toList.Perm (List.range n)
noncomputable def at_(p:Array Nat)(i:Nat):Nat:=(p[i]?).getD 0
theorem getD_at(p:Array Nat)(i:Nat):p.getD i 0=at_ p i:=by simp[at_,Array.getD_eq_getD_getElem?]
section
variable{n:Nat}{p p':Array Nat}{key:Nat->Int}
theorem Pm.size(h:Pm n p):p.size=n:=by
 have:=h.perm.length_eq
 simpa using this
theorem Pm.lt(h:Pm n p){i:Nat}(hi:i<n):at_ p i<n:=by
 have hs:=h.size
 have:p[i]'(by omega)∈p.toList:=by simp
 have m:=h.perm.mem_iff.mp this
 unfold at_
 rw[Array.getElem?_eq_getElem (by omega)]
 simpa using m
theorem Pm.inj(h:Pm n p){i j:Nat}(hi:i<n)(hj:j<n)(e:at_ p i=at_ p j):i=j:=by
 have hs:=h.size
 have nd:p.toList.Nodup:=h.perm.nodup_iff.mpr List.nodup_range
 unfold at_ at e
 rw[Array.getElem?_eq_getElem (by omega),Array.getElem?_eq_getElem (by omega)] at e
 have pw:=List.pairwise_iff_getElem.mp nd
 have hi':i<p.toList.length:=by rw[Array.length_toList];omega
 have hj':j<p.toList.length:=by rw[Array.length_toList];omega
 rcases Nat.lt_trichotomy i j with h | h | h
 .exact absurd (by rw[Array.getElem_toList,Array.getElem_toList];simpa using e) (pw i j hi' hj' h)
 .exact h
 .exact absurd (by rw[Array.getElem_toList,Array.getElem_toList];simpa using e.symm) (pw j i hj' hi' h)
theorem Pm.of(h:Pm n p)(q:p'.Perm p):Pm n p':=⟨(Array.perm_iff_toList_perm.mp q).trans h.perm⟩
theorem Pm.rev(h:Pm n p)(i j:Nat):Pm n (kas_rev p i j):=h.of (mirror_perm _ _ _ _)
theorem Pm.bub(h:Pm n p)(i j:Nat):Pm n (bubble p i j):=h.of (bubble_perm _ _ _)
theorem at_rev{j:Nat}(hj:j<=p.size)(k:Nat):at_ (kas_rev p 0 j) k=if k<j then at_ p (j - 1 - k) else at_ p k:=by
 unfold at_ kas_rev
 rw[getElem?_mirror_all hj k]
 simp only[Nat.zero_le,true_and,Nat.zero_add]
 split <;> rfl
theorem at_bub{k l:Nat}(hk:k<p.size)(hl:l<=k)(j:Nat):at_ (bubble p k (k - l)) j=if j=l then at_ p k else if l<j/\j<=k then at_ p (j - 1) else at_ p j:=by
 unfold at_
 rw[getElem?_bubble hk (k - l) (by omega) j,show k - (k - l)=l by omega]
 split
 .rfl
 .split <;> rfl
abbrev K_(key:Nat->Int)(p:Array Nat)(i:Nat):Int:=key (at_ p i)
def So(key:Nat->Int)(p:Array Nat)(k:Nat):Prop:=∀i j,i<j->j<k->K_ key p i<K_ key p j
def Dn(key:Nat->Int)(p:Array Nat)(k:Nat):Prop:=∀i j,i<j->j<k->K_ key p j<K_ key p i
def Up(key:Nat->Int)(p:Array Nat)(a b:Nat):Prop:=∀i,a<=i->i<b->K_ key p (i - 1)<K_ key p i
theorem So.up{k m:Nat}(h:So key p k)(hk:1<=k)(u:Up key p k m):So key p (max k m):=by
 by_cases hm:m<=k
 .rw[Nat.max_eq_left hm];exact h
 .rw[Nat.max_eq_right (by omega)]
  obtain⟨d,rfl⟩:∃d,m=k+d:=⟨m - k,by omega⟩
  clear hm
  induction d with
  | zero=>exact h
  | succ d ih =>
   have ih:=ih λi a b=>u i a (by omega)
   intro i j hij hj
   by_cases e:j=k+d
   .subst e
    have z:=u (k+d) (by omega) (by omega)
    by_cases e2:i=k+d - 1
    .rw[e2];exact z
    .exact Int.lt_trans (ih i (k+d - 1) (by omega) (by omega)) z
   .exact ih i j hij (by omega)
theorem So.one:So key p 1:=λi j _ _=>by omega
theorem So.rev{k:Nat}(h:Dn key p k)(hk:k<=p.size):So key (kas_rev p 0 k) k:=λi j hij hj=>by
 unfold K_
 rw[at_rev hk,at_rev hk,if_pos (by omega),if_pos hj]
 exact h _ _ (by omega) (by omega)
variable{cmp:Cmp}{s:Shared}
theorem asc_(A:Ans cmp key n s)(inj:∀i j,i<n->j<n->key i=key j->i=j)(P:Pm n p):∀(f k:Nat)(Q:Nat->Shared->Prop),1<=k->k+f<=n->(∀m,k<=m->m<=k+f->Up key p k m->(m=k+f∨K_ key p m<K_ key p (m - 1))->Q m s)->(kas_asc p f k).kasWp cmp Q s
 | 0,k,Q,h1,h2,h=>h k (Nat.le_refl _) (Nat.le_refl _) (λi a b=>by omega) (.inl rfl)
 | f+1,k,Q,h1,h2,h=>by
  refine A _ _ _ (by rw[getD_at];exact P.lt (by omega)) (by rw[getD_at];exact P.lt (by omega)) ?_
  rw[getD_at,getD_at]
  by_cases c:key (at_ p k)<key (at_ p (k - 1))
  .rw[decide_eq_true c];dsimp only;rw[if_pos rfl]
   exact h k (Nat.le_refl _) (by omega) (λi a b=>by omega) (.inr c)
  .rw[decide_eq_false c];dsimp only;rw[if_neg (by simp)]
   refine asc_ A inj P f (k+1) Q (by omega) (by omega) λm a b u z=>h m (by omega) (by omega) (λi x y=>?_) (by rcases z with z | z;exact .inl (by omega);exact .inr z)
   by_cases e:i=k
   .subst e
    have ne:key (at_ p (i - 1))≠key (at_ p i):=λq=>by
     have:=P.inj (by omega) (by omega) (inj _ _ (P.lt (by omega)) (P.lt (by omega)) q)
     omega
    unfold K_;omega
   .exact u i (by omega) y
theorem desc_(A:Ans cmp key n s)(inj:∀i j,i<n->j<n->key i=key j->i=j)(P:Pm n p):∀(f k:Nat)(Q:Array Nat×Nat×Nat->Shared->Prop),1<=k->k+f<=n->Dn key p k->(∀m,k<=m->m<=k+f->Dn key p m->Q (p,m,0) s)->(kas_desc f p k 0).kasWp cmp Q s
 | 0,k,Q,h1,h2,d,h=>h k (Nat.le_refl _) (Nat.le_refl _) d
 | f+1,k,Q,h1,h2,d,h=>by
  refine A _ _ _ (by rw[getD_at];exact P.lt (by omega)) (by rw[getD_at];exact P.lt (by omega)) ?_
  rw[getD_at,getD_at]
  by_cases c:key (at_ p k)<key (at_ p (k - 1))
  .rw[decide_eq_true c];dsimp only;rw[if_pos rfl,if_neg (by omega)]
   refine desc_ A inj P f (k+1) Q (by omega) (by omega) (λi j x y=>?_) λm a b=>h m (by omega) (by omega)
   by_cases e:j=k
   .subst e
    by_cases e2:i=j - 1
    .rw[e2];exact c
    .exact Int.lt_trans c (d i (j - 1) (by omega) (by omega))
   .exact d i j x (by omega)
  .rw[decide_eq_false c];dsimp only;rw[if_neg (by simp)]
   refine A _ _ _ (P.lt (by omega)) (P.lt (by omega)) ?_
   have ne:key (at_ p (k - 1))≠key (at_ p k):=λq=>by
    have:=P.inj (by omega) (by omega) (inj _ _ (P.lt (by omega)) (P.lt (by omega)) q)
    omega
   rw[decide_eq_true (by omega)];dsimp only;rw[if_pos rfl]
   exact h k (Nat.le_refl _) (by omega) d
theorem tail_(A:Ans cmp key n s)(inj:∀i j,i<n->j<n->key i=key j->i=j)(P:Pm n p){k:Nat}{Q:Nat×Array Nat->Shared->Prop}(h1:1<=k)(hk:k<=n)(d:Dn key p k)(h:∀m p',Pm n p'->1<=m->m<=n->So key p' m->Q (m,p') s):(kas_tail3 k n p).kasWp cmp Q s:=by
 unfold kas_tail3
 rw[KasT.kasWp_bind]
 refine asc_ A inj (P.rev 0 k) (n - k) k _ h1 (by omega) λm a b u _=>?_
 have z:=(So.rev d (by rw[P.size];exact hk)).up h1 u
 rw[Nat.max_eq_right a] at z
 exact h m _ (P.rev 0 k) (by omega) (by omega) z
theorem count_(A:Ans cmp key n s)(inj:∀i j,i<n->j<n->key i=key j->i=j)(P:Pm n p){Q:Nat×Array Nat->Shared->Prop}(h2:2<=n)(h:∀m p',Pm n p'->1<=m->m<=n->So key p' m->(Up key p 1 n->m=n/\p'=p)->Q (m,p') s):(kas_count n p).kasWp cmp Q s:=by
 unfold kas_count
 rw[KasT.kasWp_bind]
 refine asc_ A inj P (n - 1) 1 _ (Nat.le_refl _) (by omega) λm a b u z=>?_
 have so:=So.one.up (Nat.le_refl _) u
 rw[Nat.max_eq_right a] at so
 by_cases e:m=n
 .rw[if_pos (by simpa using e)]
  exact h m p P a (by omega) so λ_=>⟨e,rfl⟩
 .rw[if_neg (by simpa using e)]
  have z:K_ key p m<K_ key p (m - 1):=by
   rcases z with z | z
   .omega
   .exact z
  have no:∀{q:Prop},Up key p 1 n->q:=λq=>absurd (q m a (by omega)) (by omega)
  by_cases m1:m>1
  .rw[if_pos m1]
   refine A _ _ _ (by rw[getD_at];exact P.lt (by omega)) (by rw[getD_at];exact P.lt (by omega)) ?_
   rw[getD_at,getD_at,decide_eq_true (so 0 (m - 1) (by omega) (by omega))];dsimp only;rw[if_pos rfl]
   exact h m p P a (by omega) so no
  .rw[if_neg m1]
   obtain rfl:m=1:=by omega
   unfold kas_descPart
   rw[KasT.kasWp_bind]
   refine desc_ A inj P (n - (1+1)) (1+1) _ (by omega) (by omega) (λi j x y=>?_) λm' a' b' d=>?_
   .obtain rfl:j=1:=by omega
    obtain rfl:i=0:=by omega
    exact z
   .rw[if_neg (by simp)]
    dsimp only
    exact tail_ A inj P (by omega) (by omega) d λm2 p2 x1 x2 x3 x4=>h m2 p2 x1 x2 x3 x4 no
theorem Nf(A:Ans cmp key n s)(inj:∀i j,i<n->j<n->key i=key j->i=j)(P:Pm n p){k:Nat}(hk:k<n){Q:Nat->Shared->Prop}(h:∀l,l<=k->(∀i,i<l->K_ key p i<K_ key p k)->(∀i,l<=i->i<k->K_ key p k<K_ key p i)->Q l s):
  ∀(f l r:Nat),l<=r->r<=k->r - l<=f->So key p k->(∀i,i<l->K_ key p i<K_ key p k)->(∀i,r<=i->i<k->K_ key p k<K_ key p i)->(kas_place p k f l r).kasWp cmp Q s
 | 0,l,r,a,b,c,so,lo,hi=>h l (by omega) lo λi x y=>hi i (by omega) y
 | f+1,l,r,a,b,c,so,lo,hi=>by
  unfold kas_place
  by_cases e:l≥r
  .rw[if_pos e]
   exact h l (by omega) lo λi x y=>hi i (by omega) y
  .rw[if_neg e]
   refine A _ _ _ (by rw[getD_at];exact P.lt hk) (by rw[getD_at];exact P.lt (by omega)) ?_
   rw[getD_at,getD_at]
   by_cases q:key (at_ p k)<key (at_ p ((l+r) / 2))
   .rw[decide_eq_true q];dsimp only;rw[if_pos rfl]
    refine Nf A inj P hk h f l ((l+r) / 2) (by omega) (by omega) (by omega) so lo λi x y=>?_
    by_cases e2:i=(l+r) / 2
    .rw[e2];exact q
    .exact Int.lt_trans q (so _ _ (by omega) y)
   .rw[decide_eq_false q];dsimp only;rw[if_neg (by simp)]
    refine Nf A inj P hk h f ((l+r) / 2+1) r (by omega) (by omega) (by omega) so (λi x=>?_) hi
    have ne:key (at_ p ((l+r) / 2))≠key (at_ p k):=λq=>by
     have:=P.inj (by omega) hk (inj _ _ (P.lt (by omega)) (P.lt hk) q)
     omega
    have q':K_ key p ((l+r) / 2)<K_ key p k:=by unfold K_;omega
    by_cases e2:i=(l+r) / 2
    .rw[e2];exact q'
    .exact Int.lt_trans (so i _ (by omega) (by omega)) q'
theorem bin_(A:Ans cmp key n s)(inj:∀i j,i<n->j<n->key i=key j->i=j){Q:Array Nat->Shared->Prop}(h:∀p',Pm n p'->So key p' n->Q p' s):∀(f k:Nat)(p:Array Nat),Pm n p->k+f=n->So key p k->(kas_bin f p k).kasWp cmp Q s
 | 0,k,p,P,e,so=>h p P (by rwa [show n=k by omega])
 | f+1,k,p,P,e,so=>by
  unfold kas_bin
  rw[KasT.kasWp_bind]
  refine Nf A inj P (by omega) (λl hl lo hi=>?_) k 0 k (by omega) (Nat.le_refl _) (by omega) so (λi x=>by omega) λi x y=>by omega
  refine bin_ A inj h f (k+1) _ (P.bub _ _) (by omega) λi j x y=>?_
  have hs:=P.size
  unfold K_
  rw[at_bub (by omega) hl,at_bub (by omega) hl]
  by_cases i1:i=l
  .rw[if_pos i1,if_neg (by omega),if_pos (by omega)]
   exact hi _ (by omega) (by omega)
  .rw[if_neg i1]
   by_cases i2:l<i/\i<=k
   .rw[if_pos i2,if_neg (by omega),if_pos (by omega)]
    exact so _ _ (by omega) (by omega)
   .rw[if_neg i2]
    by_cases j1:j=l
    .rw[if_pos j1];exact lo _ (by omega)
    .rw[if_neg j1]
     by_cases j2:l<j/\j<=k
     .rw[if_pos j2];exact so _ _ (by omega) (by omega)
     .rw[if_neg j2];exact so _ _ (by omega) (by omega)
theorem BZ(n:Nat):Pm n (List.toArray (List.range n)):=⟨.refl _⟩
theorem sort_(A:Ans cmp key n s)(inj:∀i j,i<n->j<n->key i=key j->i=j){Q:Array Nat->Shared->Prop}(h2:2<=n)(h:∀p,Pm n p->So key p n->Q p s):(kas_sort n).kasWp cmp Q s:=by
 unfold kas_sort
 rw[KasT.kasWp_bind]
 refine count_ A inj (BZ n) h2 λm p' P a b so _=>?_
 by_cases e:m<n
 .rw[if_pos e,Nat.max_eq_left a]
  exact bin_ A inj h _ _ _ P (by omega) so
 .rw[if_neg e]
  exact h p' P (by rwa [show n=m by omega])
theorem En:∀(f n r:Nat),minRun' f n r<=n+r
 | 0,n,r=>Nat.le_refl _
 | f+1,n,r=>by
  rw[minRun'_succ]
  split
  .exact Nat.le_refl _
  .have:=En f (n / 2) (max r (n % 2))
   omega
end
section
variable{prog:Program}{w:World}{A:Around}{E:Value->Shared->Prop}{κ:SortKind}{it:Array Keyed}{n:Nat}{key:Nat->Int}{s:Shared}
theorem runs_{Q:Unit->SortSt->Shared->Prop}(h2:2<=n)(an:Ans (kas_cmp prog w A κ it) key n s)(inj:∀i j,i<n->j<n->key i=key j->i=j)(hs:n<64∨∀i,1<=i->i<n->key (i - 1)<key i)
  (h:∀p st',Pm n p->So key p n->arrOf st'=p.map (kas_item it)->failedOf st'=none->Q () st' s):kasC (model prog w) A E sortRuns' Q (kas_st κ it (List.toArray (List.range n))) s:=by
 rcases hs with h64 | up
 .exact kas_runs (G:=λp s'=>s'=s/\Pm n p/\So key p n) h2 h64 (λp st' s' _ e f ⟨z,P,so⟩=>by subst z;exact h p st' P so e f) (sort_ an inj h2 λp P so=>⟨rfl,P,so⟩)
 .obtain⟨r,rfl⟩:∃r,n=r+2:=⟨n - 2,by omega⟩
  have hrs:(List.toArray (List.range (r+2))).size=r+2:=by simp
  rw[sortRuns'_eq]
  refine kasC_bind (kasC_get ?_)
  dsimp only
  have hsz:(arrOf (kas_st κ it (List.toArray (List.range (r+2))))).size=r+2:=by
   show ((List.toArray (List.range (r+2))).map (kas_item it)).size=_
   rw[Array.size_map,hrs]
  simp only[hsz]
  have ml:=En (r+2) (r+2) 0
  generalize minRun' (r+2) (r+2) 0=mr at ml
  refine kasC_bind (kasC_range ?_)
  show kasC _ _ _ (forIn (0::1::List.range' 2 r) _ _) _ _ _
  refine kasC_cons ?_
  dsimp only
  rw[if_neg (by omega)]
  simp only[Nat.sub_zero,Nat.zero_add]
  have up':Up key (List.toArray (List.range (r+2))) 1 (r+2):=λi a b=>by
   have e:∀j,j<r+2->at_ (List.toArray (List.range (r+2))) j=j:=λj hj=>by simp[at_,hj]
   unfold K_
   rw[e _ (by omega),e _ b]
   exact up i a b
  refine kasC_bind (kas_count_ (G:=λq s'=>s'=s/\q=(r+2,List.toArray (List.range (r+2)))/\So key q.2 (r+2)) (by omega) (by rw[hrs];exact Nat.le_refl _) (λm p' s' hm1 hm2 hp hg=>?_) (count_ an inj (BZ _) h2 λm p' P _ _ so z=>⟨rfl,by rw[(z up').1,(z up').2],by rw[←(z up').1];exact so⟩))
  obtain⟨z1,z2,z3⟩:=hg
  cases z2
  rw[z1]
  dsimp only
  rw[if_neg (by omega)]
  refine kasC_bind (kasC_get ?_)
  rw[show (pendingOf (kas_st κ it (List.toArray (List.range (r+2))))).back?=none from rfl]
  dsimp only
  refine kasC_bind (kasC_modify (kasC_pure ?_))
  show kasC _ _ _ (forIn (1::List.range' 2 r) _ _) _ _ _
  refine kasC_cons ?_
  dsimp only
  rw[if_pos (Nat.le_refl _)]
  refine kasC_pure ?_
  dsimp only
  refine kasC_bind (kasC_range ?_)
  show kasC _ _ _ (forIn (0::1::List.range' 2 r) _ _) _ _ _
  refine kasC_cons ?_
  refine kasC_bind (kasC_get ?_)
  rw[if_pos (show (pendingOf (setPending (kas_st κ it (List.toArray (List.range (r+2)))) ((pendingOf (kas_st κ it (List.toArray (List.range (r+2))))).push (0,r+2,0)))).size<=1 from Nat.le_refl 1)]
  refine kasC_pure ?_
  dsimp only
  exact kasC_pure (h _ _ (BZ _) z3 rfl rfl)
end
end QS
namespace QS
open PySem PySem.W PyProof.Rows
def Tw(h:Heap)(v:Value)(q:Int×Int):Prop:=∃a o t u n,v=.ref a/\h.get? a=some o/\o.cls=.type "tuple"/\o.data=.seq #[.int q.1 t,.int q.2 u] n
inductive Tws (h:Heap):List Value->List (Int×Int)->Prop
 | nil:Tws h [] []
 | cons {v:Value} {q:Int×Int} {vs:List Value} {qs:List (Int×Int)} (x:Tw h v q) (r:Tws h vs qs):Tws h (v::vs) (q::qs)
theorem Tws.length{h:Heap}{vs:List Value}{qs:List (Int×Int)}(t:Tws h vs qs):vs.length=qs.length:=by
 induction t with
 | nil=>rfl
 | cons _ _ ih=>simp[ih]
theorem Tws.at{h:Heap}{vs:List Value}{qs:List (Int×Int)}(t:Tws h vs qs):∀{i:Nat},i<vs.length->Tw h (vs.getD i .none) (qs.getD i (0,0)):=by
 induction t with
 | nil=>intro i hi;simp at hi
 | cons x r ih =>
  intro i hi
  cases i with
  | zero=>exact x
  | succ i=>simpa using ih (by simpa using hi)
theorem Tws.keep{h h':Heap}{vs:List Value}{qs:List (Int×Int)}(t:Tws h vs qs)(k:∀b o,h.get? b=some o->h'.get? b=some o):Tws h' vs qs:=by
 induction t with
 | nil=>exact .nil
 | cons x r ih =>
  obtain⟨a,o,t,u,n,e,ho,c,d⟩:=x
  exact .cons ⟨a,o,t,u,n,e,k _ _ ho,c,d⟩ ih
noncomputable def keyOf(qs:List (Int×Int))(i:Nat):Int:=(qs.getD i (0,0)).1*4096+(qs.getD i (0,0)).2
section
variable{prog:Program}{w:World}{A:Around}{E:Value->Shared->Prop}{s:Shared}{vs:List Value}{qs:List (Int×Int)}
theorem O9(T:Tws s.heap vs qs)(hb:∀q∈qs,0<=q.2/\q.2<4096):Ans (kas_cmp prog w A (tuples' true) (pairsOf vs)) (keyOf qs) vs.length s:=by
 intro i j C hi hj hC
 have bd:∀k,k<vs.length->0<=(qs.getD k (0,0)).2/\(qs.getD k (0,0)).2<4096:=λk hk=>by
  have hl:=T.length
  have e:qs.getD k (0,0)=qs[k]'(by omega):=by rw[List.getD_eq_getElem?_getD,List.getElem?_eq_getElem (by omega)];rfl
  rw[e]
  exact hb _ (List.getElem_mem _)
 have b1:=bd i hi
 have b2:=bd j hj
 unfold kas_cmp
 rw[kas_item_eq,kas_item_eq]
 dsimp only
 obtain⟨a,o,t,u,n,e1,ho,c,d⟩:=T.at hi
 obtain⟨a',o',t',u',n',e2,ho',c',d'⟩:=T.at hj
 rw[e1,e2]
 refine kat_lt ho d ho' d' ?_
 unfold keyOf at hC
 generalize qs.getD i (0,0)=p at *
 generalize qs.getD j (0,0)=q at *
 refine kat_cons (wpAny_eqBool_int ?_)
 by_cases x:p.1=q.1
 .rw[show (p.1==q.1)=true by simpa using x]
  refine kat_yes (kat_cons (wpAny_eqBool_int ?_))
  by_cases y:p.2=q.2
  .rw[show (p.2==q.2)=true by simpa using y]
   refine kat_yes (kat_nil ?_)
   rw[decide_eq_false (by omega)] at hC
   exact hC
  .rw[show (p.2==q.2)=false by simpa using y]
   refine kat_no (kat_one _ _ (lt_int ?_))
   show C _ s
   rw[show decide (p.2<q.2)=decide (p.1*4096+p.2<q.1*4096+q.2) from decide_eq_decide.mpr (by omega)]
   exact hC
 .rw[show (p.1==q.1)=false by simpa using x]
  refine kat_no (oneLt_int ?_)
  rw[show decide (p.1<q.1)=decide (p.1*4096+p.2<q.1*4096+q.2) from decide_eq_decide.mpr (by omega)]
  exact hC
theorem Tws.firsts{h:Heap}(t:Tws h vs qs):∃fs,KatTups h vs fs/\fs.length=vs.length/\∀v∈fs,∃x t,v=.int x t:=by
 induction t with
 | nil=>exact⟨[],.nil,rfl,λv h=>nomatch h⟩
 | cons x r ih =>
  obtain⟨fs,k,l,f⟩:=ih
  obtain⟨a,o,t,u,n,rfl,ho,c,d⟩:=x
  exact⟨_::fs,.cons ho c d rfl k,by simp[l],λv h=>by
   rcases List.mem_cons.mp h with rfl | h
   .exact⟨_,_,rfl⟩
   .exact f v h⟩
theorem Mq{Q:SortKind->Shared->Prop}(T:Tws s.heap vs qs)(hne:0<vs.length)(h:Q (tuples' true) s):wpAny (model prog w) A (keyKind' vs.toArray) Q E s:=by
 obtain⟨fs,k,l,f⟩:=T.firsts
 exact kat_kind (T:=.type "int") k (by omega) (λv hv=>by obtain⟨x,t,rfl⟩:=f v hv;exact Looks.of_pure rfl) rfl h
def Ord(qs:List (Int×Int))(p:List Nat):Prop:=p.Perm (List.range qs.length)/\∀i j,i<j->j<qs.length->keyOf qs (p.getD i 0)<keyOf qs (p.getD j 0)
theorem zm{a:Addr}{n:Nat}{P:Fin->Shared->Prop}(ho:s.heap.get? a=some (seqObj "list" vs.toArray n))(T:Tws s.heap vs qs)(na:∀v∈vs,v≠.ref a)(hb:∀q∈qs,0<=q.2/\q.2<4096)(inj:∀i j,i<qs.length->j<qs.length->keyOf qs i=keyOf qs j->i=j)(hs:qs.length<64∨∀i,1<=i->i<qs.length->keyOf qs (i - 1)<keyOf qs i)(hz:vs.length<=sizeLine)
  (h:∀p,Ord qs p->P (.done (.ret .none)) { s with heap:=sortedHeap s.heap a vs (p.map λi=>vs.getD i .none).toArray }) :
  wpAny (model prog w) A (Builtin.«list.sort» ⟨[.ref a],[]⟩) P E s:=by
 have hl:=T.length
 have sz:vs.toArray.size<=sizeLine:=by rw[List.size_toArray];exact hz
 rw[list_sort_plain]
 have ha:a<s.heap.objs.size:=Heap.lt_size ho
 refine wpAny_bind (listItems_at ho rfl ?_)
 refine wpAny_bind (listUpdate_at ho rfl ?_ sz (Nat.zero_le _))
 obtain⟨e1,ho1⟩:∃e1,(s.heap.update a (Obj.mapSeq λ_=>#[])).get? a=some (seqObj "list" #[] e1):=⟨_,get?_update_seq ho (λ_=>#[])⟩
 refine wpAny_bind (seqEpoch_at ho1 rfl ?_)
 refine wpAny_bind (wpAny_newTuple ?_ (by show vs.length<=_;exact hz))
 refine wpAny_bind (wpAny_newList ?_ (Nat.zero_le _))
 refine wpAny_holding ?_
 have ho6:(((s.heap.update a (Obj.mapSeq λ_=>#[])).push (seqObj "tuple" vs.toArray 0)).push (seqObj "list" #[] 0)).get? a=some (seqObj "list" #[] e1):=by
  rw[Heap.get?_push_ne _ _ _ (by rw[size_push',Heap.size_update];exact Nat.ne_of_lt (Nat.lt_succ_of_lt ha)),Heap.get?_push_ne _ _ _ (by rw[Heap.size_update];exact Nat.ne_of_lt ha)]
  exact ho1
 show wpAny (model prog w) A _ P E { s with heap:=((s.heap.update a (Obj.mapSeq λ_=>#[])).push (seqObj "tuple" vs.toArray 0)).push (seqObj "list" #[] 0) }
 dsimp only
 have hsz:vs.toArray.size=vs.length:=by simp
 have fin:=h
 by_cases h2:vs.toArray.size<2
 .rw[if_pos h2,if_pos h2]
  refine wpAny_bind (wpAny_pure ?_)
  rw[StateT.run_pure]
  refine wpAny_bind (wpAny_pure ?_)
  dsimp only
  have e0:(vs.toArray.zip vs.toArray).map (·.2)=((List.range qs.length).map λi=>vs.getD i .none).toArray:=by
   rw[←hl]
   apply Array.toList_inj.mp
   rw[Array.toList_map,show (vs.toArray.zip vs.toArray).toList=vs.zip vs from pairsOf_toList vs,List.map_snd_zip (Nat.le_refl _)]
   apply List.ext_getElem (by simp)
   intro i h1 h2
   simp[h1]
  refine wpAny_bind (seqEpoch_at ho6 rfl ?_)
  refine wpAny_bind (listUpdate_at ho6 rfl ?_ (hsz2:=by rw[Array.size_map];show (pairsOf vs).size<=_;rw[pairsOf_size,sizeLine_eq];omega))
  simp only[bne_self_eq_false,Bool.false_eq_true,if_false]
  have z:=fin (List.range qs.length) ⟨.refl _,λi j hij hj=>by omega⟩
  rw[←e0] at z
  exact wpAny_pure z
 .rw[if_neg h2,if_neg h2]
  have T6:Tws (((s.heap.update a (Obj.mapSeq λ_=>#[])).push (seqObj "tuple" vs.toArray 0)).push (seqObj "list" #[] 0)) vs qs:=by
   have:∀vs' qs',Tws s.heap vs' qs'->(∀v∈vs',v≠.ref a)->Tws (((s.heap.update a (Obj.mapSeq λ_=>#[])).push (seqObj "tuple" vs.toArray 0)).push (seqObj "list" #[] 0)) vs' qs':=by
    intro vs' qs' t
    induction t with
    | nil=>intro _;exact .nil
    | cons x r ih =>
     intro hn
     obtain⟨b,o,t,u,n,rfl,hob,c,d⟩:=x
     refine .cons ⟨b,o,t,u,n,rfl,Heap.get?_push_of_some _ (Heap.get?_push_of_some _ ?_),c,d⟩ (ih λv hv=>hn v (List.mem_cons_of_mem _ hv))
     rw[Heap.get?_update_ne _ _ _ _ (λz=>hn _ (List.mem_cons_self ..) (by rw[z]))]
     exact hob
   exact this vs qs T na
  refine wpAny_bind (Mq (s:={ s with heap:=_ }) T6 (by omega) ?_)
  have run:=runs_ (prog:=prog) (w:=w) (A:=A) (E:=E) (κ:=tuples' true) (it:=pairsOf vs) (s:={ s with heap:=(((s.heap.update a (Obj.mapSeq λ_=>#[])).push (seqObj "tuple" vs.toArray 0)).push (seqObj "list" #[] 0)) }) (n:=vs.length) (Q:=λ_ st' s'=>s'={ s with heap:=(((s.heap.update a (Obj.mapSeq λ_=>#[])).push (seqObj "tuple" vs.toArray 0)).push (seqObj "list" #[] 0)) }/\∃p:Array Nat,Pm vs.length p/\So (keyOf qs) p vs.length/\arrOf st'=p.map (kas_item (pairsOf vs))/\failedOf st'=none) (by omega) (O9 T6 hb) (by rw[hl];exact inj) (by rw[hl];exact hs) λp st' P so e f=>⟨rfl,p,P,so,e,f⟩
  have est:SortSt.mk' (tuples' true) (vs.toArray.zip vs.toArray) #[] 7 none=kas_st (tuples' true) (pairsOf vs) (List.toArray (List.range vs.length)):=by
   have e:=kas_range (pairsOf vs)
   rw[pairsOf_size] at e
   show SortSt.mk' (tuples' true) (pairsOf vs) #[] 7 none=SortSt.mk' (tuples' true) ((List.toArray (List.range vs.length)).map (kas_item (pairsOf vs))) #[] 7 none
   rw[e]
  rw[est]
  refine wpAny_bind (wpAny_mono run ?_ λ_ _ e=>e)
  rintro⟨⟨⟩,st'⟩ s' ⟨rfl,p,Pp,so,har,hf⟩
  dsimp only at har hf ⊢
  have hout:(arrOf st').map (·.2)=(p.toList.map λi=>vs.getD i .none).toArray:=by
   apply Array.toList_inj.mp
   rw[har,Array.map_map,Array.toList_map]
   exact List.map_congr_left λi _=>by show (kas_item (pairsOf vs) i).2=_;rw[kas_item_eq]
  rw[hout]
  refine wpAny_bind (seqEpoch_at ho6 rfl ?_)
  refine wpAny_bind (listUpdate_at ho6 rfl ?_ (hsz2:=by
   have:=Pp.size
   rw[List.size_toArray,List.length_map,Array.length_toList,this]
   omega))
  rw[hf]
  simp only[bne_self_eq_false,Bool.false_eq_true,if_false]
  refine wpAny_pure (fin p.toList ⟨by rw[←hl];exact Pp.perm,λi j hij hj=>?_⟩)
  have z:=so i j hij (by omega)
  have g:∀k,p.toList.getD k 0=at_ p k:=λk=>by rw[List.getD_eq_getElem?_getD];simp[at_]
  rw[g,g]
  exact z
theorem Im{l:Addr}{Q:Value->Shared->Prop}(hl:s.heap.IsList l vs.toArray)(T:Tws s.heap vs qs)(hb:∀q∈qs,0<=q.2/\q.2<4096)(inj:∀i j,i<qs.length->j<qs.length->keyOf qs i=keyOf qs j->i=j)(hs:qs.length<64∨∀i,1<=i->i<qs.length->keyOf qs (i - 1)<keyOf qs i)(hz:vs.length<=sizeLine)
  (h:∀p,Ord qs p->Q (.ref (s.heap.objs.size+1)) { s with heap:=sortedAll s.heap vs (p.map λi=>vs.getD i .none).toArray }) :
  wpAny (model prog w) A (call (.builtin "sorted") [.ref l]) Q E s:=by
 refine Calls.call_function_entry kind_sorted plain_sorted entry_sorted (args_sorted1 _) ?_
 unfold Builtin.«sorted»
 refine wpAny_bind (m:=checkCount "sorted" 1 1 _) (wpAny_pure ?_)
 refine wpAny_bind (collect_list hl ?_ hz)
 refine wpAny_bind (wpAny_newList ?_ hz)
 have hsz:((s.heap.push (seqObj "list" #[] 0)).update s.heap.objs.size (Obj.mapSeq (·++vs.toArray))).objs.size=s.heap.objs.size+1:=by
  rw[Heap.size_update,size_push']
 have hoL:(((s.heap.push (seqObj "list" #[] 0)).update s.heap.objs.size (Obj.mapSeq (·++vs.toArray))).push (seqObj "list" vs.toArray 0)).get? (s.heap.objs.size+1)=some (seqObj "list" vs.toArray 0):=by
  rw[←hsz];exact Heap.get?_push_size _ rfl
 have keep:∀b o,s.heap.get? b=some o->(((s.heap.push (seqObj "list" #[] 0)).update s.heap.objs.size (Obj.mapSeq (·++vs.toArray))).push (seqObj "list" vs.toArray 0)).get? b=some o:=λb o q=>by
  have hlt:b<s.heap.objs.size:=Heap.lt_size q
  rw[Heap.get?_push_ne _ _ _ (by rw[hsz];exact Nat.ne_of_lt (Nat.lt_succ_of_lt hlt)),Heap.get?_update_ne _ _ _ _ (Nat.ne_of_lt hlt),Heap.get?_push_ne _ _ _ (Nat.ne_of_lt hlt)]
  exact q
 show wpAny _ _ _ _ _ { s with heap:=((s.heap.push (seqObj "list" #[] 0)).update s.heap.objs.size (Obj.mapSeq (·++vs.toArray))).push (seqObj "list" vs.toArray 0) }
 rw[hsz]
 have na:∀v∈vs,v≠.ref (s.heap.objs.size+1):=by
  intro v hv e
  obtain⟨i,hi,rfl⟩:=List.getElem_of_mem hv
  obtain⟨a,o,t,u,n,e1,ho,c,d⟩:=T.at hi
  rw[List.getD_eq_getElem?_getD,List.getElem?_eq_getElem hi] at e1
  have e2:vs[i]=.ref a:=e1
  rw[e2] at e
  cases e
  exact absurd (Heap.lt_size ho) (Nat.not_lt.mpr (Nat.le_succ _))
 refine wpAny_bind (wpAny_holding (wpAny_call_entry slot_list_sort ⟨_,hoL,rfl⟩ entry_list_sort (zm (s:={ s with heap:=_ }) hoL (T.keep keep) na hb inj hs hz λp o=>⟨_,rfl,?_⟩) (args_list_sort _)))
 exact wpAny_pure ⟨_,rfl,h p o⟩
end
end QS
namespace L2
open PySem PySem.Spec PyProof.Rows
theorem uM:entryFor table "dict_itemiterator.__iter__"=some Builtin.«dict_keyiterator.__iter__» :=
 entryFor_alias (id':="dict_keyiterator.__iter__") (by kernel_rfl) rfl (by decide +kernel) (by kernel_rfl)
def Itm(a:Addr)(o:Obj)(kvs:List (Key×V)):It:=⟨λi H=>H a=some (.frz o (.dK kvs))/\i<kvs.length,λi H v H'=>∃p kv,v=.ref p/\H p=none/\H'=upd H p (.tup [kV kv.1,kv.2])/\kvs[i]?=some kv,λi H=>H a=some (.frz o (.dK kvs))/\kvs.length<=i⟩
theorem NT{P:Program}{w:World}{K:Frag}{es':List Expr}{kk:Nat}{tp:Pos}(a it:Addr)(o:Obj)(ep:Nat){kvs:List (Key×V)}{vs:List (Key×Value)}(rel:KV kvs vs)(hD:∀h:Heap,h.get? a=some o->h.DictAt (bw P w) a vs ep):
  Turn P w K (.Tuple es' kk tp) (Itm a o kvs) [it] it (λi h=>∃ok ov,IsItemIter h it a i vs.length ep ok ov) where
 mem:=by simp
 obj:=λi h st b hb=>by
  obtain rfl:=List.mem_singleton.mp hb
  obtain⟨ok,ov,e⟩:=st
  exact⟨_,e,λv z=>by
   have z':Data.fields _=Data.cell v:=z
   cases z'⟩
 keep:=λi h h' ⟨ok,ov,e⟩ k=>⟨ok,ov,k it (by simp) _ e⟩
 item:=by
  intro X hP hw hK hc i pins s σ H E I hf st hg
  subst hP hw hK
  obtain⟨hg,lt⟩:=hg
  obtain⟨ok,ov,st⟩:=st
  have ho:=(show cF X.prog X.w H s.heap a (.frz o (.dK kvs)) from I.hok a _ hg).1
  obtain⟨x,hx,rx⟩:=rel.at lt
  have ltz:it<s.heap.objs.size:=Heap.lt_size st
  refine wpAny_pyNext_items_item st (hD _ ho) hx λkey h1 hk ito tu sz kp=>⟨_,rfl,wpAny_letOwnedTupleGo_items ito λh2 it2 sb=>?_⟩
  have hp:H s.heap.objs.size=none:=I.hok.fresh (Nat.le_refl _)
  have ex:∀c o,c≠it->h1.get? c=some o->h2.get? c=some o:=λc o n e=>(sb.2 c n).trans e
  have I2:Inv X pins σ (upd H s.heap.objs.size (.tup [kV kvs[i].1,kvs[i].2])) { s with heap:=h2,toks:=s.toks }:=Inv.vN (ch:=[it]) I hf (λb o hb q=>by
    have hb:b≠it:=by simpa using hb
    exact ex b o hb (kp b o hb q)) (Nat.le_refl _) ⟨by show 2<=sizeLine;decide,[key,x],.cons (rel_key hk) (.cons rx .nil),_,ex _ _ (Nat.ne_of_gt ltz) tu,rfl,0,rfl⟩
  refine⟨.ref s.heap.objs.size,_,I2,rfl,⟨_,kvs[i],rfl,hp,rfl,List.getElem?_eq_getElem lt⟩,⟨_,_,it2⟩,λc hc=>?_⟩
  obtain rfl:=List.mem_singleton.mp hc
  rw[aF (Nat.ne_of_lt ltz)]
  exact(hf c (by simp)).1
 done:=by
  intro X hP hw hK hc i pins s σ H E I hf st hg
  subst hP hw hK
  obtain⟨hg,le⟩:=hg
  obtain⟨ok,ov,st⟩:=st
  have ho:=(show cF X.prog X.w H s.heap a (.frz o (.dK kvs)) from I.hok a _ hg).1
  obtain⟨f0,f1,f2,f3,f4,f5⟩:=hf it (by simp)
  have hl:=rel.length
  exact wpAny_pyNext_items_end (I.ok.hd hc) st (hD _ ho) (by simp;omega) λh' eb=>⟨rfl,I.turned (t':=s.toks) (λb o hb e=>eb b o hb e) f0 f1 f3 f4 f5⟩
 self:=λA i s Q E st h=>by
  obtain⟨ok,ov,st⟩:=st
  have hT:s.TypeIs (.ref it) "dict_itemiterator":=⟨_,st,rfl⟩
  refine wpAny_pyIter_slot hT F.slot_dict_itemiterator_iter (wpAny_call_entry F.slot_dict_itemiterator_iter hT uM ?_ (F.args_dict_itemiterator_iter_1 _))
  show wpAny _ _ (ret (.ref it)) _ _ s
  exact wpAny_pure ⟨_,rfl,"dict_itemiterator",_,hT,F.slot_dict_itemiterator_next.lookup,h⟩
def iItm(tl:TE):TI:=λσ H R=>tl σ H λx H1=>∃a kvs,x=.ref a/\H1 a=some (.dK kvs)/\∀o,R (Itm a o kvs) (upd H1 a (.frz o (.dK kvs)))
section
variable{X:Cx}{o:Expr}{ap p2:Pos}{tl:TE}
theorem pi_items{es':List Expr}{kk:Nat}{tp:Pos}(hl:PE X o tl)(hb:attributeBase o "items" X.env (eval o X.env)=eval o X.env:=by rfl)(hline:(ap.endLine==p2.line)=true:=by rfl):PI X (.Tuple es' kk tp) (.Call (.Attribute o "items" ap) [] [] p2) (iItm tl):=by
 intro pins s σ H R I h
 refine wpAny_Call_method0_late hb hline (thn (hl pins s σ H _ I h) λv s1 qq=>?_);obtain⟨x,H1,I1,r1,a,kvs,e,ha,q⟩:=qq
 subst e
 cases r1
 obtain⟨z,hd,vs,rel,ob,es,ep,ho,hr⟩:=(show cF X.prog X.w H1 s1.heap a (.dK kvs) from I1.hok a _ ha)
 have hm:s1.heap.DictAt (bw X.prog X.w) a vs ep:=⟨ob,es,ho,hr⟩
 have hT:s1.TypeIs (.ref a) "dict":=⟨ob,ho,hr.1.1⟩
 refine⟨"dict","dict.items",F.plainAttrs_dict,F.slot_dict_items,F.type_dict_items,hT,λb e=>by cases e;exact⟨ob,ho,hr.1.2.1⟩,
  Calls.callWith_builtin rfl (PySem.evalArgs_none (call_meetsIn F.slot_dict_items hT F.entry_dict_items (F.args_dict_items_1 _) (meets_dict_items (bw X.prog X.w) a hd) ⟨⟨vs,hm.dictOf⟩,?_⟩))⟩
 refine wpAny_pyIter_items (knd:=bw X.prog X.w) ⟨_,Heap.get?_push_size _ rfl,rfl,rfl⟩ (hm.at' λo e=>Heap.get?_push_of_some _ e) ?_
 have I2:Inv X pins σ _ { s1 with heap:=s1.heap.push { cls:=.type "dict_items",data:=.fields #[.ref a] } }:=(I1.fixed ha ho).kept (t':=s1.toks) λb o e=>Heap.get?_push_of_some _ e
 refine⟨_,[_],_,_,_,rfl,I2.kept (t':=s1.toks) λb o e=>Heap.get?_push_of_some _ e,NT a _ ob ep rel λh q=>⟨ob,es,q,hr⟩,⟨_,_,Heap.get?_push_size _ rfl⟩,λb hb=>?_,q ob⟩
 obtain rfl:=List.mem_singleton.mp hb
 exact I2.fpOk (Nat.le_refl _) (I2.hok.fresh (Nat.le_refl _))
end
end L2
namespace DL
open PySem PySem.Spec PyProof.Rows MX L2
section
variable{X:Cx}{Γ:Nat->Option Addr}{E:XK}{e:Expr}
theorem cZ.nth{K:Frag}{G:Hp}:∀{vs:List (Key×V)}{ds:List (Key×D)},cZ K Γ G vs ds->∀{i:Nat}{kv:Key×V},vs[i]?=some kv->∃d,ds[i]?=some (kv.1,d)/\Rep K Γ G kv.2 d
 | _,_,.nil,i,kv,h=>by simp at h
 | _,_,.cons r t,i,kv,h=>by
  cases i with
  | zero=>simp at h;subst h;exact⟨_,rfl,r⟩
  | succ i=>simpa using cZ.nth t (i:=i) (by simpa using h)
noncomputable def itmF(kv:Key×D):D:=.tup [kv.2,keyDD kv.1]
noncomputable def xR(i:Nat):DSt->Out D:=λδ=>match Ba i δ with
 | some ds=>if ds.length<sizeLine then .ok (.lst (ds.map itmF)) else .stuck
 | none=>.stuck
theorem Pn(i:Nat)(hh:PE X e (tThaw (uo [none,none] (iItm (iI i)) (gTup X.K 2 (gCons (mZ 0) (gCons (mZ 1) gNil))) tTrue (tTup (jE (iI 1) (jE (iI 0) qJ)))))):DE X Γ E e (xR i):=PE.imp hh λσ H Q qq=>by
 obtain⟨G0,H0,G,δ,S,w⟩:=qq;unfold xR at w
 split at w
 .rename_i ds e1
  obtain⟨a,vs,hi,ha,ra⟩:=S.dk e1
  split at w
  .rename_i hz
   have hlen:vs.length=ds.length:=ra.length
   refine⟨a,vs,ha,_,hi,a,vs,rfl,ha,λo acc n1=>?_⟩
   have n2:acc≠a:=λz=>by subst z;rw[aG] at n1;cases n1
   have hacc:H acc=none:=by rw[aF n2] at n1;exact n1
   have ga:G acc=none:=aD S.st.gh hacc
   refine⟨λi m ys τ H'=>m+i=vs.length/\ys.length=i/\(∃z1 z2,τ=[z1,z2])/\H' a=some (.frz o (.dK vs))/\H' acc=some (.lst ys)/\∃G',aY G G'/\aY H (upd H' a (.dK vs))/\aY G' (upd H' a (.dK vs))/\(∀b,H b≠none->G b=none->G' b=none)/\G' acc=none/\au X.K Γ G' ys ((ds.take i).map itmF),
    ⟨vs.length,rfl,rfl,⟨none,none,rfl⟩,by rw[aF (Ne.symm n2),aG],aG,G,aY.refl _,?_,?_,λ_ _ g=>g,ga,.nil⟩,?_⟩
   .rw[Od ha n2 rfl];exact aY.up hacc
   .rw[Od ha n2 rfl];exact S.st.gh.trans (aY.up hacc)
   rintro i m ys τ H' ⟨hm,hy,⟨z1,z2,rfl⟩,ha',hac,G',gg,hH,gh,sep,gac,r⟩
   refine⟨hac,by omega,?_⟩
   by_cases q:i=vs.length
   .refine .inl ⟨⟨ha',by omega⟩,o,ha',?_⟩
    rw[q,hlen,List.take_length] at r
    have gac1:upd G' acc (.lst ys) acc=some (.lst ys):=aG
    refine w _ (upd G' acc (.lst ys)) _ ⟨gg.trans (aY.up gac),hH,λb u hb=>?_,λb hb hg=>?_⟩ (.lst gac1 (r.mono (aY.up gac)))
    .by_cases z:b=acc
     .subst z
      rw[aG] at hb
      rw[aF n2,hac]
      exact hb
     .rw[aF z] at hb
      exact gh _ _ hb
    .have z:b≠acc:=λz=>hb (z▸hacc)
     rw[aF z]
     exact sep b hb hg
   .have lt:i<vs.length:=by omega
    refine .inr ⟨⟨ha',lt⟩,?_⟩
    rintro x H2 ⟨p,kv,rfl,hp,rfl,ekv⟩
    have hpa:p≠a:=λz=>by subst z;rw[ha'] at hp;cases hp
    have hpc:p≠acc:=λz=>by subst z;rw[hac] at hp;cases hp
    obtain⟨d,ed,rd⟩:=ra.nth ekv
    refine⟨p,[kV kv.1,kv.2],rfl,SqT.of aG,rfl,_,_,rfl,_,_,rfl,rfl,?_⟩
    dsimp only[tTrue]
    rw[if_pos rfl]
    refine⟨kv.2,rfl,kV kv.1,rfl,by show 2<=sizeLine;decide,λp2 hp2=>?_⟩
    have h2p:p2≠p:=λz=>by subst z;rw[aG] at hp2;cases hp2
    have hp2':H' p2=none:=by rw[aF h2p] at hp2;exact hp2
    have h2a:p2≠a:=λz=>by subst z;rw[ha'] at hp2';cases hp2'
    have h2c:p2≠acc:=λz=>by subst z;rw[hac] at hp2';cases hp2'
    have hg2:G' p2=none:=by
     cases hg:G' p2 with
     | none=>rfl
     | some u =>
      have:=gh _ _ hg
      rw[aF h2a,hp2'] at this
      cases this
    refine⟨by rw[aF (Ne.symm h2c),aF (Ne.symm hpc)];exact hac,m - 1,by omega,by omega,by simp[hy],⟨_,_,rfl⟩,by rw[aF (Ne.symm n2),aF (Ne.symm h2a),aF (Ne.symm hpa)];exact ha',aG,upd G' p2 (.tup [kv.2,kV kv.1]),gg.trans (aY.up hg2),λb u hb=>?_,λb u hb=>?_,λb hb hg=>?_,by rw[aF (Ne.symm h2c)];exact gac,?_⟩
    .have b1:=hH _ _ hb
     by_cases za:b=a
     .subst za;rw[aG] at b1 ⊢;exact b1
     .rw[aF za] at b1 ⊢
      rw[aF (λz=>by subst z;rw[hacc] at hb;cases hb),aF (λz=>by subst z;rw[hp2'] at b1;cases b1),aF (λz=>by subst z;rw[hp] at b1;cases b1)]
      exact b1
    .by_cases z2:b=p2
     .subst z2
      rw[aG] at hb
      rw[aF h2a,aF h2c,aG]
      exact hb
     .rw[aF z2] at hb
      have b1:=gh _ _ hb
      by_cases za:b=a
      .subst za;rw[aG] at b1 ⊢;exact b1
      .rw[aF za] at b1 ⊢
       rw[aF (λz=>by subst z;rw[gac] at hb;cases hb),aF z2,aF (λz=>by subst z;rw[hp] at b1;cases b1)]
       exact b1
    .have z:b≠p2:=λz=>by
      subst z
      have:∃u,H b=some u:=Option.ne_none_iff_exists'.mp hb
      obtain⟨u,hu⟩:=this
      have:=hH _ _ hu
      rw[aF h2a,hp2'] at this
      cases this
     rw[aF z]
     exact sep b hb hg
    .have et:(ds.take (i+1)).map itmF=(ds.take i).map itmF++[itmF (kv.1,d)]:=by
      rw[List.take_succ,ed,List.map_append]
      rfl
     rw[et]
     refine au.append (r.mono (aY.up hg2)) (.cons (.tup aG (.cons ((rd.mono gg).mono (aY.up hg2)) (.cons (QF kv.1) .nil))) .nil)
  .exact False.elim w
 .exact False.elim w
end
end DL
namespace DL
open PySem PySem.Spec PyProof.Rows MX L2
section
variable{X:Cx}{Γ:Nat->Option Addr}{E:XK}{a:Expr}{pos p:Pos}{fa:DSt->Out D}
theorem any_range(bs:List Bool):(List.range bs.length).any (λi=>bs.getD i true)=bs.any id:=by
 induction bs with
 | nil=>rfl
 | cons b bs ih =>
  rw[List.length_cons,List.range_succ_eq_map,List.any_cons,List.any_map,List.any_cons]
  have:((λi=>(b::bs).getD i true)∘Nat.succ)=λi=>bs.getD i true:=by funext i;simp
  rw[this,ih];simp
theorem Aq(hc:X.calm=true):gH X (.builtin "any") (λxs H Q=>∃(q:Addr)(bs:List Bool),xs=[.ref q]/\SqL X.K H q (bs.map V.bl)/\Q (.bl (bs.any id)) H):=by
 intro pins s σ H xs us Q I r h
 obtain⟨q,bs,rfl,hq,k⟩:=h
 obtain⟨u,rfl,rx⟩:=vals1 r
 cases rx
 obtain⟨its,r',pl,hz⟩:=I.list hq
 have ei:=vP r'
 subst ei
 refine call_any_walk (PySem.wpAny_pyIter_list pl.isList ?_)
 have hh:X.A.in1.handled=none:=I.ok.hd hc
 have hlt:q<s.heap.objs.size:=by obtain⟨ob,hob,_⟩:=pl.isList;exact Heap.lt_size hob
 refine⟨_,_,_,_,_,_,λi=>bs.getD i true,rfl,Walks.list hh s.heap.objs.size q (Nat.ne_of_lt hlt) _,⟨⟨_,Heap.get?_push_size _ rfl,rfl,rfl⟩,pl.isList.push _⟩,λi v s' Q' E' hv hQ=>?_,λh' tk kp=>?_⟩
 .have hv:(bs.map Value.bool)[i]?=some v:=by simpa using hv
  rw[List.getElem?_map] at hv
  obtain⟨b,hb,rfl⟩:=Option.map_eq_some_iff.mp hv
  have hQ:Q' (bs.getD i true) s':=hQ
  rw[List.getD_eq_getElem?_getD,hb] at hQ
  exact wpAny_truthy_bool hQ
 .have es:(bs.map Value.bool).toArray.size=bs.length:=by simp
  rw[es,any_range]
  exact⟨.bl _,H,I.kept (t':=tk) λb ob hb=>kp b ob (by simp;exact Nat.ne_of_lt (Heap.lt_size hb)) (Heap.get?_push_of_some _ hb),rfl,k⟩
noncomputable def anyD(d:D):Option D:=(gF d).bind λds=>(pL ds).map λbs=>.bl (bs.any id)
theorem de_any(hc:X.calm=true)(hg:Gl X "any")(hm:X.mg "any"=none)(ha:DB X Γ E a fa)(hs:starEach [a] X.env=[(false,eval a X.env)]:=by rfl):DE X Γ E (.Call (.Name "any" p) [a] [] pos) (o1 anyD fa) :=
 dC1 (λG H v dx d Q s r e k=>by
  unfold anyD at e
  obtain⟨ds,e1,e2⟩:=Option.bind_eq_some_iff.mp e
  obtain⟨bs,e3,rfl⟩:=Option.map_eq_some_iff.mp e2
  obtain⟨q,vs,rfl,sq,ra⟩:=r.gF e1
  exact⟨q,bs,rfl,(ra.bools e3)▸sq,k _ G H (.refl s) (.bl _)⟩) (lU (Aq hc) hg hm (by decide +kernel) (bD ha dw (by rw[hs];rfl)) (by decide) (by decide) (by rw[hs];rfl) (by rfl))
noncomputable def gr(q:Int×Int):Int:=q.1*4096+q.2
theorem Br(qs:List (Int×Int))(i:Nat):QS.keyOf qs i=gr (qs.getD i (0,0)):=rfl
structure OkS(qs:List (Int×Int)):Prop where
 bd:∀q∈qs,0<=q.2/\q.2<4096
 nd:(qs.map gr).Nodup
 few:qs.length<64∨(qs.map gr).Pairwise (·<·)
 sz:qs.length<=sizeLine
noncomputable def wX(qs:List (Int×Int)):List (Int×Int):=qs.mergeSort λx y=>decide (gr x<=gr y)
theorem kh(qs:List (Int×Int)){i:Nat}(h:i<qs.length):QS.keyOf qs i=(qs.map gr)[i]'(by simpa using h):=by
 rw[Br,List.getD_eq_getElem?_getD,List.getElem?_eq_getElem h]
 simp
theorem OkS.inj{qs:List (Int×Int)}(h:OkS qs):∀i j,i<qs.length->j<qs.length->QS.keyOf qs i=QS.keyOf qs j->i=j:=λi j hi hj e=>by
 rw[kh qs hi,kh qs hj] at e
 have pw:=List.pairwise_iff_getElem.mp h.nd
 rcases Nat.lt_trichotomy i j with z | z | z
 .exact absurd e (pw i j _ _ z)
 .exact z
 .exact absurd e.symm (pw j i _ _ z)
theorem OkS.asc{qs:List (Int×Int)}(h:OkS qs):qs.length<64∨∀i,1<=i->i<qs.length->QS.keyOf qs (i - 1)<QS.keyOf qs i:=by
 rcases h.few with f | f
 .exact .inl f
 .refine .inr λi h1 hi=>?_
  rw[kh qs (by omega),kh qs hi]
  exact List.pairwise_iff_getElem.mp f _ _ _ _ (by omega)
theorem Ord.wX{qs:List (Int×Int)}(h:OkS qs){p:List Nat}(o:QS.Ord qs p):p.map (λi=>qs.getD i (0,0))=wX qs:=by
 have e0:(List.range qs.length).map (λi=>qs.getD i (0,0))=qs:=by
  apply List.ext_getElem (by simp)
  intro i h1 h2
  simp[h2]
 have pm:(p.map λi=>qs.getD i (0,0)).Perm qs:=by
  have:=o.1.map λi=>qs.getD i (0,0)
  rwa [e0] at this
 have lp:p.length=qs.length:=by simpa using o.1.length_eq
 refine List.Perm.eq_of_pairwise (le:=λx y=>gr x<=gr y) (λx y hx hy h1 h2=>?_) ?_ ?_ (pm.trans (List.mergeSort_perm ..).symm)
 .have b1:=h.bd x (pm.mem_iff.mp hx)
  have b2:=h.bd y ((List.mergeSort_perm ..).mem_iff.mp hy)
  have e:gr x=gr y:=Int.le_antisymm h1 h2
  unfold gr at e
  exact Prod.ext (by omega) (by omega)
 .refine List.pairwise_iff_getElem.mpr λi j hi hj hij=>?_
  rw[List.length_map] at hi hj
  have:=o.2 i j hij (by omega)
  rw[Br,Br] at this
  rw[List.getElem_map,List.getElem_map]
  rw[List.getD_eq_getElem?_getD (l:=p),List.getD_eq_getElem?_getD (l:=p),List.getElem?_eq_getElem hi,List.getElem?_eq_getElem hj] at this
  exact Int.le_of_lt this
 .have:=List.pairwise_mergeSort (le:=λx y=>decide (gr x<=gr y)) (λx y z h1 h2=>by simp at h1 h2 ⊢;omega) (λx y=>by simp;omega) qs
  exact this.imp λh=>by simpa using h
def TwV(K:Frag)(H:Hp)(us:List V)(qs:List (Int×Int)):Prop:=us.length=qs.length/\∀i u,us[i]?=some u->∃p,u=.ref p/\SqT K H p [.int (qs.getD i (0,0)).1,.int (qs.getD i (0,0)).2]
theorem tws_of{H:Hp}{s:Shared}{pins:List (Addr×Obj)}{σ:L2.St}(I:Inv X pins σ H s):∀{us:List V}{qs:List (Int×Int)}{its:List Value},TwV X.K H us qs->Vals us its->QS.Tws s.heap its qs
 | [],[],_,t,r=>by cases r;exact .nil
 | [],_::_,_,t,r=>by have:=t.1;simp at this
 | _::_,[],_,t,r=>by have:=t.1;simp at this
 | u::us,q::qs,_,t,r=>by
  cases r with
  | cons r1 r2 =>
   obtain⟨p,rfl,hs⟩:=t.2 0 u rfl
   cases r1
   obtain⟨its,rv,⟨o,ho,hc,n,hd⟩,_⟩:=I.tuple hs
   cases rv with
   | cons q1 rv =>
    cases rv with
    | cons q2 rv =>
     cases rv
     obtain⟨t1,rfl⟩:=q1
     obtain⟨t2,rfl⟩:=q2
     exact .cons ⟨p,o,t1,t2,n,rfl,ho,hc,hd⟩ (tws_of I ⟨by simpa using t.1,λi u h=>by simpa using t.2 (i+1) u (by simpa using h)⟩ r2)
theorem Ex{us:List V}{its:List Value}(r:Vals us its):∀p:List Nat,(∀i∈p,i<us.length)->Vals (p.map λi=>us.getD i .non) (p.map λi=>its.getD i .none)
 | [],_=>.nil
 | i::p,h=>by
  have hi:=h i (List.mem_cons_self ..)
  obtain⟨u,e,ru⟩:=r.get (List.getElem?_eq_getElem hi)
  refine .cons ?_ (Ex r p λj hj=>h j (List.mem_cons_of_mem _ hj))
  dsimp only
  rw[List.getD_eq_getElem?_getD,List.getD_eq_getElem?_getD,List.getElem?_eq_getElem hi,e]
  exact ru
theorem Js:gH X (.builtin "sorted") (λxs H Q=>∃(l:Addr)(us:List V)(qs:List (Int×Int)),xs=[.ref l]/\SqL X.K H l us/\TwV X.K H us qs/\OkS qs/\∀p D,QS.Ord qs p->H D=none->Q (.ref D) (upd H D (.lst (p.map λi=>us.getD i .non)))):=by
 intro pins s σ H xs us Q I r h
 obtain⟨l,vs,qs,rfl,hl,t,ok,k⟩:=h
 obtain⟨u,rfl,rx⟩:=vals1 r
 cases rx
 obtain⟨its,r',pl,hz⟩:=I.list hl
 have li:its.length=vs.length:=r'.length.symm
 refine QS.Im pl.isList (tws_of I t r') ok.bd ok.inj ok.asc (by omega) λp o=>?_
 have hp:H (s.heap.objs.size+1)=none:=I.hok.fresh (Nat.le_succ _)
 obtain⟨e,he⟩:=sortedAll_at s.heap its (p.map λi=>its.getD i .none).toArray
 have lp:p.length=qs.length:=by simpa using o.1.length_eq
 refine⟨.ref _,_,I.laid (t':=s.toks) (a:=s.heap.objs.size+1) (o:=.lst (p.map λi=>vs.getD i .non)) (λb u q=>sortedAll_old q) (Nat.le_succ _) ⟨by rw[List.length_map,lp,←t.1];exact hz,_,e,Ex r' p λi hi=>?_,he⟩,rfl,k p _ o hp⟩
 have:=o.1.mem_iff.mp hi
 rw[t.1]
 simpa using this
noncomputable def qj:List D->Option (List (Int×Int))
 | []=>some []
 | .tup [.int x,.int y]::r=>(qj r).map ((x,y)::·)
 | _=>none
theorem au.qj{K:Frag}{G:Hp}:∀{vs:List V}{ds:List D}{qs:List (Int×Int)},au K Γ G vs ds->DL.qj ds=some qs->TwV K G vs qs/\ds=qs.map λq=>.tup [.int q.1,.int q.2]
 | _,_,_,.nil,e=>by cases e;exact⟨⟨rfl,λi u h=>by simp at h⟩,rfl⟩
 | _,_,_,.cons (d:=d) (ds:=ds) h r,e=>by
  unfold DL.qj at e
  split at e
  .rename_i e0;cases e0
  .rename_i x y r' e0
   cases e0
   obtain⟨qs,e1,rfl⟩:=Option.map_eq_some_iff.mp e
   obtain⟨⟨a1,a2⟩,a3⟩:=au.qj r e1
   cases h with
   | tup h rr =>
    cases rr with
    | cons h1 rr =>
     cases rr with
     | cons h2 rr =>
      cases rr
      cases h1
      cases h2
      refine⟨⟨by simp[a1],λi u hu=>?_⟩,by rw[a3];rfl⟩
      cases i with
      | zero=>simp at hu;subst hu;exact⟨_,rfl,SqT.of h⟩
      | succ i=>simpa using a2 i u (by simpa using hu)
  .cases e
open Classical in
noncomputable def Cp(d:D):Option D:=(gF d).bind λds=>(qj ds).bind λqs=>if OkS qs then some (.lst ((wX qs).map λq=>.tup [.int q.1,.int q.2])) else none
theorem au.pick{K:Frag}{G:Hp}{vs:List V}{ds:List D}(r:au K Γ G vs ds):∀p:List Nat,(∀i∈p,i<vs.length)->au K Γ G (p.map λi=>vs.getD i .non) (p.map λi=>ds.getD i .non)
 | [],_=>.nil
 | i::p,h=>by
  have hi:=h i (List.mem_cons_self ..)
  have hl:=r.length
  obtain⟨v,e,rv⟩:=r.get (List.getElem?_eq_getElem (show i<ds.length by omega))
  refine .cons ?_ (au.pick r p λj hj=>h j (List.mem_cons_of_mem _ hj))
  dsimp only
  rw[List.getD_eq_getElem?_getD,List.getD_eq_getElem?_getD,e,List.getElem?_eq_getElem (show i<ds.length by omega)]
  exact rv
theorem Pu(hg:Gl X "sorted")(hm:X.mg "sorted"=none)(ha:DE X Γ E a fa)(hs:starEach [a] X.env=[(false,eval a X.env)]:=by rfl):DE X Γ E (.Call (.Name "sorted" p) [a] [] pos) (oC (uO Cp) (ao fa aK)) :=
 dC (λG H vs ds d Q s r e k=>by
  cases r with
  | nil=>cases e
  | cons r1 r2 =>
   cases r2 with
   | cons _ _=>cases e
   | nil =>
    have e:Cp _=some d:=e
    unfold Cp at e
    obtain⟨xs,e1,e2⟩:=Option.bind_eq_some_iff.mp e
    obtain⟨qs,e3,e4⟩:=Option.bind_eq_some_iff.mp e2
    split at e4
    .rename_i ok
     cases e4
     obtain⟨q,us,rfl,sq,ra⟩:=r1.gF e1
     obtain⟨⟨t1,t2⟩,rfl⟩:=au.qj ra e3
     refine⟨q,us,qs,rfl,s.seq sq,⟨t1,λi u hu=>let ⟨p,e,z⟩:=t2 i u hu;⟨p,e,SqT.same s z⟩⟩,ok,λp w o hD=>k _ _ _ (.new s hD) (.lst aG ?_)⟩
     have lt:∀i∈p,i<us.length:=λi hi=>by
      have:=o.1.mem_iff.mp hi
      rw[t1]
      simpa using this
     have z:=(au.pick ra p lt).mono (aY.up (o:=.lst (p.map λi=>us.getD i .non)) (aD s hD))
     have ez:(p.map λi=>(qs.map λq=>D.tup [.int q.1,.int q.2]).getD i .non)=(wX qs).map λq=>.tup [.int q.1,.int q.2]:=by
      rw[←Ord.wX ok o,List.map_map]
      refine List.map_congr_left λi hi=>?_
      have hi':i<qs.length:=by rw[←t1];exact lt i hi
      simp[hi']
     rw[ez] at z
     exact z
    .cases e4) (lU Js hg hm (by decide +kernel) (ak ha aJ (by rw[hs];rfl)) (by decide) (by decide) (by rw[hs];rfl) (by rfl))
noncomputable def dofP(ds:List D):Option (List (Key×D)):=match ds with
 | [x]=>(gF x).bind λds=>(qi ds).map vD
 | _=>none
noncomputable def z9(i:Nat)(fr:DSt->Out (List D)):DSt->Out Fl:=λδ=>(fr δ).bind λds=>(Out.opt (dofP ds)).bind λkd=>.ok (.nx (δ.set i (some (.od kd))))
theorem Px(i:Nat){x:Str}{pos' spos:Pos}(hc:X.calm=true)(hg:Gl X "dict")(hm:X.mg "dict"=none)(hh:∀{te:TE},PE X (.Call (.Name "dict" p) [a] [] pos) te->PS X (.Assign [.Name x pos'] (.Call (.Name "dict" p) [a] [] pos) spos) (zE te (mZ i)))(ha:DE X Γ E a fa)(hs:starEach [a] X.env=[(false,eval a X.env)]:=by rfl):
  DS X Γ E (.Assign [.Name x pos'] (.Call (.Name "dict" p) [a] [] pos) spos) (z9 i (ao fa aK)) :=
 PS.imp (hh (oJ (FQ hc) hg hm (by decide +kernel) (ak ha aJ (by rw[hs];rfl)) (by decide) (by decide) (by rw[hs];rfl) (by rfl))) λN σ H qq=>by
  obtain⟨G0,H0,G,δ,S,w⟩:=qq;refine⟨G0,H0,G,δ,S,(aj w).mono (λds w vs G1 H1 s1 r1=>?_) λx k=>exD.step k S.st⟩
  obtain⟨kd,ek,w⟩:=bB (aj w)
  cases r1 with
  | nil=>cases ek
  | cons ra rb =>
   cases rb with
   | cons _ _=>cases ek
   | nil =>
    obtain⟨xs,e1,e2⟩:=Option.bind_eq_some_iff.mp (show ((gF _).bind λds=>(qi ds).map vD)=some kd from ek)
    obtain⟨ps,e3,rfl⟩:=Option.map_eq_some_iff.mp e2
    obtain⟨a,vs,rfl,sq,ra'⟩:=ra.gF e1
    obtain⟨ts,pv,rfl,el,ht,rk⟩:=ra'.pairs e3
    exact⟨a,ts,pv,rfl,s1.gh.seq sq,el,λj t p a1 a2=>SqT.of (s1.gh _ _ (ht j t p a1 a2)),λl hl=>w _ G1 _ ((S.step s1).setd (.aside s1.gh hl) hl aG (aD s1.gh hl) (cZ.vD rk .nil))⟩
end
end DL
namespace DL
open PySem PySem.Spec PyProof.Rows MX L2
section
variable{X:Cx}{Γ:Nat->Option Addr}{E:XK}{a o:Expr}{fa fo:DSt->Out D}{K:Frag}{H:Hp}
noncomputable def vO:Option Int->V
 | some i=>.int i
 | none=>.non
def rIdxN(K:Frag):V->List V->Hp->VK->Prop:=λx vs H Q=>∃(l:Addr)(is:List (Option Int))(i:Int)(j:Nat),x=.ref l/\vs=[.int i]/\SqL K H l (is.map vO)/\is[j]?=some (some i)/\(∀m,m<j->is[m]?≠some (some i))/\Q (.int j) H
theorem Qn:MtR X "list.index" (rIdxN X.K):=by
 intro pins s σ H x vs v us Q I rx rv h
 obtain⟨l,is,i,j,rfl,rfl,hq,hj,hn,k⟩:=h
 cases rx
 obtain⟨u,rfl,ru⟩:=rv.one
 obtain⟨t,rfl⟩:=ru
 obtain⟨its,r',pl,hz⟩:=I.list hq
 obtain⟨ob,n0,ho,hcls,hdict,hdat⟩:=pl
 obtain⟨c,dd,dat,sl⟩:=ob
 simp only at hcls hdict hdat
 subst hcls hdict hdat
 have le:=r'.length
 rw[List.length_map] at le hz
 have gi:∀(m:Nat)(w:Value),its[m]?=some w->(∃k t,is[m]?=some (some k)/\w=Value.int k t)∨(is[m]?=some none/\w=Value.none):=λm w e=>by
  have l2:=(List.getElem?_eq_some_iff.mp e).1
  obtain⟨u,e1,e2⟩:=r'.get (i:=m) (x:=vO (is[m]'(by omega))) (by rw[List.getElem?_map,List.getElem?_eq_getElem (by omega)];rfl)
  rw[e] at e1
  cases e1
  rw[List.getElem?_eq_getElem (by omega:m<is.length)]
  cases q:is[m]'(by omega) with
  | none=>rw[q] at e2;exact .inr ⟨rfl,e2⟩
  | some k=>rw[q] at e2;obtain⟨t,e2⟩:=e2;exact .inl ⟨k,t,rfl,e2⟩
 have lj:j<its.length:=by
  have:=(List.getElem?_eq_some_iff.mp hj).1
  omega
 have zl:its.length<=sizeLine:=by omega
 refine call_meets PySem.F.slot_list_index ⟨_,ho,rfl⟩ PySem.F.entry_list_index (PySem.F.args_list_index_2 _ _) (SeqAt.list_indexAt l its.toArray n0 none sl (.int i t) (eqI i) j (by simpa using lj) (by rw[sizeLine_eq] at zl;omega) ?_ ?_) ⟨ho,λy hy=>?_,?_⟩
 .show eqI i its[j]=true
  rcases gi j _ (List.getElem?_eq_getElem lj) with⟨k,t',e1,e2⟩| ⟨e1,_⟩
  .rw[hj] at e1
   cases e1
   rw[e2]
   simp[eqI]
  .rw[hj] at e1;cases e1
 .intro m hm h2
  have lm:m<its.length:=by simpa using hm
  show eqI i its[m]=false
  rcases gi m _ (List.getElem?_eq_getElem lm) with⟨k,t',e1,e2⟩| ⟨_,e2⟩
  .rw[e2]
   show (k==i)=false
   rw[beq_eq_false_iff_ne]
   exact λz=>hn m h2 (by rw[e1,z])
  .rw[e2];rfl
 .obtain⟨m,hm,rfl⟩:=List.getElem_of_mem (show y∈its by simpa using hy)
  rcases gi m _ (List.getElem?_eq_getElem hm) with⟨k,t',e1,e2⟩| ⟨_,e2⟩
  .rw[e2]
   exact SeqAt.EqAt.int_int k t' i t
  .rw[e2]
   exact SeqAt.EqAt.none_int i t
 .exact⟨.int j,H,I.tok _,⟨_,rfl⟩,k⟩
noncomputable def tG:List D->Option (List (Option Int))
 | []=>some []
 | .int x::r=>(tG r).map (some x::·)
 | .non::r=>(tG r).map (none::·)
 | _=>none
theorem au.opts{vs:List V}{ds:List D}(r:au K Γ H vs ds):∀{ss:List (Option Int)},tG ds=some ss->vs=ss.map vO:=by
 induction ds generalizing vs with
 | nil=>intro ss e;cases r;cases e;rfl
 | cons d ds ih =>
  intro ss e
  cases r with
  | cons h r =>
   cases h <;> simp only[tG] at e <;> first | cases e | skip
   .obtain⟨q,e1,rfl⟩:=Option.map_eq_some_iff.mp e
    rw[ih r e1];rfl
   .obtain⟨q,e1,rfl⟩:=Option.map_eq_some_iff.mp e
    rw[ih r e1];rfl
noncomputable def gY(i:Int):List (Option Int)->Nat->Option Nat
 | [],_=>none
 | x::r,k=>if x=some i then some k else gY i r (k+1)
theorem uD{i:Int}:∀{l:List (Option Int)}{k j:Nat},gY i l k=some j->k<=j/\l[j - k]?=some (some i)/\∀m,m<j - k->l[m]?≠some (some i)
 | [],_,_,h=>by cases h
 | x::r,k,j,h=>by
  unfold gY at h
  split at h
  .rename_i z
   cases h
   exact⟨Nat.le_refl _,by rw[Nat.sub_self,z];rfl,λm hm=>by omega⟩
  .rename_i z
   obtain⟨h1,h2,h3⟩:=uD h
   refine⟨by omega,?_,λm hm=>?_⟩
   .rw[show j - k=(j - (k+1))+1 by omega]
    exact h2
   .cases m with
    | zero=>exact λq=>z (Option.some.inj q)
    | succ m=>exact h3 m (by omega)
noncomputable def idxN(d x:D):Option D:=match x with
 | .int i=>(gF d).bind λds=>(tG ds).bind λis=>(gY i is 0).map λj=>.int (j:Nat)
 | _=>none
noncomputable def oIdxN(fo fa:DSt->Out D):DSt->Out D:=λδ=>(fo δ).bind λd=>if isLst d=true then (fa δ).bind λy=>.opt (idxN d y) else .stuck
theorem Pk{apos cpos:Pos}{m:Str}(ho:DE X Γ E o fo)(ha:DE X Γ E a fa)(hh:∀{to te:TE},PE X o to->PE X a te->PE X (.Call (.Attribute o m apos) [a] [] cpos) (tBM X.K "list" (rIdxN X.K) to (jE te qJ))):DE X Γ E (.Call (.Attribute o m apos) [a] [] cpos) (oIdxN fo fa):=PE.imp (hh ho ha) λσ H Q qq=>by
 obtain⟨G0,H0,G,δ,S,w⟩:=qq;refine⟨G0,H0,G,δ,S,(aj w).mono (λd w v G1 H1 s1 r1=>?_) λ_ k=>k⟩
 split at w
 .rename_i hL
  refine⟨r1.listTy hL s1.gh,G0,H0,G1,δ,S.step s1,(aj w).mono (λy w u G2 H2 s2 r2=>?_) λ_ k=>k.step s1⟩
  obtain⟨r,e,k⟩:=bB w
  unfold idxN at e
  split at e
  .rename_i i
   obtain⟨ds,e1,e2⟩:=Option.bind_eq_some_iff.mp e
   obtain⟨is,e3,e4⟩:=Option.bind_eq_some_iff.mp e2
   obtain⟨j,e5,rfl⟩:=Option.map_eq_some_iff.mp e4
   obtain⟨q,vs,rfl,sq,ra⟩:=r1.gF e1
   obtain⟨_,f1,f2⟩:=uD e5
   rw[Nat.sub_zero] at f1 f2
   cases r2
   exact⟨q,is,i,j,rfl,rfl,(ra.opts e3)▸s2.gh.seq (s2.gg.seq sq),f1,f2,k _ G2 H2 (s1.trans s2) (.int _)⟩
  .cases e
 .exact False.elim w
end
end DL
local macro_rules
 | `(tactic| walk_at $s:str)=>do
  let t:=s.getString
  if t=="o" then return ←`(tactic| first | exact Or.inl rfl | exact Or.inr rfl)
  if t.startsWith "d " || t.startsWith "e " then
   let a:=((t.splitOn " ").filter (·≠"")).toArray.map λx=>Lean.mkIdent x.toName
   let i:=λ(x:String)=>Lean.mkIdent x.toName
   let (lp,w,K,mg,base,t',X,G,T):=(i "l.prog",i "w",i "K",i "mg",i "base",i "t",i "X",i "G",i "T")
   let k:=if t.startsWith "d " then 3 else 2
   let (D,J,ok,U,tx,bd):=(a[1]!,a[k]!,a[k+1]!,a[k+2]!,a[k+3]!,a[k+4]!)
   let as:=a.extract (k+5) a.size
   let (m,ex,kp):=(Lean.mkIdent (tx.getId++`m),Lean.mkIdent (tx.getId++`x++`ex),Lean.mkIdent (U.getId++`kp))
   let L:=i "L"
   let bs ←as.mapM λx=>`(($x $L))
   if t.startsWith "d " then
    return ←`(tactic| (obtain⟨_,$U⟩:=$ex;have $D : $(a[2]!) $lp $w $K $mg $base ($(i "Ga0") $t') $J := ⟨_,_,fun $L=>$ok $U $T $bs*,$bd $U,mg_of $X $G $m,$kp⟩))
   return ←`(tactic| (obtain⟨_,$U⟩:=$ex;have $D : $(i "DDs") $lp $w $K $mg $base ($(i "Ga0") $t') $J := ⟨_,_,$ok $U $T $as*,$bd $U,mg_of $X $G $m,$kp⟩))
  unless t.startsWith "ev" || t.startsWith "vc" || t.startsWith "vs" do Lean.Macro.throwUnsupported
  let (h,r):=match t.splitOn ":" with
   | [h,r]=>(h,r)
   | _=>(t,"")
  let minus:=(h.splitOn "-").drop 1
  let l:=if t.startsWith "ev" then "eE jN iG aR dX bz lV jc sIf bG dB Cg yO sClr sClr2 tM gv gb gvo slD o1 o2 o2b o3 oC oF oM oMk iH mz bV qW orT gA tst vf orV notV ifV aK ao dh sZ Ar bL gG kc uO frzd frz frzS wH Ff Iv zX wk zW Gd NP asB_b Mt Mu Mv J0 ixD_r Bq Mj GC atI_0 atI_1 atI_2 MF MJ Gm MN isND uX vA gN cN aQ gT Out.aM Out.FJ Out.vh Out.cU Out.BR Out.jr M3 List.map_cons List.map_nil List.length_cons List.length_nil List.append_assoc List.nil_append List.cons_append List.getElem?_cons_zero List.getElem?_cons_succ List.getElem?_nil List.set_cons_zero List.set_cons_succ Nat.zero_add Nat.reduceAdd Nat.reduceSub List.replicate_succ List.replicate_zero List.lookup_cons List.lookup_nil Option.some.injEq Option.bind_some Option.map_some Nat.reduceBEq Nat.reduceEqDiff Int.reduceLT Int.reduceLE Int.reduceNeg Int.reduceAdd Int.reduceMul Int.reduceSub Nat.reduceLeDiff reduceIte ite_true decide_true decide_false Bool.not_true Bool.not_false Nat.reduceEqDiff Bool.false_eq_true Option.isNone_none Option.isNone_some Hc String.reduceBEq String.reduceEq beq_self_eq_true List.contains_cons List.contains_nil Bool.or_false Bool.or_true Bool.true_or Bool.false_or Bool.and_true Bool.and_false Bool.true_and Bool.false_and Bool.not_eq_true eq_self_iff_true Int.cast_ofNat_Int Int.reduceBEq Int.natCast_zero" else if t.startsWith "vs" then "slD startD one1 addD_ii subD_ii mulD_ii fdivD_ii modD_ii negD cmpI_ii truD_b asB_b lenD_l lenD_r lenD_t ixD_l ixD_r ixD_t intD_i intD_b atI_0 atI_1 atI_2 maxD_2 minD_2 eqD_ii neD_ii isND notND gN gsNil gsCons gT frzd frz frzS Out.opt_some Option.bind_some Option.map_some List.map_cons List.map_nil List.length_cons List.length_nil List.append_assoc List.nil_append List.cons_append List.getElem?_cons_zero List.getElem?_cons_succ List.getElem?_nil List.set_cons_zero List.set_cons_succ Nat.zero_add Nat.reduceAdd Nat.reduceSub List.replicate_succ List.replicate_zero Nat.reduceEqDiff Int.reduceLT Int.reduceLE Int.reduceNeg Int.reduceAdd Int.reduceMul Int.reduceSub Nat.reduceLeDiff decide_true decide_false Bool.not_true Bool.not_false Bool.false_eq_true ofS_beq String.reduceBEq beq_self_eq_true Int.cast_ofNat_Int Int.reduceBEq Int.natCast_zero List.lookup_cons List.lookup_nil List.contains_cons List.contains_nil Bool.or_false Bool.or_true Bool.true_or Bool.false_or Nat.reduceBEq Option.isNone_none Option.isNone_some Option.some.injEq" else "slD startD one1 addD_ii subD_ii mulD_ii fdivD_ii modD_ii negD cmpI_ii truD_b asB_b lenD_l lenD_r lenD_t ixD_l ixD_r ixD_t intD_i intD_b atI_0 atI_1 atI_2 maxD_2 minD_2 eqD_ii neD_ii isND notND gN gsNil gsCons gT frzd frz frzS Out.opt_some Option.bind_some Option.map_some List.map_cons List.map_nil List.length_cons List.length_nil List.append_assoc List.nil_append List.cons_append List.getElem?_cons_zero List.getElem?_cons_succ List.getElem?_nil List.set_cons_zero List.set_cons_succ Nat.zero_add Nat.reduceAdd Nat.reduceSub List.replicate_succ List.replicate_zero Nat.reduceEqDiff Int.reduceLT Int.reduceLE Int.reduceNeg Int.reduceAdd Int.reduceMul Int.reduceSub Nat.reduceLeDiff decide_true decide_false Bool.not_true Bool.not_false Bool.false_eq_true ofS_beq String.reduceBEq beq_self_eq_true Int.cast_ofNat_Int Int.reduceBEq Int.natCast_zero List.lookup_cons List.lookup_nil List.contains_cons List.contains_nil Bool.or_false Bool.or_true Bool.true_or Bool.false_or Nat.reduceBEq Option.isNone_none Option.isNone_some Option.some.injEq"
  let all:=(l.splitOn " ").filter λx=>!minus.contains x
  let ids:=(all++(r.splitOn " ").filter (·≠"")).toArray.map λx=>Lean.mkIdent x.toName
  let args ←ids.mapM λi=>`(Lean.Parser.Tactic.simpLemma| $i:term)
  `(tactic| simp only[$args,*])
namespace K13
open PySem L2 MX DL
def top(i:Nat):Stmt:=PySem.Challenge.pw_mustmay_k41_rooms_that_contradict_themse.main.body.getD i (.Pass ⟨0,0,0,0⟩)
structure Ad where
 Door:Addr
 Must:Addr
 May:Addr
 Shut:Addr
 Torn:Addr
 Draft:Addr
 Plan:Addr
def Ga0(t:Ad):Plc:=λc=>[t.Door,t.Must,t.May,t.Shut,t.Torn,t.Draft,t.Plan][c]?
abbrev Ga(t:Ad)(L:Plc):Plc:=xt (Ga0 t) L
abbrev iJ:Nat:=1
abbrev qX:Nat:=2
abbrev gU:Nat:=3
abbrev gW:Nat:=4
abbrev aH:Nat:=5
abbrev bU:Nat:=6
noncomputable def dR:D->Option Bool:=my "bool" []
noncomputable def fX:D->Option Bool:=my "int" []
noncomputable def cG:D->Option Bool:=my "list" []
noncomputable def ik:D->Option Bool:=my "str" []
noncomputable def cW:D->Option Bool:=my "tuple" []
structure Txt(K:Frag)(mg:Str->Option Value)(t:Ad):Prop where
 g_Door:mg "Door"=some (.ref t.Door)
 i_Door:uQ K t.Door
 g_Must:mg "Must"=some (.ref t.Must)
 Mi:uQ K t.Must
 g_May:mg "May"=some (.ref t.May)
 i_May:uQ K t.May
 g_Shut:mg "Shut"=some (.ref t.Shut)
 Gy:uQ K t.Shut
 g_Torn:mg "Torn"=some (.ref t.Torn)
 Gz:uQ K t.Torn
 Oj:mg "Draft"=some (.ref t.Draft)
 p8:uQ K t.Draft
 g_Plan:mg "Plan"=some (.ref t.Plan)
 vz:uQ K t.Plan
 fH:bI K t.Draft "actions"
 bN:bI K t.Draft "rooms"
 kW:bI K t.May "to"
 iY:bI K t.Must "to"
 f9:bI K t.Plan "actions"
 cg:bI K t.Plan "rooms"
 iZ:bI K t.Shut "to"
 jb:bI K t.Torn "to"
 b_all:mg "all"=none
 b_any:mg "any"=none
 b_bool:mg "bool"=none
 b_dict:mg "dict"=none
 jA:mg "enumerate"=none
 b_int:mg "int"=none
 bF:mg "isinstance"=none
 eN:mg "len"=none
 vg:mg "list"=none
 b_min:mg "min"=none
 jZ:mg "range"=none
 b_set:mg "set"=none
 b_sorted:mg "sorted"=none
 b_str:mg "str"=none
 vY:mg "tuple"=none
 dR:∀L:Plc,Ae K (Ga t L) (.ty "bool") dR
 fX:∀L:Plc,Ae K (Ga t L) (.ty "int") fX
 cG:∀L:Plc,Ae K (Ga t L) (.ty "list") cG
 ik:∀L:Plc,Ae K (Ga t L) (.ty "str") ik
 cW:∀L:Plc,Ae K (Ga t L) (.ty "tuple") cW
 xK:∃u,mg "LETTERS"=some u/\RelV (.str "abcdefghijklmnopqrstuvwxyz") u
 lD:∃u,mg "MOST_ACTIONS"=some u/\RelV (.int 8) u
 pM:∃u,mg "MOST_ROOMS"=some u/\RelV (.int 2000) u
 pN:∃u,mg "MOST_SIGNS"=some u/\RelV (.int 8) u
section
variable{P:Program}{w:World}{K:Frag}{mg:Str->Option Value}{base:Heap}{t:Ad}{L:Plc}{f:Addr}{fd:FuncData}
abbrev tO:Stmt:=inClass (top 2) 0
abbrev tV:Stmt:=inClass (top 5) 0
abbrev tX:Stmt:=inClass (top 6) 0
noncomputable def xu:List D->Out (List (Str×D)):=λds=>match ds with
 | [d]=>.ok [("to",d)]
 | _=>.stuck
noncomputable def I_May:List D->Out (List (Str×D)):=xu
noncomputable def xx:List D->Out (List (Str×D)):=λds=>match ds with
 | []=>.ok [("to",.non)]
 | _=>.stuck
noncomputable def Ac:List D->Out (List (Str×D)):=xx
def Io(K:Frag):Sp:=λvs H Q _=>∃a C dx v,vs=[.ref a,v]/\H a=some (.ins C dx [])/\Cls K C/\bI K C "to"/\Q .non (upd H a (.ins C dx [("to",v)]))
theorem HQ:aN ["self","to"] ["self","to"] (aA tO):=⟨rfl,rfl,rfl,by decide +kernel,rfl,by decide +kernel,by decide +kernel⟩
theorem Hf{f:Addr}{fd:FuncData}(F:L2.Fun K "__init__" "Door.__init__" tO f fd):cJ P w K mg base CX0 1 f fd ["self","to"] (Io K):=by
 refine F.ok HQ (λvs H Q E h=>?_) (λcdv A outer s H vs Q E hr h=>?_)
 .obtain⟨a,C,dx,v,rfl,_⟩:=h
  rfl
 .obtain⟨a,C,dx,v,rfl,hH,cl,na,q⟩:=h
  refine⟨_,qp (Nh (pv 0) (pv 1) rfl),?_⟩
  exact⟨_,rfl,_,rfl,a,C,dx,_,rfl,hH,cl,na,(by decide),q⟩
theorem Ip{K:Frag}{Γ:Nat->Option Addr}{G H:Hp}{a C dx:Addr}{v:V}{d:D}{f:Str}{Q:VK}(ga:G a=none)(sg:aY G H)(r:Rep K Γ G v d)
  (w:∀fs G' H',aY G G'->(∀b o,H b=some o->b≠a->H' b=some o)->aY G' H'->(∀b,H b≠none->G b=none->G' b=none)->H' a=some (.ins C dx fs)->lC K Γ G' fs [(f,d)]->Q .non H'):Q .non (upd H a (.ins C dx [(f,v)])) :=
 w [(f,v)] G _ (aY.refl _) (λb o e hb=>by rw[aF hb];exact e) (λb o e=>by rw[aF (aW e ga)];exact sg _ _ e) (λ_ _ g=>g) aG (.cons r .nil)
theorem ok_to{c:Nat}{f C0:Addr}{fd:FuncData}(F:cJ P w K mg base CX0 1 f fd ["self","to"] (Io K))(hc:Ga t L c=some C0)(cl:Cls K C0)(na:bI K C0 "to"):cJ P w K mg base CX0 1 f fd ["self","to"] (spI K (Ga t L) c 1 xu):=F.imp λvs H Q E h=>by
 obtain⟨hl,a,dx,C,us,G,ds,rfl,hH,hC,ga,sg,r,w⟩:=h
 rw[hc] at hC
 cases hC
 cases r with
 | nil=>cases hl
 | cons r1 r2 =>
  cases r2 with
  | cons _ _=>cases hl
  | nil=>exact⟨a,C0,dx,_,rfl,hH,cl,na,Ip ga sg r1 w⟩
theorem HX:aN ["self"] ["self"] (aA tV):=⟨rfl,rfl,rfl,by decide +kernel,rfl,by decide +kernel,by decide +kernel⟩
theorem Ib:aN ["self"] ["self"] (aA tX):=⟨rfl,rfl,rfl,by decide +kernel,rfl,by decide +kernel,by decide +kernel⟩
theorem Hj{f fD:Addr}{fd fdD:FuncData}(F:L2.Fun K "__init__" "Shut.__init__" tV f fd)(T:Txt K mg t)(G0:cJ P w K mg base CX0 1 fD fdD ["self","to"] (Io K))(ca:zF K t.Door "__init__" (.ref fD))(hk:keepIn K (.ref fD)=true)(hb:Binds K fdD ["self","to"] []):cJ P w K mg base CX0 2 f fd ["self"] (spI K (Ga t L) gU 0 xx):=by
 refine F.ok HX (λvs H Q E h=>h.1) (λcdv A outer s H vs Q E hr h=>?_)
 obtain⟨hl,a,dx,C,us,G,ds,rfl,hH,hC,ga,sg,r,w⟩:=h
 cases hC
 cases r with
 | cons _ _=>cases hl
 | nil =>
  refine⟨_,qp (nA (Ko G0 hr rfl T.g_Door ca hk hb .nil pass0 (bD (pv 0) (bD M9 dw)))),?_⟩
  exact⟨_,rfl,a,_,dx,_,rfl,hH,T.Gy.cls,T.iZ,Ip ga sg .non w⟩
theorem Hl{f fD:Addr}{fd fdD:FuncData}(F:L2.Fun K "__init__" "Torn.__init__" tX f fd)(T:Txt K mg t)(G0:cJ P w K mg base CX0 1 fD fdD ["self","to"] (Io K))(ca:zF K t.Door "__init__" (.ref fD))(hk:keepIn K (.ref fD)=true)(hb:Binds K fdD ["self","to"] []):cJ P w K mg base CX0 2 f fd ["self"] (spI K (Ga t L) gW 0 Ac):=by
 refine F.ok Ib (λvs H Q E h=>h.1) (λcdv A outer s H vs Q E hr h=>?_)
 obtain⟨hl,a,dx,C,us,G,ds,rfl,hH,hC,ga,sg,r,w⟩:=h
 cases hC
 cases r with
 | cons _ _=>cases hl
 | nil =>
  refine⟨_,qp (nA (Ko G0 hr rfl T.g_Door ca hk hb .nil pass0 (bD (pv 0) (bD M9 dw)))),?_⟩
  exact⟨_,rfl,a,_,dx,_,rfl,hH,T.Gz.cls,T.jb,Ip ga sg .non w⟩
abbrev tR:Stmt:=inClass (top 3) 0
theorem HS:aN ["self"] ["self"] (aA tR):=scm
noncomputable def m5:DSt->Out Fl:=(bG (kc (.str "must")))
noncomputable def mD:List D->Out D:=λds=>(eE 1 m5 ds).aZ
abbrev Jh:Inf D:=⟨"word",1,["self"],mD⟩
theorem Hh(F:L2.Fun K "word" "Must.word" tR f fd)(T:Txt K mg t):OD P w K mg base (Ga t L) Jh f fd:=by
 refine okJ 0 m5 F HS λ_ _ _ _ _ _ hr=>?_
 exact(az (aU bJ))
abbrev vG:Stmt:=inClass (top 4) 0
theorem Kw:aN ["self"] ["self"] (aA vG):=scm
noncomputable def pW:DSt->Out Fl:=(bG (kc (.str "may")))
noncomputable def oY:List D->Out D:=λds=>(eE 1 pW ds).aZ
abbrev Le:Inf D:=⟨"word",1,["self"],oY⟩
theorem Ka(F:L2.Fun K "word" "May.word" vG f fd)(T:Txt K mg t):OD P w K mg base (Ga t L) Le f fd:=by
 refine okJ 0 pW F Kw λ_ _ _ _ _ _ hr=>?_
 exact(az (aU bJ))
abbrev tW:Stmt:=inClass (top 5) 1
theorem HY:aN ["self"] ["self"] (aA tW):=scm
noncomputable def m6:DSt->Out Fl:=(bG (kc (.str "shut")))
noncomputable def mF:List D->Out D:=λds=>(eE 1 m6 ds).aZ
abbrev Ji:Inf D:=⟨"word",1,["self"],mF⟩
theorem Hk(F:L2.Fun K "word" "Shut.word" tW f fd)(T:Txt K mg t):OD P w K mg base (Ga t L) Ji f fd:=by
 refine okJ 0 m6 F HY λ_ _ _ _ _ _ hr=>?_
 exact(az (aU bJ))
abbrev tY:Stmt:=inClass (top 6) 1
theorem Ie:aN ["self"] ["self"] (aA tY):=scm
noncomputable def m7:DSt->Out Fl:=(bG (kc (.str "torn")))
noncomputable def mG:List D->Out D:=λds=>(eE 1 m7 ds).aZ
abbrev Jj:Inf D:=⟨"word",1,["self"],mG⟩
theorem Hm(F:L2.Fun K "word" "Torn.word" tY f fd)(T:Txt K mg t):OD P w K mg base (Ga t L) Jj f fd:=by
 refine okJ 0 m7 F Ie λ_ _ _ _ _ _ hr=>?_
 exact(az (aU bJ))
noncomputable def cI:List (Nat×(List D->Out D)):=[(iJ,mD),(qX,oY),(gU,mF),(gW,mG)]
abbrev tQ:Stmt:=inClass (top 2) 1
theorem HR:aN ["self"] ["self"] (aA tQ):=scm
noncomputable def sG:DSt->Out Fl:=(bG (dh (ao (oM "word" 1 cI (gv 0) aK) (ao (iH "to" [iJ,qX,gU,gW] (gv 0)) aK))))
noncomputable def eG:List D->Out D:=λds=>(eE 1 sG ds).aZ
abbrev Jg:Inf D:=⟨"told",2,["self"],eG⟩
theorem Hg(F:L2.Fun K "told" "Door.told" tQ f fd)(T:Txt K mg t)(iV:nJ P w K mg base (Ga t L) "word" (spD K (Ga t L) 1) 1 cI):OD P w K mg base (Ga t L) Jg f fd:=by
 refine okJ 1 sG F HR λ_ _ _ _ _ _ hr=>?_
 exact(az (aU (eO (ak (tE iV hr (nv 0)) (ak (nO (cs:=[iJ,qX,gU,gW]) ⟨⟨t.Must,rfl,T.Mi.cls,T.iY⟩,⟨t.May,rfl,T.i_May.cls,T.kW⟩,⟨t.Shut,rfl,T.Gy.cls,T.iZ⟩,⟨t.Torn,rfl,T.Gz.cls,T.jb⟩,trivial⟩ (nv 0)) aJ)))))
noncomputable def ur:List (Nat×(List D->Out D)):=[(iJ,eG),(qX,eG),(gU,eG),(gW,eG)]
abbrev yc:Stmt:=top 7
theorem Np:aN ["needs","allows","to"] ["needs","allows","to"] (aA yc):=scm
noncomputable def xP:DSt->Out Fl:=(aR (sIf (qW (tst (gb 0)) (tst (gb 1))) (bG (oMk iJ 1 xu (ao (gv 2) aK))) dX)
 (aR (sIf (tst (gb 1)) (bG (oMk qX 1 I_May (ao (gv 2) aK))) dX)
 (aR (sIf (tst (gb 0)) (bG (oMk gW 0 Ac aK)) dX)
 (bG (oMk gU 0 xx aK)))))
noncomputable def ux:List D->Out D:=λds=>(eE 3 xP ds).aZ
abbrev xG:Inf D:=⟨"door_of",4,["needs","allows","to"],ux⟩
theorem M5(F:L2.Fun K "door_of" "door_of" yc f fd)(T:Txt K mg t)(Lf:Ini P w K mg base t.Must 1 ["self","to"] (spI K (Ga t L) iJ 1 xu))(N_May:Ini P w K mg base t.May 1 ["self","to"] (spI K (Ga t L) qX 1 I_May))(Li:Ini P w K mg base t.Torn 2 ["self"] (spI K (Ga t L) gW 0 Ac))(Lh:Ini P w K mg base t.Shut 2 ["self"] (spI K (Ga t L) gU 0 xx)):OD P w K mg base (Ga t L) xG f fd:=by
 refine okJ 3 xP F Np λ_ _ _ _ _ _ hr=>?_
 exact(aq (cR (su (vo (c7 (aP 0 (pv 0))) (uB (c7 (aP 1 (pv 1)))))) (az (aU (J6 Lf hr T.g_Must (ak (nv 2) aJ)))) bu)
   (aq (cR (c7 (aP 1 (pv 1))) (az (aU (J6 N_May hr T.g_May (ak (nv 2) aJ)))) bu)
   (aq (cR (c7 (aP 0 (pv 0))) (az (aU (nmake0 Li hr T.g_Torn))) bu)
   (az (aU (nmake0 Lh hr T.g_Shut))))))
abbrev yd:Stmt:=top 16
theorem Nq:aN ["thing"] ["thing"] (aA yd):=scm
noncomputable def sS:DSt->Out D:=(bV (o2b inD (gb 0) (kc (.str "abcdefghijklmnopqrstuvwxyz"))))
noncomputable def xQ:DSt->Out Fl:=(aR (sIf (orT (gA (tst (mz ik (gb 0)))) (gA (o3 leD leD (kc (.int 1)) (o1 dj (gb 0)) (kc (.int 8))))) (bG (kc (.bl false))) dX)
 (bG (o1 allD (gG (bj [none] (strO (gv 0)) (gN 0) (λ_=>.ok true) sS)))))
noncomputable def oh:List D->Out D:=λds=>(eE 1 xQ ds).aZ
abbrev xH:Inf D:=⟨"is_name",1,["thing"],oh⟩
theorem M6(F:L2.Fun K "is_name" "is_name" yd f fd)(T:Txt K mg t):OD P w K mg base (Ga t L) xH f fd:=by
 obtain⟨u_MOST_SIGNS,Gx,HD⟩:=T.pN
 obtain⟨u_LETTERS,PX,QC⟩:=T.xK
 refine okJ 0 xQ F Nq λ_ _ _ _ _ _ hr=>?_
 exact(aq (cR (su (ou (d8 (c7 (aL (jG (cv:=.ty "str") (.inr rfl) (T.ik _) rfl T.bF (aP 0 (pv 0)) (gj rfl T.b_str (by decide +kernel) rfl))))) (lF (d8 (Gk (aL aB) (aL (cV rfl T.eN (aP 0 (pv 0)))) (aL (de_c (zY (v:=.int 8) rfl Gx HD) (λ_=>.int _)))))))) (az (aU mV)) bu)
   (az (aU (Ls rfl rfl T.b_all (aL (qN (dH (λa b c d=>cA (N':=["sign"]) (cap:=[none]) ⟨rfl,rfl,by decide +kernel,by decide +kernel,by rfl,trivial,⟨trivial,trivial⟩⟩ rfl a b c d) (di_str (nv 0)) (jM 0) (λ_ _ _ _ _=>ngc) (λ_ _ _ _ _=>bY) (λ_ _ _ _ _=>(de_in (aP 0 (pv 0)) (aL (de_c (zY (v:=.str "abcdefghijklmnopqrstuvwxyz") rfl PX QC) (λ_=>.str _))))))))))))
abbrev jd:Stmt:=top 17
theorem wR:aN ["thing"] ["thing"] (aA jd):=scm
noncomputable def gw:DSt->Out D:=(oF 1 oh (ao (gv 0) aK))
noncomputable def iW:DSt->Out Fl:=(aR (sIf (orT (gA (tst (mz cG (gb 0)))) (gA (o3 leD leD (kc (.int 1)) (o1 dj (gb 0)) (kc (.int 8))))) (bG (kc (.bl false))) dX)
 (bG (vf (o1 allD (gG (bj [none] (bL (gv 0)) (gN 0) (λ_=>.ok true) gw))) (bV (o2b eqD (o1 Bt (gv 0)) (o1 dj (gb 0)))))))
noncomputable def iR:List D->Out D:=λds=>(eE 1 iW ds).aZ
abbrev iU:Inf D:=⟨"is_action_list",2,["thing"],iR⟩
theorem wJ(F:L2.Fun K "is_action_list" "is_action_list" jd f fd)(T:Txt K mg t)(xn:DD P w K mg base (Ga t L) xH):OD P w K mg base (Ga t L) iU f fd:=by
 obtain⟨u_MOST_ACTIONS,Bo,BX⟩:=T.lD
 refine okJ 1 iW F wR λ_ _ _ _ _ _ hr=>?_
 exact(aq (cR (su (ou (d8 (c7 (aL (jG (cv:=.ty "list") (.inr rfl) (T.cG _) rfl T.bF (aP 0 (pv 0)) (gj rfl T.vg (by decide +kernel) rfl))))) (lF (d8 (Gk (aL aB) (aL (cV rfl T.eN (aP 0 (pv 0)))) (aL (de_c (zY (v:=.int 8) rfl Bo BX) (λ_=>.int _)))))))) (az (aU mV)) bu)
   (az (aU (pO (Ls rfl rfl T.b_all (aL (qN (dH (λa b c d=>cA (N':=["name"]) (cap:=[none]) ⟨rfl,rfl,by decide +kernel,by decide +kernel,by rfl,trivial,⟨trivial,trivial⟩⟩ rfl a b c d) (cL (nv 0)) (jM 0) (λ_ _ _ _ _=>ngc) (λ_ _ _ _ _=>bY) (λ_ _ _ _ _=>(bK xn hr (ak (nv 0) aJ))))))) (rY (v5 hr.units (aL (Pq rfl rfl T.eN rfl T.b_set (nv 0))) (aL (cV rfl T.eN (aP 0 (pv 0))))))))))
abbrev lZ:Stmt:=top 18
theorem zB:aN ["actions"] ["actions"] (aA lZ):=scm
noncomputable def lJ:DSt->Out Fl:=(sIf (gA (tst (oF 1 iR (ao (gv 0) aK)))) (λ_=>.stuck) dX)
noncomputable def gP:List D->Out D:=λds=>(eE 1 lJ ds).aZ
abbrev lB:Inf D:=⟨"need_actions",3,["actions"],gP⟩
theorem zy(F:L2.Fun K "need_actions" "need_actions" lZ f fd)(T:Txt K mg t)(iK:DD P w K mg base (Ga t L) iU):OD P w K mg base (Ga t L) lB f fd:=by
 refine okJ 2 lJ F zB λ_ _ _ _ _ _ hr=>?_
 exact(az (cR (d8 (c7 (aL (bK iK hr (ak (nv 0) aJ))))) (az v9) bu))
abbrev ye:Stmt:=top 19
theorem Nr:aN ["thing","many"] ["thing","many"] (aA ye):=scm
noncomputable def uF:DSt->Out Fl:=(bG (vf (mz fX (gb 0)) (vf (notV (mz dR (gb 0))) (bV (o3 leD ltD (kc (.int 0)) (gb 0) (gb 1))))))
noncomputable def fj:List D->Out D:=λds=>(eE 2 uF ds).aZ
abbrev uy:Inf D:=⟨"is_room",1,["thing","many"],fj⟩
theorem M7(F:L2.Fun K "is_room" "is_room" ye f fd)(T:Txt K mg t):OD P w K mg base (Ga t L) uy f fd:=by
 refine okJ 0 uF F Nr λ_ _ _ _ _ _ hr=>?_
 exact(az (aU (pO (jG (cv:=.ty "int") (.inr rfl) (T.fX _) rfl T.bF (aP 0 (pv 0)) (gj rfl T.b_int (by decide +kernel) rfl)) (pO (de_not (jG (cv:=.ty "bool") (.inr rfl) (T.dR _) rfl T.bF (aP 0 (pv 0)) (gj rfl T.b_bool (by decide +kernel) rfl))) (rY (de_lelt (aL aB) (aP 0 (pv 0)) (aP 1 (pv 1))))))))
abbrev lY:Stmt:=top 20
theorem qT:aN ["thing","many","torn_too","word"] ["thing","many","torn_too"] (aA lY):=scm
noncomputable def lH:DSt->Out Fl:=(aR (sIf (orT (gA (tst (mz cW (gb 0)))) (o2b neD (o1 dj (gb 0)) (kc (.int 2)))) (bG (kc (.bl false))) dX)
 (aR (bz 3 (o2 ixD (gvo 0) (kc (.int 0))))
 (aR (sIf (gA (tst (mz ik (gb 3)))) (bG (kc (.bl false))) dX)
 (aR (sIf (orT (o2b eqD (gb 3) (kc (.str "must"))) (o2b eqD (gb 3) (kc (.str "may")))) (bG (oF 2 fj (ao (o2 ixD (gvo 0) (kc (.int 1))) (ao (gv 1) aK)))) dX)
 (bG (vf (bV (o2b isND (o2 ixD (gvo 0) (kc (.int 1))) (kc .non))) (orV (bV (o2b eqD (gb 3) (kc (.str "shut")))) (vf (bV (o2b eqD (gb 3) (kc (.str "torn")))) (gv 2)))))))))
noncomputable def gO:List D->Out D:=λds=>(eE 4 lH ds).aZ
abbrev lA:Inf D:=⟨"is_told_door",2,["thing","many","torn_too"],gO⟩
theorem zx(F:L2.Fun K "is_told_door" "is_told_door" lY f fd)(T:Txt K mg t)(kJ:DD P w K mg base (Ga t L) uy):OD P w K mg base (Ga t L) lA f fd:=by
 refine okJ 1 lH F qT λ_ _ _ _ _ _ hr=>?_
 exact(aq (cR (su (ou (d8 (c7 (aL (jG (cv:=.ty "tuple") (.inr rfl) (T.cW _) rfl T.bF (aP 0 (pv 0)) (gj rfl T.vY (by decide +kernel) rfl))))) (lF (JG hr.units (aL (cV rfl T.eN (aP 0 (pv 0)))) (aL aB))))) (az (aU mV)) bu)
   (aq (dO 3 qT.nd (cQ 0 (pv 0) aB))
   (aq (cR (d8 (c7 (aL (jG (cv:=.ty "str") (.inr rfl) (T.ik _) rfl T.bF (aP 3 (pv 3)) (gj rfl T.b_str (by decide +kernel) rfl))))) (az (aU mV)) bu)
   (aq (cR (su (ou (mY hr.units (aP 3 (pv 3)) (aL bJ)) (lF (mY hr.units (aP 3 (pv 3)) (aL bJ))))) (az (aU (bK kJ hr (ak (cQ 0 (pv 0) aB) (ak (nv 1) aJ))))) bu)
   (az (aU (pO (de_is (aL (cQ 0 (pv 0) aB)) (aL jH)) (rY (de_or (v5 hr.units (aP 3 (pv 3)) (aL bJ)) (rY (pO (v5 hr.units (aP 3 (pv 3)) (aL bJ)) (rY (nv 2)))))))))))))
abbrev qH:Stmt:=top 21
theorem fV:aN ["rows","many_actions","torn_too","room","row","action","thing"] ["rows","many_actions","torn_too"] (aA qH):=scm
noncomputable def lM:DSt->Out Fl:=(sIf (gA (tst (oF 3 gO (ao (gv 6) (ao (o1 dj (gb 0)) (ao (gv 2) aK)))))) (λ_=>.stuck) dX)
noncomputable def lL:DSt->Out Fl:=(aR (sIf (orT (gA (tst (mz cG (gb 4)))) (o2b neD (o1 dj (gb 4)) (gb 1))) (λ_=>.stuck) dX)
 (dB (enum (gv 4)) (gT 2 (aQ (gN 5) (aQ (gN 6) cN))) lM))
noncomputable def pZ:DSt->Out Fl:=(aR (sIf (orT (gA (tst (mz cG (gb 0)))) (gA (o3 leD leD (kc (.int 1)) (o1 dj (gb 0)) (kc (.int 2000))))) (λ_=>.stuck) dX)
 (dB (enum (gv 0)) (gT 2 (aQ (gN 3) (aQ (gN 4) cN))) lL))
noncomputable def fu:List D->Out D:=λds=>(eE 7 pZ ds).aZ
abbrev pB:Inf D:=⟨"need_rooms",3,["rows","many_actions","torn_too"],fu⟩
theorem Ds(F:L2.Fun K "need_rooms" "need_rooms" qH f fd)(T:Txt K mg t)(kZ:DD P w K mg base (Ga t L) lA):OD P w K mg base (Ga t L) pB f fd:=by
 obtain⟨u_MOST_ROOMS,Gw,HB⟩:=T.pM
 refine okJ 2 pZ F fV λ_ _ _ _ _ _ hr=>?_
 exact(aq (cR (su (ou (d8 (c7 (aL (jG (cv:=.ty "list") (.inr rfl) (T.cG _) rfl T.bF (aP 0 (pv 0)) (gj rfl T.vg (by decide +kernel) rfl))))) (lF (d8 (Gk (aL aB) (aL (cV rfl T.eN (aP 0 (pv 0)))) (aL (de_c (zY (v:=.int 2000) rfl Gw HB) (λ_=>.int _)))))))) (az v9) bu)
   (az (uN (zJ rfl T.jA (nv 0)) (sr (n:=2) (λh=>qm rfl h) (bW (ngn fV.nd) (bW (ngn fV.nd) mX (λa b=>bH a b)) (λa b=>bH a b))) (aq (cR (su (ou (d8 (c7 (aL (jG (cv:=.ty "list") (.inr rfl) (T.cG _) rfl T.bF (aP 4 (pv 4)) (gj rfl T.vg (by decide +kernel) rfl))))) (lF (JG hr.units (aL (cV rfl T.eN (aP 4 (pv 4)))) (aP 1 (pv 1)))))) (az v9) bu)
   (az (uN (zJ rfl T.jA (nv 4)) (sr (n:=2) (λh=>qm rfl h) (bW (ngn fV.nd) (bW (ngn fV.nd) mX (λa b=>bH a b)) (λa b=>bH a b))) (az (cR (d8 (c7 (aL (bK kZ hr (ak (nv 6) (ak (cV rfl T.eN (aP 0 (pv 0))) (ak (nv 2) aJ))))))) (az v9) bu))))))))
abbrev ud:Stmt:=top 22
theorem wU:aN ["told","word"] ["told"] (aA ud):=scm
noncomputable def sI:DSt->Out Fl:=(aR (bz 1 (o2 ixD (gvo 0) (kc (.int 0))))
 (bG (oF 3 ux (ao (bV (o2b inD (gb 1) (dh (ao (kc (.str "must")) (ao (kc (.str "torn")) aK))))) (ao (bV (o2b inD (gb 1) (dh (ao (kc (.str "must")) (ao (kc (.str "may")) aK))))) (ao (o2 ixD (gvo 0) (kc (.int 1))) aK))))))
noncomputable def jx:List D->Out D:=λds=>(eE 2 sI ds).aZ
abbrev rN:Inf D:=⟨"made_door",5,["told"],jx⟩
theorem Ht(F:L2.Fun K "made_door" "made_door" ud f fd)(T:Txt K mg t)(xm:DD P w K mg base (Ga t L) xG):OD P w K mg base (Ga t L) rN f fd:=by
 refine okJ 4 sI F wU λ_ _ _ _ _ _ hr=>?_
 exact(aq (dO 1 wU.nd (cQ 0 (pv 0) aB))
   (az (aU (bK xm hr (ak (de_in (aP 1 (pv 1)) (aL (eO (ak bJ (ak bJ aJ))))) (ak (de_in (aP 1 (pv 1)) (aL (eO (ak bJ (ak bJ aJ))))) (ak (cQ 0 (pv 0) aB) aJ)))))))
abbrev ue:Stmt:=top 23
theorem Ih:aN ["row"] ["row"] (aA ue):=scm
noncomputable def nP:DSt->Out D:=(oF 1 jx (ao (gv 0) aK))
noncomputable def sJ:DSt->Out Fl:=(bG (oC (uO vM) (ao (gG (bj [none] (bL (gv 0)) (gN 0) (λ_=>.ok true) nP)) aK)))
noncomputable def jy:List D->Out D:=λds=>(eE 1 sJ ds).aZ
abbrev rP:Inf D:=⟨"made_room",6,["row"],jy⟩
theorem Hu(F:L2.Fun K "made_room" "made_room" ue f fd)(T:Txt K mg t)(rD:DD P w K mg base (Ga t L) rN):OD P w K mg base (Ga t L) rP f fd:=by
 refine okJ 5 sJ F Ih λ_ _ _ _ _ _ hr=>?_
 exact(az (aU (Az rfl T.vY (qN (dH (λa b c d=>cA (N':=["told"]) (cap:=[none]) ⟨rfl,rfl,by decide +kernel,by decide +kernel,by rfl,trivial,⟨trivial,trivial⟩⟩ rfl a b c d) (cL (nv 0)) (jM 0) (λ_ _ _ _ _=>ngc) (λ_ _ _ _ _=>bY) (λ_ _ _ _ _=>(bK rD hr (ak (nv 0) aJ))))))))
abbrev ug:Stmt:=top 24
theorem Ij:aN ["doors"] ["doors"] (aA ug):=scm
noncomputable def uV:DSt->Out D:=(oM "told" 1 ur (gv 0) aK)
noncomputable def nq:DSt->Out Fl:=(Ci (bj [none] (bL (gv 0)) (gN 0) (λ_=>.ok true) uV))
noncomputable def rH:List D->Out (List D):=λds=>(runL 1 nq ds).aZ
abbrev rR:Inf (List D):=⟨"told_room",3,["doors"],rH⟩
theorem Hw(F:L2.Fun K "told_room" "told_room" ug f fd)(T:Txt K mg t)(Ag:nJ P w K mg base (Ga t L) "told" (spD K (Ga t L) 1) 2 ur):ODf P w K mg base (Ga t L) rR f fd:=by
 refine okJf 2 nq F Ij λ_ _ _ _ _ _ hr=>?_
 exact(az (Gj (dH (λa b c d=>cA (N':=["door"]) (cap:=[none]) ⟨rfl,rfl,by decide +kernel,by decide +kernel,by rfl,trivial,⟨trivial,trivial⟩⟩ rfl a b c d) (cL (nv 0)) (jM 0) (λ_ _ _ _ _=>ngc) (λ_ _ _ _ _=>bY) (λ_ _ _ _ _=>(tE Ag hr (nv 0))))))
abbrev qu:Stmt:=inClass (top 25) 0
theorem Du:aN ["self","actions","rows"] ["self","actions","rows"] (aA qu):=⟨rfl,rfl,rfl,by decide +kernel,rfl,by decide +kernel,by decide +kernel⟩
noncomputable def lN:DSt->Out D:=(oF 1 jy (ao (gv 0) aK))
noncomputable def zP:DSt->Out D:=(oF 1 gP (ao (gv 1) aK))
noncomputable def zQ:DSt->Out D:=(o1 dj (gb 1))
noncomputable def zR:DSt->Out D:=(oC (uO vM) (ao (gv 1) aK))
noncomputable def zT:DSt->Out D:=(oC (uO vM) (ao (gG (bj [none] (bL (gv 2)) (gN 0) (λ_=>.ok true) lN)) aK))
noncomputable def Ej(torn:Bool)(ds:List D):Out (List (Str×D)):=match ds with
 | [acts,rows] =>
  let δ:DSt:=[none,some (.sh acts),some (.sh rows)]
  (zP δ).aZ.bind λ_=>(zQ δ).aZ.bind λn=>(fu [rows,n,.bl torn]).aZ.bind λ_=>(zR δ).aZ.bind λta=>(zT δ).aZ.bind λtr=>.ok [("actions",ta),("rooms",tr)]
 | _=>.stuck
noncomputable def mK:List D->Out (List (Str×D)):=Ej true
noncomputable def Ld:List D->Out (List (Str×D)):=Ej false
def spT(b:Bool):Sp:=λvs H Q _=>∃v,vs=[v]/\Q (.bl b) H
abbrev qw:Stmt:=inClass (top 25) 1
theorem Dv:aN ["self"] ["self"] (aA qw):=⟨rfl,rfl,rfl,by decide +kernel,rfl,by decide +kernel,by decide +kernel⟩
theorem Dh{f:Addr}{fd:FuncData}(F:L2.Fun K "lets_torn" "Draft.lets_torn" qw f fd):cJ P w K mg base CX0 1 f fd ["self"] (spT true):=by
 refine F.ok Dv (λvs H Q E h=>?_) (λcdv A outer s H vs Q E hr h=>?_)
 .obtain⟨v,rfl,_⟩:=h
  rfl
 .obtain⟨v,rfl,q⟩:=h
  exact⟨_,qp (xW pe_bl),q⟩
abbrev tU:Stmt:=inClass (top 26) 0
theorem HW:aN ["self"] ["self"] (aA tU):=⟨rfl,rfl,rfl,by decide +kernel,rfl,by decide +kernel,by decide +kernel⟩
theorem Hi{f:Addr}{fd:FuncData}(F:L2.Fun K "lets_torn" "Plan.lets_torn" tU f fd):cJ P w K mg base CX0 1 f fd ["self"] (spT false):=by
 refine F.ok HW (λvs H Q E h=>?_) (λcdv A outer s H vs Q E hr h=>?_)
 .obtain⟨v,rfl,_⟩:=h
  rfl
 .obtain⟨v,rfl,q⟩:=h
  exact⟨_,qp (xW pe_bl),q⟩
theorem Qd{K:Frag}{Γ:Nat->Option Addr}{G H:Hp}{a C dx:Addr}{v1 v2:V}{acts rows:D}{torn:Bool}{Q:VK}{E:XK}(hH:H a=some (.ins C dx []))(ga:G a=none)(sg:aY G H)(r1:Rep K Γ G v1 acts)(r2:Rep K Γ G v2 rows)(cl:Cls K C)(na1:bI K C "actions")(na2:bI K C "rooms")
  (w:wpO (Ej torn [acts,rows]) (λfds=>∀fs G' H',aY G G'->(∀b o,H b=some o->b≠a->H' b=some o)->aY G' H'->(∀b,H b≠none->G b=none->G' b=none)->H' a=some (.ins C dx fs)->lC K Γ G' fs fds->Q .non H')
   (λx=>∀a' G' H',aY G G'->(∀b o,H b=some o->b≠a->H' b=some o)->aY G' H'->(∀b,H b≠none->G b=none->G' b=none)->Rep K Γ G' (.ref a') x->E (.ref a') none H')) :
  tSeq (uq (teD K Γ E0 zP)) (tSeq (uq (Cv (spD K Γ 3 fu) [] E0 (jE (teD K Γ E0 (gv 2)) (jE (teD K Γ E0 zQ) (jE (tMeth C "lets_torn" (spT torn) [] E0 (iI 0) qJ) qJ))))) (tSeq (sFld K (iI 0) (teD K Γ E0 zR) "actions") (sFld K (iI 0) (teD K Γ E0 zT) "rooms"))) { nx:=λ_ H'=>Q .non H',rt:=Q } [some (.ref a),some v1,some v2] H:=by
 have S0:SR K Γ G H G H [some (.ref a),some v1,some v2] [none,some (.sh acts),some (.sh rows)]:=by
  refine⟨.refl sg,rfl,λ_=>none,λi x e=>?_⟩
  match i,e with
  | 1,e=>cases e;exact⟨v1,rfl,r1⟩
  | 2,e=>cases e;exact⟨v2,rfl,r2⟩
  | i+3,e=>simp at e
 have g2:gv 2 [none,some (.sh acts),some (.sh rows)]=.ok rows:=rfl
 have w1:=cY (R':=exD K Γ E0 G H) (aj w)
 refine⟨G,H,G,_,S0,w1.mono (λd1 w1 u1 G1 H1 s1 _=>?_) λ_ k=>k⟩
 have S1:=S0.step s1
 refine⟨G,H,G1,_,S1,?_⟩
 rw[g2]
 intro u2 G2 H2 s2 q2
 have S2:=S1.step s2
 have w2:=cY (R':=exD K Γ E0 G2 H2) (aj w1)
 refine⟨G,H,G2,_,S2,w2.mono (λn w2 u3 G3 H3 s3 q3=>?_) λ_ k=>k⟩
 have s03:=((s1.trans s2).trans s3)
 refine⟨_,rfl,a,dx,[],rfl,s03.hh _ _ hH,rfl,_,rfl,rfl,G3,[rows,n,.bl torn],s03.gh,.cons (q2.mono s3.gg) (.cons q3 (.cons (.bl _) .nil)),?_⟩
 have w3:=cY (R':=exD K Γ E0 G3 H3) (aj w2)
 refine w3.mono (λd3 w3 u4 G4 H4 s4 _=>?_) λ_ k=>k
 have s04:=s03.trans s4
 have S4:=S0.step s04
 have w4:=cY (R':=exD K Γ E0 G4 H4) (aj w3)
 refine⟨G,H,G4,_,S4,w4.mono (λta w4 u5 G5 H5 s5 q5=>?_) λ_ k=>k⟩
 have s05:=s04.trans s5
 have g5:G5 a=none:=s05.sep a (by rw[hH];exact λz=>nomatch z) ga
 refine⟨_,rfl,a,C,dx,[],rfl,s05.hh _ _ hH,cl,na1,(by decide),?_⟩
 have st5:Step G5 (upd H5 a (.ins C dx (jL "actions" u5 []))) G5 (upd H5 a (.ins C dx (jL "actions" u5 []))):=.refl λb o e=>by rw[aF (aW e g5)];exact s05.gh _ _ e
 have S5:SR K Γ G5 (upd H5 a (.ins C dx (jL "actions" u5 []))) G5 (upd H5 a (.ins C dx (jL "actions" u5 []))) [some (.ref a),some v1,some v2] [none,some (.sh acts),some (.sh rows)]:=by
  refine⟨st5,rfl,λ_=>none,λi x e=>?_⟩
  match i,e with
  | 1,e=>cases e;exact⟨v1,rfl,r1.mono s05.gg⟩
  | 2,e=>cases e;exact⟨v2,rfl,r2.mono s05.gg⟩
  | i+3,e=>simp at e
 have w5:=cY (R':=exD K Γ E0 G5 (upd H5 a (.ins C dx (jL "actions" u5 [])))) (aj w4)
 refine⟨_,_,G5,_,S5,w5.mono (λtr w5 u6 G6 H6 s6 q6=>?_) λ_ k=>k⟩
 have h6:=s6.hh _ _ (aG (H:=H5) (a:=a) (o:=.ins C dx (jL "actions" u5 [])))
 refine⟨_,rfl,a,C,dx,_,rfl,h6,cl,na2,(by show 1<1000;decide),?_⟩
 have g6:G6 a=none:=s6.sep a (by rw[aG];exact λz=>nomatch z) g5
 have ne:¬(("actions":Str)="rooms"):=by decide +kernel
 have ef:jL "rooms" u6 (jL "actions" u5 [])=[(("actions":Str),u5),(("rooms":Str),u6)]:=by
  show (if ("actions":Str)="rooms" then _ else (("actions":Str),u5)::jL "rooms" u6 [])=_
  rw[if_neg ne]
  rfl
 refine w5 [("actions",u5),("rooms",u6)] G6 _ (s05.gg.trans s6.gg) (λb o e hb=>?_) (λb o e=>?_) (λb hb g0=>?_) (by rw[aG,ef]) (.cons (q5.mono s6.gg) (.cons q6 .nil))
 .rw[aF hb]
  exact s6.hh _ _ (by rw[aF hb];exact s05.hh _ _ e)
 .rw[aF (aW e g6)]
  exact s6.gh _ _ e
 .refine s6.sep b (λz=>?_) (s05.sep b hb g0)
  by_cases e:b=a
  .subst e;rw[aG] at z;cases z
  .rw[aF e] at z
   cases q:H b with
   | none=>exact hb q
   | some o=>rw[s05.hh _ _ q] at z;cases z
theorem uY{f fT C:Addr}{fd fdT:FuncData}{c:Nat}{torn:Bool}(F:L2.Fun K "__init__" "Draft.__init__" qu f fd)(T:Txt K mg t)(gJ:DD P w K mg base (Ga t L) lB)(jP:DD P w K mg base (Ga t L) pB)(mC:DD P w K mg base (Ga t L) rP)(hC:Ga t L c=some C)(cl:Cls K C)(na1:bI K C "actions")(na2:bI K C "rooms")(hmT:Meth K C "lets_torn" fT)(GT:cJ P w K mg base CX0 1 fT fdT ["self"] (spT torn))(bT:Binds K fdT ["self"] []):cJ P w K mg base CX0 7 f fd ["self","actions","rows"] (spI K (Ga t L) c 2 (Ej torn)):=by
 obtain⟨wj,fd_need_rooms,EY,Fz,GZ,GK⟩:=jP.ex
 refine F.ok Du (λvs H Q E h=>h.1) (λcdv A outer s H vs Q E hr h=>?_)
 obtain⟨hl,a,dx,C',us,G,ds,rfl,hH,hC',ga,sg,r,w⟩:=h
 rw[hC] at hC'
 cases hC'
 cases r with
 | nil=>cases hl
 | @cons v1 us acts ds r1 r =>
  cases r with
  | nil=>cases hl
  | @cons v2 us rows ds r2 r =>
   cases r with
   | cons _ _=>cases hl
   | nil =>
    refine⟨tSeq (uq (teD K (Ga t L) E0 zP)) (tSeq (uq (Cv (spD K (Ga t L) 3 fu) [] E0 (jE (teD K (Ga t L) E0 (gv 2)) (jE (teD K (Ga t L) E0 zQ) (jE (tMeth C "lets_torn" (spT torn) [] E0 (iI 0) qJ) qJ))))) (tSeq (sFld K (iI 0) (teD K (Ga t L) E0 zR) "actions") (sFld K (iI 0) (teD K (Ga t L) E0 zT) "rooms"))),wK (nA (bK gJ hr (ak (nv 1) aJ))) (wK (nA (uI EY (hr.mono (by decide)) rfl GZ GK Fz .nil uZ (bD (nv 2) (bD (cV rfl T.eN (aP 1 (pv 1))) (bD (pe_meth0 (pv 0) cl hmT GT (hr.mono (by decide)) bT .nil uZ) dw))))) (wK (Nh (pv 0) (Az rfl T.vY (nv 1)) rfl) (qp (Nh (pv 0) (Az rfl T.vY (qN (dH (λa b c d=>cA (N':=["row"]) (cap:=[none]) ⟨rfl,rfl,by decide +kernel,by decide +kernel,by rfl,trivial,⟨trivial,trivial⟩⟩ rfl a b c d) (cL (nv 2)) (jM 0) (λ_ _ _ _ _=>ngc) (λ_ _ _ _ _=>bY) (λ_ _ _ _ _=>(bK mC hr (ak (nv 0) aJ)))))) rfl)))),?_⟩
    exact Qd hH ga sg r1 r2 cl na1 na2 w
abbrev qx:Stmt:=inClass (top 25) 3
theorem Dw:aN ["self"] ["self"] (aA qx):=scm
noncomputable def j0:DSt->Out Fl:=(bG (o1 dj (iH "rooms" [aH,bU] (gv 0))))
noncomputable def jQ:List D->Out D:=λds=>(eE 1 j0 ds).aZ
abbrev Fd:Inf D:=⟨"many",1,["self"],jQ⟩
theorem Di(F:L2.Fun K "many" "Draft.many" qx f fd)(T:Txt K mg t):OD P w K mg base (Ga t L) Fd f fd:=by
 refine okJ 0 j0 F Dw λ_ _ _ _ _ _ hr=>?_
 exact(az (aU (cV rfl T.eN (aL (nO (cs:=[aH,bU]) ⟨⟨t.Draft,rfl,T.p8.cls,T.bN⟩,⟨t.Plan,rfl,T.vz.cls,T.cg⟩,trivial⟩ (nv 0))))))
noncomputable def mj:List (Nat×(List D->Out D)):=[(aH,jQ),(bU,jQ)]
abbrev qy:Stmt:=inClass (top 25) 5
theorem Dy:aN ["self"] ["self"] (aA qy):=scm
noncomputable def lQ:DSt->Out (List D):=(oFl 1 rH (ao (gv 0) aK))
noncomputable def j4:DSt->Out Fl:=(Nj (bj [none] (bL (iH "rooms" [aH,bU] (gv 0))) (gN 0) (λ_=>.ok true) lQ))
noncomputable def gM:List D->Out (List (List D)):=λds=>(Ep 1 j4 ds).aZ
abbrev Fe:Inf (List (List D)):=⟨"told",4,["self"],gM⟩
theorem Dj(F:L2.Fun K "told" "Draft.told" qy f fd)(T:Txt K mg t)(rF:DDf P w K mg base (Ga t L) rR):ODg P w K mg base (Ga t L) Fe f fd:=by
 refine okJg 3 j4 F Dy λ_ _ _ _ _ _ hr=>?_
 exact(az (ds_retff (dff_comp (λa b c d=>cA (N':=["doors"]) (cap:=[none]) ⟨rfl,rfl,by decide +kernel,by decide +kernel,by rfl,trivial,⟨trivial,trivial⟩⟩ rfl a b c d) (cL (nO (cs:=[aH,bU]) ⟨⟨t.Draft,rfl,T.p8.cls,T.bN⟩,⟨t.Plan,rfl,T.vz.cls,T.cg⟩,trivial⟩ (nv 0))) (jM 0) (λ_ _ _ _ _=>ngc) (λ_ _ _ _ _=>bY) (λ_ _ _ _ _=>(ncallF rF hr (ak (nv 0) aJ))))))
noncomputable def je:List (Nat×(List D->Out (List (List D)))):=[(aH,gM),(bU,gM)]
abbrev qI:Stmt:=top 32
theorem fW:aN ["ends","sources","room","rooms","to"] ["ends"] (aA qI):=scm
noncomputable def sU:DSt->Out (List D):=(Ar aK)
noncomputable def iz:DSt->Out Fl:=(Ku 1 (gv 4) (gv 2))
noncomputable def eY:DSt->Out Fl:=(dB (bL (gv 3)) (gN 4) iz)
noncomputable def j9:DSt->Out Fl:=(aR (jc 1 (bj [none] (bL (gv 0)) (gN 0) (λ_=>.ok true) sU))
 (aR (dB (enum (gv 0)) (gT 2 (aQ (gN 2) (aQ (gN 3) cN))) eY)
 (Er 1)))
noncomputable def jX:List D->Out (List (List D)):=λds=>(Ep 5 j9 ds).aZ
abbrev pD:Inf (List (List D)):=⟨"sources_of",1,["ends"],jX⟩
theorem Dt(F:L2.Fun K "sources_of" "sources_of" qI f fd)(T:Txt K mg t):ODg P w K mg base (Ga t L) pD f fd:=by
 refine okJg 0 j9 F fW λ_ _ _ _ _ _ hr=>?_
 exact(aq (Ec 1 (λa b c d=>gB (i:=1) (N':=["rooms"]) (cap:=[none]) ⟨rfl,rfl,by decide +kernel,by decide +kernel,by rfl,trivial,⟨trivial,trivial⟩⟩ rfl fW.nd rfl (by walk_at "o") a b c d rfl) (cL (nv 0)) (jM 0) (λ_ _ _ _ _=>ngc) (λ_ _ _ _ _=>bY) (λ_ _ _ _ _=>(Gg aJ)))
   (aq (uN (zJ rfl T.jA (nv 0)) (sr (n:=2) (λh=>qm rfl h) (bW (ngn fW.nd) (bW (ngn fW.nd) mX (λa b=>bH a b)) (λa b=>bH a b))) (az (uN (cL (nv 3)) (ngn fW.nd) (az (ds_app2 1 (pv 1) (nv 4) (nv 2) (λa b=>nA (Km PySem.F.plainAttrs_list PySem.F.slot_list_append PySem.F.type_list_append uH a (bD b dw))))))))
   (az (zM 1 (pv 1)))))
abbrev uf:Stmt:=top 39
theorem Ii:aN ["doors"] ["doors"] (aA uf):=scm
noncomputable def uU:DSt->Out D:=(iH "to" [iJ,qX,gU,gW] (gv 0))
noncomputable def nj:DSt->Out Fl:=(Ci (bj [none] (bL (gv 0)) (gN 0) (o2b eqD (oM "word" 1 cI (gv 0) aK) (kc (.str "must"))) uU))
noncomputable def rG:List D->Out (List D):=λds=>(runL 1 nj ds).aZ
abbrev rQ:Inf (List D):=⟨"must_ends",2,["doors"],rG⟩
theorem Hv(F:L2.Fun K "must_ends" "must_ends" uf f fd)(T:Txt K mg t)(iV:nJ P w K mg base (Ga t L) "word" (spD K (Ga t L) 1) 1 cI):ODf P w K mg base (Ga t L) rQ f fd:=by
 refine okJf 1 nj F Ii λ_ _ _ _ _ _ hr=>?_
 exact(az (Gj (dH (λa b c d=>cA (N':=["door"]) (cap:=[none]) ⟨rfl,rfl,by decide +kernel,by decide +kernel,by rfl,trivial,⟨trivial,trivial⟩⟩ rfl a b c d) (cL (nv 0)) (jM 0) (λ_ _ _ _ _=>ngc) (λ_ _ _ _ _=>(Ob (mY hr.units (aL (tE iV hr (nv 0))) (aL bJ)))) (λ_ _ _ _ _=>(nO (cs:=[iJ,qX,gU,gW]) ⟨⟨t.Must,rfl,T.Mi.cls,T.iY⟩,⟨t.May,rfl,T.i_May.cls,T.kW⟩,⟨t.Shut,rfl,T.Gy.cls,T.iZ⟩,⟨t.Torn,rfl,T.Gz.cls,T.jb⟩,trivial⟩ (nv 0))))))
abbrev vI:Stmt:=top 40
theorem Ky:aN ["doors"] ["doors"] (aA vI):=scm
noncomputable def wD:DSt->Out D:=(bV (o2b eqD (oM "word" 1 cI (gv 0) aK) (kc (.str "torn"))))
noncomputable def pY:DSt->Out Fl:=(bG (o1 anyD (gG (bj [none] (bL (gv 0)) (gN 0) (λ_=>.ok true) wD))))
noncomputable def lg:List D->Out D:=λds=>(eE 1 pY ds).aZ
abbrev vd:Inf D:=⟨"has_torn",2,["doors"],lg⟩
theorem Kd(F:L2.Fun K "has_torn" "has_torn" vI f fd)(T:Txt K mg t)(iV:nJ P w K mg base (Ga t L) "word" (spD K (Ga t L) 1) 1 cI):OD P w K mg base (Ga t L) vd f fd:=by
 refine okJ 1 pY F Ky λ_ _ _ _ _ _ hr=>?_
 exact(az (aU (de_any rfl rfl T.b_any (aL (qN (dH (λa b c d=>cA (N':=["door"]) (cap:=[none]) ⟨rfl,rfl,by decide +kernel,by decide +kernel,by rfl,trivial,⟨trivial,trivial⟩⟩ rfl a b c d) (cL (nv 0)) (jM 0) (λ_ _ _ _ _=>ngc) (λ_ _ _ _ _=>bY) (λ_ _ _ _ _=>(v5 hr.units (aL (tE iV hr (nv 0))) (aL bJ)))))))))
abbrev vJ:Stmt:=top 41
theorem dD:aN ["draft","sources","order","ranks","at","rank","source"] ["draft"] (aA vJ):=scm
noncomputable def qb:DSt->Out D:=(oF 1 (dOf rG) (ao (gv 0) aK))
noncomputable def qe:DSt->Out D:=(gv 0)
noncomputable def km:DSt->Out D:=(dh (ao (gv 0) (ao (kc (.int 0)) aK)))
noncomputable def dM:DSt->Out Fl:=(sIf (Ax 3 (gv 6)) (aR (xY 3 (gv 5) (gv 6))
 (Cg 2 (gv 6))) dX)
noncomputable def kE:DSt->Out Bool:=(o2b ltD (gb 4) (o1 dj (gb 2)))
noncomputable def kj:DSt->Out Fl:=(aR (bz 5 (o2 gq (dIx 3 (o2 ixD (gvo 2) (gv 4))) (kc (.int 1))))
 (aR (dB (bL (o2 ixD (gvo 1) (o2 ixD (gvo 2) (gv 4)))) (gN 6) dM)
 (sAugA 4 (kc (.int 1)))))
noncomputable def p6:DSt->Out Fl:=(aR (bz 1 (oF 1 (dOff jX) (ao (gG (bj [none] (bL (iH "rooms" [aH,bU] (gv 0))) (gN 0) (λ_=>.ok true) qb)) aK)))
 (aR (lV 2 (bj [none,none] (JH (iH "rooms" [aH,bU] (gv 0))) (gT 2 (aQ (gN 0) (aQ (gN 1) cN))) (tst (oF 1 lg (ao (gv 1) aK))) qe))
 (aR (z9 3 (ao (gG (yK 2 (bj [none] (bL (gv 2)) (gN 0) (λ_=>.ok true) km))) aK))
 (aR (bz 4 (kc (.int 0)))
 (aR (Nm (λ_=>3000) kE kj)
 (frzd 3 (bG (gv 3))))))))
noncomputable def lu:List D->Out D:=λds=>(eE 7 p6 ds).aZ
abbrev pC:Inf D:=⟨"ranks_of",3,["draft"],lu⟩
theorem Ke(F:L2.Fun K "ranks_of" "ranks_of" vJ f fd)(T:Txt K mg t)(oX:DDg P w K mg base (Ga t L) pD)(rE:DDf P w K mg base (Ga t L) rQ)(u0:DD P w K mg base (Ga t L) vd):OD P w K mg base (Ga t L) pC f fd:=by
 refine okJ 2 p6 F dD λ_ _ _ _ _ _ hr=>?_
 exact(aq (dO 1 dD.nd (Ot oX hr (ak (qN (dH (λa b c d=>cA (N':=["doors"]) (cap:=[none]) ⟨rfl,rfl,by decide +kernel,by decide +kernel,by rfl,trivial,⟨trivial,trivial⟩⟩ rfl a b c d) (cL (nO (cs:=[aH,bU]) ⟨⟨t.Draft,rfl,T.p8.cls,T.bN⟩,⟨t.Plan,rfl,T.vz.cls,T.cg⟩,trivial⟩ (nv 0))) (jM 0) (λ_ _ _ _ _=>ngc) (λ_ _ _ _ _=>bY) (λ_ _ _ _ _=>(G8 rE hr (ak (nv 0) aJ))))) aJ)))
   (aq (ds_setlc 2 (λa b c d=>gB (i:=2) (N':=["room","doors"]) (cap:=[none,none]) ⟨rfl,rfl,by decide +kernel,by decide +kernel,by rfl,trivial,⟨trivial,trivial,trivial⟩⟩ rfl dD.nd rfl (by walk_at "o") a b c d rfl) (di_enumT rfl T.jA (nO (cs:=[aH,bU]) ⟨⟨t.Draft,rfl,T.p8.cls,T.bN⟩,⟨t.Plan,rfl,T.vz.cls,T.cg⟩,trivial⟩ (nv 0))) (sh_t (Aa (jM 0) (Aa (jM 1) sh_nil))) (λ_ _ _ _ _=>(sr (n:=2) (λh=>qm rfl h) (bW ngc (bW ngc mX (λa b=>bH a b)) (λa b=>bH a b)))) (λ_ _ _ _ _=>(Ob (c7 (aL (bK u0 hr (ak (nv 1) aJ)))))) (λ_ _ _ _ _=>(nv 0)))
   (aq (Px 3 rfl rfl T.b_dict (λh=>xX (i:=3) dD.nd rfl (by walk_at "o") h) (qN (N8 2 (dH (λa b c d=>cA (N':=["room"]) (cap:=[none]) ⟨rfl,rfl,by decide +kernel,by decide +kernel,by rfl,trivial,⟨trivial,trivial⟩⟩ rfl a b c d) (cL (nv 2)) (jM 0) (λ_ _ _ _ _=>ngc) (λ_ _ _ _ _=>bY) (λ_ _ _ _ _=>(eO (ak (nv 0) (ak aB aJ))))))))
   (aq (dO 4 dD.nd aB)
   (aq (nwhile (λ_=>3000) (JF (aP 4 (pv 4)) (aL (cV rfl T.eN (aP 2 (pv 2))))) (aq (dO 5 dD.nd (dG (de_dix 3 hr.units (pv 3) (cQ 2 (pv 2) (nv 4)) (λ_ _=>rfl)) aB))
   (aq (uN (cL (cQ 1 (pv 1) (cQ 2 (pv 2) (nv 4)))) (ngn dD.nd) (az (cR (Ed 3 hr.units (pv 3) (nv 6)) (aq (Gh 3 hr.units (pv 3) (nv 5) (nv 6))
   (az (napp 2 (nv 6)))) bu)))
   (az (ds_aug 4 (λh=>ps_aug (i:=4) dD.nd rfl (by walk_at "o") h ip_add) aB)))))
   (az (xM 3 (aU (nv 3)))))))))
abbrev nR:Stmt:=top 42
theorem Ck:aN ["door","ranks"] ["door","ranks"] (aA nR):=scm
noncomputable def jm:DSt->Out Fl:=(aR (sIf (o2b eqD (oM "word" 1 cI (gv 0) aK) (kc (.str "torn"))) (bG (o1 wH (kc (.int 1)))) dX)
 (aR (sIf (o2b eqD (oM "word" 1 cI (gv 0) aK) (kc (.str "must"))) (bG (Av 1 (iH "to" [iJ,qX,gU,gW] (gv 0)))) dX)
 (bG (kc .non))))
noncomputable def jg:List D->Out D:=λds=>(eE 2 jm ds).aZ
abbrev ji:Inf D:=⟨"rank_behind",2,["door","ranks"],jg⟩
theorem BL(F:L2.Fun K "rank_behind" "rank_behind" nR f fd)(T:Txt K mg t)(iV:nJ P w K mg base (Ga t L) "word" (spD K (Ga t L) 1) 1 cI):OD P w K mg base (Ga t L) ji f fd:=by
 refine okJ 1 jm F Ck λ_ _ _ _ _ _ hr=>?_
 exact(aq (cR (mY hr.units (aL (tE iV hr (nv 0))) (aL bJ)) (az (aU (Lw aB))) bu)
   (aq (cR (mY hr.units (aL (tE iV hr (nv 0))) (aL bJ)) (az (aU (Pj 1 hr.units (pv 1) (nO (cs:=[iJ,qX,gU,gW]) ⟨⟨t.Must,rfl,T.Mi.cls,T.iY⟩,⟨t.May,rfl,T.i_May.cls,T.kW⟩,⟨t.Shut,rfl,T.Gy.cls,T.iZ⟩,⟨t.Torn,rfl,T.Gz.cls,T.jb⟩,trivial⟩ (nv 0)) ⟨rfl,rfl,rfl,rfl⟩))) bu)
   (az (aU jH))))
abbrev nT:Stmt:=top 43
theorem ul:aN ["doors","ranks","rank","behind"] ["doors","ranks","rank"] (aA nT):=scm
noncomputable def qP:DSt->Out D:=(oF 2 jg (ao (gv 0) (ao (gv 1) aK)))
noncomputable def jn:DSt->Out Fl:=(aR (bz 3 (gG (bj [none,some 1] (bL (gv 0)) (gN 0) (λ_=>.ok true) qP)))
 (bG (oIdxN (gv 3) (o2 nZ (gv 2) (kc (.int 1))))))
noncomputable def nG:List D->Out D:=λds=>(eE 4 jn ds).aZ
abbrev nH:Inf D:=⟨"torn_action",3,["doors","ranks","rank"],nG⟩
theorem BP(F:L2.Fun K "torn_action" "torn_action" nT f fd)(T:Txt K mg t)(d7:DD P w K mg base (Ga t L) ji):OD P w K mg base (Ga t L) nH f fd:=by
 refine okJ 2 jn F ul λ_ _ _ _ _ _ hr=>?_
 exact(aq (zN 3 (λa b c d=>gB (i:=3) (N':=["door","ranks"]) (cap:=[none,some 1]) ⟨rfl,rfl,by decide +kernel,by decide +kernel,by rfl,⟨⟨rfl,by walk_at "o"⟩,trivial⟩,⟨trivial,⟨rfl,rfl,by walk_at "o"⟩,trivial⟩⟩ rfl ul.nd rfl (by walk_at "o") a b c d rfl) (cL (nv 0)) (jM 0) (λ_ _ _ _ _=>ngc) (λ_ _ _ _ _=>bY) (λ_ _ _ _ _=>(bK d7 hr (ak (nv 0) (ak (nv 1) aJ)))))
   (az (aU (Pk (nv 3) (vm (nv 2) aB) (λa b=>Km PySem.F.plainAttrs_list PySem.F.slot_list_index PySem.F.type_list_index Qn a (bD b dw))))))
abbrev vK:Stmt:=top 44
theorem um:aN ["draft","ranks","order"] ["draft"] (aA vK):=scm
noncomputable def qd:DSt->Out D:=(dh (ao (gv 1) (ao (gv 0) (ao (oF 3 nG (ao (o2 ixD (iH "rooms" [aH,bU] (gv 3)) (gv 1)) (ao (gv 2) (ao (gv 0) aK)))) aK))))
noncomputable def p7:DSt->Out Fl:=(aR (bz 1 (oF 1 lu (ao (gv 0) aK)))
 (aR (bz 2 (oC (uO Cp) (ao (xR 1) aK)))
 (Ci (bj [none,none,some 1,some 0] (bL (gv 2)) (gT 2 (aQ (gN 0) (aQ (gN 1) cN))) (λ_=>.ok true) qd))))
noncomputable def gk:List D->Out (List D):=λds=>(runL 3 p7 ds).aZ
abbrev pF:Inf (List D):=⟨"torn_row",4,["draft"],gk⟩
theorem Kf(F:L2.Fun K "torn_row" "torn_row" vK f fd)(T:Txt K mg t)(iM:DD P w K mg base (Ga t L) pC)(nF:DD P w K mg base (Ga t L) nH):ODf P w K mg base (Ga t L) pF f fd:=by
 refine okJf 3 p7 F um λ_ _ _ _ _ _ hr=>?_
 exact(aq (dO 1 um.nd (bK iM hr (ak (nv 0) aJ)))
   (aq (dO 2 um.nd (Pu rfl T.b_sorted (Pn 1 (pe_thaw (cA (N':=["room","rank"]) (cap:=[none,none]) ⟨rfl,rfl,by decide +kernel,by decide +kernel,by rfl,trivial,⟨trivial,trivial,trivial⟩⟩ rfl (pi_items (pv 1)) (λ_ _ _ _ _=>qm rfl (bH (zZ (show (["room","rank"]:List Str).Nodup by decide +kernel) rfl (by walk_at "o")) (bH (zZ (show (["room","rank"]:List Str).Nodup by decide +kernel) rfl (by walk_at "o")) Ox))) (λ_ _ _ _ _=>pf_nil) (λ_ _ _ _ _=>pe_tup (bD (pv 1) (bD (pv 0) dw))))))))
   (az (Gj (dH (λa b c d=>cA (N':=["rank","room","ranks","draft"]) (cap:=[none,none,some 1,some 0]) ⟨rfl,rfl,by decide +kernel,by decide +kernel,by rfl,⟨⟨rfl,by walk_at "o"⟩,⟨rfl,by walk_at "o"⟩,trivial⟩,⟨trivial,trivial,⟨rfl,rfl,by walk_at "o"⟩,⟨rfl,rfl,by walk_at "o"⟩,trivial⟩⟩ rfl a b c d) (cL (nv 2)) (sh_t (Aa (jM 0) (Aa (jM 1) sh_nil))) (λ_ _ _ _ _=>(sr (n:=2) (λh=>qm rfl h) (bW ngc (bW ngc mX (λa b=>bH a b)) (λa b=>bH a b)))) (λ_ _ _ _ _=>bY) (λ_ _ _ _ _=>(eO (ak (nv 1) (ak (nv 0) (ak (bK nF hr (ak (de_ix (nO (cs:=[aH,bU]) ⟨⟨t.Draft,rfl,T.p8.cls,T.bN⟩,⟨t.Plan,rfl,T.vz.cls,T.cg⟩,trivial⟩ (nv 3)) (nv 1)) (ak (nv 2) (ak (nv 0) aJ)))) aJ))))))))))
abbrev lX:Stmt:=top 45
theorem dY:aN ["draft","row","ranks","room","rank","action","behind"] ["draft","row","ranks"] (aA lX):=scm
noncomputable def gZ:DSt->Out Fl:=(aR (bz 3 (o2 ixD (gvo 1) (kc (.int 0))))
 (aR (bz 4 (o2 ixD (gvo 1) (kc (.int 1))))
 (aR (bz 5 (o2 ixD (gvo 1) (kc (.int 2))))
 (aR (sIf (orT (gA (tst (oF 2 fj (ao (gv 3) (ao (oM "many" 1 mj (gv 0) aK) aK))))) (orT (gA (o3 leD ltD (kc (.int 0)) (gb 5) (o1 dj (iH "actions" [aH,bU] (gv 0))))) (o2b ltD (gb 4) (kc (.int 0))))) (bG (kc (.bl false))) dX)
 (aR (bz 6 (oF 2 jg (ao (o2 ixD (o2 ixD (iH "rooms" [aH,bU] (gv 0)) (gv 3)) (gv 5)) (ao (gv 2) aK))))
 (bG (vf (bV (o2b uX (gb 6) (kc .non))) (bV (o2b ltD (gb 6) (gb 4))))))))))
noncomputable def lq:List D->Out D:=λds=>(eE 7 gZ ds).aZ
abbrev lw:Inf D:=⟨"is_borne_out",3,["draft","row","ranks"],lq⟩
theorem zu(F:L2.Fun K "is_borne_out" "is_borne_out" lX f fd)(T:Txt K mg t)(kJ:DD P w K mg base (Ga t L) uy)(Af:nJ P w K mg base (Ga t L) "many" (spD K (Ga t L) 1) 1 mj)(d7:DD P w K mg base (Ga t L) ji):OD P w K mg base (Ga t L) lw f fd:=by
 refine okJ 2 gZ F dY λ_ _ _ _ _ _ hr=>?_
 exact(aq (dO 3 dY.nd (cQ 1 (pv 1) aB))
   (aq (dO 4 dY.nd (cQ 1 (pv 1) aB))
   (aq (dO 5 dY.nd (cQ 1 (pv 1) aB))
   (aq (cR (su (ou (d8 (c7 (aL (bK kJ hr (ak (nv 3) (ak (tE Af hr (nv 0)) aJ)))))) (ou (d8 (dt_lelt (aL aB) (aP 5 (pv 5)) (aL (cV rfl T.eN (aL (nO (cs:=[aH,bU]) ⟨⟨t.Draft,rfl,T.p8.cls,T.fH⟩,⟨t.Plan,rfl,T.vz.cls,T.f9⟩,trivial⟩ (nv 0))))))) (lF (JF (aP 4 (pv 4)) (aL aB)))))) (az (aU mV)) bu)
   (aq (dO 6 dY.nd (bK d7 hr (ak (de_ix (de_ix (nO (cs:=[aH,bU]) ⟨⟨t.Draft,rfl,T.p8.cls,T.bN⟩,⟨t.Plan,rfl,T.vz.cls,T.cg⟩,trivial⟩ (nv 0)) (nv 3)) (nv 5)) (ak (nv 2) aJ))))
   (az (aU (pO (de_isnot (aP 6 (pv 6)) (aL jH)) (rY (de_lt (aP 6 (pv 6)) (aP 4 (pv 4))))))))))))
abbrev nQ:Stmt:=top 46
theorem eZ:aN ["draft","rows","ranks","room","rank","action"] ["draft","rows"] (aA nQ):=scm
noncomputable def fY:DSt->Out Fl:=(xY 2 (oC minD (ao (uT 2 (gv 3) (gv 4)) (ao (gv 4) aK))) (gv 3))
noncomputable def dW:DSt->Out D:=(oF 3 lq (ao (gv 1) (ao (gv 0) (ao (gv 2) aK))))
noncomputable def jl:DSt->Out Fl:=(aR (Nk 2)
 (aR (dB (bL (gv 1)) (gT 3 (aQ (gN 3) (aQ (gN 4) (aQ (gN 5) cN)))) fY)
 (frzd 2 (bG (o1 allD (gG (bj [none,some 0,some 2] (bL (gv 1)) (gN 0) (λ_=>.ok true) dW)))))))
noncomputable def fK:List D->Out D:=λds=>(eE 6 jl ds).aZ
abbrev jh:Inf D:=⟨"is_torn_row",4,["draft","rows"],fK⟩
theorem BK(F:L2.Fun K "is_torn_row" "is_torn_row" nQ f fd)(T:Txt K mg t)(kY:DD P w K mg base (Ga t L) lw):OD P w K mg base (Ga t L) jh f fd:=by
 refine okJ 3 jl F eZ λ_ _ _ _ _ _ hr=>?_
 exact(aq (JD 2 (λh=>xX (i:=2) eZ.nd rfl (by walk_at "o") h))
   (aq (uN (cL (nv 1)) (sr (n:=3) (λh=>qm rfl h) (bW (ngn eZ.nd) (bW (ngn eZ.nd) (bW (ngn eZ.nd) mX (λa b=>bH a b)) (λa b=>bH a b)) (λa b=>bH a b))) (az (Gh 2 hr.units (pv 2) (de_min rfl rfl T.b_min (ak (Jy 2 hr.units (pv 2) (nv 3) (nv 4) ⟨rfl,rfl,rfl,rfl⟩) (ak (nv 4) aJ))) (nv 3))))
   (az (xM 2 (aU (Ls rfl rfl T.b_all (aL (qN (dH (λa b c d=>cA (N':=["row","draft","ranks"]) (cap:=[none,some 0,some 2]) ⟨rfl,rfl,by decide +kernel,by decide +kernel,by rfl,⟨⟨rfl,by walk_at "o"⟩,⟨rfl,by walk_at "o"⟩,trivial⟩,⟨trivial,⟨rfl,rfl,by walk_at "o"⟩,⟨rfl,rfl,by walk_at "o"⟩,trivial⟩⟩ rfl a b c d) (cL (nv 1)) (jM 0) (λ_ _ _ _ _=>ngc) (λ_ _ _ _ _=>bY) (λ_ _ _ _ _=>(bK kY hr (ak (nv 1) (ak (nv 0) (ak (nv 2) aJ))))))))))))))
abbrev xZ:Stmt:=top 49
theorem Cj:aN ["draft","ranks","kept","numbers"] ["draft"] (aA xZ):=scm
noncomputable def uE:DSt->Out Fl:=(aR (bz 1 (oF 1 lu (ao (gv 0) aK))) (aR (sIf (dInX 1 (kc (.int 0))) (bG (kc .non)) dX) (λ_=>.stuck)))
noncomputable def xr:List D->Out D:=λds=>(eE 4 uE ds).aZ
abbrev xF:Inf D:=⟨"cleaned",4,["draft"],xr⟩
theorem M4(F:L2.Fun K "cleaned" "cleaned" xZ f fd)(T:Txt K mg t)(iM:DD P w K mg base (Ga t L) pC):OD P w K mg base (Ga t L) xF f fd:=by
 refine okJ 3 uE F Cj λ_ _ _ _ _ _ hr=>?_
 exact(aq (dO 1 Cj.nd (bK iM hr (ak (nv 0) aJ))) (aq (cR (dt_dinX 1 hr.units (pv 1) aB) (az (aU jH)) bu) Py))
abbrev lW:Stmt:=top 51
theorem zA:aN ["_law_script","_law_k"] ["_law_script","_law_k"] (aA lW):=scm
noncomputable def lG:DSt->Out Fl:=(aR (sIf (o2b ltD (gb 1) (o1 dj (gb 0))) (bG (o2 ixD (gvo 0) (gv 1))) dX)
 (bG (kc (.int 0))))
noncomputable def cP:List D->Out D:=λds=>(eE 2 lG ds).aZ
abbrev gQ:Inf D:=⟨"_law_cell_at",1,["_law_script","_law_k"],cP⟩
theorem zq(F:L2.Fun K "_law_cell_at" "_law_cell_at" lW f fd)(T:Txt K mg t):OD P w K mg base (Ga t L) gQ f fd:=by
 refine okJ 0 lG F zA λ_ _ _ _ _ _ hr=>?_
 exact(aq (cR (JF (aP 1 (pv 1)) (aL (cV rfl T.eN (aP 0 (pv 0))))) (az (aU (cQ 0 (pv 0) (nv 1)))) bu)
   (az (aU aB)))
abbrev qD:Stmt:=top 52
theorem nW:aN ["_law_cell","_law_k","_law_number"] ["_law_cell","_law_k"] (aA qD):=scm
noncomputable def pX:DSt->Out Fl:=(aR (bz 2 (o2 du (o2 gq (o2 gq (o2 qY (gv 0) (kc (.int 48271))) (o2 qY (gv 1) (kc (.int 7919)))) (kc (.int 104729))) (kc (.int 2147483647))))
 (aR (bz 2 (o2 du (o2 gq (o2 gq (o2 qY (o2 du (o2 qY (gv 2) (gv 2)) (kc (.int 2147483629))) (kc (.int 16807))) (o2 qY (gv 1) (kc (.int 104729)))) (kc (.int 11))) (kc (.int 2147483587))))
 (bG (o2 du (o2 qY (gv 2) (gv 2)) (kc (.int 2147483549))))))
noncomputable def bc:List D->Out D:=λds=>(eE 3 pX ds).aZ
abbrev dF:Inf D:=⟨"_law_mixed",1,["_law_cell","_law_k"],bc⟩
theorem Do(F:L2.Fun K "_law_mixed" "_law_mixed" qD f fd)(T:Txt K mg t):OD P w K mg base (Ga t L) dF f fd:=by
 refine okJ 0 pX F nW λ_ _ _ _ _ _ hr=>?_
 exact(aq (dO 2 nW.nd (cD (dG (dG (lE (nv 0) aB) (lE (nv 1) aB)) aB) aB))
   (aq (dO 2 nW.nd (cD (dG (dG (lE (cD (lE (nv 2) (nv 2)) aB) aB) (lE (nv 1) aB)) aB) aB))
   (az (aU (cD (lE (nv 2) (nv 2)) aB)))))
abbrev qF:Stmt:=top 53
theorem dg:aN ["_law_cell","_law_many_here","_law_letters","_law_size","_law_at","_law_names_here","_law_k","_law_signs"] ["_law_cell","_law_many_here"] (aA qF):=scm
noncomputable def iB:DSt->Out D:=(o2 ixD (gvo 1) (o2 du (o2 gq (oF 2 bc (ao (gv 2) (ao (o2 gq (kc (.int 4)) (gv 0)) aK))) (o2 qY (gv 3) (o1 intD (bV (o2b eqD (gb 0) (gb 4)))))) (kc (.int 26))))
noncomputable def eV:DSt->Out Fl:=(aR (bz 7 (gG (bj [none,some 2,some 0,some 6,some 4] (tK (gv 3)) (gN 0) (λ_=>.ok true) iB)))
 (Cg 5 (oJoin (kc (.str "")) (gv 7))))
noncomputable def j7:DSt->Out Fl:=(aR (bz 2 (kc (.str "abcdefghijklmnopqrstuvwxyz")))
 (aR (bz 3 (o2 gq (kc (.int 1)) (o2 du (oF 2 bc (ao (gv 0) (ao (kc (.int 2)) aK))) (kc (.int 8)))))
 (aR (bz 4 (o2 du (oF 2 bc (ao (gv 0) (ao (kc (.int 3)) aK))) (gv 3)))
 (aR (lV 5 (Ar aK))
 (aR (dB (tK (gv 1)) (gN 6) eV)
 (Er 5))))))
noncomputable def jU:List D->Out D:=λds=>(eE 8 j7 ds).aZ
abbrev pq:Inf D:=⟨"_law_names",2,["_law_cell","_law_many_here"],jU⟩
theorem Dp(F:L2.Fun K "_law_names" "_law_names" qF f fd)(T:Txt K mg t)(aV:DD P w K mg base (Ga t L) dF):OD P w K mg base (Ga t L) pq f fd:=by
 refine okJ 1 j7 F dg λ_ _ _ _ _ _ hr=>?_
 exact(aq (dO 2 dg.nd bJ)
   (aq (dO 3 dg.nd (dG aB (cD (bK aV hr (ak (nv 0) (ak aB aJ))) aB)))
   (aq (dO 4 dg.nd (cD (bK aV hr (ak (nv 0) (ak aB aJ))) (nv 3)))
   (aq (nsetl 5 dg.nd (Gg aJ))
   (aq (uN (fG rfl T.jZ (nv 1)) (ngn dg.nd) (aq (zN 7 (λa b c d=>gB (i:=7) (N':=["_law_j","_law_letters","_law_cell","_law_k","_law_at"]) (cap:=[none,some 2,some 0,some 6,some 4]) ⟨rfl,rfl,by decide +kernel,by decide +kernel,by rfl,⟨⟨rfl,by walk_at "o"⟩,⟨rfl,by walk_at "o"⟩,⟨rfl,by walk_at "o"⟩,⟨rfl,by walk_at "o"⟩,trivial⟩,⟨trivial,⟨rfl,rfl,by walk_at "o"⟩,⟨rfl,rfl,by walk_at "o"⟩,⟨rfl,rfl,by walk_at "o"⟩,⟨rfl,rfl,by walk_at "o"⟩,trivial⟩⟩ rfl dg.nd rfl (by walk_at "o") a b c d rfl) (fG rfl T.jZ (nv 3)) (jM 0) (λ_ _ _ _ _=>ngc) (λ_ _ _ _ _=>bY) (λ_ _ _ _ _=>(cQ 1 (pv 1) (cD (dG (bK aV hr (ak (nv 2) (ak (dG aB (nv 0)) aJ))) (lE (nv 3) (N7 rfl T.b_int (v5 hr.units (aP 0 (pv 0)) (aP 4 (pv 4)))))) aB))))
   (az (napp 5 (de_join bJ (nv 7) (λa b=>Km PySem.F.plainAttrs_str PySem.F.slot_str_join PySem.F.type_str_join mt_join a (bD b dw)))))))
   (az (zM 5 (pv 5))))))))
abbrev tZ:Stmt:=top 54
theorem wQ:aN ["_law_number","_law_rooms","_law_torn","_law_way"] ["_law_number","_law_rooms","_law_torn"] (aA tZ):=scm
noncomputable def m8:DSt->Out Fl:=(aR (bz 3 (o2 du (gv 0) (kc (.int 12))))
 (aR (sIf (qW (o2b eqD (gb 3) (kc (.int 0))) (tst (gb 2))) (bG (dh (ao (kc (.str "torn")) (ao (kc .non) aK)))) dX)
 (aR (sIf (o2b ltD (gb 3) (kc (.int 4))) (bG (dh (ao (kc (.str "must")) (ao (o2 du (o2 eQ (gv 0) (kc (.int 12))) (gv 1)) aK)))) dX)
 (aR (sIf (o2b ltD (gb 3) (kc (.int 9))) (bG (dh (ao (kc (.str "may")) (ao (o2 du (o2 eQ (gv 0) (kc (.int 12))) (gv 1)) aK)))) dX)
 (bG (dh (ao (kc (.str "shut")) (ao (kc .non) aK))))))))
noncomputable def ju:List D->Out D:=λds=>(eE 4 m8 ds).aZ
abbrev mL:Inf D:=⟨"_law_door",1,["_law_number","_law_rooms","_law_torn"],ju⟩
theorem Hn(F:L2.Fun K "_law_door" "_law_door" tZ f fd)(T:Txt K mg t):OD P w K mg base (Ga t L) mL f fd:=by
 refine okJ 0 m8 F wQ λ_ _ _ _ _ _ hr=>?_
 exact(aq (dO 3 wQ.nd (cD (nv 0) aB))
   (aq (cR (su (vo (mY hr.units (aP 3 (pv 3)) (aL aB)) (uB (c7 (aP 2 (pv 2)))))) (az (aU (eO (ak bJ (ak jH aJ))))) bu)
   (aq (cR (JF (aP 3 (pv 3)) (aL aB)) (az (aU (eO (ak bJ (ak (cD (jj (nv 0) aB) (nv 1)) aJ))))) bu)
   (aq (cR (JF (aP 3 (pv 3)) (aL aB)) (az (aU (eO (ak bJ (ak (cD (jj (nv 0) aB) (nv 1)) aJ))))) bu)
   (az (aU (eO (ak bJ (ak jH aJ)))))))))
abbrev uc:Stmt:=top 55
theorem kI:aN ["_law_cells","_law_many_here","_law_torn","_law_some","_law_rows_here","_law_cell"] ["_law_cells","_law_many_here","_law_torn"] (aA uc):=scm
noncomputable def jo:DSt->Out D:=(oF 3 ju (ao (oF 2 bc (ao (gv 2) (ao (o2 gq (o2 gq (kc (.int 20)) (o2 qY (kc (.int 10)) (o1 dj (gb 4)))) (gv 0)) aK))) (ao (o1 dj (gb 3)) (ao (gv 1) aK))))
noncomputable def fM:DSt->Out Fl:=(yO 4 (yK 4 (bj [none,some 2,some 5,some 3,some 4] (tK (gv 1)) (gN 0) (λ_=>.ok true) jo)))
noncomputable def ni:DSt->Out Fl:=(aR (bz 3 (o2 gq (gv 0) (gG (repL (sZ (ao (kc (.int 5)) aK)) (o1 intD (bV (o2b eqD (gb 0) (sZ aK))))))))
 (aR (lV 4 (Ar aK))
 (aR (dB (bL (gv 3)) (gN 5) fM)
 (Er 4))))
noncomputable def mJ:List D->Out (List (List D)):=λds=>(Ep 6 ni ds).aZ
abbrev rM:Inf (List (List D)):=⟨"_law_rows",2,["_law_cells","_law_many_here","_law_torn"],mJ⟩
theorem Hs(F:L2.Fun K "_law_rows" "_law_rows" uc f fd)(T:Txt K mg t)(gC:DD P w K mg base (Ga t L) mL)(aV:DD P w K mg base (Ga t L) dF):ODg P w K mg base (Ga t L) rM f fd:=by
 refine okJg 1 ni F kI λ_ _ _ _ _ _ hr=>?_
 exact(aq (dO 3 kI.nd (dG (nv 0) (qN (df_rep (Ay (ak aB aJ)) (N7 rfl T.b_int (v5 hr.units (aP 0 (pv 0)) (aL (Ay aJ))))))))
   (aq (nsetl 4 kI.nd (Gg aJ))
   (aq (uN (cL (nv 3)) (ngn kI.nd) (az (ds_appl 4 (pv 4) (N8 4 (dH (λa b c d=>cA (N':=["_law_k","_law_torn","_law_cell","_law_some","_law_rows_here"]) (cap:=[none,some 2,some 5,some 3,some 4]) ⟨rfl,rfl,by decide +kernel,by decide +kernel,by rfl,⟨⟨rfl,by walk_at "o"⟩,⟨rfl,by walk_at "o"⟩,⟨rfl,by walk_at "o"⟩,⟨rfl,by walk_at "o"⟩,trivial⟩,⟨trivial,⟨rfl,rfl,by walk_at "o"⟩,⟨rfl,rfl,by walk_at "o"⟩,⟨rfl,rfl,by walk_at "o"⟩,⟨rfl,rfl,by walk_at "o"⟩,trivial⟩⟩ rfl a b c d) (fG rfl T.jZ (nv 1)) (jM 0) (λ_ _ _ _ _=>ngc) (λ_ _ _ _ _=>bY) (λ_ _ _ _ _=>(bK gC hr (ak (bK aV hr (ak (nv 2) (ak (dG (dG aB (lE aB (cV rfl T.eN (aP 4 (pv 4))))) (nv 0)) aJ))) (ak (cV rfl T.eN (aP 3 (pv 3))) (ak (nv 1) aJ))))))) (λa b=>nA (Km PySem.F.plainAttrs_list PySem.F.slot_list_append PySem.F.type_list_append uH a (bD b dw))))))
   (az (zM 4 (pv 4))))))
abbrev t7:Stmt:=top 56
theorem Ig:aN ["_law_cell"] ["_law_cell"] (aA t7):=scm
noncomputable def sH:DSt->Out Fl:=(aR (sIf (o2b eqD (o2 du (oF 2 bc (ao (gv 0) (ao (kc (.int 1)) aK))) (kc (.int 8))) (kc (.int 0))) (bG (o2 gq (kc (.int 1)) (o2 du (oF 2 bc (ao (gv 0) (ao (kc (.int 0)) aK))) (kc (.int 8))))) dX)
 (bG (o2 gq (kc (.int 1)) (o2 du (oF 2 bc (ao (gv 0) (ao (kc (.int 0)) aK))) (kc (.int 4))))))
noncomputable def jw:List D->Out D:=λds=>(eE 1 sH ds).aZ
abbrev rK:Inf D:=⟨"_law_many",2,["_law_cell"],jw⟩
theorem Hr(F:L2.Fun K "_law_many" "_law_many" t7 f fd)(T:Txt K mg t)(aV:DD P w K mg base (Ga t L) dF):OD P w K mg base (Ga t L) rK f fd:=by
 refine okJ 1 sH F Ig λ_ _ _ _ _ _ hr=>?_
 exact(aq (cR (mY hr.units (aL (cD (bK aV hr (ak (nv 0) (ak aB aJ))) aB)) (aL aB)) (az (aU (dG aB (cD (bK aV hr (ak (nv 0) (ak aB aJ))) aB)))) bu)
   (az (aU (dG aB (cD (bK aV hr (ak (nv 0) (ak aB aJ))) aB)))))
abbrev vH:Stmt:=top 57
theorem uh:aN ["_law_doors","_law_ranks_here","_law_rank","_law_action","_law_door_here"] ["_law_doors","_law_ranks_here","_law_rank"] (aA vH):=scm
noncomputable def bZ:DSt->Out Fl:=(aR (sIf (qW (o2b eqD (gb 2) (kc (.int 0))) (o2b eqD (o2 ixD (gvo 4) (kc (.int 0))) (kc (.str "torn")))) (bG (gv 3)) dX)
 (sIf (qW (o2b gtD (gb 2) (kc (.int 0))) (qW (o2b eqD (o2 ixD (gvo 4) (kc (.int 0))) (kc (.str "must"))) (o2b eqD (uT 1 (o2 ixD (gvo 4) (kc (.int 1))) (o1 wH (kc (.int 2)))) (o2 nZ (gv 2) (kc (.int 1)))))) (bG (gv 3)) dX))
noncomputable def Bl:DSt->Out Fl:=(aR (dB (enum (gv 0)) (gT 2 (aQ (gN 3) (aQ (gN 4) cN))) bZ)
 (bG (kc .non)))
noncomputable def iQ:List D->Out D:=λds=>(eE 5 Bl ds).aZ
abbrev u9:Inf D:=⟨"_law_why",1,["_law_doors","_law_ranks_here","_law_rank"],iQ⟩
theorem Kc(F:L2.Fun K "_law_why" "_law_why" vH f fd)(T:Txt K mg t):OD P w K mg base (Ga t L) u9 f fd:=by
 refine okJ 0 Bl F uh λ_ _ _ _ _ _ hr=>?_
 exact(aq (uN (zJ rfl T.jA (nv 0)) (sr (n:=2) (λh=>qm rfl h) (bW (ngn uh.nd) (bW (ngn uh.nd) mX (λa b=>bH a b)) (λa b=>bH a b))) (aq (cR (su (vo (mY hr.units (aP 2 (pv 2)) (aL aB)) (uB (mY hr.units (aL (cQ 4 (pv 4) aB)) (aL bJ))))) (az (aU (nv 3))) bu)
   (az (cR (su (vo (dt_gt (aP 2 (pv 2)) (aL aB)) (vo (mY hr.units (aL (cQ 4 (pv 4) aB)) (aL bJ)) (uB (mY hr.units (aL (Jy 1 hr.units (pv 1) (cQ 4 (pv 4) aB) (Lw aB) ⟨rfl,rfl,rfl,rfl⟩)) (aL (vm (nv 2) aB))))))) (az (aU (nv 3))) bu))))
   (az (aU jH)))
abbrev qG:Stmt:=top 58
theorem bM:aN ["_law_rows_here","_law_ranks_here","_law_told","_law_rank","_law_fresh","_law_room","_law_place","_law_action"] ["_law_rows_here"] (aA qG):=scm
noncomputable def eX:DSt->Out Fl:=(sIf (qW (Ax 1 (gv 5)) (o2b uX (sW 1 (oF 3 iQ (ao (o2 ixD (gvo 0) (gv 5)) (ao (gv 1) (ao (gv 3) aK))))) (kc .non))) (Cg 4 (dh (ao (gv 5) (ao (gv 3) (ao (sW 1 (oF 3 iQ (ao (o2 ixD (gvo 0) (gv 5)) (ao (gv 1) (ao (gv 3) aK))))) aK))))) dX)
noncomputable def iy:DSt->Out Fl:=(xY 1 (gv 3) (gv 5))
noncomputable def iu:DSt->Out Fl:=(aR (lV 4 (Ar aK))
 (aR (dB (tK (o1 dj (gb 0))) (gN 5) eX)
 (aR (frzd 4 (dB (bL (gv 4)) (gT 3 (aQ (gN 5) (aQ (gN 6) (aQ (gN 7) cN)))) iy))
 (frzd 4 (bz 2 (o2 gq (gv 2) (gv 4)))))))
noncomputable def j8:DSt->Out Fl:=(aR (Nk 1)
 (aR (bz 2 (sZ aK))
 (aR (dB (tK (o2 gq (o1 dj (gb 0)) (kc (.int 1)))) (gN 3) iu)
 (frzd 1 (bG (dh (ao (gv 1) (ao (gv 2) aK))))))))
noncomputable def jV:List D->Out D:=λds=>(eE 8 j8 ds).aZ
abbrev pA:Inf D:=⟨"_law_ranks",2,["_law_rows_here"],jV⟩
theorem Dq(F:L2.Fun K "_law_ranks" "_law_ranks" qG f fd)(T:Txt K mg t)(oW:DD P w K mg base (Ga t L) u9):OD P w K mg base (Ga t L) pA f fd:=by
 refine okJ 1 j8 F bM λ_ _ _ _ _ _ hr=>?_
 exact(aq (JD 1 (λh=>xX (i:=1) bM.nd rfl (by walk_at "o") h))
   (aq (dO 2 bM.nd (Ay aJ))
   (aq (uN (fG rfl T.jZ (dG (cV rfl T.eN (aP 0 (pv 0))) aB)) (ngn bM.nd) (aq (nsetl 4 bM.nd (Gg aJ))
   (aq (uN (fG rfl T.jZ (cV rfl T.eN (aP 0 (pv 0)))) (ngn bM.nd) (az (cR (su (vo (Ed 1 hr.units (pv 1) (nv 5)) (uB (dt_isnot (aL (zH 1 (bK oW hr (ak (cQ 0 (pv 0) (nv 5)) (ak (nv 1) (ak (nv 3) aJ)))))) (aL jH))))) (az (napp 4 (eO (ak (nv 5) (ak (nv 3) (ak (zH 1 (bK oW hr (ak (cQ 0 (pv 0) (nv 5)) (ak (nv 1) (ak (nv 3) aJ))))) aJ)))))) bu)))
   (aq (xM 4 (uN (cL (nv 4)) (sr (n:=3) (λh=>qm rfl h) (bW (ngn bM.nd) (bW (ngn bM.nd) (bW (ngn bM.nd) mX (λa b=>bH a b)) (λa b=>bH a b)) (λa b=>bH a b))) (az (Gh 1 hr.units (pv 1) (nv 3) (nv 5)))))
   (az (xM 4 (dO 2 bM.nd (dG (nv 2) (nv 4)))))))))
   (az (xM 1 (aU (eO (ak (nv 1) (ak (nv 2) aJ)))))))))
abbrev qz:Stmt:=top 59
theorem cO:aN ["_law_script","_law_many_here","_law_way","_law_rows_here","_law_cell","_law_number","_law_room","_law_door_here"] ["_law_script","_law_many_here"] (aA qz):=scm
noncomputable def ir:DSt->Out Fl:=(aR (bz 5 (oF 2 bc (ao (gv 4) (ao (kc (.int 41)) aK))))
 (aR (bz 6 (o2 du (o2 eQ (gv 5) (kc (.int 8))) (o1 dj (gb 3))))
 (aR (bz 7 (oF 3 ju (ao (o2 eQ (gv 5) (kc (.int 4096))) (ao (o1 dj (gb 3)) (ao (kc (.bl true)) aK)))))
 (aR (sIf (o2b eqD (o2 du (gv 5) (kc (.int 2))) (kc (.int 0))) (bz 7 (dh (ao (kc (.str "must")) (ao (o2 du (o2 nZ (o2 gq (gv 6) (kc (.int 1))) (o2 qY (kc (.int 2)) (o2 du (o2 eQ (gv 5) (kc (.int 2))) (kc (.int 2))))) (o1 dj (gb 3))) aK)))) dX)
 (tM 3 (gv 7) (gv 6) (o2 du (o2 eQ (gv 5) (kc (.int 512))) (gv 1)))))))
noncomputable def j5:DSt->Out Fl:=(aR (bz 2 (o2 du (oF 2 bc (ao (oF 2 cP (ao (gv 0) (ao (kc (.int 0)) aK))) (ao (kc (.int 40)) aK))) (kc (.int 3))))
 (aR (jc 3 (oFl 3 mJ (ao (oSl (gv 0) (soI (kc (.int 1))) (soI (kc (.int 13)))) (ao (gv 1) (ao (bV (o2b gtD (gb 2) (kc (.int 0)))) aK)))))
 (aR (dB (bL (oSl (gv 0) (soI (kc (.int 13))) (soI (kc (.int 40))))) (gN 4) ir)
 (Er 3))))
noncomputable def jR:List D->Out (List (List D)):=λds=>(Ep 8 j5 ds).aZ
abbrev oZ:Inf (List (List D)):=⟨"_law_draft",3,["_law_script","_law_many_here"],jR⟩
theorem Dl(F:L2.Fun K "_law_draft" "_law_draft" qz f fd)(T:Txt K mg t)(aV:DD P w K mg base (Ga t L) dF)(dq:DD P w K mg base (Ga t L) gQ)(rC:DDg P w K mg base (Ga t L) rM)(gC:DD P w K mg base (Ga t L) mL):ODg P w K mg base (Ga t L) oZ f fd:=by
 refine okJg 2 j5 F cO λ_ _ _ _ _ _ hr=>?_
 exact(aq (dO 2 cO.nd (cD (bK aV hr (ak (bK dq hr (ak (nv 0) (ak aB aJ))) (ak aB aJ))) aB))
   (aq (nsetll 3 cO.nd (ncallFF rC hr (ak (Jz (nv 0) (zK aB) (zK aB)) (ak (nv 1) (ak (de_gt (aP 2 (pv 2)) (aL aB)) aJ)))))
   (aq (uN (cL (Jz (nv 0) (zK aB) (zK aB))) (ngn cO.nd) (aq (dO 5 cO.nd (bK aV hr (ak (nv 4) (ak aB aJ))))
   (aq (dO 6 cO.nd (cD (jj (nv 5) aB) (cV rfl T.eN (aP 3 (pv 3)))))
   (aq (dO 7 cO.nd (bK gC hr (ak (jj (nv 5) aB) (ak (cV rfl T.eN (aP 3 (pv 3))) (ak mV aJ)))))
   (aq (cR (mY hr.units (aL (cD (nv 5) aB)) (aL aB)) (az (dO 7 cO.nd (eO (ak bJ (ak (cD (vm (dG (nv 6) aB) (lE aB (cD (jj (nv 5) aB) aB))) (cV rfl T.eN (aP 3 (pv 3)))) aJ))))) bu)
   (az (Gi 3 (pv 3) (nv 7) (nv 6) (cD (jj (nv 5) aB) (nv 1)) (λa b c=>Ng a (Nb b c set_list)))))))))
   (az (zM 3 (pv 3))))))
abbrev t6:Stmt:=top 60
theorem cj:aN ["_law_number","_law_names_here","_law_many_here","_law_action","_law_first","_law_way","_law_order","_law_rows_here","_law_k","_law_draft_here","_law_due"] ["_law_number","_law_names_here"] (aA t6):=scm
noncomputable def fP:DSt->Out D:=(o2 du (o2 gq (gv 2) (o2 qY (gv 3) (gv 0))) (gv 1))
noncomputable def fQ:DSt->Out (List D):=(repL (sZ (ao (dh (ao (kc (.str "shut")) (ao (kc .non) aK))) aK)) (o1 dj (gb 1)))
noncomputable def fO:DSt->Out Fl:=(tM 7 (dh (ao (kc (.str "must")) (ao (o2 ixD (gvo 6) (o2 gq (gv 8) (kc (.int 1)))) aK))) (o2 ixD (gvo 6) (gv 8)) (gv 3))
noncomputable def fU:DSt->Out D:=(dh (ao (o2 ixD (gvo 2) (o2 nZ (o2 nZ (gv 3) (kc (.int 1))) (gv 0))) (ao (gv 0) (ao (gv 1) aK))))
noncomputable def m9:DSt->Out Fl:=(aR (bz 2 (o2 gq (kc (.int 1100)) (o2 du (gv 0) (kc (.int 200)))))
 (aR (bz 3 (o2 du (o2 eQ (gv 0) (kc (.int 200))) (o1 dj (gb 1))))
 (aR (bz 4 (o2 du (o2 eQ (gv 0) (kc (.int 1600))) (gv 2)))
 (aR (bz 5 (o2 nZ (kc (.int 1)) (o2 qY (kc (.int 2)) (o2 du (o2 eQ (gv 0) (kc (.int 8))) (kc (.int 2))))))
 (aR (bz 6 (gG (bj [none,some 2,some 4,some 5] (tK (gv 2)) (gN 0) (λ_=>.ok true) fP)))
 (aR (jc 7 (bj [none,some 1] (tK (gv 2)) (gN 0) (λ_=>.ok true) fQ))
 (aR (dB (tK (o2 nZ (gv 2) (kc (.int 1)))) (gN 8) fO)
 (aR (tM 7 (dh (ao (kc (.str "torn")) (ao (kc .non) aK))) (o2 ixD (gvo 6) (o1 wH (kc (.int 1)))) (gv 3))
 (aR (frzd 7 (bz 9 (oMk aH 2 mK (ao (gv 1) (ao (gv 7) aK)))))
 (aR (bz 10 (gG (bj [none,some 3,some 6,some 2] (tK (gv 2)) (gN 0) (λ_=>.ok true) fU)))
 (bG (vf (bV (o2b eqD (oF 1 (dOf gk) (ao (gv 9) aK)) (gb 10))) (vf (bV (o2b isBD (oF 2 fK (ao (gv 9) (ao (gv 10) aK))) (kc (.bl true)))) (bV (o2b isND (oF 1 xr (ao (gv 9) aK)) (kc .non))))))))))))))))
noncomputable def mH:List D->Out D:=λds=>(eE 11 m9 ds).aZ
abbrev rJ:Inf D:=⟨"_law_long",9,["_law_number","_law_names_here"],mH⟩
theorem Ho(F:L2.Fun K "_law_long" "_law_long" t6 f fd)(T:Txt K mg t)(uz:Ini P w K mg base t.Draft 7 ["self","actions","rows"] (spI K (Ga t L) aH 2 mK))(eF:DDf P w K mg base (Ga t L) pF)(dZ:DD P w K mg base (Ga t L) jh)(xj:DD P w K mg base (Ga t L) xF):OD P w K mg base (Ga t L) rJ f fd:=by
 refine okJ 8 m9 F cj λ_ _ _ _ _ _ hr=>?_
 exact(aq (dO 2 cj.nd (dG aB (cD (nv 0) aB)))
   (aq (dO 3 cj.nd (cD (jj (nv 0) aB) (cV rfl T.eN (aP 1 (pv 1)))))
   (aq (dO 4 cj.nd (cD (jj (nv 0) aB) (nv 2)))
   (aq (dO 5 cj.nd (vm aB (lE aB (cD (jj (nv 0) aB) aB))))
   (aq (dO 6 cj.nd (qN (dH (λa b c d=>cA (N':=["_law_k","_law_many_here","_law_first","_law_way"]) (cap:=[none,some 2,some 4,some 5]) ⟨rfl,rfl,by decide +kernel,by decide +kernel,by rfl,⟨⟨rfl,by walk_at "o"⟩,⟨rfl,by walk_at "o"⟩,⟨rfl,by walk_at "o"⟩,trivial⟩,⟨trivial,⟨rfl,rfl,by walk_at "o"⟩,⟨rfl,rfl,by walk_at "o"⟩,⟨rfl,rfl,by walk_at "o"⟩,trivial⟩⟩ rfl a b c d) (fG rfl T.jZ (nv 2)) (jM 0) (λ_ _ _ _ _=>ngc) (λ_ _ _ _ _=>bY) (λ_ _ _ _ _=>(cD (dG (nv 2) (lE (nv 3) (nv 0))) (nv 1))))))
   (aq (Ec 7 (λa b c d=>gB (i:=7) (N':=["_law_k","_law_names_here"]) (cap:=[none,some 1]) ⟨rfl,rfl,by decide +kernel,by decide +kernel,by rfl,⟨⟨rfl,by walk_at "o"⟩,trivial⟩,⟨trivial,⟨rfl,rfl,by walk_at "o"⟩,trivial⟩⟩ rfl cj.nd rfl (by walk_at "o") a b c d rfl) (fG rfl T.jZ (nv 2)) (jM 0) (λ_ _ _ _ _=>ngc) (λ_ _ _ _ _=>bY) (λ_ _ _ _ _=>(df_rep (Ay (ak (eO (ak bJ (ak jH aJ))) aJ)) (cV rfl T.eN (aP 1 (pv 1))))))
   (aq (uN (fG rfl T.jZ (vm (nv 2) aB)) (ngn cj.nd) (az (Gi 7 (pv 7) (eO (ak bJ (ak (cQ 6 (pv 6) (dG (nv 8) aB)) aJ))) (cQ 6 (pv 6) (nv 8)) (nv 3) (λa b c=>Ng a (Nb b c set_list)))))
   (aq (Gi 7 (pv 7) (eO (ak bJ (ak jH aJ))) (cQ 6 (pv 6) (Lw aB)) (nv 3) (λa b c=>Ng a (Nb b c set_list)))
   (aq (xM 7 (dO 9 cj.nd (J6 uz hr T.Oj (ak (nv 1) (ak (nv 7) aJ)))))
   (aq (zN 10 (λa b c d=>gB (i:=10) (N':=["_law_rank","_law_action","_law_order","_law_many_here"]) (cap:=[none,some 3,some 6,some 2]) ⟨rfl,rfl,by decide +kernel,by decide +kernel,by rfl,⟨⟨rfl,by walk_at "o"⟩,⟨rfl,by walk_at "o"⟩,⟨rfl,by walk_at "o"⟩,trivial⟩,⟨trivial,⟨rfl,rfl,by walk_at "o"⟩,⟨rfl,rfl,by walk_at "o"⟩,⟨rfl,rfl,by walk_at "o"⟩,trivial⟩⟩ rfl cj.nd rfl (by walk_at "o") a b c d rfl) (fG rfl T.jZ (nv 2)) (jM 0) (λ_ _ _ _ _=>ngc) (λ_ _ _ _ _=>bY) (λ_ _ _ _ _=>(eO (ak (cQ 2 (pv 2) (vm (vm (nv 3) aB) (nv 0))) (ak (nv 0) (ak (nv 1) aJ))))))
   (az (aU (pO (v5 hr.units (aL (G8 eF hr (ak (nv 9) aJ))) (aP 10 (pv 10))) (pO (de_isB (aL (bK dZ hr (ak (nv 9) (ak (nv 10) aJ)))) (aL mV)) (rY (de_is (aL (bK xj hr (ak (nv 9) aJ))) (aL jH)))))))))))))))))
abbrev qC:Stmt:=top 61
theorem nU:aN ["_law_found","_law_row","_law_thing"] ["_law_found"] (aA qC):=scm
noncomputable def iw:DSt->Out Fl:=(sIf (orT (gA (tst (mz fX (gb 2)))) (tst (mz dR (gb 2)))) (bG (kc (.bl false))) dX)
noncomputable def lK:DSt->Out Fl:=(aR (sIf (orT (gA (tst (mz cW (gb 1)))) (o2b neD (o1 dj (gb 1)) (kc (.int 3)))) (bG (kc (.bl false))) dX)
 (dB (bL (gv 1)) (gN 2) iw))
noncomputable def j6:DSt->Out Fl:=(aR (dB (bL (gv 0)) (gN 1) lK)
 (bG (kc (.bl true))))
noncomputable def jT:List D->Out D:=λds=>(eE 3 j6 ds).aZ
abbrev ph:Inf D:=⟨"_law_kinds",1,["_law_found"],jT⟩
theorem Dm(F:L2.Fun K "_law_kinds" "_law_kinds" qC f fd)(T:Txt K mg t):OD P w K mg base (Ga t L) ph f fd:=by
 refine okJ 0 j6 F nU λ_ _ _ _ _ _ hr=>?_
 exact(aq (uN (cL (nv 0)) (ngn nU.nd) (aq (cR (su (ou (d8 (c7 (aL (jG (cv:=.ty "tuple") (.inr rfl) (T.cW _) rfl T.bF (aP 1 (pv 1)) (gj rfl T.vY (by decide +kernel) rfl))))) (lF (JG hr.units (aL (cV rfl T.eN (aP 1 (pv 1)))) (aL aB))))) (az (aU mV)) bu)
   (az (uN (cL (nv 1)) (ngn nU.nd) (az (cR (su (ou (d8 (c7 (aL (jG (cv:=.ty "int") (.inr rfl) (T.fX _) rfl T.bF (aP 2 (pv 2)) (gj rfl T.b_int (by decide +kernel) rfl))))) (lF (c7 (aL (jG (cv:=.ty "bool") (.inr rfl) (T.dR _) rfl T.bF (aP 2 (pv 2)) (gj rfl T.b_bool (by decide +kernel) rfl))))))) (az (aU mV)) bu))))))
   (az (aU mV)))
abbrev s_law:Stmt:=top 62
theorem nY:aN ["_law_script","_law_cell","_law_many_here","_law_names_here","_law_rows_here","_law_draft_here","_law_due","_law_more","_law_found","_law_whole"] ["_law_script"] (aA s_law):=scm
noncomputable def GQ:DSt->Out D:=(oC (uO wG) (ao (gv 0) aK))
noncomputable def zV:DSt->Out D:=(ifV (o2b eqD (o2 ixD (gvo 0) (kc (.int 0))) (kc (.str "torn"))) (dh (ao (kc (.str "shut")) (ao (kc .non) aK))) (gv 0))
noncomputable def wF:DSt->Out D:=(gG (bj [none] (bL (gv 0)) (gN 0) (λ_=>.ok true) zV))
noncomputable def g_law:DSt->Out Fl:=(aR (bz 1 (oF 2 cP (ao (gv 0) (ao (kc (.int 0)) aK))))
 (aR (bz 2 (oF 1 jw (ao (gv 1) aK)))
 (aR (bz 3 (oF 2 jU (ao (gv 1) (ao (gv 2) aK))))
 (aR (bz 4 (oF 2 (dOff jR) (ao (gv 0) (ao (gv 2) aK))))
 (aR (bz 5 (oMk aH 2 mK (ao (oC (uO wG) (ao (gv 3) aK)) (ao (gG (bj [none] (bL (gv 4)) (gN 0) (λ_=>.ok true) GQ)) aK))))
 (aR (bz 6 (o2 ixD (oF 1 jV (ao (gv 4) aK)) (kc (.int 1))))
 (aR (bz 7 (oF 2 bc (ao (gv 1) (ao (kc (.int 43)) aK))))
 (aR (sIf (qW (o2b eqD (o2 du (gv 7) (kc (.int 16))) (kc (.int 0))) (gA (tst (oF 2 mH (ao (o2 eQ (gv 7) (kc (.int 16))) (ao (gv 3) aK)))))) (bG (kc (.bl false))) dX)
 (aR (lV 8 (oFl 1 gk (ao (gv 5) aK)))
 (aR (sIf (orT (gA (tst (mz cG (gb 8)))) (orT (o2b neD (gb 8) (gb 6)) (gA (tst (sW 8 (oF 1 jT (ao (gv 8) aK))))))) (bG (kc (.bl false))) dX)
 (aR (sIf (orT (o2b J8 (sW 8 (oF 2 fK (ao (gv 5) (ao (oC (uO wG) (ao (gv 8) aK)) aK)))) (kc (.bl true))) (o2b neD (oM "told" 1 (K4 je) (gv 5) aK) (gb 4))) (bG (kc (.bl false))) dX)
 (aR (sClr 8)
 (aR (bz 9 (gG (bj [none] (bL (gv 4)) (gN 0) (λ_=>.ok true) wF)))
 (bG (vf (bV (o2b eqD (oF 1 (dOf gk) (ao (gv 5) aK)) (gb 6))) (bV (o2b eqD (oF 1 (dOf gk) (ao (oMk bU 2 Ld (ao (gv 3) (ao (gv 9) aK))) aK)) (sZ aK))))))))))))))))))
noncomputable def F_law:List D->Out D:=λds=>(eE 10 g_law ds).aZ
abbrev J_law:Inf D:=⟨"law",10,["_law_script"],F_law⟩
theorem ok_law(F:L2.Fun K "law" "law" s_law f fd)(T:Txt K mg t)(dq:DD P w K mg base (Ga t L) gQ)(rB:DD P w K mg base (Ga t L) rK)(oU:DD P w K mg base (Ga t L) pq)(oO:DDg P w K mg base (Ga t L) oZ)(uz:Ini P w K mg base t.Draft 7 ["self","actions","rows"] (spI K (Ga t L) aH 2 mK))(oV:DD P w K mg base (Ga t L) pA)(aV:DD P w K mg base (Ga t L) dF)(rA:DD P w K mg base (Ga t L) rJ)(eF:DDf P w K mg base (Ga t L) pF)(oR:DD P w K mg base (Ga t L) ph)(dZ:DD P w K mg base (Ga t L) jh)(Ah:nJ P w K mg base (Ga t L) "told" (Cq K (Ga t L) 1) 4 je)(Lg:Ini P w K mg base t.Plan 7 ["self","actions","rows"] (spI K (Ga t L) bU 2 Ld)):OD P w K mg base (Ga t L) J_law f fd:=by
 refine okJ 9 g_law F nY λ_ _ _ _ _ _ hr=>?_
 exact(aq (dO 1 nY.nd (bK dq hr (ak (nv 0) (ak aB aJ))))
   (aq (dO 2 nY.nd (bK rB hr (ak (nv 1) aJ)))
   (aq (dO 3 nY.nd (bK oU hr (ak (nv 1) (ak (nv 2) aJ))))
   (aq (dO 4 nY.nd (Ot oO hr (ak (nv 0) (ak (nv 2) aJ))))
   (aq (dO 5 nY.nd (J6 uz hr T.Oj (ak (Gf rfl T.vg (nv 3)) (ak (qN (dH (λa b c d=>cA (N':=["_law_doors"]) (cap:=[none]) ⟨rfl,rfl,by decide +kernel,by decide +kernel,by rfl,trivial,⟨trivial,trivial⟩⟩ rfl a b c d) (cL (nv 4)) (jM 0) (λ_ _ _ _ _=>ngc) (λ_ _ _ _ _=>bY) (λ_ _ _ _ _=>(Gf rfl T.vg (nv 0))))) aJ))))
   (aq (dO 6 nY.nd (de_ix (bK oV hr (ak (nv 4) aJ)) aB))
   (aq (dO 7 nY.nd (bK aV hr (ak (nv 1) (ak aB aJ))))
   (aq (cR (su (vo (mY hr.units (aL (cD (nv 7) aB)) (aL aB)) (uB (d8 (c7 (aL (bK rA hr (ak (jj (nv 7) aB) (ak (nv 3) aJ))))))))) (az (aU mV)) bu)
   (aq (nsetl 8 nY.nd (ncallF eF hr (ak (nv 5) aJ)))
   (aq (cR (su (ou (d8 (c7 (aL (jG (cv:=.ty "list") (.inr rfl) (T.cG _) rfl T.bF (aP 8 (pv 8)) (gj rfl T.vg (by decide +kernel) rfl))))) (ou (JG hr.units (aP 8 (pv 8)) (aP 6 (pv 6))) (lF (d8 (c7 (aL (zH 8 (bK oR hr (ak (nv 8) aJ)))))))))) (az (aU mV)) bu)
   (aq (cR (su (ou (Pz (aL (zH 8 (bK dZ hr (ak (nv 5) (ak (Gf rfl T.vg (nv 8)) aJ))))) (aL mV)) (lF (JG hr.units (aL (tE (nJ.dFF Ah) hr (nv 5))) (aP 4 (pv 4)))))) (az (aU mV)) bu)
   (aq (ds_clr 8 (pv 8) (λa=>nA (pe_bm0 PySem.F.plainAttrs_list PySem.F.slot_list_clear PySem.F.type_list_clear mt_clear a)))
   (aq (zN 9 (λa b c d=>gB (i:=9) (N':=["_law_doors"]) (cap:=[none]) ⟨rfl,rfl,by decide +kernel,by decide +kernel,by rfl,trivial,⟨trivial,trivial⟩⟩ rfl nY.nd rfl (by walk_at "o") a b c d rfl) (cL (nv 4)) (jM 0) (λ_ _ _ _ _=>ngc) (λ_ _ _ _ _=>bY) (λ_ _ _ _ _=>(qN (dH (λa b c d=>cA (N':=["_law_door_here"]) (cap:=[none]) ⟨rfl,rfl,by decide +kernel,by decide +kernel,by rfl,trivial,⟨trivial,trivial⟩⟩ rfl a b c d) (cL (nv 0)) (jM 0) (λ_ _ _ _ _=>ngc) (λ_ _ _ _ _=>bY) (λ_ _ _ _ _=>(de_ifExp (mY hr.units (aL (cQ 0 (pv 0) aB)) (aL bJ)) (eO (ak bJ (ak jH aJ))) (nv 0)))))))
   (az (aU (pO (v5 hr.units (aL (G8 eF hr (ak (nv 5) aJ))) (aP 6 (pv 6))) (rY (v5 hr.units (aL (G8 eF hr (ak (J6 Lg hr T.g_Plan (ak (nv 3) (ak (nv 9) aJ))) aJ))) (aL (Ay aJ))))))))))))))))))))
end
end K13
namespace DL
open PySem MX L2
theorem Jv{α β:Type}{fe:DSt->Out β}(g:α->D)(h:α->β):∀(xs:List α)(δ:DSt),(∀x∈xs,fe (δ.set 0 (some (.sh (g x))))=.ok (h x))->rW (gN 0) (λ_=>.ok true) fe (xs.map g) δ=.ok (xs.map h)
 | [],_,_=>rfl
 | x::xs,δ,k=>by
  have e1:=k x List.mem_cons_self
  have e2:=Jv g h xs (δ.set 0 (some (.sh (g x)))) (λy hy=>by rw[List.set_set];exact k y (List.mem_cons_of_mem _ hy))
  rw[List.map_cons,List.map_cons]
  unfold rW
  simp only[gN,Out.cU,Out.aM,Out.jr,e1,e2,if_true]
theorem cB{α β:Type}{cap:List (Option Nat)}{fi:DSt->Out (List D)}{fe:DSt->Out β}{δ:DSt}(g:α->D)(h:α->β)(xs:List α)(e:fi δ=.ok (xs.map g))(hz:xs.length<1000000)(k:∀x∈xs,fe ((capD cap δ).set 0 (some (.sh (g x))))=.ok (h x)):bj cap fi (gN 0) (λ_=>.ok true) fe δ=.ok (xs.map h):=by
 unfold bj
 rw[e]
 simp only[Out.aM]
 rw[if_pos (by rw[List.length_map];exact Nat.lt_of_lt_of_le hz (by decide)),Jv g h xs _ k]
theorem Al(l:List Bool):pL (l.map D.bl)=some l:=by
 induction l with
 | nil=>rfl
 | cons b l ih=>simp[pL,ih,asB]
theorem Et(l:List Str):yP (l.map D.str)=some l:=by
 induction l with
 | nil=>rfl
 | cons b l ih=>simp[yP,ih]
theorem Ak{α:Type}(f:α->Bool)(l:List α):allD (.lst (l.map λx=>.bl (f x)))=some (.bl (l.all f)):=by
 unfold allD
 have:(l.map λx=>D.bl (f x))=(l.map f).map D.bl:=by simp
 rw[this]
 simp only[gF,Option.bind_some,Al,Option.map_some]
 congr 2
 induction l with
 | nil=>rfl
 | cons a l ih=>simp
theorem rngL_map(n:Nat):rngL 0 n=(List.range n).map λi=>D.int (i:Nat):=by
 unfold rngL
 congr 1
 funext i
 rw[Int.zero_add]
theorem Gv{α:Type}{body:DSt->Out Fl}{tg:D->DSt->Option DSt}(g:α->D)(I:List α->DSt->Prop):∀(xs done:List α)(δ:DSt),(∀x done δ,I done δ->x∈xs->∃δ1,tg (g x) δ=some δ1/\nxP (body δ1) (I (done++[x])))->I done δ->∃δ',jC tg body (xs.map g) δ=.ok (.nx δ')/\I (done++xs) δ'
 | [],done,δ,_,i=>⟨δ,rfl,by simpa using i⟩
 | x::xs,done,δ,h,i=>by
  obtain⟨δ1,e1,w⟩:=h x done δ i List.mem_cons_self
  obtain⟨δ',e2,i'⟩:=Ou w
  obtain⟨δ2,e3,i2⟩:=Gv g I xs (done++[x]) δ' (λy dn δ hi hy=>h y dn δ hi (List.mem_cons_of_mem _ hy)) i'
  exact⟨δ2,by rw[List.map_cons];unfold jC;rw[e1];simp only[Out.cU,Out.aM,e2];exact e3,by simpa using i2⟩
theorem eU{α:Type}{body:DSt->Out Fl}{tg:D->DSt->Option DSt}(g:α->D)(I:List α->DSt->Prop)(xs:List α)(δ:DSt)(h:∀x done rest δ,xs=done++x::rest->I done δ->∃δ1,tg (g x) δ=some δ1/\nxP (body δ1) (I (done++[x])))(i:I [] δ):∃δ',jC tg body (xs.map g) δ=.ok (.nx δ')/\I xs δ':=by
 have go:∀(ys done:List α)(δ:DSt),xs=done++ys->I done δ->∃δ',jC tg body (ys.map g) δ=.ok (.nx δ')/\I xs δ':=by
  intro ys
  induction ys with
  | nil=>intro done δ e i;exact⟨δ,rfl,by rw[e,List.append_nil];exact i⟩
  | cons x ys ih =>
   intro done δ e i
   obtain⟨δ1,e1,w⟩:=h x done ys δ e i
   obtain⟨δ',e2,i'⟩:=Ou w
   obtain⟨δ2,e3,i2⟩:=ih (done++[x]) δ' (by rw[e];simp) i'
   exact⟨δ2,by rw[List.map_cons];unfold jC;rw[e1];simp only[Out.cU,Out.aM,e2];exact e3,i2⟩
 exact go xs [] δ rfl i
theorem rng_lo(j:Int)(h:0<=j):(-(2 ^ 62):Int)<=j:=by omega
theorem rng_hi(j:Int)(h:j<1000000):j<(2 ^ 62:Int):=by omega
theorem rng1_int{f:DSt->Out D}{δ:DSt}{j:Int}(h:f δ=.ok (.int j))(h0:0<=j)(h1:j<1000000):tK f δ=.ok (rngL 0 j.toNat):=by
 unfold tK
 rw[h]
 simp only[Out.aM]
 rw[if_pos ⟨rng_lo j h0,rng_hi j h1⟩]
theorem iD{f:DSt->Out D}{δ:DSt}{n:Nat}(h:f δ=.ok (.int (n:Nat)))(hn:n<1000000):tK f δ=.ok ((List.range n).map λi=>D.int (i:Nat)):=by
 have a:(n:Int)<1000000:=by omega
 have b:(0:Int)<=(n:Int):=by omega
 generalize hj:(n:Int)=j at h a b
 have e:=rng1_int h b a
 have t:j.toNat=n:=by omega
 rw[e,t,rngL_map]
theorem aX{A B:DSt->Out Fl}{δ δ':DSt}{r:Out D}(h:A δ=.ok (.nx δ'))(k:((B δ').bind iG).aZ=r):((aR A B δ).bind iG).aZ=r:=by
 unfold aR
 rw[h]
 exact k
theorem jt{f:DSt->Out D}{δ:DSt}{d:D}(h:f δ=.ok d):((bG f δ).bind iG).aZ=.ok d:=by
 unfold bG
 rw[h]
 rfl
end DL
namespace DL
open PySem MX L2 PySem.Builtin PySem.Builtin.Str
noncomputable def ofL(l:List Nat):Str:=⟨l.toArray⟩
theorem Hb(l:List Nat):(ofL l).length=l.length:=by show l.toArray.size=_;simp
theorem ofL_inj{a b:List Nat}(h:ofL a=ofL b):a=b:=by
 have:=congrArg (λs:Str=>s.cps.toList) h
 simpa[ofL] using this
theorem abc:(Str.ofString "abcdefghijklmnopqrstuvwxyz")=ofL ((List.range 26).map (97+·)):=by decide +kernel
theorem abc_at{i:Int}(h0:0<=i)(h1:i<26):ixD (.str "abcdefghijklmnopqrstuvwxyz") (.int i)=some (.str (ofL [97+i.toNat])):=by
 obtain⟨k,rfl⟩:=Int.eq_ofNat_of_zero_le h0
 have hk:k<26:=by omega
 have key:∀k:Fin 26,ixD (.str (Str.ofString "abcdefghijklmnopqrstuvwxyz")) (.int ((k.val:Nat):Int))=some (.str (ofL [97+((k.val:Nat):Int).toNat])):=by
  intro k
  have e:(if (Str.ofString "abcdefghijklmnopqrstuvwxyz").length<=sizeLine then (atI (Str.ofString "abcdefghijklmnopqrstuvwxyz").cps.toList ((k.val:Nat):Int)).map λc=>D.str ⟨#[c]⟩ else none)=ixD (.str (Str.ofString "abcdefghijklmnopqrstuvwxyz")) (.int ((k.val:Nat):Int)):=rfl
  rw[←e,abc,Hb,if_pos (by simp;decide)]
  show (atI (((List.range 26).map (97+·)).toArray.toList) ((k.val:Nat):Int)).map _=_
  have:atI (((List.range 26).map (97+·)).toArray.toList) ((k.val:Nat):Int)=some (97+k.val):=pK (by simp)
  rw[this]
  simp[ofL]
 exact key ⟨k,hk⟩
theorem abc_in{c:Nat}(h0:97<=c)(h1:c<123):inD (.str (ofL [c])) (.str "abcdefghijklmnopqrstuvwxyz")=some true:=by
 have key:∀k:Fin 26,(!(occurrences (Str.ofString "abcdefghijklmnopqrstuvwxyz") (ofL [97+k.val]) 0 (Str.ofString "abcdefghijklmnopqrstuvwxyz").length 1).isEmpty)=true:=by decide +kernel
 have:=key ⟨c - 97,by omega⟩
 rw[show 97+(c - 97)=c by omega] at this
 show some _=some true
 rw[this]
theorem join_ones(l:List Nat):Txt.join (Str.ofString "") (l.map λc=>ofL [c])=ofL l:=by
 have e0:(Str.ofString "").cps=#[]:=by decide +kernel
 have go:∀(l:List Nat)(a:Array Nat),(l.map λc=>ofL [c]).foldl (λacc p=>acc++(Str.ofString "").cps++p.cps) a=a++l.toArray:=by
  intro l
  induction l with
  | nil=>intro a;simp
  | cons c l ih =>
   intro a
   rw[List.map_cons,List.foldl_cons,ih,e0]
   apply Array.ext'
   simp[ofL]
 show glued _ _=_
 unfold glued
 cases l with
 | nil=>rfl
 | cons c l =>
  simp only[List.map_cons,List.drop_one,List.tail_cons,List.headD_cons]
  rw[go]
  unfold ofL
  congr 1
  apply Array.ext'
  simp
end DL
namespace DL
open PySem MX L2
def W{α:Type}(o:Out α)(Q:α->Prop):Prop:=match o with
 | .ok a=>Q a
 | _=>False
theorem W_get{α:Type}{o:Out α}{Q:α->Prop}(h:W o Q):∃a,o=.ok a/\Q a:=by
 cases o with
 | ok a=>exact⟨a,rfl,h⟩
 | ex x=>exact False.elim h
 | stuck=>exact False.elim h
theorem W.imp{α:Type}{o:Out α}{P Q:α->Prop}(h:W o P)(k:∀a,P a->Q a):W o Q:=by
 obtain⟨a,e,q⟩:=W_get h
 rw[e];exact k a q
theorem W_of{α:Type}{o:Out α}{a:α}{Q:α->Prop}(e:o=.ok a)(q:Q a):W o Q:=by rw[e];exact q
def so(δ:DSt)(i:Nat)(Q:List D->Prop):Prop:=match δ[i]? with
 | some (some (.ol ds))=>Q ds
 | _=>False
section
variable{α β:Type}{δ:DSt}{i n c:Nat}{d:D}{ds:List D}{x:Option Sl}{s:Sl}{Q:α->Prop}{P:D->Prop}{PL:List D->Prop}{R:Fl->Prop}{B:Bool->Prop}{k:DSt->Prop}{f f' f'':DSt->Out D}{t t':DSt->Out Bool}{g g':DSt->Out Fl}{fr:DSt->Out (List D)}{F:List D->Out D}
theorem W_bind{o:Out β}{k:β->Out α}:W (o.bind k) Q↔W o λa=>W (k a) Q:=by cases o <;> exact Iff.rfl
def trn(fl:Fl)(k:DSt->Prop)(R:Fl->Prop):Prop:=match fl with
 | .nx δ=>k δ
 | .ct δ=>k δ
 | .bk δ=>R (.nx δ)
 | fl=>R fl
theorem W_wh{t:DSt->Out Bool}(I:Nat->DSt->Prop){R:Fl->Prop}(hs:∀m δ,I m δ->W (t δ) λk=>if k=true then W (g δ) λfl=>trn fl (λδ'=>∃m',m'<m/\I m' δ') R else R (.nx δ)):∀(m n:Nat)(δ:DSt),I m δ->m<n->W (whD t g n δ) R
 | m,0,_,_,h=>absurd h (Nat.not_lt_zero _)
 | m,n+1,δ,i,h=>by
  unfold whD
  rw[W_bind]
  refine(hs m δ i).imp λk w=>?_
  cases k with
  | false=>rw[if_neg Bool.false_ne_true] at w ⊢;exact w
  | true =>
   rw[if_pos rfl] at w ⊢
   rw[W_bind]
   refine w.imp λfl w=>?_
   cases fl with
   | nx δ2=>obtain⟨m',lt,i'⟩:=w;exact W_wh I hs m' n δ2 i' (by omega)
   | ct δ2=>obtain⟨m',lt,i'⟩:=w;exact W_wh I hs m' n δ2 i' (by omega)
   | bk δ2=>exact w
   | rt d=>exact w
   | rl d=>exact w
   | rll d=>exact w
end
end DL
namespace DL
open PySem MX L2
end DL
namespace DL
open PySem MX L2
section
variable{g:DSt->Out Fl}
end
end DL
namespace DL
open PySem PySem.StrLaws
open PySem.Builtin.Str hiding strKind
end DL
namespace DL
open PySem MX L2
section
variable{δ:DSt}{i n:Nat}{d:D}{ds:List D}{x:Option Sl}{P:D->Prop}{PL:List D->Prop}{R:Fl->Prop}{B:Bool->Prop}{f f' f'' fo fa fb:DSt->Out D}{kvs:List (Key×D)}{QD:List (Key×D)->Prop}
end
end DL
namespace DL
open PySem MX L2
section
variable{δ:DSt}{i:Nat}{x:Str}{P:D->Prop}{PL:List D->Prop}{R:Fl->Prop}{PS:Str->Prop}{f f':DSt->Out D}{fa fr:DSt->Out Str}
theorem Ge{α β:Type}{t:DSt->Out Bool}{fe:DSt->Out β}(g g':α->D)(p:α->Bool)(h:α->β)(r:DSt):∀(xs:List α)(s1 s2:Option Sl),(∀x∈xs,t (some (.sh (g x))::some (.sh (g' x))::r)=.ok (p x))->(∀x∈xs,p x=true->fe (some (.sh (g x))::some (.sh (g' x))::r)=.ok (h x))->rW (gT 2 (aQ (gN 0) (aQ (gN 1) cN))) t fe (xs.map λx=>D.tup [g x,g' x]) (s1::s2::r)=.ok ((xs.filter p).map h)
 | [],_,_,_,_=>rfl
 | x::xs,s1,s2,a,k=>by
  have e0:=a x List.mem_cons_self
  have e1:=k x List.mem_cons_self
  have e2:=Ge g g' p h r xs (some (.sh (g x))) (some (.sh (g' x))) (λy hy=>a y (List.mem_cons_of_mem _ hy)) λy hy=>k y (List.mem_cons_of_mem _ hy)
  rw[List.map_cons]
  unfold rW
  have et:gT 2 (aQ (gN 0) (aQ (gN 1) cN)) (.tup [g x,g' x]) (s1::s2::r)=some (some (.sh (g x))::some (.sh (g' x))::r):=rfl
  rw[et,List.filter_cons]
  simp only[Out.cU,Out.aM,Out.jr,e0,e2]
  cases hp:p x with
  | true=>simp only[e1 hp,Out.aM,Out.jr,if_true,List.map_cons]
  | false=>rfl
end
end DL
namespace DL
open PySem L2 MX
end DL
namespace RT
abbrev Pr:=Nat×Nat
structure Dist(T:Nat->Prop)(M:Nat->Nat->Prop)(ρ:Nat->Option Nat):Prop where
 t0:∀n,ρ n=some 0↔T n
 st:∀n r,ρ n=some (r+1)->∃m,M n m/\ρ m=some r
 ne:∀n m r,M n m->ρ m=some r->∃v,ρ n=some v/\v<=r+1
section
variable{T:Nat->Prop}{M:Nat->Nat->Prop}{ρ ρ':Nat->Option Nat}
theorem Dist.le(A:Dist T M ρ)(B:Dist T M ρ'):∀(r n:Nat),ρ n=some r->∃v,ρ' n=some v/\v<=r
 | 0,n,h=>⟨0,(B.t0 n).mpr ((A.t0 n).mp h),Nat.le_refl _⟩
 | r+1,n,h=>by
  obtain⟨m,e,k⟩:=A.st n r h
  obtain⟨v,q,le⟩:=A.le B r m k
  obtain⟨u,z,lz⟩:=B.ne n m v e q
  exact⟨u,z,by omega⟩
theorem Dist.eq(A:Dist T M ρ)(B:Dist T M ρ'):ρ=ρ':=by
 funext n
 cases h:ρ n with
 | none =>
  cases h':ρ' n with
  | none=>rfl
  | some r =>
   obtain⟨v,q,_⟩:=B.le A r n h'
   rw[h] at q;cases q
 | some r =>
  obtain⟨v,q,le⟩:=A.le B r n h
  obtain⟨u,z,lz⟩:=B.le A v n q
  rw[h] at z;cases z
  rw[q,show v=r by omega]
end
noncomputable def fs(l:List Pr):List Nat:=l.map (·.1)
noncomputable def rk(l:List Pr)(n:Nat):Option Nat:=(l.find? λp=>decide (p.1=n)).map (·.2)
theorem tH{l:List Pr}{n r:Nat}(h:rk l n=some r):(n,r)∈l:=by
 unfold rk at h
 obtain⟨p,hp,rfl⟩:=Option.map_eq_some_iff.mp h
 have:=List.find?_some hp
 have e:p.1=n:=by simpa using this
 have:=List.mem_of_find?_eq_some hp
 rw[←e];exact this
theorem rk_none{l:List Pr}{n:Nat}(h:n∉fs l):rk l n=none:=by
 unfold rk
 rw[Option.map_eq_none_iff,List.find?_eq_none]
 intro p hp e
 exact h (List.mem_map.mpr ⟨p,hp,by simpa using e⟩)
theorem qQ{l:List Pr}(nd:(fs l).Nodup){n r:Nat}(h:(n,r)∈l):rk l n=some r:=by
 cases e:rk l n with
 | none =>
  unfold rk at e
  rw[Option.map_eq_none_iff,List.find?_eq_none] at e
  exact absurd (e _ h) (by simp)
 | some v =>
  have m:=tH e
  congr 1
  obtain⟨i,hi,ei⟩:=List.getElem_of_mem h
  obtain⟨j,hj,ej⟩:=List.getElem_of_mem m
  have pw:=List.pairwise_iff_getElem.mp nd
  have g:∀k (hk:k<l.length),(fs l)[k]'(by simpa[fs] using hk)=(l[k]).1:=λk hk=>by simp[fs]
  rcases Nat.lt_trichotomy i j with z | z | z
  .exact absurd (by rw[g i hi,g j hj,ei,ej]) (pw i j (by simpa[fs] using hi) (by simpa[fs] using hj) z)
  .subst z;rw[ei] at ej;exact(Prod.ext_iff.mp ej).2.symm
  .exact absurd (by rw[g i hi,g j hj,ei,ej]) (pw j i (by simpa[fs] using hj) (by simpa[fs] using hi) z)
theorem sX{l:List Pr}{n:Nat}:n∈fs l↔∃r,(n,r)∈l:=by
 unfold fs
 rw[List.mem_map]
 exact⟨λ⟨p,hp,e⟩=>⟨p.2,by rw[←e];exact hp⟩,λ⟨r,h⟩=>⟨_,h,rfl⟩⟩
noncomputable def stp(r:Nat):List Pr->List Nat->List Pr
 | l,[]=>l
 | l,n::s=>stp r (if n∈fs l then l else l++[(n,r+1)]) s
theorem Iu(r:Nat):∀(s:List Nat)(l:List Pr),(fs l).Nodup->∃x,stp r l s=l++x/\(∀p∈x,p.2=r+1/\p.1∈s)/\(fs (stp r l s)).Nodup/\∀n∈s,n∈fs (stp r l s)
 | [],l,nd=>⟨[],by simp[stp],by simp,nd,by simp⟩
 | n::s,l,nd=>by
  unfold stp
  by_cases h:n∈fs l
  .rw[if_pos h]
   obtain⟨x,e,a,b,c⟩:=Iu r s l nd
   refine⟨x,e,λp hp=>⟨(a p hp).1,List.mem_cons_of_mem _ (a p hp).2⟩,b,λk hk=>?_⟩
   rcases List.mem_cons.mp hk with rfl | hk
   .rw[e];unfold fs;rw[List.map_append];exact List.mem_append_left _ h
   .exact c k hk
  .rw[if_neg h]
   obtain⟨x,e,a,b,c⟩:=Iu r s (l++[(n,r+1)]) (by
    unfold fs at h ⊢
    rw[List.map_append,List.nodup_append]
    refine⟨nd,by simp,λu hu v hv=>?_⟩
    simp at hv
    subst hv
    intro z;subst z;exact h hu)
   refine⟨(n,r+1)::x,by rw[e];simp,λp hp=>?_,b,λk hk=>?_⟩
   .rcases List.mem_cons.mp hp with rfl | hp
    .exact⟨rfl,List.mem_cons_self ..⟩
    .exact⟨(a p hp).1,List.mem_cons_of_mem _ (a p hp).2⟩
   .rcases List.mem_cons.mp hk with rfl | hk
    .rw[e];unfold fs;simp
    .exact c k hk
structure BF(T:Nat->Prop)(M:Nat->Nat->Prop)(many:Nat)(l:List Pr)(i:Nat):Prop where
 nd:(fs l).Nodup
 lt:∀p∈l,p.1<many
 il:i<=l.length
 t0:∀n,T n↔(n,0)∈l
 st:∀n r,(n,r+1)∈l->∃m,M n m/\(m,r)∈l
 mono:l.Pairwise λp q=>p.2<=q.2
 ne:∀j m r,j<i->l[j]?=some (m,r)->∀n,M n m->∃v,(n,v)∈l/\v<=r+1
 bd:∀m r,l[i]?=some (m,r)->∀p∈l,p.2<=r+1
theorem lR:∀(many:Nat)(o:List Nat),o.Nodup->(∀x∈o,x<many)->o.length<=many
 | 0,o,_,h=>by
  cases o with
  | nil=>exact Nat.le_refl _
  | cons x o=>exact absurd (h x List.mem_cons_self) (Nat.not_lt_zero _)
 | m+1,o,nd,h=>by
  have e:=lR m (o.erase m) (nd.erase m) λx hx=>by
   have:=(nd.mem_erase_iff).mp hx
   have:=h x this.2
   omega
  have:=List.length_erase (a:=m) (l:=o)
  split at this <;> omega
section
variable{T:Nat->Prop}{M:Nat->Nat->Prop}{many i:Nat}{l:List Pr}
theorem BF.len(B:BF T M many l i):l.length<=many:=by
 have:=lR many (fs l) B.nd λx hx=>by
  obtain⟨r,h⟩:=sX.mp hx
  exact B.lt _ h
 simpa[fs] using this
theorem BF.next(B:BF T M many l i){m r:Nat}(h:l[i]?=some (m,r)){s:List Nat}(hs:∀n,n∈s↔n<many/\M n m)(hM:∀n,M n m->n<many):BF T M many (stp r l s) (i+1):=by
 obtain⟨x,e,a,b,c⟩:=Iu r s l B.nd
 have il:i<l.length:=(List.getElem?_eq_some_iff.mp h).1
 have hx:∀p∈x,p.2=r+1/\p.1<many/\M p.1 m:=λp hp=>⟨(a p hp).1,(hs _).mp (a p hp).2⟩
 have hm:(m,r)∈l:=List.mem_of_getElem? h
 have bd:=B.bd m r h
 refine⟨b,λp hp=>?_,?_,λn=>?_,λn v hv=>?_,?_,λj m' r' hj hg n hn=>?_,λm' r' hg p hp=>?_⟩
 .rw[e] at hp
  rcases List.mem_append.mp hp with hp | hp
  .exact B.lt p hp
  .exact(hx p hp).2.1
 .rw[e,List.length_append];omega
 .rw[B.t0 n,e,List.mem_append]
  refine⟨.inl,λz=>?_⟩
  rcases z with z | z
  .exact z
  .have:=(hx _ z).1;simp at this
 .rw[e] at hv ⊢
  rcases List.mem_append.mp hv with hv | hv
  .obtain⟨k,k1,k2⟩:=B.st n v hv
   exact⟨k,k1,List.mem_append_left _ k2⟩
  .have:=hx _ hv
   have:v=r:=by simpa using this.1
   subst this
   exact⟨m,(hx _ hv).2.2,List.mem_append_left _ hm⟩
 .rw[e,List.pairwise_append]
  refine⟨B.mono,?_,λp hp q hq=>?_⟩
  .refine List.pairwise_iff_getElem.mpr λu v hu hv _=>?_
   rw[(hx _ (List.getElem_mem hu)).1,(hx _ (List.getElem_mem hv)).1]
   exact Nat.le_refl _
  .rw[(hx q hq).1];exact bd p hp
 .by_cases z:j=i
  .subst z
   rw[e,List.getElem?_append_left il,h] at hg
   cases hg
   obtain⟨v,hv⟩:=sX.mp (c n ((hs n).mpr ⟨hM n hn,hn⟩))
   refine⟨v,hv,?_⟩
   rw[e] at hv
   rcases List.mem_append.mp hv with hv | hv
   .exact bd _ hv
   .have:=(hx _ hv).1;simp at this;omega
  .rw[e,List.getElem?_append_left (by omega)] at hg
   obtain⟨v,h1,h2⟩:=B.ne j m' r' (by omega) hg n hn
   exact⟨v,by rw[e];exact List.mem_append_left _ h1,h2⟩
 .have ge:r<=r':=by
   rw[e] at hg
   by_cases z:i+1<l.length
   .rw[List.getElem?_append_left z] at hg
    have:=List.pairwise_iff_getElem.mp B.mono i (i+1) il z (by omega)
    rw[List.getElem?_eq_getElem il] at h
    rw[List.getElem?_eq_getElem z] at hg
    cases h':l[i];cases h'':l[i+1]
    rw[h'] at h this;rw[h''] at hg this
    cases h;cases hg
    exact this
   .rw[List.getElem?_append_right (by omega)] at hg
    have:=(hx _ (List.mem_of_getElem? hg)).1
    simp at this;omega
  rw[e] at hp
  rcases List.mem_append.mp hp with hp | hp
  .have:=bd p hp;omega
  .rw[(hx p hp).1];omega
theorem BF.dist(B:BF T M many l l.length)(hM:∀n m,M n m->n<many):Dist T M (rk l):=by
 refine⟨λn=>?_,λn r h=>?_,λn m r hn h=>?_⟩
 .rw[B.t0 n]
  exact⟨tH,qQ B.nd⟩
 .obtain⟨m,h1,h2⟩:=B.st n r (tH h)
  exact⟨m,h1,qQ B.nd h2⟩
 .obtain⟨j,hj,e⟩:=List.getElem_of_mem (tH h)
  obtain⟨v,h1,h2⟩:=B.ne j m r hj (by rw[List.getElem?_eq_getElem hj,e]) n hn
  exact⟨v,qQ B.nd h1,h2⟩
end
end RT
namespace K13
open PySem L2 MX DL
inductive Dr where
 | must (n:Nat) | may (n:Nat) | shut | torn
noncomputable def Dr.w:Dr->Str
 | .must _=>"must"
 | .may _=>"may"
 | .shut=>"shut"
 | .torn=>"torn"
noncomputable def Dr.to:Dr->D
 | .must n=>.int n
 | .may n=>.int n
 | .shut=>.non
 | .torn=>.non
noncomputable def Dr.d(x:Dr):D:=.tup [.str x.w,x.to]
noncomputable def Dr.ob:Dr->D
 | .must n=>.obj iJ [("to",.int n)]
 | .may n=>.obj qX [("to",.int n)]
 | .shut=>.obj gU [("to",.non)]
 | .torn=>.obj gW [("to",.non)]
def Dr.ok(many:Nat)(t:Bool):Dr->Prop
 | .must n=>n<many
 | .may n=>n<many
 | .shut=>True
 | .torn=>t=true
theorem s0:(0:Nat)<=sizeLine:=by decide
theorem s2:(2:Nat)<=sizeLine:=by decide
theorem q11:eqD (.str "must") (.str "must")=some true:=by decide +kernel
theorem q21:eqD (.str "may") (.str "must")=some false:=by decide +kernel
theorem q22:eqD (.str "may") (.str "may")=some true:=by decide +kernel
theorem q31:eqD (.str "shut") (.str "must")=some false:=by decide +kernel
theorem q32:eqD (.str "shut") (.str "may")=some false:=by decide +kernel
theorem q33:eqD (.str "shut") (.str "shut")=some true:=by decide +kernel
theorem q41:eqD (.str "torn") (.str "must")=some false:=by decide +kernel
theorem q42:eqD (.str "torn") (.str "may")=some false:=by decide +kernel
theorem q43:eqD (.str "torn") (.str "shut")=some false:=by decide +kernel
theorem q44:eqD (.str "torn") (.str "torn")=some true:=by decide +kernel
theorem n1:inD (.str "must") (.tup [.str "must",.str "torn"])=some true:=by decide +kernel
theorem n2:inD (.str "may") (.tup [.str "must",.str "torn"])=some false:=by decide +kernel
theorem n3:inD (.str "shut") (.tup [.str "must",.str "torn"])=some false:=by decide +kernel
theorem n4:inD (.str "torn") (.tup [.str "must",.str "torn"])=some true:=by decide +kernel
theorem m1:inD (.str "must") (.tup [.str "must",.str "may"])=some true:=by decide +kernel
theorem m2:inD (.str "may") (.tup [.str "must",.str "may"])=some true:=by decide +kernel
theorem m3:inD (.str "shut") (.tup [.str "must",.str "may"])=some false:=by decide +kernel
theorem m4:inD (.str "torn") (.tup [.str "must",.str "may"])=some false:=by decide +kernel
theorem ok_must:PyData.strOk "must"=true:=by decide +kernel
theorem ok_may:PyData.strOk "may"=true:=by decide +kernel
theorem ok_shut:PyData.strOk "shut"=true:=by decide +kernel
theorem ok_torn:PyData.strOk "torn"=true:=by decide +kernel
theorem Ab(n many:Nat)(h:n<many):fj [.int n,.int many]=.ok (.bl true):=by
 unfold fj uF
 have h1:(n:Int)<(many:Int):=by omega
 have h0:(0:Int)<=(n:Int):=by omega
 walk_at "ev: fX dR my h0 h1"
theorem Jf(x:Dr)(many:Nat)(t:Bool)(h:x.ok many t):gO [x.d,.int many,.bl t]=.ok (.bl true):=by
 unfold gO lH Dr.d
 cases x with
 | must n=>(have zv0:=Ab n many h;walk_at "ev: cW ik my Dr.w Dr.to q11 zv0")
 | may n=>(have zv0:=Ab n many h;walk_at "ev: cW ik my Dr.w Dr.to q21 q22 zv0")
 | shut=>walk_at "ev: cW ik my Dr.w Dr.to q31 q32 q33"
 | torn =>
  obtain rfl:t=true:=h
  walk_at "ev: cW ik my Dr.w Dr.to q41 q42 q43 q44"
theorem K8(n a:Bool)(to:D):ux [.bl n,.bl a,to]=.ok (match n,a with | true,true=>.obj iJ [("to",to)] | false,true=>.obj qX [("to",to)] | true,false=>.obj gW [("to",.non)] | false,false=>.obj gU [("to",.non)]):=by
 unfold ux xP
 cases n <;> cases a <;> walk_at "ev: xu I_May Ac xx" <;> rfl
theorem F_made(x:Dr):jx [x.d]=.ok x.ob:=by
 unfold jx sI Dr.d
 cases x <;> walk_at "ev: Dr.w Dr.to Dr.ob s2 n1 n2 n3 n4 m1 m2 m3 m4 K8"
theorem F_told'(x:Dr):eG [x.ob]=.ok x.d:=by
 unfold eG sG
 cases x <;> walk_at "ev: Dr.d Dr.w Dr.to Dr.ob s2 iJ qX gU gW cI mD m5 oY pW mF m6 mG m7"
theorem M_told'(x:Dr)(δ:DSt)(fo:DSt->Out D)(h:fo δ=.ok x.ob):oM "told" 1 ur fo aK δ=.ok x.d:=by
 have e:=F_told' x
 cases x <;> · unfold Dr.ob at e h;simp only[eE,jN,iG,aR,dX,bz,lV,jc,sIf,bG,dB,Cg,yO,sClr,sClr2,tM,gv,gb,gvo,slD,o1,o2,o2b,o3,oC,oF,oM,oMk,iH,mz,bV,qW,orT,gA,tst,vf,orV,notV,ifV,aK,ao,dh,sZ,Ar,bL,gG,kc,uO,frzd,frz,frzS,wH,Ff,Iv,zX,wk,zW,Gd,NP,asB_b,Mt,Mu,Mv,J0,ixD_r,Bq,Mj,GC,atI_0,atI_1,atI_2,MF,MJ,Gm,MN,isND,uX,vA,gN,cN,aQ,gT,Out.aM,Out.FJ,Out.vh,Out.cU,Out.BR,Out.jr,M3,List.map_cons,List.map_nil,List.length_cons,List.length_nil,List.append_assoc,List.nil_append,List.cons_append,List.getElem?_cons_zero,List.getElem?_cons_succ,List.getElem?_nil,List.set_cons_zero,List.set_cons_succ,Nat.zero_add,Nat.reduceAdd,Nat.reduceSub,List.replicate_succ,List.replicate_zero,List.lookup_cons,List.lookup_nil,Option.some.injEq,Option.bind_some,Option.map_some,Nat.reduceBEq,Nat.reduceEqDiff,Int.reduceLT,Int.reduceLE,Int.reduceNeg,Int.reduceAdd,Int.reduceMul,Int.reduceSub,Nat.reduceLeDiff,reduceIte,ite_true,decide_true,decide_false,Bool.not_true,Bool.not_false,Nat.reduceEqDiff,Bool.false_eq_true,Option.isNone_none,Option.isNone_some,Hc,String.reduceBEq,String.reduceEq,beq_self_eq_true,List.contains_cons,List.contains_nil,Bool.or_false,Bool.or_true,Bool.true_or,Bool.false_or,Bool.and_true,Bool.and_false,Bool.true_and,Bool.false_and,Bool.not_eq_true,eq_self_iff_true,Int.cast_ofNat_Int,Int.reduceBEq,Int.natCast_zero,h,ur,iJ,qX,gU,gW] at e ⊢;exact e
theorem zG(x:Dr)(δ:DSt)(fo:DSt->Out D)(h:fo δ=.ok x.ob):oM "word" 1 cI fo aK δ=.ok (.str x.w):=by
 cases x <;> · unfold Dr.ob at h;walk_at "ev: h Dr.w cI iJ qX gU gW mD m5 oY pW mF m6 mG m7"
theorem fld_to(x:Dr)(δ:DSt)(fo:DSt->Out D)(h:fo δ=.ok x.ob):iH "to" [iJ,qX,gU,gW] fo δ=.ok x.to:=by
 cases x <;> · unfold Dr.ob at h;walk_at "ev: h Dr.to iJ qX gU gW"
theorem Ez(r:List Dr)(h:r.length<=100):jy [.lst (r.map Dr.d)]=.ok (.tup (r.map Dr.ob)):=by
 unfold jy sJ
 have e:=cB (cap:=[none]) (fi:=bL (gv 0)) (fe:=nP) (δ:=[some (.sh (.lst (r.map Dr.d)))]) Dr.d Dr.ob r rfl (by omega) (λx _=>by
  unfold nP
  show (oF 1 jx (ao (gv 0) aK) [some (.sh x.d)])=_
  (have zv0:=F_made x;walk_at "ev: zv0"))
 walk_at "ev: e vM"
noncomputable def bf(rows:List (List Dr)):D:=.lst (rows.map λr=>.lst (r.map Dr.d))
noncomputable def rowsO(rows:List (List Dr)):D:=.tup (rows.map λr=>.tup (r.map Dr.ob))
structure Rows(many acts:Nat)(t:Bool)(rows:List (List Dr)):Prop where
 n:rows.length=many
 row:∀r∈rows,r.length=acts/\∀x∈r,x.ok many t
theorem sy{α:Type}(g:α->D):∀(xs:List α)(k:Nat),fL k (xs.map g)=(List.zipIdx xs k).map λp=>D.tup [.int p.2,g p.1]
 | [],_=>rfl
 | x::xs,k=>by rw[List.map_cons,List.zipIdx_cons,List.map_cons,←sy g xs (k+1)];rfl
theorem F_rows(many acts:Nat)(t:Bool)(rows:List (List Dr))(R:Rows many acts t rows)(h1:1<=many)(h2:many<=2000)(h3:acts<=8):fu [bf rows,.int acts,.bl t]=.ok .non:=by
 unfold fu pZ bf
 have hn:=R.n
 have a1:(1:Int)<=(rows.length:Int):=by omega
 have a2:(rows.length:Int)<=2000:=by omega
 walk_at "ev: cG my List.length_map a1 a2 enum gF sy"
 have step:∀(p:List Dr×Nat)(done:List (List Dr×Nat))(δ:DSt),(∃a b c d:Option Sl,δ=[some (.sh (bf rows)),some (.sh (.int acts)),some (.sh (.bl t)),a,b,c,d])->p∈rows.zipIdx ->
   ∃δ1,gT 2 (aQ (gN 3) (aQ (gN 4) cN)) (D.tup [.int p.2,.lst (p.1.map Dr.d)]) δ=some δ1/\nxP (lL δ1) λδ=>∃a b c d:Option Sl,δ=[some (.sh (bf rows)),some (.sh (.int acts)),some (.sh (.bl t)),a,b,c,d]:=by
  rintro⟨r,i⟩ done δ ⟨a,b,c,d,rfl⟩ hp
  refine⟨_,rfl,?_⟩
  have hr:=R.row r (List.fst_mem_of_mem_zipIdx hp)
  have hl:(r.length:Int)=(acts:Int):=by rw[hr.1]
  have step2:∀(p:Dr×Nat)(done:List (Dr×Nat))(δ:DSt),(∃a b:Option Sl,δ=[some (.sh (bf rows)),some (.sh (.int acts)),some (.sh (.bl t)),some (.sh (.int i)),some (.sh (.lst (r.map Dr.d))),a,b])->p∈r.zipIdx ->
    ∃δ1,gT 2 (aQ (gN 5) (aQ (gN 6) cN)) (D.tup [.int p.2,p.1.d]) δ=some δ1/\nxP (lM δ1) λδ=>∃a b:Option Sl,δ=[some (.sh (bf rows)),some (.sh (.int acts)),some (.sh (.bl t)),some (.sh (.int i)),some (.sh (.lst (r.map Dr.d))),a,b]:=by
   rintro⟨x,j⟩ done δ ⟨a,b,rfl⟩ hq
   refine⟨_,rfl,?_⟩
   have e:=Jf x many t (hr.2 x (List.fst_mem_of_mem_zipIdx hq))
   unfold lM
   unfold bf
   walk_at "ev: List.length_map hn e"
   exact⟨_,_,rfl⟩
  obtain⟨δ',e1,i1⟩:=Gv (λp:Dr×Nat=>D.tup [.int p.2,p.1.d]) (λ_ δ=>∃a b:Option Sl,δ=[some (.sh (bf rows)),some (.sh (.int acts)),some (.sh (.bl t)),some (.sh (.int i)),some (.sh (.lst (r.map Dr.d))),a,b]) r.zipIdx [] [some (.sh (bf rows)),some (.sh (.int acts)),some (.sh (.bl t)),some (.sh (.int i)),some (.sh (.lst (r.map Dr.d))),c,d] step2 ⟨_,_,rfl⟩
  unfold lL
  walk_at "ev: cG my List.length_map hl enum gF sy e1"
  obtain⟨a,b,rfl⟩:=i1
  exact⟨_,_,_,_,rfl⟩
 obtain⟨δ',e1,i1⟩:=Gv (λp:List Dr×Nat=>D.tup [.int p.2,.lst (p.1.map Dr.d)]) (λ_ δ=>∃a b c d:Option Sl,δ=[some (.sh (bf rows)),some (.sh (.int acts)),some (.sh (.bl t)),a,b,c,d]) rows.zipIdx [] [some (.sh (bf rows)),some (.sh (.int acts)),some (.sh (.bl t)),none,none,none,none] step ⟨_,_,_,_,rfl⟩
 unfold bf at e1
 walk_at "ev: e1"
def NameL(l:List Nat):Prop:=1<=l.length/\l.length<=8/\∀c∈l,97<=c/\c<123
theorem F_name(l:List Nat)(h:NameL l):oh [.str (ofL l)]=.ok (.bl true):=by
 unfold oh xQ
 have a1:(1:Int)<=(l.length:Int):=by have:=h.1;omega
 have a2:(l.length:Int)<=8:=by have:=h.2.1;omega
 have a3:l.length<=sizeLine:=Nat.le_trans h.2.1 (by decide)
 have e:=cB (cap:=[none]) (fi:=strO (gv 0)) (fe:=sS) (δ:=[some (.sh (.str (ofL l)))]) (λc=>D.str (ofL [c])) (λ_=>D.bl true) l rfl (by have:=h.2.1;omega) (λc hc=>by
  unfold sS
  have e:=abc_in (h.2.2 c hc).1 (h.2.2 c hc).2
  show bV (o2b inD (gb 0) (kc (.str "abcdefghijklmnopqrstuvwxyz"))) [some (.sh (.str (ofL [c])))]=_
  walk_at "ev: e")
 have e2:=Ak (λ_:Nat=>true) l
 walk_at "ev: ik my dj Hb a1 a2 a3 e e2"
 simp
noncomputable def aO(ns:List (List Nat)):List D:=ns.map λl=>.str (ofL l)
structure Names(ns:List (List Nat)):Prop where
 ok:∀l∈ns,NameL l
 lo:1<=ns.length
 hi:ns.length<=8
 nd:ns.Nodup
theorem F_acts(ns:List (List Nat))(N:Names ns):gP [.lst (aO ns)]=.ok .non:=by
 unfold gP lJ iR iW
 have h1:=N.lo
 have h2:=N.hi
 have a1:(1:Int)<=(ns.length:Int):=by omega
 have a2:(ns.length:Int)<=8:=by omega
 have e:=cB (cap:=[none]) (fi:=bL (gv 0)) (fe:=gw) (δ:=[some (.sh (.lst (aO ns)))]) (λl=>D.str (ofL l)) (λ_=>D.bl true) ns rfl (by omega) (λl hl=>by
  unfold gw
  have e:=F_name l (N.ok l hl)
  show oF 1 oh (ao (gv 0) aK) [some (.sh (.str (ofL l)))]=_
  walk_at "ev: e")
 have e2:=Ak (λ_:List Nat=>true) ns
 have e3:ns.all (λ_=>true)=true:=by simp
 have e4:Bt (.lst (aO ns))=some (.int ns.length):=by
  unfold Bt
  have q:aO ns=(ns.map ofL).map D.str:=by unfold aO;simp
  simp only[gF,Option.bind_some,q,Et]
  rw[if_pos (by rw[List.length_map];omega),By _ _ (by
   simp only[List.nil_append]
   exact List.pairwise_map.mpr (N.nd.imp λh q=>h (ofL_inj q)))]
  simp
 have e5:(aO ns).length=ns.length:=by simp[aO]
 walk_at "ev: cG my e5 a1 a2 e e2 e3 e4"
noncomputable def plan(c:Nat)(ns:List (List Nat))(rows:List (List Dr)):D:=.obj c [("actions",.tup (aO ns)),("rooms",rowsO rows)]
theorem K9(t:Bool)(many:Nat)(ns:List (List Nat))(rows:List (List Dr))(N:Names ns)(R:Rows many ns.length t rows)(h1:1<=many)(h2:many<=2000):Ej t [.lst (aO ns),bf rows]=.ok [("actions",.tup (aO ns)),("rooms",rowsO rows)]:=by
 have e5:(aO ns).length=ns.length:=by simp[aO]
 have e1:=F_acts ns N
 have e2:=F_rows many ns.length t rows R h1 (by omega) N.hi
 have hn:=R.n
 have e3:=cB (cap:=[none]) (fi:=bL (gv 2)) (fe:=lN) (δ:=[none,some (.sh (.lst (aO ns))),some (.sh (bf rows))]) (λr:List Dr=>D.lst (r.map Dr.d)) (λr=>D.tup (r.map Dr.ob)) rows rfl (by omega) (λr hr=>by
  unfold lN
  have h8:=N.hi
  have e:=Ez r (by rw[(R.row r hr).1];omega)
  show oF 1 jy (ao (gv 0) aK) [some (.sh (.lst (r.map Dr.d)))]=_
  walk_at "ev: e")
 unfold Ej zP zQ zR zT
 walk_at "ev: e1 e2 e5 e3 vM rowsO"
structure Pl(c many:Nat)(t:Bool)(ns:List (List Nat))(rows:List (List Dr)):Prop where
 c:c=aH∨c=bU
 N:Names ns
 R:Rows many ns.length t rows
 lo:1<=many
 hi:many<=2000
section
variable{c many:Nat}{t:Bool}{ns:List (List Nat)}{rows:List (List Dr)}{δ:DSt}{fo:DSt->Out D}
theorem oE(P:Pl c many t ns rows)(h:fo δ=.ok (plan c ns rows)):iH "rooms" [aH,bU] fo δ=.ok (rowsO rows):=by
 unfold plan at h
 rcases P.c with rfl | rfl <;> walk_at "ev: h aH bU"
theorem get_ok(R:Rows many ns.length t rows){i a:Nat}(hi:i<many)(ha:a<ns.length):∃r x,rows[i]?=some r/\r[a]?=some x/\x.ok many t:=by
 have h1:i<rows.length:=by rw[R.n];exact hi
 have hr:=R.row rows[i] (List.getElem_mem h1)
 have h2:a<(rows[i]).length:=by rw[hr.1];exact ha
 exact⟨rows[i],(rows[i])[a],by simp[h1],by simp[h2],hr.2 _ (List.getElem_mem h2)⟩
end
theorem kO{α:Type}(n:Nat)(f:α->D):∀xs:List α,(∀x∈xs,dU n (f x)=true)->jO n (xs.map f)=true
 | [],_=>by simp[jO]
 | x::xs,h=>by
  rw[List.map_cons]
  simp only[jO,Bool.and_eq_true]
  exact⟨h x List.mem_cons_self,kO n f xs λy hy=>h y (List.mem_cons_of_mem _ hy)⟩
theorem lay_d(x:Dr)(n:Nat):dU (n+1) x.d=true:=by
 cases x <;> simp[Dr.d,Dr.w,Dr.to,dU,jO,ok_must,ok_may,ok_shut,ok_torn]
theorem lay_rows(rows:List (List Dr)):dU 50 (bf rows)=true:=by
 show jO 49 _=true
 exact kO 49 _ _ λr _=>by
  show jO 48 _=true
  exact kO 48 _ _ λx _=>lay_d x 47
noncomputable def oH(c k:Int):Int :=
 let n:=(c*48271+k*7919+104729) % 2147483647
 let n:=(n*n % 2147483629*16807+k*104729+11) % 2147483587
 n*n % 2147483549
theorem Oo(c k:Int):0<=oH c k:=by unfold oH;exact Int.emod_nonneg _ (by decide)
theorem jW(c k:Int)(h0:0<=k)(h1:k<=1000000):bc [.int c,.int k]=.ok (.int (oH c k)):=by
 unfold bc pX
 have m1:∀a b:Int,qU (a % 2147483647) b:=λa b=>modb a b (by decide) (by decide)
 have m2:∀a b:Int,qU (a % 2147483629) b:=λa b=>modb a b (by decide) (by decide)
 have m3:∀a b:Int,qU (a % 2147483587) b:=λa b=>modb a b (by decide) (by decide)
 have mk:∀b:Int,qU k b:=λb=>uA (by omega) (by omega)
 have mc:qU c 48271:=Or.inr ⟨by decide,by decide⟩
 walk_at "ev: m1 m2 m3 mk mc"
 rfl
theorem F_cell(ns:List Int)(k:Nat):cP [.rol (ns.map .int),.int k]=.ok (.int (ns.getD k 0)):=by
 unfold cP lG
 walk_at "ev: List.length_map"
 by_cases h:k<ns.length
 .have h':(k:Int)<(ns.length:Int):=by omega
  have e:atI (ns.map D.int) (k:Int)=some (.int ns[k]):=pK (by simp[h])
  walk_at "ev: h' e"
  simp[h]
 .have h':¬(k:Int)<(ns.length:Int):=by omega
  walk_at "ev: h'"
  simp[h]
theorem jq(x:Int){m:Nat}(h:1<=m):∃n:Nat,x % (m:Int)=(n:Int)/\n<m:=by
 have h1:=Int.emod_nonneg x (show (m:Int)≠0 by omega)
 have h2:=Int.emod_lt_of_pos x (show (0:Int)<m by omega)
 exact⟨(x % (m:Int)).toNat,by omega,by omega⟩
theorem GD{n j:Nat}(h:j<n):ixN n (j:Int)=some j:=by
 unfold ixN
 rw[if_pos (by omega),if_pos (by omega)]
 simp
theorem cM{A B:DSt->Out Fl}{δ δ':DSt}(h:A δ=.ok (.nx δ')):aR A B δ=B δ':=by
 unfold aR
 rw[h]
 rfl
theorem Lk{f:DSt->Out D}{i:Nat}{δ δ':DSt}{ds:List D}{d:D}(h1:δ[i]?=some (some (.ol ds)))(h2:f δ=.ok d)(h3:ds.length<sizeLine)(h4:δ.set i (some (.ol (ds++[d])))=δ'):Cg i f δ=.ok (.nx δ'):=by
 unfold Cg
 rw[h1]
 simp only[h2,Out.aM]
 rw[if_pos h3,h4]
theorem run_rt{A B:DSt->Out Fl}{δ:DSt}{d:D}(h:A δ=.ok (.rt d)):((aR A B δ).bind iG).aZ=.ok d:=by
 unfold aR
 rw[h]
 rfl
theorem Kv{t:DSt->Out Bool}{A B:DSt->Out Fl}{δ:DSt}(h:t δ=.ok true):sIf t A B δ=A δ:=by
 unfold sIf
 rw[h]
 rfl
theorem wO{f:DSt->Out D}{δ:DSt}{d:D}(h:f δ=.ok d):bG f δ=.ok (.rt d):=by
 unfold bG
 rw[h]
 rfl
theorem fZ{f:DSt->Out (List D)}{δ:DSt}{l:List D}(h:f δ=.ok l):gG f δ=.ok (.lst l):=by
 unfold gG
 rw[h]
 rfl
theorem nodup_range{f:Nat->List Nat}{n:Nat}(h:∀i j,i<j->j<n->f i≠f j):((List.range n).map f).Nodup:=by
 refine List.pairwise_map.mpr (List.Pairwise.imp_of_mem (fun{a b} ha hb hab=>h a b hab (List.mem_range.mp hb)) List.pairwise_lt_range)
theorem bA{i:Nat}{f:DSt->Out D}{δ δ':DSt}{d:D}(h:f δ=.ok d)(e:δ.set i (some (.sh d))=δ'):bz i f δ=.ok (.nx δ'):=by
 unfold bz
 rw[h]
 simp only[Out.aM]
 rw[e]
theorem wW{i:Nat}{f:DSt->Out (List D)}{δ δ':DSt}{d:List D}(h:f δ=.ok d)(e:δ.set i (some (.ol d))=δ'):lV i f δ=.ok (.nx δ'):=by
 unfold lV
 rw[h]
 simp only[Out.aM]
 rw[e]
theorem Cm{i:Nat}{f:DSt->Out (List (List D))}{δ δ':DSt}{d:List (List D)}(h:f δ=.ok d)(e:δ.set i (some (.oll d))=δ'):jc i f δ=.ok (.nx δ'):=by
 unfold jc
 rw[h]
 simp only[Out.aM]
 rw[e]
theorem mk_ok{c n:Nat}{F:List D->Out (List (Str×D))}{fr:DSt->Out (List D)}{δ:DSt}{ds:List D}{fds:List (Str×D)}(h:fr δ=.ok ds)(hl:ds.length=n)(e:F ds=.ok fds):oMk c n F fr δ=.ok (.obj c fds):=by
 unfold oMk
 rw[h]
 simp only[Out.aM]
 rw[if_pos hl,e]
 rfl
theorem aC{f:DSt->Out D}{r:DSt->Out (List D)}{δ:DSt}{d:D}{ds:List D}(h:f δ=.ok d)(h2:r δ=.ok ds):ao f r δ=.ok (d::ds):=by
 unfold ao
 rw[h]
 simp only[Out.aM]
 rw[h2]
 rfl
theorem GR{i:Nat}{f:DSt->Out D}{δ δ':DSt}{s:Sl}{d:D}(h:δ[i]?=some (some s))(hs:lends s=true)(e:frz i δ=δ')(hf:f δ'=.ok d)(hd:noL d=true):sW i f δ=.ok d:=by
 unfold sW
 rw[h]
 simp only[]
 rw[if_pos hs,e,hf]
 simp only[Out.jr,Out.aM]
 rw[if_pos hd]
theorem Bw{α:Type}(f:α->D):∀xs:List α,(∀x∈xs,noL (f x)=true)->zp (xs.map f)=true
 | [],_=>by simp[zp]
 | x::xs,h=>by
  rw[List.map_cons]
  simp only[zp,Bool.and_eq_true]
  exact⟨h x List.mem_cons_self,Bw f xs λy hy=>h y (List.mem_cons_of_mem _ hy)⟩
theorem cH{n:Nat}{F:List D->Out D}{fr:DSt->Out (List D)}{δ:DSt}{ds:List D}{d:D}(h:fr δ=.ok ds)(hl:ds.length=n)(e:F ds=.ok d):oF n F fr δ=.ok d:=by
 unfold oF
 rw[h]
 simp only[Out.aM]
 rw[if_pos hl,e]
section
variable{c many:Nat}{ns:List (List Nat)}{rows:List (List Dr)}
end
theorem Ju{α β:Type}{t:DSt->Out Bool}{fe:DSt->Out β}(g:α->D)(h:α->Option β):∀(xs:List α)(δ:DSt),(∀x∈xs,t (δ.set 0 (some (.sh (g x))))=.ok (h x).isSome/\∀y,h x=some y->fe (δ.set 0 (some (.sh (g x))))=.ok y)->rW (gN 0) t fe (xs.map g) δ=.ok (xs.filterMap h)
 | [],_,_=>rfl
 | x::xs,δ,k=>by
  have e1:=k x List.mem_cons_self
  have e2:=Ju g h xs (δ.set 0 (some (.sh (g x)))) (λy hy=>by rw[List.set_set];exact k y (List.mem_cons_of_mem _ hy))
  rw[List.map_cons]
  unfold rW
  cases hx:h x with
  | none =>
   rw[hx] at e1
   simp only[gN,Out.cU,Out.aM,Out.jr,e1.1,e2,Option.isSome_none,Bool.false_eq_true,if_false,List.filterMap_cons,hx]
  | some y =>
   have e3:=e1.2 y hx
   rw[hx] at e1
   simp only[gN,Out.cU,Out.aM,Out.jr,e1.1,e2,e3,Option.isSome_some,if_true,List.filterMap_cons,hx]
theorem comp_fm{α β:Type}{cap:List (Option Nat)}{fi:DSt->Out (List D)}{t:DSt->Out Bool}{fe:DSt->Out β}{δ:DSt}(g:α->D)(h:α->Option β)(xs:List α)(e:fi δ=.ok (xs.map g))(hz:xs.length<1000000)(k:∀x∈xs,t ((capD cap δ).set 0 (some (.sh (g x))))=.ok (h x).isSome/\∀y,h x=some y->fe ((capD cap δ).set 0 (some (.sh (g x))))=.ok y):bj cap fi (gN 0) t fe δ=.ok (xs.filterMap h):=by
 unfold bj
 rw[e]
 simp only[Out.aM]
 rw[if_pos (by rw[List.length_map];exact Nat.lt_of_lt_of_le hz (by decide)),Ju g h xs _ k]
section
variable{many acts:Nat}{rows:List (List Dr)}
end
theorem nu{g:D->D->Option D}{fa fb:DSt->Out D}{δ:DSt}{x y z:D}(h1:fa δ=.ok x)(h2:fb δ=.ok y)(e:g x y=some z):o2 g fa fb δ=.ok z:=by
 unfold o2
 rw[h1,Out.aM,h2,Out.aM,e]
 rfl
theorem J9{g:D->Option D}{fa:DSt->Out D}{δ:DSt}{x z:D}(h1:fa δ=.ok x)(e:g x=some z):o1 g fa δ=.ok z:=by
 unfold o1
 rw[h1,Out.aM,e]
 rfl
theorem cT{g:D->D->Option Bool}{fa fb:DSt->Out D}{δ:DSt}{x y:D}{z:Bool}(h1:fa δ=.ok x)(h2:fb δ=.ok y)(e:g x y=some z):o2b g fa fb δ=.ok z:=by
 unfold o2b
 rw[h1,Out.aM,h2,Out.aM,e]
 rfl
theorem uR{f:DSt->Out Bool}{δ:DSt}{b:Bool}(h:f δ=.ok b):bV f δ=.ok (.bl b):=by
 unfold bV
 rw[h]
 rfl
theorem tup2{fa fb:DSt->Out D}{δ:DSt}{a b:D}(h1:fa δ=.ok a)(h2:fb δ=.ok b):dh (ao fa (ao fb aK)) δ=.ok (.tup [a,b]):=by
 unfold dh
 rw[aC h1 (aC h2 rfl)]
 show (if 2<=sizeLine then Out.ok (D.tup [a,b]) else .stuck)=_
 rw[if_pos s2]
noncomputable def yN(f:List (List Dr)):List D:=f.map λr=>D.lst (r.map Dr.d)
theorem qt{t:DSt->Out Bool}{A:DSt->Out Fl}{δ:DSt}{b:Bool}(h:t δ=.ok b):sIf t A dX δ=if b=true then A δ else .ok (.nx δ):=by
 unfold sIf
 rw[h,Out.aM]
 rfl
end K13
namespace K13
open PySem L2 MX DL
theorem pJ{fa fb:DSt->Out D}{δ:DSt}{i j:Int}(h1:fa δ=.ok (.int i))(h2:fb δ=.ok (.int j)):o2 gq fa fb δ=.ok (.int (i+j)):=nu h1 h2 rfl
theorem vL{fa fb:DSt->Out D}{δ:DSt}{i j:Int}(h1:fa δ=.ok (.int i))(h2:fb δ=.ok (.int j)):o2 nZ fa fb δ=.ok (.int (i - j)):=nu h1 h2 rfl
theorem Bv{fa fb:DSt->Out D}{δ:DSt}{i j:Int}(h1:fa δ=.ok (.int i))(h2:fb δ=.ok (.int j))(h:qU i j):o2 qY fa fb δ=.ok (.int (i*j)):=nu h1 h2 (zX h)
theorem fJ{fa fb:DSt->Out D}{δ:DSt}{i j:Int}(h1:fa δ=.ok (.int i))(h2:fb δ=.ok (.int j))(h:0<j):o2 du fa fb δ=.ok (.int (i % j)):=nu h1 h2 (zW h)
theorem pP{fa fb:DSt->Out D}{δ:DSt}{i j:Int}(h1:fa δ=.ok (.int i))(h2:fb δ=.ok (.int j))(h:CDiv i j):o2 eQ fa fb δ=.ok (.int (i / j)):=nu h1 h2 (wk h)
theorem Bc{fa fb:DSt->Out D}{δ:DSt}{i j:Int}(h1:fa δ=.ok (.int i))(h2:fb δ=.ok (.int j)):o2b eqD fa fb δ=.ok (i==j):=cT h1 h2 (Gm i j)
theorem Em{fa fb:DSt->Out D}{δ:DSt}{i j:Int}(h1:fa δ=.ok (.int i))(h2:fb δ=.ok (.int j)):o2b ltD fa fb δ=.ok (decide (i<j)):=cT h1 h2 rfl
theorem gt_ok{fa fb:DSt->Out D}{δ:DSt}{i j:Int}(h1:fa δ=.ok (.int i))(h2:fb δ=.ok (.int j)):o2b gtD fa fb δ=.ok (decide (i>j)):=cT h1 h2 rfl
theorem int_ok{fa:DSt->Out Bool}{δ:DSt}{b:Bool}(h:fa δ=.ok b):o1 intD (bV fa) δ=.ok (.int (if b then 1 else 0)):=J9 (uR h) (GC b)
theorem ix_ok{fa fb:DSt->Out D}{δ:DSt}{ds:List D}{n:Nat}{d:D}(h1:fa δ=.ok (.lst ds))(h2:fb δ=.ok (.int (n:Nat)))(h:ds[n]?=some d):o2 ixD fa fb δ=.ok d:=nu h1 h2 (by rw[J0,pK h])
theorem Cd{t:DSt->Out Bool}{A B:DSt->Out Fl}{δ:DSt}{d:D}(h:t δ=.ok true)(h2:A δ=.ok (.rt d)):((aR (sIf t A dX) B δ).bind iG).aZ=.ok d:=run_rt (by rw[Kv h,h2])
theorem qR{t:DSt->Out Bool}{A B:DSt->Out Fl}{δ:DSt}{r:Out D}(h:t δ=.ok false)(h2:((B δ).bind iG).aZ=r):((aR (sIf t A dX) B δ).bind iG).aZ=r:=aX (δ':=δ) (by rw[qt h];rfl) h2
theorem gR{a b:DSt->Out Bool}{δ:DSt}{x y:Bool}(h1:a δ=.ok x)(h2:x=true->b δ=.ok y):qW a b δ=.ok (x && y):=by
 unfold qW
 rw[h1]
 cases x
 .rfl
 .simp only[Out.aM,if_true,Bool.true_and];exact h2 rfl
theorem BV{a b:DSt->Out Bool}{δ:DSt}{x y:Bool}(h1:a δ=.ok x)(h2:x=false->b δ=.ok y):orT a b δ=.ok (x || y):=by
 unfold orT
 rw[h1]
 cases x
 .simp only[Out.aM,Bool.false_or];exact h2 rfl
 .rfl
theorem wI{a:DSt->Out Bool}{δ:DSt}{x:Bool}(h1:a δ=.ok x):gA a δ=.ok (!x):=by
 unfold gA
 rw[h1]
 rfl
theorem yh{a:DSt->Out D}{δ:DSt}{x:Bool}(h1:a δ=.ok (.bl x)):tst a δ=.ok x:=by
 unfold tst
 rw[h1]
 rfl
theorem tup3{fa fb fc:DSt->Out D}{δ:DSt}{a b c:D}(h1:fa δ=.ok a)(h2:fb δ=.ok b)(h3:fc δ=.ok c):dh (ao fa (ao fb (ao fc aK))) δ=.ok (.tup [a,b,c]):=by
 unfold dh
 rw[aC h1 (aC h2 (aC h3 rfl))]
 rfl
abbrev LET:Option Sl:=some (.sh (.str "abcdefghijklmnopqrstuvwxyz"))
theorem ones_sum(l:List Nat):((l.map λc=>ofL [c]).map (·.length)).sum=l.length:=by
 induction l with
 | nil=>rfl
 | cons c l ih=>simp only[List.map_cons,List.sum_cons,ih,Hb,List.length_cons,List.length_nil];omega
noncomputable def BJ(cell:Int)(at' k j:Nat):Int:=oH cell (4+(j:Int))+(k:Int)*(if ((j:Int)==(at':Int))=true then 1 else 0)
noncomputable def chN(cell:Int)(at' k j:Nat):Nat:=97+(BJ cell at' k j % 26).toNat
noncomputable def nmN(cell:Int)(sz at' k:Nat):List Nat:=(List.range sz).map (chN cell at' k)
theorem Qo(cell:Int){at' k j:Nat}(hk:k<8)(hj:j<8):iB [some (.sh (.int j)),LET,some (.sh (.int cell)),some (.sh (.int k)),some (.sh (.int at'))]=.ok (.str (ofL [chN cell at' k j])):=by
 unfold iB
 have m:=jW cell (4+(j:Int)) (by omega) (by omega)
 have c1:qU (k:Int) (if ((j:Int)==(at':Int))=true then 1 else 0):=uA (by omega) (by omega)
 have n0:0<=BJ cell at' k j % 26:=Int.emod_nonneg _ (by decide)
 have n1:BJ cell at' k j % 26<26:=Int.emod_lt_of_pos _ (by decide)
 refine nu (x:=.str "abcdefghijklmnopqrstuvwxyz") rfl ?_ (abc_at n0 n1)
 unfold BJ
 apply fJ (h:=by decide)
 .apply pJ
  .exact cH (ds:=[.int cell,.int (4+(j:Int))]) (aC rfl (aC rfl rfl)) rfl m
  .apply Bv (h:=c1)
   .rfl
   .exact int_ok (Bc rfl rfl)
 .rfl
noncomputable def stN(cell:Int)(many sz at':Nat)(f:List D)(x6 x7:Option Sl):DSt:=[some (.sh (.int cell)),some (.sh (.int many)),LET,some (.sh (.int sz)),some (.sh (.int at')),some (.ol f),x6,x7]
theorem Qp(cell:Int)(many:Nat){sz at' k:Nat}(hz:sz<=8)(hk:k<8)(f:List D)(hf:f.length<=8)(x7:Option Sl):∃y7,eV (stN cell many sz at' f (some (.sh (.int k))) x7)=.ok (.nx (stN cell many sz at' (f++[.str (ofL (nmN cell sz at' k))]) (some (.sh (.int k))) y7)):=by
 have er:=iD (f:=gv 3) (δ:=stN cell many sz at' f (some (.sh (.int k))) x7) (n:=sz) rfl (by omega)
 have e:=cB (cap:=[none,some 2,some 0,some 6,some 4]) (fe:=iB) (λk:Nat=>D.int k) (λj:Nat=>D.str (ofL [chN cell at' k j])) (List.range sz) er (by simp;omega) (λj hj=>by
  have hj:j<sz:=List.mem_range.mp hj
  exact Qo cell hk (by omega))
 have e2:(List.range sz).map (λj:Nat=>D.str (ofL [chN cell at' k j]))=((nmN cell sz at' k).map λc=>ofL [c]).map D.str:=by
  unfold nmN
  simp only[List.map_map]
  rfl
 rw[e2] at e
 unfold eV
 rw[cM (δ':=stN cell many sz at' f (some (.sh (.int k))) (some (.sh (.lst (((nmN cell sz at' k).map λc=>ofL [c]).map D.str))))) (bA (fZ e) rfl)]
 refine⟨_,Lk (ds:=f) (d:=.str (ofL (nmN cell sz at' k))) rfl ?_ (Nat.lt_of_le_of_lt hf (by decide)) rfl⟩
 unfold oJoin
 show (Out.ok (D.str (Str.ofString ""))).bind _=_
 have z0:(Str.ofString "").length=0:=by decide +kernel
 have nl:(nmN cell sz at' k).length=sz:=by simp[nmN]
 show Out.opt (joinD (Str.ofString "") (.lst (((nmN cell sz at' k).map λc=>ofL [c]).map D.str)))=_
 simp only[joinD,gF,Option.bind_some,Et]
 rw[if_pos (by rw[ones_sum,nl,z0,Nat.mul_zero];omega),join_ones]
 rfl
theorem MK(cell:Int)(many:Nat)(hm:many<=8){sz at':Nat}(hz:sz<=8):
  ∃y6 y7,jC (gN 6) eV ((List.range many).map λk:Nat=>D.int k) (stN cell many sz at' [] none none)=.ok (.nx (stN cell many sz at' (aO ((List.range many).map (nmN cell sz at'))) y6 y7)):=by
 have hh:=eU (body:=eV) (tg:=gN 6) (λk:Nat=>D.int k) (λdone δ=>∃y6 y7,δ=stN cell many sz at' (aO (done.map (nmN cell sz at'))) y6 y7) (List.range many) (stN cell many sz at' [] none none) (by
  rintro k done rest δ e ⟨y6,y7,rfl⟩
  have hk:k<many:=List.mem_range.mp (by rw[e];simp)
  have hd:done.length<=8:=by
   have:=congrArg List.length e
   simp at this
   omega
  obtain⟨z7,q⟩:=Qp cell many (at':=at') hz (k:=k) (by omega) (aO (done.map (nmN cell sz at'))) (by simpa[aO] using hd) y7
  refine⟨stN cell many sz at' (aO (done.map (nmN cell sz at'))) (some (.sh (.int k))) y7,rfl,?_⟩
  rw[q]
  exact⟨_,_,by simp[aO];rfl⟩) ⟨none,none,rfl⟩
 obtain⟨δ',e,y6,y7,rfl⟩:=hh
 exact⟨y6,y7,e⟩
theorem names_ok{cell:Int}{sz at' many:Nat}(hz1:1<=sz)(hz:sz<=8)(ha:at'<sz)(h1:1<=many)(h2:many<=8):Names ((List.range many).map (nmN cell sz at')):=by
 refine⟨λl hl=>?_,by simpa using h1,by simpa using h2,nodup_range λi j ij hj e=>?_⟩
 .obtain⟨k,_,rfl⟩:=List.mem_map.mp hl
  refine⟨by simp[nmN];omega,by simp[nmN];omega,λc hc=>?_⟩
  obtain⟨j,_,rfl⟩:=List.mem_map.mp hc
  unfold chN
  have n0:0<=BJ cell at' k j % 26:=Int.emod_nonneg _ (by decide)
  have n1:BJ cell at' k j % 26<26:=Int.emod_lt_of_pos _ (by decide)
  omega
 .have e1:=congrArg (λl=>l[at']?) e
  simp only[nmN,List.getElem?_map,List.getElem?_range ha,Option.map_some,Option.some.injEq] at e1
  unfold chN at e1
  have n0:0<=BJ cell at' i at' % 26:=Int.emod_nonneg _ (by decide)
  have n1:0<=BJ cell at' j at' % 26:=Int.emod_nonneg _ (by decide)
  have q:BJ cell at' i at' % 26=BJ cell at' j at' % 26:=by omega
  unfold BJ at q
  simp only[beq_self_eq_true,if_true,Int.mul_one] at q
  generalize oH cell (4+(at':Int))=y at q
  omega
theorem F_names(cell:Int)(many:Nat)(h1:1<=many)(h2:many<=8):∃ns,jU [.int cell,.int many]=.ok (.lst (aO ns))/\Names ns/\ns.length=many:=by
 have ma:=jW cell 2 (by decide) (by decide)
 have mb:=jW cell 3 (by decide) (by decide)
 obtain⟨s,es,hs⟩:=jq (oH cell 2) (m:=8) (by decide)
 simp only[Int.cast_ofNat_Int] at es
 obtain⟨a,ea,haa⟩:=jq (oH cell 3) (m:=1+s) (by omega)
 obtain⟨y6,y7,e⟩:=MK cell many h2 (sz:=1+s) (at':=a) (by omega)
 refine⟨_,?_,names_ok (cell:=cell) (sz:=1+s) (at':=a) (by omega) (by omega) haa h1 h2,by simp⟩
 show ((j7 [some (.sh (.int cell)),some (.sh (.int many)),none,none,none,none,none,none]).bind iG).aZ=_
 unfold j7
 have cs:(1:Int)+(s:Int)=((1+s:Nat):Int):=by omega
 have cz:((1+s:Nat):Int)≠0:=by omega
 refine aX (δ':=[some (.sh (.int cell)),some (.sh (.int many)),LET,none,none,none,none,none]) rfl ?_
 refine aX (δ':=[some (.sh (.int cell)),some (.sh (.int many)),LET,some (.sh (.int ((1+s:Nat):Int))),none,none,none,none]) (bA (d:=.int ((1+s:Nat):Int)) (by walk_at "ev: ma es cs") rfl) ?_
 refine aX (δ':=[some (.sh (.int cell)),some (.sh (.int many)),LET,some (.sh (.int ((1+s:Nat):Int))),some (.sh (.int a)),none,none,none]) (bA (d:=.int a) (by have e:=fJ (fa:=oF 2 bc (ao (gv 0) (ao (kc (.int 3)) aK))) (fb:=gv 3) (δ:=[some (.sh (.int cell)),some (.sh (.int many)),LET,some (.sh (.int ((1+s:Nat):Int))),none,none,none,none]) (i:=oH cell 3) (j:=((1+s:Nat):Int)) (cH (aC rfl (aC rfl rfl)) rfl mb) rfl (by omega);rw[ea] at e;exact e) rfl) ?_
 refine aX (δ':=stN cell many (1+s) a [] none none) (wW (d:=[]) (by unfold Ar;walk_at "ev: s0") rfl) ?_
 have rg:=iD (f:=gv 1) (δ:=stN cell many (1+s) a [] none none) (n:=many) rfl (by omega)
 refine aX (δ':=stN cell many (1+s) a (aO ((List.range many).map (nmN cell (1+s) a))) y6 y7) (by unfold dB;rw[rg];exact e) ?_
 rfl
theorem F_many(cell:Int):∃m:Nat,jw [.int cell]=.ok (.int m)/\1<=m/\m<=8:=by
 have ma:=jW cell 0 (by decide) (by decide)
 have mb:=jW cell 1 (by decide) (by decide)
 obtain⟨s,es,hs⟩:=jq (oH cell 0) (m:=8) (by decide)
 obtain⟨u,eu,hu⟩:=jq (oH cell 0) (m:=4) (by decide)
 simp only[Int.cast_ofNat_Int] at es eu
 unfold jw sH
 by_cases h:oH cell 1 % 8=0
 .exact⟨1+s,by walk_at "ev: ma mb h es";simp,by omega,by omega⟩
 .have hb:(oH cell 1 % 8==0)=false:=by simpa using h
  exact⟨1+u,by walk_at "ev: ma mb hb eu";simp,by omega,by omega⟩
def drN(x:Int)(many:Nat)(t:Bool):Dr :=
 if (x % 12==0)=true/\t=true then .torn else if x % 12<4 then .must (x / 12 % (many:Int)).toNat else if x % 12<9 then .may (x / 12 % (many:Int)).toNat else .shut
theorem Lx(x:Int){many:Nat}(h:1<=many)(t:Bool):(drN x many t).ok many t:=by
 have a:=Int.emod_nonneg (x / 12) (show (many:Int)≠0 by omega)
 have b:=Int.emod_lt_of_pos (x / 12) (show (0:Int)<many by omega)
 unfold drN
 split
 .rename_i z;exact z.2
 .split
  .show _<_;omega
  .split
   .show _<_;omega
   .trivial
theorem F_door(x:Int){many:Nat}(h:1<=many)(t:Bool):ju [.int x,.int many,.bl t]=.ok (drN x many t).d:=by
 have a:=Int.emod_nonneg (x / 12) (show (many:Int)≠0 by omega)
 have ht:((x / 12 % (many:Int)).toNat:Int)=x / 12 % (many:Int):=by omega
 show ((m8 [some (.sh (.int x)),some (.sh (.int many)),some (.sh (.bl t)),none]).bind iG).aZ=_
 unfold m8 drN
 refine aX (δ':=[some (.sh (.int x)),some (.sh (.int many)),some (.sh (.bl t)),some (.sh (.int (x % 12)))]) (bA (fJ rfl rfl (by decide)) rfl) ?_
 have e1:qW (o2b eqD (gb 3) (kc (.int 0))) (tst (gb 2)) [some (.sh (.int x)),some (.sh (.int many)),some (.sh (.bl t)),some (.sh (.int (x % 12)))]=.ok ((x % 12==0) && t):=gR (Bc rfl rfl) λ_=>yh rfl
 have e2:o2b ltD (gb 3) (kc (.int 4)) [some (.sh (.int x)),some (.sh (.int many)),some (.sh (.bl t)),some (.sh (.int (x % 12)))]=.ok (decide (x % 12<4)):=Em rfl rfl
 have e3:o2b ltD (gb 3) (kc (.int 9)) [some (.sh (.int x)),some (.sh (.int many)),some (.sh (.bl t)),some (.sh (.int (x % 12)))]=.ok (decide (x % 12<9)):=Em rfl rfl
 have e4:o2 du (o2 eQ (gv 0) (kc (.int 12))) (gv 1) [some (.sh (.int x)),some (.sh (.int many)),some (.sh (.bl t)),some (.sh (.int (x % 12)))]=.ok (.int (x / 12 % (many:Int))):=fJ (pP rfl rfl ⟨by decide,by decide⟩) rfl (by omega)
 by_cases h1:(x % 12==0)=true/\t=true
 .rw[if_pos h1]
  rw[show ((x % 12==0) && t)=true by rw[h1.1,h1.2];rfl] at e1
  exact Cd e1 (wO (tup2 rfl rfl))
 .rw[if_neg h1]
  have b:((x % 12==0) && t)=false:=by
   cases z:(x % 12==0) <;> cases t <;> simp_all
  rw[b] at e1
  refine qR e1 ?_
  by_cases h2:x % 12<4
  .rw[if_pos h2]
   rw[decide_eq_true h2] at e2
   refine Cd e2 (wO ?_)
   rw[tup2 rfl e4,←ht]
   rfl
  .rw[if_neg h2]
   rw[decide_eq_false h2] at e2
   refine qR e2 ?_
   by_cases h3:x % 12<9
   .rw[if_pos h3]
    rw[decide_eq_true h3] at e3
    refine Cd e3 (wO ?_)
    rw[tup2 rfl e4,←ht]
    rfl
   .rw[if_neg h3]
    rw[decide_eq_false h3] at e3
    refine qR e3 (jt (tup2 rfl rfl))
end K13
namespace K13
open PySem L2 MX DL
theorem eq_nilD(xs:List D)(h:dU 50 (.lst xs)=true):eqD (.lst xs) (.lst [])=some xs.isEmpty:=by
 cases xs with
 | nil=>exact oA h
 | cons x l =>
  rw[zO h (by simp[dU,jO])]
  have e:eqB (.lst (x::l)) (.lst [])=false:=by
   have q:∃p ps,toPy (.lst (x::l))=some (.list (p::ps)):=by
    obtain⟨p,e,_,_⟩:=wB (.lst (x::l)) 50 h
    have e':=e
    simp only[toPy,toPyL] at e'
    split at e'
    .cases e'
     exact⟨_,_,e⟩
    .cases e'
   obtain⟨p,ps,q⟩:=q
   unfold eqB
   rw[q]
   show PyData.eqv (.list (p::ps)) (.list [])=false
   simp[PyData.eqv,PyData.eqvAll]
  rw[e]
  rfl
theorem Qk(l:List Int)(n:Nat):dU (n+1) (.lst (l.map .int))=true:=kO n _ l λx _=>by cases n <;> simp[dU]
theorem J1{i:Nat}{f:DSt->Out (List D)}{δ δ':DSt}{s:Sl}{d:List D}(h:δ[i]?=some (some s))(hs:lends s=true)(e:frz i δ=δ')(hf:f δ'=.ok d)(hd:zp d=true):yK i f δ=.ok d:=by
 unfold yK
 rw[h]
 dsimp only
 rw[if_pos hs,e,hf]
 simp only[Out.jr,Out.aM]
 rw[if_pos hd]
theorem yH{fa:DSt->Out D}{δ:DSt}{ds:List D}(h:fa δ=.ok (.lst ds)):o1 dj fa δ=.ok (.int (ds.length:Nat)):=J9 h rfl
theorem len_t{fa:DSt->Out D}{δ:DSt}{ds:List D}(h:fa δ=.ok (.tup ds)):o1 dj fa δ=.ok (.int (ds.length:Nat)):=J9 h rfl
theorem noL_d(x:Dr):noL x.d=true:=by cases x <;> simp[Dr.d,Dr.w,Dr.to,noL,zp]
noncomputable def rowR(so:List Int)(acts:Nat)(t:Bool)(c:Int)(i:Nat):List Dr:=(List.range acts).map λk:Nat=>drN (oH c (20+10*(i:Int)+(k:Int))) so.length t
noncomputable def rLL(f:List (List Dr)):List (List D):=f.map λr=>r.map Dr.d
noncomputable def slR:List (List Dr)->Sl
 | []=>.ol []
 | r::f=>.oll (rLL (r::f))
theorem frz_slR(f:List (List Dr)):frzS (slR f)=.sh (.lst (yN f)):=by
 cases f with
 | nil=>rfl
 | cons r f=>simp[slR,frzS,rLL,yN]
theorem appl_slR{f:List (List Dr)}{r:List Dr}{g:DSt->Out (List D)}{δ δ':DSt}(h:δ[4]?=some (some (slR f)))(hg:g δ=.ok (r.map Dr.d))(hl:f.length<=100)(e:δ.set 4 (some (slR (f++[r])))=δ'):yO 4 g δ=.ok (.nx δ'):=by
 unfold yO
 rw[h]
 cases f with
 | nil =>
  simp only[slR]
  rw[hg,←e]
  rfl
 | cons x f =>
  simp only[slR]
  rw[hg]
  simp only[Out.aM]
  rw[if_pos (by simp only[rLL,List.length_map];exact Nat.lt_of_le_of_lt hl (by decide)),←e]
  simp[slR,rLL]
noncomputable def stR(cells:List Int)(acts:Nat)(t:Bool)(so:List Int)(f:List (List Dr))(x5:Option Sl):DSt:=[some (.sh (.lst (cells.map .int))),some (.sh (.int acts)),some (.sh (.bl t)),some (.sh (.lst (so.map .int))),some (slR f),x5]
theorem row_step(cells:List Int){acts:Nat}(ha:acts<=8)(t:Bool)(so:List Int)(hs:1<=so.length)(f:List (List Dr))(hf:f.length<=12)(c:Int):fM (stR cells acts t so f (some (.sh (.int c))))=.ok (.nx (stR cells acts t so (f++[rowR so acts t c f.length]) (some (.sh (.int c))))):=by
 have er:=iD (f:=gv 1) (δ:=[some (.sh (.lst (cells.map .int))),some (.sh (.int acts)),some (.sh (.bl t)),some (.sh (.lst (so.map .int))),some (.sh (.lst (yN f))),some (.sh (.int c))]) (n:=acts) rfl (by omega)
 have e:=cB (cap:=[none,some 2,some 5,some 3,some 4]) (fe:=jo) (λk:Nat=>D.int k) (λk:Nat=>(drN (oH c (20+10*(f.length:Int)+(k:Int))) so.length t).d) (List.range acts) er (by simp;omega) (λk hk=>by
  have hk:k<acts:=List.mem_range.mp hk
  have m:=jW c (20+10*(f.length:Int)+(k:Int)) (by omega) (by omega)
  have dd:=F_door (oH c (20+10*(f.length:Int)+(k:Int))) hs t
  show jo [some (.sh (.int k)),some (.sh (.bl t)),some (.sh (.int c)),some (.sh (.lst (so.map .int))),some (.sh (.lst (yN f)))]=_
  unfold jo
  refine cH (ds:=[.int (oH c (20+10*(f.length:Int)+(k:Int))),.int so.length,.bl t]) (aC ?_ (aC ?_ rfl)) rfl dd
  .refine cH (ds:=[.int c,.int (20+10*(f.length:Int)+(k:Int))]) (aC rfl (aC ?_ rfl)) rfl m
   have q:o1 dj (gb 4) [some (.sh (.int k)),some (.sh (.bl t)),some (.sh (.int c)),some (.sh (.lst (so.map .int))),some (.sh (.lst (yN f)))]=.ok (.int (f.length:Nat)):=by
    rw[yH (ds:=yN f) rfl];simp[yN]
   apply pJ
   .apply pJ
    .rfl
    .exact Bv rfl q (uA (by decide) (by decide))
   .rfl
  .rw[yH (ds:=so.map .int) rfl];simp)
 unfold fM
 refine appl_slR (f:=f) (r:=rowR so acts t c f.length) rfl (J1 (i:=4) (δ:=stR cells acts t so f (some (.sh (.int c)))) (δ':=[some (.sh (.lst (cells.map .int))),some (.sh (.int acts)),some (.sh (.bl t)),some (.sh (.lst (so.map .int))),some (.sh (.lst (yN f))),some (.sh (.int c))]) (s:=slR f) rfl (by cases f <;> rfl) (by show (stR cells acts t so f (some (.sh (.int c)))).set 4 (some (frzS (slR f)))=_;rw[frz_slR];rfl) ?_ ?_) (by omega) rfl
 .rw[show (rowR so acts t c f.length).map Dr.d=(List.range acts).map λk:Nat=>(drN (oH c (20+10*(f.length:Int)+(k:Int))) so.length t).d by unfold rowR;rw[List.map_map];rfl]
  exact e
 .exact Bw _ _ λx _=>noL_d x
theorem QH(cells:List Int){acts:Nat}(ha:acts<=8)(t:Bool)(so:List Int)(hs:1<=so.length)(hs8:so.length<=12):
  ∃f y5,jC (gN 5) fM (so.map D.int) (stR cells acts t so [] none)=.ok (.nx (stR cells acts t so f y5))/\Rows so.length acts t f:=by
 have hh:=eU (body:=fM) (tg:=gN 5) (λk:Int=>D.int k) (λdone δ=>∃f y5,δ=stR cells acts t so f y5/\f.length=done.length/\∀r∈f,r.length=acts/\∀x∈r,x.ok so.length t) so (stR cells acts t so [] none) (by
  rintro c done rest δ e ⟨f,y5,rfl,hl,hr⟩
  have hd:done.length<=12:=by
   have:=congrArg List.length e
   simp at this
   omega
  refine⟨stR cells acts t so f (some (.sh (.int c))),rfl,?_⟩
  rw[row_step cells ha t so hs f (by omega) c]
  refine⟨_,_,rfl,by simp[hl],λr hrr=>?_⟩
  rcases List.mem_append.mp hrr with z | z
  .exact hr r z
  .rw[List.mem_singleton.mp z]
   refine⟨by simp[rowR],λx hx=>?_⟩
   obtain⟨k,_,rfl⟩:=List.mem_map.mp hx
   exact Lx _ hs t) ⟨[],none,rfl,rfl,by simp⟩
 obtain⟨δ',e,f,y5,rfl,hl,hr⟩:=hh
 exact⟨f,y5,e,⟨hl,hr⟩⟩
theorem oK{A B:DSt->Out Fl}{δ δ':DSt}{r:Out (List (List D))}(h:A δ=.ok (.nx δ'))(k:((B δ').bind Bb).aZ=r):((aR A B δ).bind Bb).aZ=r:=by
 rw[cM h]
 exact k
theorem F_rows1(cells:List Int)(hc:cells.length<=12){acts:Nat}(ha:acts<=8)(t:Bool):∃many rows,mJ [.lst (cells.map .int),.int acts,.bl t]=.ok (rLL rows)/\Rows many acts t rows/\1<=many/\many<=12:=by
 have hso:1<=(cells++(List.replicate (if cells.isEmpty then 1 else 0) 5)).length/\(cells++(List.replicate (if cells.isEmpty then 1 else 0) (5:Int))).length<=12:=by
  cases cells with
  | nil=>simp
  | cons x l=>simp at hc ⊢;omega
 obtain⟨f,y5,e,R⟩:=QH cells ha t (cells++(List.replicate (if cells.isEmpty then 1 else 0) 5)) hso.1 hso.2
 refine⟨_,f,?_,R,hso.1,hso.2⟩
 show ((ni [some (.sh (.lst (cells.map .int))),some (.sh (.int acts)),some (.sh (.bl t)),none,none,none]).bind Bb).aZ=_
 unfold ni
 refine oK (δ':=[some (.sh (.lst (cells.map .int))),some (.sh (.int acts)),some (.sh (.bl t)),some (.sh (.lst ((cells++(List.replicate (if cells.isEmpty then 1 else 0) (5:Int))).map .int))),none,none]) (bA (nu (x:=.lst (cells.map .int)) (y:=.lst ((List.replicate (if cells.isEmpty then 1 else 0) (5:Int)).map .int)) rfl (fZ ?_) ?_) rfl) ?_
 .have q:o1 intD (bV (o2b eqD (gb 0) (sZ aK))) [some (.sh (.lst (cells.map .int))),some (.sh (.int acts)),some (.sh (.bl t)),none,none,none]=.ok (.int (if (cells.map D.int).isEmpty then 1 else 0)):=int_ok (cT (y:=.lst []) rfl rfl (eq_nilD _ (Qk _ 49)))
  unfold repL
  rw[q]
  cases cells with
  | nil=>rfl
  | cons x l=>rfl
 .show (if _ then _ else _)=_
  rw[if_pos (by
   cases cells with
   | nil=>decide
   | cons x l=>simp at hc ⊢;exact Nat.le_trans (show l.length+1<=12 by omega) (by decide)),List.map_append]
 refine oK (δ':=stR cells acts t (cells++(List.replicate (if cells.isEmpty then 1 else 0) 5)) [] none) (wW (d:=[]) (by unfold Ar;walk_at "ev: s0") rfl) ?_
 refine oK (δ':=stR cells acts t (cells++(List.replicate (if cells.isEmpty then 1 else 0) 5)) f y5) ?_ ?_
 .unfold dB
  exact e
 .cases f with
  | nil=>exact absurd R.n (λz=>by have:=hso.1;rw[←z] at this;exact absurd this (by decide))
  | cons r f=>rfl
end K13
namespace K13
open PySem L2 MX DL
theorem ig{p:Key×D}{r:List (Key×D)}{k:Key}(e:p.1=k):d9 (p::r) k=some p.2:=by simp[d9,List.find?_cons,e]
theorem g8{p:Key×D}{r:List (Key×D)}{k:Key}(e:¬p.1=k):d9 (p::r) k=d9 r k:=by simp[d9,List.find?_cons,e]
theorem ww(k:Key):∀d:List (Key×D),zf d k=(d9 d k).isSome
 | []=>rfl
 | p::r=>by
  have ih:=ww k r
  unfold zf at ih ⊢
  rw[List.any_cons]
  by_cases e:p.1=k
  .rw[ig e];simp[e]
  .rw[g8 e,←ih];simp[e]
theorem Eh(k j:Key)(v:D):∀d:List (Key×D),d9 (d.map λkv=>if kv.1=k then (kv.1,v) else kv) j=if j=k then (d9 d j).map λ_=>v else d9 d j
 | []=>by simp[d9]
 | p::r=>by
  have ih:=Eh k j v r
  rw[List.map_cons]
  by_cases e:p.1=k
  .rw[if_pos e]
   by_cases q:p.1=j
   .rw[ig (p:=(p.1,v)) q,ig q,if_pos (q.symm.trans e)];rfl
   .rw[g8 (p:=(p.1,v)) q,g8 q,ih]
  .rw[if_neg e]
   by_cases q:p.1=j
   .rw[ig q,ig q,if_neg (λz=>e (q.trans z))]
   .rw[g8 q,g8 q,ih]
theorem Ei(k j:Key)(v:D):∀d:List (Key×D),d9 (d++[(k,v)]) j=if (d9 d j).isSome then d9 d j else if j=k then some v else none
 | []=>by
  by_cases q:k=j
  .rw[List.nil_append,ig (p:=(k,v)) q];simp[d9,q]
  .rw[List.nil_append,g8 (p:=(k,v)) q,if_neg (λz:j=k=>q z.symm)]
   rfl
 | p::r=>by
  rw[List.cons_append]
  by_cases q:p.1=j
  .rw[ig q,ig q];rfl
  .rw[g8 q,g8 q];exact Ei k j v r
theorem getK_put(d:List (Key×D))(k j:Key)(v:D):d9 (jD d k v) j=if j=k then some v else d9 d j:=by
 unfold jD
 have h:=ww k d
 unfold zf at h
 rw[h]
 split
 .rename_i z
  rw[Eh]
  by_cases q:j=k
  .subst q
   rw[if_pos rfl,if_pos rfl]
   obtain⟨x,hx⟩:=Option.isSome_iff_exists.mp z
   rw[hx];rfl
  .rw[if_neg q,if_neg q]
 .rename_i z
  rw[Ei]
  by_cases q:j=k
  .subst q
   rw[if_neg z,if_pos rfl,if_pos rfl]
  .rw[if_neg q,if_neg q]
   split
   .rfl
   .rename_i y
    cases w:d9 d j with
    | none=>rfl
    | some x=>rw[w] at y;exact absurd rfl y
theorem put_len(d:List (Key×D))(k:Key)(v:D):(jD d k v).length<=d.length+1:=by
 unfold jD
 split
 .simp
 .simp
abbrev Tr:=Int×Int×Int
noncomputable def tD(t:Tr):D:=.tup [.int t.1,.int t.2.1,.int t.2.2]
noncomputable def trs(ts:List Tr):D:=.lst (ts.map tD)
structure Rk(d:List (Key×D))(done:List Tr):Prop where
 get:∀n:Int,(d9 d (.inl n)=none/\∀o∈done,o.1≠n)∨∃m:Int,d9 d (.inl n)=some (.int m)/\∀k,(m<k↔∃o∈done,o.1=n/\o.2.1<k)
 len:d.length<=done.length
theorem Rk.snoc{d:List (Key×D)}{done:List Tr}(R:Rk d done)(t:Tr)(m':Int)(h:∀k,(m'<k↔t.2.1<k∨∃m,d9 d (.inl t.1)=some (.int m)/\m<k)):Rk (jD d (.inl t.1) (.int m')) (done++[t]):=by
 refine⟨λn=>?_,by rw[List.length_append];exact Nat.le_trans (put_len _ _ _) (Nat.succ_le_succ R.len)⟩
 rw[getK_put]
 by_cases e:n=t.1
 .subst e
  refine .inr ⟨m',by rw[if_pos rfl],λk=>?_⟩
  rw[h k]
  constructor
  .rintro (z | ⟨m,z1,z2⟩)
   .exact⟨t,by simp,rfl,z⟩
   .rcases R.get t.1 with⟨y,_⟩| ⟨m2,y1,y2⟩
    .rw[y] at z1;cases z1
    .rw[y1] at z1;cases z1
     obtain⟨o,ho,q⟩:=(y2 k).mp z2
     exact⟨o,by simp[ho],q⟩
  .rintro⟨o,ho,q1,q2⟩
   rcases List.mem_append.mp ho with z | z
   .rcases R.get t.1 with⟨_,y⟩| ⟨m2,y1,y2⟩
    .exact absurd q1 (y o z)
    .exact .inr ⟨m2,y1,(y2 k).mpr ⟨o,z,q1,q2⟩⟩
   .rw[List.mem_singleton.mp z] at q2;exact .inl q2
 .have ne:¬((.inl n:Key)=.inl t.1):=λz=>e (Sum.inl.inj z)
  rw[if_neg ne]
  rcases R.get n with⟨y1,y2⟩| ⟨m,y1,y2⟩
  .exact .inl ⟨y1,λo ho=>by
    rcases List.mem_append.mp ho with z | z
    .exact y2 o z
    .rw[List.mem_singleton.mp z];exact λq=>e q.symm⟩
  .refine .inr ⟨m,y1,λk=>(y2 k).trans ⟨λ⟨o,ho,q⟩=>⟨o,by simp[ho],q⟩,λqq=>?_⟩⟩;obtain⟨o,ho,q1,q2⟩:=qq
   rcases List.mem_append.mp ho with z | z
   .exact⟨o,z,q1,q2⟩
   .rw[List.mem_singleton.mp z] at q1;exact absurd q1.symm e
noncomputable def stT(p rs:D)(d:List (Key×D))(x3 x4 x5:Option Sl):DSt:=[some (.sh p),some (.sh rs),some (.od d),x3,x4,x5]
theorem Ol{i:Nat}{fk fx:DSt->Out D}{δ:DSt}{d:List (Key×D)}{n:Int}{x:D}(h:Ba i δ=some d)(h1:fk δ=.ok (.int n))(h2:fx δ=.ok x):uT i fk fx δ=.ok ((d9 d (.inl n)).getD x):=by
 unfold uT
 rw[h]
 dsimp only
 rw[h1,h2]
 rfl
theorem get1_ok{i:Nat}{fk:DSt->Out D}{δ:DSt}{d:List (Key×D)}{n:Int}(h:Ba i δ=some d)(h1:fk δ=.ok (.int n)):Av i fk δ=.ok ((d9 d (.inl n)).getD .non):=by
 unfold Av
 rw[h]
 dsimp only
 rw[h1]
 rfl
theorem zL{i:Nat}{fv fk:DSt->Out D}{δ:DSt}{d:List (Key×D)}{n:Int}{v:D}(h:δ[i]?=some (some (.od d)))(h1:fv δ=.ok v)(h2:fk δ=.ok (.int n))(hl:d.length<=3000):xY i fv fk δ=.ok (.nx (δ.set i (some (.od (jD d (.inl n) v))))):=by
 unfold xY
 rw[h1]
 simp only[Out.aM]
 rw[h]
 dsimp only
 rw[h2]
 simp only[Out.aM,zj]
 rw[if_pos (Nat.lt_of_le_of_lt hl (by decide))]
theorem tr_step(p rs:D){d:List (Key×D)}{done:List Tr}(R:Rk d done)(hl:done.length<=3000)(t:Tr):∃d',fY (stT p rs d (some (.sh (.int t.1))) (some (.sh (.int t.2.1))) (some (.sh (.int t.2.2))))=.ok (.nx (stT p rs d' (some (.sh (.int t.1))) (some (.sh (.int t.2.1))) (some (.sh (.int t.2.2)))))/\Rk d' (done++[t]):=by
 have hd:d.length<=3000:=Nat.le_trans R.len hl
 have g:=Ol (i:=2) (fk:=gv 3) (fx:=gv 4) (δ:=stT p rs d (some (.sh (.int t.1))) (some (.sh (.int t.2.1))) (some (.sh (.int t.2.2)))) (d:=d) (n:=t.1) (x:=.int t.2.1) rfl rfl rfl
 rcases R.get t.1 with⟨y1,_⟩| ⟨m,y1,_⟩
 .rw[y1] at g
  have q:oC minD (ao (uT 2 (gv 3) (gv 4)) (ao (gv 4) aK)) (stT p rs d (some (.sh (.int t.1))) (some (.sh (.int t.2.1))) (some (.sh (.int t.2.2))))=.ok (.int (if t.2.1<t.2.1 then t.2.1 else t.2.1)):=by
   unfold oC
   rw[aC g (aC (d:=.int t.2.1) rfl rfl)]
   rfl
  rw[ite_self] at q
  refine⟨_,zL rfl q rfl hd,R.snoc t _ λk=>⟨.inl,?_⟩⟩
  rintro (z | ⟨m,z,_⟩)
  .exact z
  .rw[y1] at z;cases z
 .rw[y1] at g
  have q:oC minD (ao (uT 2 (gv 3) (gv 4)) (ao (gv 4) aK)) (stT p rs d (some (.sh (.int t.1))) (some (.sh (.int t.2.1))) (some (.sh (.int t.2.2))))=.ok (.int (if t.2.1<m then t.2.1 else m)):=by
   unfold oC
   rw[aC g (aC (d:=.int t.2.1) rfl rfl)]
   rfl
  refine⟨_,zL rfl q rfl hd,R.snoc t _ λk=>?_⟩
  constructor
  .intro z
   split at z
   .exact .inl z
   .exact .inr ⟨m,y1,z⟩
  .rintro (z | ⟨m2,z1,z2⟩)
   .split <;> omega
   .rw[y1] at z1;cases z1
    split <;> omega
theorem tr_loop(p rs:D)(ts:List Tr)(hl:ts.length<=3000):∃d x3 x4 x5,jC (gT 3 (aQ (gN 3) (aQ (gN 4) (aQ (gN 5) cN)))) fY (ts.map tD) (stT p rs [] none none none)=.ok (.nx (stT p rs d x3 x4 x5))/\Rk d ts:=by
 have hh:=eU (body:=fY) (tg:=gT 3 (aQ (gN 3) (aQ (gN 4) (aQ (gN 5) cN)))) tD (λdone δ=>∃d x3 x4 x5,δ=stT p rs d x3 x4 x5/\Rk d done) ts (stT p rs [] none none none) (by
  rintro t done rest δ e ⟨d,x3,x4,x5,rfl,R⟩
  have hd:done.length<=3000:=by
   have:=congrArg List.length e
   simp at this
   omega
  obtain⟨d',q,R'⟩:=tr_step p rs R hd t
  refine⟨stT p rs d (some (.sh (.int t.1))) (some (.sh (.int t.2.1))) (some (.sh (.int t.2.2))),rfl,?_⟩
  rw[q]
  exact⟨d',_,_,_,rfl,R'⟩) ⟨[],none,none,none,rfl,⟨λn=>.inl ⟨rfl,by simp⟩,Nat.le_refl _⟩⟩
 obtain⟨δ',e,d,x3,x4,x5,rfl,R⟩:=hh
 exact⟨d,x3,x4,x5,e,R⟩
theorem w1t:eqD (.str "must") (.str "torn")=some false:=by decide +kernel
theorem w2t:eqD (.str "may") (.str "torn")=some false:=by decide +kernel
theorem w3t:eqD (.str "shut") (.str "torn")=some false:=by decide +kernel
noncomputable def isT:Dr->Bool
 | .torn=>true
 | _=>false
noncomputable def isM:Dr->Bool
 | .must _=>true
 | _=>false
theorem eqT(x:Dr):eqD (.str x.w) (.str "torn")=some (isT x):=by cases x <;> first | exact w1t | exact w2t | exact w3t | exact q44
theorem eqM(x:Dr):eqD (.str x.w) (.str "must")=some (isM x):=by cases x <;> first | exact q11 | exact q21 | exact q31 | exact q41
noncomputable def rbD(x:Dr)(d:List (Key×D)):D:=match x with
 | .torn=>.int (-1)
 | .must n=>(d9 d (.inl (n:Int))).getD .non
 | _=>.non
theorem Je(x:Dr)(d:List (Key×D)):jg [x.ob,.dK d]=.ok (rbD x d):=by
 show ((jm [some (.sh x.ob),some (.sh (.dK d))]).bind iG).aZ=_
 unfold jm
 have e1:o2b eqD (oM "word" 1 cI (gv 0) aK) (kc (.str "torn")) [some (.sh x.ob),some (.sh (.dK d))]=.ok (isT x):=cT (zG x _ _ rfl) rfl (eqT x)
 have e2:o2b eqD (oM "word" 1 cI (gv 0) aK) (kc (.str "must")) [some (.sh x.ob),some (.sh (.dK d))]=.ok (isM x):=cT (zG x _ _ rfl) rfl (eqM x)
 cases x with
 | torn=>exact Cd e1 rfl
 | must n =>
  refine qR e1 (Cd e2 (wO ?_))
  exact get1_ok rfl (fld_to (.must n) _ _ rfl)
 | may n=>exact qR e1 (qR e2 (jt rfl))
 | shut=>exact qR e1 (qR e2 (jt rfl))
theorem La(r:Int)(many:Nat):fj [.int r,.int many]=.ok (.bl (decide (0<=r) && decide (r<(many:Int)))):=by
 unfold fj uF
 by_cases h0:0<=r
 .by_cases h1:r<(many:Int)
  .walk_at "ev: fX dR my h0 h1"
  .walk_at "ev: fX dR my h0 h1"
 .walk_at "ev: fX dR my h0"
noncomputable def inR(many acts:Nat)(t:Tr):Bool:=decide (0<=t.1) && decide (t.1<(many:Int)) && (decide (0<=t.2.2) && decide (t.2.2<(acts:Int))) && decide (0<=t.2.1)
def drAt(rows:List (List Dr))(t:Tr):Dr:=((rows.getD t.1.toNat []).getD t.2.2.toNat .shut)
noncomputable def leans(ts:List Tr)(rows:List (List Dr))(many acts:Nat)(t:Tr):Bool:=inR many acts t && match drAt rows t with
 | .torn=>true
 | .must n=>ts.any λo=>decide (o.1=(n:Int)) && decide (o.2.1<t.2.1)
 | _=>false
end K13
namespace K13
open PySem L2 MX DL
theorem tix0{fa:DSt->Out D}{δ:DSt}{a:D}{r:List D}(h:fa δ=.ok (.tup (a::r))):o2 ixD fa (kc (.int 0)) δ=.ok a:=nu h rfl (by rw[Bq,atI_0])
theorem tix1{fa:DSt->Out D}{δ:DSt}{a b:D}{r:List D}(h:fa δ=.ok (.tup (a::b::r))):o2 ixD fa (kc (.int 1)) δ=.ok b:=nu h rfl (by rw[Bq,atI_1])
theorem tix2{fa:DSt->Out D}{δ:DSt}{a b c:D}{r:List D}(h:fa δ=.ok (.tup (a::b::c::r))):o2 ixD fa (kc (.int 2)) δ=.ok c:=nu h rfl (by rw[Bq,atI_2])
theorem Mm{fa fb:DSt->Out D}{δ:DSt}{ds:List D}{n:Nat}{d:D}(h1:fa δ=.ok (.tup ds))(h2:fb δ=.ok (.int (n:Nat)))(h:ds[n]?=some d):o2 ixD fa fb δ=.ok d:=nu h1 h2 (by rw[Bq,pK h])
theorem o3_ok{fa fb fc:DSt->Out D}{δ:DSt}{i j k:Int}(h1:fa δ=.ok (.int i))(h2:fb δ=.ok (.int j))(h3:fc δ=.ok (.int k)):o3 leD ltD fa fb fc δ=.ok (decide (i<=j) && decide (j<k)):=by
 unfold o3
 rw[h1,h2,h3]
 by_cases h:i<=j
 .simp only[Out.aM,leD,ltD,cmpI,Out.cU,decide_eq_true h,if_true,Bool.true_and]
 .simp only[Out.aM,leD,cmpI,Out.cU,decide_eq_false h,Bool.false_eq_true,if_false,Bool.false_and]
theorem vW{a b:DSt->Out D}{δ:DSt}{x y:Bool}(h1:a δ=.ok (.bl x))(h2:x=true->b δ=.ok (.bl y)):vf a b δ=.ok (.bl (x && y)):=by
 unfold vf
 rw[h1]
 cases x
 .rfl
 .simp only[Out.aM,asB_b,Out.cU,if_true,Bool.true_and];exact h2 rfl
theorem fld_acts{ns:List (List Nat)}{rows:List (List Dr)}{δ:DSt}{fo:DSt->Out D}(h:fo δ=.ok (plan aH ns rows)):iH "actions" [aH,bU] fo δ=.ok (.tup (aO ns)):=by
 unfold plan at h
 walk_at "ev: h aH"
theorem Af{many:Nat}{ns:List (List Nat)}{rows:List (List Dr)}{δ:DSt}{fo:DSt->Out D}(P:Pl aH many true ns rows)(h:fo δ=.ok (plan aH ns rows)):oM "many" 1 mj fo aK δ=.ok (.int many):=by
 have e:jQ [plan aH ns rows]=.ok (.int many):=by
  show ((j0 [some (.sh (plan aH ns rows))]).bind iG).aZ=_
  unfold j0
  refine jt ?_
  rw[len_t (ds:=rows.map λr=>.tup (r.map Dr.ob)) (oE P rfl),List.length_map,P.R.n]
 unfold plan at h e
 walk_at "ev: h mj aH e"
theorem borne{many:Nat}{ns:List (List Nat)}{rows:List (List Dr)}(P:Pl aH many true ns rows){d:List (Key×D)}{ts:List Tr}(R:Rk d ts)(t:Tr):lq [plan aH ns rows,tD t,.dK d]=.ok (.bl (leans ts rows many ns.length t)):=by
 show ((gZ [some (.sh (plan aH ns rows)),some (.sh (tD t)),some (.sh (.dK d)),none,none,none,none]).bind iG).aZ=_
 unfold gZ
 refine aX (δ':=[some (.sh (plan aH ns rows)),some (.sh (tD t)),some (.sh (.dK d)),some (.sh (.int t.1)),none,none,none]) (bA (tix0 rfl) rfl) ?_
 refine aX (δ':=[some (.sh (plan aH ns rows)),some (.sh (tD t)),some (.sh (.dK d)),some (.sh (.int t.1)),some (.sh (.int t.2.1)),none,none]) (bA (tix1 rfl) rfl) ?_
 refine aX (δ':=[some (.sh (plan aH ns rows)),some (.sh (tD t)),some (.sh (.dK d)),some (.sh (.int t.1)),some (.sh (.int t.2.1)),some (.sh (.int t.2.2)),none]) (bA (tix2 rfl) rfl) ?_
 have e1:orT (gA (tst (oF 2 fj (ao (gv 3) (ao (oM "many" 1 mj (gv 0) aK) aK))))) (orT (gA (o3 leD ltD (kc (.int 0)) (gb 5) (o1 dj (iH "actions" [aH,bU] (gv 0))))) (o2b ltD (gb 4) (kc (.int 0)))) [some (.sh (plan aH ns rows)),some (.sh (tD t)),some (.sh (.dK d)),some (.sh (.int t.1)),some (.sh (.int t.2.1)),some (.sh (.int t.2.2)),none]=.ok (!inR many ns.length t):=by
  have a1:=yh (cH (n:=2) (F:=fj) (fr:=ao (gv 3) (ao (oM "many" 1 mj (gv 0) aK) aK)) (δ:=[some (.sh (plan aH ns rows)),some (.sh (tD t)),some (.sh (.dK d)),some (.sh (.int t.1)),some (.sh (.int t.2.1)),some (.sh (.int t.2.2)),none]) (ds:=[.int t.1,.int many]) (aC rfl (aC (Af P rfl) rfl)) rfl (La t.1 many))
  have a2:o1 dj (iH "actions" [aH,bU] (gv 0)) [some (.sh (plan aH ns rows)),some (.sh (tD t)),some (.sh (.dK d)),some (.sh (.int t.1)),some (.sh (.int t.2.1)),some (.sh (.int t.2.2)),none]=.ok (.int (ns.length:Nat)):=by
   rw[len_t (ds:=aO ns) (fld_acts rfl)];simp[aO]
  have a3:=o3_ok (fa:=kc (.int 0)) (fb:=gb 5) (δ:=[some (.sh (plan aH ns rows)),some (.sh (tD t)),some (.sh (.dK d)),some (.sh (.int t.1)),some (.sh (.int t.2.1)),some (.sh (.int t.2.2)),none]) (i:=0) (j:=t.2.2) rfl rfl a2
  rw[BV (wI a1) λ_=>BV (wI a3) λ_=>Em (i:=t.2.1) (j:=0) rfl rfl]
  unfold inR
  have z:decide (t.2.1<0)=!decide (0<=t.2.1):=by by_cases h:t.2.1<0 <;> simp[h] <;> omega
  rw[z,←Bool.not_and,←Bool.not_and]
  simp only[Bool.and_assoc]
 cases hi:inR many ns.length t with
 | false =>
  rw[hi] at e1
  rw[show leans ts rows many ns.length t=false by unfold leans;rw[hi];rfl]
  exact Cd e1 rfl
 | true =>
  rw[hi] at e1
  refine qR e1 ?_
  have hi':=hi
  unfold inR at hi
  simp only[Bool.and_eq_true,decide_eq_true_eq] at hi
  obtain⟨⟨⟨h1,h2⟩,h3,h4⟩,h5⟩:=hi
  obtain⟨r,x,er,ex,_⟩:=get_ok P.R (i:=t.1.toNat) (a:=t.2.2.toNat) (by omega) (by omega)
  have c1:((t.1.toNat:Nat):Int)=t.1:=by omega
  have c2:((t.2.2.toNat:Nat):Int)=t.2.2:=by omega
  have ed:drAt rows t=x:=by
   unfold drAt
   rw[List.getD_eq_getElem?_getD,List.getD_eq_getElem?_getD,er]
   dsimp only[Option.getD_some]
   rw[ex]
   rfl
  have b1:o2 ixD (o2 ixD (iH "rooms" [aH,bU] (gv 0)) (gv 3)) (gv 5) [some (.sh (plan aH ns rows)),some (.sh (tD t)),some (.sh (.dK d)),some (.sh (.int t.1)),some (.sh (.int t.2.1)),some (.sh (.int t.2.2)),none]=.ok x.ob:=by
   refine Mm (ds:=r.map Dr.ob) (n:=t.2.2.toNat) (Mm (ds:=rows.map λr=>.tup (r.map Dr.ob)) (n:=t.1.toNat) (oE P rfl) (by rw[c1];rfl) ?_) (by rw[c2];rfl) ?_
   .rw[List.getElem?_map,er];rfl
   .rw[List.getElem?_map,ex];rfl
  refine aX (δ':=[some (.sh (plan aH ns rows)),some (.sh (tD t)),some (.sh (.dK d)),some (.sh (.int t.1)),some (.sh (.int t.2.1)),some (.sh (.int t.2.2)),some (.sh (rbD x d))]) (bA (cH (aC b1 (aC rfl rfl)) rfl (Je x d)) rfl) ?_
  refine jt ?_
  unfold leans
  rw[hi',ed]
  cases x with
  | torn =>
   rw[vW (x:=true) (y:=decide ((-1:Int)<t.2.1)) rfl λ_=>uR (Em rfl rfl),decide_eq_true (by omega)]
  | may n=>rfl
  | shut=>rfl
  | must n =>
   dsimp only[rbD]
   rcases R.get (n:Int) with⟨y1,y2⟩| ⟨m,y1,y2⟩
   .rw[y1]
    have z:(ts.any λo=>decide (o.1=(n:Int)) && decide (o.2.1<t.2.1))=false:=by
     rw[List.any_eq_false]
     intro o ho
     simp[y2 o ho]
    rw[z]
    rfl
   .rw[y1]
    have z:(ts.any λo=>decide (o.1=(n:Int)) && decide (o.2.1<t.2.1))=decide (m<t.2.1):=by
     rw[Bool.eq_iff_iff,List.any_eq_true,decide_eq_true_eq,y2]
     simp
    rw[z]
    exact vW (x:=true) rfl λ_=>uR (Em rfl rfl)
theorem F_torn{many:Nat}{ns:List (List Nat)}{rows:List (List Dr)}(P:Pl aH many true ns rows)(ts:List Tr)(hl:ts.length<=3000):fK [plan aH ns rows,trs ts]=.ok (.bl (ts.all (leans ts rows many ns.length))):=by
 obtain⟨d,x3,x4,x5,e,R⟩:=tr_loop (plan aH ns rows) (trs ts) ts hl
 show ((jl [some (.sh (plan aH ns rows)),some (.sh (trs ts)),none,none,none,none]).bind iG).aZ=_
 unfold jl
 refine aX (δ':=stT (plan aH ns rows) (trs ts) [] none none none) rfl ?_
 refine aX (δ':=stT (plan aH ns rows) (trs ts) d x3 x4 x5) (by unfold dB;exact e) ?_
 show ((bG (o1 allD (gG (bj [none,some 0,some 2] (bL (gv 1)) (gN 0) (λ_=>.ok true) dW))) [some (.sh (plan aH ns rows)),some (.sh (trs ts)),some (.sh (.dK d)),x3,x4,x5]).bind iG).aZ=_
 have c:=cB (cap:=[none,some 0,some 2]) (fi:=bL (gv 1)) (fe:=dW) (δ:=[some (.sh (plan aH ns rows)),some (.sh (trs ts)),some (.sh (.dK d)),x3,x4,x5]) tD (λt=>D.bl (leans ts rows many ns.length t)) ts rfl (by omega) (λt _=>by
  show dW [some (.sh (tD t)),some (.sh (plan aH ns rows)),some (.sh (.dK d))]=_
  unfold dW
  exact cH (aC rfl (aC rfl (aC rfl rfl))) rfl (borne P R t))
 exact jt (J9 (fZ c) (Ak _ ts))
end K13
namespace K13
open PySem L2 MX DL
noncomputable def hL(h:List Nat):List D:=h.map λi=>D.int (i:Nat)
noncomputable def hhL(P:List (List Nat)):List D:=P.map λp=>.lst (hL p)
abbrev si(k:Nat):Option Sl:=some (.sh (.int (k:Nat)))
abbrev ss(d:D):Option Sl:=some (.sh d)
theorem Mh(l:List Nat):(hL l).length=l.length:=by simp[hL]
theorem hL_app(l:List Nat)(r:Nat):hL (l++[r])=hL l++[.int (r:Nat)]:=by simp[hL]
theorem app2_ok{i:Nat}{fk fe:DSt->Out D}{δ δ':DSt}{L:List (List Nat)}{j r:Nat}(h1:δ[i]?=some (some (.oll (L.map hL))))(h2:fk δ=.ok (.int (j:Nat)))(h3:fe δ=.ok (.int (r:Nat)))(hj:j<L.length)(hl:(L.getD j []).length<=1000000)(e:δ.set i (some (.oll ((L.set j (L.getD j []++[r])).map hL)))=δ'):Ku i fk fe δ=.ok (.nx δ'):=by
 have hg:(L.map hL).getD j []=hL (L.getD j []):=by
  rw[List.getD_eq_getElem?_getD,List.getD_eq_getElem?_getD,List.getElem?_map,List.getElem?_eq_getElem hj]
  rfl
 unfold Ku
 rw[h1]
 dsimp only
 rw[h2]
 simp only[Out.aM]
 rw[GD (by rw[List.length_map];exact hj)]
 dsimp only
 rw[h3]
 simp only[Out.aM]
 rw[hg,if_pos (by rw[Mh];exact Nat.lt_of_le_of_lt hl (by decide)),←e,List.map_set,hL_app]
theorem JV{α:Type}{L:List α}{j k:Nat}{x d:α}(hj:j<L.length):(L.set j x).getD k d=if k=j then x else L.getD k d:=by
 rw[List.getD_eq_getElem?_getD,List.getD_eq_getElem?_getD]
 by_cases z:k=j
 .subst z;rw[List.getElem?_set_self hj,if_pos rfl];rfl
 .rw[List.getElem?_set_ne (Ne.symm z),if_neg z]
theorem enumL_hh(El:List (List Nat)):fL 0 (hhL El)=El.zipIdx.map λp=>D.tup [.int (p.2:Nat),.lst (hL p.1)]:=by
 unfold hhL
 exact sy (λp=>D.lst (hL p)) El 0
theorem Nu{El:List (List Nat)}{n:Nat}(hn:El.length=n)(hz:n<=2000)(hE:∀l∈El,l.length<=8/\∀t∈l,t<n):
  ∃L:List (List Nat),jX [.lst (hhL El)]=.ok (L.map hL)/\L.length=n/\∀t,t<n->∀r,r∈L.getD t []↔r<n/\t∈El.getD r []:=by
 let st:=λ(L:List (List Nat))(a b c:Option Sl)=>([ss (.lst (hhL El)),some (.oll (L.map hL)),a,b,c]:DSt)
 have inner:∀(l:List Nat)(L:List (List Nat))(r:Nat)(b c:Option Sl)(K:Nat),(∀t∈l,t<n)->L.length=n->(∀t,(L.getD t []).length<=K)->K+l.length<=1000000->∃L' c',jC (gN 4) iz (hL l) (st L (si r) b c)=.ok (.nx (st L' (si r) b c'))/\L'.length=n/\(∀t,(L'.getD t []).length<=K+l.length)/\∀t,t<n->∀s,s∈L'.getD t []↔s∈L.getD t []∨(s=r/\t∈l):=by
  intro l
  induction l with
  | nil=>intro L r b c K _ h1 h2 _;exact⟨L,c,rfl,h1,h2,λt _ s=>by simp⟩
  | cons a l ih =>
   intro L r b c K hl h1 h2 hK
   have ha:=hl a (List.mem_cons_self ..)
   have al:a<L.length:=by rw[h1];exact ha
   rw[List.length_cons] at hK
   obtain⟨L',c',e,q1,q2,q3⟩:=ih (L.set a (L.getD a []++[r])) r b (si a) (K+1) (λt ht=>hl t (List.mem_cons_of_mem _ ht)) (by rw[List.length_set];exact h1) (λt=>by
    rw[JV al]
    split
    .rw[List.length_append,List.length_singleton];have:=h2 a;omega
    .have:=h2 t;omega) (by omega)
   refine⟨L',c',?_,q1,λt=>by have:=q2 t;rw[List.length_cons];omega,λt ht s=>?_⟩
   .have hb:iz (st L (si r) b (si a))=.ok (.nx (st (L.set a (L.getD a []++[r])) (si r) b (si a))):=app2_ok (L:=L) (j:=a) (r:=r) rfl rfl rfl al (by have:=h2 a;omega) rfl
    show jC (gN 4) iz (.int (a:Nat)::hL l) (st L (si r) b c)=_
    unfold jC
    show (Out.opt (some (st L (si r) b (si a)))).bind _=_
    simp only[Out.cU,Out.aM,hb]
    exact e
   .rw[q3 t ht s,JV al]
    by_cases z:t=a
    .subst z
     rw[if_pos rfl,List.mem_append,List.mem_singleton]
     constructor
     .rintro ((h | h) | ⟨h,_⟩)
      .exact .inl h
      .exact .inr ⟨h,List.mem_cons_self ..⟩
      .exact .inr ⟨h,List.mem_cons_self ..⟩
     .rintro (h | ⟨h,_⟩)
      .exact .inl (.inl h)
      .exact .inl (.inr h)
    .rw[if_neg z,List.mem_cons]
     constructor
     .rintro (h | ⟨h,h'⟩)
      .exact .inl h
      .exact .inr ⟨h,.inr h'⟩
     .rintro (h | ⟨h,h' | h'⟩)
      .exact .inl h
      .exact absurd h' z
      .exact .inr ⟨h,h'⟩
 have zat:∀{p:List Nat×Nat}{done rest:List (List Nat×Nat)},El.zipIdx=done++p::rest->p.2=done.length/\El[p.2]?=some p.1:=fun{p done rest} e=>by
  have h1:El.zipIdx[done.length]?=some p:=by rw[e];simp
  rw[List.getElem?_zipIdx] at h1
  cases h2:El[done.length]? with
  | none=>rw[h2] at h1;cases h1
  | some l=>rw[h2] at h1;simp at h1;subst h1;exact⟨rfl,h2⟩
 obtain⟨δ',e,L,a,b,c,rfl,l1,l2,l3⟩:=eU (body:=eY) (tg:=gT 2 (aQ (gN 2) (aQ (gN 3) cN))) (λp:List Nat×Nat=>D.tup [.int (p.2:Nat),.lst (hL p.1)]) (λdone δ=>∃L a b c,δ=st L a b c/\L.length=n/\(∀t,(L.getD t []).length<=done.length*8)/\∀t,t<n->∀r,r∈L.getD t []↔r<done.length/\t∈El.getD r []) El.zipIdx (st (List.replicate n []) none none none) (by
  rintro p done rest δ e ⟨L,a,b,c,rfl,l1,l2,l3⟩
  obtain⟨p1,p2⟩:=zat e
  have pm:=List.mem_of_getElem? p2
  have dl:done.length<=n:=by
   have:done.length<=El.zipIdx.length:=by rw[e];simp
   rw[List.length_zipIdx,hn] at this
   exact this
  have dm:done.length*8<=2000*8:=Nat.mul_le_mul (by omega) (Nat.le_refl _)
  obtain⟨L',c',e2,q1,q2,q3⟩:=inner p.1 L p.2 (ss (.lst (hL p.1))) c (done.length*8) (hE _ pm).2 l1 l2 (by have:=(hE _ pm).1;omega)
  refine⟨st L (si p.2) (ss (.lst (hL p.1))) c,rfl,?_⟩
  have hb:eY (st L (si p.2) (ss (.lst (hL p.1))) c)=.ok (.nx (st L' (si p.2) (ss (.lst (hL p.1))) c')):=by
   unfold eY dB
   rw[show bL (gv 3) (st L (si p.2) (ss (.lst (hL p.1))) c)=.ok (hL p.1) from rfl]
   exact e2
  rw[hb]
  refine⟨L',_,_,_,rfl,q1,λt=>by have:=q2 t;have:=(hE _ pm).1;rw[List.length_append,List.length_singleton,Nat.add_mul];omega,λt ht r=>?_⟩
  rw[q3 t ht r,l3 t ht r,List.length_append,List.length_singleton]
  have gp:El.getD p.2 []=p.1:=by rw[List.getD_eq_getElem?_getD,p2];rfl
  constructor
  .rintro (⟨h1,h2⟩| ⟨rfl,h2⟩)
   .exact⟨by omega,h2⟩
   .exact⟨by omega,by rw[gp];exact h2⟩
  .rintro⟨h1,h2⟩
   by_cases z:r=p.2
   .subst z;rw[gp] at h2;exact .inr ⟨rfl,h2⟩
   .exact .inl ⟨by omega,h2⟩) ⟨_,none,none,none,rfl,by simp,λt=>by
    rw[List.getD_eq_getElem?_getD,List.getElem?_replicate]
    split <;> simp,λt ht r=>by
    rw[List.getD_eq_getElem?_getD,List.getElem?_replicate,if_pos ht]
    simp⟩
 rw[List.length_zipIdx,hn] at l2 l3
 refine⟨L,?_,l1,l3⟩
 show ((j9 [ss (.lst (hhL El)),none,none,none,none]).bind Bb).aZ=_
 unfold j9
 have c1:bj [none] (bL (gv 0)) (gN 0) (λ_=>.ok true) sU [ss (.lst (hhL El)),none,none,none,none]=.ok ((List.replicate n []).map hL):=by
  refine(cB (λp:List Nat=>D.lst (hL p)) (λ_=>([]:List D)) El rfl (by omega) λp _=>rfl).trans ?_
  congr 1
  rw[List.map_replicate,←hn]
  exact List.map_const' ..
 rw[cM (Cm c1 (show _=st (List.replicate n []) none none none from rfl))]
 rw[cM (show dB (enum (gv 0)) (gT 2 (aQ (gN 2) (aQ (gN 3) cN))) eY (st (List.replicate n []) none none none)=.ok (.nx (st L a b c)) by
  unfold dB
  rw[show enum (gv 0) (st (List.replicate n []) none none none)=.ok (fL 0 (hhL El)) from rfl,enumL_hh]
  exact e)]
 rfl
end K13
namespace K13
open PySem L2 MX DL RT
theorem anyD_map{α:Type}(f:α->Bool)(l:List α):anyD (.lst (l.map λx=>.bl (f x)))=some (.bl (l.any f)):=by
 have e:l.map (λx=>D.bl (f x))=(l.map f).map D.bl:=by simp
 unfold anyD
 rw[e]
 simp only[gF,Option.bind_some,Al,Option.map_some]
 rw[List.any_map]
 rfl
noncomputable def mE(r:List Dr):List Nat:=r.filterMap λx=>match x with
 | .must n=>some n
 | _=>none
theorem mE_mem{r:List Dr}{m:Nat}:m∈mE r↔Dr.must m∈r:=by
 unfold mE
 rw[List.mem_filterMap]
 constructor
 .rintro⟨x,hx,e⟩
  cases x <;> simp at e
  subst e;exact hx
 .intro h;exact⟨_,h,rfl⟩
theorem G7(r:List Dr)(h:r.length<=8):rG [.tup (r.map Dr.ob)]=.ok (hL (mE r)):=by
 show ((nj [ss (.tup (r.map Dr.ob))]).bind endF).aZ=_
 have c1:bj [none] (bL (gv 0)) (gN 0) (o2b eqD (oM "word" 1 cI (gv 0) aK) (kc (.str "must"))) uU [ss (.tup (r.map Dr.ob))]=.ok (hL (mE r)):=by
  unfold hL mE
  rw[List.map_filterMap]
  refine comp_fm Dr.ob _ r rfl (by omega) λx _=>⟨?_,λy hy=>?_⟩
  .refine(cT (zG x _ _ rfl) rfl (eqM x)).trans ?_
   cases x <;> rfl
  .refine(fld_to x _ _ rfl).trans ?_
   cases x <;> simp at hy
   subst hy;rfl
 unfold nj Ci
 rw[c1]
 rfl
theorem JX(r:List Dr)(h:r.length<=8):lg [.tup (r.map Dr.ob)]=.ok (.bl (r.any isT)):=by
 show ((pY [ss (.tup (r.map Dr.ob))]).bind iG).aZ=_
 have c1:bj [none] (bL (gv 0)) (gN 0) (λ_=>.ok true) wD [ss (.tup (r.map Dr.ob))]=.ok (r.map λx=>D.bl (isT x)):=cB Dr.ob _ r rfl (by omega) λx _=>uR (cT (zG x _ _ rfl) rfl (eqT x))
 unfold pY
 rw[wO (J9 (fZ c1) (anyD_map isT r))]
 rfl
noncomputable def dN(l:List Pr):List (Key×D):=l.map λp=>(.inl (p.1:Int),.int (p.2:Nat))
theorem Aw(l:List Pr)(n:Nat):d9 (dN l) (.inl (n:Int))=(rk l n).map λv:Nat=>D.int v:=by
 unfold rk
 induction l with
 | nil=>rfl
 | cons p l ih =>
  unfold dN at ih ⊢
  rw[List.map_cons,List.find?_cons]
  by_cases e:p.1=n
  .rw[ig (p:=((.inl (p.1:Int),.int (p.2:Nat)):Key×D)) (by rw[e]),decide_eq_true e]
   rfl
  .rw[g8 (p:=((.inl (p.1:Int),.int (p.2:Nat)):Key×D)) (λz=>e (by have:=Sum.inl.inj z;omega)),ih,decide_eq_false e]
theorem dN_has(l:List Pr)(n:Nat):zf (dN l) (.inl (n:Int))=decide (n∈fs l):=by
 rw[ww,Aw]
 by_cases h:n∈fs l
 .rw[decide_eq_true h]
  cases e:rk l n with
  | none =>
   obtain⟨r,hr⟩:=sX.mp h
   unfold rk at e
   rw[Option.map_eq_none_iff,List.find?_eq_none] at e
   exact absurd (e _ hr) (by simp)
  | some v=>rfl
 .rw[rk_none h,decide_eq_false h];rfl
theorem Lr{l:List Pr}{n:Nat}(h:n∉fs l)(r:Nat):jD (dN l) (.inl (n:Int)) (.int (r:Nat))=dN (l++[(n,r)]):=by
 have:=dN_has l n
 unfold zf at this
 unfold jD
 rw[this,if_neg (by simp[h])]
 simp[dN]
theorem dn_ok{i:Nat}{f:DSt->Out D}{δ:DSt}{kvs:List (Key×D)}{n:Int}(h:δ[i]?=some (some (.od kvs)))(hf:f δ=.ok (.int n)):Ax i f δ=.ok (!zf kvs (.inl n)):=by
 unfold Ax
 rw[hf]
 simp only[Out.aM,zj]
 rw[h]
theorem Kl:∀l:List Pr,qi (l.map λp=>D.tup [.int (p.1:Nat),.int (p.2:Nat)])=some (dN l)
 | []=>rfl
 | p::l=>by
  rw[List.map_cons]
  unfold qi
  rw[Kl l]
  rfl
theorem merge_dN(l:List Pr)(nd:(fs l).Nodup):vD (dN l)=dN l:=by
 have go:∀(b a:List Pr),(fs (a++b)).Nodup->(dN b).foldl (λacc p=>jD acc p.1 p.2) (dN a)=dN (a++b):=by
  intro b
  induction b with
  | nil=>intro a _;simp[dN]
  | cons p b ih =>
   intro a h
   show (dN b).foldl _ (jD (dN a) (.inl (p.1:Int)) (.int (p.2:Nat)))=_
   have nin:p.1∉fs a:=λz=>by
    unfold fs at h z
    rw[List.map_append,List.nodup_append] at h
    exact h.2.2 _ z _ (List.mem_map.mpr ⟨p,List.mem_cons_self ..,rfl⟩) rfl
   rw[Lr nin,ih _ (by simpa using h)]
   simp
 exact go l [] (by simpa using nd)
def Tn(rows:List (List Dr))(n:Nat):Prop:=∃row,rows[n]?=some row/\row.any isT=true
def Ms(rows:List (List Dr))(n m:Nat):Prop:=∃row,rows[n]?=some row/\Dr.must m∈row
noncomputable def stQ(p S:D)(l:List Pr)(i:Nat)(x5 x6:Option Sl):DSt:=[ss p,ss S,some (.ol (hL (fs l))),some (.od (dN l)),si i,x5,x6]
theorem vq(l:List Pr):(fs l).length=l.length:=by simp[fs]
theorem Cr(p S:D)(i r many:Nat)(hm:many<=2000):∀(s:List Nat)(l:List Pr)(x6:Option Sl),(∀n∈s,n<many)->(∀q∈l,q.1<many)->(fs l).Nodup->∃y6,jC (gN 6) dM (hL s) (stQ p S l i (si (r+1)) x6)=.ok (.nx (stQ p S (stp r l s) i (si (r+1)) y6))
 | [],l,x6,_,_,_=>⟨x6,rfl⟩
 | n::s,l,x6,hs,hl,nd=>by
  have hn:=hs n (List.mem_cons_self ..)
  have len:l.length<=many:=by
   have:=lR many (fs l) nd λx hx=>by
    obtain⟨r,h⟩:=sX.mp hx
    exact hl _ h
   rwa [vq] at this
  have t:=dn_ok (i:=3) (f:=gv 6) (δ:=stQ p S l i (si (r+1)) (si n)) (kvs:=dN l) (n:=(n:Int)) rfl rfl
  rw[dN_has] at t
  unfold stp
  show ∃y6,jC (gN 6) dM (.int (n:Nat)::hL s) (stQ p S l i (si (r+1)) x6)=_
  unfold jC
  show ∃y6,(Out.opt (some (stQ p S l i (si (r+1)) (si n)))).bind _=_
  by_cases h:n∈fs l
  .rw[decide_eq_true h] at t
   obtain⟨y6,e⟩:=Cr p S i r many hm s l (si n) (λk hk=>hs k (List.mem_cons_of_mem _ hk)) hl nd
   have hb:dM (stQ p S l i (si (r+1)) (si n))=.ok (.nx (stQ p S l i (si (r+1)) (si n))):=by
    unfold dM
    rw[qt t]
    rfl
   rw[if_pos h]
   simp only[Out.cU,Out.aM,hb]
   exact⟨y6,e⟩
  .rw[decide_eq_false h] at t
   have nd':(fs (l++[(n,r+1)])).Nodup:=by
    unfold fs at h ⊢
    rw[List.map_append,List.nodup_append]
    refine⟨nd,by simp,λu hu v hv=>?_⟩
    simp at hv
    subst hv
    intro z;subst z;exact h hu
   obtain⟨y6,e⟩:=Cr p S i r many hm s (l++[(n,r+1)]) (si n) (λk hk=>hs k (List.mem_cons_of_mem _ hk)) (λq hq=>by
    rcases List.mem_append.mp hq with hq | hq
    .exact hl q hq
    .rw[List.mem_singleton.mp hq];exact hn) nd'
   have hb:dM (stQ p S l i (si (r+1)) (si n))=.ok (.nx (stQ p S (l++[(n,r+1)]) i (si (r+1)) (si n))):=by
    unfold dM
    rw[Kv t]
    rw[cM (zL (i:=3) (fv:=gv 5) (fk:=gv 6) (δ:=stQ p S l i (si (r+1)) (si n)) (d:=dN l) (n:=(n:Int)) (v:=.int ((r+1:Nat):Int)) rfl rfl rfl (by simp[dN];omega)),Lr h]
    refine Lk (ds:=hL (fs l)) (d:=.int (n:Nat)) rfl rfl (by rw[Mh,vq];exact Nat.lt_of_le_of_lt (show l.length<=2000 by omega) (by decide)) ?_
    have q:hL (fs (l++[(n,r+1)]))=hL (fs l)++[.int (n:Nat)]:=by simp[fs,hL]
    unfold stQ
    rw[q]
    rfl
   rw[if_neg h]
   simp only[Out.cU,Out.aM,hb]
   exact⟨y6,e⟩
theorem dIx_ok{i:Nat}{fk:DSt->Out D}{δ:DSt}{kvs:List (Key×D)}{d v:D}{key:Key}(h:Ba i δ=some kvs)(h2:fk δ=.ok d)(hk:zj d=some key)(e:d9 kvs key=some v):dIx i fk δ=.ok v:=by
 unfold dIx
 rw[h]
 dsimp only
 rw[h2]
 simp only[Out.aM,hk,e]
 rfl
theorem turn_ok{p:D}{S:List (List Nat)}{l:List Pr}{i m r many:Nat}(hm:many<=2000)(h:l[i]?=some (m,r))(hS:m<S.length)(hs:∀n∈S.getD m [],n<many)(hl:∀q∈l,q.1<many)(nd:(fs l).Nodup)(x5 x6:Option Sl):
  ∃y5 y6,kj (stQ p (.lst (hhL S)) l i x5 x6)=.ok (.nx (stQ p (.lst (hhL S)) (stp r l (S.getD m [])) (i+1) y5 y6)):=by
 obtain⟨y6,e⟩:=Cr p (.lst (hhL S)) i r many hm (S.getD m []) l x6 hs hl nd
 have gm:(hL (fs l))[i]?=some (.int (m:Nat)):=by simp[hL,fs,h]
 have q1:∀y5,o2 ixD (gvo 2) (gv 4) (stQ p (.lst (hhL S)) l i y5 x6)=.ok (.int (m:Nat)):=λy5=>ix_ok (ds:=hL (fs l)) (n:=i) rfl rfl gm
 have q2:dIx 3 (o2 ixD (gvo 2) (gv 4)) (stQ p (.lst (hhL S)) l i x5 x6)=.ok (.int (r:Nat)):=dIx_ok (kvs:=dN l) rfl (q1 _) rfl (by
  show d9 (dN l) (.inl (m:Int))=_
  rw[Aw,qQ nd (List.mem_of_getElem? h)];rfl)
 have s1:bz 5 (o2 gq (dIx 3 (o2 ixD (gvo 2) (gv 4))) (kc (.int 1))) (stQ p (.lst (hhL S)) l i x5 x6)=.ok (.nx (stQ p (.lst (hhL S)) l i (si (r+1)) x6)):=bA (pJ q2 rfl) rfl
 have q3:bL (o2 ixD (gvo 1) (o2 ixD (gvo 2) (gv 4))) (stQ p (.lst (hhL S)) l i (si (r+1)) x6)=.ok (hL (S.getD m [])):=by
  have:o2 ixD (gvo 1) (o2 ixD (gvo 2) (gv 4)) (stQ p (.lst (hhL S)) l i (si (r+1)) x6)=.ok (.lst (hL (S.getD m []))):=ix_ok (ds:=hhL S) (n:=m) rfl (q1 _) (by
   unfold hhL
   rw[List.getElem?_map,List.getD_eq_getElem?_getD,List.getElem?_eq_getElem hS]
   rfl)
  unfold bL
  rw[this]
  rfl
 refine⟨si (r+1),y6,?_⟩
 unfold kj
 rw[cM s1,cM (δ':=stQ p (.lst (hhL S)) (stp r l (S.getD m [])) i (si (r+1)) y6) (by unfold dB;rw[q3];exact e)]
 rfl
theorem Kq{c many:Nat}{t:Bool}{ns:List (List Nat)}{rows:List (List Dr)}(P:Pl c many t ns rows):∃l,lu [plan c ns rows]=.ok (.dK (dN l))/\BF (Tn rows) (Ms rows) many l l.length:=by
 have hn:=P.R.n
 have hi:=P.hi
 have rl:∀r∈rows,r.length<=8:=λr hr=>by rw[(P.R.row r hr).1];exact P.N.hi
 have hMs:∀n m,Ms rows n m->n<many/\m<many:=λn m qq=>by
  obtain⟨row,e,h⟩:=qq;refine⟨by rw[←hn];exact(List.getElem?_eq_some_iff.mp e).1,?_⟩
  exact(P.R.row row (List.mem_of_getElem? e)).2 _ h
 have hEl:(rows.map mE).length=many:=by rw[List.length_map,hn]
 obtain⟨S,eS,lS,mS⟩:=Nu hEl hi λl hl=>by
  obtain⟨r,hr,rfl⟩:=List.mem_map.mp hl
  exact⟨Nat.le_trans (List.length_filterMap_le ..) (rl r hr),λm hm=>(P.R.row r hr).2 _ (mE_mem.mp hm)⟩
 have mS':∀m,m<many->∀n,n∈S.getD m []↔n<many/\Ms rows n m:=λm hm n=>by
  rw[mS m hm n]
  refine and_congr_right λhn'=>?_
  have ln:n<rows.length:=by rw[hn];exact hn'
  rw[List.getD_eq_getElem?_getD,List.getElem?_map,List.getElem?_eq_getElem ln]
  show m∈mE rows[n]↔_
  rw[mE_mem]
  exact⟨λh=>⟨_,List.getElem?_eq_getElem ln,h⟩,λ⟨row,e,h⟩=>by rw[List.getElem?_eq_getElem ln] at e;cases e;exact h⟩
 let O:=(rows.zipIdx.filter λp=>p.1.any isT).map (·.2)
 have Om:∀n,n∈O↔Tn rows n:=λn=>by
  constructor
  .intro h
   obtain⟨p,hp,rfl⟩:=List.mem_map.mp h
   rw[List.mem_filter] at hp
   exact⟨p.1,List.mk_mem_zipIdx_iff_getElem?.mp (by exact hp.1),hp.2⟩
  .rintro⟨row,e,h⟩
   exact List.mem_map.mpr ⟨(row,n),List.mem_filter.mpr ⟨List.mk_mem_zipIdx_iff_getElem?.mpr e,h⟩,rfl⟩
 have On:O.Nodup:=by
  refine List.Nodup.sublist (List.Sublist.map _ List.filter_sublist) ?_
  rw[List.zipIdx_map_snd]
  exact List.nodup_range'
 let l0:List Pr:=O.map λn=>(n,0)
 have f0:fs l0=O:=by
  show (O.map λn=>((n,0):Pr)).map (·.1)=O
  rw[List.map_map]
  exact List.map_id O
 have B0:BF (Tn rows) (Ms rows) many l0 0:=by
  refine⟨by rw[f0];exact On,λp hp=>?_,Nat.zero_le _,λn=>?_,λn r h=>?_,?_,λj _ _ hj=>absurd hj (Nat.not_lt_zero _),λm r _ p hp=>?_⟩
  .obtain⟨n,h,rfl⟩:=List.mem_map.mp hp
   obtain⟨row,e,_⟩:=(Om n).mp h
   rw[←hn];exact(List.getElem?_eq_some_iff.mp e).1
  .rw[←Om n]
   exact⟨λh=>List.mem_map.mpr ⟨n,h,rfl⟩,λh=>by obtain⟨k,hk,e⟩:=List.mem_map.mp h;cases e;exact hk⟩
  .obtain⟨k,hk,e⟩:=List.mem_map.mp h
   simp at e
  .exact List.pairwise_map.mpr (List.Pairwise.imp (λ_=>Nat.le_refl _) On)
  .obtain⟨k,hk,rfl⟩:=List.mem_map.mp hp
   exact Nat.zero_le _
 have lO:O.length<=many:=by have:=B0.len;simpa[l0] using this
 have rO:∀δ:DSt,gv 0 δ=.ok (plan c ns rows)->iH "rooms" [aH,bU] (gv 0) δ=.ok (.tup (rows.map λr=>.tup (r.map Dr.ob))):=λδ h=>oE P h
 let s0:DSt:=[ss (plan c ns rows),none,none,none,none,none,none]
 let s1:DSt:=[ss (plan c ns rows),ss (.lst (hhL S)),none,none,none,none,none]
 let s2:DSt:=[ss (plan c ns rows),ss (.lst (hhL S)),some (.ol (hL O)),none,none,none,none]
 let s3:DSt:=[ss (plan c ns rows),ss (.lst (hhL S)),some (.ol (hL O)),some (.od (dN l0)),none,none,none]
 have e1:bz 1 (oF 1 (dOff jX) (ao (gG (bj [none] (bL (iH "rooms" [aH,bU] (gv 0))) (gN 0) (λ_=>.ok true) qb)) aK)) s0=.ok (.nx s1):=by
  have q0:bL (iH "rooms" [aH,bU] (gv 0)) s0=.ok (rows.map λr=>.tup (r.map Dr.ob)):=by unfold bL;rw[rO s0 rfl];rfl
  have q1:bj [none] (bL (iH "rooms" [aH,bU] (gv 0))) (gN 0) (λ_=>.ok true) qb s0=.ok (hhL (rows.map mE)):=by
   refine(cB (λr:List Dr=>D.tup (r.map Dr.ob)) (λr=>D.lst (hL (mE r))) rows q0 (by omega) λr hr=>?_).trans (by simp[hhL])
   refine cH (ds:=[.tup (r.map Dr.ob)]) (aC rfl rfl) rfl ?_
   unfold dOf
   rw[G7 r (rl r hr)]
   rfl
  refine bA (cH (ds:=[.lst (hhL (rows.map mE))]) (d:=.lst (hhL S)) (aC (fZ q1) rfl) rfl ?_) rfl
  unfold dOff
  rw[eS]
  simp[hhL]
 have e2:lV 2 (bj [none,none] (JH (iH "rooms" [aH,bU] (gv 0))) (gT 2 (aQ (gN 0) (aQ (gN 1) cN))) (tst (oF 1 lg (ao (gv 1) aK))) qe) s1=.ok (.nx s2):=by
  refine wW (d:=hL O) ?_ rfl
  unfold bj
  have q0:JH (iH "rooms" [aH,bU] (gv 0)) s1=.ok (rows.zipIdx.map λp=>D.tup [.int (p.2:Nat),.tup (p.1.map Dr.ob)]):=by
   unfold JH
   rw[rO s1 rfl]
   show Out.ok (fL 0 (rows.map λr=>.tup (r.map Dr.ob)))=_
   rw[sy (λr:List Dr=>D.tup (r.map Dr.ob)) rows 0]
  rw[q0]
  simp only[Out.aM]
  rw[if_pos (by rw[List.length_map,List.length_zipIdx,hn];exact Nat.lt_of_le_of_lt hi (by decide))]
  have q1:=Ge (t:=tst (oF 1 lg (ao (gv 1) aK))) (fe:=qe) (λp:List Dr×Nat=>D.int (p.2:Nat)) (λp=>D.tup (p.1.map Dr.ob)) (λp=>p.1.any isT) (λp=>D.int (p.2:Nat)) [] rows.zipIdx none none (λp hp=>yh (cH (ds:=[.tup (p.1.map Dr.ob)]) (aC rfl rfl) rfl (JX p.1 (rl _ (List.fst_mem_of_mem_zipIdx hp))))) λp hp _=>rfl
  refine Eq.trans q1 ?_
  simp[hL,O]
 have e3:z9 3 (ao (gG (yK 2 (bj [none] (bL (gv 2)) (gN 0) (λ_=>.ok true) km))) aK) s2=.ok (.nx s3):=by
  have q1:bj [none] (bL (gv 2)) (gN 0) (λ_=>.ok true) km [ss (plan c ns rows),ss (.lst (hhL S)),ss (.lst (hL O)),none,none,none,none]=.ok (l0.map λp=>D.tup [.int (p.1:Nat),.int (p.2:Nat)]):=by
   refine(cB (λn:Nat=>D.int n) (λn:Nat=>D.tup [.int n,.int 0]) O rfl (by omega) λn _=>tup2 rfl rfl).trans ?_
   simp[l0]
  have q2:yK 2 (bj [none] (bL (gv 2)) (gN 0) (λ_=>.ok true) km) s2=.ok (l0.map λp=>D.tup [.int (p.1:Nat),.int (p.2:Nat)]):=J1 (s:=.ol (hL O)) rfl rfl rfl q1 (Bw _ _ λp _=>by simp[noL,zp])
  unfold z9
  rw[aC (fZ q2) rfl]
  simp only[Out.aM]
  have q3:dofP [.lst (l0.map λp=>D.tup [.int (p.1:Nat),.int (p.2:Nat)])]=some (dN l0):=by
   show ((qi _).map vD)=_
   rw[Kl,Option.map_some,merge_dN l0 (by rw[f0];exact On)]
  rw[q3]
  rfl
 have e4:bz 4 (kc (.int 0)) s3=.ok (.nx (stQ (plan c ns rows) (.lst (hhL S)) l0 0 none none)):=by
  refine bA (d:=.int ((0:Nat):Int)) rfl ?_
  unfold stQ
  rw[f0]
  rfl
 have loop:W (whD kE kj 3000 (stQ (plan c ns rows) (.lst (hhL S)) l0 0 none none)) λfl=>∃l x5 x6,fl=.nx (stQ (plan c ns rows) (.lst (hhL S)) l l.length x5 x6)/\BF (Tn rows) (Ms rows) many l l.length:=by
  refine W_wh (λm δ=>∃l i x5 x6,δ=stQ (plan c ns rows) (.lst (hhL S)) l i x5 x6/\BF (Tn rows) (Ms rows) many l i/\m+i=many) (λm δ hI=>?_) many 3000 _ ⟨l0,0,none,none,rfl,B0,rfl⟩ (by omega)
  obtain⟨l,i,x5,x6,rfl,B,hmi⟩:=hI
  have il:=B.il
  have tt:kE (stQ (plan c ns rows) (.lst (hhL S)) l i x5 x6)=.ok (decide ((i:Int)<(l.length:Nat))):=by
   unfold kE
   refine Em rfl ?_
   rw[yH (ds:=hL (fs l)) rfl,Mh,vq]
  refine W_of tt ?_
  by_cases q:i<l.length
  .rw[if_pos (by simpa using q)]
   obtain⟨p,hp⟩:∃p,l[i]?=some p:=⟨_,List.getElem?_eq_getElem q⟩
   have lm:p.1<many:=B.lt p (List.mem_of_getElem? hp)
   obtain⟨y5,y6,e⟩:=turn_ok (p:=plan c ns rows) (S:=S) (m:=p.1) (r:=p.2) hi hp (by rw[lS];exact lm) (λn h=>((mS' _ lm n).mp h).1) B.lt B.nd x5 x6
   refine W_of e ?_
   have B':=B.next (m:=p.1) (r:=p.2) hp (mS' _ lm) λn h=>(hMs n _ h).1
   have:=B.len
   exact⟨m - 1,by omega,_,_,_,_,rfl,B',by omega⟩
  .rw[if_neg (by simpa using q)]
   obtain rfl:i=l.length:=by omega
   exact⟨l,x5,x6,rfl,B⟩
 obtain⟨fl,ef,l,x5,x6,rfl,B⟩:=W_get loop
 refine⟨l,?_,B⟩
 show ((p6 s0).bind iG).aZ=_
 unfold p6
 rw[cM e1,cM e2,cM e3,cM e4,cM (δ':=stQ (plan c ns rows) (.lst (hhL S)) l l.length x5 x6) (by unfold Nm;exact ef)]
 rfl
end K13
namespace K13
open PySem L2 MX DL RT
noncomputable def bO(ρ:Nat->Option Nat):Dr->Option Int
 | .torn=>some (-1)
 | .must n=>(ρ n).map λv:Nat=>(v:Int)
 | _=>none
theorem Kg(l:List Pr):∀row:List Dr,tG (row.map λx=>rbD x (dN l))=some (row.map (bO (rk l)))
 | []=>rfl
 | x::row=>by
  have ih:=Kg l row
  rw[List.map_cons,List.map_cons]
  cases x with
  | torn=>show (tG (row.map λx=>rbD x (dN l))).map _=_;rw[ih];rfl
  | may n=>show (tG (row.map λx=>rbD x (dN l))).map _=_;rw[ih];rfl
  | shut=>show (tG (row.map λx=>rbD x (dN l))).map _=_;rw[ih];rfl
  | must n =>
   have e:rbD (.must n) (dN l)=((rk l n).map λv:Nat=>D.int v).getD .non:=by
    show (d9 (dN l) (.inl (n:Int))).getD .non=_
    rw[Aw]
   rw[e]
   have e2:bO (rk l) (.must n)=(rk l n).map λv:Nat=>(v:Int):=rfl
   rw[e2]
   cases rk l n with
   | none=>show (tG (row.map λx=>rbD x (dN l))).map _=_;rw[ih];rfl
   | some v=>show (tG (row.map λx=>rbD x (dN l))).map _=_;rw[ih];rfl
theorem O8{row:List Dr}(h:row.length<=8){l:List Pr}{r j:Nat}(hj:gY ((r:Int) - 1) (row.map (bO (rk l))) 0=some j):nG [.tup (row.map Dr.ob),.dK (dN l),.int (r:Nat)]=.ok (.int (j:Nat)):=by
 show ((jn [ss (.tup (row.map Dr.ob)),ss (.dK (dN l)),si r,none]).bind iG).aZ=_
 have c1:bj [none,some 1] (bL (gv 0)) (gN 0) (λ_=>.ok true) qP [ss (.tup (row.map Dr.ob)),ss (.dK (dN l)),si r,none]=.ok (row.map λx=>rbD x (dN l)):=cB Dr.ob _ row rfl (by omega) λx _=>cH (ds:=[x.ob,.dK (dN l)]) (aC rfl (aC rfl rfl)) rfl (Je x (dN l))
 unfold jn
 refine aX (δ':=[ss (.tup (row.map Dr.ob)),ss (.dK (dN l)),si r,ss (.lst (row.map λx=>rbD x (dN l)))]) (bA (fZ c1) rfl) (jt ?_)
 have q:o2 nZ (gv 2) (kc (.int 1)) [ss (.tup (row.map Dr.ob)),ss (.dK (dN l)),si r,ss (.lst (row.map λx=>rbD x (dN l)))]=.ok (.int ((r:Int) - 1)):=vL rfl rfl
 unfold oIdxN
 rw[show gv 3 [ss (.tup (row.map Dr.ob)),ss (.dK (dN l)),si r,ss (.lst (row.map λx=>rbD x (dN l)))]=.ok (.lst (row.map λx=>rbD x (dN l))) from rfl]
 simp only[Out.aM]
 rw[if_pos (show isLst (.lst (row.map λx=>rbD x (dN l)))=true from rfl),q]
 simp only[Out.aM,idxN,gF,Option.bind_some]
 rw[Kg,Option.bind_some,hj]
 rfl
theorem sortQ_eq{qs xs:List (Int×Int)}(ok:OkS qs)(pm:xs.Perm qs)(pw:xs.Pairwise λa b=>gr a<gr b):wX qs=xs:=by
 refine(List.Perm.eq_of_pairwise (le:=λx y=>gr x<=gr y) (λx y hx hy h1 h2=>?_) (pw.imp λh=>Int.le_of_lt h) ?_ (pm.trans (List.mergeSort_perm ..).symm)).symm
 .have b1:=ok.bd x (pm.mem_iff.mp hx)
  have b2:=ok.bd y ((List.mergeSort_perm ..).mem_iff.mp hy)
  have e:gr x=gr y:=Int.le_antisymm h1 h2
  unfold gr at e
  exact Prod.ext (by omega) (by omega)
 .have:=List.pairwise_mergeSort (le:=λx y=>decide (gr x<=gr y)) (λx y z h1 h2=>by simp at h1 h2 ⊢;omega) (λx y=>by simp;omega) qs
  exact this.imp λh=>by simpa using h
abbrev T3:=Nat×Nat×Nat
def tN(t:T3):Tr:=((t.1:Int),(t.2.1:Int),(t.2.2:Int))
noncomputable def kN(t:T3):Nat:=t.2.1*4096+t.1
structure Due(rows:List (List Dr))(many:Nat)(ρ:Nat->Option Nat)(due:List T3):Prop where
 di:Dist (Tn rows) (Ms rows) ρ
 a:∀t∈due,ρ t.1=some t.2.1/\∃row,rows[t.1]?=some row/\gY ((t.2.1:Int) - 1) (row.map (bO ρ)) 0=some t.2.2
 b:∀n r,ρ n=some r->∃j,(n,r,j)∈due
 o:due.Pairwise λx y=>kN x<kN y
 f:many<64∨∀n m r,ρ n=some r->ρ m=some r->n=m
theorem Kh:∀l:List Pr,qj ((dN l).map itmF)=some (l.map λp=>((p.2:Int),(p.1:Int)))
 | []=>rfl
 | p::l=>by
  show (qj ((dN l).map itmF)).map _=_
  rw[Kh l]
  rfl
theorem ut{c many:Nat}{t:Bool}{ns:List (List Nat)}{rows:List (List Dr)}(P:Pl c many t ns rows){ρ:Nat->Option Nat}{due:List T3}(U:Due rows many ρ due):gk [plan c ns rows]=.ok (due.map λx=>tD (tN x)):=by
 have hn:=P.R.n
 have hi:=P.hi
 have rl:∀r∈rows,r.length<=8:=λr hr=>by rw[(P.R.row r hr).1];exact P.N.hi
 obtain⟨l,e,B⟩:=Kq P
 have hMs:∀n m,Ms rows n m->n<many:=λn m ⟨row,e,h⟩=>by rw[←hn];exact(List.getElem?_eq_some_iff.mp e).1
 have eρ:rk l=ρ:=(B.dist hMs).eq U.di
 have len:=B.len
 have key:∀p:Pr,gr ((p.2:Int),(p.1:Int))=((p.2*4096+p.1:Nat):Int):=λp=>by unfold gr;simp
 have inj:∀p∈l,∀q∈l,p.1=q.1->p=q:=λp hp q hq z=>by
  have h1:=qQ B.nd (show (p.1,p.2)∈l from hp)
  have h2:=qQ B.nd (show (q.1,q.2)∈l from hq)
  rw[z,h2] at h1
  cases h1':p.2
  all_goals exact Prod.ext z (Option.some.inj h1).symm
 have ok:OkS (l.map λp=>((p.2:Int),(p.1:Int))):=by
  have pw:∀i j (hi:i<l.length) (hj:j<l.length),i<j->l[i].1≠l[j].1:=λi j hi hj ij=>by
   have:=List.pairwise_iff_getElem.mp B.nd i j (by rw[vq];exact hi) (by rw[vq];exact hj) ij
   simpa[fs] using this
  refine⟨λq hq=>?_,?_,?_,by rw[List.length_map];exact Nat.le_trans (show l.length<=2000 by omega) (by decide)⟩
  .obtain⟨p,hp,rfl⟩:=List.mem_map.mp hq
   have:=B.lt p hp
   dsimp only
   omega
  .rw[List.map_map]
   refine List.pairwise_map.mpr (List.pairwise_iff_getElem.mpr λi j h1 h2 ij=>?_)
   have z:=pw i j h1 h2 ij
   have b1:=B.lt _ (List.getElem_mem h1)
   have b2:=B.lt _ (List.getElem_mem h2)
   show gr _≠gr _
   rw[key,key]
   omega
  .rcases U.f with f | f
   .exact .inl (by rw[List.length_map];omega)
   .refine .inr ?_
    rw[List.map_map]
    refine List.pairwise_map.mpr (List.pairwise_iff_getElem.mpr λi j h1 h2 ij=>?_)
    have z:=pw i j h1 h2 ij
    have b1:=B.lt _ (List.getElem_mem h1)
    have m1:=List.pairwise_iff_getElem.mp B.mono i j h1 h2 ij
    have ne:l[i].2≠l[j].2:=λq=>z (f _ _ l[i].2 (by rw[←eρ];exact qQ B.nd (List.getElem_mem h1)) (by rw[←eρ,q];exact qQ B.nd (List.getElem_mem h2)))
    show gr _<gr _
    rw[key,key]
    omega
 have so:wX (l.map λp=>((p.2:Int),(p.1:Int)))=due.map λx=>((x.2.1:Int),(x.1:Int)):=by
  have pw:(due.map λx=>((x.2.1:Int),(x.1:Int))).Pairwise λa b=>gr a<gr b:=by
   refine List.pairwise_map.mpr (U.o.imp fun{x y} h=>?_)
   have h:x.2.1*4096+x.1<y.2.1*4096+y.1:=h
   unfold gr
   dsimp only
   omega
  refine sortQ_eq ok ((List.perm_ext_iff_of_nodup (pw.imp λh z=>by rw[z] at h;exact Int.lt_irrefl _ h) ?_).mpr λq=>?_) pw
  .have:=ok.nd
   exact(List.pairwise_map.mp this).imp λh z=>h (by rw[z])
  .rw[List.mem_map,List.mem_map]
   constructor
   .rintro⟨x,hx,rfl⟩
    have h:=(U.a x hx).1
    rw[←eρ] at h
    exact⟨_,tH h,rfl⟩
   .rintro⟨p,hp,rfl⟩
    have h:=qQ B.nd (show (p.1,p.2)∈l from hp)
    rw[eρ] at h
    obtain⟨j,hj⟩:=U.b _ _ h
    exact⟨_,hj,rfl⟩
 show ((p7 [ss (plan c ns rows),none,none]).bind endF).aZ=_
 unfold p7
 have s1:bz 1 (oF 1 lu (ao (gv 0) aK)) [ss (plan c ns rows),none,none]=.ok (.nx [ss (plan c ns rows),ss (.dK (dN l)),none]):=bA (cH (ds:=[plan c ns rows]) (aC rfl rfl) rfl e) rfl
 have it:xR 1 [ss (plan c ns rows),ss (.dK (dN l)),none]=.ok (.lst ((dN l).map itmF)):=by
  unfold xR
  rw[show Ba 1 [ss (plan c ns rows),ss (.dK (dN l)),none]=some (dN l) from rfl]
  dsimp only
  rw[if_pos (by simp[dN];exact Nat.lt_of_le_of_lt (show l.length<=2000 by omega) (by decide))]
 have s2:bz 2 (oC (uO Cp) (ao (xR 1) aK)) [ss (plan c ns rows),ss (.dK (dN l)),none]=.ok (.nx [ss (plan c ns rows),ss (.dK (dN l)),ss (.lst (due.map λx=>D.tup [.int (x.2.1:Nat),.int (x.1:Nat)]))]):=by
  refine bA (d:=.lst (due.map λx=>D.tup [.int (x.2.1:Nat),.int (x.1:Nat)])) ?_ rfl
  unfold oC
  rw[aC it rfl]
  simp only[Out.aM]
  show Out.opt (Cp (.lst ((dN l).map itmF)))=_
  unfold Cp
  simp only[gF,Option.bind_some]
  rw[Kh,Option.bind_some,if_pos ok,so,List.map_map]
  rfl
 rw[cM s1,cM s2]
 unfold Ci
 have c2:bj [none,none,some 1,some 0] (bL (gv 2)) (gT 2 (aQ (gN 0) (aQ (gN 1) cN))) (λ_=>.ok true) qd [ss (plan c ns rows),ss (.dK (dN l)),ss (.lst (due.map λx=>D.tup [.int (x.2.1:Nat),.int (x.1:Nat)]))]=.ok (due.map λx=>tD (tN x)):=by
  unfold bj
  rw[show bL (gv 2) [ss (plan c ns rows),ss (.dK (dN l)),ss (.lst (due.map λx=>D.tup [.int (x.2.1:Nat),.int (x.1:Nat)]))]=.ok (due.map λx=>D.tup [.int (x.2.1:Nat),.int (x.1:Nat)]) from rfl]
  simp only[Out.aM]
  have dl:due.length<=many:=by
   have e1:=congrArg List.length so
   have e2:(wX (l.map λp=>((p.2:Int),(p.1:Int)))).length=l.length:=by unfold wX;simp
   rw[e2,List.length_map] at e1
   omega
  rw[if_pos (by rw[List.length_map];exact Nat.lt_of_le_of_lt (show due.length<=2000 by omega) (by decide))]
  have q:=Ge (t:=λ_=>.ok true) (fe:=qd) (λx:T3=>D.int (x.2.1:Nat)) (λx=>D.int (x.1:Nat)) (λ_=>true) (λx=>tD (tN x)) [ss (.dK (dN l)),ss (plan c ns rows)] due none none (λ_ _=>rfl) λx hx _=>by
   obtain⟨h1,row,h2,h3⟩:=U.a x hx
   rw[←eρ] at h3
   have a:=O8 (rl row (List.mem_of_getElem? h2)) h3
   refine tup3 rfl rfl (cH (ds:=[.tup (row.map Dr.ob),.dK (dN l),.int (x.2.1:Nat)]) (aC (Mm (ds:=rows.map λr=>.tup (r.map Dr.ob)) (n:=x.1) (oE P rfl) rfl (by rw[List.getElem?_map,h2];rfl)) (aC rfl (aC rfl rfl))) rfl a)
  refine Eq.trans q ?_
  rw[List.filter_eq_self.mpr λ_ _=>rfl]
 rw[c2]
 rfl
end K13
namespace K13
open PySem L2 MX DL RT
theorem vy{i:Int}{α:Type}{f g:α->Option Int}:∀(xs:List α)(k:Nat),(∀x∈xs,f x=some i↔g x=some i)->gY i (xs.map f) k=gY i (xs.map g) k
 | [],_,_=>rfl
 | x::xs,k,h=>by
  rw[List.map_cons,List.map_cons]
  unfold gY
  have e:=h x (List.mem_cons_self ..)
  rw[vy xs (k+1) λy hy=>h y (List.mem_cons_of_mem _ hy)]
  by_cases z:f x=some i
  .rw[if_pos z,if_pos (e.mp z)]
  .rw[if_neg z,if_neg (λq=>z (e.mpr q))]
theorem Oi{i:Int}:∀(l:List (Option Int))(k:Nat),some i∈l->∃j,gY i l k=some j
 | x::l,k,h=>by
  unfold gY
  by_cases z:x=some i
  .rw[if_pos z];exact⟨_,rfl⟩
  .rw[if_neg z]
   rcases List.mem_cons.mp h with q | q
   .exact absurd q.symm z
   .exact Oi l (k+1) q
def pr(t:T3):Pr:=(t.1,t.2.1)
noncomputable def frs(rows:List (List Dr))(ρ:Nat->Option Nat)(r:Nat)(is:List Nat):List T3:=is.filterMap λi=>if (ρ i).isSome then none else (gY ((r:Int) - 1) ((rows.getD i []).map (bO ρ)) 0).map λj=>(i,r,j)
noncomputable def rnd(rows:List (List Dr))(many:Nat):Nat->List T3
 | 0=>[]
 | r+1=>rnd rows many r++frs rows (rk ((rnd rows many r).map pr)) r (List.range many)
theorem Oe{rows:List (List Dr)}{ρ:Nat->Option Nat}{r:Nat}{is:List Nat}{t:T3}:t∈frs rows ρ r is↔t.1∈is/\t.2.1=r/\ρ t.1=none/\gY ((r:Int) - 1) ((rows.getD t.1 []).map (bO ρ)) 0=some t.2.2:=by
 unfold frs
 rw[List.mem_filterMap]
 constructor
 .rintro⟨i,hi,e⟩
  split at e
  .cases e
  .rename_i z
   obtain⟨j,hj,rfl⟩:=Option.map_eq_some_iff.mp e
   exact⟨hi,rfl,by simpa using z,hj⟩
 .rintro⟨h1,h2,h3,h4⟩
  refine⟨t.1,h1,?_⟩
  rw[h3,if_neg (by simp),h4,←h2]
  rfl
theorem Og(rows:List (List Dr))(ρ:Nat->Option Nat)(r:Nat):∀is:List Nat,((frs rows ρ r is).map (·.1)).Sublist is
 | []=>by simp[frs]
 | i::is=>by
  have ih:=Og rows ρ r is
  unfold frs at ih ⊢
  rw[List.filterMap_cons]
  cases e:(if (ρ i).isSome=true then none else (gY ((r:Int) - 1) ((rows.getD i []).map (bO ρ)) 0).map λj=>((i,r,j):T3)) with
  | none=>exact ih.cons _
  | some t =>
   have:t.1=i:=by
    split at e
    .cases e
    .obtain⟨j,_,rfl⟩:=Option.map_eq_some_iff.mp e;rfl
   dsimp only
   rw[List.map_cons,this]
   exact ih.cons₂ _
structure Rn(rows:List (List Dr))(many r:Nat)(l:List T3):Prop where
 nd:(fs (l.map pr)).Nodup
 lt:∀t∈l,t.1<many/\t.2.1<r
 ok:∀t∈l,gY ((t.2.1:Int) - 1) ((rows.getD t.1 []).map (bO (rk (l.map pr)))) 0=some t.2.2
 full:∀n k,n<many->k<r->∀x∈rows.getD n [],bO (rk (l.map pr)) x=some ((k:Int) - 1)->∃v,v<=k/\rk (l.map pr) n=some v
 o:l.Pairwise λx y=>kN x<kN y
theorem HH{a b:List Pr}{n:Nat}:rk (a++b) n=(rk a n).or (rk b n):=by
 unfold rk
 rw[List.find?_append]
 cases a.find? λp=>decide (p.1=n) <;> rfl
theorem rk_ge{l:List Pr}{r n:Nat}(h:∀p∈l,p.2=r){v:Nat}(e:rk l n=some v):v=r:=h _ (tH e)
theorem Ca(rows:List (List Dr)){many:Nat}(hm:many<=4000):∀r,Rn rows many r (rnd rows many r)
 | 0=>⟨by simp[rnd,fs],by simp[rnd],by simp[rnd],λn k _ h=>by omega,by simp[rnd]⟩
 | r+1=>by
  have I:=Ca rows hm r
  show Rn rows many (r+1) (rnd rows many r++frs rows (rk ((rnd rows many r).map pr)) r (List.range many))
  generalize rnd rows many r=l at I ⊢
  have mem:=@Oe rows (rk (l.map pr)) r (List.range many)
  have sub:=Og rows (rk (l.map pr)) r (List.range many)
  generalize frs rows (rk (l.map pr)) r (List.range many)=f at mem sub ⊢
  have fr:∀p∈f.map pr,p.2=r:=λp hp=>by
   obtain⟨t,ht,rfl⟩:=List.mem_map.mp hp
   exact(mem.mp ht).2.1
  have old:∀n v,v<r->(rk ((l++f).map pr) n=some v↔rk (l.map pr) n=some v):=λn v hv=>by
   rw[List.map_append,HH]
   cases e:rk (l.map pr) n with
   | some u=>simp
   | none =>
    simp only[Option.none_or]
    exact⟨λh=>by have:=rk_ge fr h;omega,λh=>nomatch h⟩
  have bo:∀(x:Dr)(k:Nat),k<=r->(bO (rk ((l++f).map pr)) x=some ((k:Int) - 1)↔bO (rk (l.map pr)) x=some ((k:Int) - 1)):=λx k hk=>by
   cases x with
   | must m =>
    show (rk ((l++f).map pr) m).map (λv:Nat=>(v:Int))=some ((k:Int) - 1)↔(rk (l.map pr) m).map (λv:Nat=>(v:Int))=some ((k:Int) - 1)
    rw[Option.map_eq_some_iff,Option.map_eq_some_iff]
    constructor
    .rintro⟨v,h1,h2⟩;exact⟨v,(old m v (by omega)).mp h1,h2⟩
    .rintro⟨v,h1,h2⟩;exact⟨v,(old m v (by omega)).mpr h1,h2⟩
   | _=>exact Iff.rfl
  have fnd:(f.map (·.1)).Nodup:=List.Nodup.sublist sub List.nodup_range
  refine⟨?_,λt ht=>?_,λt ht=>?_,λn k hn hk x hx hb=>?_,?_⟩
  .unfold fs
   rw[List.map_append,List.map_append,List.nodup_append]
   refine⟨I.nd,by rw[List.map_map];exact fnd,λa ha b hb e=>?_⟩
   subst e
   obtain⟨v,hv⟩:=sX.mp ha
   obtain⟨p,hp,rfl⟩:=List.mem_map.mp hb
   obtain⟨t,ht,rfl⟩:=List.mem_map.mp hp
   have h1:=(mem.mp ht).2.2.1
   have h2:=qQ I.nd hv
   rw[show (pr t).1=t.1 from rfl] at h2
   rw[h1] at h2
   cases h2
  .rcases List.mem_append.mp ht with ht | ht
   .have:=I.lt t ht;omega
   .have:=mem.mp ht
    exact⟨List.mem_range.mp this.1,by omega⟩
  .rcases List.mem_append.mp ht with ht | ht
   .have h:=I.ok t ht
    have b:=I.lt t ht
    rw[vy _ _ λx _=>bo x t.2.1 (by omega)]
    exact h
   .have h:=mem.mp ht
    rw[h.2.1,vy _ _ λx _=>bo x r (Nat.le_refl _)]
    exact h.2.2.2
  .rw[bo x k (by omega)] at hb
   by_cases z:k<r
   .obtain⟨v,h1,h2⟩:=I.full n k hn z x hx hb
    refine⟨v,h1,?_⟩
    rw[List.map_append,HH,h2]
    rfl
   .obtain rfl:k=r:=by omega
    cases e:rk (l.map pr) n with
    | some v =>
     refine⟨v,?_,by rw[List.map_append,HH,e];rfl⟩
     obtain⟨t,ht,q⟩:=List.mem_map.mp (tH e)
     have:=(I.lt t ht).2
     have:t.2.1=v:=congrArg Prod.snd q
     omega
    | none =>
     obtain⟨j,hj⟩:=Oi ((rows.getD n []).map (bO (rk (l.map pr)))) 0 (List.mem_map.mpr ⟨x,hx,hb⟩)
     have ht:((n,k,j):T3)∈f:=mem.mpr ⟨List.mem_range.mpr hn,rfl,e,hj⟩
     refine⟨k,Nat.le_refl _,?_⟩
     rw[List.map_append,HH,e,Option.none_or]
     exact qQ (by unfold fs;rw[List.map_map];exact fnd) (List.mem_map.mpr ⟨_,ht,rfl⟩)
  .rw[List.pairwise_append]
   refine⟨I.o,?_,λa ha b hb=>?_⟩
   .have s:(f.map (·.1)).Pairwise (·<·):=List.Pairwise.sublist sub List.pairwise_lt_range
    refine List.pairwise_iff_getElem.mpr λi j hi hj ij=>?_
    have h1:=(mem.mp (List.getElem_mem hi)).2.1
    have h2:=(mem.mp (List.getElem_mem hj)).2.1
    have:=List.pairwise_iff_getElem.mp s i j (by simpa using hi) (by simpa using hj) ij
    rw[List.getElem_map,List.getElem_map] at this
    unfold kN
    omega
   .have h1:=I.lt a ha
    have h2:=(mem.mp hb).2.1
    unfold kN
    omega
theorem rk_all{l:List Pr}{T:Nat->Prop}{M:Nat->Nat->Prop}(st:∀n r,rk l n=some (r+1)->∃m,M n m/\rk l m=some r):∀(v n:Nat),rk l n=some v->∀u,u<=v->∃m,rk l m=some u
 | 0,n,h,u,hu=>⟨n,by rw[h,show u=0 by omega]⟩
 | v+1,n,h,u,hu=>by
  by_cases z:u=v+1
  .exact⟨n,by rw[h,z]⟩
  .obtain⟨m,_,hm⟩:=st n v h
   exact rk_all (T:=T) st v m hm u (by omega)
theorem due_ok{rows:List (List Dr)}{many:Nat}(hn:rows.length=many)(hm:many<64):Due rows many (rk ((rnd rows many (many+1)).map pr)) (rnd rows many (many+1)):=by
 have I:=Ca rows (show many<=4000 by omega) (many+1)
 generalize rnd rows many (many+1)=l at I ⊢
 have gd:∀{n:Nat}{row:List Dr},rows[n]?=some row->rows.getD n []=row:=fun{n row} e=>by rw[List.getD_eq_getElem?_getD,e];rfl
 have lr:∀n r,rk (l.map pr) n=some r->∃t∈l,t.1=n/\t.2.1=r:=λn r h=>by
  obtain⟨t,ht,e⟩:=List.mem_map.mp (tH h)
  exact⟨t,ht,congrArg Prod.fst e,congrArg Prod.snd e⟩
 have rw':∀n,n<many->∃row,rows[n]?=some row:=λn h=>⟨_,List.getElem?_eq_getElem (by omega)⟩
 have wit:∀t∈l,∃row x,rows[t.1]?=some row/\x∈row/\bO (rk (l.map pr)) x=some ((t.2.1:Int) - 1):=λt ht=>by
  obtain⟨row,er⟩:=rw' t.1 (I.lt t ht).1
  have h:=(uD (I.ok t ht)).2.1
  rw[gd er,List.getElem?_map] at h
  obtain⟨x,hx,e⟩:=Option.map_eq_some_iff.mp h
  exact⟨row,x,er,List.mem_of_getElem? hx,e⟩
 have st:∀n r,rk (l.map pr) n=some (r+1)->∃m,Ms rows n m/\rk (l.map pr) m=some r:=λn r h=>by
  obtain⟨t,ht,rfl,e⟩:=lr n _ h
  obtain⟨row,x,er,hx,q⟩:=wit t ht
  rw[e] at q
  cases x with
  | must m =>
   obtain⟨v,hv,e2⟩:=Option.map_eq_some_iff.mp q
   exact⟨m,⟨row,er,hx⟩,by rw[hv,show v=r by omega]⟩
  | torn=>have:=Option.some.inj q;omega
  | may m=>cases q
  | shut=>cases q
 have small:∀n v,rk (l.map pr) n=some v->v<many:=λn v h=>by
  refine Nat.lt_of_not_le λle=>?_
  have al:=λu (hu:u<=many)=>rk_all (T:=λ_=>True) st v n h u (by omega)
  have ch:∀k,k<=many+1->∃o:List Nat,o.length=k/\o.Nodup/\∀x∈o,x<many/\∃u,u<k/\rk (l.map pr) x=some u:=by
   intro k
   induction k with
   | zero=>intro _;exact⟨[],rfl,List.nodup_nil,by simp⟩
   | succ k ih =>
    intro hk
    obtain⟨o,h1,h2,h3⟩:=ih (by omega)
    obtain⟨m,hm⟩:=al k (by omega)
    refine⟨m::o,by simp[h1],List.nodup_cons.mpr ⟨λq=>?_,h2⟩,λx hx=>?_⟩
    .obtain⟨_,u,hu,e⟩:=h3 m q
     rw[hm] at e;cases e;omega
    .rcases List.mem_cons.mp hx with rfl | hx
     .obtain⟨t,ht,q,_⟩:=lr _ _ hm
      exact⟨by rw[←q];exact(I.lt t ht).1,k,by omega,hm⟩
     .obtain⟨a,u,hu,e⟩:=h3 x hx
      exact⟨a,u,by omega,e⟩
  obtain⟨o,h1,h2,h3⟩:=ch (many+1) (Nat.le_refl _)
  have:=lR many o h2 λx hx=>(h3 x hx).1
  omega
 refine⟨⟨λn=>?_,st,λn m r ⟨row,er,hx⟩ h=>?_⟩,λt ht=>?_,λn r h=>?_,I.o,.inl hm⟩
 .constructor
  .intro h
   obtain⟨t,ht,rfl,e⟩:=lr n _ h
   obtain⟨row,x,er,hx,q⟩:=wit t ht
   rw[e] at q
   refine⟨row,er,List.any_eq_true.mpr ⟨x,hx,?_⟩⟩
   cases x with
   | torn=>rfl
   | must m=>obtain⟨v,hv,e2⟩:=Option.map_eq_some_iff.mp q;omega
   | may m=>cases q
   | shut=>cases q
  .rintro⟨row,er,h⟩
   obtain⟨x,hx,hT⟩:=List.any_eq_true.mp h
   have ln:n<many:=by rw[←hn];exact(List.getElem?_eq_some_iff.mp er).1
   obtain⟨v,h1,h2⟩:=I.full n 0 ln (by omega) x (by rw[gd er];exact hx) (by cases x <;> first | rfl | cases hT)
   rw[h2,show v=0 by omega]
 .have ln:n<many:=by rw[←hn];exact(List.getElem?_eq_some_iff.mp er).1
  have sm:=small m r h
  obtain⟨v,h1,h2⟩:=I.full n (r+1) ln (by omega) (.must m) (by rw[gd er];exact hx) (by
   show (rk (l.map pr) m).map (λv:Nat=>(v:Int))=_
   rw[h]
   show some (r:Int)=_
   congr 1
   omega)
  exact⟨v,h2,h1⟩
 .obtain⟨row,er⟩:=rw' t.1 (I.lt t ht).1
  have:=I.ok t ht
  rw[gd er] at this
  exact⟨qQ I.nd (List.mem_map.mpr ⟨t,ht,rfl⟩),row,er,this⟩
 .obtain⟨t,ht,rfl,rfl⟩:=lr n r h
  exact⟨t.2.2,ht⟩
end K13
namespace K13
open PySem L2 MX DL RT
def Dk(d:List (Key×D))(ρ:Nat->Option Nat):Prop:=∀n:Nat,d9 d (.inl (n:Int))=(ρ n).map λv:Nat=>D.int v
noncomputable def hitM(ρ:Nat->Option Nat)(r:Nat):Dr->Bool
 | .must n=>decide (ρ n=some (r - 1))
 | _=>false
noncomputable def hit(ρ:Nat->Option Nat)(r:Nat)(x:Dr):Bool:=(decide (r=0) && isT x) || (decide (0<r) && hitM ρ r x)
noncomputable def stY(ds:D)(d:List (Key×D))(r:Nat)(x3 x4:Option Sl):DSt:=[some (.sh ds),some (.sh (.dK d)),some (.sh (.int r)),x3,x4]
theorem why_step{d:List (Key×D)}{ρ:Nat->Option Nat}(dk:Dk d ρ)(ds:D)(r k:Nat)(x:Dr):bZ (stY ds d r (some (.sh (.int k))) (some (.sh x.d)))=.ok (if hit ρ r x=true then .rt (.int k) else .nx (stY ds d r (some (.sh (.int k))) (some (.sh x.d)))):=by
 have t1:qW (o2b eqD (gb 2) (kc (.int 0))) (o2b eqD (o2 ixD (gvo 4) (kc (.int 0))) (kc (.str "torn"))) (stY ds d r (some (.sh (.int k))) (some (.sh x.d)))=.ok (((r:Int)==0) && isT x):=gR (Bc rfl rfl) λ_=>cT (tix0 (a:=.str x.w) (r:=[x.to]) rfl) rfl (eqT x)
 have z0:((r:Int)==0)=decide (r=0):=by
  rw[Bool.eq_iff_iff];simp
 rw[z0] at t1
 have t2:qW (o2b gtD (gb 2) (kc (.int 0))) (qW (o2b eqD (o2 ixD (gvo 4) (kc (.int 0))) (kc (.str "must"))) (o2b eqD (uT 1 (o2 ixD (gvo 4) (kc (.int 1))) (o1 wH (kc (.int 2)))) (o2 nZ (gv 2) (kc (.int 1))))) (stY ds d r (some (.sh (.int k))) (some (.sh x.d)))=.ok (decide (0<r) && hitM ρ r x):=by
  have z1:decide ((r:Int)>0)=decide (0<r):=by rw[Bool.eq_iff_iff];simp
  rw[←z1]
  refine gR (gt_ok rfl rfl) λhp=>?_
  have hp:0<r:=by rw[z1] at hp;simpa using hp
  cases x with
  | must n =>
   have g:=Ol (i:=1) (fk:=o2 ixD (gvo 4) (kc (.int 1))) (fx:=o1 wH (kc (.int 2))) (δ:=stY ds d r (some (.sh (.int k))) (some (.sh (Dr.must n).d))) (d:=d) (n:=(n:Int)) (x:=.int (-2)) rfl (tix1 rfl) rfl
   have s:o2 nZ (gv 2) (kc (.int 1)) (stY ds d r (some (.sh (.int k))) (some (.sh (Dr.must n).d)))=.ok (.int ((r:Int) - 1)):=vL rfl rfl
   rw[dk n] at g
   have e1:=gR (x:=true) (a:=o2b eqD (o2 ixD (gvo 4) (kc (.int 0))) (kc (.str "must"))) (δ:=stY ds d r (some (.sh (.int k))) (some (.sh (Dr.must n).d))) (b:=o2b eqD (uT 1 (o2 ixD (gvo 4) (kc (.int 1))) (o1 wH (kc (.int 2)))) (o2 nZ (gv 2) (kc (.int 1)))) (y:=decide (ρ n=some (r - 1))) (cT (tix0 (a:=.str "must") (r:=[.int n]) rfl) rfl q11) λ_=>by
    cases hr:ρ n with
    | none =>
     rw[hr] at g
     rw[Bc (i:=-2) g s,show ((-2:Int)==(r:Int) - 1)=false by rw[beq_eq_false_iff_ne];omega]
     simp
    | some v =>
     rw[hr] at g
     rw[Bc (i:=(v:Int)) g s]
     congr 1
     rw[Bool.eq_iff_iff]
     simp
     omega
   rw[e1]
   rfl
  | may n=>exact gR (x:=false) (y:=false) (cT (tix0 (a:=.str "may") (r:=[.int n]) rfl) rfl q21) λh=>by cases h
  | shut=>exact gR (x:=false) (y:=false) (cT (tix0 (a:=.str "shut") (r:=[.non]) rfl) rfl q31) λh=>by cases h
  | torn=>exact gR (x:=false) (y:=false) (cT (tix0 (a:=.str "torn") (r:=[.non]) rfl) rfl q41) λh=>by cases h
 unfold bZ hit
 cases h1:(decide (r=0) && isT x) with
 | true =>
  rw[h1] at t1
  unfold aR
  rw[Kv t1]
  rfl
 | false =>
  rw[h1] at t1
  rw[cM (δ':=stY ds d r (some (.sh (.int k))) (some (.sh x.d))) (by rw[qt t1];rfl),qt t2,Bool.false_or]
  cases (decide (0<r) && hitM ρ r x) <;> rfl
theorem hit_bO(ρ:Nat->Option Nat)(r:Nat)(x:Dr):hit ρ r x=true↔bO ρ x=some ((r:Int) - 1):=by
 unfold hit
 cases x with
 | torn =>
  show ((decide (r=0) && true) || (decide (0<r) && false))=true↔some (-1:Int)=some ((r:Int) - 1)
  simp
  omega
 | must n =>
  show ((decide (r=0) && false) || (decide (0<r) && decide (ρ n=some (r - 1))))=true↔(ρ n).map (λv:Nat=>(v:Int))=some ((r:Int) - 1)
  simp only[Bool.and_false,Bool.false_or,Bool.and_eq_true,decide_eq_true_eq,Option.map_eq_some_iff]
  constructor
  .rintro⟨h1,h2⟩;exact⟨_,h2,by omega⟩
  .rintro⟨v,h1,h2⟩;exact⟨by omega,by rw[h1,show v=r - 1 by omega]⟩
 | may n=>show ((decide (r=0) && false) || (decide (0<r) && false))=true↔none=some ((r:Int) - 1);simp
 | shut=>show ((decide (r=0) && false) || (decide (0<r) && false))=true↔none=some ((r:Int) - 1);simp
noncomputable def oD:Option Nat->D
 | some j=>.int (j:Nat)
 | none=>.non
theorem K5{d:List (Key×D)}{ρ:Nat->Option Nat}(dk:Dk d ρ)(ds:D)(r:Nat):∀(xs:List Dr)(k:Nat)(x3 x4:Option Sl),
  (∃j,gY ((r:Int) - 1) (xs.map (bO ρ)) k=some j/\jC (gT 2 (aQ (gN 3) (aQ (gN 4) cN))) bZ (fL k (xs.map Dr.d)) (stY ds d r x3 x4)=.ok (.rt (.int (j:Nat)))) ∨
  (gY ((r:Int) - 1) (xs.map (bO ρ)) k=none/\∃y3 y4,jC (gT 2 (aQ (gN 3) (aQ (gN 4) cN))) bZ (fL k (xs.map Dr.d)) (stY ds d r x3 x4)=.ok (.nx (stY ds d r y3 y4)))
 | [],k,x3,x4=>.inr ⟨rfl,x3,x4,rfl⟩
 | x::xs,k,x3,x4=>by
  have st:=why_step dk ds r k x
  have e:jC (gT 2 (aQ (gN 3) (aQ (gN 4) cN))) bZ (fL k ((x::xs).map Dr.d)) (stY ds d r x3 x4)=((bZ (stY ds d r (some (.sh (.int k))) (some (.sh x.d)))).bind λfl=>match fl with
   | .nx δ2=>jC (gT 2 (aQ (gN 3) (aQ (gN 4) cN))) bZ (fL (k+1) (xs.map Dr.d)) δ2
   | .ct δ2=>jC (gT 2 (aQ (gN 3) (aQ (gN 4) cN))) bZ (fL (k+1) (xs.map Dr.d)) δ2
   | .bk δ2=>.ok (.nx δ2)
   | fl=>.ok fl):=rfl
  rw[e,st,List.map_cons]
  unfold gY
  cases h:hit ρ r x with
  | true =>
   rw[if_pos ((hit_bO ρ r x).mp h)]
   exact .inl ⟨k,rfl,rfl⟩
  | false =>
   rw[if_neg (λq=>by rw[(hit_bO ρ r x).mpr q] at h;cases h)]
   simp only[Bool.false_eq_true,if_false,Out.aM]
   exact K5 dk ds r xs (k+1) (some (.sh (.int k))) (some (.sh x.d))
theorem F_why{d:List (Key×D)}{ρ:Nat->Option Nat}(dk:Dk d ρ)(r:Nat)(xs:List Dr):iQ [.lst (xs.map Dr.d),.dK d,.int r]=.ok (oD (gY ((r:Int) - 1) (xs.map (bO ρ)) 0)):=by
 have e:iQ [.lst (xs.map Dr.d),.dK d,.int r]=((aR (dB (enum (gv 0)) (gT 2 (aQ (gN 3) (aQ (gN 4) cN))) bZ) (bG (kc .non)) (stY (.lst (xs.map Dr.d)) d r none none)).bind iG).aZ:=rfl
 have en:enum (gv 0) (stY (.lst (xs.map Dr.d)) d r none none)=.ok (fL 0 (xs.map Dr.d)):=by
  unfold enum
  rfl
 rw[e]
 rcases K5 dk (.lst (xs.map Dr.d)) r xs 0 none none with⟨j,h1,h3⟩| ⟨h1,y3,y4,h3⟩
 .rw[h1]
  exact run_rt (by unfold dB;rw[en];exact h3)
 .rw[h1]
  exact aX (by unfold dB;rw[en];exact h3) rfl
abbrev tr3(l:List T3):D:=trs (l.map tN)
noncomputable def stK(rows:D)(l ts:List T3)(r:Nat)(fr:List T3)(x5 x6 x7:Option Sl):DSt:=[ss rows,some (.od (dN (l.map pr))),ss (tr3 ts),si r,some (.ol ((fr.map tN).map tD)),x5,x6,x7]
theorem nN_ok{f:DSt->Out D}{δ:DSt}{x:D}(h:f δ=.ok x):o2b uX f (kc .non) δ=.ok (!vA x):=cT h rfl rfl
theorem has_rk(l:List Pr)(n:Nat):zf (dN l) (.inl (n:Int))=(rk l n).isSome:=by
 rw[ww,Aw]
 cases rk l n <;> rfl
theorem cat_ok{fa fb:DSt->Out D}{δ:DSt}{a b:List D}(h1:fa δ=.ok (.lst a))(h2:fb δ=.ok (.lst b))(h:a.length+b.length<=5000):o2 gq fa fb δ=.ok (.lst (a++b)):=nu h1 h2 (by
 show (if _ then _ else _)=_
 rw[if_pos (Nat.le_trans h (by decide))])
section
variable{many acts:Nat}{t:Bool}{rows:List (List Dr)}
theorem QG(R:Rows many acts t rows)(l:List T3)(r:Nat)(fr:List T3)(hf:fr.length<=100){i:Nat}(hi:i<many)(x6 x7:Option Sl):
  eX (stK (bf rows) l l r fr (si i) x6 x7)=.ok (.nx (stK (bf rows) l l r (fr++frs rows (rk (l.map pr)) r [i]) (si i) x6 x7)):=by
 have l1:i<rows.length:=by rw[R.n];exact hi
 have er:rows[i]?=some (rows.getD i []):=by rw[List.getD_eq_getElem?_getD,List.getElem?_eq_getElem l1];rfl
 have t1:=dn_ok (i:=1) (f:=gv 5) (δ:=stK (bf rows) l l r fr (si i) x6 x7) (kvs:=dN (l.map pr)) (n:=(i:Int)) rfl rfl
 rw[has_rk] at t1
 have dk:Dk (dN (l.map pr)) (rk (l.map pr)):=λn=>Aw _ n
 have args:ao (o2 ixD (gvo 0) (gv 5)) (ao (gv 1) (ao (gv 3) aK)) [ss (bf rows),ss (.dK (dN (l.map pr))),ss (tr3 l),si r,some (.ol ((fr.map tN).map tD)),si i,x6,x7]=.ok [.lst ((rows.getD i []).map Dr.d),.dK (dN (l.map pr)),.int r]:=aC (ix_ok (ds:=rows.map λr=>.lst (r.map Dr.d)) (n:=i) rfl rfl (by rw[List.getElem?_map,er];rfl)) (aC rfl (aC rfl rfl))
 have w:sW 1 (oF 3 iQ (ao (o2 ixD (gvo 0) (gv 5)) (ao (gv 1) (ao (gv 3) aK)))) (stK (bf rows) l l r fr (si i) x6 x7)=.ok (oD (gY ((r:Int) - 1) ((rows.getD i []).map (bO (rk (l.map pr)))) 0)):=GR (s:=.od (dN (l.map pr))) rfl rfl rfl (cH args rfl (F_why dk r _)) (by cases gY ((r:Int) - 1) ((rows.getD i []).map (bO (rk (l.map pr)))) 0 <;> rfl)
 unfold eX
 have ef:frs rows (rk (l.map pr)) r [i]=if (rk (l.map pr) i).isSome=true then [] else match gY ((r:Int) - 1) ((rows.getD i []).map (bO (rk (l.map pr)))) 0 with | some j=>[(i,r,j)] | none=>[]:=by
  unfold frs
  rw[List.filterMap_cons,List.filterMap_nil]
  cases (rk (l.map pr) i).isSome with
  | true=>rfl
  | false=>cases gY ((r:Int) - 1) ((rows.getD i []).map (bO (rk (l.map pr)))) 0 <;> rfl
 rw[ef]
 cases hr:(rk (l.map pr) i).isSome with
 | true =>
  rw[hr] at t1
  rw[qt (gR (x:=false) (y:=false) t1 λh=>by cases h),if_pos rfl,List.append_nil]
  rfl
 | false =>
  rw[hr] at t1
  rw[if_neg (by simp)]
  cases hj:gY ((r:Int) - 1) ((rows.getD i []).map (bO (rk (l.map pr)))) 0 with
  | none =>
   rw[hj] at w
   rw[qt (gR (x:=true) t1 λ_=>nN_ok w),List.append_nil]
   rfl
  | some j =>
   rw[hj] at w
   rw[Kv (gR (x:=true) (y:=true) t1 λ_=>nN_ok w)]
   refine Lk (ds:=(fr.map tN).map tD) (d:=tD (tN (i,r,j))) rfl (tup3 (fa:=gv 5) (fb:=gv 3) (a:=.int (i:Int)) (b:=.int (r:Int)) rfl rfl w) (by rw[List.length_map,List.length_map];exact Nat.lt_of_le_of_lt hf (by decide)) ?_
   unfold stK
   rw[List.map_append,List.map_append]
   rfl
theorem frs_app(ρ:Nat->Option Nat)(r:Nat)(a b:List Nat):frs rows ρ r (a++b)=frs rows ρ r a++frs rows ρ r b:=by
 unfold frs
 rw[List.filterMap_append]
theorem Mf(R:Rows many acts t rows)(hm:many<=12)(l:List T3)(r:Nat)(x5 x6 x7:Option Sl):∃y5,jC (gN 5) eX ((List.range many).map λk:Nat=>D.int k) (stK (bf rows) l l r [] x5 x6 x7)=.ok (.nx (stK (bf rows) l l r (frs rows (rk (l.map pr)) r (List.range many)) y5 x6 x7)):=by
 obtain⟨δ',e,y5,rfl⟩:=eU (body:=eX) (tg:=gN 5) (λk:Nat=>D.int k) (λdone δ=>∃y5,δ=stK (bf rows) l l r (frs rows (rk (l.map pr)) r done) y5 x6 x7) (List.range many) (stK (bf rows) l l r [] x5 x6 x7) (by
  rintro i done rest δ e ⟨y5,rfl⟩
  have hi:i<many:=List.mem_range.mp (by rw[e];simp)
  have hd:done.length<=12:=by
   have:=congrArg List.length e
   simp at this
   omega
  have hl:(frs rows (rk (l.map pr)) r done).length<=12:=Nat.le_trans (List.length_filterMap_le ..) hd
  refine⟨stK (bf rows) l l r (frs rows (rk (l.map pr)) r done) (si i) x6 x7,rfl,?_⟩
  rw[QG R l r _ (by omega) hi x6 x7]
  exact⟨_,by rw[frs_app]⟩) ⟨x5,rfl⟩
 exact⟨y5,e⟩
theorem put_loop(rw':D)(l:List T3)(r:Nat)(fr:List T3)(nd:(fs ((l++fr).map pr)).Nodup)(fr':∀z∈fr,z.2.1=r)(hl:l.length+fr.length<=3000)(x5 x6 x7:Option Sl):
  ∃y5 y6 y7,jC (gT 3 (aQ (gN 5) (aQ (gN 6) (aQ (gN 7) cN)))) iy ((fr.map tN).map tD) [ss rw',some (.od (dN (l.map pr))),ss (tr3 l),si r,ss (tr3 fr),x5,x6,x7]=.ok (.nx [ss rw',some (.od (dN ((l++fr).map pr))),ss (tr3 l),si r,ss (tr3 fr),y5,y6,y7]):=by
 rw[List.map_map]
 obtain⟨δ',e,y5,y6,y7,rfl⟩:=eU (body:=iy) (tg:=gT 3 (aQ (gN 5) (aQ (gN 6) (aQ (gN 7) cN)))) (tD∘tN) (λdone δ=>∃y5 y6 y7,δ=[ss rw',some (.od (dN ((l++done).map pr))),ss (tr3 l),si r,ss (tr3 fr),y5,y6,y7]) fr [ss rw',some (.od (dN (l.map pr))),ss (tr3 l),si r,ss (tr3 fr),x5,x6,x7] (by
  rintro z done rest δ e ⟨y5,y6,y7,rfl⟩
  have hd:done.length<=fr.length:=by rw[e];simp
  have q:=zL (i:=1) (fv:=gv 3) (fk:=gv 5) (δ:=[ss rw',some (.od (dN ((l++done).map pr))),ss (tr3 l),si r,ss (tr3 fr),ss (.int (z.1:Nat)),ss (.int (z.2.1:Nat)),ss (.int (z.2.2:Nat))]) (d:=dN ((l++done).map pr)) (n:=((z.1:Nat):Int)) (v:=.int r) rfl rfl rfl (by simp[dN];omega)
  refine⟨[ss rw',some (.od (dN ((l++done).map pr))),ss (tr3 l),si r,ss (tr3 fr),ss (.int (z.1:Nat)),ss (.int (z.2.1:Nat)),ss (.int (z.2.2:Nat))],rfl,?_⟩
  unfold iy
  rw[q]
  have nin:z.1∉fs ((l++done).map pr):=λh=>by
   rw[e,show l++(done++z::rest)=(l++done)++z::rest by simp] at nd
   unfold fs at nd h
   rw[List.map_append,List.map_append,List.nodup_append] at nd
   exact nd.2.2 _ h z.1 (List.mem_map.mpr ⟨pr z,List.mem_map.mpr ⟨z,List.mem_cons_self ..,rfl⟩,rfl⟩) rfl
  refine⟨ss (.int (z.1:Nat)),ss (.int (z.2.1:Nat)),ss (.int (z.2.2:Nat)),?_⟩
  have zr:z.2.1=r:=fr' z (by rw[e];simp)
  have e2:(l++(done++[z])).map pr=(l++done).map pr++[(z.1,r)]:=by
   rw[←zr];simp[pr]
  rw[e2,←Lr nin]
  rfl) ⟨x5,x6,x7,by rw[List.append_nil]⟩
 exact⟨y5,y6,y7,e⟩
theorem Ni(R:Rows many acts t rows)(hm:many<=12){r:Nat}(hr:r<=12)(x4 x5 x6 x7:Option Sl):
  ∃y4 y5 y6 y7,iu [ss (bf rows),some (.od (dN ((rnd rows many r).map pr))),ss (tr3 (rnd rows many r)),si r,x4,x5,x6,x7]=.ok (.nx [ss (bf rows),some (.od (dN ((rnd rows many (r+1)).map pr))),ss (tr3 (rnd rows many (r+1))),si r,y4,y5,y6,y7]):=by
 have I':=Ca rows (show many<=4000 by omega) (r+1)
 have len:(rnd rows many (r+1)).length<=many:=by
  have:=lR many _ I'.nd λx hx=>by
   obtain⟨v,hv⟩:=sX.mp hx
   obtain⟨z,hz,q⟩:=List.mem_map.mp hv
   have:=(I'.lt z hz).1
   have:z.1=x:=congrArg Prod.fst q
   omega
  simpa[fs] using this
 have es:rnd rows many (r+1)=rnd rows many r++frs rows (rk ((rnd rows many r).map pr)) r (List.range many):=rfl
 have mem:=@Oe rows (rk ((rnd rows many r).map pr)) r (List.range many)
 obtain⟨y5,e1⟩:=Mf R hm (rnd rows many r) r x5 x6 x7
 have nd:=I'.nd
 rw[es] at nd len ⊢
 generalize frs rows (rk ((rnd rows many r).map pr)) r (List.range many)=fr at *
 generalize rnd rows many r=l at *
 rw[List.length_append] at len
 obtain⟨z5,z6,z7,e2⟩:=put_loop (bf rows) l r fr nd (λz hz=>(mem.mp hz).2.1) (by omega) y5 x6 x7
 refine⟨ss (tr3 fr),z5,z6,z7,?_⟩
 unfold iu
 rw[cM (δ':=stK (bf rows) l l r [] x5 x6 x7) (wW (d:=[]) (by unfold Ar;walk_at "ev: s0") rfl)]
 have ln:o1 dj (gb 0) (stK (bf rows) l l r [] x5 x6 x7)=.ok (.int (many:Nat)):=by
  rw[yH (ds:=rows.map λr=>.lst (r.map Dr.d)) rfl,List.length_map,R.n]
 have rg:=iD (n:=many) ln (by omega)
 rw[cM (δ':=stK (bf rows) l l r fr y5 x6 x7) (by unfold dB;rw[rg];exact e1)]
 rw[cM (δ':=[ss (bf rows),some (.od (dN ((l++fr).map pr))),ss (tr3 l),si r,ss (tr3 fr),z5,z6,z7]) (by
  show dB _ _ _ [ss (bf rows),some (.od (dN (l.map pr))),ss (tr3 l),si r,ss (tr3 fr),y5,x6,x7]=_
  unfold dB
  exact e2)]
 show bz 2 (o2 gq (gv 2) (gv 4)) [ss (bf rows),some (.od (dN ((l++fr).map pr))),ss (tr3 l),si r,ss (tr3 fr),z5,z6,z7]=_
 refine bA (d:=tr3 (l++fr)) ?_ rfl
 rw[cat_ok (a:=(l.map tN).map tD) (b:=(fr.map tN).map tD) rfl rfl (by simp only[List.length_map];omega)]
 simp[trs]
theorem F_ranks(R:Rows many acts t rows)(hm:many<=12):jV [bf rows]=.ok (.tup [.dK (dN ((rnd rows many (many+1)).map pr)),tr3 (rnd rows many (many+1))]):=by
 obtain⟨δ',e,x3,x4,x5,x6,x7,rfl⟩:=eU (body:=iu) (tg:=gN 3) (λk:Nat=>D.int k) (λdone δ=>∃x3 x4 x5 x6 x7,δ=[ss (bf rows),some (.od (dN ((rnd rows many done.length).map pr))),ss (tr3 (rnd rows many done.length)),x3,x4,x5,x6,x7]) (List.range (many+1)) [ss (bf rows),some (.od []),ss (trs []),none,none,none,none,none] (by
  rintro r done rest δ e ⟨x3,x4,x5,x6,x7,rfl⟩
  have hr:r=done.length:=by
   have h1:(List.range (many+1))[done.length]?=some r:=by rw[e];simp
   have h2:=(List.getElem?_eq_some_iff.mp h1).2
   simpa using h2.symm
  have hd:done.length<=12:=by
   have:=congrArg List.length e
   simp at this
   omega
  subst hr
  obtain⟨y4,y5,y6,y7,q⟩:=Ni R hm hd x4 x5 x6 x7
  refine⟨[ss (bf rows),some (.od (dN ((rnd rows many done.length).map pr))),ss (tr3 (rnd rows many done.length)),si done.length,x4,x5,x6,x7],rfl,?_⟩
  rw[q]
  exact⟨_,y4,y5,y6,y7,by rw[List.length_append];rfl⟩) ⟨none,none,none,none,none,rfl⟩
 rw[List.length_range] at e
 show ((j8 [ss (bf rows),none,none,none,none,none,none,none]).bind iG).aZ=_
 unfold j8
 refine aX (δ':=[ss (bf rows),some (.od []),none,none,none,none,none,none]) rfl ?_
 refine aX (δ':=[ss (bf rows),some (.od []),ss (trs []),none,none,none,none,none]) (bA (d:=.lst []) rfl rfl) ?_
 have ln:o2 gq (o1 dj (gb 0)) (kc (.int 1)) [ss (bf rows),some (.od []),ss (trs []),none,none,none,none,none]=.ok (.int ((many+1:Nat):Int)):=by
  rw[pJ (i:=(many:Int)) (j:=1) (by rw[yH (ds:=rows.map λr=>.lst (r.map Dr.d)) rfl,List.length_map,R.n]) rfl,Int.natCast_succ]
 have rg:=iD (n:=many+1) ln (by omega)
 refine aX (by unfold dB;rw[rg];exact e) ?_
 show ((bG (dh (ao (gv 1) (ao (gv 2) aK))) [ss (bf rows),ss (.dK (dN ((rnd rows many (many+1)).map pr))),ss (tr3 (rnd rows many (many+1))),x3,x4,x5,x6,x7]).bind iG).aZ=_
 exact jt (tup2 rfl rfl)
end
end K13
namespace K13
open PySem L2 MX DL RT
theorem Ef{rows:List (List Dr)}{many acts:Nat}{t:Bool}{ρ:Nat->Option Nat}{due:List T3}(R:Rows many acts t rows)(U:Due rows many ρ due):(due.map tN).all (leans (due.map tN) rows many acts)=true:=by
 rw[List.all_eq_true]
 intro z hz
 obtain⟨x,hx,rfl⟩:=List.mem_map.mp hz
 obtain⟨h1,row,er,hj⟩:=U.a x hx
 have ln:x.1<many:=by rw[←R.n];exact(List.getElem?_eq_some_iff.mp er).1
 obtain⟨_,f1,_⟩:=uD hj
 rw[Nat.sub_zero,List.getElem?_map] at f1
 obtain⟨y,hy,eb⟩:=Option.map_eq_some_iff.mp f1
 have lj:x.2.2<acts:=by rw[←(R.row row (List.mem_of_getElem? er)).1];exact(List.getElem?_eq_some_iff.mp hy).1
 unfold leans
 rw[Bool.and_eq_true]
 refine⟨?_,?_⟩
 .unfold inR tN
  simp only[Bool.and_eq_true,decide_eq_true_eq]
  omega
 .have ed:drAt rows (tN x)=y:=by
   unfold drAt tN
   simp only[Int.toNat_natCast]
   rw[List.getD_eq_getElem?_getD (l:=rows),er]
   simp only[Option.getD_some]
   rw[List.getD_eq_getElem?_getD,hy]
   rfl
  rw[ed]
  cases y with
  | torn=>rfl
  | may n=>cases eb
  | shut=>cases eb
  | must m =>
   obtain⟨v,hv,ev⟩:=Option.map_eq_some_iff.mp eb
   obtain⟨j,hj⟩:=U.b m v hv
   refine List.any_eq_true.mpr ⟨tN (m,v,j),List.mem_map.mpr ⟨_,hj,rfl⟩,?_⟩
   unfold tN
   simp only[Bool.and_eq_true,decide_eq_true_eq]
   exact⟨trivial,by omega⟩
theorem cut_mm{α:Type}(g:α->D)(xs:List α)(a b:Nat):∃ys:List α,cutL (xs.map g) (some (a:Int)) (some (b:Int))=ys.map g/\ys.length<=b - a:=by
 unfold cutL
 rw[List.length_map,HT.O2,HT.O2,←List.map_drop,←List.map_take]
 refine⟨_,rfl,?_⟩
 rw[List.length_take,List.length_drop]
 omega
theorem Hx{i:Nat}{fe fk fl:DSt->Out D}{δ δ':DSt}{dss:List (List D)}{d:D}{j l:Nat}(h1:fe δ=.ok d)(h2:δ[i]?=some (some (.oll dss)))(h3:fk δ=.ok (.int (j:Nat)))(hj:j<dss.length)(h4:fl δ=.ok (.int (l:Nat)))(hl:l<(dss.getD j []).length)(e:δ.set i (some (.oll (dss.set j ((dss.getD j []).set l d))))=δ'):tM i fe fk fl δ=.ok (.nx δ'):=by
 unfold tM
 rw[h1,Out.aM,h2]
 simp only[h3,Out.aM,GD hj,h4,GD hl]
 rw[e]
noncomputable def setR(rows:List (List Dr))(j l:Nat)(x:Dr):List (List Dr):=rows.set j ((rows.getD j []).set l x)
theorem Hz(rows:List (List Dr)){j:Nat}(hj:j<rows.length)(l:Nat)(x:Dr):(rLL rows).set j (((rLL rows).getD j []).set l x.d)=rLL (setR rows j l x):=by
 have g:(rLL rows).getD j []=(rows.getD j []).map Dr.d:=by
  unfold rLL
  rw[List.getD_eq_getElem?_getD,List.getD_eq_getElem?_getD,List.getElem?_map,List.getElem?_eq_getElem hj]
  rfl
 rw[g]
 unfold rLL setR
 simp only[List.map_set]
theorem Hy(rows:List (List Dr)){j:Nat}(hj:j<rows.length):((rLL rows).getD j []).length=(rows.getD j []).length:=by
 unfold rLL
 rw[List.getD_eq_getElem?_getD,List.getD_eq_getElem?_getD,List.getElem?_map,List.getElem?_eq_getElem hj]
 simp
theorem Rows.set{many acts:Nat}{t:Bool}{rows:List (List Dr)}(R:Rows many acts t rows){j:Nat}(hj:j<many)(l:Nat){x:Dr}(hx:x.ok many t):Rows many acts t (setR rows j l x):=by
 have hn:=R.n
 refine⟨by unfold setR;rw[List.length_set];exact hn,λr hr=>?_⟩
 rcases List.mem_or_eq_of_mem_set hr with hr | rfl
 .exact R.row r hr
 .have e:rows.getD j []=rows[j]'(by omega):=by rw[List.getD_eq_getElem?_getD,List.getElem?_eq_getElem (by omega)];rfl
  have h:=R.row _ (List.getElem_mem (show j<rows.length by omega))
  rw[e]
  refine⟨by rw[List.length_set];exact h.1,λy hy=>?_⟩
  rcases List.mem_or_eq_of_mem_set hy with hy | rfl
  .exact h.2 y hy
  .exact hx
theorem Rows.torn{many acts:Nat}{t:Bool}{rows:List (List Dr)}(R:Rows many acts t rows):Rows many acts true rows :=
 ⟨R.n,λr hr=>⟨(R.row r hr).1,λx hx=>by
  have:=(R.row r hr).2 x hx
  cases x <;> first | exact this | trivial⟩⟩
noncomputable def stD(s:D)(acts:Nat)(w:Int)(rows:List (List Dr))(x4 x5 x6 x7:Option Sl):DSt:=[ss s,si acts,ss (.int w),some (.oll (rLL rows)),x4,x5,x6,x7]
theorem Ly(s:D){acts many:Nat}(h1:1<=acts)(w:Int){rows:List (List Dr)}(R:Rows many acts true rows)(hm:1<=many)(c:Int)(x5 x6 x7:Option Sl):
  ∃wL y5 y6 y7,ir (stD s acts w rows (ss (.int c)) x5 x6 x7)=.ok (.nx (stD s acts w wL (ss (.int c)) y5 y6 y7))/\Rows many acts true wL:=by
 have n0:=Oo c 41
 have m:=jW c 41 (by decide) (by decide)
 generalize oH c 41=n at n0 m
 obtain⟨a,ea,la⟩:=jq (n / 8) (m:=many) hm
 obtain⟨b,eb,lb⟩:=jq (n / 512) (m:=acts) h1
 have hl:∀x4 x5 x6 x7,o1 dj (gb 3) (stD s acts w rows x4 x5 x6 x7)=.ok (.int (many:Nat)):=λx4 x5 x6 x7=>by
  rw[yH (ds:=(rLL rows).map .lst) rfl,List.length_map]
  unfold rLL
  rw[List.length_map,R.n]
 have s1:bz 5 (oF 2 bc (ao (gv 4) (ao (kc (.int 41)) aK))) (stD s acts w rows (ss (.int c)) x5 x6 x7)=.ok (.nx (stD s acts w rows (ss (.int c)) (ss (.int n)) x6 x7)):=bA (cH (ds:=[.int c,.int 41]) (aC rfl (aC rfl rfl)) rfl m) rfl
 have s2:bz 6 (o2 du (o2 eQ (gv 5) (kc (.int 8))) (o1 dj (gb 3))) (stD s acts w rows (ss (.int c)) (ss (.int n)) x6 x7)=.ok (.nx (stD s acts w rows (ss (.int c)) (ss (.int n)) (si a) x7)):=bA (by rw[fJ (pP rfl rfl ⟨by decide,by decide⟩) (hl _ _ _ _) (by omega),ea]) rfl
 have s3:bz 7 (oF 3 ju (ao (o2 eQ (gv 5) (kc (.int 4096))) (ao (o1 dj (gb 3)) (ao (kc (.bl true)) aK)))) (stD s acts w rows (ss (.int c)) (ss (.int n)) (si a) x7)=.ok (.nx (stD s acts w rows (ss (.int c)) (ss (.int n)) (si a) (ss (drN (n / 4096) many true).d))):=bA (cH (ds:=[.int (n / 4096),.int many,.bl true]) (aC (pP rfl rfl ⟨by decide,by decide⟩) (aC (hl _ _ _ _) (aC rfl rfl))) rfl (F_door (n / 4096) hm true)) rfl
 have t4:o2b eqD (o2 du (gv 5) (kc (.int 2))) (kc (.int 0)) (stD s acts w rows (ss (.int c)) (ss (.int n)) (si a) (ss (drN (n / 4096) many true).d))=.ok (n % 2==0):=Bc (fJ rfl rfl (by decide)) rfl
 have fin:∀x:Dr,x.ok many true->tM 3 (gv 7) (gv 6) (o2 du (o2 eQ (gv 5) (kc (.int 512))) (gv 1)) (stD s acts w rows (ss (.int c)) (ss (.int n)) (si a) (ss x.d))=.ok (.nx (stD s acts w (setR rows a b x) (ss (.int c)) (ss (.int n)) (si a) (ss x.d))):=λx hx=>by
  have ha:a<rows.length:=by rw[R.n];exact la
  have gl:(rows.getD a []).length=acts:=by
   rw[List.getD_eq_getElem?_getD,List.getElem?_eq_getElem ha]
   exact(R.row _ (List.getElem_mem ha)).1
  refine Hx (dss:=rLL rows) (d:=x.d) (j:=a) (l:=b) rfl rfl rfl (by unfold rLL;rw[List.length_map];exact ha) (by rw[fJ (pP rfl rfl ⟨by decide,by decide⟩) rfl (by omega),eb]) (by rw[Hy rows ha,gl];exact lb) ?_
  rw[Hz rows ha]
  rfl
 unfold ir
 rw[cM s1,cM s2,cM s3]
 cases h:(n % 2==0) with
 | false =>
  rw[h] at t4
  rw[cM (δ':=stD s acts w rows (ss (.int c)) (ss (.int n)) (si a) (ss (drN (n / 4096) many true).d)) (by rw[qt t4];rfl),fin _ (Lx _ hm true)]
  exact⟨_,_,_,_,rfl,R.set la b (Lx _ hm true)⟩
 | true =>
  rw[h] at t4
  obtain⟨k,ek,lk⟩:=jq ((a:Int)+1 - 2*(n / 2 % 2)) (m:=many) hm
  have b0:=Int.emod_nonneg (n / 2) (show (2:Int)≠0 by decide)
  have b1:=Int.emod_lt_of_pos (n / 2) (show (0:Int)<2 by decide)
  have q:dh (ao (kc (.str "must")) (ao (o2 du (o2 nZ (o2 gq (gv 6) (kc (.int 1))) (o2 qY (kc (.int 2)) (o2 du (o2 eQ (gv 5) (kc (.int 2))) (kc (.int 2))))) (o1 dj (gb 3))) aK)) (stD s acts w rows (ss (.int c)) (ss (.int n)) (si a) (ss (drN (n / 4096) many true).d))=.ok (Dr.must k).d:=by
   refine tup2 rfl ?_
   rw[fJ (vL (pJ rfl rfl) (Bv rfl (fJ (pP rfl rfl ⟨by decide,by decide⟩) rfl (by decide)) (uA (by decide) (by decide)))) (hl _ _ _ _) (by omega),ek]
   rfl
  rw[cM (δ':=stD s acts w rows (ss (.int c)) (ss (.int n)) (si a) (ss (Dr.must k).d)) (by rw[Kv t4];exact bA q rfl),fin _ (show (Dr.must k).ok many true from lk)]
  exact⟨_,_,_,_,rfl,R.set la b (show (Dr.must k).ok many true from lk)⟩
theorem F_draft(ns:List Int){acts:Nat}(h1:1<=acts)(h8:acts<=8):∃many rows,jR [.rol (ns.map .int),.int acts]=.ok (rLL rows)/\Rows many acts true rows/\1<=many/\many<=12:=by
 obtain⟨cells,ec,hc⟩:=cut_mm D.int ns 1 13
 obtain⟨ones,eo,ho⟩:=cut_mm D.int ns 13 40
 have e1:=F_cell ns 0
 generalize ns.getD 0 0=c at e1
 have m:=jW c 40 (by decide) (by decide)
 generalize oH c 40=n at m
 obtain⟨many,rows,e3,R0,hm1,hm8⟩:=F_rows1 cells (by omega) h8 (decide (n % 3>0))
 have R:=R0.torn
 let st:DSt:=[ss (.rol (ns.map .int)),si acts,none,none,none,none,none,none]
 have s1:bz 2 (o2 du (oF 2 bc (ao (oF 2 cP (ao (gv 0) (ao (kc (.int 0)) aK))) (ao (kc (.int 40)) aK))) (kc (.int 3))) st=.ok (.nx [ss (.rol (ns.map .int)),si acts,ss (.int (n % 3)),none,none,none,none,none]):=bA (fJ (cH (ds:=[.int c,.int 40]) (aC (cH (ds:=[.rol (ns.map .int),.int (0:Nat)]) (aC rfl (aC rfl rfl)) rfl e1) (aC rfl rfl)) rfl m) rfl (by decide)) rfl
 have sl:oSl (gv 0) (soI (kc (.int 1))) (soI (kc (.int 13))) [ss (.rol (ns.map .int)),si acts,ss (.int (n % 3)),none,none,none,none,none]=.ok (.lst (cells.map .int)):=by
  show Out.opt (some (D.lst (cutL (ns.map .int) (some ((1:Nat):Int)) (some ((13:Nat):Int)))))=_
  rw[ec]
  rfl
 have s2:jc 3 (oFl 3 mJ (ao (oSl (gv 0) (soI (kc (.int 1))) (soI (kc (.int 13)))) (ao (gv 1) (ao (bV (o2b gtD (gb 2) (kc (.int 0)))) aK)))) [ss (.rol (ns.map .int)),si acts,ss (.int (n % 3)),none,none,none,none,none]=.ok (.nx (stD (.rol (ns.map .int)) acts (n % 3) rows none none none none)):=by
  refine Cm (d:=rLL rows) ?_ rfl
  have q:=aC sl (aC (f:=gv 1) (d:=.int acts) rfl (aC (uR (gt_ok (fa:=gb 2) (fb:=kc (.int 0)) (i:=n % 3) (j:=0) (δ:=[ss (.rol (ns.map .int)),si acts,ss (.int (n % 3)),none,none,none,none,none]) rfl rfl)) (r:=aK) rfl))
  unfold oFl
  rw[q]
  exact e3
 obtain⟨δ',e,wL,x4,x5,x6,x7,rfl,R'⟩:=eU (body:=ir) (tg:=gN 4) D.int (λ_ δ=>∃wL x4 x5 x6 x7,δ=stD (.rol (ns.map .int)) acts (n % 3) wL x4 x5 x6 x7/\Rows many acts true wL) ones (stD (.rol (ns.map .int)) acts (n % 3) rows none none none none) (by
  rintro one done rest δ e ⟨wL,x4,x5,x6,x7,rfl,R'⟩
  obtain⟨rows2,y5,y6,y7,q,R2⟩:=Ly (.rol (ns.map .int)) h1 (n % 3) R' hm1 one x5 x6 x7
  refine⟨stD (.rol (ns.map .int)) acts (n % 3) wL (ss (.int one)) x5 x6 x7,rfl,?_⟩
  rw[q]
  exact⟨_,_,_,_,_,rfl,R2⟩) ⟨rows,none,none,none,none,rfl,R⟩
 have so:bL (oSl (gv 0) (soI (kc (.int 13))) (soI (kc (.int 40)))) (stD (.rol (ns.map .int)) acts (n % 3) rows none none none none)=.ok (ones.map D.int):=by
  show (Out.opt (some (D.lst (cutL (ns.map .int) (some ((13:Nat):Int)) (some ((40:Nat):Int)))))).bind _=_
  rw[eo]
  rfl
 refine⟨many,wL,?_,R',hm1,hm8⟩
 show ((j5 st).bind Bb).aZ=_
 unfold j5
 exact oK s1 (oK s2 (oK (by unfold dB;rw[so];exact e) rfl))
end K13
namespace K13
open PySem L2 MX DL RT
noncomputable def oN(many f:Nat)(b:Bool)(k:Nat):Nat:=if b=true then (if f+k<many then f+k else f+k - many) else if k<=f then f - k else f+many - k
noncomputable def iN(many f:Nat)(b:Bool)(n:Nat):Nat:=if b=true then (if f<=n then n - f else n+many - f) else if n<=f then f - n else f+many - n
noncomputable def wN(b:Bool):Int:=if b=true then 1 else -1
section
variable{many f:Nat}{b:Bool}
theorem yM(hf:f<many){k:Nat}(hk:k<many):oN many f b k<many:=by
 unfold oN;cases b <;> simp <;> split <;> omega
theorem wy(hf:f<many){n:Nat}(hn:n<many):iN many f b n<many:=by
 unfold iN;cases b <;> simp <;> split <;> omega
theorem JZ(hf:f<many){k:Nat}(hk:k<many):iN many f b (oN many f b k)=k:=by
 unfold iN oN;cases b <;> simp <;> split <;> split <;> omega
theorem oN_iN(hf:f<many){n:Nat}(hn:n<many):oN many f b (iN many f b n)=n:=by
 unfold iN oN;cases b <;> simp <;> split <;> split <;> omega
theorem oN_mod(hf:f<many){k:Nat}(hk:k<many):((f:Int)+wN b*(k:Int)) % (many:Int)=(oN many f b k:Nat):=by
 unfold oN wN
 cases b with
 | true =>
  simp only[if_true,Int.one_mul]
  split
  .rw[Int.emod_eq_of_lt (by omega) (by omega)];omega
  .rw[show (f:Int)+(k:Int)=((f+k - many:Nat):Int)+(many:Int) by omega,Int.add_emod_right,Int.emod_eq_of_lt (by omega) (by omega)]
 | false =>
  simp only[Bool.false_eq_true,if_false]
  split
  .rw[show (f:Int)+-1*(k:Int)=((f - k:Nat):Int) by omega,Int.emod_eq_of_lt (by omega) (by omega)]
  .rw[←Int.add_emod_right,show (f:Int)+-1*(k:Int)+(many:Int)=((f+many - k:Nat):Int) by omega,Int.emod_eq_of_lt (by omega) (by omega)]
noncomputable def bR(acts:Nat):List Dr:=List.replicate acts .shut
def dK'(many f:Nat)(b:Bool)(k:Nat):Dr:=if k+1=many then .torn else .must (oN many f b (k+1))
noncomputable def rwA(many acts f a:Nat)(b:Bool):Nat->List (List Dr)
 | 0=>List.replicate many (bR acts)
 | k+1=>setR (rwA many acts f a b k) (oN many f b k) a (dK' many f b k)
variable{acts a:Nat}
theorem wM(k:Nat):(rwA many acts f a b k).length=many:=by
 induction k with
 | zero=>simp[rwA]
 | succ k ih=>unfold rwA setR;rw[List.length_set];exact ih
theorem O1(hf:f<many):∀(m k:Nat),m<=many->k<many->(rwA many acts f a b m).getD (oN many f b k) []=if k<m then (bR acts).set a (dK' many f b k) else bR acts
 | 0,k,hm,hk=>by
  rw[if_neg (by omega)]
  unfold rwA
  rw[List.getD_eq_getElem?_getD,List.getElem?_replicate,if_pos (yM hf hk)]
  rfl
 | m+1,k,hm,hk=>by
  have ih:=O1 hf m k (by omega) hk
  unfold rwA setR
  rw[List.getD_eq_getElem?_getD]
  by_cases z:k=m
  .subst z
   rw[List.getElem?_set_self (by rw[wM];exact yM hf hk),if_pos (by omega),ih,if_neg (by omega)]
   rfl
  .have ne:oN many f b m≠oN many f b k:=λq=>z (by
    have:=congrArg (iN many f b) q
    rw[JZ hf (by omega),JZ hf hk] at this
    exact this.symm)
   rw[List.getElem?_set_ne ne,←List.getD_eq_getElem?_getD,ih]
   by_cases q:k<m
   .rw[if_pos q,if_pos (by omega)]
   .rw[if_neg q,if_neg (by omega)]
theorem Ce(hf:f<many):∀m,m<=many->Rows many acts true (rwA many acts f a b m)
 | 0,_=>⟨wM 0,λr hr=>by
   unfold rwA at hr
   rw[List.eq_of_mem_replicate hr]
   exact⟨by simp[bR],λx hx=>by rw[List.eq_of_mem_replicate hx];trivial⟩⟩
 | m+1,h=>by
  have R:=Ce hf m (by omega)
  unfold rwA
  refine R.set (yM hf (by omega)) a ?_
  unfold dK'
  split
  .rfl
  .exact yM hf (by omega)
noncomputable def ρL(many f:Nat)(b:Bool)(n:Nat):Option Nat:=if n<many then some (many - 1 - iN many f b n) else none
theorem HJ(hf:f<many){n:Nat}(hn:n<many):(rwA many acts f a b many)[n]?=some ((bR acts).set a (dK' many f b (iN many f b n))):=by
 have g:=O1 (acts:=acts) (a:=a) (b:=b) hf many (iN many f b n) (Nat.le_refl _) (wy hf hn)
 rw[oN_iN hf hn,if_pos (wy hf hn),List.getD_eq_getElem?_getD] at g
 rw[List.getElem?_eq_getElem (by rw[wM];exact hn)] at g ⊢
 rw[←g]
 rfl
theorem z8(ha:a<acts){x y:Dr}:y∈(bR acts).set a x↔y=x∨(y=.shut/\1<acts):=by
 constructor
 .intro h
  obtain⟨i,hi,e⟩:=List.getElem_of_mem h
  rw[List.length_set] at hi
  simp only[bR,List.length_replicate] at hi
  by_cases z:i=a
  .subst z;rw[List.getElem_set_self] at e;exact .inl e.symm
  .rw[List.getElem_set_ne (Ne.symm z)] at e
   refine .inr ⟨?_,by omega⟩
   rw[←e];simp[bR]
 .rintro (rfl | ⟨rfl,h⟩)
  .exact List.mem_iff_getElem.mpr ⟨a,by simp[bR];exact ha,by simp⟩
  .refine List.mem_iff_getElem.mpr ⟨if a=0 then 1 else 0,by simp[bR];split <;> omega,?_⟩
   rw[List.getElem_set_ne (by split <;> omega)]
   simp[bR]
theorem fst_at{i:Int}{g:Dr->Option Int}(h0:g .shut=none){x:Dr}(hx:g x=some i):∀(acts a k:Nat),a<acts->gY i (((bR acts).set a x).map g) k=some (k+a)
 | 0,a,k,h=>absurd h (Nat.not_lt_zero _)
 | n+1,0,k,_=>by
  show gY i (g x::_) k=_
  unfold gY
  rw[if_pos hx]
  rfl
 | n+1,a+1,k,h=>by
  show gY i (g .shut::((bR n).set a x).map g) k=_
  unfold gY
  rw[if_neg (by rw[h0];simp),fst_at h0 hx n a (k+1) (by omega)]
  congr 1
  omega
noncomputable def dueL(many f a:Nat)(b:Bool):List T3:=(List.range many).map λr=>(oN many f b (many - 1 - r),r,a)
theorem due_long(hf:f<many)(hm:many<=2000)(ha:a<acts):Due (rwA many acts f a b many) many (ρL many f b) (dueL many f a b):=by
 have ln:∀{n row},(rwA many acts f a b many)[n]?=some row->n<many/\row=(bR acts).set a (dK' many f b (iN many f b n)):=fun{n row} e=>by
  have l:=(List.getElem?_eq_some_iff.mp e).1
  rw[wM] at l
  rw[HJ hf l] at e
  exact⟨l,(Option.some.inj e).symm⟩
 have ρe:∀{n r},ρL many f b n=some r->n<many/\r=many - 1 - iN many f b n:=fun{n r} h=>by
  unfold ρL at h
  split at h
  .exact⟨by assumption,(Option.some.inj h).symm⟩
  .cases h
 have ρo:∀k,k<many->ρL many f b (oN many f b k)=some (many - 1 - k):=λk hk=>by
  unfold ρL
  rw[if_pos (yM hf hk),JZ hf hk]
 refine⟨⟨λn=>?_,λn r h=>?_,λn m r ⟨row,er,hx⟩ h=>?_⟩,λt ht=>?_,λn r h=>?_,?_,.inr λn m r h1 h2=>?_⟩
 .constructor
  .intro h
   obtain⟨l,e⟩:=ρe h
   have li:=wy (b:=b) hf l
   refine⟨_,HJ hf l,List.any_eq_true.mpr ⟨.torn,(z8 ha).mpr (.inl ?_),rfl⟩⟩
   unfold dK'
   rw[if_pos (by omega)]
  .rintro⟨row,er,h⟩
   obtain⟨l,rfl⟩:=ln er
   obtain⟨x,hx,hT⟩:=List.any_eq_true.mp h
   have li:=wy (b:=b) hf l
   unfold ρL
   rw[if_pos l]
   rcases (z8 ha).mp hx with rfl | ⟨rfl,_⟩
   .unfold dK' at hT
    split at hT
    .congr 1;omega
    .cases hT
   .cases hT
 .obtain⟨l,e⟩:=ρe h
  have li:=wy (b:=b) hf l
  refine⟨oN many f b (iN many f b n+1),⟨_,HJ hf l,(z8 ha).mpr (.inl ?_)⟩,?_⟩
  .unfold dK';rw[if_neg (by omega)]
  .rw[ρo _ (by omega)];congr 1;omega
 .obtain⟨l,rfl⟩:=ln er
  have li:=wy (b:=b) hf l
  obtain⟨_,e⟩:=ρe h
  refine⟨many - 1 - iN many f b n,by unfold ρL;rw[if_pos l],?_⟩
  rcases (z8 ha).mp hx with q | ⟨q,_⟩
  .unfold dK' at q
   split at q
   .cases q
   .cases q
    rw[JZ hf (by omega)] at e
    omega
  .cases q
 .obtain⟨r,hr,rfl⟩:=List.mem_map.mp ht
  have hr:=List.mem_range.mp hr
  dsimp only
  have lo:=yM (b:=b) hf (show many - 1 - r<many by omega)
  refine⟨by rw[ρo _ (by omega)];congr 1;omega,_,HJ hf lo,?_⟩
  rw[JZ hf (by omega),fst_at (g:=bO (ρL many f b)) rfl ?_ acts a 0 ha,Nat.zero_add]
  unfold dK'
  split
  .show some (-1:Int)=_;congr 1;omega
  .show (ρL many f b _).map (λv:Nat=>(v:Int))=_
   rw[ρo _ (by omega),Option.map_some]
   congr 1
   omega
 .obtain⟨l,rfl⟩:=ρe h
  have li:=wy (b:=b) hf l
  refine⟨a,List.mem_map.mpr ⟨_,List.mem_range.mpr (show many - 1 - iN many f b n<many by omega),?_⟩⟩
  rw[show many - 1 - (many - 1 - iN many f b n)=iN many f b n by omega,oN_iN hf l]
 .refine List.pairwise_map.mpr (List.pairwise_lt_range.imp_of_mem fun{x y} hx hy h=>?_)
  have hx:=List.mem_range.mp hx
  have l1:=yM (b:=b) hf (show many - 1 - x<many by omega)
  unfold kN
  dsimp only
  omega
 .obtain⟨a1,a2⟩:=ρe h1
  obtain⟨b1,b2⟩:=ρe h2
  have c1:=wy (b:=b) hf a1
  have c2:=wy (b:=b) hf b1
  have e:iN many f b n=iN many f b m:=by omega
  have:=congrArg (oN many f b) e
  rwa [oN_iN hf a1,oN_iN hf b1] at this
end
end K13
namespace K13
open PySem L2 MX DL RT
theorem Gb{c many:Nat}{t:Bool}{ns:List (List Nat)}{rows:List (List Dr)}(P:Pl c many t ns rows){ρ:Nat->Option Nat}(di:Dist (Tn rows) (Ms rows) ρ)(h:(ρ 0).isSome=true):xr [plan c ns rows]=.ok .non:=by
 obtain⟨l,e,B⟩:=Kq P
 have hMs:∀n m,Ms rows n m->n<many:=λn m ⟨row,e,h⟩=>by rw[←P.R.n];exact(List.getElem?_eq_some_iff.mp e).1
 have eρ:rk l=ρ:=(B.dist hMs).eq di
 show ((uE [ss (plan c ns rows),none,none,none]).bind iG).aZ=_
 unfold uE
 refine aX (δ':=[ss (plan c ns rows),ss (.dK (dN l)),none,none]) (bA (cH (ds:=[plan c ns rows]) (aC rfl rfl) rfl e) rfl) ?_
 refine Cd ?_ rfl
 unfold dInX
 show Out.ok (zf (dN l) (.inl ((0:Nat):Int)))=_
 rw[has_rk,eρ,h]
theorem b63{n:Nat}(h:n<=1000):-(2 ^ 63)<=(n:Int)/\(n:Int)<2 ^ 63:=⟨by omega,by omega⟩
theorem OJ(d:D):∀n:Nat,(List.replicate n [d]).flatten=List.replicate n d
 | 0=>rfl
 | n+1=>by rw[List.replicate_succ,List.flatten_cons,OJ d n,List.replicate_succ];rfl
theorem rep_ok{fa fb:DSt->Out D}{δ:DSt}{d:D}{n:Nat}(h1:fa δ=.ok (.lst [d]))(h2:fb δ=.ok (.int (n:Nat)))(hn:n<=1000):repL fa fb δ=.ok (List.replicate n d):=by
 unfold repL
 rw[h1,Out.aM,h2,Out.aM]
 show (if _ then _ else _)=_
 rw[if_pos ⟨(b63 hn).1,(b63 hn).2,by rw[Int.toNat_natCast,List.length_singleton,Nat.one_mul];exact Nat.le_trans hn (by decide)⟩,Int.toNat_natCast,OJ]
theorem ix_last{n:Nat}(h:1<=n):ixN n (-1)=some (n - 1):=by
 unfold ixN
 first
  | (rw[if_neg (by omega),if_pos (by omega)];congr 1;omega)
  | (simp only[];split <;> first | omega | (split <;> first | (congr 1;omega) | omega))
noncomputable def stL(x:Int)(nm:D)(many act f:Nat)(w:Int)(o:List Nat)(s7:Sl)(x8 x9 x10:Option Sl):DSt:=[ss (.int x),ss nm,si many,si act,si f,ss (.int w),ss (.lst (hL o)),some s7,x8,x9,x10]
theorem hL_ix{o:List Nat}{k n:Nat}{fa fb:DSt->Out D}{δ:DSt}(h1:fa δ=.ok (.lst (hL o)))(h2:fb δ=.ok (.int (k:Nat)))(h:o[k]?=some n):o2 ixD fa fb δ=.ok (.int (n:Nat)):=ix_ok h1 h2 (by unfold hL;rw[List.getElem?_map,h];rfl)
theorem F_long{x:Int}(h0:0<=x){nm:List (List Nat)}(N:Names nm):mH [.int x,.lst (aO nm)]=.ok (.bl true):=by
 have nl:(aO nm).length=nm.length:=by simp[aO]
 have n1:=N.lo
 have n8:=N.hi
 obtain⟨m0,em,lm⟩:=jq x (m:=200) (by decide)
 obtain⟨act,ea,la⟩:=jq (x / 200) (m:=nm.length) n1
 obtain⟨many,hmany⟩:∃many,many=1100+m0:=⟨_,rfl⟩
 obtain⟨f,ef,lf⟩:=jq (x / 1600) (m:=many) (by omega)
 obtain⟨b,eb⟩:∃b:Bool,1 - 2*(x / 8 % 2)=wN b:=by
  have b0:=Int.emod_nonneg (x / 8) (show (2:Int)≠0 by decide)
  have b1:=Int.emod_lt_of_pos (x / 8) (show (0:Int)<2 by decide)
  by_cases h:x / 8 % 2=0
  .exact⟨true,by rw[h];rfl⟩
  .exact⟨false,by rw[show x / 8 % 2=1 by omega];rfl⟩
 simp only[Int.cast_ofNat_Int] at em
 have hm2:many<=2000:=by omega
 let o:=(List.range many).map (oN many f b)
 have og:∀k,k<many->o[k]?=some (oN many f b k):=λk hk=>by simp[o,hk]
 have wb:(-2:Int)<=wN b/\wN b<=2:=by unfold wN;cases b <;> decide
 let z:List (Option Sl):=[none,none,none,none,none]
 have s1:bz 2 (o2 gq (kc (.int 1100)) (o2 du (gv 0) (kc (.int 200)))) ([ss (.int x),ss (.lst (aO nm)),none,none,none,none,none,none,none,none,none]:DSt)=.ok (.nx [ss (.int x),ss (.lst (aO nm)),si many,none,none,none,none,none,none,none,none]):=bA (by
  rw[pJ rfl (fJ rfl rfl (by decide)),em,hmany]
  rfl) rfl
 have s2:bz 3 (o2 du (o2 eQ (gv 0) (kc (.int 200))) (o1 dj (gb 1))) ([ss (.int x),ss (.lst (aO nm)),si many,none,none,none,none,none,none,none,none]:DSt)=.ok (.nx [ss (.int x),ss (.lst (aO nm)),si many,si act,none,none,none,none,none,none,none]):=bA (by
  rw[fJ (pP rfl rfl ⟨by decide,by decide⟩) (yH (ds:=aO nm) rfl) (by rw[nl];omega),nl,ea]) rfl
 have s3:bz 4 (o2 du (o2 eQ (gv 0) (kc (.int 1600))) (gv 2)) ([ss (.int x),ss (.lst (aO nm)),si many,si act,none,none,none,none,none,none,none]:DSt)=.ok (.nx [ss (.int x),ss (.lst (aO nm)),si many,si act,si f,none,none,none,none,none,none]):=bA (by
  rw[fJ (pP rfl rfl ⟨by decide,by decide⟩) rfl (by omega),ef]) rfl
 have s4:bz 5 (o2 nZ (kc (.int 1)) (o2 qY (kc (.int 2)) (o2 du (o2 eQ (gv 0) (kc (.int 8))) (kc (.int 2))))) ([ss (.int x),ss (.lst (aO nm)),si many,si act,si f,none,none,none,none,none,none]:DSt)=.ok (.nx [ss (.int x),ss (.lst (aO nm)),si many,si act,si f,ss (.int (wN b)),none,none,none,none,none]):=bA (by
  rw[vL rfl (Bv rfl (fJ (pP rfl rfl ⟨by decide,by decide⟩) rfl (by decide)) (uA (by decide) (by decide))),eb]) rfl
 have s5:bz 6 (gG (bj [none,some 2,some 4,some 5] (tK (gv 2)) (gN 0) (λ_=>.ok true) fP)) ([ss (.int x),ss (.lst (aO nm)),si many,si act,si f,ss (.int (wN b)),none,none,none,none,none]:DSt)=.ok (.nx [ss (.int x),ss (.lst (aO nm)),si many,si act,si f,ss (.int (wN b)),ss (.lst (hL o)),none,none,none,none]):=by
  have rg:=iD (f:=gv 2) (δ:=[ss (.int x),ss (.lst (aO nm)),si many,si act,si f,ss (.int (wN b)),none,none,none,none,none]) (n:=many) rfl (by omega)
  have c:=cB (cap:=[none,some 2,some 4,some 5]) (fe:=fP) (λk:Nat=>D.int k) (λk:Nat=>D.int (oN many f b k:Nat)) (List.range many) rg (by simp;omega) (λk hk=>by
   have hk:=List.mem_range.mp hk
   show fP [si k,si many,si f,ss (.int (wN b))]=_
   unfold fP
   rw[fJ (pJ rfl (Bv rfl rfl (uA (by omega) (by omega)))) rfl (by omega),oN_mod lf hk])
  exact bA (fZ c) (by simp[hL,o])
 have s6:jc 7 (bj [none,some 1] (tK (gv 2)) (gN 0) (λ_=>.ok true) fQ) ([ss (.int x),ss (.lst (aO nm)),si many,si act,si f,ss (.int (wN b)),ss (.lst (hL o)),none,none,none,none]:DSt)=.ok (.nx (stL x (.lst (aO nm)) many act f (wN b) o (.oll (rLL (rwA many nm.length f act b 0))) none none none)):=by
  have rg:=iD (f:=gv 2) (δ:=[ss (.int x),ss (.lst (aO nm)),si many,si act,si f,ss (.int (wN b)),ss (.lst (hL o)),none,none,none,none]) (n:=many) rfl (by omega)
  have c:=cB (cap:=[none,some 1]) (fe:=fQ) (λk:Nat=>D.int k) (λ_:Nat=>(bR nm.length).map Dr.d) (List.range many) rg (by simp;omega) (λk hk=>by
   show fQ [si k,ss (.lst (aO nm))]=_
   unfold fQ
   rw[rep_ok (d:=Dr.shut.d) (n:=nm.length) (by unfold sZ;rw[aC (tup2 (a:=.str "shut") (b:=.non) rfl rfl) rfl];rfl) (by rw[yH (ds:=aO nm) rfl,nl]) (by omega)]
   simp[bR])
  refine Cm c ?_
  have e:(List.range many).map (λ_:Nat=>(bR nm.length).map Dr.d)=rLL (rwA many nm.length f act b 0):=by
   unfold rwA rLL
   rw[List.map_replicate,List.map_const',List.length_range]
  rw[e]
  rfl
 have lo:∀k,k<many->∀(m:Nat)(x8:Option Sl),m<=many->oN many f b k<(rwA many nm.length f act b m).length/\((rwA many nm.length f act b m).getD (oN many f b k) []).length=nm.length:=λk hk m x8 hm=>by
  have R:=Ce (acts:=nm.length) (a:=act) (b:=b) lf m hm
  have l1:oN many f b k<(rwA many nm.length f act b m).length:=by rw[wM];exact yM lf hk
  refine⟨l1,?_⟩
  rw[List.getD_eq_getElem?_getD,List.getElem?_eq_getElem l1]
  exact(R.row _ (List.getElem_mem l1)).1
 obtain⟨δ',e7,y8,rfl⟩:=eU (body:=fO) (tg:=gN 8) (λk:Nat=>D.int k) (λdone δ=>∃x8,δ=stL x (.lst (aO nm)) many act f (wN b) o (.oll (rLL (rwA many nm.length f act b done.length))) x8 none none) (List.range (many - 1)) (stL x (.lst (aO nm)) many act f (wN b) o (.oll (rLL (rwA many nm.length f act b 0))) none none none) (by
  rintro k done rest δ e ⟨x8,rfl⟩
  have hk:k=done.length:=by
   have h1:(List.range (many - 1))[done.length]?=some k:=by rw[e];simp
   have h2:=(List.getElem?_eq_some_iff.mp h1).2
   simpa using h2.symm
  have hd:done.length<many - 1:=by
   have:=congrArg List.length e
   simp at this
   omega
  subst hk
  refine⟨stL x (.lst (aO nm)) many act f (wN b) o (.oll (rLL (rwA many nm.length f act b done.length))) (si done.length) none none,rfl,?_⟩
  have L:=lo done.length (by omega) done.length none (by omega)
  have q1:o2 ixD (gvo 6) (gv 8) (stL x (.lst (aO nm)) many act f (wN b) o (.oll (rLL (rwA many nm.length f act b done.length))) (si done.length) none none)=.ok (.int (oN many f b done.length:Nat)):=hL_ix rfl rfl (og _ (by omega))
  have q2:o2 ixD (gvo 6) (o2 gq (gv 8) (kc (.int 1))) (stL x (.lst (aO nm)) many act f (wN b) o (.oll (rLL (rwA many nm.length f act b done.length))) (si done.length) none none)=.ok (.int (oN many f b (done.length+1):Nat)):=hL_ix (k:=done.length+1) rfl (pJ (i:=(done.length:Nat)) (j:=1) rfl rfl) (og _ (by omega))
  have q:fO (stL x (.lst (aO nm)) many act f (wN b) o (.oll (rLL (rwA many nm.length f act b done.length))) (si done.length) none none)=.ok (.nx (stL x (.lst (aO nm)) many act f (wN b) o (.oll (rLL (rwA many nm.length f act b (done.length+1)))) (si done.length) none none)):=by
   unfold fO
   refine Hx (dss:=rLL (rwA many nm.length f act b done.length)) (d:=(dK' many f b done.length).d) (j:=oN many f b done.length) (l:=act) ?_ rfl q1 (by unfold rLL;rw[List.length_map];exact L.1) rfl (by rw[Hy _ L.1,L.2];exact la) ?_
   .rw[tup2 rfl q2]
    unfold dK'
    rw[if_neg (by omega)]
    rfl
   .rw[Hz _ L.1]
    rfl
  rw[q]
  exact⟨_,by rw[List.length_append];rfl⟩) ⟨none,rfl⟩
 rw[List.length_range] at e7
 have s7:dB (tK (o2 nZ (gv 2) (kc (.int 1)))) (gN 8) fO (stL x (.lst (aO nm)) many act f (wN b) o (.oll (rLL (rwA many nm.length f act b 0))) none none none)=.ok (.nx (stL x (.lst (aO nm)) many act f (wN b) o (.oll (rLL (rwA many nm.length f act b (many - 1)))) y8 none none)):=by
  have hs:o2 nZ (gv 2) (kc (.int 1)) (stL x (.lst (aO nm)) many act f (wN b) o (.oll (rLL (rwA many nm.length f act b 0))) none none none)=.ok (.int ((many - 1:Nat):Int)):=(vL (i:=(many:Int)) (j:=1) rfl rfl).trans (by rw[show (many:Int) - 1=((many - 1:Nat):Int) by omega])
  have rg:=iD (n:=many - 1) hs (by omega)
  unfold dB
  rw[rg]
  exact e7
 have ng:o1 wH (kc (.int 1)) (stL x (.lst (aO nm)) many act f (wN b) o (.oll (rLL (rwA many nm.length f act b (many - 1)))) y8 none none)=.ok (.int (-1)):=rfl
 have ol:(hL o).length=many:=by simp[hL,o]
 have s8:tM 7 (dh (ao (kc (.str "torn")) (ao (kc .non) aK))) (o2 ixD (gvo 6) (o1 wH (kc (.int 1)))) (gv 3) (stL x (.lst (aO nm)) many act f (wN b) o (.oll (rLL (rwA many nm.length f act b (many - 1)))) y8 none none)=.ok (.nx (stL x (.lst (aO nm)) many act f (wN b) o (.oll (rLL (rwA many nm.length f act b many))) y8 none none)):=by
  have L:=lo (many - 1) (by omega) (many - 1) none (by omega)
  have q1:o2 ixD (gvo 6) (o1 wH (kc (.int 1))) (stL x (.lst (aO nm)) many act f (wN b) o (.oll (rLL (rwA many nm.length f act b (many - 1)))) y8 none none)=.ok (.int (oN many f b (many - 1):Nat)):=nu (x:=.lst (hL o)) (y:=.int (-1)) rfl ng (by
   rw[J0]
   unfold atI
   rw[ol,ix_last (show 1<=many by omega)]
   show (hL o)[many - 1]?=_
   unfold hL
   rw[List.getElem?_map,og _ (by omega)]
   rfl)
  refine Hx (dss:=rLL (rwA many nm.length f act b (many - 1))) (d:=(dK' many f b (many - 1)).d) (j:=oN many f b (many - 1)) (l:=act) ?_ rfl q1 (by unfold rLL;rw[List.length_map];exact L.1) rfl (by rw[Hy _ L.1,L.2];exact la) ?_
  .rw[tup2 rfl rfl]
   unfold dK'
   rw[if_pos (by omega)]
   rfl
  .rw[Hz _ L.1]
   have e:many - 1+1=many:=by omega
   rw[show rwA many nm.length f act b many=rwA many nm.length f act b (many - 1+1) by rw[e]]
   rfl
 have R:=Ce (acts:=nm.length) (a:=act) (b:=b) lf many (Nat.le_refl _)
 have U:=due_long (acts:=nm.length) (a:=act) (b:=b) lf hm2 la
 have P:Pl aH many true nm (rwA many nm.length f act b many):=⟨.inl rfl,N,R,by omega,hm2⟩
 have ei:=K9 true many nm _ N R (by omega) hm2
 have fz:(rLL (rwA many nm.length f act b many)).map D.lst=(rwA many nm.length f act b many).map λr=>D.lst (r.map Dr.d):=by simp[rLL]
 let st9 (y9 y10:Option Sl):=stL x (.lst (aO nm)) many act f (wN b) o (.sh (bf (rwA many nm.length f act b many))) y8 y9 y10
 have s9:frzd 7 (bz 9 (oMk aH 2 mK (ao (gv 1) (ao (gv 7) aK)))) (stL x (.lst (aO nm)) many act f (wN b) o (.oll (rLL (rwA many nm.length f act b many))) y8 none none)=.ok (.nx (st9 (ss (plan aH nm (rwA many nm.length f act b many))) none)):=by
  show bz 9 (oMk aH 2 mK (ao (gv 1) (ao (gv 7) aK))) (stL x (.lst (aO nm)) many act f (wN b) o (.sh (.lst ((rLL (rwA many nm.length f act b many)).map D.lst))) y8 none none)=_
  rw[fz]
  exact bA (mk_ok (ds:=[.lst (aO nm),bf (rwA many nm.length f act b many)]) (aC rfl (aC rfl rfl)) rfl ei) rfl
 have s10:bz 10 (gG (bj [none,some 3,some 6,some 2] (tK (gv 2)) (gN 0) (λ_=>.ok true) fU)) (st9 (ss (plan aH nm (rwA many nm.length f act b many))) none)=.ok (.nx (st9 (ss (plan aH nm (rwA many nm.length f act b many))) (ss (tr3 (dueL many f act b))))):=by
  have rg:=iD (f:=gv 2) (δ:=st9 (ss (plan aH nm (rwA many nm.length f act b many))) none) (n:=many) rfl (by omega)
  have c:=cB (cap:=[none,some 3,some 6,some 2]) (fe:=fU) (λk:Nat=>D.int k) (λr:Nat=>tD (tN (oN many f b (many - 1 - r),r,act))) (List.range many) rg (by simp;omega) (λr hr=>by
   have hr:=List.mem_range.mp hr
   show fU [si r,si act,ss (.lst (hL o)),si many]=_
   unfold fU
   have hs:o2 nZ (o2 nZ (gv 3) (kc (.int 1))) (gv 0) [si r,si act,ss (.lst (hL o)),si many]=.ok (.int ((many - 1 - r:Nat):Int)):=(vL (vL (i:=(many:Int)) (j:=1) rfl rfl) (j:=(r:Int)) rfl).trans (by rw[show (many:Int) - 1 - (r:Int)=((many - 1 - r:Nat):Int) by omega])
   exact tup3 (hL_ix (k:=many - 1 - r) rfl hs (og _ (by omega))) rfl rfl)
  refine bA (fZ c) ?_
  simp only[tr3,trs,dueL,List.map_map]
  rfl
 have e11:=ut P U
 have e12:=F_torn P ((dueL many f act b).map tN) (by simp[dueL];omega)
 rw[Ef R U] at e12
 have e13:=Gb P U.di (by unfold ρL;rw[if_pos (by omega)];rfl)
 show ((m9 ([ss (.int x),ss (.lst (aO nm)),none,none,none,none,none,none,none,none,none]:DSt)).bind iG).aZ=_
 unfold m9
 refine aX s1 (aX s2 (aX s3 (aX s4 (aX s5 (aX s6 (aX s7 (aX s8 (aX s9 (aX s10 (jt ?_))))))))))
 refine vW (x:=true) (y:=true) (uR (cT (x:=tr3 (dueL many f act b)) (y:=tr3 (dueL many f act b)) (cH (ds:=[plan aH nm (rwA many nm.length f act b many)]) (aC rfl rfl) rfl ?_) rfl ?_)) λ_=>vW (x:=true) (y:=true) (uR (cT (x:=.bl true) (y:=.bl true) (cH (ds:=[plan aH nm (rwA many nm.length f act b many),tr3 (dueL many f act b)]) (aC rfl (aC rfl rfl)) rfl e12) rfl rfl)) λ_=>uR (cT (x:=.non) (y:=.non) (cH (ds:=[plan aH nm (rwA many nm.length f act b many)]) (aC rfl rfl) rfl e13) rfl rfl)
 .unfold dOf
  rw[e11]
  simp only[tr3,trs,List.map_map]
  rfl
 .exact oA (kO 49 _ _ λt _=>by simp[tD,dU,jO])
end K13
namespace K13
open PySem L2 MX DL RT
theorem Jc(r:List Dr)(h:r.length<=8):rH [.tup (r.map Dr.ob)]=.ok (r.map Dr.d):=by
 show ((nq [ss (.tup (r.map Dr.ob))]).bind endF).aZ=_
 have c1:bj [none] (bL (gv 0)) (gN 0) (λ_=>.ok true) uV [ss (.tup (r.map Dr.ob))]=.ok (r.map Dr.d):=cB Dr.ob Dr.d r rfl (by omega) λx _=>M_told' x _ _ rfl
 unfold nq Ci
 rw[c1]
 rfl
theorem Ag{c many:Nat}{t:Bool}{ns:List (List Nat)}{rows:List (List Dr)}(P:Pl c many t ns rows){δ:DSt}{fo:DSt->Out D}(h:fo δ=.ok (plan c ns rows)):oM "told" 1 (K4 je) fo aK δ=.ok (bf rows):=by
 have e:gM [plan c ns rows]=.ok (rLL rows):=by
  show ((j4 [ss (plan c ns rows)]).bind Bb).aZ=_
  have q0:bL (iH "rooms" [aH,bU] (gv 0)) [ss (plan c ns rows)]=.ok (rows.map λr=>.tup (r.map Dr.ob)):=by
   unfold bL
   rw[oE P rfl]
   rfl
  have c1:bj [none] (bL (iH "rooms" [aH,bU] (gv 0))) (gN 0) (λ_=>.ok true) lQ [ss (plan c ns rows)]=.ok (rLL rows):=cB (λr:List Dr=>D.tup (r.map Dr.ob)) (λr=>r.map Dr.d) rows q0 (by have:=P.R.n;have:=P.hi;omega) λr hr=>by
   unfold lQ oFl
   show (Out.ok [D.tup (r.map Dr.ob)]).bind _=_
   have e:=Jc r (by rw[(P.R.row r hr).1];exact P.N.hi)
   simp only[Out.aM,List.length_singleton,if_true]
   exact e
  unfold j4 Nj
  rw[c1]
  rfl
 have e2:(dOff gM) [plan c ns rows]=.ok (bf rows):=by
  unfold dOff
  rw[e]
  simp[rLL,bf]
 unfold plan at h e2
 rcases P.c with rfl | rfl <;> simp only[eE,jN,iG,aR,dX,bz,lV,jc,sIf,bG,dB,Cg,yO,sClr,sClr2,tM,gv,gb,gvo,slD,o1,o2,o2b,o3,oC,oF,oM,oMk,iH,mz,bV,qW,orT,gA,tst,vf,orV,notV,ifV,aK,ao,dh,sZ,Ar,bL,gG,kc,uO,frzd,frz,frzS,wH,Ff,Iv,zX,wk,zW,Gd,NP,asB_b,Mt,Mu,Mv,J0,ixD_r,Bq,Mj,GC,atI_0,atI_1,atI_2,MF,MJ,Gm,MN,isND,uX,vA,gN,cN,aQ,gT,Out.aM,Out.FJ,Out.vh,Out.cU,Out.BR,Out.jr,M3,List.map_cons,List.map_nil,List.length_cons,List.length_nil,List.append_assoc,List.nil_append,List.cons_append,List.getElem?_cons_zero,List.getElem?_cons_succ,List.getElem?_nil,List.set_cons_zero,List.set_cons_succ,Nat.zero_add,Nat.reduceAdd,Nat.reduceSub,List.replicate_succ,List.replicate_zero,List.lookup_cons,List.lookup_nil,Option.some.injEq,Option.bind_some,Option.map_some,Nat.reduceBEq,Nat.reduceEqDiff,Int.reduceLT,Int.reduceLE,Int.reduceNeg,Int.reduceAdd,Int.reduceMul,Int.reduceSub,Nat.reduceLeDiff,reduceIte,ite_true,decide_true,decide_false,Bool.not_true,Bool.not_false,Nat.reduceEqDiff,Bool.false_eq_true,Option.isNone_none,Option.isNone_some,Hc,String.reduceBEq,String.reduceEq,beq_self_eq_true,List.contains_cons,List.contains_nil,Bool.or_false,Bool.or_true,Bool.true_or,Bool.false_or,Bool.and_true,Bool.and_false,Bool.true_and,Bool.false_and,Bool.not_eq_true,eq_self_iff_true,Int.cast_ofNat_Int,Int.reduceBEq,Int.natCast_zero,h,K4,je,aH,bU,List.map_cons,List.map_nil] at e2 ⊢ <;> exact e2
theorem Mr(ts:List Tr)(hl:ts.length<=3000):jT [trs ts]=.ok (.bl true):=by
 obtain⟨δ',e,x1,x2,rfl⟩:=eU (body:=lK) (tg:=gN 1) tD (λ_ δ=>∃x1 x2,δ=[ss (trs ts),x1,x2]) ts [ss (trs ts),none,none] (by
  rintro t done rest δ _ ⟨x1,x2,rfl⟩
  refine⟨[ss (trs ts),ss (tD t),x2],rfl,?_⟩
  have t1:orT (gA (tst (mz cW (gb 1)))) (o2b neD (o1 dj (gb 1)) (kc (.int 3))) [ss (trs ts),ss (tD t),x2]=.ok false:=by
   unfold tD
   walk_at "ev: cW my"
  obtain⟨δ',e,y2,rfl⟩:=eU (body:=iw) (tg:=gN 2) D.int (λ_ δ=>∃y2,δ=[ss (trs ts),ss (tD t),y2]) [t.1,t.2.1,t.2.2] [ss (trs ts),ss (tD t),x2] (by
   rintro n done rest δ _ ⟨y2,rfl⟩
   refine⟨[ss (trs ts),ss (tD t),ss (.int n)],rfl,?_⟩
   have t2:orT (gA (tst (mz fX (gb 2)))) (tst (mz dR (gb 2))) [ss (trs ts),ss (tD t),ss (.int n)]=.ok false:=by
    walk_at "ev: fX dR my"
   unfold iw
   rw[qt t2]
   exact⟨_,rfl⟩) ⟨x2,rfl⟩
  unfold lK
  rw[cM (δ':=[ss (trs ts),ss (tD t),x2]) (by rw[qt t1];rfl)]
  rw[show dB (bL (gv 1)) (gN 2) iw [ss (trs ts),ss (tD t),x2]=.ok (.nx [ss (trs ts),ss (tD t),y2]) from e]
  exact⟨_,_,rfl⟩) ⟨none,none,rfl⟩
 show ((j6 [ss (trs ts),none,none]).bind iG).aZ=_
 unfold j6
 exact aX (by unfold dB;exact e) rfl
def wh:Dr->Dr
 | .torn=>.shut
 | x=>x
noncomputable def tL(rows:List (List Dr)):List (List Dr):=rows.map λr=>r.map wh
theorem wh_ok{many:Nat}{t:Bool}{x:Dr}(h:x.ok many t):(wh x).ok many false:=by
 cases x <;> first | exact h | trivial
theorem wh_T(x:Dr):isT (wh x)=false:=by cases x <;> rfl
theorem rowsW_ok{many acts:Nat}{t:Bool}{rows:List (List Dr)}(R:Rows many acts t rows):Rows many acts false (tL rows) :=
 ⟨by unfold tL;rw[List.length_map];exact R.n,λr hr=>by
  obtain⟨s,hs,rfl⟩:=List.mem_map.mp hr
  refine⟨by rw[List.length_map];exact(R.row s hs).1,λx hx=>?_⟩
  obtain⟨y,hy,rfl⟩:=List.mem_map.mp hx
  exact wh_ok ((R.row s hs).2 y hy)⟩
theorem dueW{many:Nat}(rows:List (List Dr))(hm:many<64):Due (tL rows) many (λ_=>none) []:=by
 refine⟨⟨λn=>⟨λh=>(by cases h),λ⟨row,er,h⟩=>?_⟩,λn r h=>(by cases h),λn m r _ h=>(by cases h)⟩,by simp,λn r h=>(by cases h),List.Pairwise.nil,.inl hm⟩
 unfold tL at er
 rw[List.getElem?_map] at er
 obtain⟨s,_,rfl⟩:=Option.map_eq_some_iff.mp er
 rw[List.any_map] at h
 obtain⟨x,_,hx⟩:=List.any_eq_true.mp h
 have hx:isT (wh x)=true:=hx
 rw[wh_T] at hx
 cases hx
theorem GX{f:DSt->Out D}{δ:DSt}{ds:List D}(h:f δ=.ok (.lst ds)):oC (uO wG) (ao f aK) δ=.ok (.lst ds):=by
 unfold oC
 rw[aC h rfl]
 rfl
theorem GP(ts:List Tr):dU 50 (trs ts)=true:=kO 49 _ _ λt _=>by simp[tD,dU,jO]
noncomputable def stZ(s:D)(c:Int)(acts:Nat)(nm:List (List Nat))(rows:List (List Dr))(x5 x6 x7 x8 x9:Option Sl):DSt:=[ss s,ss (.int c),si acts,ss (.lst (aO nm)),ss (bf rows),x5,x6,x7,x8,x9]
theorem Lb(ns:List Int)(hl:ns.length<=63):F_law [.rol (ns.map .int)]=.ok (.bl true):=by
 have e1:=F_cell ns 0
 generalize ns.getD 0 0=c at e1
 obtain⟨acts,e2,ha1,ha8⟩:=F_many c
 obtain⟨nm,e4,N,hn⟩:=F_names c acts ha1 ha8
 obtain⟨many,rows,e3,R,hm1,hm12⟩:=F_draft ns ha1 ha8
 have R':Rows many nm.length true rows:=by rw[hn];exact R
 have P:Pl aH many true nm rows:=⟨.inl rfl,N,R',hm1,by omega⟩
 have ei:=K9 true many nm rows N R' hm1 (by omega)
 have RW:=rowsW_ok R'
 have PW:Pl bU many false nm (tL rows):=⟨.inr rfl,N,RW,hm1,by omega⟩
 have ew:=K9 false many nm (tL rows) N RW hm1 (by omega)
 have e6:=F_ranks R hm12
 have U:=due_ok R.n (show many<64 by omega)
 generalize hdue:rnd rows many (many+1)=due at e6 U
 have e8:=ut P U
 have e9:=F_torn P (due.map tN) (by
  rw[List.length_map,←hdue]
  have I':=Ca rows (show many<=4000 by omega) (many+1)
  have:=lR many _ I'.nd λx hx=>by
   obtain⟨v,hv⟩:=sX.mp hx
   obtain⟨z,hz,q⟩:=List.mem_map.mp hv
   have:=(I'.lt z hz).1
   have:z.1=x:=congrArg Prod.fst q
   omega
  rw[vq,List.length_map] at this
  omega)
 rw[Ef R' U] at e9
 have e10:=ut PW (dueW rows (show many<64 by omega))
 have dl:due.length<=3000:=by
  rw[←hdue]
  have I':=Ca rows (show many<=4000 by omega) (many+1)
  have:=lR many _ I'.nd λx hx=>by
   obtain⟨v,hv⟩:=sX.mp hx
   obtain⟨z,hz,q⟩:=List.mem_map.mp hv
   have:=(I'.lt z hz).1
   have:z.1=x:=congrArg Prod.fst q
   omega
  rw[vq,List.length_map] at this
  omega
 have ek:=Mr (due.map tN) (by rw[List.length_map];exact dl)
 have mm:=jW c 43 (by decide) (by decide)
 have mn:=Oo c 43
 generalize oH c 43=mo at mm mn
 have el:=F_long (x:=mo / 16) (by omega) N
 have rl:rows.length<1000000:=by rw[R.n];omega
 let S:D:=.rol (ns.map .int)
 have td:due.map (λx=>tD (tN x))=(due.map tN).map tD:=by rw[List.map_map];rfl
 rw[td] at e8
 have s1:bz 1 (oF 2 cP (ao (gv 0) (ao (kc (.int 0)) aK))) ([ss S,none,none,none,none,none,none,none,none,none]:DSt)=.ok (.nx [ss S,ss (.int c),none,none,none,none,none,none,none,none]):=bA (cH (ds:=[S,.int (0:Nat)]) (aC rfl (aC rfl rfl)) rfl e1) rfl
 have s2:bz 2 (oF 1 jw (ao (gv 1) aK)) ([ss S,ss (.int c),none,none,none,none,none,none,none,none]:DSt)=.ok (.nx [ss S,ss (.int c),si acts,none,none,none,none,none,none,none]):=bA (cH (ds:=[.int c]) (aC rfl rfl) rfl e2) rfl
 have s3:bz 3 (oF 2 jU (ao (gv 1) (ao (gv 2) aK))) ([ss S,ss (.int c),si acts,none,none,none,none,none,none,none]:DSt)=.ok (.nx [ss S,ss (.int c),si acts,ss (.lst (aO nm)),none,none,none,none,none,none]):=bA (cH (ds:=[.int c,.int acts]) (aC rfl (aC rfl rfl)) rfl e4) rfl
 have s4:bz 4 (oF 2 (dOff jR) (ao (gv 0) (ao (gv 2) aK))) ([ss S,ss (.int c),si acts,ss (.lst (aO nm)),none,none,none,none,none,none]:DSt)=.ok (.nx (stZ S c acts nm rows none none none none none)):=bA (d:=bf rows) (cH (ds:=[S,.int acts]) (aC rfl (aC rfl rfl)) rfl (by unfold dOff;rw[e3];simp[rLL,bf])) rfl
 have cp:=cB (cap:=[none]) (fi:=bL (gv 4)) (fe:=GQ) (δ:=stZ S c acts nm rows none none none none none) (λr:List Dr=>D.lst (r.map Dr.d)) (λr:List Dr=>D.lst (r.map Dr.d)) rows rfl rl (λr _=>by
  show oC (uO wG) (ao (gv 0) aK) [ss (.lst (r.map Dr.d))]=_
  exact GX rfl)
 have s5:bz 5 (oMk aH 2 mK (ao (oC (uO wG) (ao (gv 3) aK)) (ao (gG (bj [none] (bL (gv 4)) (gN 0) (λ_=>.ok true) GQ)) aK))) (stZ S c acts nm rows none none none none none)=.ok (.nx (stZ S c acts nm rows (ss (plan aH nm rows)) none none none none)):=bA (mk_ok (ds:=[.lst (aO nm),bf rows]) (aC (GX rfl) (aC (fZ cp) rfl)) rfl ei) rfl
 have s6:bz 6 (o2 ixD (oF 1 jV (ao (gv 4) aK)) (kc (.int 1))) (stZ S c acts nm rows (ss (plan aH nm rows)) none none none none)=.ok (.nx (stZ S c acts nm rows (ss (plan aH nm rows)) (ss (tr3 due)) none none none)):=bA (tix1 (cH (ds:=[bf rows]) (aC rfl rfl) rfl e6)) rfl
 have s7:bz 7 (oF 2 bc (ao (gv 1) (ao (kc (.int 43)) aK))) (stZ S c acts nm rows (ss (plan aH nm rows)) (ss (tr3 due)) none none none)=.ok (.nx (stZ S c acts nm rows (ss (plan aH nm rows)) (ss (tr3 due)) (ss (.int mo)) none none)):=bA (cH (ds:=[.int c,.int 43]) (aC rfl (aC rfl rfl)) rfl mm) rfl
 let δ8:=stZ S c acts nm rows (ss (plan aH nm rows)) (ss (tr3 due)) (ss (.int mo))
 have t8:qW (o2b eqD (o2 du (gv 7) (kc (.int 16))) (kc (.int 0))) (gA (tst (oF 2 mH (ao (o2 eQ (gv 7) (kc (.int 16))) (ao (gv 3) aK))))) (δ8 none none)=.ok ((mo % 16==0) && !true):=gR (Bc (fJ rfl rfl (by decide)) rfl) λ_=>wI (yh (cH (ds:=[.int (mo / 16),.lst (aO nm)]) (aC (pP rfl rfl ⟨by decide,by decide⟩) (aC rfl rfl)) rfl el))
 rw[Bool.not_true,Bool.and_false] at t8
 have s9:lV 8 (oFl 1 gk (ao (gv 5) aK)) (δ8 none none)=.ok (.nx (δ8 (some (.ol ((due.map tN).map tD))) none)):=by
  refine wW ?_ rfl
  unfold oFl
  rw[show ao (gv 5) aK (δ8 none none)=.ok [plan aH nm rows] from rfl]
  exact e8
 let δ9:=δ8 (some (.ol ((due.map tN).map tD))) none
 have ne1:neD (trs (due.map tN)) (trs (due.map tN))=some false:=by unfold neD;rw[oA (GP _)];rfl
 have ne2:neD (bf rows) (bf rows)=some false:=by unfold neD;rw[oA (lay_rows _)];rfl
 have t10:orT (gA (tst (mz cG (gb 8)))) (orT (o2b neD (gb 8) (gb 6)) (gA (tst (sW 8 (oF 1 jT (ao (gv 8) aK)))))) δ9=.ok false:=by
  refine BV (x:=false) (y:=false) (wI (x:=true) (yh ?_)) λ_=>BV (x:=false) (y:=false) (cT (x:=trs (due.map tN)) (y:=trs (due.map tN)) rfl rfl ne1) λ_=>wI (x:=true) (yh (GR (s:=.ol ((due.map tN).map tD)) rfl rfl rfl (cH (ds:=[trs (due.map tN)]) (aC rfl rfl) rfl ek) rfl))
  show mz cG (gb 8) δ9=_
  unfold mz
  rw[show gb 8 δ9=.ok (.lst ((due.map tN).map tD)) from rfl]
  walk_at "ev: cG my"
 have t11:orT (o2b J8 (sW 8 (oF 2 fK (ao (gv 5) (ao (oC (uO wG) (ao (gv 8) aK)) aK)))) (kc (.bl true))) (o2b neD (oM "told" 1 (K4 je) (gv 5) aK) (gb 4)) δ9=.ok false:=BV (x:=false) (y:=false) (cT (x:=.bl true) (y:=.bl true) (GR (s:=.ol ((due.map tN).map tD)) rfl rfl rfl (cH (ds:=[plan aH nm rows,trs (due.map tN)]) (aC rfl (aC (GX rfl) rfl)) rfl e9) rfl) rfl rfl) λ_=>cT (x:=bf rows) (y:=bf rows) (Ag P rfl) rfl ne2
 let δ12:=δ8 (some (.ol []))
 have s12:sClr 8 δ9=.ok (.nx (δ12 none)):=rfl
 have cw:=cB (cap:=[none]) (fi:=bL (gv 4)) (fe:=wF) (δ:=δ12 none) (λr:List Dr=>D.lst (r.map Dr.d)) (λr:List Dr=>D.lst ((r.map wh).map Dr.d)) rows rfl rl (λr hr=>by
  show wF [ss (.lst (r.map Dr.d))]=_
  unfold wF
  refine fZ ((cB (cap:=[none]) (fe:=zV) Dr.d (λx=>(wh x).d) r rfl (by rw[(R.row r hr).1];omega) λx _=>?_).trans (by rw[List.map_map];rfl))
  show zV [ss x.d]=_
  have t:o2b eqD (o2 ixD (gvo 0) (kc (.int 0))) (kc (.str "torn")) [ss x.d]=.ok (isT x):=cT (tix0 (a:=.str x.w) (r:=[x.to]) rfl) rfl (eqT x)
  unfold zV ifV
  rw[t]
  simp only[Out.aM]
  cases x <;> rfl)
 have ew':(rows.map λr:List Dr=>D.lst ((r.map wh).map Dr.d))=(tL rows).map (λr=>D.lst (r.map Dr.d)):=by unfold tL;rw[List.map_map];rfl
 rw[ew'] at cw
 have s13:bz 9 (gG (bj [none] (bL (gv 4)) (gN 0) (λ_=>.ok true) wF)) (δ12 none)=.ok (.nx (δ12 (ss (bf (tL rows))))):=bA (fZ cw) rfl
 show ((g_law ([ss S,none,none,none,none,none,none,none,none,none]:DSt)).bind iG).aZ=_
 unfold g_law
 refine aX s1 (aX s2 (aX s3 (aX s4 (aX s5 (aX s6 (aX s7 (qR t8 (aX s9 (qR t10 (qR t11 (aX s12 (aX s13 (jt ?_)))))))))))))
 refine vW (x:=true) (y:=true) (uR (cT (x:=trs (due.map tN)) (y:=trs (due.map tN)) (cH (ds:=[plan aH nm rows]) (aC rfl rfl) rfl ?_) rfl (oA (GP _)))) λ_=>uR (cT (x:=trs []) (y:=trs []) (cH (ds:=[plan bU nm (tL rows)]) (aC (mk_ok (ds:=[.lst (aO nm),bf (tL rows)]) (aC rfl (aC rfl rfl)) rfl ew) rfl) rfl ?_) rfl (oA (GP [])))
 .unfold dOf
  rw[e8]
  rfl
 .unfold dOf
  rw[e10]
  rfl
end K13
namespace K13
open PySem L2 MX DL
def KH(K:Frag):Sp:=λvs H Q _=>∃(a:Addr)(ns:List Int),vs=[.ref a]/\SqL K H a (ns.map V.int)/\ns.length<=63/\∀H',Q (.bl true) H'
theorem Kr{K:Frag}{Γ:Nat->Option Addr}{G:Hp}:∀ns:List Int,au K Γ G (ns.map V.int) (ns.map D.int)
 | []=>.nil
 | n::r=>.cons (.int n) (Kr r)
theorem law_sp{P:Program}{w:World}{K:Frag}{mg:Str->Option Value}{base:Heap}{t:Ad}{f:Addr}{fd:FuncData}(F:OD P w K mg base (Ga t λ_=>none) J_law f fd):cJ P w K mg base CX0 10 f fd ["_law_script"] (KH K):=F.imp λvs H Q E qq=>by
 obtain⟨a,ns,e,hS,hl,k⟩:=qq;subst e
 refine⟨rfl,H,[.rol (ns.map .int)],aY.refl _,.cons (.rol hS (Kr ns)) .nil,?_⟩
 rw[show J_law.F [.rol (ns.map .int)]=.ok (.bl true) from Lb ns hl]
 intro v G' H' s r
 cases r
 exact k H'
set_option maxHeartbeats 8000000 in
theorem all_mk{l:PySem.W.OpenLaw}{w:World}{K:Frag}{h:Heap}{mg:Str->Option Value}{fa:Addr}(X:K.In h)(G:h.Ns mainGlobals mg)(hfa:mg "law"=some (.ref fa))
(gf:GetF K){xg:Addr}(c_Door:yX K "Door" xg){qZ:Addr}(Am:yX K "Must" qZ){yl:Addr}(Jr:yX K "May" yl){rm:Addr}(FN:yX K "Shut" rm){rn:Addr}(FP:yX K "Torn" rn){jf:Addr}(vZ:yX K "Draft" jf){nD:Addr}(An:yX K "Plan" nD)(fH:bI K jf "actions")
(bN:bI K jf "rooms")(kW:bI K yl "to")(iY:bI K qZ "to")(f9:bI K nD "actions")(cg:bI K nD "rooms")(iZ:bI K rm "to")(jb:bI K rn "to")(z_all:nsIn K mainGlobals "all"=some none)(z_any:nsIn K mainGlobals "any"=some none)
(z_bool:nsIn K mainGlobals "bool"=some none)(z_dict:nsIn K mainGlobals "dict"=some none)(K7:nsIn K mainGlobals "enumerate"=some none)(z_int:nsIn K mainGlobals "int"=some none)(Jd:nsIn K mainGlobals "isinstance"=some none)(z_len:nsIn K mainGlobals "len"=some none)
(z_list:nsIn K mainGlobals "list"=some none)(z_min:nsIn K mainGlobals "min"=some none)(z_range:nsIn K mainGlobals "range"=some none)(z_set:nsIn K mainGlobals "set"=some none)(z_sorted:nsIn K mainGlobals "sorted"=some none)(z_str:nsIn K mainGlobals "str"=some none)(z_tuple:nsIn K mainGlobals "tuple"=some none)
{gD:Addr}(k_Must:MkF K qZ gD)(uw:FX K "__init__" "Door.__init__" tO gD)(k_May:MkF K yl gD){yC:Addr}(k_Shut:MkF K rm yC)(yS:FX K "__init__" "Shut.__init__" tV yC){yE:Addr}(k_Torn:MkF K rn yE)
(yV:FX K "__init__" "Torn.__init__" tX yE){pQ:Addr}(k_Draft:MkF K jf pQ)(qK:FX K "__init__" "Draft.__init__" qu pQ)(k_Plan:MkF K nD pQ){yx:Addr}(Fo:findIn K (.ref qZ) "word"=some (some (.ref yx)))
(yQ:FX K "word" "Must.word" tR yx){Bd:Addr}(Jp:findIn K (.ref yl) "word"=some (some (.ref Bd)))(CQ:FX K "word" "May.word" vG Bd){yD:Addr}(Fw:findIn K (.ref rm) "word"=some (some (.ref yD)))(yU:FX K "word" "Shut.word" tW yD)
{yF:Addr}(Fy:findIn K (.ref rn) "word"=some (some (.ref yF)))(yW:FX K "word" "Torn.word" tY yF){jB:Addr}(Fj:findIn K (.ref qZ) "told"=some (some (.ref jB)))(jF:FX K "told" "Door.told" tQ jB)
(Jo:findIn K (.ref yl) "told"=some (some (.ref jB)))(Fv:findIn K (.ref rm) "told"=some (some (.ref jB)))(Fx:findIn K (.ref rn) "told"=some (some (.ref jB))){pR:Addr}(CV:findIn K (.ref jf) "many"=some (some (.ref pR)))
(qL:FX K "many" "Draft.many" qx pR)(Fq:findIn K (.ref nD) "many"=some (some (.ref pR))){pU:Addr}(CW:findIn K (.ref jf) "told"=some (some (.ref pU)))(qM:FX K "told" "Draft.told" qy pU)
(Ft:findIn K (.ref nD) "told"=some (some (.ref pU))){wg:Addr}(CT:findIn K (.ref jf) "lets_torn"=some (some (.ref wg)))(xf:FX K "lets_torn" "Draft.lets_torn" qw wg){yz:Addr}(Fp:findIn K (.ref nD) "lets_torn"=some (some (.ref yz)))
(yR:FX K "lets_torn" "Plan.lets_torn" tU yz)(inD:findIn K (.ref xg) "__init__"=some (some (.ref gD)))(ca1:PySem.W.specialIn K (.ref xg) "__getattribute__"=some (some (.builtin "type.__getattribute__")))(ca2:PySem.W.readsIn K xg (.type "type")=true)
(ca3:PySem.W.findCls K (.ref xg) (.type "type") "__init__"=some (.val (.ref gD))){NK:Tok}(xK:nsIn K mainGlobals "LETTERS"=some (some (.str "abcdefghijklmnopqrstuvwxyz" NK))){tk_MS:Tok}(pN:nsIn K mainGlobals "MOST_SIGNS"=some (some (.int 8 tk_MS))){tk_MA:Tok}
(lD:nsIn K mainGlobals "MOST_ACTIONS"=some (some (.int 8 tk_MA))){tk_MR:Tok}(pM:nsIn K mainGlobals "MOST_ROOMS"=some (some (.int 2000 tk_MR))){PK:Addr}(QL:TX K "door_of" yc PK){PN:Addr}(QM:TX K "is_name" yd PN){xO:Addr}
(yf:TX K "is_action_list" jd xO){Bh:Addr}(CJ:TX K "need_actions" lZ Bh){PP:Addr}(QQ:TX K "is_room" ye PP){Bg:Addr}(CG:TX K "is_told_door" lY Bg){wj:Addr}
(Ja:TX K "need_rooms" qH wj){JQ:Addr}(KY:TX K "made_door" ud JQ){JR:Addr}(KZ:TX K "made_room" ue JR){JT:Addr}(K3:TX K "told_room" ug JT){Gu:Addr}(Jb:TX K "sources_of" qI Gu){JS:Addr}
(K1:TX K "must_ends" uf JS){LQ:Addr}(Ny:TX K "has_torn" vI LQ){LR:Addr}(Nz:TX K "ranks_of" vJ LR){De:Addr}(DN:TX K "rank_behind" nR De){Dg:Addr}(DP:TX K "torn_action" nT Dg){Ma:Addr}
(NB:TX K "torn_row" vK Ma){Bf:Addr}(Cz:TX K "is_borne_out" lX Bf){Dd:Addr}(DK:TX K "is_torn_row" nQ Dd){PJ:Addr}(QK:TX K "cleaned" xZ PJ){Be:Addr}(Cy:TX K "_law_cell_at" lW Be)
{Gq:Addr}(IK:TX K "_law_mixed" qD Gq){Gr:Addr}(IV:TX K "_law_names" qF Gr){JL:Addr}(KJ:TX K "_law_door" tZ JL){JP:Addr}(KR:TX K "_law_rows" uc JP){JN:Addr}(KQ:TX K "_law_many" t7 JN)
{LK:Addr}(Nx:TX K "_law_why" vH LK){Gs:Addr}(IW:TX K "_law_ranks" qG Gs){Gn:Addr}(Iw:TX K "_law_draft" qz Gn){JM:Addr}(KN:TX K "_law_long" t6 JM){Gp:Addr}(Iz:TX K "_law_kinds" qC Gp)
{f_law:Addr}(t_law:TX K "law" s_law f_law)
:∃fd:FuncData,(∀(s:Shared)(v:Value),BindsTo s fd ⟨[v],[]⟩ [("_law_script",v)])/\∀base:Heap,K.In base->base.Ns mainGlobals mg->cJ l.prog w K mg base CX0 10 fa fd ["_law_script"] (KH K):=by
 have e:=hfa.symm.trans (mg_of X G t_law.m)
 cases e
 let t:Ad:=⟨xg,qZ,yl,rm,rn,jf,nD⟩
 have T:Txt K mg t:=⟨mg_of X G c_Door.a,c_Door.i gf,mg_of X G Am.a,Am.i gf,mg_of X G Jr.a,Jr.i gf,mg_of X G FN.a,FN.i gf,mg_of X G FP.a,FP.i gf,mg_of X G vZ.a,vZ.i gf,mg_of X G An.a,An.i gf,fH,bN,kW,iY,f9,cg,iZ,jb,mg_none_of X G z_all,mg_none_of X G z_any,mg_none_of X G z_bool,mg_none_of X G z_dict,mg_none_of X G K7,mg_none_of X G z_int,mg_none_of X G Jd,mg_none_of X G z_len,mg_none_of X G z_list,mg_none_of X G z_min,mg_none_of X G z_range,mg_none_of X G z_set,mg_none_of X G z_sorted,mg_none_of X G z_str,mg_none_of X G z_tuple,(λL=>wz tt_bool trivial),(λL=>wz tt_int trivial),(λL=>wz tt_list trivial),(λL=>wz tt_str trivial),(λL=>wz tt_tuple trivial),⟨_,mg_of X G xK,⟨_,rfl⟩⟩,⟨_,mg_of X G lD,⟨_,rfl⟩⟩,⟨_,mg_of X G pM,⟨_,rfl⟩⟩,⟨_,mg_of X G pN,⟨_,rfl⟩⟩⟩
 obtain⟨fd_Door_init,mR⟩:=uw.ex
 obtain⟨fd_Shut_init,yq⟩:=yS.ex
 obtain⟨fd_Torn_init,yt⟩:=yV.ex
 obtain⟨fd_Draft_init,jY⟩:=qK.ex
 obtain⟨fd_Must_word,yo⟩:=yQ.ex
 obtain⟨fd_May_word,Aj⟩:=CQ.ex
 obtain⟨fd_Shut_word,yr⟩:=yU.ex
 obtain⟨fd_Torn_word,yu⟩:=yW.ex
 obtain⟨fd_Door_told,jz⟩:=jF.ex
 obtain⟨fd_Draft_many,pH⟩:=qL.ex
 obtain⟨fd_Draft_told,pI⟩:=qM.ex
 obtain⟨fd_Draft_lets,vV⟩:=xf.ex
 obtain⟨fd_Plan_lets,yp⟩:=yR.ex
 obtain⟨fd,U_law⟩:=t_law.x.ex
 refine⟨fd,λs v=>?_,λbase _ _=>law_sp (t:=t) ?_⟩
 .obtain⟨oc,od,kV,doc,pm,an,cdv,ct,osl,e,_⟩:=U_law.ex
  subst e
  exact .of_eq rfl
 have mO:=Hf (P:=l.prog) (w:=w) (mg:=mg) (base:=base) mR
 have mU:=bd2 (ps:=["self","to"]) mR
 have ca:zF K t.Door "__init__" (.ref gD):=⟨ca1,ca2,ca3⟩
 have Lf:IniA l.prog w K mg base t.Must 1 ["self","to"] (λL=>spI K (Ga t L) iJ 1 xu):=⟨_,_,k_Must.k uw,λL=>ok_to (L:=L) (t:=t) mO rfl (Am.i gf).cls iY,mU⟩
 have N_May:IniA l.prog w K mg base t.May 1 ["self","to"] (λL=>spI K (Ga t L) qX 1 I_May):=⟨_,_,k_May.k uw,λL=>ok_to (L:=L) (t:=t) mO rfl (Jr.i gf).cls kW,mU⟩
 have Lh:IniA l.prog w K mg base t.Shut 2 ["self"] (λL=>spI K (Ga t L) gU 0 xx):=⟨_,_,k_Shut.k yS,λL=>Hj (L:=L) (P:=l.prog) (w:=w) (base:=base) yq T mO ca mR.kp mU,bd1 yq⟩
 have Li:IniA l.prog w K mg base t.Torn 2 ["self"] (λL=>spI K (Ga t L) gW 0 Ac):=⟨_,_,k_Torn.k yV,λL=>Hl (L:=L) (P:=l.prog) (w:=w) (base:=base) yt T mO ca mR.kp mU,bd1 yt⟩
 have Jk:=λL:Plc=>Hh (L:=L) (P:=l.prog) (w:=w) (base:=base) (t:=t) yo T
 have Lj:=λL:Plc=>Ka (L:=L) (P:=l.prog) (w:=w) (base:=base) (t:=t) Aj T
 have Jl:=λL:Plc=>Hk (L:=L) (P:=l.prog) (w:=w) (base:=base) (t:=t) yr T
 have Jm:=λL:Plc=>Hm (L:=L) (P:=l.prog) (w:=w) (base:=base) (t:=t) yu T
 have iV:∀L:Plc,nJ l.prog w K mg base (Ga t L) "word" (spD K (Ga t L) 1) 1 cI:=λL=>⟨⟨qZ,_,_,_,rfl,(Am.i gf).cls,yQ.me Fo,(Jk L).mono (by decide),bd1 yo⟩,⟨yl,_,_,_,rfl,(Jr.i gf).cls,CQ.me Jp,(Lj L).mono (by decide),bd1 Aj⟩,⟨rm,_,_,_,rfl,(FN.i gf).cls,yU.me Fw,(Jl L).mono (by decide),bd1 yr⟩,⟨rn,_,_,_,rfl,(FP.i gf).cls,yW.me Fy,(Jm L).mono (by decide),bd1 yu⟩,trivial⟩
 have mQ:=λL:Plc=>Hg (L:=L) (P:=l.prog) (w:=w) (base:=base) (t:=t) jz T (iV L)
 walk_at "d xm DA' xG M5 U_door_of QL bd3 Lf.at N_May.at Li.at Lh.at"
 walk_at "d xn DA' xH M6 U_is_name QM bd1 "
 walk_at "d iK DA' iU wJ U_is_action_list yf bd1 xn.at"
 walk_at "d gJ DA' lB zy U_need_actions CJ bd1 iK.at"
 walk_at "d kJ DA' uy M7 U_is_room QQ bd2 "
 walk_at "d kZ DA' lA zx U_is_told_door CG bd3 kJ.at"
 walk_at "d jP DA' pB Ds U_need_rooms Ja bd3 kZ.at"
 walk_at "d rD DA' rN Ht U_made_door KY bd1 xm.at"
 walk_at "d mC DA' rP Hu U_made_room KZ bd1 rD.at"
 have Ag:∀L:Plc,nJ l.prog w K mg base (Ga t L) "told" (spD K (Ga t L) 1) 2 ur:=λL=>⟨⟨qZ,_,_,_,rfl,(Am.i gf).cls,jF.me Fj,(mQ L).mono (by decide),bd1 jz⟩,⟨yl,_,_,_,rfl,(Jr.i gf).cls,jF.me Jo,(mQ L).mono (by decide),bd1 jz⟩,⟨rm,_,_,_,rfl,(FN.i gf).cls,jF.me Fv,(mQ L).mono (by decide),bd1 jz⟩,⟨rn,_,_,_,rfl,(FP.i gf).cls,jF.me Fx,(mQ L).mono (by decide),bd1 jz⟩,trivial⟩
 walk_at "d rF DAf rR Hw U_told_room K3 bd1 Ag"
 have uz:IniA l.prog w K mg base t.Draft 7 ["self","actions","rows"] (λL=>spI K (Ga t L) aH 2 mK):=⟨_,_,k_Draft.k qK,λL=>uY (L:=L) (t:=t) jY T (gJ.at L) (jP.at L) (mC.at L) rfl (vZ.i gf).cls fH bN (xf.me CT) (Dh vV) (bd1 vV),bd3 jY⟩
 have Lg:IniA l.prog w K mg base t.Plan 7 ["self","actions","rows"] (λL=>spI K (Ga t L) bU 2 Ld):=⟨_,_,k_Plan.k qK,λL=>uY (L:=L) (t:=t) jY T (gJ.at L) (jP.at L) (mC.at L) rfl (An.i gf).cls f9 cg (yR.me Fp) (Hi yp) (bd1 yp),bd3 jY⟩
 have vQ:=λL:Plc=>Di (L:=L) (P:=l.prog) (w:=w) (base:=base) (t:=t) pH T
 have vR:=λL:Plc=>Dj (L:=L) (P:=l.prog) (w:=w) (base:=base) (t:=t) pI T (rF.at L)
 walk_at "d oX DAg pD Dt U_sources_of Jb bd1 "
 walk_at "d rE DAf rQ Hv U_must_ends K1 bd1 iV"
 walk_at "d u0 DA' vd Kd U_has_torn Ny bd1 iV"
 walk_at "d iM DA' pC Ke U_ranks_of Nz bd1 oX.at rE.at u0.at"
 walk_at "d d7 DA' ji BL U_rank_behind DN bd2 iV"
 walk_at "d nF DA' nH BP U_torn_action DP bd3 d7.at"
 walk_at "d eF DAf pF Kf U_torn_row NB bd1 iM.at nF.at"
 have Af:∀L:Plc,nJ l.prog w K mg base (Ga t L) "many" (spD K (Ga t L) 1) 1 mj:=λL=>⟨⟨jf,_,_,_,rfl,(vZ.i gf).cls,qL.me CV,(vQ L).mono (by decide),bd1 pH⟩,⟨nD,_,_,_,rfl,(An.i gf).cls,qL.me Fq,(vQ L).mono (by decide),bd1 pH⟩,trivial⟩
 walk_at "d kY DA' lw zu U_is_borne_out Cz bd3 kJ.at Af d7.at"
 walk_at "d dZ DA' jh BK U_is_torn_row DK bd2 kY.at"
 walk_at "d xj DA' xF M4 U_cleaned QK bd1 iM.at"
 walk_at "d dq DA' gQ zq U__law_cell_at Cy bd2 "
 walk_at "d aV DA' dF Do U__law_mixed IK bd2 "
 walk_at "d oU DA' pq Dp U__law_names IV bd2 aV.at"
 walk_at "d gC DA' mL Hn U__law_door KJ bd3 "
 walk_at "d rC DAg rM Hs U__law_rows KR bd3 gC.at aV.at"
 walk_at "d rB DA' rK Hr U__law_many KQ bd1 aV.at"
 walk_at "d oW DA' u9 Kc U__law_why Nx bd3 "
 walk_at "d oV DA' pA Dq U__law_ranks IW bd1 oW.at"
 walk_at "d oO DAg oZ Dl U__law_draft Iw bd2 aV.at dq.at rC.at gC.at"
 walk_at "d rA DA' rJ Ho U__law_long KN bd2 uz.at eF.at dZ.at xj.at"
 walk_at "d oR DA' ph Dm U__law_kinds Iz bd1 "
 have Ah:∀L:Plc,nJ l.prog w K mg base (Ga t L) "told" (Cq K (Ga t L) 1) 4 je:=λL=>⟨⟨jf,_,_,_,rfl,(vZ.i gf).cls,qM.me CW,(vR L).mono (by decide),bd1 pI⟩,⟨nD,_,_,_,rfl,(An.i gf).cls,qM.me Ft,(vR L).mono (by decide),bd1 pI⟩,trivial⟩
 exact ok_law U_law T (dq.at λ_=>none) (rB.at λ_=>none) (oU.at λ_=>none) (oO.at λ_=>none) (uz.at λ_=>none) (oV.at λ_=>none) (aV.at λ_=>none) (rA.at λ_=>none) (eF.at λ_=>none) (oR.at λ_=>none) (dZ.at λ_=>none) (Ah λ_=>none) (Lg.at λ_=>none)
theorem walk{l:PySem.W.OpenLaw}{q:Program}{loose:List Str}{XP:(Str->Option Value)->Heap->Prop}{YP:World->Heap->Prop}{d:DefRec}{K:Params->Frag}(hn:l.most=some 63)(hdf:d.params.defaults=[])
  (hY:∀(w:World)(h:Heap),YP w h->(K w.params).In h)
  (F:∀(w:World)(mg:Str->Option Value)(fa:Addr)(h:Heap),(K w.params).In h->h.Ns mainGlobals mg->mg d.name=some (.ref fa) ->
   ∃fd:FuncData,(∀(s:Shared)(u:Value),BindsTo s fd ⟨[u],[]⟩ [("_law_script",u)])/\∀base:Heap,(K w.params).In base->base.Ns mainGlobals mg->cJ l.prog w (K w.params) mg base CX0 10 fa fd ["_law_script"] (KH (K w.params))) :
  PySem.W.WalkO q loose XP YP l.row.toRowW d [] (λf vs=>PySem.call f vs) :=
 L2.walk_of (n:=63) (k:=10) (x:="_law_script") (CX:=λ_=>CX0) (sp:=λw=>KH (K w.params)) hn (by decide) hdf ⟨rfl,by decide,by decide⟩ hY F (λ_ _ a ns hl _ hS=>⟨a,ns,rfl,hS,hl,λ_=>rfl⟩) λ_ _ _ _ _ z=>z
end K13
namespace K13
open PySem PySem.W L2
noncomputable abbrev pw:Program:=PySem.Challenge.pw_mustmay_k41_rooms_that_contradict_themse
noncomputable section
noncomputable abbrev hI(i:Int):Value:=.int i 0
noncomputable abbrev hS(x:Str)(t:Nat):Value:=.str x t
noncomputable abbrev hR(a:Addr):Value:=.ref a
noncomputable abbrev hE(P:Params)(x:Str)(t:Nat)(v:Value):DictEntry:=⟨PyData.keyHash P x,.str x t,v⟩
noncomputable abbrev hT(xs:List Value):Obj:=⟨.type "tuple",none,.seq (Array.mk xs) 0,Array.mk []⟩
noncomputable abbrev hN(xs:List Value):Obj:=⟨.none,none,.fields (Array.mk xs),Array.mk []⟩
noncomputable abbrev hK(xs:List Value):Obj:=⟨.type "code",none,.fields (Array.mk xs),Array.mk []⟩
noncomputable abbrev hDn(n:Nat)(es:List DictEntry):Obj:=⟨.type "dict",none,.dict (Array.mk es) n,Array.mk []⟩
noncomputable abbrev hC(n q:Str)(s:Stmt):Obj:=⟨.none,none,.func ⟨n,q,mW s,.stmts (fC s),aA s,0,[],.none,.none,.none,.none,none,.none,.none,0⟩,Array.mk []⟩
noncomputable abbrev hF(n q:Str)(s:Stmt)(pm cd:Value):Obj:=⟨.type "function",none,.func ⟨n,q,mW s,.stmts (fC s),aA s,3,[],.none,.none,.none,pm,none,cd,.none,0⟩,Array.mk []⟩
noncomputable abbrev nn(o:Obj)(a b:BT):BT:=.node o a b
noncomputable abbrev lf(o:Obj):BT:=.node o .nil .nil
noncomputable abbrev hQ(n q:Str)(t:Nat)(l a:Int)(r:Nat)(u v w:Value)(x:Nat):Obj:=hK [hS n t,hS q (t+1),hS "/claim/cut.py" (t+2),hI l,hI a,hI 0,hI 0,hI 3,hR r,.bool true,hI 181,hR (r+1),.none,u,v,w,hI x,hI l,hS "/claim/cut.py" (x+1)]
noncomputable abbrev hW(a b:Addr)(m:Value):Obj:=⟨.type "frame",none,.plain,Array.mk [some (hR a),some (hR 3),some (hR b),none,some m,none,some (hR 0)]⟩
noncomputable abbrev hG(n:Nat)(a:Addr):Obj:=⟨.type "getset_descriptor",none,.fields (Array.mk [hS "__dict__" n,hR a,.builtin "function.__dict__",.builtin "function.__dict__#set"]),Array.mk []⟩
noncomputable abbrev hV(n:Nat)(a:Addr):Obj:=⟨.type "getset_descriptor",none,.fields (Array.mk [hS "__weakref__" n,hR a,.builtin "ExceptionGroup.__weakref__",.none]),Array.mk []⟩
noncomputable def ev2:Bool->List Obj->List Obj
 | _,[]=>[]
 | true,x::r=>x::ev2 false r
 | false,_::r=>ev2 true r
def bt:Nat->List Obj->BT
 | 0,_=>.nil
 | _,[]=>.nil
 | n+1,x::r=>.node x (bt n (ev2 true r)) (bt n (ev2 false r))
variable(P:Params)
def o0:=hK [hS "<module>" 182,hS "<module>" 183,hS "/claim/cut.py" 184,hI 1,hI 0,hI 0,hI 0,hI 0,hR 11,.bool false,hI 181,hR 12,.none,.none,.none,.none,hI 185,hI 1,hS "/claim/cut.py" 186]
def o1:=hW 13 3 (hS "__main__" 164)
def o2:=hDn 66 [hE P "__name__" 165 (hS "law_mustmay_k41_rooms_that_contradict_themse" 879),hE P "__doc__" 166 .none,hE P "__package__" 167 .none,hE P "__loader__" 168 (.builtin "__main__.__loader__#opaque"),hE P "__spec__" 169 .none,hE P "__annotations__" 170 (hR 6),hE P "__builtins__" 171 (hR 4),hE P "__file__" 173 (hS "/claim/cut.py" 172),hE P "__cached__" 174 .none,hE P "_wall" 193 (hR 21),hE P "Door" 231 (hR 45),hE P "Must" 276 (hR 87),hE P "May" 321 (hR 127),hE P "Shut" 373 (hR 174),hE P "Torn" 425 (hR 221),hE P "door_of" 434 (hR 230),hE P "HallError" 454 (hR 240),hE P "BadPlan" 481 (hR 260),hE P "LETTERS" 485 (hS "abcdefghijklmnopqrstuvwxyz" 484),hE P "MOST_SIGNS" 487 (.int (8) 486),hE P "MOST_ACTIONS" 489 (.int (8) 488),hE P "MOST_ROOMS" 491 (.int (2000) 490),hE P "is_name" 497 (hR 267),hE P "is_action_list" 503 (hR 272),hE P "need_actions" 510 (hR 279),hE P "is_room" 518 (hR 286),hE P "is_told_door" 528 (hR 293),hE P "need_rooms" 541 (hR 300),hE P "made_door" 549 (hR 307),hE P "made_room" 555 (hR 312),hE P "told_room" 561 (hR 317),hE P "Draft" 641 (hR 379),hE P "Plan" 664 (hR 400),hE P "led_room" 670 (hR 407),hE P "reached" 683 (hR 414),hE P "words_of" 689 (hR 419),hE P "ends_of" 695 (hR 424),hE P "sources_of" 701 (hR 429),hE P "numbered" 707 (hR 434),hE P "rest_of" 713 (hR 439),hE P "Blocks" 787 (hR 485),hE P "classes" 793 (hR 494),hE P "least" 799 (hR 499),hE P "must_ends" 807 (hR 504),hE P "has_torn" 813 (hR 509),hE P "ranks_of" 819 (hR 514),hE P "rank_behind" 827 (hR 521),hE P "torn_action" 833 (hR 526),hE P "torn_row" 839 (hR 531),hE P "is_borne_out" 852 (hR 538),hE P "is_torn_row" 858 (hR 543),hE P "kept_door" 866 (hR 550),hE P "kept_room" 872 (hR 555),hE P "cleaned" 878 (hR 560),hE P "_law_cell_at" 888 (hR 567),hE P "_law_mixed" 897 (hR 574),hE P "_law_names" 903 (hR 579),hE P "_law_door" 913 (hR 586),hE P "_law_rows" 919 (hR 591),hE P "_law_many" 926 (hR 598),hE P "_law_why" 937 (hR 605),hE P "_law_ranks" 951 (hR 612),hE P "_law_draft" 965 (hR 619),hE P "_law_long" 971 (hR 624),hE P "_law_kinds" 980 (hR 631),hE P "law" 986 (hR 636)]
def o3:=hN [hI 1,hI 0,hR 20,hI 5,hI 0,hR 27,hI 12,hI 0,hR 55,hI 25,hI 0,hR 95,hI 38,hI 0,hR 135,hI 54,hI 0,hR 182,hI 70,hI 0,hR 229,hI 79,hI 0,hR 236,hI 81,hI 0,hR 249,hI 92,hI 0,hR 266,hI 96,hI 0,hR 271,hI 100,hI 0,hR 278,hI 103,hI 0,hR 285,hI 105,hI 0,hR 292,hI 114,hI 0,hR 299,hI 123,hI 0,hR 306,hI 126,hI 0,hR 311,hI 128,hI 0,hR 316,hI 130,hI 0,hR 323,hI 159,hI 0,hR 389,hI 163,hI 0,hR 406,hI 166,hI 0,hR 413,hI 177,hI 0,hR 418,hI 179,hI 0,hR 423,hI 181,hI 0,hR 428,hI 187,hI 0,hR 433,hI 192,hI 0,hR 438,hI 198,hI 0,hR 445,hI 248,hI 0,hR 493,hI 257,hI 0,hR 498,hI 268,hI 0,hR 503,hI 270,hI 0,hR 508,hI 272,hI 0,hR 513,hI 285,hI 0,hR 520,hI 291,hI 0,hR 525,hI 294,hI 0,hR 530,hI 298,hI 0,hR 537,hI 306,hI 0,hR 542,hI 311,hI 0,hR 549,hI 315,hI 0,hR 554,hI 317,hI 0,hR 559,hI 325,hI 0,hR 566,hI 329,hI 0,hR 573,hI 333,hI 0,hR 578,hI 342,hI 0,hR 585,hI 351,hI 0,hR 590,hI 357,hI 0,hR 597,hI 361,hI 0,hR 604,hI 368,hI 0,hR 611,hI 380,hI 0,hR 618,hI 391,hI 0,hR 623,hI 404,hI 0,hR 630,hI 412,hI 0,hR 635]
def o4:=hT [hS "k" 190]
def o5:=hC "_wall" "_wall" (top 0)
def o6:=hQ "_wall" "_wall" 187 1 1 15 (hR 17) (hR 18) (hR 19) 191
def o7:=hF "_wall" "_wall" (top 0) (hS "__main__" 164) (hR 20)
def o8:Obj:=⟨(.type "builtin_function_or_method"),none,(.fields (Array.mk [.builtin "type.__prepare__",.type "type"])),Array.mk []⟩
def o9:=hDn 6 [hE P "__module__" 203 (hS "mustmay.doors" 194),hE P "__qualname__" 205 (hS "Door" 204),hE P "__firstlineno__" 207 (.int (5) 206),hE P "__init__" 215 (hR 35),hE P "told" 222 (hR 42),hE P "__static_attributes__" 224 (hR 43)]
def o10:=hN [hI 7,hI 4,hR 34,hI 10,hI 4,hR 41]
def o11:=hK [hS "Door" 198,hS "Door" 199,hS "/claim/cut.py" 200,hI 5,hI 0,hI 0,hI 0,hI 0,hR 25,.bool false,hI 181,hR 26,.none,.none,.none,.none,hI 201,hI 5,hS "/claim/cut.py" 202]
def o12:=hW 27 24 (hS "mustmay.doors" 194)
def o13:=hT [hS "self" 211,hS "to" 212]
def o14:=hC "__init__" "Door.__init__" (inClass (top 2) 0)
def o15:=hQ "__init__" "Door.__init__" 208 7 2 29 (hR 31) (hR 32) (hR 33) 213
def o16:=hF "__init__" "Door.__init__" (inClass (top 2) 0) (hS "mustmay.doors" 194) (hR 34)
def o17:=hT [hS "self" 219]
def o18:=hC "told" "Door.told" (inClass (top 2) 1)
def o19:=hQ "told" "Door.told" 216 10 1 36 (hR 38) (hR 39) (hR 40) 220
def o20:=hF "told" "Door.told" (inClass (top 2) 1) (hS "mustmay.doors" 194) (hR 41)
def o21:=hT [hS "to" 223]
def o22:=hDn 4 [hE P "__module__" 203 (hS "mustmay.doors" 194),hE P "__firstlineno__" 207 (.int (5) 206),hE P "__init__" 215 (hR 35),hE P "told" 222 (hR 42),hE P "__static_attributes__" 224 (hR 43),hE P "__dict__" 226 (hR 46),hE P "__weakref__" 228 (hR 47),hE P "__doc__" 229 .none]
def o23:Obj:=⟨(.type "type"),none,(.cls ⟨"Door",[.type "object"],[hR 45,.type "object"],44,"Door",true,[],[hR 87,hR 127,hR 174,hR 221],false,none,false⟩),Array.mk [none,none,some (hS "Door" 196),some (hS "Door" 204),some (.builtin "object.__new__"),some (.bool true)]⟩
def o24:=hG 225 45
def o25:=hV 227 45
def o26:Obj:=⟨(.type "super"),none,(.fields (Array.mk [hR 45,hR 45,hR 45])),Array.mk []⟩
def o27:Obj:=⟨(.type "builtin_function_or_method"),none,(.fields (Array.mk [.builtin "object.__init_subclass__",hR 45])),Array.mk []⟩
def o28:=hDn 8 [hE P "__module__" 239 (hS "mustmay.doors" 194),hE P "__qualname__" 241 (hS "Must" 240),hE P "__firstlineno__" 243 (.int (12) 242),hE P "word" 250 (hR 63),hE P "needs" 257 (hR 70),hE P "allows" 264 (hR 77),hE P "led" 272 (hR 84),hE P "__static_attributes__" 273 (hR 85)]
def o29:=hN [hI 14,hI 4,hR 62,hI 17,hI 4,hR 69,hI 20,hI 4,hR 76,hI 23,hI 4,hR 83]
def o30:=hK [hS "Must" 234,hS "Must" 235,hS "/claim/cut.py" 236,hI 12,hI 0,hI 0,hI 0,hI 0,hR 53,.bool false,hI 181,hR 54,.none,.none,.none,.none,hI 237,hI 12,hS "/claim/cut.py" 238]
def o31:=hW 55 52 (hS "mustmay.doors" 194)
def o32:=hT [hS "self" 247]
def o33:=hC "word" "Must.word" (inClass (top 3) 0)
def o34:=hQ "word" "Must.word" 244 14 1 57 (hR 59) (hR 60) (hR 61) 248
def o35:=hF "word" "Must.word" (inClass (top 3) 0) (hS "mustmay.doors" 194) (hR 62)
def o36:=hT [hS "self" 254]
def o37:=hC "needs" "Must.needs" (inClass (top 3) 1)
def o38:=hQ "needs" "Must.needs" 251 17 1 64 (hR 66) (hR 67) (hR 68) 255
def o39:=hF "needs" "Must.needs" (inClass (top 3) 1) (hS "mustmay.doors" 194) (hR 69)
def o40:=hT [hS "self" 261]
def o41:=hC "allows" "Must.allows" (inClass (top 3) 2)
def o42:=hQ "allows" "Must.allows" 258 20 1 71 (hR 73) (hR 74) (hR 75) 262
def o43:=hF "allows" "Must.allows" (inClass (top 3) 2) (hS "mustmay.doors" 194) (hR 76)
def o44:=hT [hS "self" 268,hS "to" 269]
def o45:=hC "led" "Must.led" (inClass (top 3) 3)
def o46:=hQ "led" "Must.led" 265 23 2 78 (hR 80) (hR 81) (hR 82) 270
def o47:=hF "led" "Must.led" (inClass (top 3) 3) (hS "mustmay.doors" 194) (hR 83)
def o48:=hDn 2 [hE P "__module__" 239 (hS "mustmay.doors" 194),hE P "__firstlineno__" 243 (.int (12) 242),hE P "word" 250 (hR 63),hE P "needs" 257 (hR 70),hE P "allows" 264 (hR 77),hE P "led" 272 (hR 84),hE P "__static_attributes__" 273 (hR 85),hE P "__doc__" 274 .none]
def o49:Obj:=⟨(.type "type"),none,(.cls ⟨"Must",[hR 45],[hR 87,hR 45,.type "object"],86,"Must",true,[],[],false,none,false⟩),Array.mk [some (hR 50),none,some (hS "Must" 232),some (hS "Must" 240),some (.builtin "object.__new__"),some (.bool true)]⟩
def o50:Obj:=⟨(.type "super"),none,(.fields (Array.mk [hR 87,hR 87,hR 87])),Array.mk []⟩
def o51:Obj:=⟨(.type "builtin_function_or_method"),none,(.fields (Array.mk [.builtin "object.__init_subclass__",hR 87])),Array.mk []⟩
def o52:=hDn 8 [hE P "__module__" 284 (hS "mustmay.doors" 194),hE P "__qualname__" 286 (hS "May" 285),hE P "__firstlineno__" 288 (.int (25) 287),hE P "word" 295 (hR 103),hE P "needs" 302 (hR 110),hE P "allows" 309 (hR 117),hE P "led" 317 (hR 124),hE P "__static_attributes__" 318 (hR 125)]
def o53:=hN [hI 27,hI 4,hR 102,hI 30,hI 4,hR 109,hI 33,hI 4,hR 116,hI 36,hI 4,hR 123]
def o54:=hK [hS "May" 279,hS "May" 280,hS "/claim/cut.py" 281,hI 25,hI 0,hI 0,hI 0,hI 0,hR 93,.bool false,hI 181,hR 94,.none,.none,.none,.none,hI 282,hI 25,hS "/claim/cut.py" 283]
def o55:=hW 95 92 (hS "mustmay.doors" 194)
def o56:=hT [hS "self" 292]
def o57:=hC "word" "May.word" (inClass (top 4) 0)
def o58:=hQ "word" "May.word" 289 27 1 97 (hR 99) (hR 100) (hR 101) 293
def o59:=hF "word" "May.word" (inClass (top 4) 0) (hS "mustmay.doors" 194) (hR 102)
def o60:=hT [hS "self" 299]
def o61:=hC "needs" "May.needs" (inClass (top 4) 1)
def o62:=hQ "needs" "May.needs" 296 30 1 104 (hR 106) (hR 107) (hR 108) 300
def o63:=hF "needs" "May.needs" (inClass (top 4) 1) (hS "mustmay.doors" 194) (hR 109)
def o64:=hT [hS "self" 306]
def o65:=hC "allows" "May.allows" (inClass (top 4) 2)
def o66:=hQ "allows" "May.allows" 303 33 1 111 (hR 113) (hR 114) (hR 115) 307
def o67:=hF "allows" "May.allows" (inClass (top 4) 2) (hS "mustmay.doors" 194) (hR 116)
def o68:=hT [hS "self" 313,hS "to" 314]
def o69:=hC "led" "May.led" (inClass (top 4) 3)
def o70:=hQ "led" "May.led" 310 36 2 118 (hR 120) (hR 121) (hR 122) 315
def o71:=hF "led" "May.led" (inClass (top 4) 3) (hS "mustmay.doors" 194) (hR 123)
def o72:=hDn 2 [hE P "__module__" 284 (hS "mustmay.doors" 194),hE P "__firstlineno__" 288 (.int (25) 287),hE P "word" 295 (hR 103),hE P "needs" 302 (hR 110),hE P "allows" 309 (hR 117),hE P "led" 317 (hR 124),hE P "__static_attributes__" 318 (hR 125),hE P "__doc__" 319 .none]
def o73:Obj:=⟨(.type "type"),none,(.cls ⟨"May",[hR 45],[hR 127,hR 45,.type "object"],126,"May",true,[],[],false,none,false⟩),Array.mk [some (hR 90),none,some (hS "May" 277),some (hS "May" 285),some (.builtin "object.__new__"),some (.bool true)]⟩
def o74:Obj:=⟨(.type "super"),none,(.fields (Array.mk [hR 127,hR 127,hR 127])),Array.mk []⟩
def o75:Obj:=⟨(.type "builtin_function_or_method"),none,(.fields (Array.mk [.builtin "object.__init_subclass__",hR 127])),Array.mk []⟩
def o76:=hDn 9 [hE P "__module__" 329 (hS "mustmay.doors" 194),hE P "__qualname__" 331 (hS "Shut" 330),hE P "__firstlineno__" 333 (.int (38) 332),hE P "__init__" 340 (hR 143),hE P "word" 347 (hR 150),hE P "needs" 354 (hR 157),hE P "allows" 361 (hR 164),hE P "led" 369 (hR 171),hE P "__static_attributes__" 370 (hR 172)]
def o77:=hN [hI 40,hI 4,hR 142,hI 43,hI 4,hR 149,hI 46,hI 4,hR 156,hI 49,hI 4,hR 163,hI 52,hI 4,hR 170]
def o78:=hK [hS "Shut" 324,hS "Shut" 325,hS "/claim/cut.py" 326,hI 38,hI 0,hI 0,hI 0,hI 0,hR 133,.bool false,hI 181,hR 134,.none,.none,.none,.none,hI 327,hI 38,hS "/claim/cut.py" 328]
def o79:=hW 135 132 (hS "mustmay.doors" 194)
def o80:=hT [hS "self" 337]
def o81:=hC "__init__" "Shut.__init__" (inClass (top 5) 0)
def o82:=hQ "__init__" "Shut.__init__" 334 40 1 137 (hR 139) (hR 140) (hR 141) 338
def o83:=hF "__init__" "Shut.__init__" (inClass (top 5) 0) (hS "mustmay.doors" 194) (hR 142)
def o84:=hT [hS "self" 344]
def o85:=hC "word" "Shut.word" (inClass (top 5) 1)
def o86:=hQ "word" "Shut.word" 341 43 1 144 (hR 146) (hR 147) (hR 148) 345
def o87:=hF "word" "Shut.word" (inClass (top 5) 1) (hS "mustmay.doors" 194) (hR 149)
def o88:=hT [hS "self" 351]
def o89:=hC "needs" "Shut.needs" (inClass (top 5) 2)
def o90:=hQ "needs" "Shut.needs" 348 46 1 151 (hR 153) (hR 154) (hR 155) 352
def o91:=hF "needs" "Shut.needs" (inClass (top 5) 2) (hS "mustmay.doors" 194) (hR 156)
def o92:=hT [hS "self" 358]
def o93:=hC "allows" "Shut.allows" (inClass (top 5) 3)
def o94:=hQ "allows" "Shut.allows" 355 49 1 158 (hR 160) (hR 161) (hR 162) 359
def o95:=hF "allows" "Shut.allows" (inClass (top 5) 3) (hS "mustmay.doors" 194) (hR 163)
def o96:=hT [hS "self" 365,hS "to" 366]
def o97:=hC "led" "Shut.led" (inClass (top 5) 4)
def o98:=hQ "led" "Shut.led" 362 52 2 165 (hR 167) (hR 168) (hR 169) 367
def o99:=hF "led" "Shut.led" (inClass (top 5) 4) (hS "mustmay.doors" 194) (hR 170)
def o100:=hDn 2 [hE P "__module__" 329 (hS "mustmay.doors" 194),hE P "__firstlineno__" 333 (.int (38) 332),hE P "__init__" 340 (hR 143),hE P "word" 347 (hR 150),hE P "needs" 354 (hR 157),hE P "allows" 361 (hR 164),hE P "led" 369 (hR 171),hE P "__static_attributes__" 370 (hR 172),hE P "__doc__" 371 .none]
def o101:Obj:=⟨(.type "type"),none,(.cls ⟨"Shut",[hR 45],[hR 174,hR 45,.type "object"],173,"Shut",true,[],[],false,none,false⟩),Array.mk [some (hR 130),none,some (hS "Shut" 322),some (hS "Shut" 330),some (.builtin "object.__new__"),some (.bool true)]⟩
def o102:Obj:=⟨(.type "super"),none,(.fields (Array.mk [hR 174,hR 174,hR 174])),Array.mk []⟩
def o103:Obj:=⟨(.type "builtin_function_or_method"),none,(.fields (Array.mk [.builtin "object.__init_subclass__",hR 174])),Array.mk []⟩
def o104:=hDn 9 [hE P "__module__" 381 (hS "mustmay.doors" 194),hE P "__qualname__" 383 (hS "Torn" 382),hE P "__firstlineno__" 385 (.int (54) 384),hE P "__init__" 392 (hR 190),hE P "word" 399 (hR 197),hE P "needs" 406 (hR 204),hE P "allows" 413 (hR 211),hE P "led" 421 (hR 218),hE P "__static_attributes__" 422 (hR 219)]
def o105:=hN [hI 56,hI 4,hR 189,hI 59,hI 4,hR 196,hI 62,hI 4,hR 203,hI 65,hI 4,hR 210,hI 68,hI 4,hR 217]
def o106:=hK [hS "Torn" 376,hS "Torn" 377,hS "/claim/cut.py" 378,hI 54,hI 0,hI 0,hI 0,hI 0,hR 180,.bool false,hI 181,hR 181,.none,.none,.none,.none,hI 379,hI 54,hS "/claim/cut.py" 380]
def o107:=hW 182 179 (hS "mustmay.doors" 194)
def o108:=hT [hS "self" 389]
def o109:=hC "__init__" "Torn.__init__" (inClass (top 6) 0)
def o110:=hQ "__init__" "Torn.__init__" 386 56 1 184 (hR 186) (hR 187) (hR 188) 390
def o111:=hF "__init__" "Torn.__init__" (inClass (top 6) 0) (hS "mustmay.doors" 194) (hR 189)
def o112:=hT [hS "self" 396]
def o113:=hC "word" "Torn.word" (inClass (top 6) 1)
def o114:=hQ "word" "Torn.word" 393 59 1 191 (hR 193) (hR 194) (hR 195) 397
def o115:=hF "word" "Torn.word" (inClass (top 6) 1) (hS "mustmay.doors" 194) (hR 196)
def o116:=hT [hS "self" 403]
def o117:=hC "needs" "Torn.needs" (inClass (top 6) 2)
def o118:=hQ "needs" "Torn.needs" 400 62 1 198 (hR 200) (hR 201) (hR 202) 404
def o119:=hF "needs" "Torn.needs" (inClass (top 6) 2) (hS "mustmay.doors" 194) (hR 203)
def o120:=hT [hS "self" 410]
def o121:=hC "allows" "Torn.allows" (inClass (top 6) 3)
def o122:=hQ "allows" "Torn.allows" 407 65 1 205 (hR 207) (hR 208) (hR 209) 411
def o123:=hF "allows" "Torn.allows" (inClass (top 6) 3) (hS "mustmay.doors" 194) (hR 210)
def o124:=hT [hS "self" 417,hS "to" 418]
def o125:=hC "led" "Torn.led" (inClass (top 6) 4)
def o126:=hQ "led" "Torn.led" 414 68 2 212 (hR 214) (hR 215) (hR 216) 419
def o127:=hF "led" "Torn.led" (inClass (top 6) 4) (hS "mustmay.doors" 194) (hR 217)
def o128:=hDn 2 [hE P "__module__" 381 (hS "mustmay.doors" 194),hE P "__firstlineno__" 385 (.int (54) 384),hE P "__init__" 392 (hR 190),hE P "word" 399 (hR 197),hE P "needs" 406 (hR 204),hE P "allows" 413 (hR 211),hE P "led" 421 (hR 218),hE P "__static_attributes__" 422 (hR 219),hE P "__doc__" 423 .none]
def o129:Obj:=⟨(.type "type"),none,(.cls ⟨"Torn",[hR 45],[hR 221,hR 45,.type "object"],220,"Torn",true,[],[],false,none,false⟩),Array.mk [some (hR 177),none,some (hS "Torn" 374),some (hS "Torn" 382),some (.builtin "object.__new__"),some (.bool true)]⟩
def o130:Obj:=⟨(.type "super"),none,(.fields (Array.mk [hR 221,hR 221,hR 221])),Array.mk []⟩
def o131:Obj:=⟨(.type "builtin_function_or_method"),none,(.fields (Array.mk [.builtin "object.__init_subclass__",hR 221])),Array.mk []⟩
def o132:=hT [hS "needs" 429,hS "allows" 430,hS "to" 431]
def o133:=hC "door_of" "door_of" (top 7)
def o134:=hQ "door_of" "door_of" 426 70 3 224 (hR 226) (hR 227) (hR 228) 432
def o135:=hF "door_of" "door_of" (top 7) (hS "mustmay.doors" 194) (hR 229)
def o136:=hT [.type "ValueError"]
def o137:=hDn 4 [hE P "__module__" 444 (hS "mustmay.errors" 435),hE P "__qualname__" 446 (hS "HallError" 445),hE P "__firstlineno__" 448 (.int (79) 447),hE P "__static_attributes__" 449 (hR 238)]
def o138:=hK [hS "HallError" 439,hS "HallError" 440,hS "/claim/cut.py" 441,hI 79,hI 0,hI 0,hI 0,hI 0,hR 234,.bool false,hI 181,hR 235,.none,.none,.none,.none,hI 442,hI 79,hS "/claim/cut.py" 443]
def o139:=hW 236 233 (hS "mustmay.errors" 435)
def o140:=hDn 3 [hE P "__module__" 444 (hS "mustmay.errors" 435),hE P "__firstlineno__" 448 (.int (79) 447),hE P "__static_attributes__" 449 (hR 238),hE P "__weakref__" 451 (hR 241),hE P "__doc__" 452 .none]
def o141:Obj:=⟨(.type "type"),none,(.cls ⟨"HallError",[.type "ValueError"],[hR 240,.type "ValueError",.type "Exception",.type "BaseException",.type "object"],239,"HallError",true,[],[hR 260],false,none,false⟩),Array.mk [some (hR 231),none,some (hS "HallError" 437),some (hS "HallError" 445),some (.builtin "ValueError.__new__"),some (.bool true)]⟩
def o142:=hV 450 240
def o143:Obj:=⟨(.type "super"),none,(.fields (Array.mk [hR 240,hR 240,hR 240])),Array.mk []⟩
def o144:Obj:=⟨(.type "builtin_function_or_method"),none,(.fields (Array.mk [.builtin "object.__init_subclass__",hR 240])),Array.mk []⟩
def o145:=hDn 5 [hE P "__module__" 462 (hS "mustmay.errors" 435),hE P "__qualname__" 464 (hS "BadPlan" 463),hE P "__firstlineno__" 466 (.int (81) 465),hE P "__init__" 475 (hR 257),hE P "__static_attributes__" 478 (hR 258)]
def o146:=hN [hI 83,hI 4,hR 256]
def o147:=hK [hS "BadPlan" 457,hS "BadPlan" 458,hS "/claim/cut.py" 459,hI 81,hI 0,hI 0,hI 0,hI 0,hR 247,.bool false,hI 181,hR 248,.none,.none,.none,.none,hI 460,hI 81,hS "/claim/cut.py" 461]
def o148:=hW 249 246 (hS "mustmay.errors" 435)
def o149:=hT [hS "self" 470,hS "room" 471,hS "action" 472]
def o150:=hC "__init__" "BadPlan.__init__" (inClass (top 10) 0)
def o151:=hQ "__init__" "BadPlan.__init__" 467 83 3 251 (hR 253) (hR 254) (hR 255) 473
def o152:=hF "__init__" "BadPlan.__init__" (inClass (top 10) 0) (hS "mustmay.errors" 435) (hR 256)
def o153:=hT [hS "action" 476,hS "room" 477]
def o154:=hDn 2 [hE P "__module__" 462 (hS "mustmay.errors" 435),hE P "__firstlineno__" 466 (.int (81) 465),hE P "__init__" 475 (hR 257),hE P "__static_attributes__" 478 (hR 258),hE P "__doc__" 479 .none]
def o155:Obj:=⟨(.type "type"),none,(.cls ⟨"BadPlan",[hR 240],[hR 260,hR 240,.type "ValueError",.type "Exception",.type "BaseException",.type "object"],259,"BadPlan",true,[],[],false,none,false⟩),Array.mk [some (hR 244),none,some (hS "BadPlan" 455),some (hS "BadPlan" 463),some (.builtin "ValueError.__new__"),some (.bool true)]⟩
def o156:Obj:=⟨(.type "super"),none,(.fields (Array.mk [hR 260,hR 260,hR 260])),Array.mk []⟩
def o157:Obj:=⟨(.type "builtin_function_or_method"),none,(.fields (Array.mk [.builtin "object.__init_subclass__",hR 260])),Array.mk []⟩
def o158:=hC "is_name" "is_name" (top 16)
def o159:=hQ "is_name" "is_name" 492 92 1 263 .none .none (hR 265) 495
def o160:=hF "is_name" "is_name" (top 16) (hS "mustmay.plans" 482) (hR 266)
def o161:=hC "is_action_list" "is_action_list" (top 17)
def o162:=hQ "is_action_list" "is_action_list" 498 96 1 268 .none .none (hR 270) 501
def o163:=hF "is_action_list" "is_action_list" (top 17) (hS "mustmay.plans" 482) (hR 271)
def o164:=hT [hS "actions" 507]
def o165:=hC "need_actions" "need_actions" (top 18)
def o166:=hQ "need_actions" "need_actions" 504 100 1 273 (hR 275) (hR 276) (hR 277) 508
def o167:=hF "need_actions" "need_actions" (top 18) (hS "mustmay.plans" 482) (hR 278)
def o168:=hT [hS "thing" 514,hS "many" 515]
def o169:=hC "is_room" "is_room" (top 19)
def o170:=hQ "is_room" "is_room" 511 103 2 280 (hR 282) (hR 283) (hR 284) 516
def o171:=hF "is_room" "is_room" (top 19) (hS "mustmay.plans" 482) (hR 285)
def o172:=hT [hS "thing" 522,hS "many" 523,hS "torn_too" 524,hS "word" 525]
def o173:=hC "is_told_door" "is_told_door" (top 20)
def o174:=hQ "is_told_door" "is_told_door" 519 105 3 287 (hR 289) (hR 290) (hR 291) 526
def o175:=hF "is_told_door" "is_told_door" (top 20) (hS "mustmay.plans" 482) (hR 292)
def o176:=hT [hS "rows" 532,hS "many_actions" 533,hS "torn_too" 534,hS "room" 535,hS "row" 536,hS "action" 537,hS "thing" 538]
def o177:=hC "need_rooms" "need_rooms" (top 21)
def o178:=hQ "need_rooms" "need_rooms" 529 114 3 294 (hR 296) (hR 297) (hR 298) 539
def o179:=hF "need_rooms" "need_rooms" (top 21) (hS "mustmay.plans" 482) (hR 299)
def o180:=hT [hS "told" 545,hS "word" 546]
def o181:=hC "made_door" "made_door" (top 22)
def o182:=hQ "made_door" "made_door" 542 123 1 301 (hR 303) (hR 304) (hR 305) 547
def o183:=hF "made_door" "made_door" (top 22) (hS "mustmay.plans" 482) (hR 306)
def o184:=hC "made_room" "made_room" (top 23)
def o185:=hQ "made_room" "made_room" 550 126 1 308 .none .none (hR 310) 553
def o186:=hF "made_room" "made_room" (top 23) (hS "mustmay.plans" 482) (hR 311)
def o187:=hC "told_room" "told_room" (top 24)
def o188:=hQ "told_room" "told_room" 556 128 1 313 .none .none (hR 315) 559
def o189:=hF "told_room" "told_room" (top 24) (hS "mustmay.plans" 482) (hR 316)
def o190:=hDn 12 [hE P "__module__" 569 (hS "mustmay.plans" 482),hE P "__qualname__" 571 (hS "Draft" 570),hE P "__firstlineno__" 573 (.int (130) 572),hE P "__init__" 579 (hR 329),hE P "lets_torn" 586 (hR 336),hE P "action_list" 593 (hR 343),hE P "many" 600 (hR 350),hE P "door" 610 (hR 357),hE P "told" 616 (hR 362),hE P "after" 624 (hR 369),hE P "is_finished" 631 (hR 376),hE P "__static_attributes__" 634 (hR 377)]
def o191:=hN [hI 132,hI 4,hR 328,hI 138,hI 4,hR 335,hI 141,hI 4,hR 342,hI 144,hI 4,hR 349,hI 147,hI 4,hR 356,hI 151,hI 4,hR 361,hI 154,hI 4,hR 368,hI 157,hI 4,hR 375]
def o192:=hK [hS "Draft" 564,hS "Draft" 565,hS "/claim/cut.py" 566,hI 130,hI 0,hI 0,hI 0,hI 0,hR 321,.bool false,hI 181,hR 322,.none,.none,.none,.none,hI 567,hI 130,hS "/claim/cut.py" 568]
def o193:=hW 323 320 (hS "mustmay.plans" 482)
def o194:=hC "__init__" "Draft.__init__" (inClass (top 25) 0)
def o195:=hQ "__init__" "Draft.__init__" 574 132 3 325 .none .none (hR 327) 577
def o196:=hF "__init__" "Draft.__init__" (inClass (top 25) 0) (hS "mustmay.plans" 482) (hR 328)
def o197:=hT [hS "self" 583]
def o198:=hC "lets_torn" "Draft.lets_torn" (inClass (top 25) 1)
def o199:=hQ "lets_torn" "Draft.lets_torn" 580 138 1 330 (hR 332) (hR 333) (hR 334) 584
def o200:=hF "lets_torn" "Draft.lets_torn" (inClass (top 25) 1) (hS "mustmay.plans" 482) (hR 335)
def o201:=hT [hS "self" 590]
def o202:=hC "action_list" "Draft.action_list" (inClass (top 25) 2)
def o203:=hQ "action_list" "Draft.action_list" 587 141 1 337 (hR 339) (hR 340) (hR 341) 591
def o204:=hF "action_list" "Draft.action_list" (inClass (top 25) 2) (hS "mustmay.plans" 482) (hR 342)
def o205:=hT [hS "self" 597]
def o206:=hC "many" "Draft.many" (inClass (top 25) 3)
def o207:=hQ "many" "Draft.many" 594 144 1 344 (hR 346) (hR 347) (hR 348) 598
def o208:=hF "many" "Draft.many" (inClass (top 25) 3) (hS "mustmay.plans" 482) (hR 349)
def o209:=hT [hS "self" 604,hS "room" 605,hS "action" 606,hS "kept" 607]
def o210:=hC "door" "Draft.door" (inClass (top 25) 4)
def o211:=hQ "door" "Draft.door" 601 147 3 351 (hR 353) (hR 354) (hR 355) 608
def o212:=hF "door" "Draft.door" (inClass (top 25) 4) (hS "mustmay.plans" 482) (hR 356)
def o213:=hC "told" "Draft.told" (inClass (top 25) 5)
def o214:=hQ "told" "Draft.told" 611 151 1 358 .none .none (hR 360) 614
def o215:=hF "told" "Draft.told" (inClass (top 25) 5) (hS "mustmay.plans" 482) (hR 361)
def o216:=hT [hS "self" 620,hS "row" 621]
def o217:=hC "after" "Draft.after" (inClass (top 25) 6)
def o218:=hQ "after" "Draft.after" 617 154 2 363 (hR 365) (hR 366) (hR 367) 622
def o219:=hF "after" "Draft.after" (inClass (top 25) 6) (hS "mustmay.plans" 482) (hR 368)
def o220:=hT [hS "self" 628]
def o221:=hC "is_finished" "Draft.is_finished" (inClass (top 25) 7)
def o222:=hQ "is_finished" "Draft.is_finished" 625 157 1 370 (hR 372) (hR 373) (hR 374) 629
def o223:=hF "is_finished" "Draft.is_finished" (inClass (top 25) 7) (hS "mustmay.plans" 482) (hR 375)
def o224:=hT [hS "actions" 632,hS "rooms" 633]
def o225:=hDn 4 [hE P "__module__" 569 (hS "mustmay.plans" 482),hE P "__firstlineno__" 573 (.int (130) 572),hE P "__init__" 579 (hR 329),hE P "lets_torn" 586 (hR 336),hE P "action_list" 593 (hR 343),hE P "many" 600 (hR 350),hE P "door" 610 (hR 357),hE P "told" 616 (hR 362),hE P "after" 624 (hR 369),hE P "is_finished" 631 (hR 376),hE P "__static_attributes__" 634 (hR 377),hE P "__dict__" 636 (hR 380),hE P "__weakref__" 638 (hR 381),hE P "__doc__" 639 .none]
def o226:Obj:=⟨(.type "type"),none,(.cls ⟨"Draft",[.type "object"],[hR 379,.type "object"],378,"Draft",true,[],[hR 400],false,none,false⟩),Array.mk [none,none,some (hS "Draft" 562),some (hS "Draft" 570),some (.builtin "object.__new__"),some (.bool true)]⟩
def o227:=hG 635 379
def o228:=hV 637 379
def o229:Obj:=⟨(.type "super"),none,(.fields (Array.mk [hR 379,hR 379,hR 379])),Array.mk []⟩
def o230:Obj:=⟨(.type "builtin_function_or_method"),none,(.fields (Array.mk [.builtin "object.__init_subclass__",hR 379])),Array.mk []⟩
def o231:=hDn 5 [hE P "__module__" 649 (hS "mustmay.plans" 482),hE P "__qualname__" 651 (hS "Plan" 650),hE P "__firstlineno__" 653 (.int (159) 652),hE P "lets_torn" 660 (hR 397),hE P "__static_attributes__" 661 (hR 398)]
def o232:=hN [hI 161,hI 4,hR 396]
def o233:=hK [hS "Plan" 644,hS "Plan" 645,hS "/claim/cut.py" 646,hI 159,hI 0,hI 0,hI 0,hI 0,hR 387,.bool false,hI 181,hR 388,.none,.none,.none,.none,hI 647,hI 159,hS "/claim/cut.py" 648]
def o234:=hW 389 386 (hS "mustmay.plans" 482)
def o235:=hT [hS "self" 657]
def o236:=hC "lets_torn" "Plan.lets_torn" (inClass (top 26) 0)
def o237:=hQ "lets_torn" "Plan.lets_torn" 654 161 1 391 (hR 393) (hR 394) (hR 395) 658
def o238:=hF "lets_torn" "Plan.lets_torn" (inClass (top 26) 0) (hS "mustmay.plans" 482) (hR 396)
def o239:=hDn 2 [hE P "__module__" 649 (hS "mustmay.plans" 482),hE P "__firstlineno__" 653 (.int (159) 652),hE P "lets_torn" 660 (hR 397),hE P "__static_attributes__" 661 (hR 398),hE P "__doc__" 662 .none]
def o240:Obj:=⟨(.type "type"),none,(.cls ⟨"Plan",[hR 379],[hR 400,hR 379,.type "object"],399,"Plan",true,[],[],false,none,false⟩),Array.mk [some (hR 384),none,some (hS "Plan" 642),some (hS "Plan" 650),some (.builtin "object.__new__"),some (.bool true)]⟩
def o241:Obj:=⟨(.type "super"),none,(.fields (Array.mk [hR 400,hR 400,hR 400])),Array.mk []⟩
def o242:Obj:=⟨(.type "builtin_function_or_method"),none,(.fields (Array.mk [.builtin "object.__init_subclass__",hR 400])),Array.mk []⟩
def o243:=hC "led_room" "led_room" (top 27)
def o244:=hQ "led_room" "led_room" 665 163 2 403 .none .none (hR 405) 668
def o245:=hF "led_room" "led_room" (top 27) (hS "mustmay.plans" 482) (hR 406)
def o246:=hT [hS "plan" 676,hS "order" 677,hS "seen" 678,hS "at" 679,hS "door" 680]
def o247:=hC "reached" "reached" (top 29)
def o248:=hQ "reached" "reached" 673 166 1 408 (hR 410) (hR 411) (hR 412) 681
def o249:=hF "reached" "reached" (top 29) (hS "mustmay.least" 671) (hR 413)
def o250:=hC "words_of" "words_of" (top 30)
def o251:=hQ "words_of" "words_of" 684 177 1 415 .none .none (hR 417) 687
def o252:=hF "words_of" "words_of" (top 30) (hS "mustmay.least" 671) (hR 418)
def o253:=hC "ends_of" "ends_of" (top 31)
def o254:=hQ "ends_of" "ends_of" 690 179 1 420 .none .none (hR 422) 693
def o255:=hF "ends_of" "ends_of" (top 31) (hS "mustmay.least" 671) (hR 423)
def o256:=hC "sources_of" "sources_of" (top 32)
def o257:=hQ "sources_of" "sources_of" 696 181 1 425 .none .none (hR 427) 699
def o258:=hF "sources_of" "sources_of" (top 32) (hS "mustmay.least" 671) (hR 428)
def o259:=hC "numbered" "numbered" (top 33)
def o260:=hQ "numbered" "numbered" 702 187 1 430 .none .none (hR 432) 705
def o261:=hF "numbered" "numbered" (top 33) (hS "mustmay.least" 671) (hR 433)
def o262:=hC "rest_of" "rest_of" (top 34)
def o263:=hQ "rest_of" "rest_of" 708 192 2 435 .none .none (hR 437) 711
def o264:=hF "rest_of" "rest_of" (top 34) (hS "mustmay.least" 671) (hR 438)
def o265:=hDn 10 [hE P "__module__" 721 (hS "mustmay.least" 671),hE P "__qualname__" 723 (hS "Blocks" 722),hE P "__firstlineno__" 725 (.int (198) 724),hE P "__init__" 731 (hR 451),hE P "grouped" 737 (hR 456),hE P "leaving" 743 (hR 461),hE P "move" 753 (hR 468),hE P "part" 764 (hR 475),hE P "leading_to" 775 (hR 482),hE P "__static_attributes__" 780 (hR 483)]
def o266:=hN [hI 200,hI 4,hR 450,hI 208,hI 4,hR 455,hI 215,hI 4,hR 460,hI 226,hI 4,hR 467,hI 234,hI 4,hR 474,hI 242,hI 4,hR 481]
def o267:=hK [hS "Blocks" 716,hS "Blocks" 717,hS "/claim/cut.py" 718,hI 198,hI 0,hI 0,hI 0,hI 0,hR 443,.bool false,hI 181,hR 444,.none,.none,.none,.none,hI 719,hI 198,hS "/claim/cut.py" 720]
def o268:=hW 445 442 (hS "mustmay.least" 671)
def o269:=hC "__init__" "Blocks.__init__" (inClass (top 35) 0)
def o270:=hQ "__init__" "Blocks.__init__" 726 200 2 447 .none .none (hR 449) 729
def o271:=hF "__init__" "Blocks.__init__" (inClass (top 35) 0) (hS "mustmay.least" 671) (hR 450)
def o272:=hC "grouped" "Blocks.grouped" (inClass (top 35) 1)
def o273:=hQ "grouped" "Blocks.grouped" 732 208 2 452 .none .none (hR 454) 735
def o274:=hF "grouped" "Blocks.grouped" (inClass (top 35) 1) (hS "mustmay.least" 671) (hR 455)
def o275:=hC "leaving" "Blocks.leaving" (inClass (top 35) 2)
def o276:=hQ "leaving" "Blocks.leaving" 738 215 2 457 .none .none (hR 459) 741
def o277:=hF "leaving" "Blocks.leaving" (inClass (top 35) 2) (hS "mustmay.least" 671) (hR 460)
def o278:=hT [hS "self" 747,hS "rooms" 748,hS "mark" 749,hS "room" 750]
def o279:=hC "move" "Blocks.move" (inClass (top 35) 3)
def o280:=hQ "move" "Blocks.move" 744 226 2 462 (hR 464) (hR 465) (hR 466) 751
def o281:=hF "move" "Blocks.move" (inClass (top 35) 3) (hS "mustmay.least" 671) (hR 467)
def o282:=hT [hS "self" 757,hS "rooms" 758,hS "moved" 759,hS "parts" 760,hS "group" 761]
def o283:=hC "part" "Blocks.part" (inClass (top 35) 4)
def o284:=hQ "part" "Blocks.part" 754 234 2 469 (hR 471) (hR 472) (hR 473) 762
def o285:=hF "part" "Blocks.part" (inClass (top 35) 4) (hS "mustmay.least" 671) (hR 474)
def o286:=hT [hS "self" 768,hS "rooms" 769,hS "found" 770,hS "room" 771,hS "source" 772]
def o287:=hC "leading_to" "Blocks.leading_to" (inClass (top 35) 5)
def o288:=hQ "leading_to" "Blocks.leading_to" 765 242 2 476 (hR 478) (hR 479) (hR 480) 773
def o289:=hF "leading_to" "Blocks.leading_to" (inClass (top 35) 5) (hS "mustmay.least" 671) (hR 481)
def o290:=hT [hS "ends" 776,hS "marks" 777,hS "members" 778,hS "sources" 779]
def o291:=hDn 4 [hE P "__module__" 721 (hS "mustmay.least" 671),hE P "__firstlineno__" 725 (.int (198) 724),hE P "__init__" 731 (hR 451),hE P "grouped" 737 (hR 456),hE P "leaving" 743 (hR 461),hE P "move" 753 (hR 468),hE P "part" 764 (hR 475),hE P "leading_to" 775 (hR 482),hE P "__static_attributes__" 780 (hR 483),hE P "__dict__" 782 (hR 486),hE P "__weakref__" 784 (hR 487),hE P "__doc__" 785 .none]
def o292:Obj:=⟨(.type "type"),none,(.cls ⟨"Blocks",[.type "object"],[hR 485,.type "object"],484,"Blocks",true,[],[],false,none,false⟩),Array.mk [none,none,some (hS "Blocks" 714),some (hS "Blocks" 722),some (.builtin "object.__new__"),some (.bool true)]⟩
def o293:=hG 781 485
def o294:=hV 783 485
def o295:Obj:=⟨(.type "super"),none,(.fields (Array.mk [hR 485,hR 485,hR 485])),Array.mk []⟩
def o296:Obj:=⟨(.type "builtin_function_or_method"),none,(.fields (Array.mk [.builtin "object.__init_subclass__",hR 485])),Array.mk []⟩
def o297:=hC "classes" "classes" (top 36)
def o298:=hQ "classes" "classes" 788 248 1 490 .none .none (hR 492) 791
def o299:=hF "classes" "classes" (top 36) (hS "mustmay.least" 671) (hR 493)
def o300:=hC "least" "least" (top 37)
def o301:=hQ "least" "least" 794 257 1 495 .none .none (hR 497) 797
def o302:=hF "least" "least" (top 37) (hS "mustmay.least" 671) (hR 498)
def o303:=hC "must_ends" "must_ends" (top 39)
def o304:=hQ "must_ends" "must_ends" 802 268 1 500 .none .none (hR 502) 805
def o305:=hF "must_ends" "must_ends" (top 39) (hS "mustmay.cleaning" 800) (hR 503)
def o306:=hC "has_torn" "has_torn" (top 40)
def o307:=hQ "has_torn" "has_torn" 808 270 1 505 .none .none (hR 507) 811
def o308:=hF "has_torn" "has_torn" (top 40) (hS "mustmay.cleaning" 800) (hR 508)
def o309:=hC "ranks_of" "ranks_of" (top 41)
def o310:=hQ "ranks_of" "ranks_of" 814 272 1 510 .none .none (hR 512) 817
def o311:=hF "ranks_of" "ranks_of" (top 41) (hS "mustmay.cleaning" 800) (hR 513)
def o312:=hT [hS "door" 823,hS "ranks" 824]
def o313:=hC "rank_behind" "rank_behind" (top 42)
def o314:=hQ "rank_behind" "rank_behind" 820 285 2 515 (hR 517) (hR 518) (hR 519) 825
def o315:=hF "rank_behind" "rank_behind" (top 42) (hS "mustmay.cleaning" 800) (hR 520)
def o316:=hC "torn_action" "torn_action" (top 43)
def o317:=hQ "torn_action" "torn_action" 828 291 3 522 .none .none (hR 524) 831
def o318:=hF "torn_action" "torn_action" (top 43) (hS "mustmay.cleaning" 800) (hR 525)
def o319:=hC "torn_row" "torn_row" (top 44)
def o320:=hQ "torn_row" "torn_row" 834 294 1 527 .none .none (hR 529) 837
def o321:=hF "torn_row" "torn_row" (top 44) (hS "mustmay.cleaning" 800) (hR 530)
def o322:=hT [hS "draft" 843,hS "row" 844,hS "ranks" 845,hS "room" 846,hS "rank" 847,hS "action" 848,hS "behind" 849]
def o323:=hC "is_borne_out" "is_borne_out" (top 45)
def o324:=hQ "is_borne_out" "is_borne_out" 840 298 3 532 (hR 534) (hR 535) (hR 536) 850
def o325:=hF "is_borne_out" "is_borne_out" (top 45) (hS "mustmay.cleaning" 800) (hR 537)
def o326:=hC "is_torn_row" "is_torn_row" (top 46)
def o327:=hQ "is_torn_row" "is_torn_row" 853 306 2 539 .none .none (hR 541) 856
def o328:=hF "is_torn_row" "is_torn_row" (top 46) (hS "mustmay.cleaning" 800) (hR 542)
def o329:=hT [hS "door" 862,hS "numbers" 863]
def o330:=hC "kept_door" "kept_door" (top 47)
def o331:=hQ "kept_door" "kept_door" 859 311 2 544 (hR 546) (hR 547) (hR 548) 864
def o332:=hF "kept_door" "kept_door" (top 47) (hS "mustmay.cleaning" 800) (hR 549)
def o333:=hC "kept_room" "kept_room" (top 48)
def o334:=hQ "kept_room" "kept_room" 867 315 2 551 .none .none (hR 553) 870
def o335:=hF "kept_room" "kept_room" (top 48) (hS "mustmay.cleaning" 800) (hR 554)
def o336:=hC "cleaned" "cleaned" (top 49)
def o337:=hQ "cleaned" "cleaned" 873 317 1 556 .none .none (hR 558) 876
def o338:=hF "cleaned" "cleaned" (top 49) (hS "mustmay.cleaning" 800) (hR 559)
def o339:=hT [hS "_law_script" 884,hS "_law_k" 885]
def o340:=hC "_law_cell_at" "_law_cell_at" (top 51)
def o341:=hQ "_law_cell_at" "_law_cell_at" 881 325 2 561 (hR 563) (hR 564) (hR 565) 886
def o342:=hF "_law_cell_at" "_law_cell_at" (top 51) (hS "law_mustmay_k41_rooms_that_contradict_themse" 879) (hR 566)
def o343:=hT [hS "_law_cell" 892,hS "_law_k" 893,hS "_law_number" 894]
def o344:=hC "_law_mixed" "_law_mixed" (top 52)
def o345:=hQ "_law_mixed" "_law_mixed" 889 329 2 568 (hR 570) (hR 571) (hR 572) 895
def o346:=hF "_law_mixed" "_law_mixed" (top 52) (hS "law_mustmay_k41_rooms_that_contradict_themse" 879) (hR 573)
def o347:=hC "_law_names" "_law_names" (top 53)
def o348:=hQ "_law_names" "_law_names" 898 333 2 575 .none .none (hR 577) 901
def o349:=hF "_law_names" "_law_names" (top 53) (hS "law_mustmay_k41_rooms_that_contradict_themse" 879) (hR 578)
def o350:=hT [hS "_law_number" 907,hS "_law_rooms" 908,hS "_law_torn" 909,hS "_law_way" 910]
def o351:=hC "_law_door" "_law_door" (top 54)
def o352:=hQ "_law_door" "_law_door" 904 342 3 580 (hR 582) (hR 583) (hR 584) 911
def o353:=hF "_law_door" "_law_door" (top 54) (hS "law_mustmay_k41_rooms_that_contradict_themse" 879) (hR 585)
def o354:=hC "_law_rows" "_law_rows" (top 55)
def o355:=hQ "_law_rows" "_law_rows" 914 351 3 587 .none .none (hR 589) 917
def o356:=hF "_law_rows" "_law_rows" (top 55) (hS "law_mustmay_k41_rooms_that_contradict_themse" 879) (hR 590)
def o357:=hT [hS "_law_cell" 923]
def o358:=hC "_law_many" "_law_many" (top 56)
def o359:=hQ "_law_many" "_law_many" 920 357 1 592 (hR 594) (hR 595) (hR 596) 924
def o360:=hF "_law_many" "_law_many" (top 56) (hS "law_mustmay_k41_rooms_that_contradict_themse" 879) (hR 597)
def o361:=hT [hS "_law_doors" 930,hS "_law_ranks_here" 931,hS "_law_rank" 932,hS "_law_action" 933,hS "_law_door_here" 934]
def o362:=hC "_law_why" "_law_why" (top 57)
def o363:=hQ "_law_why" "_law_why" 927 361 3 599 (hR 601) (hR 602) (hR 603) 935
def o364:=hF "_law_why" "_law_why" (top 57) (hS "law_mustmay_k41_rooms_that_contradict_themse" 879) (hR 604)
def o365:=hT [hS "_law_rows_here" 941,hS "_law_ranks_here" 942,hS "_law_told" 943,hS "_law_rank" 944,hS "_law_fresh" 945,hS "_law_room" 946,hS "_law_place" 947,hS "_law_action" 948]
def o366:=hC "_law_ranks" "_law_ranks" (top 58)
def o367:=hQ "_law_ranks" "_law_ranks" 938 368 1 606 (hR 608) (hR 609) (hR 610) 949
def o368:=hF "_law_ranks" "_law_ranks" (top 58) (hS "law_mustmay_k41_rooms_that_contradict_themse" 879) (hR 611)
def o369:=hT [hS "_law_script" 955,hS "_law_many_here" 956,hS "_law_way" 957,hS "_law_rows_here" 958,hS "_law_cell" 959,hS "_law_number" 960,hS "_law_room" 961,hS "_law_door_here" 962]
def o370:=hC "_law_draft" "_law_draft" (top 59)
def o371:=hQ "_law_draft" "_law_draft" 952 380 2 613 (hR 615) (hR 616) (hR 617) 963
def o372:=hF "_law_draft" "_law_draft" (top 59) (hS "law_mustmay_k41_rooms_that_contradict_themse" 879) (hR 618)
def o373:=hC "_law_long" "_law_long" (top 60)
def o374:=hQ "_law_long" "_law_long" 966 391 2 620 .none .none (hR 622) 969
def o375:=hF "_law_long" "_law_long" (top 60) (hS "law_mustmay_k41_rooms_that_contradict_themse" 879) (hR 623)
def o376:=hT [hS "_law_found" 975,hS "_law_row" 976,hS "_law_thing" 977]
def o377:=hC "_law_kinds" "_law_kinds" (top 61)
def o378:=hQ "_law_kinds" "_law_kinds" 972 404 1 625 (hR 627) (hR 628) (hR 629) 978
def o379:=hF "_law_kinds" "_law_kinds" (top 61) (hS "law_mustmay_k41_rooms_that_contradict_themse" 879) (hR 630)
def o380:=hC "law" "law" (top 62)
def o381:=hQ "law" "law" 981 412 1 632 .none .none (hR 634) 984
def o382:=hF "law" "law" (top 62) (hS "law_mustmay_k41_rooms_that_contradict_themse" 879) (hR 635)
def o383:=hDn 15 [hE P "__name__" 165 (hS "mustmay.doors" 194),hE P "__doc__" 166 .none,hE P "__package__" 167 .none,hE P "__loader__" 168 (.builtin "__main__.__loader__#opaque"),hE P "__spec__" 169 .none,hE P "__annotations__" 170 (hR 6),hE P "__builtins__" 171 (hR 4),hE P "__file__" 173 (hS "/claim/cut.py" 172),hE P "__cached__" 174 .none,hE P "_wall" 193 (hR 21),hE P "Door" 231 (hR 45),hE P "Must" 276 (hR 87),hE P "May" 321 (hR 127),hE P "Shut" 373 (hR 174),hE P "Torn" 425 (hR 221)]
def o384:=hN [hI 1,hI 0,hR 20,hI 5,hI 0,hR 27,hI 12,hI 0,hR 55,hI 25,hI 0,hR 95,hI 38,hI 0,hR 135,hI 54,hI 0,hR 182]
def o385:=hDn 33 [hE P "__name__" 165 (hS "mustmay.plans" 482),hE P "__doc__" 166 .none,hE P "__package__" 167 .none,hE P "__loader__" 168 (.builtin "__main__.__loader__#opaque"),hE P "__spec__" 169 .none,hE P "__annotations__" 170 (hR 6),hE P "__builtins__" 171 (hR 4),hE P "__file__" 173 (hS "/claim/cut.py" 172),hE P "__cached__" 174 .none,hE P "_wall" 193 (hR 21),hE P "Door" 231 (hR 45),hE P "Must" 276 (hR 87),hE P "May" 321 (hR 127),hE P "Shut" 373 (hR 174),hE P "Torn" 425 (hR 221),hE P "door_of" 434 (hR 230),hE P "HallError" 454 (hR 240),hE P "BadPlan" 481 (hR 260),hE P "LETTERS" 485 (hS "abcdefghijklmnopqrstuvwxyz" 484),hE P "MOST_SIGNS" 487 (.int (8) 486),hE P "MOST_ACTIONS" 489 (.int (8) 488),hE P "MOST_ROOMS" 491 (.int (2000) 490),hE P "is_name" 497 (hR 267),hE P "is_action_list" 503 (hR 272),hE P "need_actions" 510 (hR 279),hE P "is_room" 518 (hR 286),hE P "is_told_door" 528 (hR 293),hE P "need_rooms" 541 (hR 300),hE P "made_door" 549 (hR 307),hE P "made_room" 555 (hR 312),hE P "told_room" 561 (hR 317),hE P "Draft" 641 (hR 379),hE P "Plan" 664 (hR 400)]
def o386:=hN [hI 1,hI 0,hR 20,hI 5,hI 0,hR 27,hI 12,hI 0,hR 55,hI 25,hI 0,hR 95,hI 38,hI 0,hR 135,hI 54,hI 0,hR 182,hI 70,hI 0,hR 229,hI 79,hI 0,hR 236,hI 81,hI 0,hR 249,hI 92,hI 0,hR 266,hI 96,hI 0,hR 271,hI 100,hI 0,hR 278,hI 103,hI 0,hR 285,hI 105,hI 0,hR 292,hI 114,hI 0,hR 299,hI 123,hI 0,hR 306,hI 126,hI 0,hR 311,hI 128,hI 0,hR 316,hI 130,hI 0,hR 323,hI 159,hI 0,hR 389]
def HA:Heap:=⟨Array.mk [boot_o_0 P,boot_o_1 P,boot_o_2 P,boot_o_3 P,boot_o_4 P,boot_o_5 P,boot_o_6 P,boot_o_7 P,boot_o_8 P,boot_o_9 P,boot_o_10 P,hT [],hN [],o0,o1],{}⟩
def TB:BT:=(nn (boot_o_0 P) (nn (boot_o_1 P) (nn (boot_o_3 P) (lf (boot_o_7 P)) (lf (hT []))) (nn (boot_o_5 P) (lf (boot_o_9 P)) (lf o0))) (nn (boot_o_2 P) (nn (boot_o_4 P) (lf (boot_o_8 P)) (lf (hN []))) (nn (boot_o_6 P) (lf (boot_o_10 P)) (lf o1))))
noncomputable def LF:List Obj:=boot_o_0 P::boot_o_1 P::boot_o_2 P::o2 P::boot_o_4 P::boot_o_5 P::boot_o_6 P::boot_o_7 P::boot_o_8 P::boot_o_9 P::boot_o_10 P::hT []::o3::o0::o1::hT []::hN []::o4::hT []::o5::o6::o7::hT []::o8::o9 P::hT []::o10::o11::o12::hT []::hN []::o13::hT []::o14::o15::o16::hT []::hN []::o17::hT []::o18::o19::o20::o21::o22 P::o23::o24::o25::o26::o27::hT [(hR 45)]::o8::o28 P::hT []::o29::o30::o31::hT []::hN []::o32::hT []::o33::o34::o35::hT []::hN []::o36::hT []::o37::o38::o39::hT []::hN []::o40::hT []::o41::o42::o43::hT []::hN []::o44::hT []::o45::o46::o47::hT []::o48 P::o49::o50::o51::hT [(hR 45)]::o8::o52 P::hT []::o53::o54::o55::hT []::hN []::o56::hT []::o57::o58::o59::hT []::hN []::o60::hT []::o61::o62::o63::hT []::hN []::o64::hT []::o65::o66::o67::hT []::hN []::o68::hT []::o69::o70::o71::hT []::o72 P::o73::o74::o75::hT [(hR 45)]::o8::o76 P::hT []::o77::o78::o79::hT []::hN []::o80::hT []::o81::o82::o83::hT []::hN []::o84::hT []::o85::o86::o87::hT []::hN []::o88::hT []::o89::o90::o91::hT []::hN []::o92::hT []::o93::o94::o95::hT []::hN []::o96::hT []::o97::o98::o99::hT []::o100 P::o101::o102::o103::hT [(hR 45)]::o8::o104 P::hT []::o105::o106::o107::hT []::hN []::o108::hT []::o109::o110::o111::hT []::hN []::o112::hT []::o113::o114::o115::hT []::hN []::o116::hT []::o117::o118::o119::hT []::hN []::o120::hT []::o121::o122::o123::hT []::hN []::o124::hT []::o125::o126::o127::hT []::o128 P::o129::o130::o131::hT []::hN []::o132::hT []::o133::o134::o135::o136::o8::o137 P::hT []::hN []::o138::o139::hT []::o140 P::o141::o142::o143::o144::hT [(hR 240)]::o8::o145 P::hT []::o146::o147::o148::hT []::hN []::o149::hT []::o150::o151::o152::o153::o154 P::o155::o156::o157::hT []::hN []::o158::o159::o160::hT []::hN []::o161::o162::o163::hT []::hN []::o164::hT []::o165::o166::o167::hT []::hN []::o168::hT []::o169::o170::o171::hT []::hN []::o172::hT []::o173::o174::o175::hT []::hN []::o176::hT []::o177::o178::o179::hT []::hN []::o180::hT []::o181::o182::o183::hT []::hN []::o184::o185::o186::hT []::hN []::o187::o188::o189::hT []::o8::o190 P::hT []::o191::o192::o193::hT []::hN []::o194::o195::o196::hT []::hN []::o197::hT []::o198::o199::o200::hT []::hN []::o201::hT []::o202::o203::o204::hT []::hN []::o205::hT []::o206::o207::o208::hT []::hN []::o209::hT []::o210::o211::o212::hT []::hN []::o213::o214::o215::hT []::hN []::o216::hT []::o217::o218::o219::hT []::hN []::o220::hT []::o221::o222::o223::o224::o225 P::o226::o227::o228::o229::o230::hT [(hR 379)]::o8::o231 P::hT []::o232::o233::o234::hT []::hN []::o235::hT []::o236::o237::o238::hT []::o239 P::o240::o241::o242::hT []::hN []::o243::o244::o245::hT []::hN []::o246::hT []::o247::o248::o249::hT []::hN []::o250::o251::o252::hT []::hN []::o253::o254::o255::hT []::hN []::o256::o257::o258::hT []::hN []::o259::o260::o261::hT []::hN []::o262::o263::o264::hT []::o8::o265 P::hT []::o266::o267::o268::hT []::hN []::o269::o270::o271::hT []::hN []::o272::o273::o274::hT []::hN []::o275::o276::o277::hT []::hN []::o278::hT []::o279::o280::o281::hT []::hN []::o282::hT []::o283::o284::o285::hT []::hN []::o286::hT []::o287::o288::o289::o290::o291 P::o292::o293::o294::o295::o296::hT []::hN []::o297::o298::o299::hT []::hN []::o300::o301::o302::hT []::hN []::o303::o304::o305::hT []::hN []::o306::o307::o308::hT []::hN []::o309::o310::o311::hT []::hN []::o312::hT []::o313::o314::o315::hT []::hN []::o316::o317::o318::hT []::hN []::o319::o320::o321::hT []::hN []::o322::hT []::o323::o324::o325::hT []::hN []::o326::o327::o328::hT []::hN []::o329::hT []::o330::o331::o332::hT []::hN []::o333::o334::o335::hT []::hN []::o336::o337::o338::hT []::hN []::o339::hT []::o340::o341::o342::hT []::hN []::o343::hT []::o344::o345::o346::hT []::hN []::o347::o348::o349::hT []::hN []::o350::hT []::o351::o352::o353::hT []::hN []::o354::o355::o356::hT []::hN []::o357::hT []::o358::o359::o360::hT []::hN []::o361::hT []::o362::o363::o364::hT []::hN []::o365::hT []::o366::o367::o368::hT []::hN []::o369::hT []::o370::o371::o372::hT []::hN []::o373::o374::o375::hT []::hN []::o376::hT []::o377::o378::o379::hT []::hN []::o380::o381::o382::[]
def TF:BT:=bt 12 (LF P)
def TM0:BT:=bt 12 ((((LF P).take 224).set 3 (o383 P)).set 12 o384)
def TM1:BT:=bt 12 ((((LF P).take 403).set 3 (o385 P)).set 12 o386)
def HF:Heap:=⟨Array.mk (LF P),{}⟩
def KK:Params->Frag:=λP=>(nat_lit 2,boot_o_2 P)::(nat_lit 3,o2 P)::(nat_lit 15,hT [])::(nat_lit 17,o4)::(nat_lit 18,hT [])::(nat_lit 20,o6)::(nat_lit 21,o7)::(nat_lit 29,hT [])::(nat_lit 31,o13)::(nat_lit 32,hT [])::(nat_lit 34,o15)::(nat_lit 35,o16)::(nat_lit 36,hT [])::(nat_lit 38,o17)::(nat_lit 39,hT [])::(nat_lit 41,o19)::(nat_lit 42,o20)::(nat_lit 43,o21)::(nat_lit 44,o22 P)::(nat_lit 45,o23)::(nat_lit 46,o24)::(nat_lit 47,o25)::(nat_lit 50,hT [(hR 45)])::(nat_lit 57,hT [])::(nat_lit 59,o32)::(nat_lit 60,hT [])::(nat_lit 62,o34)::(nat_lit 63,o35)::(nat_lit 64,hT [])::(nat_lit 66,o36)::(nat_lit 67,hT [])::(nat_lit 69,o38)::(nat_lit 70,o39)::(nat_lit 71,hT [])::(nat_lit 73,o40)::(nat_lit 74,hT [])::(nat_lit 76,o42)::(nat_lit 77,o43)::(nat_lit 78,hT [])::(nat_lit 80,o44)::(nat_lit 81,hT [])::(nat_lit 83,o46)::(nat_lit 84,o47)::(nat_lit 85,hT [])::(nat_lit 86,o48 P)::(nat_lit 87,o49)::(nat_lit 90,hT [(hR 45)])::(nat_lit 97,hT [])::(nat_lit 99,o56)::(nat_lit 100,hT [])::(nat_lit 102,o58)::(nat_lit 103,o59)::(nat_lit 104,hT [])::(nat_lit 106,o60)::(nat_lit 107,hT [])::(nat_lit 109,o62)::(nat_lit 110,o63)::(nat_lit 111,hT [])::(nat_lit 113,o64)::(nat_lit 114,hT [])::(nat_lit 116,o66)::(nat_lit 117,o67)::(nat_lit 118,hT [])::(nat_lit 120,o68)::(nat_lit 121,hT [])::(nat_lit 123,o70)::(nat_lit 124,o71)::(nat_lit 125,hT [])::(nat_lit 126,o72 P)::(nat_lit 127,o73)::(nat_lit 130,hT [(hR 45)])::(nat_lit 137,hT [])::(nat_lit 139,o80)::(nat_lit 140,hT [])::(nat_lit 142,o82)::(nat_lit 143,o83)::(nat_lit 144,hT [])::(nat_lit 146,o84)::(nat_lit 147,hT [])::(nat_lit 149,o86)::(nat_lit 150,o87)::(nat_lit 151,hT [])::(nat_lit 153,o88)::(nat_lit 154,hT [])::(nat_lit 156,o90)::(nat_lit 157,o91)::(nat_lit 158,hT [])::(nat_lit 160,o92)::(nat_lit 161,hT [])::(nat_lit 163,o94)::(nat_lit 164,o95)::(nat_lit 165,hT [])::(nat_lit 167,o96)::(nat_lit 168,hT [])::(nat_lit 170,o98)::(nat_lit 171,o99)::(nat_lit 172,hT [])::(nat_lit 173,o100 P)::(nat_lit 174,o101)::(nat_lit 177,hT [(hR 45)])::(nat_lit 184,hT [])::(nat_lit 186,o108)::(nat_lit 187,hT [])::(nat_lit 189,o110)::(nat_lit 190,o111)::(nat_lit 191,hT [])::(nat_lit 193,o112)::(nat_lit 194,hT [])::(nat_lit 196,o114)::(nat_lit 197,o115)::(nat_lit 198,hT [])::(nat_lit 200,o116)::(nat_lit 201,hT [])::(nat_lit 203,o118)::(nat_lit 204,o119)::(nat_lit 205,hT [])::(nat_lit 207,o120)::(nat_lit 208,hT [])::(nat_lit 210,o122)::(nat_lit 211,o123)::(nat_lit 212,hT [])::(nat_lit 214,o124)::(nat_lit 215,hT [])::(nat_lit 217,o126)::(nat_lit 218,o127)::(nat_lit 219,hT [])::(nat_lit 220,o128 P)::(nat_lit 221,o129)::(nat_lit 224,hT [])::(nat_lit 226,o132)::(nat_lit 227,hT [])::(nat_lit 229,o134)::(nat_lit 230,o135)::(nat_lit 231,o136)::(nat_lit 238,hT [])::(nat_lit 239,o140 P)::(nat_lit 240,o141)::(nat_lit 241,o142)::(nat_lit 244,hT [(hR 240)])::(nat_lit 251,hT [])::(nat_lit 253,o149)::(nat_lit 254,hT [])::(nat_lit 256,o151)::(nat_lit 257,o152)::(nat_lit 258,o153)::(nat_lit 259,o154 P)::(nat_lit 260,o155)::(nat_lit 263,hT [])::(nat_lit 266,o159)::(nat_lit 267,o160)::(nat_lit 268,hT [])::(nat_lit 271,o162)::(nat_lit 272,o163)::(nat_lit 273,hT [])::(nat_lit 275,o164)::(nat_lit 276,hT [])::(nat_lit 278,o166)::(nat_lit 279,o167)::(nat_lit 280,hT [])::(nat_lit 282,o168)::(nat_lit 283,hT [])::(nat_lit 285,o170)::(nat_lit 286,o171)::(nat_lit 287,hT [])::(nat_lit 289,o172)::(nat_lit 290,hT [])::(nat_lit 292,o174)::(nat_lit 293,o175)::(nat_lit 294,hT [])::(nat_lit 296,o176)::(nat_lit 297,hT [])::(nat_lit 299,o178)::(nat_lit 300,o179)::(nat_lit 301,hT [])::(nat_lit 303,o180)::(nat_lit 304,hT [])::(nat_lit 306,o182)::(nat_lit 307,o183)::(nat_lit 308,hT [])::(nat_lit 311,o185)::(nat_lit 312,o186)::(nat_lit 313,hT [])::(nat_lit 316,o188)::(nat_lit 317,o189)::(nat_lit 325,hT [])::(nat_lit 328,o195)::(nat_lit 329,o196)::(nat_lit 330,hT [])::(nat_lit 332,o197)::(nat_lit 333,hT [])::(nat_lit 335,o199)::(nat_lit 336,o200)::(nat_lit 337,hT [])::(nat_lit 339,o201)::(nat_lit 340,hT [])::(nat_lit 342,o203)::(nat_lit 343,o204)::(nat_lit 344,hT [])::(nat_lit 346,o205)::(nat_lit 347,hT [])::(nat_lit 349,o207)::(nat_lit 350,o208)::(nat_lit 351,hT [])::(nat_lit 353,o209)::(nat_lit 354,hT [])::(nat_lit 356,o211)::(nat_lit 357,o212)::(nat_lit 358,hT [])::(nat_lit 361,o214)::(nat_lit 362,o215)::(nat_lit 363,hT [])::(nat_lit 365,o216)::(nat_lit 366,hT [])::(nat_lit 368,o218)::(nat_lit 369,o219)::(nat_lit 370,hT [])::(nat_lit 372,o220)::(nat_lit 373,hT [])::(nat_lit 375,o222)::(nat_lit 376,o223)::(nat_lit 377,o224)::(nat_lit 378,o225 P)::(nat_lit 379,o226)::(nat_lit 380,o227)::(nat_lit 381,o228)::(nat_lit 384,hT [(hR 379)])::(nat_lit 391,hT [])::(nat_lit 393,o235)::(nat_lit 394,hT [])::(nat_lit 396,o237)::(nat_lit 397,o238)::(nat_lit 398,hT [])::(nat_lit 399,o239 P)::(nat_lit 400,o240)::(nat_lit 403,hT [])::(nat_lit 406,o244)::(nat_lit 407,o245)::(nat_lit 408,hT [])::(nat_lit 410,o246)::(nat_lit 411,hT [])::(nat_lit 413,o248)::(nat_lit 414,o249)::(nat_lit 415,hT [])::(nat_lit 418,o251)::(nat_lit 419,o252)::(nat_lit 420,hT [])::(nat_lit 423,o254)::(nat_lit 424,o255)::(nat_lit 425,hT [])::(nat_lit 428,o257)::(nat_lit 429,o258)::(nat_lit 430,hT [])::(nat_lit 433,o260)::(nat_lit 434,o261)::(nat_lit 435,hT [])::(nat_lit 438,o263)::(nat_lit 439,o264)::(nat_lit 447,hT [])::(nat_lit 450,o270)::(nat_lit 451,o271)::(nat_lit 452,hT [])::(nat_lit 455,o273)::(nat_lit 456,o274)::(nat_lit 457,hT [])::(nat_lit 460,o276)::(nat_lit 461,o277)::(nat_lit 462,hT [])::(nat_lit 464,o278)::(nat_lit 465,hT [])::(nat_lit 467,o280)::(nat_lit 468,o281)::(nat_lit 469,hT [])::(nat_lit 471,o282)::(nat_lit 472,hT [])::(nat_lit 474,o284)::(nat_lit 475,o285)::(nat_lit 476,hT [])::(nat_lit 478,o286)::(nat_lit 479,hT [])::(nat_lit 481,o288)::(nat_lit 482,o289)::(nat_lit 483,o290)::(nat_lit 484,o291 P)::(nat_lit 485,o292)::(nat_lit 486,o293)::(nat_lit 487,o294)::(nat_lit 490,hT [])::(nat_lit 493,o298)::(nat_lit 494,o299)::(nat_lit 495,hT [])::(nat_lit 498,o301)::(nat_lit 499,o302)::(nat_lit 500,hT [])::(nat_lit 503,o304)::(nat_lit 504,o305)::(nat_lit 505,hT [])::(nat_lit 508,o307)::(nat_lit 509,o308)::(nat_lit 510,hT [])::(nat_lit 513,o310)::(nat_lit 514,o311)::(nat_lit 515,hT [])::(nat_lit 517,o312)::(nat_lit 518,hT [])::(nat_lit 520,o314)::(nat_lit 521,o315)::(nat_lit 522,hT [])::(nat_lit 525,o317)::(nat_lit 526,o318)::(nat_lit 527,hT [])::(nat_lit 530,o320)::(nat_lit 531,o321)::(nat_lit 532,hT [])::(nat_lit 534,o322)::(nat_lit 535,hT [])::(nat_lit 537,o324)::(nat_lit 538,o325)::(nat_lit 539,hT [])::(nat_lit 542,o327)::(nat_lit 543,o328)::(nat_lit 544,hT [])::(nat_lit 546,o329)::(nat_lit 547,hT [])::(nat_lit 549,o331)::(nat_lit 550,o332)::(nat_lit 551,hT [])::(nat_lit 554,o334)::(nat_lit 555,o335)::(nat_lit 556,hT [])::(nat_lit 559,o337)::(nat_lit 560,o338)::(nat_lit 561,hT [])::(nat_lit 563,o339)::(nat_lit 564,hT [])::(nat_lit 566,o341)::(nat_lit 567,o342)::(nat_lit 568,hT [])::(nat_lit 570,o343)::(nat_lit 571,hT [])::(nat_lit 573,o345)::(nat_lit 574,o346)::(nat_lit 575,hT [])::(nat_lit 578,o348)::(nat_lit 579,o349)::(nat_lit 580,hT [])::(nat_lit 582,o350)::(nat_lit 583,hT [])::(nat_lit 585,o352)::(nat_lit 586,o353)::(nat_lit 587,hT [])::(nat_lit 590,o355)::(nat_lit 591,o356)::(nat_lit 592,hT [])::(nat_lit 594,o357)::(nat_lit 595,hT [])::(nat_lit 597,o359)::(nat_lit 598,o360)::(nat_lit 599,hT [])::(nat_lit 601,o361)::(nat_lit 602,hT [])::(nat_lit 604,o363)::(nat_lit 605,o364)::(nat_lit 606,hT [])::(nat_lit 608,o365)::(nat_lit 609,hT [])::(nat_lit 611,o367)::(nat_lit 612,o368)::(nat_lit 613,hT [])::(nat_lit 615,o369)::(nat_lit 616,hT [])::(nat_lit 618,o371)::(nat_lit 619,o372)::(nat_lit 620,hT [])::(nat_lit 623,o374)::(nat_lit 624,o375)::(nat_lit 625,hT [])::(nat_lit 627,o376)::(nat_lit 628,hT [])::(nat_lit 630,o378)::(nat_lit 631,o379)::(nat_lit 632,hT [])::(nat_lit 635,o381)::(nat_lit 636,o382)::[]
noncomputable def as:List Addr:=[2,3,15,17,18,20,21,29,31,32,34,35,36,38,39,41,42,43,44,45,46,47,50,57,59,60,62,63,64,66,67,69,70,71,73,74,76,77,78,80,81,83,84,85,86,87,90,97,99,100,102,103,104,106,107,109,110,111,113,114,116,117,118,120,121,123,124,125,126,127,130,137,139,140,142,143,144,146,147,149,150,151,153,154,156,157,158,160,161,163,164,165,167,168,170,171,172,173,174,177,184,186,187,189,190,191,193,194,196,197,198,200,201,203,204,205,207,208,210,211,212,214,215,217,218,219,220,221,224,226,227,229,230,231,238,239,240,241,244,251,253,254,256,257,258,259,260,263,266,267,268,271,272,273,275,276,278,279,280,282,283,285,286,287,289,290,292,293,294,296,297,299,300,301,303,304,306,307,308,311,312,313,316,317,325,328,329,330,332,333,335,336,337,339,340,342,343,344,346,347,349,350,351,353,354,356,357,358,361,362,363,365,366,368,369,370,372,373,375,376,377,378,379,380,381,384,391,393,394,396,397,398,399,400,403,406,407,408,410,411,413,414,415,418,419,420,423,424,425,428,429,430,433,434,435,438,439,447,450,451,452,455,456,457,460,461,462,464,465,467,468,469,471,472,474,475,476,478,479,481,482,483,484,485,486,487,490,493,494,495,498,499,500,503,504,505,508,509,510,513,514,515,517,518,520,521,522,525,526,527,530,531,532,534,535,537,538,539,542,543,544,546,547,549,550,551,554,555,556,559,560,561,563,564,566,567,568,570,571,573,574,575,578,579,580,582,583,585,586,587,590,591,592,594,595,597,598,599,601,602,604,605,606,608,609,611,612,613,615,616,618,619,620,623,624,625,627,628,630,631,632,635,636]
def vw:Program:=PySem.W.view pw [0,2,3,4,5,6,7,9,10,12,13,14,15,16,17,18,19,20,21,22,23,24,25,26,27,29,30,31,32,33,34,35,36,37,39,40,41,42,43,44,45,46,47,48,49,51,52,53,54,55,56,57,58,59,60,61,62]
def en:Env:={ scope:=pw.main.scope,locals:=mainNs,globals:=mainNs,cells:=[],code:=(hR 13),frame:=some 14 }
theorem hk:∀P,as=(KK P).map (·.1):=λ_=>by kernel_rfl
noncomputable abbrev cE:Code:=.body (behindTheImports pw) en
noncomputable abbrev fB:List Frame:=[topFrame ⟨0,0,0,0⟩]
theorem t_pre(w:World)(os:OsState):topGo treeTable pw w 11 (some (.ref 6)) 12 ⟨boot_heap w.params,Array.mk [],boot_drawn,boot_toks,os⟩ (topStub pw)=some (⟨HA w.params,Array.mk [],{},187,os⟩,⟨denote treeTable cE,cE,⟨0,0,0,0⟩,fB⟩):=by kernel_rfl
theorem t_block(w:World)(os:OsState):segRun treeTable pw w 11 (some (.ref 6)) 1 1 ⟨HA w.params,Array.mk [],{},187,os⟩ (blockOf (behindTheImports pw) en cE ⟨0,0,0,0⟩ fB)=some (.next,(SharedT.mk (TB w.params) 15 {} (Array.mk []) {} 187 os).abs,cE,⟨0,0,0,0⟩):=by kernel_rfl
theorem t_body0(w:World)(os:OsState):segRunT treeTable pw w 11 (some (.ref 6)) 1 1703 (SharedT.mk (TB w.params) 15 {} (Array.mk []) {} 187 os) (piecesOf ((behindTheImports pw).take 7) en cE ⟨0,0,0,0⟩ fB)=some (.next,(SharedT.mk (TM0 w.params) 224 {} (Array.mk []) {} 426 os),cE,⟨54,0,69,21⟩):=by kernel_rfl
theorem t_body1(w:World)(os:OsState):segRunT treeTable pw w 11 (some (.ref 6)) 1 1460 (SharedT.mk (TM0 w.params) 224 {} (Array.mk []) {} 426 os) (piecesOf (((behindTheImports pw).drop 7).take 20) en cE ⟨54,0,69,21⟩ fB)=some (.next,(SharedT.mk (TM1 w.params) 403 {} (Array.mk []) {} 665 os),cE,⟨159,0,162,20⟩):=by kernel_rfl
theorem t_body2(w:World)(os:OsState):segRunT treeTable pw w 11 (some (.ref 6)) 1 1316 (SharedT.mk (TM1 w.params) 403 {} (Array.mk []) {} 665 os) (piecesOf ((behindTheImports pw).drop 27) en cE ⟨159,0,162,20⟩ fB)=some (.next,(SharedT.mk (TF w.params) 637 {} (Array.mk []) {} 987 os),cE,⟨412,0,429,102⟩):=by kernel_rfl
theorem t_split:(behindTheImports pw)=((behindTheImports pw).take 7)++((((behindTheImports pw).drop 7).take 20)++(((behindTheImports pw).drop 27)++([]))):=by kernel_rfl
theorem t_fin(w:World)(os:OsState):topRun treeTable pw w 11 (some (.ref 6)) 2 (SharedT.mk (TF w.params) 637 {} (Array.mk []) {} 987 os).abs ⟨doneF .next,cE,⟨412,0,429,102⟩,fB⟩=some ⟨HF w.params,Array.mk [],{},987,os⟩:=by kernel_rfl
theorem t_run(w:World)(os:OsState):topRun treeTable pw w 11 (some (.ref 6)) (12+(1+(1703+(1460+(1316+2))))) ⟨boot_heap w.params,Array.mk [],boot_drawn,boot_toks,os⟩ (topStub pw)=some ⟨HF w.params,Array.mk [],{},987,os⟩:=
 go_top (t_pre w os) (piece_block (q:=⟨0,0,0,0⟩) (t_block w os) (by
  have h:=piece_app (q:=⟨0,0,0,0⟩) (segRun_of (t_body0 w os)) (piece_app (q:=⟨0,0,0,0⟩) (segRun_of (t_body1 w os)) (piece_app (q:=⟨0,0,0,0⟩) (segRun_of (t_body2 w os)) (piece_nil (t_fin w os))))
  rw[←t_split] at h
  exact h))
theorem t_op(w:World):(fencedOpening treeTable pw w 9072).map (λs=>(s.heap,s.gens,s.drawn,s.toks))=some (boot_heap w.params,Array.mk [],boot_drawn,boot_toks):=boot_open (by kernel_rfl) (by decide) (λs=>by kernel_rfl) w
theorem t_size(w:World):((boot_heap w.params).isNs mainGlobals && (Array.mk []:Array GenState).size==0,(boot_heap w.params).objs.size,(boot_heap w.params).nsMap mainGlobals "__annotations__")=(true,11,(some (.ref 6))):=by kernel_rfl
theorem tk1(w:World):staticsOk (importedModules pw.main.body) (boot_heap w.params) (HF w.params)=true:=by kernel_rfl
theorem tk2(w:World):namesBound pw (HF w.params)=true:=by kernel_rfl
theorem tk3(w:World)(os:OsState):gensDone ⟨HF w.params,Array.mk [],{},987,os⟩=true:=by kernel_rfl
theorem tk4(w:World):laidKept (boot_heap w.params) (HF w.params)=true:=by kernel_rfl
open PySem.Calls PyProof.Rows in
theorem tkc0(w:World)(os:OsState):seen ((recsOf vw).map (·.name)) (ownsOf vw) [] (Shared.mk (HF w.params) #[] {} 987 os)=expectedOf vw:=by kernel_rfl
open PySem.Calls PyProof.Rows in
theorem tkc1(w:World)(os:OsState):Heap.bltView (HF w.params)=bltViewBooted:=by kernel_rfl
open PySem.Calls PyProof.Rows in
theorem tkc2a(w:World)(os:OsState):Heap.keysOk (HF w.params) (looseW vw []) ((recsOf vw).map (·.name)) ((litsOf vw).map (·.1)) ((clssOf vw (looseW vw [])).map (·.name))=true:=by kernel_rfl
open PySem.Calls PyProof.Rows in
theorem tkc2b(w:World)(os:OsState):Heap.accountedOkI (HF w.params) (importedModules pw.main.body)=true:=by kernel_rfl
open PySem.Calls PyProof.Rows in
theorem tkc2c(w:World)(os:OsState):Heap.isNs (HF w.params) mainGlobals=true:=by kernel_rfl
open PySem.Calls PyProof.Rows in
theorem tkc2d(w:World)(os:OsState):Heap.isNs (HF w.params) builtinsNs=true:=by kernel_rfl
open PySem.Calls PyProof.Rows in
theorem tkc2e(w:World)(os:OsState):tablesOk vw (HF w.params)=true:=by kernel_rfl
open PySem.Calls PyProof.Rows in
theorem tkc2f(w:World)(os:OsState):(λs=>xlAt vw [] s && recOk (RowW.records PySem.Challenge.rw_mustmay_k41_rooms_that_contradict_themse.row.toRowW) s) ⟨HF w.params,Array.mk [],{},987,os⟩=true:=by kernel_rfl
open PySem.Calls PyProof.Rows in
theorem tkc3(w:World)(os:OsState):tabsOk vw ⟨HF w.params,Array.mk [],{},987,os⟩=true:=by kernel_rfl
open PySem.Calls PyProof.Rows in
theorem tkc4(w:World)(os:OsState):pinSeenD vw (drecsOf vw) ⟨HF w.params,Array.mk [],{},987,os⟩=pinGoodD (drecsOf vw):=by kernel_rfl
open PySem.Calls PyProof.Rows in
theorem tkc5(w:World)(os:OsState):plainSeenE vw (looseW vw []) ⟨HF w.params,Array.mk [],{},987,os⟩=plainGoodE vw (looseW vw []):=by kernel_rfl
open PySem.Calls PyProof.Rows in
theorem tkc6(w:World)(os:OsState):plainSeenD vw [] ⟨HF w.params,Array.mk [],{},987,os⟩=plainGoodD vw []:=by kernel_rfl
open PySem.Calls PyProof.Rows in
theorem tkc7(w:World)(os:OsState):wideSeen vw ⟨HF w.params,Array.mk [],{},987,os⟩=wideGood vw:=by kernel_rfl
open PySem.Calls PyProof.Rows in
theorem tkc8(w:World)(os:OsState):clsSeenW vw [] ⟨HF w.params,Array.mk [],{},987,os⟩=clsGoodW vw []:=by kernel_rfl
theorem and7{a b c d e f g:Bool}(h1:a=true)(h2:b=true)(h3:c=true)(h4:d=true)(h5:e=true)(h6:f=true)(h7:g=true):(a && b && c && d && e && f && g)=true:=by rw[h1,h2,h3,h4,h5,h6,h7];rfl
theorem ext9{A0 A1 A2 A3 A4 A5 A6 A7 A8:Type}{a0 b0:A0}{a1 b1:A1}{a2 b2:A2}{a3 b3:A3}{a4 b4:A4}{a5 b5:A5}{a6 b6:A6}{a7 b7:A7}{a8 b8:A8}(h0:a0=b0)(h1:a1=b1)(h2:a2=b2)(h3:a3=b3)(h4:a4=b4)(h5:a5=b5)(h6:a6=b6)(h7:a7=b7)(h8:a8=b8):(a0,a1,a2,a3,a4,a5,a6,a7,a8)=(b0,b1,b2,b3,b4,b5,b6,b7,b8):=by rw[h0,h1,h2,h3,h4,h5,h6,h7,h8]
theorem tk5(w:World)(os:OsState):(openSeen vw [] (importedModules pw.main.body) (λs=>xlAt vw [] s && recOk (RowW.records PySem.Challenge.rw_mustmay_k41_rooms_that_contradict_themse.row.toRowW) s) true ⟨HF w.params,Array.mk [],{},987,os⟩)=openGood vw []:=by
 unfold openSeen openGood
 exact ext9 (tkc0 w os) (tkc1 w os) (and7 (tkc2a w os) (tkc2b w os) (tkc2c w os) (tkc2d w os) (tkc2e w os) (tkc2f w os) rfl) (tkc3 w os) (tkc4 w os) (tkc5 w os) (tkc6 w os) (tkc7 w os) (tkc8 w os)
theorem tk6(w:World)(os:OsState):Hook.obs (kHook KK as hk) ⟨HF w.params,Array.mk [],{},987,os⟩=Hook.val (kHook KK as hk) w:=by kernel_rfl
theorem t_left:LeftO pw vw [] (λs=>xlAt vw [] s && recOk (RowW.records PySem.Challenge.rw_mustmay_k41_rooms_that_contradict_themse.row.toRowW) s) (Hook.obs (kHook KK as hk)) (Hook.val (kHook KK as hk)) 9072 true :=
 LeftO.of_pieces (H₀:=boot_heap) (H₁:=HF) (m₀:=11) (ann:=(some (.ref 6))) (M:=(12+(1+(1703+(1460+(1316+2)))))) t_op t_size t_run (by decide) λw=>funext λos=>Prod.ext (by dsimp only;rw[tk1,tk2,tk3,tk4];rfl) (Prod.ext (tk5 w os) (tk6 w os))
end
end K13
local macro_rules
 | `(tactic| walk_at $s:str)=>do
  unless s.getString=="f" do Lean.Macro.throwUnsupported
  `(tactic| first
  | (refine' DL.yX.of ?_ ?_ ?_ ?_ ?_ ?_ ?_ ?_ ?_ <;> first | k_is | skip)
  | (refine' DL.TX.mk ?_ (DL.FX.of ?_ ?_ ?_ ?_) <;> first | k_is | skip)
  | (refine' DL.FX.of ?_ ?_ ?_ ?_ <;> first | k_is | skip)
  | (refine' DL.MkF.mk ?_ ?_ ?_ <;> first | k_is | skip)
  | (refine' DL.GetF.mk ?_ ?_ <;> first | k_is | skip)
  | (show findIn _ _ _=_;k_is)
  | k_is
  | decide
  | skip)
namespace K13
open PySem PySem.W PyProof.Rows L2 MX DL
set_option maxRecDepth 100000 in
set_option maxHeartbeats 0 in
theorem PQ(w:World)(mg:Str->Option Value)(fa:Addr)(h:Heap)(KX:(KK w.params).In h)(G:h.Ns mainGlobals mg)(hmg:mg "law"=some (.ref fa)):∃fd:FuncData,(∀(s:Shared)(u:Value),BindsTo s fd ⟨[u],[]⟩ [("_law_script",u)])/\∀base:Heap,(KK w.params).In base->base.Ns mainGlobals mg->cJ PySem.Challenge.rw_mustmay_k41_rooms_that_contradict_themse.prog w (KK w.params) mg base CX0 10 fa fd ["_law_script"] (KH (KK w.params)):=by
 k_fill
 refine' all_mk (l:=PySem.Challenge.rw_mustmay_k41_rooms_that_contradict_themse) KX G hmg ?_ ?_ ?_ ?_ ?_ ?_ ?_ ?_ ?_ ?_ ?_ ?_ ?_ ?_ ?_ ?_ ?_ ?_ ?_ ?_ ?_ ?_ ?_ ?_ ?_ ?_ ?_ ?_ ?_ ?_ ?_ ?_ ?_ ?_ ?_ ?_ ?_ ?_ ?_ ?_ ?_ ?_ ?_ ?_ ?_ ?_ ?_ ?_ ?_ ?_ ?_ ?_ ?_ ?_ ?_ ?_ ?_ ?_ ?_ ?_ ?_ ?_ ?_ ?_ ?_ ?_ ?_ ?_ ?_ ?_ ?_ ?_ ?_ ?_ ?_ ?_ ?_ ?_ ?_ ?_ ?_ ?_ ?_ ?_ ?_ ?_ ?_ ?_ ?_ ?_ ?_ ?_ ?_ ?_ ?_ ?_ ?_ ?_ ?_ ?_ ?_ ?_ ?_ ?_ <;> walk_at "f"
end K13
open PySem PySem.W PyProof.Rows
set_option maxRecDepth 100000 in
set_option maxHeartbeats 0 in
theorem PySem.Challenge.cw_mustmay_k41_rooms_that_contradict_themse_holds : PySem.Challenge.rw_mustmay_k41_rooms_that_contradict_themse.Holds := by
 w_on
 refine PySem.W.holds_law h_said λsaid=>?_
 refine holds_open (q:=K13.vw) (loose:=[]) (Xt:=λs=>xlAt K13.vw [] s && recOk (RowW.records PySem.Challenge.rw_mustmay_k41_rooms_that_contradict_themse.row.toRowW) s) (XP:=XL K13.vw []) (Yf:=Hook.obs (kHook K13.KK K13.as K13.hk)) (Ya:=Hook.val (kHook K13.KK K13.as K13.hk)) (YP:=Hook.says (kHook K13.KK K13.as K13.hk)) (N:=9072) K13.t_left (Hook.of (kHook K13.KK K13.as K13.hk)) (Hook.keeps (kHook K13.KK K13.as K13.hk)) (λs e=>xl_of s (Bool.and_eq_true_iff.mp e).1) XL.keeps (by rfl) (by rfl) (by rfl) (λs e=>recFacts_of (Bool.and_eq_true_iff.mp e).2) (by rfl) said (by decide +kernel) h_bare ?hw ?hc
 (case hw=>w_witness2)
 k_fill
 refine K13.walk (l:=PySem.Challenge.rw_mustmay_k41_rooms_that_contradict_themse) rfl rfl (λw h Y=>PySem.W.kIn_of Y) ?F
 case F =>
  intro w mg fa h KX G hmg
  exact K13.PQ w mg fa h KX G hmg
