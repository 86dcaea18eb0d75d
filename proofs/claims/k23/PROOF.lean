import PyProof.Rows.All
import Wide.All
import OpenK.AllK
import Wide.FinOn
import Lean
import PyProof.EqAt
import PyProof.EqKinds
import PyProof.TupleCall
import PyProof.ExcClass2
import PyProof.NsCount
import PyProof.StationsW
import PyProof.PassesOwn
import PyProof.Commute
import PyProof.RulesAs
import PyProof.NsDelKeeps
import KE.KTryMore
import PyProof.Walks
import PyProof.ListNew
import KE.KDictOf
import PyProof.ZipIter
import PyProof.Rows.ZipGen
import KE.KDictLaws
import PyProof.DictTruth
import PyProof.EnumMake
import PyProof.WalksMore
import PySem.Challenge.RW_mustmay_k23_rooms_parted
set_option Elab.async false
set_option linter.all false
set_option maxRecDepth 100000
noncomputable section
open PySem.W (Frag findIn mg_of nsIn keepIn mg_none_of)
def Wn:=@False.elim
def Wo:=@List.getElem?_eq_getElem
def Wq:=@List.getD_eq_getElem?_getD
def Wr:=@PySem.wpAny_bind
def Ws:=@List.getElem?_eq_some_iff
def Wt:=@PySem.Heap.get?_push_of_some
def Wu:=@if_pos
def Wv:=@Bool.false_ne_true
def Ww:=@Nat.le_refl
def Wx:=@List.length_map
def Wy:=@PySem.Heap.lt_size
def Wz:=@List.getElem?_append_left
def WD:=@if_neg
def WF:=@Option.map_eq_some_iff
def WK:=@PySem.Heap.get?_push_size
def WL:=@List.getElem?_map
def WM:=@PySem.wpAny_pure
def WN:=@List.map_cons
def WP:=@List.length_cons
def WQ:=@Nat.lt_of_lt_of_le
def WR:=@List.mem_cons_of_mem
def WT:=@of_decide_eq_true
def WW:=@Option.some.inj
def WX:=@Nat.ne_of_lt
def WY:=@List.mem_cons_self
def W0:=@List.length_append
def W2:=@List.mem_range
def W3:=@beq_eq_false_iff_ne
def W4:=@List.mem_append
def W5:=@Nat.le_trans
def W6:=@List.getElem?_append_right
def W7:=@Nat.add_sub_cancel_left
def W8:=@List.size_toArray
def W9:=@List.mem_cons
def Xa:=@Nat.lt_of_le_of_lt
def Xb:=@List.getElem?_set_self
def Xc:=@List.length_set
def Xd:=@congrArg
def Xe:=@List.getElem?_set_ne
def Xf:=@Iff.rfl
def Xg:=@List.mem_append_right
def Xh:=@PySem.W.kia_one
def Xi:=@List.append_nil
def Xj:=@Classical.byContradiction
def Xk:=@decide_eq_false
def Xl:=@PyProof.Rows.callWith_type1
def Xm:=@List.replicate_succ
def Xn:=@PySem.wpAny_truthy_bool
def Xo:=@PySem.F.called_set
def Xp:=@Nat.lt_succ_self
def Xq:=@Nat.zero_le
def Xr:=@Option.bind_eq_some_iff
def Xu:=@List.append_assoc
def Xv:=@Int.toNat_natCast
def Xw:=@Nat.lt_irrefl
def Xx:=@PySem.wpAny_mono
def Xy:=@List.getElem_mem
def Xz:=@List.length_singleton
def XC:=@List.drop_eq_getElem_cons
def XD:=@Int.emod_nonneg
def XF:=@PySem.wpAny_Call_Name_kw
def XH:=@Ne.symm
def XJ:=@List.mem_of_getElem?
def XM:=@List.length_range
def XN:=@List.flatten_cons
def XQ:=@Bool.eq_false_iff
def XR:=@PySem.W.mg_none_of
def XS:=@List.any_cons
def XX:=@PySem.mem_of_lookup
def X3:=@Bool.and_eq_true
def X4:=@Int.emod_lt_of_pos
def X5:=@PySem.wpAny_callSpecial?_slot
def X6:=@List.map_append
def X7:=@PySem.W.methodCall_KW
def X8:=@PySem.wpAny_field
def Yb:=@PySem.wpAny_passesOwn
def Yc:=@PySem.wpAny_holding
def Yd:=@List.mem_map
def Ye:=@List.mem_or_eq_of_mem_set
def Yg:=@PyProof.Rows.F.plain_set_update_loop
def Yh:=@PySem.F.slot_tuple_iterator_next
def Yi:=@PySem.W.callWith_K
def Yj:=@List.find?_eq_none
def Yk:=@PySem.F.plainAttrs_list
def Ym:=@decide_eq_true
def Yn:=@PySem.wpAny_setField_rec
def Yo:=@PySem.Calls.spliced_cons
def Yp:=@PySem.wpAny_getItem_str_slice
def Yq:=@List.take_append_drop
def Yr:=@List.getElem?_eq_none
def Ys:=@beq_iff_eq
def Yt:=@List.filter_cons
def Yu:=@List.drop_length
def Yv:=@List.any_eq_true
def Yw:=@List.all_cons
def Yx:=@PySem.Heap.size_push
def Yy:=@List.nodup_cons
def Yz:=@Nat.sub_lt_sub_left
def YB:=@List.filterMap_cons
def YC:=@PySem.F.slot_enumerate_next
def YD:=@Nat.ne_of_gt
def YF:=@Nat.lt_trans
def YG:=@iff_of_eq
def YH:=@List.mem_singleton
def YJ:=@Option.isNone_iff_eq_none
def YK:=@List.mem_of_find?_eq_some
def YL:=@List.reverse_cons
def YM:=@List.ext_getElem?
def YQ:=@PySem.codeAny_mono
def YS:=@PySem.F.type_list_append
def YT:=@PySem.F.slot_list_append
def YW:=@Option.isSome_iff_exists
def YX:=@PySem.tupleKind_room_in1
def YZ:=@Option.bind_some
def Y0:=@Nat.le_add_right
def Y4:=@List.getElem?_set_self'
def Y5:=@List.all_eq_true
def Y6:=@List.take_of_length_le
def Y7:=@List.map_set
def Y8:=@PySem.wpAny_pyIter_enum
def Y9:=@Nat.not_lt_zero
def Za:=@List.mem_filter
def Zb:=@PySem.Calls.spliced_nil
def Zc:=@PySem.F.slot_dict_get
def Zd:=@PySem.AutoSeq1.wpAny_loadPart'
def Ze:=@PySem.wpAny_call_entry
def Zf:=@Nat.mul_le_mul
def Zg:=@PySem.W.plainGet_of
def Zh:=@PySem.W.callWith_K0
def Zi:=@List.getElem?_range
def Zj:=@PySem.Calls.callWith_builtin
def Zk:=@PySem.wpAny_execs_nil
def Zm:=@PySem.post_val_or_str
def Zn:=@PySem.PassesOwn.never
def Zo:=@PySem.sizeLine_eq
def Zq:=@PySem.wpAny_attempt
def Zr:=@PySem.Paired.length
def Zt:=@List.nil_append
def Zu:=@List.find?_cons
set_option maxHeartbeats 0 in
theorem h_said:PySem.Challenge.rw_mustmay_k23_rooms_parted.wellSaid=true:=by kernel_rfl
set_option maxHeartbeats 0 in
theorem h_bare:PySem.Challenge.rw_mustmay_k23_rooms_parted.row.prog.bare:=⟨rfl,rfl,rfl,rfl,rfl,by decide +kernel⟩
namespace L2
open PySem PySem.Spec PyProof.Rows
abbrev Key:=Sum Int Str
def Jr:Key->Value->Bool
 | .inl k,v=>Value.isInt k v
 | .inr x,v=>Value.isStrOf x v
def keyH(w:World):Key->Int
 | .inl k=>hashInt k
 | .inr x=>hashStr w x
theorem dI:∀{k:Key}{v:Value},Jr k v=true->(∃i t,k=Sum.inl i/\v=Value.int i t)∨(∃x t,k=Sum.inr x/\v=Value.str x t)
 | .inl i,v,h=>by
  obtain⟨t,e⟩:=Value.isInt_shape (k:=i) (v:=v) h
  exact .inl ⟨i,t,rfl,e⟩
 | .inr x,v,h=>by
  obtain⟨t,e⟩:=Value.isStrOf_shape (x:=x) (v:=v) h
  exact .inr ⟨x,t,rfl,e⟩
theorem VB(i:Int)(t:Tok):Jr (.inl i) (.int i t)=true:=by simp[Jr,Value.isInt]
theorem VD(x:Str)(t:Tok):Jr (.inr x) (.str x t)=true:=by simp[Jr,Value.isStrOf]
theorem key_ll(a b:Int):decide ((Sum.inl a:Key)=Sum.inl b)=(a==b):=by
 by_cases e:a=b
 .subst e;simp
 .have h:¬(Sum.inl a:Key)=Sum.inl b:=λq=>e (Sum.inl.inj q)
  rw[Xk h]
  exact(W3.mpr e).symm
theorem key_rr(a b:Str):decide ((Sum.inr a:Key)=Sum.inr b)=decide (a=b):=by
 by_cases e:a=b
 .subst e;simp
 .have h:¬(Sum.inr a:Key)=Sum.inr b:=λq=>e (Sum.inr.inj q)
  rw[Xk h,Xk e]
theorem key_lr(a:Int)(b:Str):decide ((Sum.inl a:Key)=Sum.inr b)=false:=Xk (λq=>nomatch q)
theorem key_rl(a:Str)(b:Int):decide ((Sum.inr a:Key)=Sum.inl b)=false:=Xk (λq=>nomatch q)
def dY(prog:Program)(w:World):PySem.KeyKind prog w Key where
 is:=Jr
 hash:=keyH w
 inj:=λv a b ha hb=>by
  rcases dI ha with⟨i,t,rfl,rfl⟩| ⟨x,t,rfl,rfl⟩
  .rcases dI hb with⟨j,u,rfl,e⟩| ⟨y,u,rfl,e⟩
   .injection e with e1 _;rw[e1]
   .exact nomatch e
  .rcases dI hb with⟨j,u,rfl,e⟩| ⟨y,u,rfl,e⟩
   .exact nomatch e
   .injection e with e1 _;rw[e1]
 byValue:=λk v h=>by
  rcases dI h with⟨i,t,rfl,rfl⟩| ⟨x,t,rfl,rfl⟩ <;> rfl
 pyHash:=λhv h=>by
  rcases dI hv with⟨i,t,rfl,rfl⟩| ⟨x,t,rfl,rfl⟩
  .exact wpAny_pyHash_int h
  .exact wpAny_pyHash_str h
 eqBool:=λhu hv h=>by
  rcases dI hu with⟨i,t,rfl,rfl⟩| ⟨x,t,rfl,rfl⟩
  .rcases dI hv with⟨j,u,rfl,rfl⟩| ⟨y,u,rfl,rfl⟩
   .rw[key_ll] at h;exact wpAny_eqBool_int h
   .rw[key_lr] at h;exact SeqAt.EqAt.int_str i t y u _ _ _ _ h
  .rcases dI hv with⟨j,u,rfl,rfl⟩| ⟨y,u,rfl,rfl⟩
   .rw[key_rl] at h;exact SeqAt.EqAt.str_int x t j u _ _ _ _ h
   .rw[key_rr] at h;exact wpAny_eqBool_str h
 «strs»:=λk x t v h=>by
  rcases dI h with⟨i,u,rfl,e⟩| ⟨y,u,rfl,e⟩
  .exact nomatch e
  .injection e with e1 _
   subst e1
   cases v <;> rfl
theorem Qh(prog:Program)(w:World)(i:Int)(t:Tok):(dY prog w).is (.inl i) (.int i t)=true:=VB i t
theorem Qi(prog:Program)(w:World)(x:Str)(t:Tok):(dY prog w).is (.inr x) (.str x t)=true:=VD x t
inductive V where
 | non | bl (b:Bool) | int (i:Int) | str (x:Str) | byt (b:Array UInt8) | flt (b:UInt64) | ref (a:Addr) | ty (n:String)
 deriving DecidableEq
def RelV:V->Value->Prop
 | .non,u=>u=Value.none
 | .bl b,u=>u=Value.bool b
 | .int i,u=>∃t,u=Value.int i t
 | .str x,u=>∃t,u=Value.str x t
 | .byt b,u=>∃t,u=Value.bytes b t
 | .flt b,u=>∃t,u=Value.float b t
 | .ref a,u=>u=Value.ref a
 | .ty n,u=>u=Value.type n
abbrev Vals:List V->List Value->Prop:=Paired RelV
theorem Vals.length{xs:List V}{us:List Value}(r:Vals xs us):xs.length=us.length:=Zr r
theorem Vals.get:∀{xs:List V}{us:List Value}{i:Nat}{x:V},Vals xs us->xs[i]?=some x->∃u,us[i]?=some u/\RelV x u
 | _,_,_,_,.nil,e=>by simp at e
 | _,_,0,_,.cons r _,e=>by simp at e;subst e;exact⟨_,rfl,r⟩
 | _,_,i+1,x,.cons _ t,e=>by
  obtain⟨u,h1,h2⟩:=Vals.get (i:=i) (x:=x) t (by simpa using e)
  exact⟨u,by simpa using h1,h2⟩
theorem Vals.set{x:V}{u:Value}(r:RelV x u):∀{xs:List V}{us:List Value}(i:Nat),Vals xs us->Vals (xs.set i x) (us.set i u)
 | _,_,_,.nil=>.nil
 | _,_,0,.cons _ t=>.cons r t
 | _,_,i+1,.cons q t=>.cons q (Vals.set r i t)
theorem Vals.append:∀{xs ys:List V}{us ws:List Value},Vals xs us->Vals ys ws->Vals (xs++ys) (us++ws)
 | _,_,_,_,.nil,s=>s
 | _,_,_,_,.cons r t,s=>.cons r (Vals.append t s)
theorem Vals.take:∀{xs:List V}{us:List Value}(n:Nat),Vals xs us->Vals (xs.take n) (us.take n)
 | _,_,0,_=>.nil
 | _,_,_+1,.nil=>.nil
 | _,_,n+1,.cons r t=>.cons r (Vals.take n t)
theorem Vals.drop:∀{xs:List V}{us:List Value}(n:Nat),Vals xs us->Vals (xs.drop n) (us.drop n)
 | _,_,0,r=>r
 | _,_,_+1,.nil=>.nil
 | _,_,n+1,.cons _ t=>Vals.drop n t
def qW:Option V->Option Value->Prop
 | some v,some u=>RelV v u
 | none,none=>True
 | _,_=>False
def KV{κ:Type}:List (κ×V)->List (κ×Value)->Prop:=Paired λ(p:κ×V)(q:κ×Value)=>p.1=q.1/\RelV p.2 q.2
def kV:Key->V
 | .inl i=>.int i
 | .inr x=>.str x
inductive HO where
 | lst (xs:List V)
 | tup (xs:List V)
 | dK (kvs:List (Key×V)) | dT (kvs:List (List Key×V))
 | set (S:Int->Bool) (n:Nat)
 | ins (C dx:Addr) (fs:List (Str×V))
 | own (x:Addr)
 | xd (fs:List (Str×V))
 | met (f x:Addr)
 | rng (lo hi:Int)
 | frz (o:Obj) (u:HO)
 | tbl (ps:Array Value)
 | ext (φ:Heap->Prop)
abbrev Hp:=Addr->Option HO
def upd(H:Hp)(a:Addr)(o:HO):Hp:=λb=>if b=a then some o else H b
theorem aK{H:Hp}{a:Addr}{o:HO}:upd H a o a=some o:=by unfold upd;rw[Wu rfl]
theorem aR{H:Hp}{a b:Addr}{o:HO}(h:b≠a):upd H a o b=H b:=by unfold upd;rw[WD h]
theorem ne_of{H:Hp}{a b:Addr}{o u:HO}(h:H a=some o)(h':H b=some u)(d:o≠u):a≠b:=by
 intro e;subst e;rw[h] at h';exact d (WW h')
theorem aX{H:Hp}{a b:Addr}{o:HO}(h:H a=some o)(h':H b=none):a≠b:=by
 intro e;subst e;rw[h] at h';cases h'
section
variable(P:Program)(w:World)
def dF(H:Hp)(h:Heap)(a:Addr):HO->Prop
 | .lst xs=>xs.length<=sizeLine/\∃(its:List Value)(n:Nat),Vals xs its/\h.get? a=some { cls:=.type "list",data:=.seq its.toArray n }
 | .tup xs=>xs.length<=sizeLine/\∃its:List Value,Vals xs its/\IsTup h a its.toArray
 | .dK kvs=>kvs.length<=sizeLine/\(a==sysModules)=false/\∃vs,KV kvs vs/\h.DictOf (dY P w) a vs
 | .dT kvs=>kvs.length<=sizeLine/\(a==sysModules)=false/\∃xs:List (List Key×Addr×Value),
   Paired (λ(p:List Key×V)(q:List Key×Addr×Value)=>p.1=q.1/\H q.2.1=some (.tup (p.1.map kV))/\RelV p.2 q.2.2) kvs xs /\
   ∃o es ep,h.get? a=some o/\o.ExactDict/\o.data=.dict es ep/\es.toList=xs.map (entryOfKey (tupleKind (dY P w)))/\(xs.map (·.1)).Nodup
 | .set S n=>h.SetOf (intKind P w) a S n
 | .ins C dx fs=>H dx=some (.own a)/\fs.length<=1000/\dx≠a/\h.get? a=some (PySem.W.instObj C dx) /\
   ∃mA,h.Ns1 dx mA/\(∀f,qW (fs.lookup f) (mA f))/\PySem.Within mA (fs.map (·.1))
 | .own _=>∃o,h.get? a=some o
 | .xd fs=>∃mA,h.Ns1 a mA/\∀f,qW (fs.lookup f) (mA f)
 | .rng lo hi=>∃t u v,h.get? a=some { cls:=.type "range",data:=.fields #[.int lo t,.int hi u,.int 1 v] }
 | .frz o u=>h.get? a=some o/\dF H h a u
 | .tbl ps=>h.get? a=some { cls:=.none,data:=.fields ps }
 | .met f x=>h.get? a=some (PySem.W.methodObj (.ref f) (.ref x))
 | .ext φ=>φ h/\(∃o,h.get? a=some o)/\∀h1 h2:Heap,φ h1->(∀o,h1.get? a=some o->h2.get? a=some o)->φ h2
def HOk(H:Hp)(h:Heap):Prop:=∀a o,H a=some o->dF P w H h a o
end
section
variable{P:Program}{w:World}{H H':Hp}{h h':Heap}{a:Addr}{o:HO}
theorem dF.lt(x:dF P w H h a o):a<h.objs.size:=by
 cases o with
 | lst xs=>obtain⟨_,_,_,_,e⟩:=x;exact Wy e
 | tup xs=>obtain⟨_,_,_,p⟩:=x;exact p.lt
 | dK kvs=>obtain⟨_,_,_,_,o,_,_,e,_⟩:=x;exact Wy e
 | dT kvs=>obtain⟨_,_,_,_,o,_,_,e,_⟩:=x;exact Wy e
 | set S n=>obtain⟨o,_,_,_,e,_⟩:=x;exact Wy e
 | ins C dx fs=>obtain⟨_,_,_,e,_⟩:=x;exact Wy e
 | own y=>obtain⟨_,e⟩:=x;exact Wy e
 | xd fs=>obtain⟨_,⟨_,_,_,e,_⟩,_⟩:=x;exact Wy e
 | rng lo hi=>obtain⟨_,_,_,e⟩:=x;exact Wy e
 | frz ob u=>obtain⟨e,_⟩:=x;exact Wy e
 | tbl ps=>exact Wy (show h.get? a=some _ from x)
 | met f y=>exact Wy (show h.get? a=some _ from x)
 | ext φ=>obtain⟨_,⟨_,e⟩,_⟩:=x;exact Wy e
theorem Paired.mapP{α β:Type}{F G:α->β->Prop}:∀{l₁:List α}{l₂:List β},Paired F l₁ l₂->(∀a b,F a b->G a b)->Paired G l₁ l₂
 | _,_,.nil,_=>.nil
 | _,_,.cons r t,f=>.cons (f _ _ r) (Paired.mapP t f)
theorem dF.stay(x:dF P w H h a o)(k:∀b u,(b=a∨H b=some (.own a))->h.get? b=some u->h'.get? b=some u)
  (ho:∀b,H b=some (.own a)->H' b=some (.own a)) (ht:∀b xs,H b=some (.tup xs)->H' b=some (.tup xs)):dF P w H' h' a o:=by
 induction o with
 | lst xs=>obtain⟨z,its,n,r,e⟩:=x;exact⟨z,its,n,r,k _ _ (.inl rfl) e⟩
 | tup xs=>obtain⟨z,its,r,ob,e,c⟩:=x;exact⟨z,its,r,ob,k _ _ (.inl rfl) e,c⟩
 | dK kvs=>obtain⟨z,y,vs,r,ob,es,ep,e,c⟩:=x;exact⟨z,y,vs,r,ob,es,ep,k _ _ (.inl rfl) e,c⟩
 | dT kvs =>
  obtain⟨z,y,xs,r,ob,es,ep,e,c⟩:=x
  exact⟨z,y,xs,Paired.mapP r λp q z=>⟨z.1,ht _ _ z.2.1,z.2.2⟩,ob,es,ep,k _ _ (.inl rfl) e,c⟩
 | set S n=>obtain⟨ob,es,ep,t,e,c⟩:=x;exact⟨ob,es,ep,t,k _ _ (.inl rfl) e,c⟩
 | ins C dx fs =>
  obtain⟨d,z,ne,e,mA,⟨od,es,ep,e2,c⟩,r⟩:=x
  exact⟨ho _ d,z,ne,k _ _ (.inl rfl) e,mA,⟨od,es,ep,k _ _ (.inr d) e2,c⟩,r⟩
 | own y=>obtain⟨ob,e⟩:=x;exact⟨ob,k _ _ (.inl rfl) e⟩
 | xd fs=>obtain⟨mA,⟨od,es,ep,e,c⟩,r⟩:=x;exact⟨mA,⟨od,es,ep,k _ _ (.inl rfl) e,c⟩,r⟩
 | rng lo hi=>obtain⟨t,u,v,e⟩:=x;exact⟨t,u,v,k _ _ (.inl rfl) e⟩
 | frz ob u ih=>obtain⟨e,q⟩:=x;exact⟨k _ _ (.inl rfl) e,ih q⟩
 | tbl ps =>
  have e:h.get? a=some { cls:=.none,data:=.fields ps }:=x
  show h'.get? a=some { cls:=.none,data:=.fields ps }
  exact k a _ (.inl rfl) e
 | met f y =>
  have e:h.get? a=some (PySem.W.methodObj (.ref f) (.ref y)):=x
  show h'.get? a=some (PySem.W.methodObj (.ref f) (.ref y))
  exact k a _ (.inl rfl) e
 | ext φ=>obtain⟨p,⟨o,e⟩,st⟩:=x;exact⟨st _ _ p λo q=>k _ _ (.inl rfl) q,⟨o,k _ _ (.inl rfl) e⟩,st⟩
theorem HOk.lt(x:HOk P w H h)(e:H a=some o):a<h.objs.size:=(x a o e).lt
theorem HOk.fresh(x:HOk P w H h)(e:h.objs.size<=a):H a=none:=by
 cases q:H a with
 | none=>rfl
 | some u=>exact absurd (WQ (x.lt q) e) (Xw _)
theorem HOk.kept(x:HOk P w H h)(k:∀b u,h.get? b=some u->h'.get? b=some u):HOk P w H h':=λa o e =>
 (x a o e).stay (λb u _ q=>k b u q) (λ_ q=>q) λ_ _ q=>q
theorem HOk.laid(x:HOk P w H h)(k:∀b u,h.get? b=some u->h'.get? b=some u)(hp:h.objs.size<=a)(new:dF P w (upd H a o) h' a o):HOk P w (upd H a o) h':=λb u e=>by
 have hn:=x.fresh hp
 by_cases hb:b=a
 .subst hb;rw[aK] at e;cases e;exact new
 .rw[aR hb] at e
  exact(x b u e).stay (λc v _ q=>k c v q) (λc q=>by rw[aR (aX q hn)];exact q) λc xs q=>by rw[aR (aX q hn)];exact q
end
def Rd(H:Hp)(a:Addr)(u:HO):Prop:=H a=some u∨∃o,H a=some (.frz o u)
theorem Rd.ok{P:Program}{w:World}{H:Hp}{h:Heap}{a:Addr}{u:HO}(r:Rd H a u)(x:HOk P w H h):dF P w H h a u:=by
 rcases r with r | ⟨o,r⟩
 .exact x a u r
 .obtain⟨_,q⟩:=x a _ r
  exact q
def Mut:Option HO->Prop
 | some (.lst _)=>True
 | some (.dK _)=>True
 | some (.dT _)=>True
 | some (.set _ _)=>True
 | some (.ins _ _ _)=>True
 | some (.ext _)=>True
 | _=>False
section
variable{P:Program}{w:World}{H:Hp}{h h':Heap}{x e:Addr}{o':HO}
theorem HOk.write(ok:HOk P w H h)(mu:Mut (H x))(he:e=x∨H e=some (.own x))(k:∀b u,b≠e->h.get? b=some u->h'.get? b=some u)(heo:∃u,h'.get? e=some u)
  (new:dF P w (upd H x o') h' x o'):HOk P w (upd H x o') h':=λb u q=>by
 have nown:∀c y,H c=some (.own y)->c≠x:=λc y r z=>by subst z;rw[r] at mu;exact mu
 have ntup:∀c xs,H c=some (.tup xs)->c≠x:=λc xs r z=>by subst z;rw[r] at mu;exact mu
 by_cases hb:b=x
 .subst hb;rw[aK] at q;cases q;exact new
 .rw[aR hb] at q
  by_cases hbe:b=e
  .have q':H b=some (.own x):=by
    rcases he with z | z
    .exact absurd (hbe.trans z) hb
    .rw[hbe];exact z
   rw[q] at q';cases q'
   obtain⟨v,hv⟩:=heo
   exact⟨v,by rw[hbe];exact hv⟩
  .refine(ok b u q).stay (λc v hc r=>k c v ?_ r) (λc r=>by rw[aR (nown c b r)];exact r) λc xs r=>by rw[aR (ntup c xs r)];exact r
   rcases hc with rfl | hc
   .exact hbe
   .rintro rfl
    rcases he with z | z
    .exact nown c b hc z
    .rw[hc] at z;cases z;exact hb rfl
end
structure Un(fs ex:List Addr)(H H':Hp)(h h':Heap):Prop where
 keep:∀b o,h.get? b=some o->H b=none->b∉fs->b∉ex->h'.get? b=some o
 slot:∀b o,h.get? b=some o->H b=none->b∈fs->b∉ex->∃sl,h'.get? b=some { o with slots:=sl }
 free:∀b o,h.get? b=some o->H b=none->b∉ex->H' b=none
 there:∀b o,h.get? b=some o->b∉ex->∃o',h'.get? b=some o'
 tups:∀b xs,H b=some (.tup xs)->H' b=some (.tup xs)
 zU:∀b o u,H b=some (.frz o u)->H' b=some (.frz o u)
 Cr:∀b ps,H b=some (.tbl ps)->∃more,H' b=some (.tbl (ps++more))
section
variable{fs ex:List Addr}{H H1 H2:Hp}{h h1 h2 h':Heap}{a x e:Addr}{o:HO}
theorem Un.any(u:Un fs ex H H1 h h1){b:Addr}{ob:Obj}(q:h.get? b=some ob)(n:H b=none)(hx:b∉ex):∃sl,h1.get? b=some { ob with slots:=sl }:=by
 by_cases hb:b∈fs
 .exact u.slot b ob q n hb hx
 .exact⟨ob.slots,u.keep b ob q n hb hx⟩
theorem Un.trans(a:Un fs ex H H1 h h1)(b:Un fs ex H1 H2 h1 h2):Un fs ex H H2 h h2 where
 keep:=λc ob q n hc hx=>b.keep c ob (a.keep c ob q n hc hx) (a.free c ob q n hx) hc hx
 slot:=λc ob q n hc hx=>by
  obtain⟨sl,e1⟩:=a.slot c ob q n hc hx
  obtain⟨sl',e2⟩:=b.slot c _ e1 (a.free c ob q n hx) hc hx
  exact⟨sl',e2⟩
 free:=λc ob q n hx=>by
  obtain⟨o',e1⟩:=a.there c ob q hx
  exact b.free c o' e1 (a.free c ob q n hx) hx
 there:=λc ob q hx=>by
  obtain⟨o',e1⟩:=a.there c ob q hx
  exact b.there c o' e1 hx
 tups:=λc xs q=>b.tups c xs (a.tups c xs q)
 zU:=λc ob xs q=>b.zU c ob xs (a.zU c ob xs q)
 Cr:=λc ps q=>by
  obtain⟨m1,e1⟩:=a.Cr c ps q
  obtain⟨m2,e2⟩:=b.Cr c _ e1
  exact⟨m1++m2,by rw[e2,Array.append_assoc]⟩
theorem Un.kept(k:∀b u,h.get? b=some u->h'.get? b=some u):Un fs ex H H h h' :=
 ⟨λb ob q _ _ _=>k b ob q,λb ob q _ _ _=>⟨ob.slots,k b ob q⟩,λ_ _ _ n _=>n,λb ob q _=>⟨ob,k b ob q⟩,λ_ _ q=>q,λ_ _ _ q=>q,λ_ ps q=>⟨#[],by rw[q];simp⟩⟩
theorem Un.refl:Un fs ex H H h h:=Un.kept λ_ _ q=>q
theorem Un.laid(k:∀b u,h.get? b=some u->h'.get? b=some u)(hp:h.objs.size<=a)(hn:H a=none):Un fs ex H (upd H a o) h h' where
 keep:=λb u q _ _ _=>k b u q
 slot:=λb u q _ _ _=>⟨u.slots,k b u q⟩
 free:=λb u q n _=>by rw[aR (WX (WQ (Wy q) hp))];exact n
 there:=λb u q _=>⟨u,k b u q⟩
 tups:=λb xs q=>by rw[aR (aX q hn)];exact q
 zU:=λb u xs q=>by rw[aR (aX q hn)];exact q
 Cr:=λb ps q=>⟨#[],by rw[aR (aX q hn),q];simp⟩
theorem Un.write(mu:Mut (H x))(he:e=x∨H e=some (.own x))(k:∀b u,b≠e->h.get? b=some u->h'.get? b=some u)(heo:∃u,h'.get? e=some u):Un fs ex H (upd H x o) h h':=by
 have hx:∀b,H b=none->b≠x:=λb n z=>by subst z;rw[n] at mu;exact mu
 have hb:∀b,H b=none->b≠e:=λb n z=>by
  subst z
  rcases he with r | r
  .exact hx b n r
  .rw[n] at r;cases r
 have hm:∀b u,H b=some u->¬Mut (some u)->b≠x:=λb u q nm z=>by subst z;rw[q] at mu;exact nm mu
 refine⟨λb u q n _ _=>k b u (hb b n) q,λb u q n _ _=>⟨u.slots,k b u (hb b n) q⟩,λb u q n _=>by rw[aR (hx b n)];exact n,λb u q _=>?_,
  λb xs q=>by rw[aR (hm b _ q λz=>z)];exact q,λb u xs q=>by rw[aR (hm b _ q λz=>z)];exact q,λb ps q=>⟨#[],by rw[aR (hm b _ q λz=>z),q];simp⟩⟩
 by_cases hbe:b=e
 .subst hbe;exact heo
 .exact⟨u,k b u hbe q⟩
end
def trk(h:Heap)(H:Hp):List Addr:=(List.range h.objs.size).filter λa=>(H a).isSome
def hidT(h:Heap)(H:Hp):Heap:=PySem.W.hideAll h (trk h H)
theorem Vv(h:Heap)(H:Hp):(hidT h H).objs.size=h.objs.size:=PySem.W.hideAll_size _ _
theorem hidT_get{h:Heap}{H:Hp}{b:Addr}{o:Obj}(e:h.get? b=some o)(n:H b=none):(hidT h H).get? b=some o :=
 PySem.W.hideAll_get _ e λhm=>by
  have q:(H b).isSome=true:=(Za.mp hm).2
  rw[n] at q;simp at q
theorem of_hidT{h:Heap}{H:Hp}{b:Addr}{o:Obj}(e:(hidT h H).get? b=some o):h.get? b=some o/\H b=none:=by
 have e':h.get? b=some o:=PySem.W.of_hideAll (trk h H) e
 refine⟨e',?_⟩
 cases q:H b with
 | none=>rfl
 | some x =>
  have hm:b∈trk h H:=Za.mpr ⟨W2.mpr (Wy e'),by simp[q]⟩
  have z:(hidT h H).get? b=none:=PySem.W.hideAll_none (trk h H) hm
  rw[z] at e;cases e
structure Mod(K:Frag)(mg:Str->Option Value)(base:Heap):Prop where
 kin:K.In base
 glob:base.Ns mainGlobals mg
 blt:∃mb,base.Ns builtinsNs mb/\∀x:Str,x≠"__name__"->mb x=bootBuiltins x
 nolimit:base.NoLimit
structure Cx where
 prog:Program
 w:World
 K:Frag
 mg:Str->Option Value
 base:Heap
 A:Around
 N:List Str
 s₀:Shared
 H₀:Hp
 env:Env
 outer:List Env
 stack:List Env
 ex:List Addr
 fn:Str->Bool
 calm:Bool
 pn:List (Addr×Obj)
 xe:Value->Shared->Prop
def frs(l:List Env):List Addr:=l.filterMap (·.frame)
abbrev Cx.fs(X:Cx):List Addr:=frs X.outer
def Vis(sc:Scope)(x:Str):Prop:=sc.names.lookup x=some .local∨sc.names.lookup x=some .cell∨sc.names.lookup x=some .free
def Loc(sc:Scope)(x:Str):Prop:=sc.names.lookup x=some .local∨sc.names.lookup x=some .cell
def Look(env:Env)(h:Heap)(m:Str->Option Value)(x:Str)(u:Value):Prop :=
 (env.kindOf x=some .local/\m x=some u)∨((env.kindOf x=some .cell∨env.kindOf x=some .free)/\∃c,env.cells.lookup x=some c/\h.IsCell c (some u))
structure Cx.Ok(X:Cx):Prop where
 mod:Mod X.K X.mg X.base
 kind:X.env.scope.kind=.function
 glob:X.env.globals=mainGlobals
 blt:X.env.builtins=builtinsNs
 above:X.s₀.heap.objs.size<=X.env.locals
 inj:∀x y c,X.env.cells.lookup x=some c->X.env.cells.lookup y=some c->x=y
 has:∀x,(X.env.kindOf x=some .cell∨X.env.kindOf x=some .free)->∃c,X.env.cells.lookup x=some c
 cab:∀x c,X.fn x=true->X.env.cells.lookup x=some c->X.s₀.heap.objs.size<=c
 hd:X.calm=true->X.A.handled=none
 frames:X.A.frames=some X.stack
 stk:X.stack=X.outer∨(X.stack=X.env::X.outer/\X.env.frame=some X.env.locals)
 exf:∀b∈X.ex,b≠X.env.locals/\∀x c,X.env.cells.lookup x=some c->c≠b
 bs:∀b o,X.base.get? b=some o->X.s₀.heap.get? b=some o/\X.H₀ b=none
 bsz:X.base.objs.size<=X.s₀.heap.objs.size
 bw:∀b o,X.base.get? b=some o->b∉X.ex
 exfs:∀b∈X.ex,b∉X.fs
 BX:X.s₀.heap.FunFrames X.base X.outer
 frf:∀b∈X.fs,X.H₀ b=none
structure Inv(X:Cx)(pins:List (Addr×Obj))(σ:List (Option V))(H:Hp)(s:Shared):Prop where
 ok:X.Ok
 os:s.os=X.s₀.os
 bare:AllBare s.gens
 base:Un X.fs X.ex X.H₀ H X.s₀.heap s.heap
 loc:∃m,s.heap.Ns X.env.locals m/\∀(i:Nat)(x:Str)(v:V),X.N[i]?=some x->σ[i]?=some (some v)->Vis X.env.scope x->∃u,RelV v u/\Look X.env s.heap m x u
 cell:∀x c,X.env.cells.lookup x=some c->∃v,s.heap.IsCell c v
 free:H X.env.locals=none
 wC:∀x c,X.env.cells.lookup x=some c->H c=none
 pin:∀p∈X.pn++pins,s.heap.get? p.1=some p.2/\H p.1=none/\p.1≠X.env.locals/\p.1∉X.fs/\∀v,p.2.data≠.cell v
 hok:HOk X.prog X.w H s.heap
 len:σ.length=X.N.length
section
variable{X:Cx}{pins:List (Addr×Obj)}{σ:List (Option V)}{H H':Hp}{s:Shared}{h':Heap}
theorem Cx.Ok.nofr(ok:X.Ok){b:Addr}{o:Obj}(e:X.base.get? b=some o):b∉X.fs:=λhb=>by
 have:=(ok.BX.mem hb).1
 rw[e] at this;cases this
theorem Inv.bs(I:Inv X pins σ H s):∀b o,X.base.get? b=some o->s.heap.get? b=some o/\H b=none:=λb o e =>
 ⟨I.base.keep b o (I.ok.bs b o e).1 (I.ok.bs b o e).2 (I.ok.nofr e) (I.ok.bw b o e),I.base.free b o (I.ok.bs b o e).1 (I.ok.bs b o e).2 (I.ok.bw b o e)⟩
theorem Inv.bk(I:Inv X pins σ H s):∀b o,X.base.get? b=some o->s.heap.get? b=some o:=λb o e=>(I.bs b o e).1
theorem Inv.mod(I:Inv X pins σ H s):Mod X.K X.mg X.base:=I.ok.mod
theorem Inv.kIn(I:Inv X pins σ H s):X.K.In s.heap:=I.ok.mod.kin.keeps I.bk
theorem Inv.lt(I:Inv X pins σ H s):X.env.locals<s.heap.objs.size:=let ⟨_,hn,_⟩:=I.loc;hn.lt
theorem Inv.sz(I:Inv X pins σ H s):X.s₀.heap.objs.size<=s.heap.objs.size:=W5 I.ok.above (Nat.le_of_lt I.lt)
theorem Inv.nofs(I:Inv X pins σ H s){a:Addr}(h:s.heap.objs.size<=a):a∉X.fs:=λhb=>by
 obtain⟨_,o,ho,_⟩:=I.ok.BX.mem hb
 exact absurd (WQ (Wy ho) (W5 I.sz h)) (Xw _)
theorem Inv.cne(I:Inv X pins σ H s):∀x c,X.env.cells.lookup x=some c->c≠X.env.locals:=λx c e z=>by
 obtain⟨v,o,ho,hd⟩:=I.cell x c e
 obtain⟨m,⟨o',es,ep,ho',hd',_⟩,_⟩:=I.loc
 rw[z,ho'] at ho;cases ho;rw[hd'] at hd;cases hd
theorem Inv.BX(I:Inv X pins σ H s):s.heap.FunFrames X.base X.outer:=by
 have all:∀(l:List Env),(∀b∈frs l,b∈X.fs)->X.s₀.heap.FunFrames X.base l->s.heap.FunFrames X.base l:=by
  intro l
  induction l with
  | nil=>intro _ _;trivial
  | cons env r ih =>
   intro hs hl
   obtain⟨hk,⟨L,o,hf,hn,ho,hd⟩,hr⟩:=hl
   have hL:L∈X.fs:=hs L (by unfold frs;rw[YB,hf];exact WY)
   obtain⟨sl,e⟩:=I.base.slot L o ho (I.ok.frf L hL) hL λz=>I.ok.exfs L z hL
   exact⟨hk,⟨L,_,hf,hn,e,hd⟩,ih (λb hb=>hs b (by unfold frs;rw[YB,hf];exact WR _ hb)) hr⟩
 exact all X.outer (λ_ hb=>hb) I.ok.BX
theorem Inv.stack(I:Inv X pins σ H s):s.heap.FunFrames X.base X.stack:=by
 rcases I.ok.stk with e | ⟨e,hf⟩
 .rw[e];exact I.BX
 .rw[e]
  obtain⟨m,hn,_⟩:=I.loc
  refine .cons (by rw[I.ok.kind];decide) hf hn ?_ I.BX
  exact Heap.get?_none_of_le (W5 I.ok.bsz I.ok.above)
theorem Inv.Tt(I:Inv X pins σ H s):∀b∈frs X.stack,b∈X.env.locals::X.fs:=λb hb=>by
 rcases I.ok.stk with e | ⟨e,hf⟩
 .rw[e] at hb;exact WR _ hb
 .rw[e] at hb
  unfold frs at hb
  rw[YB,hf] at hb
  exact hb
theorem Inv.U4(I:Inv X pins σ H s):∀b∈frs X.stack,H b=none:=λb hb=>by
 rcases W9.mp (I.Tt b hb) with e | hb
 .rw[e];exact I.free
 .obtain⟨_,o,ho,_⟩:=I.ok.BX.mem hb
  exact I.base.free b o ho (I.ok.frf b hb) λz=>I.ok.exfs b z hb
theorem Inv.step{g':Array GenState}{t':Nat}{d':Drawn}{ch:List Addr}(I:Inv X pins σ H s)
  (hch:∀b∈ch,(b∈X.ex∨X.s₀.heap.objs.size<=b)/\b≠X.env.locals/\(∀x c,X.env.cells.lookup x=some c->c≠b)/\∀p∈X.pn++pins,p.1≠b)
  (keep:∀b o,b≠X.env.locals->b∉X.fs->b∉ch->s.heap.get? b=some o->H b=none->h'.get? b=some o)
  (slot:∀b o,b≠X.env.locals->b∈X.fs->b∉ch->s.heap.get? b=some o->H b=none->∃sl,h'.get? b=some { o with slots:=sl }) (free:∀b o,b∉ch->s.heap.get? b=some o->H b=none->H' b=none)
  (there:∀b o,b∉ch->s.heap.get? b=some o->∃o',h'.get? b=some o')
  (tups:∀b xs,H b=some (.tup xs)->H' b=some (.tup xs)) (zU:∀b o u,H b=some (.frz o u)->H' b=some (.frz o u)) (Cr:∀b ps,H b=some (.tbl ps)->∃more,H' b=some (.tbl (ps++more)))
  (ns:∀m,s.heap.Ns X.env.locals m->h'.Ns X.env.locals m) (hok:HOk X.prog X.w H' h') (hg:AllBare g') :
  Inv X pins σ H' { s with heap:=h',gens:=g',drawn:=d',toks:=t' }:=by
 have neL:∀b o,X.s₀.heap.get? b=some o->b≠X.env.locals:=λb o e=>WX (WQ (Wy e) I.ok.above)
 have neC:∀b o,X.s₀.heap.get? b=some o->b∉X.ex->b∉ch:=λb o e hx hb=>by
  rcases (hch b hb).1 with z | z
  .exact hx z
  .exact absurd (WQ (Wy e) z) (Xw _)
 have cellK:∀x c,X.env.cells.lookup x=some c->∀v,s.heap.IsCell c v->h'.IsCell c v:=λx c e v ⟨o,ho,hd⟩=>by
  have nch:c∉ch:=λz=>(hch c z).2.2.1 x c e rfl
  by_cases hc:c∈X.fs
  .obtain⟨sl,q⟩:=slot c o (I.cne x c e) hc nch ho (I.wC x c e)
   exact⟨_,q,hd⟩
  .exact⟨o,keep c o (I.cne x c e) hc nch ho (I.wC x c e),hd⟩
 refine⟨I.ok,I.os,hg,⟨λb o e n hb hx=>?_,λb o e n hb hx=>?_,λb o e n hx=>?_,λb o e hx=>?_,λb xs e=>tups b xs (I.base.tups b xs e),λb o xs e=>zU b o xs (I.base.zU b o xs e),λb ps e=>?_⟩,?_,λx c e=>?_,?_,λx c e=>?_,λp hp=>?_,hok,I.len⟩
 .exact keep b o (neL b o e) hb (neC b o e hx) (I.base.keep b o e n hb hx) (I.base.free b o e n hx)
 .obtain⟨sl,e1⟩:=I.base.slot b o e n hb hx
  obtain⟨sl',e2⟩:=slot b _ (neL b o e) hb (neC b o e hx) e1 (I.base.free b o e n hx)
  exact⟨sl',e2⟩
 .obtain⟨o',e1⟩:=I.base.there b o e hx
  exact free b o' (neC b o e hx) e1 (I.base.free b o e n hx)
 .obtain⟨o',e1⟩:=I.base.there b o e hx
  exact there b o' (neC b o e hx) e1
 .obtain⟨m1,e1⟩:=I.base.Cr b ps e
  obtain⟨m2,e2⟩:=Cr b _ e1
  exact⟨m1++m2,by rw[e2,Array.append_assoc]⟩
 .obtain⟨m,hn,hl⟩:=I.loc
  refine⟨m,ns m hn,λi x v e1 e2 e3=>?_⟩
  obtain⟨u,r,l⟩:=hl i x v e1 e2 e3
  refine⟨u,r,?_⟩
  rcases l with l | ⟨k,c,e,z⟩
  .exact .inl l
  .exact .inr ⟨k,c,e,cellK x c e _ z⟩
 .obtain⟨v,z⟩:=I.cell x c e
  exact⟨v,cellK x c e v z⟩
 .obtain⟨m,⟨o,_,_,ho,_⟩,_⟩:=I.loc
  exact free _ o (λz=>(hch _ z).2.1 rfl) ho I.free
 .obtain⟨v,o,ho,hd⟩:=I.cell x c e
  exact free c o (λz=>(hch c z).2.2.1 x c e rfl) ho (I.wC x c e)
 .obtain⟨e,n,ne,nf,d⟩:=I.pin p hp
  have nch:p.1∉ch:=λz=>(hch p.1 z).2.2.2 p hp rfl
  exact⟨keep p.1 p.2 ne nf nch e n,free p.1 p.2 nch e n,ne,nf,d⟩
theorem Inv.un{t':Nat}(I:Inv X pins σ H s)(u:Un X.fs [] H H' s.heap h')(hok:HOk X.prog X.w H' h'):Inv X pins σ H' { s with heap:=h',toks:=t' }:=by
 obtain⟨m,⟨o,es,ep,ho,r⟩,_⟩:=id I.loc
 obtain⟨sl,hL⟩:=u.any ho I.free (by simp)
 exact I.step (g':=s.gens) (d':=s.drawn) (ch:=[]) (λ_ z=>nomatch z) (λb o _ hb _ e n=>u.keep b o e n hb (by simp)) (λb o _ hb _ e n=>u.slot b o e n hb (by simp)) (λb o _ e n=>u.free b o e n (by simp)) (λb o _ e=>u.there b o e (by simp)) u.tups u.zU u.Cr (λm' hm=>by
  obtain⟨o',es',ep',ho',r'⟩:=hm
  rw[ho] at ho';cases ho'
  exact⟨_,es',ep',hL,r'⟩) hok I.bare
theorem Inv.call{g':Array GenState}{t':Nat}{d':Drawn}{ch:List Addr}(I:Inv X pins σ H s)(u:Un (frs X.stack) ch H H' s.heap h')(hok:HOk X.prog X.w H' h')(hg:AllBare g')
  (hch:∀b∈ch,(b∈X.ex∨X.s₀.heap.objs.size<=b)/\b≠X.env.locals/\(∀x c,X.env.cells.lookup x=some c->c≠b)/\∀p∈X.pn++pins,p.1≠b) :
  Inv X pins σ H' { s with heap:=h',gens:=g',drawn:=d',toks:=t' }:=by
 obtain⟨m,⟨o,es,ep,ho,r⟩,_⟩:=id I.loc
 obtain⟨sl,hL⟩:=u.any ho I.free λz=>(hch _ z).2.1 rfl
 exact I.step (ch:=ch) hch (λb o hL hb hc e n=>u.keep b o e n (λz=>(W9.mp (I.Tt b z)).elim hL hb) hc) (λb o _ _ hc e n=>u.any e n hc) (λb o hc e n=>u.free b o e n hc) (λb o hc e=>u.there b o e hc) u.tups u.zU u.Cr (λm' hm=>by
  obtain⟨o',es',ep',ho',r'⟩:=hm
  rw[ho] at ho';cases ho'
  exact⟨_,es',ep',hL,r'⟩) hok hg
theorem Inv.turned{t':Nat}{it:Addr}(I:Inv X pins σ H s)(k:∀b o,b≠it->s.heap.get? b=some o->h'.get? b=some o)(hn:H it=none)(hL:it≠X.env.locals)
  (h1:it∈X.ex∨X.s₀.heap.objs.size<=it) (h2:∀x c,X.env.cells.lookup x=some c->c≠it) (h3:∀p∈X.pn++pins,p.1≠it):Inv X pins σ H { s with heap:=h',toks:=t' }:=by
 have nit:∀b u,H b=some u->b≠it:=λb u e z=>by rw[z,hn] at e;cases e
 refine I.step (g':=s.gens) (d':=s.drawn) (ch:=[it]) (λb hb=>?_) (λb o _ _ hc e _=>k b o (λz=>hc (by simp[z])) e) (λb o _ _ hc e _=>⟨o.slots,k b o (λz=>hc (by simp[z])) e⟩) (λ_ _ _ _ n=>n)
  (λb o hc e=>⟨o,k b o (λz=>hc (by simp[z])) e⟩) (λ_ _ e=>e) (λ_ _ _ e=>e) (λb ps e=>⟨#[],by rw[e];simp⟩) (λm hm=>?_) (λb u e=>?_) I.bare
 .have e:b=it:=by simpa using hb
  subst e
  exact⟨h1,hL,h2,h3⟩
 .obtain⟨o,es,ep,ho,r⟩:=hm
  exact⟨o,es,ep,k _ o (XH hL) ho,r⟩
 .refine(I.hok b u e).stay (λc v hc q=>k c v ?_ q) (λ_ q=>q) λ_ _ q=>q
  rcases hc with z | z
  .rw[z];exact nit b u e
  .exact nit c _ z
theorem Inv.tok(I:Inv X pins σ H s)(t:Nat):Inv X pins σ H { s with toks:=t }:=I.un (h':=s.heap) (t':=t) Un.refl I.hok
theorem Inv.kept{t':Nat}(I:Inv X pins σ H s)(k:∀b u,s.heap.get? b=some u->h'.get? b=some u):Inv X pins σ H { s with heap:=h',toks:=t' }:=I.un (Un.kept k) (I.hok.kept k)
theorem Inv.laid{a:Addr}{o:HO}{t':Nat}(I:Inv X pins σ H s)(k:∀b u,s.heap.get? b=some u->h'.get? b=some u)(hp:s.heap.objs.size<=a)(new:dF X.prog X.w (upd H a o) h' a o):
  Inv X pins σ (upd H a o) { s with heap:=h',toks:=t' }:=I.un (Un.laid k hp (I.hok.fresh hp)) (I.hok.laid k hp new)
theorem Inv.write{x e:Addr}{o:HO}{t':Nat}(I:Inv X pins σ H s)(mu:Mut (H x))(he:e=x∨H e=some (.own x))(k:∀b u,b≠e->s.heap.get? b=some u->h'.get? b=some u)(heo:∃u,h'.get? e=some u)
  (new:dF X.prog X.w (upd H x o) h' x o):Inv X pins σ (upd H x o) { s with heap:=h',toks:=t' }:=I.un (Un.write mu he k heo) (I.hok.write mu he k heo new)
theorem Inv.Uy{pins':List (Addr×Obj)}(I:Inv X pins σ H s)(h:∀p∈pins',s.heap.get? p.1=some p.2/\H p.1=none/\p.1≠X.env.locals/\p.1∉X.fs/\∀v,p.2.data≠.cell v):Inv X pins' σ H s :=
 ⟨I.ok,I.os,I.bare,I.base,I.loc,I.cell,I.free,I.wC,λp hp=>(W4.mp hp).elim (λz=>I.pin p (List.mem_append_left _ z)) (h p),I.hok,I.len⟩
theorem Qk{N:List Str}(hN:N.Nodup){i j:Nat}{x:Str}(a:N[i]?=some x)(b:N[j]?=some x):i=j:=by
 obtain⟨h1,e1⟩:=Ws.mp a
 obtain⟨h2,e2⟩:=Ws.mp b
 exact(List.getElem_inj hN).mp (e1.trans e2.symm)
theorem JC{M:Model}{A:Around}{E:Value->Shared->Prop}{i:Nat}{x:Str}{v:V}{u:Value}{Q:Unit->Shared->Prop}(I:Inv X pins σ H s)(hN:X.N.Nodup)(hi:X.N[i]?=some x)(hx:Loc X.env.scope x)(r:RelV v u)
  (h:∀s',Inv X pins (σ.set i (some v)) H s'->(∃a,Heap.SameBut a s.heap s'.heap/\(a=X.env.locals∨X.env.cells.lookup x=some a))->Q () s') (hf:X.fn x=true∨X.env.scope.names.lookup x=some .local:=by first | exact .inl rfl | exact .inr rfl | assumption):wpAny M A (storeName X.env x u) Q E s:=by
 obtain⟨m,hn,hl⟩:=id I.loc
 have hcls:(X.env.scope.kind==.class || (X.env.scope.kind==.module && X.env.locals != X.env.globals))=false:=by rw[I.ok.kind];rfl
 have hiσ:i<σ.length:=by rw[I.len];exact(Ws.mp hi).1
 have cne:=I.cne
 have tracked:∀{a:Addr}{h':Heap},(∃o,s.heap.get? a=some o/\H a=none)->Heap.SameBut a s.heap h'->HOk X.prog X.w H h':=fun{a h'} ha hs b ob e=>by
  obtain⟨_,_,hfree⟩:=ha
  refine(I.hok b ob e).stay (λc w' hc q=>(hs.2 c ?_).trans q) (λ_ q=>q) λ_ _ q=>q
  rintro rfl
  rcases hc with rfl | hc
  .rw[hfree] at e;cases e
  .rw[hfree] at hc;cases hc
 rcases hx with hk | hk
 .refine wpAny_storeName_local hk hn (λh' hn' hs=>?_) hcls
  obtain⟨oL,_,_,hoL,_⟩:=id hn
  refine h _ ⟨I.ok,I.os,I.bare,⟨λb o e n hb hx=>?_,λb o e n hb hx=>?_,I.base.free,λb o e hx=>?_,I.base.tups,I.base.zU,I.base.Cr⟩,⟨_,hn',λj y v' e1 e2 e3=>?_⟩,λy c e=>?_,I.free,I.wC,λp hp=>?_,tracked ⟨oL,hoL,I.free⟩ hs,by simpa using I.len⟩ ⟨_,hs,.inl rfl⟩
  .exact(hs.2 b (WX (WQ (Wy e) I.ok.above))).trans (I.base.keep b o e n hb hx)
  .obtain⟨sl,e1⟩:=I.base.slot b o e n hb hx
   exact⟨sl,(hs.2 b (WX (WQ (Wy e) I.ok.above))).trans e1⟩
  .obtain⟨o',e1⟩:=I.base.there b o e hx
   exact⟨o',(hs.2 b (WX (WQ (Wy e) I.ok.above))).trans e1⟩
  .by_cases hj:j=i
   .subst hj
    rw[hi] at e1;cases e1
    rw[Xb hiσ] at e2
    cases e2
    exact⟨u,r,.inl ⟨hk,by simp⟩⟩
   .rw[Xe (XH hj)] at e2
    obtain⟨u',r',q⟩:=hl j y v' e1 e2 e3
    refine⟨u',r',?_⟩
    rcases q with⟨k,e⟩| ⟨k,c,e,z⟩
    .refine .inl ⟨k,?_⟩
     have:y≠x:=λe=>hj (Qk hN e1 (e▸hi))
     simp[this,e]
    .exact .inr ⟨k,c,e,z.sameBut hs (cne y c e)⟩
  .obtain⟨w',z⟩:=I.cell y c e
   exact⟨w',z.sameBut hs (cne y c e)⟩
  .obtain⟨e,n,ne,nf,d⟩:=I.pin p hp
   exact⟨(hs.2 p.1 ne).trans e,n,ne,nf,d⟩
 .have hfn:X.fn x=true:=by
   rcases hf with z | z
   .exact z
   .rw[z] at hk;cases hk
  obtain⟨c,hc⟩:=I.ok.has x (.inl hk)
  obtain⟨w',z⟩:=I.cell x c hc
  refine wpAny_storeName_cell I.ok.kind hk hc z (λh' hc' hs=>?_)
  obtain⟨oc,hoc,hocd⟩:=id z
  refine h { s with heap:=h' } ⟨I.ok,I.os,I.bare,⟨λb o e n hb hx=>?_,λb o e n hb hx=>?_,I.base.free,λb o e hx=>?_,I.base.tups,I.base.zU,I.base.Cr⟩,⟨m,hn.sameBut hs (XH (cne x c hc)),λj y v' e1 e2 e3=>?_⟩,λy c' e=>?_,I.free,I.wC,λp hp=>?_,tracked ⟨oc,hoc,I.wC x c hc⟩ hs,by simpa using I.len⟩ ⟨c,hs,.inr hc⟩
  .exact(hs.2 b (WX (WQ (Wy e) (I.ok.cab x c hfn hc)))).trans (I.base.keep b o e n hb hx)
  .obtain⟨sl,e1⟩:=I.base.slot b o e n hb hx
   exact⟨sl,(hs.2 b (WX (WQ (Wy e) (I.ok.cab x c hfn hc)))).trans e1⟩
  .obtain⟨o',e1⟩:=I.base.there b o e hx
   exact⟨o',(hs.2 b (WX (WQ (Wy e) (I.ok.cab x c hfn hc)))).trans e1⟩
  .by_cases hj:j=i
   .subst hj
    rw[hi] at e1;cases e1
    rw[Xb hiσ] at e2
    cases e2
    exact⟨u,r,.inr ⟨.inl hk,c,hc,hc'⟩⟩
   .rw[Xe (XH hj)] at e2
    obtain⟨u',r',q⟩:=hl j y v' e1 e2 e3
    refine⟨u',r',?_⟩
    rcases q with q | ⟨k,c',e,z'⟩
    .exact .inl q
    .refine .inr ⟨k,c',e,z'.sameBut hs ?_⟩
     rintro rfl
     exact hj (Qk hN e1 (I.ok.inj _ _ _ e hc▸hi))
  .by_cases hcc:c'=c
   .subst hcc;exact⟨_,hc'⟩
   .obtain⟨w2,z2⟩:=I.cell y c' e
    exact⟨w2,z2.sameBut hs hcc⟩
  .obtain⟨e,n,ne,nf,d⟩:=I.pin p hp
   refine⟨(hs.2 p.1 ?_).trans e,n,ne,nf,d⟩
   intro q
   rw[q,hoc] at e
   have q':oc=p.2:=WW e
   exact d w' (by rw[←q'];exact hocd)
theorem Gh{M:Model}{A:Around}{E:Value->Shared->Prop}{i:Nat}{x:Str}{v:V}{u:Value}{Q:Unit->Shared->Prop}(I:Inv X pins σ H s)(hN:X.N.Nodup)(hi:X.N[i]?=some x)(hx:Loc X.env.scope x)(r:RelV v u)
  (h:∀s',Inv X pins (σ.set i (some v)) H s'->Q () s') (hf:X.fn x=true∨X.env.scope.names.lookup x=some .local:=by first | exact .inl rfl | exact .inr rfl | assumption):wpAny M A (storeName X.env x u) Q E s :=
 JC I hN hi hx r (λs' I' _=>h s' I') hf
theorem Inv.call'{s':Shared}{ch:List Addr}(I:Inv X pins σ H s)(ho:s'.os=s.os)(u:Un (frs X.stack) ch H H' s.heap s'.heap)(hok:HOk X.prog X.w H' s'.heap)(hg:AllBare s'.gens)
  (hch:∀b∈ch,(b∈X.ex∨X.s₀.heap.objs.size<=b)/\b≠X.env.locals/\(∀x c,X.env.cells.lookup x=some c->c≠b)/\∀p∈X.pn++pins,p.1≠b):Inv X pins σ H' s':=by
 obtain⟨h',g',d',t',o'⟩:=s'
 have e:o'=s.os:=ho
 subst e
 exact I.call (g':=g') (t':=t') (d':=d') u hok hg hch
end
abbrev XK:=Value->Option Addr->Hp->Prop
abbrev St:=List (Option V)
abbrev VK:=V->Hp->Prop
abbrev TE:=St->Hp->VK->Prop
abbrev TT:=St->Hp->(Bool->Hp->Prop)->Prop
abbrev TA:=St->Hp->(List V->Hp->Prop)->Prop
structure Ends where
 nx:St->Hp->Prop
 rt:VK
 bk:St->Hp->Prop:=λ_ _=>False
 ct:St->Hp->Prop:=λ_ _=>False
abbrev TS:=Ends->St->Hp->Prop
def EP(X:Cx)(pins:List (Addr×Obj))(σ:St)(Q:VK)(u:Value)(s':Shared):Prop:=∃v H',Inv X pins σ H' s'/\RelV v u/\Q v H'
def TP(X:Cx)(pins:List (Addr×Obj))(σ:St)(Q:Bool->Hp->Prop)(b:Bool)(s':Shared):Prop:=∃H',Inv X pins σ H' s'/\Q b H'
def AP(X:Cx)(pins:List (Addr×Obj))(σ:St)(Q:List V->Hp->Prop)(us:List Value)(s':Shared):Prop:=∃vs H',Inv X pins σ H' s'/\Vals vs us/\Q vs H'
def SP(X:Cx)(pins:List (Addr×Obj))(D:Ends)(f:Flow)(s':Shared):Prop :=
 match f with
 | .next=>∃σ' H',Inv X pins σ' H' s'/\D.nx σ' H'
 | .brk=>∃σ' H',Inv X pins σ' H' s'/\D.bk σ' H'
 | .cont=>∃σ' H',Inv X pins σ' H' s'/\D.ct σ' H'
 | .ret u=>∃v σ' H',Inv X pins σ' H' s'/\RelV v u/\D.rt v H'
def PE(X:Cx)(e:Expr)(t:TE):Prop :=
 ∀(pins:List (Addr×Obj))(s:Shared)(σ:St)(H:Hp)(Q:VK),Inv X pins σ H s->t σ H Q->wpAny (model X.prog X.w) X.A (eval e X.env) (EP X pins σ Q) X.xe s
def PT(X:Cx)(e:Expr)(t:TT):Prop :=
 ∀(pins:List (Addr×Obj))(s:Shared)(σ:St)(H:Hp)(Q:Bool->Hp->Prop),Inv X pins σ H s->t σ H Q->wpAny (model X.prog X.w) X.A (isTrue e X.env (eval e X.env)) (TP X pins σ Q) X.xe s
def PW(X:Cx)(e:Expr)(t:TT):Prop :=
 ∀(whole:Sem Value)(pins:List (Addr×Obj))(s:Shared)(σ:St)(H:Hp)(Q:Bool->Hp->Prop),Inv X pins σ H s->t σ H Q->wpAny (model X.prog X.w) X.A (isTrue e X.env whole) (TP X pins σ Q) X.xe s
theorem PW.pt{X:Cx}{e:Expr}{t:TT}(h:PW X e t):PT X e t:=h _
def PA(X:Cx)(es:List Expr)(t:TA):Prop :=
 ∀(pos:Pos)(pins:List (Addr×Obj))(s:Shared)(σ:St)(H:Hp)(Q:List V->Hp->Prop),Inv X pins σ H s->t σ H Q->wpAny (model X.prog X.w) X.A (spliced (backTo pos (starEach es X.env))) (AP X pins σ Q) X.xe s
def PS(X:Cx)(st:Stmt)(t:TS):Prop :=
 ∀(pins:List (Addr×Obj))(s:Shared)(σ:St)(H:Hp)(D:Ends),Inv X pins σ H s->t D σ H->wpAny (model X.prog X.w) X.A (exec st X.env) (SP X pins D) X.xe s
def PSs(X:Cx)(st:List Stmt)(t:TS):Prop :=
 ∀(pins:List (Addr×Obj))(s:Shared)(σ:St)(H:Hp)(D:Ends),Inv X pins σ H s->t D σ H->wpAny (model X.prog X.w) X.A (execs st X.env) (SP X pins D) X.xe s
theorem thn{α:Type}{t:Sem α}{Q Q':α->Shared->Prop}{M:Model}{A:Around}{E:Value->Shared->Prop}{s:Shared}(h:wpAny M A t Q E s)(hQ:∀a s,Q a s->Q' a s):wpAny M A t Q' E s:=Xx h hQ λ_ _ x=>x
section
variable{X:Cx}
def kJ(i:Nat):TE:=λσ H Q=>∃v,σ[i]?=some (some v)/\Q v H
def tC(v:V):TE:=λ_ H Q=>Q v H
theorem pe_var{i:Nat}{x:Str}{pos:Pos}(hN:X.N[i]?=some x)(hv:Vis X.env.scope x)(hd:(x==("__debug__":Str))=false:=by decide)(hcd:(x==("__classdict__":Str))=false:=by decide):PE X (.Name x pos) (kJ i):=by
 intro pins s σ H Q I h
 obtain⟨v,e,h⟩:=h
 obtain⟨m,hn,hl⟩:=I.loc
 obtain⟨u,r,l⟩:=hl i x v hN e hv
 have fin:EP X pins σ Q u s:=⟨v,H,I,r,h⟩
 rcases l with⟨hk,hm⟩| ⟨hk,c,hc,hcell⟩
 .exact wpAny_Name (wpAny_loadName_local I.ok.kind hk hn hm fin) hd
 .rcases hk with hk | hk
  .exact wpAny_Name (wpAny_loadName_cell I.ok.kind hk hc hcell fin) hd
  .exact wpAny_Name (wpAny_loadName_free I.ok.kind hk hc hcell fin hcd) hd
theorem pe_int{i j pos}:PE X (.Constant (.int i) j pos) (tC (.int i)):=λ_ _ _ H _ I h=>wpAny_Constant_int ⟨.int i,H,I.tok _,⟨_,rfl⟩,h⟩
theorem pe_bl{b j pos}:PE X (.Constant (.bool b) j pos) (tC (.bl b)):=λ_ _ _ H _ I h=>Constant_bool ⟨.bl b,H,I,rfl,h⟩
theorem My{j pos}:PE X (.Constant .none j pos) (tC .non):=λ_ _ _ H _ I h=>Constant_none ⟨.non,H,I,rfl,h⟩
theorem pe_str{x j pos}:PE X (.Constant (.str x) j pos) (tC (.str x)):=λ_ _ _ H _ I h=>Calls.Constant_str ⟨.str x,H,I.tok _,⟨_,rfl⟩,h⟩
def Gl(X:Cx)(x:Str):Prop:=X.env.kindOf x=some .globalImplicit
theorem yz{E:Value->Shared->Prop}{pins:List (Addr×Obj)}{s:Shared}{σ:St}{H:Hp}{x:Str}{u:Value}{pos:Pos}{Q:Value->Shared->Prop}(I:Inv X pins σ H s)(hg:Gl X x)(hm:X.mg x=some u)(h:Q u s)
  (hd:(x==("__debug__":Str))=false:=by decide):wpAny (model X.prog X.w) X.A (eval (.Name x pos) X.env) Q E s :=
 Calls.Name_function_global I.ok.kind hg (Calls.loadGlobal_global (by rw[I.ok.glob];exact I.mod.glob.keeps I.bk) hm h) hd
theorem rZ{E:Value->Shared->Prop}{pins:List (Addr×Obj)}{s:Shared}{σ:St}{H:Hp}{x:Str}{u:Value}{pos:Pos}{Q:Value->Shared->Prop}(I:Inv X pins σ H s)(hg:Gl X x)(hm:X.mg x=none)(hv:bootBuiltins x=some u)(h:Q u s)
  (hn:x≠"__name__":=by decide) (hd:(x==("__debug__":Str))=false:=by decide):wpAny (model X.prog X.w) X.A (eval (.Name x pos) X.env) Q E s:=by
 obtain⟨mb,h1,h2⟩:=I.mod.blt
 exact Calls.Name_function_global I.ok.kind hg (Calls.loadGlobal_builtin (by rw[I.ok.glob];exact I.mod.glob.keeps I.bk) hm (by rw[I.ok.blt];exact h1.keeps I.bk) ((h2 x hn).trans hv) h) hd
theorem Di{x:Str}{v:V}{u:Value}{pos:Pos}(hg:Gl X x)(hm:X.mg x=some u)(r:RelV v u)(hd:(x==("__debug__":Str))=false:=by decide):PE X (.Name x pos) (tC v) :=
 λ_ _ _ H _ I h=>yz I hg hm ⟨v,H,I,r,h⟩ hd
theorem ir{x:Str}{v:V}{u:Value}{pos:Pos}(hg:Gl X x)(hm:X.mg x=none)(hv:bootBuiltins x=some u)(r:RelV v u)(hn:x≠"__name__":=by decide)(hd:(x==("__debug__":Str))=false:=by decide):PE X (.Name x pos) (tC v) :=
 λ_ _ _ H _ I h=>rZ I hg hm hv ⟨v,H,I,r,h⟩ hn hd
variable{a b:Expr}{ta tb:TE}{pos:Pos}
def PC(X:Cx)(op:CmpOp)(a b:Expr)(t:TE):Prop :=
 ∀(pins:List (Addr×Obj))(s:Shared)(σ:St)(H:Hp)(Q:VK),Inv X pins σ H s->t σ H Q ->
  wpAny (model X.prog X.w) X.A (eval a X.env) (λv s₁=>wpAny (model X.prog X.w) X.A (eval b X.env) (λu s₂=>wpAny (model X.prog X.w) X.A (compareOp op v u) (EP X pins σ Q) X.xe s₂) X.xe s₁) X.xe s
def tB(t:TE):TT:=λσ H Q=>t σ H λx H1=>∃c,x=.bl c/\Q c H1
theorem pt_cmp{op:CmpOp}{t:TE}(h:PC X op a b t)(h1:behindInMarks op b=false:=by first | exact nobehind _ (by decide) (by decide) | rfl):PT X (.Compare a [op] [b] pos) (tB t):=by
 intro pins s σ H Q I hw
 refine wpAny_isTrue_Compare1 (thn (h pins s σ H _ I hw) λv s1 h1=>thn h1 λu s2 h2=>thn h2 λc s3 ⟨x,H1,I1,r1,q1⟩=>?_) h1
 obtain⟨d,rfl,q⟩:=q1
 cases r1
 exact Xn ⟨H1,I1,q⟩
variable{tA tB':TT}{rest:List Expr}
def tAnd(t u:TT):TT:=λσ H Q=>t σ H λc H1=>if c=true then u σ H1 Q else Q false H1
def tOr(t u:TT):TT:=λσ H Q=>t σ H λc H1=>if c=true then Q true H1 else u σ H1 Q
def tNot(t:TT):TT:=λσ H Q=>t σ H λc H1=>Q (!c) H1
theorem UG(ha:PT X a tA):PW X (.BoolOp .And [a] pos) tA:=by
 intro wh pins s σ H Q I h
 refine isTrue_and (thn (ha pins s σ H Q I h) λc s1 e=>?_)
 cases c with
 | true=>exact isTrue_and_nil e
 | false=>exact e
theorem pw_or1(ha:PT X a tA):PW X (.BoolOp .Or [a] pos) tA:=by
 intro wh pins s σ H Q I h
 refine isTrue_or (thn (ha pins s σ H Q I h) λc s1 e=>?_)
 cases c with
 | false=>exact isTrue_or_nil e
 | true=>exact e
theorem pw_and(ha:PT X a tA)(hb:PW X (.BoolOp .And (b::rest) pos) tB'):PW X (.BoolOp .And (a::b::rest) pos) (tAnd tA tB'):=by
 intro wh pins s σ H Q I h
 refine isTrue_and (thn (ha pins s σ H _ I h) λc s1 ⟨H1,I1,q1⟩=>?_)
 cases c with
 | true=>exact hb wh pins s1 σ H1 Q I1 q1
 | false=>exact⟨H1,I1,q1⟩
theorem pw_or(ha:PT X a tA)(hb:PW X (.BoolOp .Or (b::rest) pos) tB'):PW X (.BoolOp .Or (a::b::rest) pos) (tOr tA tB'):=by
 intro wh pins s σ H Q I h
 refine isTrue_or (thn (ha pins s σ H _ I h) λc s1 ⟨H1,I1,q1⟩=>?_)
 cases c with
 | true=>exact⟨H1,I1,q1⟩
 | false=>exact hb wh pins s1 σ H1 Q I1 q1
theorem pt_not(ha:PT X a tA):PT X (.UnaryOp .Not a pos) (tNot tA):=by
 intro pins s σ H Q I h
 exact isTrue_not (ha pins s σ H (λc H1=>Q (!c) H1) I h)
def tAndV(ta tb:TE):TE:=λσ H Q=>ta σ H λx H1=>∃c,x=.bl c/\if c=true then tb σ H1 Q else Q (.bl false) H1
def tOrV(ta tb:TE):TE:=λσ H Q=>ta σ H λx H1=>∃c,x=.bl c/\if c=true then Q (.bl true) H1 else tb σ H1 Q
def tNotV(ta:TE):TE:=λσ H Q=>ta σ H λx H1=>∃c,x=.bl c/\Q (.bl (!c)) H1
theorem pe_one{op}{t:TE}(h:PE X a t):PE X (.BoolOp op [a] pos) t:=λpins s σ H Q I hw=>BoolOp_one (h pins s σ H Q I hw)
theorem pe_and(ha:PE X a ta)(hb:PE X (.BoolOp .And (b::rest) pos) tb):PE X (.BoolOp .And (a::b::rest) pos) (tAndV ta tb):=by
 intro pins s σ H Q I h
 refine BoolOp_and (thn (ha pins s σ H _ I h) λv s1 ⟨x,H1,I1,r1,q1⟩=>?_)
 obtain⟨c,rfl,q1⟩:=q1
 cases r1
 refine Xn ?_
 cases c with
 | true=>exact hb pins s1 σ H1 Q I1 q1
 | false=>exact⟨.bl false,H1,I1,rfl,q1⟩
theorem pe_or(ha:PE X a ta)(hb:PE X (.BoolOp .Or (b::rest) pos) tb):PE X (.BoolOp .Or (a::b::rest) pos) (tOrV ta tb):=by
 intro pins s σ H Q I h
 refine BoolOp_or (thn (ha pins s σ H _ I h) λv s1 ⟨x,H1,I1,r1,q1⟩=>?_)
 obtain⟨c,rfl,q1⟩:=q1
 cases r1
 refine Xn ?_
 cases c with
 | false=>exact hb pins s1 σ H1 Q I1 q1
 | true=>exact⟨.bl true,H1,I1,rfl,q1⟩
theorem pe_not(ha:PE X a ta):PE X (.UnaryOp .Not a pos) (tNotV ta):=by
 intro pins s σ H Q I h
 refine UnaryOp_ (thn (ha pins s σ H _ I h) λv s1 ⟨x,H1,I1,r1,q1⟩=>?_)
 obtain⟨c,rfl,q1⟩:=q1
 cases r1
 exact not_of (Xn ⟨.bl (!c),H1,I1,rfl,q1⟩)
end
def SqL(K:Frag)(H:Hp)(a:Addr)(xs:List V):Prop :=
 Rd H a (.lst xs) ∨
  ∃(o:Obj)(its:Array Value)(n:Nat),K.lookup a=some o/\o.cls=.type "list"/\o.dict=none/\o.data=.seq its n/\its.size<=sizeLine/\Vals xs its.toList
def SqT(K:Frag)(H:Hp)(a:Addr)(xs:List V):Prop :=
 Rd H a (.tup xs) ∨
  ∃(o:Obj)(its:Array Value)(n:Nat),K.lookup a=some o/\o.cls=.type "tuple"/\o.data=.seq its n/\its.size<=sizeLine/\Vals xs its.toList
def absV:Value->Option V
 | .none=>some .non
 | .bool b=>some (.bl b)
 | .int i _=>some (.int i)
 | .str x _=>some (.str x)
 | .bytes b _=>some (.byt b)
 | .float b _=>some (.flt b)
 | .ref a=>some (.ref a)
 | .type n=>some (.ty n)
 | _=>none
theorem RelV.abs{x:V}{u:Value}(r:RelV x u):absV u=some x:=by
 cases x with
 | non=>cases r;rfl
 | bl _=>cases r;rfl
 | int _=>obtain⟨t,rfl⟩:=r;rfl
 | str _=>obtain⟨t,rfl⟩:=r;rfl
 | byt _=>obtain⟨t,rfl⟩:=r;rfl
 | flt _=>obtain⟨t,rfl⟩:=r;rfl
 | ref _=>cases r;rfl
 | ty _=>cases r;rfl
theorem RelV.inj{x y:V}{u:Value}(r:RelV x u)(q:RelV y u):x=y:=WW (r.abs.symm.trans q.abs)
theorem Vals.inj:∀{xs ys:List V}{us:List Value},Vals xs us->Vals ys us->xs=ys
 | _,_,_,.nil,.nil=>rfl
 | _,_,_,.cons r t,.cons r' t'=>by rw[r.inj r',Vals.inj t t']
section
variable{X:Cx}{pins:List (Addr×Obj)}{σ:St}{H:Hp}{s:Shared}{a:Addr}{xs ys:List V}
theorem SqL.of{K:Frag}(h:H a=some (.lst xs)):SqL K H a xs:=.inl (.inl h)
theorem SqT.of{K:Frag}(h:H a=some (.tup xs)):SqT K H a xs:=.inl (.inl h)
theorem Inv.list(I:Inv X pins σ H s)(h:SqL X.K H a xs):∃its:List Value,Vals xs its/\PlainL s.heap a its.toArray/\xs.length<=sizeLine:=by
 rcases h with h | ⟨o,its,n,hk,hc,hd,hs,hz,r⟩
 .obtain⟨z,its,n,r,e⟩:=h.ok I.hok
  exact⟨its,r,⟨_,n,e,rfl,rfl,rfl⟩,z⟩
 .refine⟨its.toList,r,⟨o,n,I.kIn a o hk,hc,hd,by simpa using hs⟩,?_⟩
  have e:=r.length
  simp only[Array.length_toList] at e
  omega
theorem Inv.tuple(I:Inv X pins σ H s)(h:SqT X.K H a xs):∃its:List Value,Vals xs its/\IsTup s.heap a its.toArray/\xs.length<=sizeLine:=by
 rcases h with h | ⟨o,its,n,hk,hc,hs,hz,r⟩
 .obtain⟨z,its,r,p⟩:=h.ok I.hok
  exact⟨its,r,p,z⟩
 .refine⟨its.toList,r,⟨o,I.kIn a o hk,hc,n,by simpa using hs⟩,?_⟩
  have e:=r.length
  simp only[Array.length_toList] at e
  omega
theorem Inv.yC(I:Inv X pins σ H s)(h:SqL X.K H a xs)(h':SqL X.K H a ys):xs=ys:=by
 obtain⟨its,r,⟨o,n,e,_,_,d⟩,_⟩:=I.list h
 obtain⟨its',r',⟨o',n',e',_,_,d'⟩,_⟩:=I.list h'
 rw[e] at e';cases e'
 rw[d] at d'
 injection d' with d1 _
 have:its=its':=by simpa using Xd Array.toList d1
 subst this
 exact r.inj r'
theorem Inv.JD(I:Inv X pins σ H s)(h:SqT X.K H a xs)(h':SqT X.K H a ys):xs=ys:=by
 obtain⟨its,r,⟨o,e,_,n,d⟩,_⟩:=I.tuple h
 obtain⟨its',r',⟨o',e',_,n',d'⟩,_⟩:=I.tuple h'
 rw[e] at e';cases e'
 rw[d] at d'
 injection d' with d1 _
 have:its=its':=by simpa using Xd Array.toList d1
 subst this
 exact r.inj r'
end
abbrev Cx.wish(X:Cx)(E:Value->Shared->Prop):Cx:={ X with xe:=E }
abbrev Cx.nox(X:Cx):Cx:=X.wish λ_ _=>False
theorem Cx.Ok.wish{X:Cx}(ok:X.Ok)(E:Value->Shared->Prop):(X.wish E).Ok :=
 ⟨ok.mod,ok.kind,ok.glob,ok.blt,ok.above,ok.inj,ok.has,ok.cab,ok.hd,ok.frames,ok.stk,ok.exf,ok.bs,ok.bsz,ok.bw,ok.exfs,ok.BX,ok.frf⟩
theorem Cx.Ok.vL{X:Cx}{E:Value->Shared->Prop}(ok:(X.wish E).Ok):X.Ok :=
 ⟨ok.mod,ok.kind,ok.glob,ok.blt,ok.above,ok.inj,ok.has,ok.cab,ok.hd,ok.frames,ok.stk,ok.exf,ok.bs,ok.bsz,ok.bw,ok.exfs,ok.BX,ok.frf⟩
section
variable{X:Cx}{pins:List (Addr×Obj)}{σ:St}{H:Hp}{s:Shared}{E:Value->Shared->Prop}
theorem Inv.wish(I:Inv X pins σ H s)(E:Value->Shared->Prop):Inv (X.wish E) pins σ H s:=⟨I.ok.wish E,I.os,I.bare,I.base,I.loc,I.cell,I.free,I.wC,I.pin,I.hok,I.len⟩
theorem Inv.vL(I:Inv (X.wish E) pins σ H s):Inv X pins σ H s:=⟨I.ok.vL,I.os,I.bare,I.base,I.loc,I.cell,I.free,I.wC,I.pin,I.hok,I.len⟩
theorem SP.vL{D:Ends}{f:Flow}{s':Shared}(h:SP (X.wish E) pins D f s'):SP X pins D f s':=by
 cases f with
 | next=>obtain⟨σ',H',I,q⟩:=h;exact⟨σ',H',I.vL,q⟩
 | brk=>obtain⟨σ',H',I,q⟩:=h;exact⟨σ',H',I.vL,q⟩
 | cont=>obtain⟨σ',H',I,q⟩:=h;exact⟨σ',H',I.vL,q⟩
 | ret u=>obtain⟨v,σ',H',I,r,q⟩:=h;exact⟨v,σ',H',I.vL,r,q⟩
theorem PSs.nox{st:List Stmt}{t:TS}(h:PSs X.nox st t):PSs X st t:=λpins s σ H D I hw =>
 Xx (h pins s σ H D (I.wish _) hw) (λ_ _ q=>q.vL) λ_ _ z=>Wn z
end
section
variable{X:Cx}{st:Stmt}{rest:List Stmt}{t u:TS}{e:Expr}{te:TE}{pos:Pos}
def tNext:TS:=λD σ H=>D.nx σ H
def tSeq(t u:TS):TS:=λD σ H=>t { D with nx:=u D } σ H
theorem Uz:PSs X [] tNext:=λ_ _ σ H _ I h=>Zk ⟨σ,H,I,h⟩
theorem u9(h1:PS X st t)(h2:PSs X rest u):PSs X (st::rest) (tSeq t u):=by
 intro pins s σ H D I h
 refine wpAny_execs_cons (thn (h1 pins s σ H { D with nx:=u D } I h) λf s1 q=>?_)
 cases f with
 | next =>
  obtain⟨σ',H',I',q⟩:=q
  exact h2 pins s1 σ' H' D I' q
 | ret v=>exact q
 | brk=>exact q
 | cont=>exact q
theorem pG(h1:PS X st t):PSs X [st] t:=by
 intro pins s σ H D I h
 refine wpAny_execs_cons (thn (h1 pins s σ H D I h) λf s1 q=>?_)
 cases f with
 | next=>exact Zk q
 | ret v=>exact q
 | brk=>exact q
 | cont=>exact q
theorem Inv.quiet{pins:List (Addr×Obj)}{σ:St}{H:Hp}{s:Shared}(I:Inv X pins σ H s):interactive X.env=false:=by simp[interactive,I.ok.kind]
def uf(te:TE):TS:=λD σ H=>te σ H λ_ H1=>D.nx σ H1
theorem mj(he:PE X e te)(hs:swapsWith e none pos.line X.env=pure false:=by rfl):PS X (.Expr e pos) (uf te):=by
 intro pins s σ H D I h
 exact wpAny_Expr_any (thn (he pins s σ H _ I h) λv s1 ⟨x,H1,I1,r1,q1⟩=>⟨σ,H1,I1,q1⟩) I.quiet hs
def tRet(te:TE):TS:=λD σ H=>te σ H D.rt
theorem w6(he:PE X e te):PS X (.Return (some e) pos) (tRet te):=by
 intro pins s σ H D I h
 exact wpAny_Return_some (thn (he pins s σ H _ I h) λv s1 ⟨x,H1,I1,r1,q1⟩=>⟨x,σ,H1,I1,r1,q1⟩)
def tIfS(c:TT)(t u:TS):TS:=λD σ H=>c σ H λb H1=>if b=true then t D σ H1 else u D σ H1
theorem ps_if{c:Expr}{a b:List Stmt}{tc:TT}(hc:PT X c tc)(ha:PSs X a t)(hb:PSs X b u):PS X (.If c a b pos) (tIfS tc t u):=by
 intro pins s σ H D I h
 refine wpAny_If (thn (hc pins s σ H _ I h) λd s1 ⟨H1,I1,q1⟩=>?_)
 cases d with
 | true=>exact ha pins s1 σ H1 D I1 q1
 | false=>exact hb pins s1 σ H1 D I1 q1
def tNever:TS:=λ_ _ _=>False
theorem ps_never:PS X st tNever:=λ_ _ _ _ _ _ h=>h.elim
end
abbrev TG:=V->St->Hp->(St->Hp->Prop)->Prop
abbrev TGs:=List V->St->Hp->(St->Hp->Prop)->Prop
def PG(X:Cx)(target:Expr)(t:TG):Prop :=
 ∀(pins:List (Addr×Obj))(s:Shared)(σ:St)(H:Hp)(v:V)(u:Value)(Q:St->Hp->Prop),Inv X pins σ H s->RelV v u->t v σ H Q ->
  wpAny (model X.prog X.w) X.A (assign target X.env u) (λ_ s'=>∃σ' H',Inv X pins σ' H' s'/\Q σ' H') X.xe s
def PGs(X:Cx)(ts:List Expr)(t:TGs):Prop :=
 ∀(pins:List (Addr×Obj))(s:Shared)(σ:St)(H:Hp)(vs:List V)(us:List Value)(Q:St->Hp->Prop),Inv X pins σ H s->Vals vs us->t vs σ H Q ->
  wpAny (model X.prog X.w) X.A (assignInOrder ((assignEach ts X.env).map (·.2)) us) (λ_ s'=>∃σ' H',Inv X pins σ' H' s'/\Q σ' H') X.xe s
abbrev TSet:=V->V->V->Hp->(Hp->Prop)->Prop
def PSet(X:Cx)(t:TSet):Prop :=
 ∀(pins:List (Addr×Obj))(s:Shared)(σ:St)(H:Hp)(o i v:V)(ov iv u:Value)(Q:Hp->Prop),Inv X pins σ H s->RelV o ov->RelV i iv->RelV v u->t o i v H Q ->
  wpAny (model X.prog X.w) X.A (setItem ov iv u) (λ_ s'=>∃H',Inv X pins σ H' s'/\Q H') X.xe s
abbrev TIp:=V->V->Hp->VK->Prop
def PIp(X:Cx)(op:Operator)(t:TIp):Prop :=
 ∀(pins:List (Addr×Obj))(s:Shared)(σ:St)(H:Hp)(x y:V)(v u:Value)(Q:VK),Inv X pins σ H s->RelV x v->RelV y u->t x y H Q ->
  wpAny (model X.prog X.w) X.A (inplaceOp op v u) (EP X pins σ Q) X.xe s
section
variable{X:Cx}{pos:Pos}
def yp(i:Nat):TG:=λv σ H Q=>Q (σ.set i (some v)) H
theorem Ux{i:Nat}{x:Str}(hN:X.N.Nodup)(hi:X.N[i]?=some x)(hx:Loc X.env.scope x)(hf:X.fn x=true∨X.env.scope.names.lookup x=some .local:=by first | exact .inl rfl | exact .inr rfl | assumption):PG X (.Name x pos) (yp i):=by
 intro pins s σ H v u Q I r h
 exact wpAny_assign_Name (Gh I hN hi hx r (λs' I'=>⟨_,H,I',h⟩) hf)
def gNil:TGs:=λvs σ H Q=>vs=[]/\Q σ H
def gCons(t:TG)(u:TGs):TGs:=λvs σ H Q=>∃v r,vs=v::r/\t v σ H λσ' H'=>u r σ' H' Q
theorem pgs_nil:PGs X [] gNil:=by
 intro pins s σ H vs us Q I r h
 obtain⟨e,h⟩:=h
 subst e
 cases r
 exact assignInOrder_nil ⟨σ,H,I,h⟩
theorem fL{e:Expr}{es:List Expr}{t:TG}{u:TGs}(h1:PG X e t)(h2:PGs X es u)
  (hs:(assignEach (e::es) X.env).map (·.2)=assign e X.env::(assignEach es X.env).map (·.2):=by rfl):PGs X (e::es) (gCons t u):=by
 intro pins s σ H vs us Q I r h
 obtain⟨v,vr,e1,h⟩:=h
 subst e1
 cases r with
 | cons r rr =>
  rw[hs]
  refine assignInOrder_cons (thn (h1 pins s σ H _ _ _ I r h) λ_ s1 ⟨σ1,H1,I1,q1⟩=>?_)
  exact h2 pins s1 σ1 H1 _ _ Q I1 rr q1
def gTup(K:Frag)(n:Nat)(t:TGs):TG:=λv σ H Q=>∃a xs,v=.ref a/\SqT K H a xs/\xs.length=n/\t xs σ H Q
theorem Ag{es:List Expr}{k:Nat}{t:TGs}{n:Nat}(hc:X.calm=true)(h:PGs X es t)
  (hn:(assignEach es X.env).length=n:=by rfl) (hst:(assignEach es X.env).findIdx? (·.1)=none:=by rfl):PG X (.Tuple es k pos) (gTup X.K n t):=by
 intro pins s σ H v u Q I r hw
 obtain⟨a,xs,e1,hq,hl,hw⟩:=hw
 subst e1
 cases r
 obtain⟨its,rv,ht,hz⟩:=I.tuple hq
 refine assign_Tuple_tuple (I.ok.hd hc) ht (by simp[hn,←hl,rv.length]) hst λh' hx=>?_
 have I1:Inv X pins σ H { s with heap:=h' }:=I.kept (t':=s.toks) λb o e=>hx b o (WX (Wy e)) e
 exact h pins _ σ H xs _ Q I1 (by simpa using rv) hw
def gSub(to ti:TE)(t:TSet):TG:=λv σ H Q=>to σ H λo H1=>ti σ H1 λi H2=>t o i v H2 λH3=>Q σ H3
theorem Fx{o i:Expr}{to ti:TE}{t:TSet}(ho:PE X o to)(hi:PE X i ti)(hs:PSet X t)
  (ha:∀v,assign (.Subscript o i pos) X.env v=(do
   let ov ←holding [v] (eval o X.env)
   let iv ←holding [v,ov] (eval i X.env)
   standAt pos
   holding [v,ov,iv] (setItem ov iv v)
   release [v,ov,iv] []):=by intro _;rfl):PG X (.Subscript o i pos) (gSub to ti t):=by
 intro pins s σ H v u Q I r h
 rw[ha]
 refine Wr (Yc (thn (ho pins s σ H _ I h) λov s1 ⟨x,H1,I1,r1,q1⟩=>?_))
 refine Wr (Yc (thn (hi pins s1 σ H1 _ I1 q1) λiv s2 ⟨y,H2,I2,r2,q2⟩=>?_))
 refine Wr (wpAny_standAt (Wr (Yc (thn (hs pins s2 σ H2 x y v ov iv u _ I2 r1 r2 r q2) λ_ s3 ⟨H3,I3,q3⟩=>?_))))
 exact wpAny_release ⟨σ,H3,I3,q3⟩
def Gk(te:TE)(g:TG):TS:=λD σ H=>te σ H λx H1=>g x σ H1 D.nx
theorem Fz{tg e:Expr}{te:TE}{g:TG}(he:PE X e te)(hg:PG X tg g)(hs:swapsWithSole [tg] e pos.line X.env=pure false:=by rfl)(hw:swappedStores [tg] e X.env=pure none:=by rfl)
  (h1:(assignEach [tg] X.env).map (·.2)=[assign tg X.env]:=by rfl):PS X (.Assign [tg] e pos) (Gk te g):=by
 intro pins s σ H D I h
 refine wpAny_Assign_stores (thn (he pins s σ H _ I h) λv s1 ⟨x,H1,I1,r1,q1⟩=>?_) hs hw
 rw[h1]
 exact thn (hg pins s1 σ H1 x v _ I1 r1 q1) λ_ s2 q=>q
theorem MF{i:Nat}{x:Str}{e:Expr}{te:TE}{pos':Pos}(hN:X.N.Nodup)(hi:X.N[i]?=some x)(hx:Loc X.env.scope x)(he:PE X e te)(hs:swapsWith e (some (.Name x pos')) pos.line X.env=pure false:=by rfl)(hf:X.fn x=true∨X.env.scope.names.lookup x=some .local:=by first | exact .inl rfl | exact .inr rfl | assumption):
  PS X (.Assign [.Name x pos'] e pos) (Gk te (yp i)):=by
 intro pins s σ H D I h
 refine wpAny_Assign_Name (thn (he pins s σ H _ I h) λv s1 ⟨y,H1,I1,r1,q1⟩=>?_) hs
 exact Gh I1 hN hi hx r1 (λs2 I2=>⟨_,H1,I2,q1⟩) hf
def tAug(i:Nat)(te:TE)(ti:TIp):TS:=λD σ H=>∃x,σ[i]?=some (some x)/\te σ H λy H1=>ti x y H1 λz H2=>D.nx (σ.set i (some z)) H2
theorem ps_aug{i:Nat}{x:Str}{e:Expr}{te:TE}{op:Operator}{ti:TIp}{pos':Pos}(hN:X.N.Nodup)(hi:X.N[i]?=some x)(hx:Loc X.env.scope x)(he:PE X e te)(ho:PIp X op ti)(hf:X.fn x=true∨X.env.scope.names.lookup x=some .local:=by first | exact .inl rfl | exact .inr rfl | assumption):
  PS X (.AugAssign (.Name x pos') op e pos) (tAug i te ti):=by
 intro pins s σ H D I h
 obtain⟨v,e1,h⟩:=h
 obtain⟨m,hn,hl⟩:=I.loc
 have vis:Vis X.env.scope x:=by rcases hx with k | k;exact .inl k;exact .inr (.inl k)
 obtain⟨u,r,l⟩:=hl i x v hi e1 vis
 refine wpAny_AugAssign_Name ?_
 have go:wpAny (model X.prog X.w) X.A (eval e X.env) (λw s₂=>wpAny (model X.prog X.w) X.A (inplaceOp op u w) (λr s₃=>wpAny (model X.prog X.w) X.A (storeName X.env x r) (λ_=>SP X pins D .next) X.xe s₃) X.xe s₂) X.xe s:=by
  refine thn (he pins s σ H _ I h) λw s1 ⟨y,H1,I1,r1,q1⟩=>?_
  refine thn (ho pins s1 σ H1 v y u w _ I1 r r1 q1) λz s2 ⟨zv,H2,I2,r2,q2⟩=>?_
  exact Gh I2 hN hi hx r2 (λs3 I3=>⟨_,H2,I3,q2⟩) hf
 rcases l with⟨hk,hm⟩| ⟨hk,c,hc,hcell⟩
 .exact wpAny_loadName_local I.ok.kind hk hn hm go
 .rcases hk with hk | hk
  .exact wpAny_loadName_cell I.ok.kind hk hc hcell go
  .rcases hx with k | k
   .have:X.env.scope.names.lookup x=some .free:=hk
    rw[k] at this;cases this
   .have:X.env.scope.names.lookup x=some .free:=hk
    rw[k] at this;cases this
def ipI(f:Int->Int->Int):TIp:=λx y H Q=>∃i j,x=.int i/\y=.int j/\Q (.int (f i j)) H
theorem ip_add:PIp X .Add (ipI λi j=>i+j):=by
 intro pins s σ H x y v u Q I r1 r2 h
 obtain⟨i,j,e1,e2,q⟩:=h
 subst e1;subst e2
 obtain⟨t,rfl⟩:=r1
 obtain⟨t',rfl⟩:=r2
 exact iadd_int ⟨.int _,H,I.tok _,⟨_,rfl⟩,q⟩
end
section
variable{X:Cx}{pos:Pos}
def Tu(c:TT)(tb:TS):TS:=λD σ H=>∃W:Nat->St->Hp->Prop,(∃m,W m σ H)/\∀m σ H,W m σ H ->
 c σ H λb H1=>if b=true then ∃N:St->Hp->Prop,(∀σ' H',N σ' H'->∃m',m'<m/\W m' σ' H')/\tb { D with nx:=N,ct:=N,bk:=D.nx } σ H1 else D.nx σ H1
theorem Qu{c:Expr}{body:List Stmt}{tc:TT}{tb:TS}(hp:PassesOwn (model X.prog X.w) X.A X.env X.xe)(hc:PT X c tc)(hb:PSs X body tb):PS X (.While c body [] pos) (Tu tc tb):=by
 intro pins s σ H D I h
 obtain⟨W,⟨m0,w0⟩,turn⟩:=h
 refine wpAny_While (codeAny_whileLoop (λn s'=>∃σ' H',Inv X pins σ' H' s'/\W n σ' H') ?_ m0 ⟨σ,H,I,w0⟩)
 rintro n s1 ⟨σ1,H1,I1,w1⟩
 refine Yb hp (thn (hc pins s1 σ1 H1 _ I1 (turn n σ1 H1 w1)) λb s2 ⟨H2,I2,q2⟩=>?_)
 cases b with
 | true =>
  obtain⟨N,hN,q2⟩:=q2
  rw[Wu rfl]
  refine Yb hp (thn (hb pins s2 σ1 H2 _ I2 q2) λf s3 q3=>?_)
  cases f with
  | next =>
   obtain⟨σ3,H3,I3,n3⟩:=q3
   obtain⟨m',hm,w3⟩:=hN σ3 H3 n3
   exact⟨m',hm,σ3,H3,I3,w3⟩
  | cont =>
   obtain⟨σ3,H3,I3,n3⟩:=q3
   obtain⟨m',hm,w3⟩:=hN σ3 H3 n3
   exact⟨m',hm,σ3,H3,I3,w3⟩
  | brk=>exact q3
  | ret v=>exact q3
 | false =>
  rw[WD Wv]
  exact Zk ⟨σ1,H2,I2,q2⟩
end
structure It where
 go:Nat->Hp->Prop
 yld:Nat->Hp->V->Hp->Prop
 stop:Nat->Hp->Prop
def zu(X:Cx)(pins:List (Addr×Obj))(H:Hp)(b:Addr):Prop :=
 H b=none/\b≠X.env.locals/\b∉X.fs/\(b∈X.ex∨X.s₀.heap.objs.size<=b)/\(∀x c,X.env.cells.lookup x=some c->c≠b)/\∀p∈X.pn++pins,p.1≠b
theorem Inv.fpOk{X:Cx}{pins:List (Addr×Obj)}{σ:St}{H H':Hp}{s:Shared}{b:Addr}(I:Inv X pins σ H s)(hb:s.heap.objs.size<=b)(hn:H' b=none):zu X pins H' b:=by
 refine⟨hn,YD (WQ I.lt hb),I.nofs hb,.inr (W5 I.sz hb),λx c e z=>?_,λp hp z=>?_⟩
 .obtain⟨v,q⟩:=I.cell x c e
  exact absurd (WQ q.lt (by rw[z];exact hb)) (Xw _)
 .exact absurd (WQ (Wy (I.pin p hp).1) (by rw[z];exact hb)) (Xw _)
structure Turn(P:Program)(w:World)(K:Frag)(tg:Expr)(J:It)(fp:List Addr)(it:Addr)(tn:Nat->Heap->Prop):Prop where
 mem:it∈fp
 obj:∀i h,tn i h->∀b∈fp,∃o,h.get? b=some o/\∀v,o.data≠.cell v
 keep:∀i h h',tn i h->(∀b∈fp,∀o,h.get? b=some o->h'.get? b=some o)->tn i h'
 item:∀(X:Cx),X.prog=P->X.w=w->X.K=K->X.calm=true->∀(i:Nat)(pins:List (Addr×Obj))(s:Shared)(σ:St)(H:Hp)(E:Value->Shared->Prop),Inv X pins σ H s->(∀b∈fp,zu X pins H b)->tn i s.heap->J.go i H ->
  wpAny (model P w) X.A (pyNext (.ref it)) (λr s1=>∃u,r=some u /\
   wpAny (model P w) X.A (letOwnedTupleGo tg (.ref it) u) (λ_ s2=>∃x H',Inv X pins σ H' s2/\RelV x u/\J.yld i H x H'/\tn (i+1) s2.heap/\∀b∈fp,H' b=none) E s1) E s
 done:∀(X:Cx),X.prog=P->X.w=w->X.K=K->X.calm=true->∀(i:Nat)(pins:List (Addr×Obj))(s:Shared)(σ:St)(H:Hp)(E:Value->Shared->Prop),Inv X pins σ H s->(∀b∈fp,zu X pins H b)->tn i s.heap->J.stop i H ->
  wpAny (model P w) X.A (pyNext (.ref it)) (λr s1=>r=none/\Inv X pins σ H s1) E s
 self:∀(A:Around)(i:Nat)(s:Shared)(Q:Value->Shared->Prop)(E:Value->Shared->Prop),tn i s.heap->Q (.ref it) s->wpAny (model P w) A (pyIter (.ref it)) Q E s
abbrev TI:=St->Hp->(It->Hp->Prop)->Prop
def PIE(X:Cx)(pins:List (Addr×Obj))(σ:St)(tg:Expr)(R:It->Hp->Prop)(itv:Value)(s2:Shared):Prop :=
 ∃(it:Addr)(fp:List Addr)(tn:Nat->Heap->Prop)(J:It)(H':Hp),itv=.ref it/\Inv X pins σ H' s2/\Turn X.prog X.w X.K tg J fp it tn/\tn 0 s2.heap/\(∀b∈fp,zu X pins H' b)/\R J H'
def PI(X:Cx)(tg iter:Expr)(wi:TI):Prop :=
 ∀(pins:List (Addr×Obj))(s:Shared)(σ:St)(H:Hp)(R:It->Hp->Prop),Inv X pins σ H s->wi σ H R ->
  wpAny (model X.prog X.w) X.A (eval iter X.env) (λv s1=>wpAny (model X.prog X.w) X.A (pyIter v) (PIE X pins σ tg R) X.xe s1) X.xe s
theorem PP{M:Model}{A:Around}{E:Value->Shared->Prop}{s:Shared}{tg:Expr}{it:Addr}{u:Value}{o:Obj}{n:String}{vs:Array Value}{Q:Unit->Shared->Prop}(ho:s.heap.get? it=some o)(hc:o.cls=.type n)(hd:o.data=.fields vs)
  (hn:["enumerate","zip","dict_itemiterator","dict_reverseitemiterator","odict_iterator","itertools.zip_longest","itertools.pairwise"].contains n=false) (hQ:Q () s):wpAny M A (letOwnedTupleGo tg (.ref it) u) Q E s:=by
 unfold letOwnedTupleGo
 cases tg <;> first
  | exact WM hQ
  | (cases u <;> first
    | exact WM hQ
    | (refine Wr (wpAny_load ho ?_)
       rw[hc,hd]
       show wpAny M A (if (["enumerate","zip","dict_itemiterator","dict_reverseitemiterator","odict_iterator","itertools.zip_longest","itertools.pairwise"].contains n && vs[0]?==some (rawInt _))=true then _ else _) Q E s
       rw[WD (by intro h;rw[hn,Bool.false_and] at h;cases h)]
       exact WM hQ))
def Itl(K:Frag)(a:Addr):It :=
 ⟨λi H=>∃xs x,SqL K H a xs/\xs[i]?=some x,λi H x H'=>H'=H/\∀xs,SqL K H a xs->xs[i]?=some x,λi H=>∃xs,SqL K H a xs/\xs.length<=i⟩
def Itt(K:Frag)(a:Addr):It :=
 ⟨λi H=>∃xs x,SqT K H a xs/\xs[i]?=some x,λi H x H'=>H'=H/\∀xs,SqT K H a xs->xs[i]?=some x,λi H=>∃xs,SqT K H a xs/\xs.length<=i⟩
def Itr(lo:Int)(n:Nat):It:=⟨λi _=>i<n,λi H x H'=>H'=H/\x=.int (lo+i),λi _=>n<=i⟩
theorem Wh{P:Program}{w:World}{K:Frag}{tg:Expr}(a it:Addr):Turn P w K tg (Itl K a) [it] it (λi h=>h.IsListIter it a i) where
 mem:=by simp
 obj:=λi h st b hb=>by
  have e:b=it:=by simpa using hb
  subst e
  obtain⟨o,e,c,d⟩:=st
  exact⟨o,e,λv z=>by rw[d] at z;cases z⟩
 keep:=λi h h' st k=>st.at λo e=>k it (by simp) o e
 item:=by
  intro X hP hw hK hc i pins s σ H E I hf st hg
  subst hP hw hK
  obtain⟨xs,x,hq,hx⟩:=hg
  obtain⟨its,rv,p,hz⟩:=I.list hq
  obtain⟨u,hu,ru⟩:=rv.get hx
  obtain⟨f0,f1,f2,f3,f4,f5⟩:=hf it (by simp)
  refine wpAny_pyNext_list_item st p.isList (x:=u) (by simpa using hu) λh' st' sb=>?_
  have I1:Inv X pins σ H { s with heap:=h' }:=I.turned (t':=s.toks) (λb o hb e=>(sb.2 b hb).trans e) f0 f1 f3 f4 f5
  obtain⟨o,e,c,d⟩:=id st'
  exact⟨u,rfl,PP (s:={ s with heap:=h' }) e c d (by decide) ⟨x,H,I1,ru,⟨rfl,λys hy=>by rw[I.yC hy hq];exact hx⟩,st',λb hb=>(hf b hb).1⟩⟩
 done:=by
  intro X hP hw hK hc i pins s σ H E I hf st hg
  subst hP hw hK
  obtain⟨xs,hq,hx⟩:=hg
  obtain⟨its,rv,p,hz⟩:=I.list hq
  obtain⟨f0,f1,f2,f3,f4,f5⟩:=hf it (by simp)
  have hl:=rv.length
  exact wpAny_pyNext_list_end (I.ok.hd hc) st p.isList (by simp;omega) λh' eb=>⟨rfl,I.turned (t':=s.toks) (λb o hb e=>eb b o hb e) f0 f1 f3 f4 f5⟩
 self:=λ_ _ _ _ _ st h=>wpAny_pyIter_listiter st h
theorem TJ{P:Program}{w:World}{K:Frag}{tg:Expr}(a it:Addr):Turn P w K tg (Itt K a) [it] it (λi h=>h.IsTupleIter it a i) where
 mem:=by simp
 obj:=λi h st b hb=>by
  have e:b=it:=by simpa using hb
  subst e
  obtain⟨o,e,c,d⟩:=st
  exact⟨o,e,λv z=>by rw[d] at z;cases z⟩
 keep:=λi h h' st k=>st.at λo e=>k it (by simp) o e
 item:=by
  intro X hP hw hK hc i pins s σ H E I hf st hg
  subst hP hw hK
  obtain⟨xs,x,hq,hx⟩:=hg
  obtain⟨its,rv,p,hz⟩:=I.tuple hq
  obtain⟨u,hu,ru⟩:=rv.get hx
  obtain⟨f0,f1,f2,f3,f4,f5⟩:=hf it (by simp)
  refine wpAny_pyNext_tuple_item st (show s.heap.IsTuple a its.toArray from p) (x:=u) (by simpa using hu) λh' st' sb=>?_
  have I1:Inv X pins σ H { s with heap:=h' }:=I.turned (t':=s.toks) (λb o hb e=>(sb.2 b hb).trans e) f0 f1 f3 f4 f5
  obtain⟨o,e,c,d⟩:=id st'
  exact⟨u,rfl,PP (s:={ s with heap:=h' }) e c d (by decide) ⟨x,H,I1,ru,⟨rfl,λys hy=>by rw[I.JD hy hq];exact hx⟩,st',λb hb=>(hf b hb).1⟩⟩
 done:=by
  intro X hP hw hK hc i pins s σ H E I hf st hg
  subst hP hw hK
  obtain⟨xs,hq,hx⟩:=hg
  obtain⟨its,rv,p,hz⟩:=I.tuple hq
  obtain⟨f0,f1,f2,f3,f4,f5⟩:=hf it (by simp)
  have hl:=rv.length
  exact wpAny_pyNext_tuple_end (I.ok.hd hc) st (show s.heap.IsTuple a its.toArray from p) (by simp;omega) λh' eb=>⟨rfl,I.turned (t':=s.toks) (λb o hb e=>eb b o hb e) f0 f1 f3 f4 f5⟩
 self:=λ_ _ _ _ _ st h=>wpAny_pyIter_tupleiter st h
theorem Tz{P:Program}{w:World}{K:Frag}{tg:Expr}(it:Addr)(lo:Int)(n:Nat):Turn P w K tg (Itr lo n) [it] it (λi h=>IsRangeIter h it (lo+(i:Nat)*1) ((n:Int) - (i:Nat)) 1) where
 mem:=by simp
 obj:=λi h st b hb=>by
  have e:b=it:=by simpa using hb
  subst e
  exact⟨_,st,λv z=>by
   have z':Data.fields _=Data.cell v:=z
   cases z'⟩
 keep:=λi h h' st k=>k it (by simp) _ st
 item:=by
  intro X hP hw hK hc i pins s σ H E I hf st hg
  subst hP hw hK
  obtain⟨f0,f1,f2,f3,f4,f5⟩:=hf it (by simp)
  have W:=Walks.range (prog:=X.prog) (w:=X.w) (I.ok.hd hc) it lo 1 n
  refine W.item i s _ _ hg st λv h' tk hv st' kk=>?_
  obtain⟨t,rfl⟩:=hv
  have I1:Inv X pins σ H { s with heap:=h',toks:=tk }:=I.turned (λb o hb e=>kk b o (by simpa using hb) e) f0 f1 f3 f4 f5
  refine⟨_,rfl,PP (s:={ s with heap:=h',toks:=tk }) (n:="range_iterator") st' rfl rfl (by decide) ⟨.int (lo+i),H,I1,⟨t,?_⟩,⟨rfl,rfl⟩,st',λb hb=>(hf b hb).1⟩⟩
  rw[Int.mul_one]
 done:=by
  intro X hP hw hK hc i pins s σ H E I hf st hg
  subst hP hw hK
  obtain⟨f0,f1,f2,f3,f4,f5⟩:=hf it (by simp)
  exact wpAny_pyNext_range_end (I.ok.hd hc) st (by have:n<=i:=hg;omega) λh' eb=>⟨rfl,I.turned (t':=s.toks) (λb o hb e=>eb b o hb e) f0 f1 f3 f4 f5⟩
 self:=λ_ _ _ _ _ st h=>wpAny_pyIter_rangeiter st h
section
variable{X:Cx}{tg:Expr}
def iList(K:Frag)(tl:TE):TI:=λσ H R=>tl σ H λx H1=>∃a,x=.ref a/\(∃xs,SqL K H1 a xs)/\R (Itl K a) H1
def iTup(K:Frag)(tl:TE):TI:=λσ H R=>tl σ H λx H1=>∃a,x=.ref a/\(∃xs,SqT K H1 a xs)/\R (Itt K a) H1
theorem pi_list{l:Expr}{tl:TE}(hl:PE X l tl):PI X tg l (iList X.K tl):=by
 intro pins s σ H R I h
 refine thn (hl pins s σ H _ I h) λv s1 ⟨x,H1,I1,r1,q1⟩=>?_
 obtain⟨a,e,⟨xs,hq⟩,q⟩:=q1
 subst e
 cases r1
 obtain⟨its,rv,p,hz⟩:=I1.list hq
 refine wpAny_pyIter_list p.isList ?_
 refine⟨s1.heap.objs.size,[s1.heap.objs.size],_,_,H1,rfl,I1.kept (t':=s1.toks) λb o e=>Wt _ e,Wh a _,⟨_,WK _ rfl,rfl,rfl⟩,λb hb=>?_,q⟩
 have e:b=s1.heap.objs.size:=by simpa using hb
 subst e
 exact I1.fpOk (Ww _) (I1.hok.fresh (Ww _))
theorem pi_tup{l:Expr}{tl:TE}(hl:PE X l tl):PI X tg l (iTup X.K tl):=by
 intro pins s σ H R I h
 refine thn (hl pins s σ H _ I h) λv s1 ⟨x,H1,I1,r1,q1⟩=>?_
 obtain⟨a,e,⟨xs,hq⟩,q⟩:=q1
 subst e
 cases r1
 obtain⟨its,rv,p,hz⟩:=I1.tuple hq
 refine wpAny_pyIter_tuple (show s1.heap.IsTuple a its.toArray from p) ?_
 refine⟨s1.heap.objs.size,[s1.heap.objs.size],_,_,H1,rfl,I1.kept (t':=s1.toks) λb o e=>Wt _ e,TJ a _,⟨_,WK _ rfl,rfl,rfl⟩,λb hb=>?_,q⟩
 have e:b=s1.heap.objs.size:=by simpa using hb
 subst e
 exact I1.fpOk (Ww _) (I1.hok.fresh (Ww _))
theorem range_it{pins:List (Addr×Obj)}{σ:St}{H:Hp}{s:Shared}{R:It->Hp->Prop}{E:Value->Shared->Prop}{lo hi:Int}{t u v:Tok}{tk:Nat}(I:Inv X pins σ H s)(h1:-(2 ^ 62)<=lo)(h2:lo<2 ^ 62)(h3:-(2 ^ 62)<=hi)(h4:hi<2 ^ 62)
  (q:R (Itr lo (hi - lo).toNat) H):wpAny (model X.prog X.w) X.A (pyIter (.ref s.heap.objs.size)) (PIE X pins σ tg R) E { s with heap:=s.heap.push { cls:=.type "range",data:=.fields #[.int lo t,.int hi u,.int 1 v] },toks:=tk }:=by
 refine wpAny_pyIter_range (IsRange.new ..) (small_one h1 h2 h3 h4) ?_
 have I1:Inv X pins σ H { s with heap:=s.heap.push { cls:=.type "range",data:=.fields #[.int lo t,.int hi u,.int 1 v] },toks:=tk }:=I.kept λb o e=>Wt _ e
 refine⟨(s.heap.push { cls:=.type "range",data:=.fields #[.int lo t,.int hi u,.int 1 v] }).objs.size,[(s.heap.push { cls:=.type "range",data:=.fields #[.int lo t,.int hi u,.int 1 v] }).objs.size],_,_,H,rfl,
  I1.kept (t':=tk) λb o e=>Wt _ e,Tz _ lo (hi - lo).toNat,?_,λb hb=>?_,q⟩
 .have e1:lo+((0:Nat):Int)*1=lo:=by simp
  have e2:(((hi - lo).toNat:Nat):Int) - ((0:Nat):Int)=Builtin.Range.rangeSize lo hi 1:=by rw[rangeSize_one];split <;> omega
  show IsRangeIter _ _ (lo+((0:Nat):Int)*1) ((((hi - lo).toNat:Nat):Int) - ((0:Nat):Int)) 1
  rw[e1,e2]
  exact WK _ rfl
 .have e:b=(s.heap.push { cls:=.type "range",data:=.fields #[.int lo t,.int hi u,.int 1 v] }).objs.size:=by simpa using hb
  subst e
  exact I1.fpOk (Ww _) (I1.hok.fresh (Ww _))
def iRng1(ta:TA):TI:=λσ H R=>ta σ H λvs H1=>∃j:Int,vs=[.int j]/\-(2 ^ 62)<=j/\j<2 ^ 62/\R (Itr 0 j.toNat) H1
theorem V3{a:Expr}{ta:TA}{p pos:Pos}(hg:Gl X "range")(hm:X.mg "range"=none)(ha:PA X [a] ta)(hs:starEach [a] X.env=[(false,eval a X.env)]:=by rfl):PI X tg (.Call (.Name "range" p) [a] [] pos) (iRng1 ta):=by
 intro pins s σ H R I h
 refine Call_ (rZ I hg hm boot_range (Xl (thn (ha pos pins s σ H _ I h) λus s1 ⟨vs,H1,I1,r1,q1⟩=>?_) hs rfl))
 obtain⟨j,e,q1,q2,q⟩:=q1
 subst e
 cases r1 with
 | cons r rr =>
  cases rr
  obtain⟨t,rfl⟩:=r
  exact call_range_1 (range_it I1 (by omega) (by omega) q1 q2 (by simpa using q))
def tFor(wi:TI)(g:TG)(tb:TS):TS:=λD σ H=>wi σ H λJ H1=>∃W:Nat->Nat->St->Hp->Prop,(∃m,W 0 m σ H1)/\∀i m σ H,W i m σ H ->
 (J.stop i H/\D.nx σ H)∨(J.go i H/\∃N:St->Hp->Prop,(∀σ' H',N σ' H'->∃m',m'<m/\W (i+1) m' σ' H')/\∀x H',J.yld i H x H'->g x σ H' λσ2 H2=>tb { D with nx:=N,ct:=N,bk:=D.nx } σ2 H2)
def Fy(fp:List Addr)(h:Heap):List (Addr×Obj):=fp.filterMap λb=>(h.get? b).map λo=>(b,o)
theorem sy{fp:List Addr}{h:Heap}{b:Addr}{o:Obj}(hb:b∈fp)(e:h.get? b=some o):(b,o)∈Fy fp h:=List.mem_filterMap.mpr ⟨b,hb,by rw[e];rfl⟩
theorem VP{fp:List Addr}{h:Heap}{p:Addr×Obj}(hp:p∈Fy fp h):p.1∈fp/\h.get? p.1=some p.2:=by
 obtain⟨b,hb,e⟩:=List.mem_filterMap.mp hp
 cases q:h.get? b with
 | none=>rw[q] at e;cases e
 | some o =>
  rw[q] at e
  have e':(b,o)=p:=WW e
  subst e'
  exact⟨hb,q⟩
theorem Inv.pinned{pins:List (Addr×Obj)}{σ:St}{H:Hp}{s:Shared}{fp:List Addr}(I:Inv X pins σ H s)(hf:∀b∈fp,zu X pins H b)(ho:∀b∈fp,∃o,s.heap.get? b=some o/\∀v,o.data≠.cell v):Inv X (pins++Fy fp s.heap) σ H s :=
 I.Uy λp hp=>(W4.mp hp).elim (λz=>I.pin p (Xg _ z)) λz=>by
  obtain⟨hb,e⟩:=VP z
  obtain⟨f0,f1,f2,_⟩:=hf p.1 hb
  obtain⟨o,e',d⟩:=ho p.1 hb
  rw[e] at e';cases e'
  exact⟨e,f0,f1,f2,d⟩
theorem Inv.yS{pins pl:List (Addr×Obj)}{σ:St}{H:Hp}{s:Shared}(I:Inv X (pins++pl) σ H s):Inv X pins σ H s:=I.Uy λp hp=>I.pin p (Xg _ (List.mem_append_left _ hp))
theorem ps_for{iter:Expr}{body:List Stmt}{wi:TI}{g:TG}{tb:TS}{pos:Pos}(hp:PassesOwn (model X.prog X.w) X.A X.env X.xe)(hc:X.calm=true)(hi:PI X tg iter wi)(hg:PG X tg g)(hb:PSs X body tb)
  (hs:∀x,foldedSetIterable iter X.env x=pure x:=by intro _;rfl):PS X (.For tg iter body [] pos) (tFor wi g tb):=by
 intro pins s σ H D I h
 refine wpAny_For (thn (hi pins s σ H _ I h) λv s1 h1=>thn h1 λitv s2 h2=>?_) hs
 obtain⟨it,fp,tn,J,H2,e,I2,T,st2,f2,W,⟨m0,w0⟩,turn⟩:=h2
 subst e
 have stat:∀{H':Hp},(∀b∈fp,H' b=none)->∀b∈fp,zu X pins H' b:=λhn b hb=>⟨hn b hb,(f2 b hb).2⟩
 refine codeAny_forLoop_any (λn s'=>∃i σ' H',Inv X pins σ' H' s'/\tn i s'.heap/\(∀b∈fp,H' b=none)/\W i n σ' H') ?_ m0 ⟨0,σ,H2,I2,st2,λb hb=>(f2 b hb).1,w0⟩
 rintro n s3 ⟨i,σ3,H3,I3,st3,fr3,w3⟩
 rcases turn i n σ3 H3 w3 with⟨stop,qn⟩| ⟨go,N,hN,step⟩
 .refine Yb hp (thn (T.done X rfl rfl rfl hc i pins s3 σ3 H3 X.xe I3 (stat fr3) st3 stop) λr s4 ⟨hr,I4⟩=>?_)
  subst hr
  exact Zk ⟨σ3,H3,I4,qn⟩
 .refine Yb hp (thn (T.item X rfl rfl rfl hc i pins s3 σ3 H3 X.xe I3 (stat fr3) st3 go) λr s4 ⟨u,hr,h4⟩=>?_)
  subst hr
  refine Yb hp (thn h4 λ_ s5 ⟨x,H5,I5,r5,y5,st5,fr5⟩=>?_)
  have I5':=I5.pinned (stat fr5) (T.obj _ _ st5)
  refine Yb hp (thn (hg _ s5 σ3 H5 x u _ I5' r5 (step x H5 y5)) λ_ s6 ⟨σ6,H6,I6,q6⟩=>?_)
  refine Yb hp (thn (hb _ s6 σ6 H6 _ I6 q6) λf s7 q7=>?_)
  have again:∀{σ7:St}{H7:Hp},Inv X (pins++Fy fp s5.heap) σ7 H7 s7->N σ7 H7->∃m,m<n/\∃i σ' H',Inv X pins σ' H' s7/\tn i s7.heap/\(∀b∈fp,H' b=none)/\W i m σ' H':=fun{σ7 H7} I7 n7=>by
   obtain⟨m',hm,w7⟩:=hN σ7 H7 n7
   refine⟨m',hm,i+1,σ7,H7,I7.yS,T.keep _ _ _ st5 λb hb o e=>(I7.pin (b,o) (Xg _ (Xg _ (sy hb e)))).1,λb hb=>?_,w7⟩
   obtain⟨o,e,d⟩:=T.obj _ _ st5 b hb
   exact(I7.pin (b,o) (Xg _ (Xg _ (sy hb e)))).2.1
  cases f with
  | next=>obtain⟨σ7,H7,I7,n7⟩:=q7;exact again I7 n7
  | cont=>obtain⟨σ7,H7,I7,n7⟩:=q7;exact again I7 n7
  | brk=>obtain⟨σ7,H7,I7,q7⟩:=q7;exact⟨σ7,H7,I7.yS,q7⟩
  | ret v=>obtain⟨x7,σ7,H7,I7,r7,q7⟩:=q7;exact⟨x7,σ7,H7,I7.yS,r7,q7⟩
end
abbrev R2:=V->V->Hp->VK->Prop
def OpR(X:Cx)(f:Value->Value->Sem Value)(r:R2):Prop :=
 ∀(pins:List (Addr×Obj))(s:Shared)(σ:St)(H:Hp)(x y:V)(v u:Value)(Q:VK),Inv X pins σ H s->RelV x v->RelV y u->r x y H Q ->
  wpAny (model X.prog X.w) X.A (f v u) (EP X pins σ Q) X.xe s
def UnR(X:Cx)(f:Value->Sem Value)(r:V->Hp->VK->Prop):Prop :=
 ∀(pins:List (Addr×Obj))(s:Shared)(σ:St)(H:Hp)(x:V)(v:Value)(Q:VK),Inv X pins σ H s->RelV x v->r x H Q ->
  wpAny (model X.prog X.w) X.A (f v) (EP X pins σ Q) X.xe s
def jX(X:Cx)(f:Value)(r:List V->Hp->VK->Prop):Prop :=
 ∀(pins:List (Addr×Obj))(s:Shared)(σ:St)(H:Hp)(xs:List V)(us:List Value)(Q:VK),Inv X pins σ H s->Vals xs us->r xs H Q ->
  wpAny (model X.prog X.w) X.A (call f us) (EP X pins σ Q) X.xe s
def TruR(X:Cx)(r:V->Hp->(Bool->Hp->Prop)->Prop):Prop :=
 ∀(pins:List (Addr×Obj))(s:Shared)(σ:St)(H:Hp)(x:V)(v:Value)(Q:Bool->Hp->Prop),Inv X pins σ H s->RelV x v->r x H Q ->
  wpAny (model X.prog X.w) X.A (truthy v) (TP X pins σ Q) X.xe s
def tOp(r:R2)(ta tb:TE):TE:=λσ H Q=>ta σ H λx H1=>tb σ H1 λy H2=>r x y H2 Q
def tUn(r:V->Hp->VK->Prop)(ta:TE):TE:=λσ H Q=>ta σ H λx H1=>r x H1 Q
def rI(C:Int->Int->Prop)(g:Int->Int->V):R2:=λx y H Q=>∃i j,x=.int i/\y=.int j/\C i j/\Q (g i j) H
def rI0(g:Int->Int->V):R2:=λx y H Q=>∃i j,x=.int i/\y=.int j/\Q (g i j) H
def rU(g:Int->V):V->Hp->VK->Prop:=λx H Q=>∃i,x=.int i/\Q (g i) H
section
variable{X:Cx}{a b:Expr}{ta tb:TE}{pos:Pos}
theorem binT(ha:PE X a ta)(hb:PE X b tb){pins:List (Addr×Obj)}{s:Shared}{σ:St}{H:Hp}{R:V->V->Hp->Prop}(I:Inv X pins σ H s)
  (h:ta σ H λx H1=>tb σ H1 λy H2=>R x y H2) {Q:Value->Shared->Prop} {f:Value->Value->Sem Value}
  (hf:∀v u s2 x y H2,Inv X pins σ H2 s2->RelV x v->RelV y u->R x y H2->wpAny (model X.prog X.w) X.A (f v u) Q X.xe s2) :
  wpAny (model X.prog X.w) X.A (eval a X.env) (λv s₁=>wpAny (model X.prog X.w) X.A (eval b X.env) (λu s₂=>wpAny (model X.prog X.w) X.A (f v u) Q X.xe s₂) X.xe s₁) X.xe s:=by
 refine thn (ha pins s σ H _ I h) λv s1 ⟨x,H1,I1,r1,q1⟩=>?_
 refine thn (hb pins s1 σ H1 _ I1 q1) λu s2 ⟨y,H2,I2,r2,q2⟩=>?_
 exact hf v u s2 x y H2 I2 r1 r2 q2
theorem Jy{op:Operator}{r:R2}(ho:OpR X (binaryOp op) r)(ha:PE X a ta)(hb:PE X b tb):PE X (.BinOp a op b pos) (tOp r ta tb):=by
 intro pins s σ H Q I h
 exact wpAny_BinOp (binT ha hb I h λv u s2 x y H2 I2 rx ry q=>ho pins s2 σ H2 x y v u Q I2 rx ry q)
theorem pe_un{op:UnaryOp}{r:V->Hp->VK->Prop}(ho:UnR X (unaryOp op) r)(ha:PE X a ta):PE X (.UnaryOp op a pos) (tUn r ta):=by
 intro pins s σ H Q I h
 exact UnaryOp_ (thn (ha pins s σ H _ I h) λv s1 ⟨x,H1,I1,r1,q1⟩=>ho pins s1 σ H1 x v Q I1 r1 q1)
theorem opI{f:Value->Value->Sem Value}{C:Int->Int->Prop}{g:Int->Int->Int}
  (rule:∀(i j:Int)(t u:Tok)(s:Shared)(Q:Value->Shared->Prop)(E:Value->Shared->Prop),C i j->Q (.int (g i j) s.toks) { s with toks:=s.toks+1 }->wpAny (model X.prog X.w) X.A (f (.int i t) (.int j u)) Q E s) :
  OpR X f (rI C λi j=>.int (g i j)):=by
 intro pins s σ H x y v u Q I rx ry h
 obtain⟨i,j,rfl,rfl,hc,q⟩:=h
 obtain⟨t,rfl⟩:=rx
 obtain⟨t',rfl⟩:=ry
 exact rule i j t t' s _ _ hc ⟨.int (g i j),H,I.tok _,⟨_,rfl⟩,q⟩
theorem opI0{f:Value->Value->Sem Value}{g:Int->Int->Int}
  (rule:∀(i j:Int)(t u:Tok)(s:Shared)(Q:Value->Shared->Prop)(E:Value->Shared->Prop),Q (.int (g i j) s.toks) { s with toks:=s.toks+1 }->wpAny (model X.prog X.w) X.A (f (.int i t) (.int j u)) Q E s) :
  OpR X f (rI0 λi j=>.int (g i j)):=by
 intro pins s σ H x y v u Q I rx ry h
 obtain⟨i,j,rfl,rfl,q⟩:=h
 obtain⟨t,rfl⟩:=rx
 obtain⟨t',rfl⟩:=ry
 exact rule i j t t' s _ _ ⟨.int (g i j),H,I.tok _,⟨_,rfl⟩,q⟩
theorem opB0{f:Value->Value->Sem Value}{g:Int->Int->Bool}
  (rule:∀(i j:Int)(t u:Tok)(s:Shared)(Q:Value->Shared->Prop)(E:Value->Shared->Prop),Q (.bool (g i j)) s->wpAny (model X.prog X.w) X.A (f (.int i t) (.int j u)) Q E s) :
  OpR X f (rI0 λi j=>.bl (g i j)):=by
 intro pins s σ H x y v u Q I rx ry h
 obtain⟨i,j,rfl,rfl,q⟩:=h
 obtain⟨t,rfl⟩:=rx
 obtain⟨t',rfl⟩:=ry
 exact rule i j t t' s _ _ ⟨.bl (g i j),H,I,rfl,q⟩
def CDiv(i j:Int):Prop:=0<j/\j<1073741824
def qi(i j:Int):Prop:=(-(2 ^ 64)<i/\i<2 ^ 64)∨(-(2 ^ 64)<j/\j<2 ^ 64)
theorem qi.ok{i j:Int}(h:qi i j):IntMulOk i j:=by
 rcases h with⟨h1,h2⟩| ⟨h1,h2⟩
 .exact .of_left (intBits_le_64 h1 h2)
 .exact .of_right (intBits_le_64 h1 h2)
theorem op_add:OpR X (binaryOp .Add) (rI0 λi j=>.int (i+j)):=opI0 λ_ _ _ _ _ _ _ q=>add_int q
theorem op_sub:OpR X (binaryOp .Sub) (rI0 λi j=>.int (i - j)):=opI0 λ_ _ _ _ _ _ _ q=>sub_int q
theorem op_mul:OpR X (binaryOp .Mult) (rI qi λi j=>.int (i*j)):=opI λ_ _ _ _ _ _ _ hc q=>mul_int q hc.ok
theorem op_fdiv:OpR X (binaryOp .FloorDiv) (rI CDiv λi j=>.int (i / j)):=opI λi j _ _ _ _ _ hc q=>by
 have h1:(0:Int)<j:=hc.1
 have h2:j<1073741824:=hc.2
 exact floordiv_int (by omega) (by rw[Int.fdiv_eq_ediv_of_nonneg i (by omega)];exact q) (.inl (PyProof.noPylong_small (by omega)))
theorem op_mod:OpR X (binaryOp .Mod) (rI (λ_ j=>0<j) λi j=>.int (i % j)):=opI λi j _ _ _ _ _ hc q=>by
 have h1:(0:Int)<j:=hc
 exact mod_int' (by omega) (by rw[Int.fmod_eq_emod_of_nonneg i (by omega)];exact q)
theorem unI{f:Value->Sem Value}{g:Int->Int}
  (rule:∀(i:Int)(t:Tok)(s:Shared)(Q:Value->Shared->Prop)(E:Value->Shared->Prop),Q (.int (g i) s.toks) { s with toks:=s.toks+1 }->wpAny (model X.prog X.w) X.A (f (.int i t)) Q E s) :
  UnR X f (rU λi=>.int (g i)):=by
 intro pins s σ H x v Q I rx h
 obtain⟨i,rfl,q⟩:=h
 obtain⟨t,rfl⟩:=rx
 exact rule i t s _ _ ⟨.int (g i),H,I.tok _,⟨_,rfl⟩,q⟩
theorem un_neg:UnR X (unaryOp .USub) (rU λi=>.int (-i)):=unI λ_ _ _ _ _ q=>neg_int q
end
section
variable{X:Cx}{a b c:Expr}{ta tb tc:TE}{pos:Pos}
theorem R3{pins:List (Addr×Obj)}{σ:St}{H:Hp}{s:Shared}{Q:VK}{k k':Bool}(I:Inv X pins σ H s)(q:Q (.bl k) H)(e:k=k'):EP X pins σ Q (.bool k') s:=by
 subst e
 exact⟨.bl k,H,I,rfl,q⟩
theorem op_lt:OpR X (compareOp .Lt) (rI0 λi j=>.bl (decide (i<j))):=opB0 λ_ _ _ _ _ _ _ q=>lt_int q
theorem op_le:OpR X (compareOp .LtE) (rI0 λi j=>.bl (decide (i<=j))):=opB0 λ_ _ _ _ _ _ _ q=>le_int q
theorem op_gt:OpR X (compareOp .Gt) (rI0 λi j=>.bl (decide (j<i))):=opB0 λ_ _ _ _ _ _ _ q=>gt_int q
theorem op_ge:OpR X (compareOp .GtE) (rI0 λi j=>.bl (decide (j<=i))):=opB0 λ_ _ _ _ _ _ _ q=>ge_int q
theorem V0:OpR X (compareOp .In) (λx y H Q=>∃i j,x=.str i/\y=.str j/\Q (.bl (!(Builtin.Str.occurrences j i 0 j.length 1).isEmpty)) H):=by
 intro pins s σ H x y v u Q I rx ry h
 obtain⟨i,j,rfl,rfl,q⟩:=h
 obtain⟨t,rfl⟩:=rx
 obtain⟨t',rfl⟩:=ry
 exact in_str (R3 I q rfl)
theorem op_isN:OpR X (compareOp .Is) (λx y H Q=>y=.non/\Q (.bl (decide (x=.non))) H):=by
 intro pins s σ H x y v u Q I rx ry h
 obtain⟨rfl,q⟩:=h
 cases ry
 refine is_none_gen (R3 I q ?_)
 cases x <;> first
  | (cases rx;rfl)
  | (obtain⟨t,rfl⟩:=rx;rfl)
theorem Mv:OpR X (compareOp .IsNot) (λx y H Q=>y=.non/\Q (.bl (!decide (x=.non))) H):=by
 intro pins s σ H x y v u Q I rx ry h
 obtain⟨rfl,q⟩:=h
 cases ry
 refine isnot_none_gen (R3 I q ?_)
 cases x <;> first
  | (cases rx;rfl)
  | (obtain⟨t,rfl⟩:=rx;rfl)
theorem OpR.or{f:Value->Value->Sem Value}{r r':R2}(h:OpR X f r)(h':OpR X f r'):OpR X f (λx y H Q=>r x y H Q∨r' x y H Q):=by
 intro pins s σ H x y v u Q I rx ry q
 rcases q with q | q
 .exact h pins s σ H x y v u Q I rx ry q
 .exact h' pins s σ H x y v u Q I rx ry q
theorem lC(b:Expr){op:CmpOp}(h:op≠.In:=by decide)(h2:op≠.NotIn:=by decide):behindInMarks op b=false:=by
 have e1:(op==CmpOp.In)=false:=by cases op <;> first | rfl | exact absurd rfl h
 have e2:(op==CmpOp.NotIn)=false:=by cases op <;> first | rfl | exact absurd rfl h2
 cases b <;> simp[behindInMarks,e1,e2]
theorem v6{op:CmpOp}{r:R2}(ho:OpR X (compareOp op) r)(ha:PE X a ta)(hb:PE X b tb)(hm:behindInMarks op b=false):PE X (.Compare a [op] [b] pos) (tOp r ta tb):=by
 intro pins s σ H Q I h
 exact wpAny_Compare1 (binT ha hb I h λv u s2 x y H2 I2 rx ry q=>ho pins s2 σ H2 x y v u Q I2 rx ry q) hm
def tTest(t:TE):TT:=λσ H Q=>t σ H λx H'=>∃k,x=.bl k/\Q k H'
theorem sH{op:CmpOp}{r:R2}(ho:OpR X (compareOp op) r)(ha:PE X a ta)(hb:PE X b tb)(hm:behindInMarks op b=false):PT X (.Compare a [op] [b] pos) (tTest (tOp r ta tb)):=by
 intro pins s σ H Q I h
 refine wpAny_isTrue_Compare1 (thn (ha pins s σ H _ I h) λv s1 ⟨x,H1,I1,r1,q1⟩=>thn (hb pins s1 σ H1 _ I1 q1) λu s2 ⟨y,H2,I2,r2,q2⟩ =>
  thn (ho pins s2 σ H2 x y v u _ I2 r1 r2 q2) λc s3 ⟨z,H3,I3,r3,k,e,q3⟩=>?_) hm
 subst e
 cases r3
 exact Xn ⟨H3,I3,q3⟩
def Gn(r r':R2)(ta tb tc:TE):TE:=λσ H Q=>ta σ H λx H1=>tb σ H1 λy H2=>r x y H2 λz H3=>∃k,z=.bl k /\
 (if k=true then tc σ H3 λw' H4=>r' y w' H4 Q else Q (.bl false) H3)
theorem pe_chain{op op':CmpOp}{r r':R2}(ho:OpR X (compareOp op) r)(ho':OpR X (compareOp op') r')(ha:PE X a ta)(hb:PE X b tb)(hc:PE X c tc)
  (hm:lastMarks [op,op'] [b,c]=false:=by with_unfolding_all rfl):PE X (.Compare a [op,op'] [b,c] pos) (Gn r r' ta tb tc):=by
 intro pins s σ H Q I h
 refine Compare_chain (thn (ha pins s σ H _ I h) λv s1 ⟨x,H1,I1,r1,q1⟩=>chain_link (thn (hb pins s1 σ H1 _ I1 q1) λu s2 ⟨y,H2,I2,r2,q2⟩ =>
  thn (ho pins s2 σ H2 x y v u _ I2 r1 r2 q2) λd s3 ⟨z,H3,I3,r3,k,e,q3⟩=>?_)) hm
 subst e
 cases r3
 refine Xn ?_
 cases k with
 | false=>exact ite_ff ⟨.bl false,H3,I3,rfl,q3⟩
 | true=>exact ite_tt (chain_last (thn (hc pins s3 σ H3 _ I3 q3) λw' s4 ⟨z',H4,I4,r4,q4⟩=>ho' pins s4 σ H4 y z' u w' Q I4 r2 r4 q4))
theorem pt_chain{op op':CmpOp}{r r':R2}(ho:OpR X (compareOp op) r)(ho':OpR X (compareOp op') r')(ha:PE X a ta)(hb:PE X b tb)(hc:PE X c tc)
  (hm:lastMarks [op,op'] [b,c]=false:=by with_unfolding_all rfl):PT X (.Compare a [op,op'] [b,c] pos) (tTest (Gn r r' ta tb tc)):=by
 intro pins s σ H Q I h
 refine isTrue_chain (thn (ha pins s σ H _ I h) λv s1 ⟨x,H1,I1,r1,q1⟩=>test_link (thn (hb pins s1 σ H1 _ I1 q1) λu s2 ⟨y,H2,I2,r2,q2⟩ =>
  thn (ho pins s2 σ H2 x y v u _ I2 r1 r2 q2) λd s3 ⟨z,H3,I3,r3,k,e,q3⟩=>?_)) hm
 subst e
 cases r3
 refine Xn ?_
 cases k with
 | false =>
  obtain⟨k',e',q'⟩:=q3
  cases e'
  exact ite_ff ⟨H3,I3,q'⟩
 | true =>
  refine ite_tt (test_last (thn (hc pins s3 σ H3 _ I3 q3) λw' s4 ⟨z',H4,I4,r4,q4⟩=>thn (ho' pins s4 σ H4 y z' u w' _ I4 r2 r4 q4) λd' s5 ⟨z2,H5,I5,r5,k2,e2,q5⟩=>?_))
  subst e2
  cases r5
  exact Xn ⟨H5,I5,q5⟩
def TruV(K:Frag)(x:V)(H:Hp)(k:Bool):Prop :=
 match x with
 | .non=>k=false
 | .bl b=>k=b
 | .int i=>k=(i != 0)
 | .str y=>y.length<=sizeLine/\k=((y.length:Int) != 0)
 | .byt y=>y.size<=sizeLine/\k=((y.size:Int) != 0)
 | .ref p=>(∃xs,SqL K H p xs/\k=!xs.isEmpty)∨(∃xs,SqT K H p xs/\k=!xs.isEmpty)∨∃kvs,H p=some (.dK kvs)/\k=!kvs.isEmpty
 | _=>False
theorem R9{κ:Type}{kvs:List (κ×V)}{vs:List (κ×Value)}(r:KV kvs vs):(!vs.isEmpty)=!kvs.isEmpty:=by
 cases r <;> rfl
theorem Fb{xs:List V}{its:List Value}(r:Vals xs its):(!its.toArray.isEmpty)=!xs.isEmpty:=by
 cases r <;> simp
theorem wX:(sizeLine:Nat)<2 ^ 63:=by rw[Zo];decide
theorem tru_ok:TruR X (λx H Q=>∃k,TruV X.K x H k/\Q k H):=by
 intro pins s σ H x v Q I rx h
 obtain⟨k,e,q⟩:=h
 have hl:=wX
 have hs:sizeLine=16777216:=Zo
 cases x with
 | non =>
  cases rx
  have e':k=false:=e
  subst e'
  exact truthy_none ⟨H,I,q⟩
 | bl b =>
  cases rx
  have e':k=b:=e
  subst e'
  exact Xn ⟨H,I,q⟩
 | int i =>
  obtain⟨t,rfl⟩:=rx
  have e':k=(i != 0):=e
  subst e'
  exact PySem.P.truthy_int ⟨H,I,q⟩
 | str y =>
  obtain⟨t,rfl⟩:=rx
  obtain⟨hy,e'⟩:y.length<=sizeLine/\k=((y.length:Int) != 0):=e
  subst e'
  exact PySem.P.truthy_str (by omega) ⟨H,I.tok _,q⟩
 | byt y =>
  obtain⟨t,rfl⟩:=rx
  obtain⟨hy,e'⟩:y.size<=sizeLine/\k=((y.size:Int) != 0):=e
  subst e'
  exact PySem.W.truthy_bytes (by omega) ⟨H,I.tok _,q⟩
 | ref p =>
  cases rx
  have e':(∃xs,SqL X.K H p xs/\k=!xs.isEmpty)∨(∃xs,SqT X.K H p xs/\k=!xs.isEmpty)∨∃kvs,H p=some (.dK kvs)/\k=!kvs.isEmpty:=e
  rcases e' with⟨xs,hx,e'⟩| ⟨xs,hx,e'⟩| ⟨kvs,hx,e'⟩
  .subst e'
   obtain⟨its,r,pl,hz⟩:=I.list hx
   have hlen:=r.length
   exact wpAny_truthy_list pl.isList (by simp only[List.size_toArray];omega) ⟨H,I.tok _,by rw[Fb r];exact q⟩
  .subst e'
   obtain⟨its,r,pl,hz⟩:=I.tuple hx
   have hlen:=r.length
   exact truthy_tuple pl (by simp only[List.size_toArray];omega) ⟨H,I.tok _,by rw[Fb r];exact q⟩
  .subst e'
   obtain⟨hz,hS,vs,r,m⟩:kvs.length<=sizeLine/\(p==sysModules)=false/\∃vs,KV kvs vs/\s.heap.DictOf (dY X.prog X.w) p vs:=I.hok p _ hx
   have hlen:kvs.length=vs.length:=Zr r
   exact wpAny_truthy_dict hS m (by omega) ⟨H,I.tok _,by rw[R9 r];exact q⟩
 | _=>exact(show False from e).elim
theorem Qv(ha:PE X a ta)(he:∀whole,isTrue a X.env whole=(do let v ←whole;standAt a.pos;holding [v] (truthy v))):
  PT X a (λσ H Q=>ta σ H λx H'=>∃k,TruV X.K x H' k/\Q k H'):=by
 intro pins s σ H Q I h
 exact isTrue_plain (thn (ha pins s σ H _ I h) λv s1 ⟨x,H1,I1,r1,q1⟩=>tru_ok pins s1 σ H1 x v Q I1 r1 q1) (he _)
theorem S9:OpR X (binaryOp .Add) (λx y H Q=>∃i j,x=.str i/\y=.str j/\i.length+j.length<=sizeLine/\Q (.str (i++j)) H):=by
 intro pins s σ H x y v u Q I rx ry h
 obtain⟨i,j,rfl,rfl,hz,q⟩:=h
 obtain⟨t,rfl⟩:=rx
 obtain⟨t',rfl⟩:=ry
 exact add_str (λt' tk=>⟨.str (i++j),H,I.tok _,⟨_,rfl⟩,q⟩) hz
theorem vals1{x:V}{us:List Value}(r:Vals [x] us):∃u,us=[u]/\RelV x u:=by
 cases r with
 | cons r1 r2=>cases r2;exact⟨_,rfl,r1⟩
theorem vals2{x y:V}{us:List Value}(r:Vals [x,y] us):∃u w',us=[u,w']/\RelV x u/\RelV y w':=by
 cases r with
 | cons r1 r2 =>
  cases r2 with
  | cons r3 r4=>cases r4;exact⟨_,_,rfl,r1,r3⟩
theorem Vh(hc:X.calm=true):jX X (.builtin "min") (λxs H Q=>∃i j,xs=[.int i,.int j]/\Q (.int (if j<i then j else i)) H):=by
 intro pins s σ H xs us Q I r h
 obtain⟨i,j,rfl,q⟩:=h
 obtain⟨u,w',rfl,⟨t,rfl⟩,⟨t',rfl⟩⟩:=vals2 r
 refine min_two_ints (I.ok.hd hc) λh' tk k=>⟨_,H,I.kept k,?_,q⟩
 by_cases hj:j<i
 .rw[Wu hj,Wu hj];exact⟨_,rfl⟩
 .rw[WD hj,WD hj];exact⟨_,rfl⟩
theorem Vf:jX X (.type "int") (λxs H Q=>(∃i,xs=[.int i]/\Q (.int i) H)∨∃k,xs=[.bl k]/\Q (.int (if k then 1 else 0)) H):=by
 intro pins s σ H xs us Q I r h
 rcases h with⟨i,rfl,q⟩| ⟨k,rfl,q⟩
 .obtain⟨u,rfl,t,rfl⟩:=vals1 r
  exact call_int_int ⟨.int i,H,I,⟨_,rfl⟩,q⟩
 .obtain⟨u,rfl,r1⟩:=vals1 r
  cases r1
  exact call_int_bool ⟨.int (if k then 1 else 0),H,I.tok _,⟨_,rfl⟩,q⟩
end
structure ObjM(h:Heap)(x dx C:Addr)(mA:Str->Option Value):Prop where
 obj:h.get? x=some (PySem.W.instObj C dx)
 ns:h.Ns1 dx mA
 ne:dx≠x
theorem VH{h:Heap}{dx:Addr}{mA:Str->Option Value}(n:h.Ns1 dx mA):∃od,h.get? dx=some od/\∀name,PySem.W.lookIn name od=some (mA name):=by
 obtain⟨o,es,ep,ho,hd,hk,_,hm⟩:=n
 refine⟨o,ho,λname=>?_⟩
 have e:=hm name
 unfold nsFind findBy at e
 rw[←Array.find?_toList] at e
 unfold PySem.W.lookIn
 rw[hd]
 dsimp only
 split
 .rename_i y q
  rw[q] at e
  exact Xd some e
 .rename_i q
  rw[q] at e
  have a:es.toList.any (·.refKey)=false:=by
   rw[List.any_eq_false]
   intro y hy
   obtain⟨z,t,hkey⟩:=hk y (Array.mem_toList_iff.mp hy)
   simp[DictEntry.refKey,hkey]
  have a':¬es.toList.any (·.refKey)=true:=by rw[a];exact Wv
  rw[WD a']
  exact Xd some e
theorem ObjM.look{h:Heap}{x dx C:Addr}{mA:Str->Option Value}(I:ObjM h x dx C mA):∃od,PySem.W.InstAt h x (PySem.W.instObj C dx) C (some od)/\∀name,PySem.W.lookIn name od=some (mA name) :=
 let ⟨od,ho,hl⟩:=VH I.ns
 ⟨od,⟨I.obj,rfl,rfl,ho⟩,hl⟩
section
variable{prog:Program}{w:World}{A:Around}{E:Value->Shared->Prop}{s:Shared}{K:Frag}{x dx C f:Addr}{mA:Str->Option Value}{name:Str}{v:Value}
theorem get_map{expr:Bool}{Q:Value->Shared->Prop}(X:K.In s.heap)(I:ObjM s.heap x dx C mA)(hg:PySem.W.plainGet K C name=true)(hh:PySem.W.hasDictIn K C=true)
  (ha:findIn K (.ref C) name=some none) (hv:mA name=some v) (hv':PySem.W.handedIn v=true) (h:Q v { s with toks:=s.toks+1 }) :
  wpAny (model prog w) A (getAttr (.ref x) name expr) Q E s:=by
 obtain⟨od,J,hl⟩:=I.look
 exact PySem.W.get_value X J (Zg hg).1 (PySem.W.findObj_own hh ha rfl (by rw[hl,hv])) hv' h
theorem get_meth{pl:Sem Bool}{Q:Value×List Value->Shared->Prop}(X:K.In s.heap)(I:ObjM s.heap x dx C mA)(hg:PySem.W.plainGet K C name=true)
  (hf:findIn K (.ref C) name=some (some (.ref f))) (ht:PySem.W.isFn K (.ref f)=true) (hv:mA name=none) (h:Q (.ref f,[.ref x]) s) :
  wpAny (model prog w) A (getMethod (.ref x) name pl) Q E s:=by
 obtain⟨od,J,hl⟩:=I.look
 exact PySem.W.method_fn X J (Zg hg).1 (Zg hg).2 hf (Ys.mp ht) (by show (PySem.W.lookIn name od).map (·.isSome)=some false;rw[hl,hv];rfl) h
theorem set_map{ns:List Str}{Q:Unit->Shared->Prop}(X:K.In s.heap)(I:ObjM s.heap x dx C mA)
  (hs:findIn K (.ref C) "__setattr__"=some (some (.builtin "object.__setattr__"))) (hp:PySem.W.plainOver K C=true) (ht:PySem.W.takerIn K C name=some none) (hh:PySem.W.hasDictIn K C=true)
  (hw:PySem.Within mA ns) (hsz:ns.length<=sizeLine)
  (h:∀h',ObjM h' x dx C (λy=>if y=name then some v else mA y)->Heap.SameBut dx s.heap h'->Q () { s with heap:=h',toks:=s.toks+2 }) :
  wpAny (model prog w) A (setAttr (.ref x) name v) Q E s:=by
 obtain⟨od,J,hl⟩:=I.look
 refine PySem.W.set_plain X J hs (PySem.W.osa_open (s:={ s with toks:=s.toks+1 }) (r:=none) X J hp ht λb=>?_)
 obtain⟨cd,hc,hd'⟩:=PySem.W.any_some hh
 have hx:s.heap.get? x=some ⟨.ref C,some dx,.plain,#[]⟩:=I.obj
 refine Wr (WM (Wr (Wr (wpAny_loadPart hx (Wr (PySem.W.Looks.here (s:={ s with toks:=s.toks+1 }) (PySem.W.looks_clsIn X hc) ?_))))))
 rw[hd']
 refine WM (a:=some dx) (Wr (WM (Wr ?_)))
 refine wpAny_nsSet1 (s:={ s with toks:=s.toks+1 }) I.ns λh' hn2 hs2=>?_
 obtain⟨oD,esD,epD,hoD,hdD,hcD⟩:=hn2.count (PySem.Within.cons name v hw)
 refine Wr (wpAny_lookBehind hoD (by rw[hdD];exact pastItsLine_dict (W5 hcD (by rw[WP];omega))) ?_)
 exact WM (h _ ⟨(hs2.2 _ (XH I.ne)).trans I.obj,hn2,I.ne⟩ hs2)
theorem make_map{R:Result->Shared->Prop}{vs:List Value}{kw:List (Str×Value)}(X:K.In s.heap)(hm:PySem.W.makesIn K C=true)
  (hi:findIn K (.ref C) "__init__"=some (some (.ref f))) (hf:PySem.W.typeIn K (.ref f)=some (.type "function"))
  (h:codeAny (model prog w) (A.under (.builtin "type.__call__" ⟨.ref C::vs,kw⟩)) (.call (.ref f) ⟨.ref (s.heap.objs.size+1)::vs,kw⟩) (PySem.W.InitBack (s.heap.objs.size+1) R)
   { s with heap:=(s.heap.push PySem.W.emptyDict).push (PySem.W.instObj C s.heap.objs.size) }) :
  codeAny (model prog w) A (.call (.ref C) ⟨vs,kw⟩) R s:=by
 obtain⟨hh,g,d,t,os⟩:=s
 exact PySem.W.make_core (PySem.W.makes_of X hm) (PySem.W.looks_findIn X hi) (λself=>PySem.W.bind_fn X self hf) (.inl rfl) h
end
def jP(f:Str)(v:V):List (Str×V)->List (Str×V)
 | []=>[(f,v)]
 | (g,x)::r=>if g=f then (g,v)::r else (g,x)::jP f v r
theorem Bs(f g:Str)(v:V):∀fs:List (Str×V),(jP f v fs).lookup g=if g=f then some v else fs.lookup g
 | []=>by
  show List.lookup g [(f,v)]=_
  by_cases h:g=f
  .have hb:(g==f)=true:=Ys.mpr h
   simp only[List.lookup,hb,if_pos h]
  .have hb:(g==f)=false:=W3.mpr h
   simp only[List.lookup,hb,if_neg h]
 | (k,x)::r=>by
  have ih:=Bs f g v r
  rw[show jP f v ((k,x)::r)=(if k=f then (k,v)::r else (k,x)::jP f v r) from rfl]
  by_cases hk:k=f
  .rw[Wu hk]
   by_cases h:g=k
   .have hb:(g==k)=true:=Ys.mpr h
    simp only[List.lookup,hb,if_pos (h.trans hk)]
   .have hb:(g==k)=false:=W3.mpr h
    simp only[List.lookup,hb,if_neg (λe:g=f=>h (e.trans hk.symm))]
  .rw[WD hk]
   by_cases h:g=k
   .have hb:(g==k)=true:=Ys.mpr h
    simp only[List.lookup,hb,if_neg (λe:g=f=>hk (h.symm.trans e))]
   .have hb:(g==k)=false:=W3.mpr h
    simp only[List.lookup,hb]
    exact ih
theorem zZ(f:Str)(v:V):∀fs:List (Str×V),f∈(jP f v fs).map (·.1)/\∀g,g∈fs.map (·.1)->g∈(jP f v fs).map (·.1)
 | []=>⟨by simp[jP],λg h=>by simp at h⟩
 | (k,x)::r=>by
  obtain⟨i1,i2⟩:=zZ f v r
  rw[show jP f v ((k,x)::r)=(if k=f then (k,v)::r else (k,x)::jP f v r) from rfl]
  by_cases hk:k=f
  .rw[Wu hk]
   subst hk
   exact⟨by simp,λg h=>by simpa using h⟩
  .rw[WD hk]
   refine⟨?_,λg h=>?_⟩
   .rw[WN]
    exact WR _ i1
   .rw[WN] at h ⊢
    rcases W9.mp h with e | e
    .exact W9.mpr (.inl e)
    .exact WR _ (i2 g e)
theorem Bq(f:Str)(v:V):∀fs:List (Str×V),(jP f v fs).length<=fs.length+1
 | []=>by simp[jP]
 | (k,x)::r=>by
  have ih:=Bq f v r
  rw[show jP f v ((k,x)::r)=(if k=f then (k,v)::r else (k,x)::jP f v r) from rfl]
  by_cases hk:k=f
  .rw[Wu hk,WP,WP];omega
  .rw[WD hk,WP,WP];omega
theorem qW.some_of{v:V}{o:Option Value}(r:qW (some v) o):∃u,o=some u/\RelV v u:=by
 cases o with
 | none=>exact(show False from r).elim
 | some u=>exact⟨u,rfl,r⟩
theorem qW.none_of{o:Option Value}(r:qW none o):o=none:=by
 cases o with
 | none=>rfl
 | some u=>exact(show False from r).elim
theorem Vu{v:V}{u:Value}(r:RelV v u):PySem.W.handedIn u=true:=by
 cases v with
 | non=>cases (show u=Value.none from r);rfl
 | bl b=>cases (show u=Value.bool b from r);rfl
 | int i=>obtain⟨t,e⟩:=(show ∃t,u=Value.int i t from r);cases e;rfl
 | str x=>obtain⟨t,e⟩:=(show ∃t,u=Value.str x t from r);cases e;rfl
 | byt b=>obtain⟨t,e⟩:=(show ∃t,u=Value.bytes b t from r);cases e;rfl
 | flt b=>obtain⟨t,e⟩:=(show ∃t,u=Value.float b t from r);cases e;rfl
 | ref a=>cases (show u=Value.ref a from r);rfl
 | ty n=>cases (show u=Value.type n from r);rfl
section
variable{P:Program}{w:World}{H:Hp}{h:Heap}{a C dx:Addr}{fs:List (Str×V)}
theorem CV(hok:HOk P w H h)(e:H a=some (.ins C dx fs)):∃mA,ObjM h a dx C mA/\(∀f,qW (fs.lookup f) (mA f))/\PySem.Within mA (fs.map (·.1))/\fs.length<=1000/\H dx=some (.own a):=by
 obtain⟨d,z,ne,ob,mA,n,r,q⟩:=(show dF P w H h a (.ins C dx fs) from hok a _ e)
 exact⟨mA,⟨ob,n,ne⟩,r,q,z,d⟩
end
structure Cls(K:Frag)(C:Addr):Prop where
 pg:PySem.W.plainGet K C Str.empty=true
 hd:PySem.W.hasDictIn K C=true
 po:PySem.W.plainOver K C=true
 sa:findIn K (.ref C) "__setattr__"=some (some (.builtin "object.__setattr__"))
theorem Cls.get{K:Frag}{C:Addr}(c:Cls K C)(f:Str):PySem.W.plainGet K C f=true:=c.pg
def bH(K:Frag)(C:Addr)(f:Str):Prop:=findIn K (.ref C) f=some none
theorem bH.taker{K:Frag}{C:Addr}{f:Str}(n:bH K C f):PySem.W.takerIn K C f=some none:=by
 unfold PySem.W.takerIn
 rw[show findIn K (.ref C) f=some none from n]
 rfl
structure Meth(K:Frag)(C:Addr)(m:Str)(f:Addr):Prop where
 at_:findIn K (.ref C) m=some (some (.ref f))
 fn:PySem.W.isFn K (.ref f)=true
 kp:keepIn K (.ref f)=true
section
variable{X:Cx}{pins:List (Addr×Obj)}{σ:St}{H:Hp}{s:Shared}{a C dx:Addr}{fs:List (Str×V)}{f:Str}{v:V}{A:Around}{E:Value->Shared->Prop}
theorem R6{b:Bool}{Q:Value->Shared->Prop}(I:Inv X pins σ H s)(e:H a=some (.ins C dx fs))(c:Cls X.K C)(n:bH X.K C f)(l:fs.lookup f=some v)
  (h:∀u s',Inv X pins σ H s'->RelV v u->Q u s'):wpAny (model X.prog X.w) A (getAttr (.ref a) f b) Q E s:=by
 obtain⟨mA,O,r,_,_,_⟩:=CV I.hok e
 obtain⟨u,hu,ru⟩:=qW.some_of (v:=v) (o:=mA f) (by rw[←l];exact r f)
 exact get_map I.kIn O (c.get f) c.hd n hu (Vu ru) (h u _ (I.tok _) ru)
theorem rY{m:Str}{g:Addr}{pl:Sem Bool}{Q:Value×List Value->Shared->Prop}(I:Inv X pins σ H s)(e:H a=some (.ins C dx fs))(c:Cls X.K C)(k:Meth X.K C m g)(l:fs.lookup m=none)
  (h:Q (.ref g,[.ref a]) s):wpAny (model X.prog X.w) A (getMethod (.ref a) m pl) Q E s:=by
 obtain⟨mA,O,r,_,_,_⟩:=CV I.hok e
 have hn:mA m=none:=qW.none_of (by rw[←l];exact r m)
 exact get_meth I.kIn O (c.get m) k.at_ k.fn hn h
theorem Tp{y:V}{u:Value}{Q:Unit->Shared->Prop}(I:Inv X pins σ H s)(e:H a=some (.ins C dx fs))(c:Cls X.K C)(n:bH X.K C f)(hl:fs.length<1000)(ry:RelV y u)
  (h:∀s',Inv X pins σ (upd H a (.ins C dx (jP f y fs))) s'->Q () s'):wpAny (model X.prog X.w) A (setAttr (.ref a) f u) Q E s:=by
 obtain⟨mA,O,r,wi,_,ho⟩:=CV I.hok e
 have hz:(fs.map (·.1)).length<=sizeLine:=by rw[Wx,Zo];omega
 refine set_map I.kIn O c.sa c.po n.taker c.hd wi hz λh' O' sb=>h _ ?_
 have hd:∃o,h'.get? dx=some o:=let ⟨o,_,_,e',_⟩:=O'.ns;⟨o,e'⟩
 refine I.write (x:=a) (e:=dx) (by rw[e];exact True.intro) (.inr ho) (λb q hb z=>(sb.2 b hb).trans z) hd ?_
 refine⟨by rw[aR O.ne];exact ho,?_,O.ne,O'.obj,_,O'.ns,λg=>?_,λg hg=>?_⟩
 .have:=Bq f y fs;omega
 .show qW ((jP f y fs).lookup g) (if g=f then some u else mA g)
  rw[Bs]
  by_cases q:g=f
  .rw[Wu q,Wu q];exact ry
  .rw[WD q,WD q];exact r g
 .by_cases q:g=f
  .rw[q];exact(zZ f y fs).1
  .refine(zZ f y fs).2 g (wi g λz=>hg ?_)
   show (if g=f then some u else mA g)=none
   rw[WD q];exact z
theorem Inv.made(I:Inv X pins σ H s):Inv X pins σ (upd (upd H s.heap.objs.size (.own (s.heap.objs.size+1))) (s.heap.objs.size+1) (.ins C s.heap.objs.size []))
  { s with heap:=(s.heap.push PySem.W.emptyDict).push (PySem.W.instObj C s.heap.objs.size) }:=by
 have e1:(s.heap.push PySem.W.emptyDict).get? s.heap.objs.size=some PySem.W.emptyDict:=WK s.heap rfl
 have e2:((s.heap.push PySem.W.emptyDict).push (PySem.W.instObj C s.heap.objs.size)).get? (s.heap.objs.size+1)=some (PySem.W.instObj C s.heap.objs.size):=by
  have:=WK (s.heap.push PySem.W.emptyDict) (o:=PySem.W.instObj C s.heap.objs.size) rfl
  rwa [Yx] at this
 have e3:(s.heap.push PySem.W.emptyDict).Ns s.heap.objs.size (λ_=>none):=⟨PySem.W.emptyDict,#[],_,e1,rfl,(λe he=>absurd he (by simp)),λ_=>rfl⟩
 have I1:=I.laid (a:=s.heap.objs.size) (o:=.own (s.heap.objs.size+1)) (h':=s.heap.push PySem.W.emptyDict) (t':=s.toks) (λb u q=>Wt _ q) (Ww _) ⟨_,e1⟩
 refine I1.laid (a:=s.heap.objs.size+1) (o:=.ins C s.heap.objs.size []) (t':=s.toks) (λb u q=>Wt _ q) (Nat.le_of_eq (Yx _ _)) ?_
 have ne:s.heap.objs.size≠s.heap.objs.size+1:=WX (Xp _)
 refine⟨by rw[aR ne,aK],Xq _,ne,e2,λ_=>none,(Heap.Ns1.of_empty e3).at λo q=>Wt _ q,λ_=>True.intro,λy hy=>absurd rfl hy⟩
theorem attr_of{prog:Program}{w:World}{env:Env}{e:Expr}{f:Str}{pos:Pos}{s:Shared}{Q:Value->Shared->Prop}(hb:attributeBase e f env (eval e env)=eval e env)
  (h:wpAny (model prog w) A (eval e env) (λo s₁=>wpAny (model prog w) A (getAttr o f true) Q E s₁) E s):wpAny (model prog w) A (eval (.Attribute e f pos) env) Q E s :=
 Attribute_any_ h (by rw[arm_eval_Attribute,hb])
end
def tFld(K:Frag)(ta:TE)(f:Str):TE:=λσ H Q=>ta σ H λx H1=>∃a C dx fs v,x=.ref a/\H1 a=some (.ins C dx fs)/\Cls K C/\bH K C f/\fs.lookup f=some v/\Q v H1
def sFld(K:Frag)(ta tv:TE)(f:Str):TS:=λD σ H=>tv σ H λy H1=>ta σ H1 λx H2=>∃a C dx fs,x=.ref a/\H2 a=some (.ins C dx fs)/\Cls K C/\bH K C f/\fs.length<1000 /\
 D.nx σ (upd H2 a (.ins C dx (jP f y fs)))
section
variable{X:Cx}{o e value:Expr}{f:Str}{pos pos':Pos}{ta tv:TE}
theorem pe_fld(he:PE X e ta)(hb:attributeBase e f X.env (eval e X.env)=eval e X.env):PE X (.Attribute e f pos) (tFld X.K ta f):=by
 intro pins s σ H Q I h
 refine attr_of hb (thn (he pins s σ H _ I h) λu s1 ⟨x,H1,I1,rx,a,C,dx,fs,v,ex,ea,c,n,l,q⟩=>?_)
 subst ex
 obtain rfl:u=Value.ref a:=rx
 exact R6 I1 ea c n l λu' s2 I2 ru=>⟨v,H1,I2,ru,q⟩
theorem Mz(ha:PE X o ta)(hv:PE X value tv)(hs:swapsWith value (some (.Attribute o f pos')) pos.line X.env=pure false):PS X (.Assign [.Attribute o f pos'] value pos) (sFld X.K ta tv f):=by
 intro pins s σ H D I h
 refine plainObj_wpAny_Assign_Attribute (thn (hv pins s σ H _ I h) λu s1 ⟨y,H1,I1,ry,q⟩=>thn (ha pins s1 σ H1 _ I1 q) λov s2 ⟨x,H2,I2,rx,a,C,dx,fs,ex,ea,c,n,l,q2⟩=>?_) hs
 subst ex
 obtain rfl:ov=Value.ref a:=rx
 exact Tp I2 ea c n l ry λs3 I3=>⟨σ,_,I3,q2⟩
end
section
variable{X:Cx}{pins:List (Addr×Obj)}{σ:St}{H:Hp}{s:Shared}{A:Around}{E:Value->Shared->Prop}{Q:Value->Shared->Prop}{c:Value}{b:Bool}
inductive zK (K:Frag) (H:Hp):V->Value->Prop where
 | non:zK K H .non (.type "NoneType")
 | bl (x:Bool):zK K H (.bl x) (.type "bool")
 | int (i:Int):zK K H (.int i) (.type "int")
 | str (x:Str):zK K H (.str x) (.type "str")
 | flt (x:UInt64):zK K H (.flt x) (.type "float")
 | lst {a:Addr} {xs:List V} (e:H a=some (.lst xs)):zK K H (.ref a) (.type "list")
 | frz {a:Addr} {o:Obj} {xs:List V} (e:H a=some (.frz o (.lst xs))):zK K H (.ref a) (.type "list")
 | tup {a:Addr} {xs:List V} (e:H a=some (.tup xs)):zK K H (.ref a) (.type "tuple")
 | dK {a:Addr} {kvs:List (Key×V)} (e:H a=some (.dK kvs)):zK K H (.ref a) (.type "dict")
 | dT {a:Addr} {kvs:List (List Key×V)} (e:H a=some (.dT kvs)):zK K H (.ref a) (.type "dict")
 | ins {a C dx:Addr} {fs:List (Str×V)} (e:H a=some (.ins C dx fs)) (cl:Cls K C) (ha:findIn K (.ref C) "__class__"=some (some (.builtin "object.__class__")))
   (hn:PySem.W.specialIn K (.builtin "object.__class__") "__get__"=some (some (.builtin "getset_descriptor.__get__"))) (htk:PySem.W.takesIn K (.builtin "object.__class__")=some true)
   (hm:PySem.W.mroIn K C (.type "object")=some true):zK K H (.ref a) (.ref C)
theorem Vz{x:V}{u t:Value}(I:Inv X pins σ H s)(rx:RelV x u)(ty:zK X.K H x t)(e:PySem.W.kitOne X.K t c=some b)(h:∀tk,Q (.bool b) { s with toks:=tk }):
  wpAny (model X.prog X.w) A (call (.builtin "isinstance") [u,c]) Q E s:=by
 cases ty with
 | non=>cases (show u=Value.none from rx);exact Xh PySem.W.kitx_none I.kIn True.intro e (λz=>nomatch z) h
 | bl y=>cases (show u=Value.bool y from rx);exact Xh PySem.W.kitx_bool I.kIn True.intro e (λz=>nomatch z) h
 | int i=>obtain⟨t,q⟩:=(show ∃t,u=Value.int i t from rx);cases q;exact Xh PySem.W.kitx_int I.kIn True.intro e (λz=>nomatch z) h
 | str y=>obtain⟨t,q⟩:=(show ∃t,u=Value.str y t from rx);cases q;exact Xh PySem.W.kitx_str I.kIn True.intro e (λz=>nomatch z) h
 | flt y=>obtain⟨t,q⟩:=(show ∃t,u=Value.float y t from rx);cases q;exact Xh PySem.W.kitx_float I.kIn True.intro e (λz=>nomatch z) h
 | @lst a xs ea =>
  cases (show u=Value.ref a from rx)
  obtain⟨_,_,n,_,h1⟩:=(show dF X.prog X.w H s.heap a (.lst xs) from I.hok a _ ea)
  exact Xh PySem.W.kitx_list I.kIn ⟨_,h1,rfl⟩ e (λz=>nomatch z) h
 | @frz a ob xs ea =>
  cases (show u=Value.ref a from rx)
  obtain⟨_,_,_,n,_,h1⟩:=(show dF X.prog X.w H s.heap a (.frz ob (.lst xs)) from I.hok a _ ea)
  exact Xh PySem.W.kitx_list I.kIn ⟨_,h1,rfl⟩ e (λz=>nomatch z) h
 | @tup a xs ea =>
  cases (show u=Value.ref a from rx)
  obtain⟨_,_,_,p⟩:=(show dF X.prog X.w H s.heap a (.tup xs) from I.hok a _ ea)
  obtain⟨o,h1,h2,_⟩:=p
  exact Xh PySem.W.kitx_tuple I.kIn ⟨o,h1,h2⟩ e (λz=>nomatch z) h
 | @dK a kvs ea =>
  cases (show u=Value.ref a from rx)
  obtain⟨_,_,vs,_,p⟩:=(show dF X.prog X.w H s.heap a (.dK kvs) from I.hok a _ ea)
  obtain⟨o,es,ep,h1,h2,_⟩:=p
  exact Xh PySem.W.kitx_dict I.kIn ⟨o,h1,h2.1⟩ e (λz=>nomatch z) h
 | @dT a kvs ea =>
  cases (show u=Value.ref a from rx)
  obtain⟨_,_,xs,_,o,es,ep,h1,h2,_⟩:=(show dF X.prog X.w H s.heap a (.dT kvs) from I.hok a _ ea)
  exact Xh PySem.W.kitx_dict I.kIn ⟨o,h1,h2.1⟩ e (λz=>nomatch z) h
 | @ins a C dx fs ea cl ha hn htk hm =>
  cases (show u=Value.ref a from rx)
  obtain⟨mA,O,_⟩:=CV I.hok ea
  obtain⟨od,J,_⟩:=O.look
  exact Xh (PySem.W.kitx_own (cl.get _) cl.hd ha hn htk hm) I.kIn J e (λz=>nomatch z) h
end
structure dX(k:Nat)(A:Around):Prop where
 hd:A.handled=none
 dp:A.depth+3*k+5<recursionLimit
 un:A.units+16*k+200<cLine
theorem dX.mono{j k:Nat}{A:Around}(r:dX k A)(h:j<=k):dX j A:=⟨r.hd,by have:=r.dp;omega,by have:=r.un;omega⟩
theorem dX.deeper{k:Nat}{A:Around}(r:dX (k+1) A)(env:Env):dX k (A.deeper env) :=
 ⟨r.hd,by have:=r.dp;show A.depth+1+3*k+5<_;omega,by have:=r.un;show A.units+3+16*k+200<_;omega⟩
theorem Sh{A:Around}{C:Addr}{us:List Value}{kw:List (Str×Value)}:(A.under (.builtin "type.__call__" ⟨.ref C::us,kw⟩)).depth=A.depth+1:=by
 first | rfl | simp[Around.under,Code.weight,Code.isCreation,Code.isGuard,Code.isCaller,Code.frames,Code.isFrame,guardIds]
theorem Sq{A:Around}{C:Addr}{us:List Value}{kw:List (Str×Value)}:(A.under (.builtin "type.__call__" ⟨.ref C::us,kw⟩)).units=A.units+1:=by
 first | rfl | simp[Around.under,Code.cUnits,Code.frames,Code.isFrame]
theorem dX.make{k:Nat}{A:Around}(r:dX (k+1) A)(C:Addr)(us:List Value)(kw:List (Str×Value)):dX k (A.under (.builtin "type.__call__" ⟨.ref C::us,kw⟩)) :=
 ⟨r.hd,by have:=r.dp;rw[Sh];omega,by have:=r.un;rw[Sq];omega⟩
theorem dX.depth{k:Nat}{A:Around}(r:dX k A):A.depth<recursionLimit:=by have:=r.dp;omega
theorem dX.units{k:Nat}{A:Around}(r:dX k A):A.units+64<cLine:=by have:=r.un;omega
def vI:TA:=λ_ H Q=>Q [] H
def pJ(ta:TE)(tr:TA):TA:=λσ H Q=>ta σ H λx H1=>tr σ H1 λxs H2=>Q (x::xs) H2
section
variable{X:Cx}{e:Expr}{es:List Expr}{te:TE}{t:TA}{pos:Pos}
theorem eO:PA X [] vI:=λ_ _ _ _ H Q I h=>Zb ⟨[],H,I,.nil,h⟩
theorem bM(ha:PE X e te)(hr:PA X es t)(hs:starEach (e::es) X.env=(false,eval e X.env)::starEach es X.env:=by rfl):PA X (e::es) (pJ te t):=by
 intro pos pins s σ H Q I h
 rw[hs]
 show wpAny _ _ (spliced ((false,eval e X.env)::backTo pos (starEach es X.env))) _ _ s
 refine Yo (thn (ha pins s σ H _ I h) λu s1 ⟨x,H1,I1,r1,q1⟩=>?_)
 exact thn (hr pos pins s1 σ H1 _ I1 q1) λus s2 ⟨xs,H2,I2,r2,q2⟩=>⟨x::xs,H2,I2,.cons r1 r2,q2⟩
def tTup(t:TA):TE:=λσ H Q=>t σ H λxs H1=>xs.length<=sizeLine/\∀p,H1 p=none->Q (.ref p) (upd H1 p (.tup xs))
def tLst(t:TA):TE:=λσ H Q=>t σ H λxs H1=>xs.length<=sizeLine/\∀p,H1 p=none->Q (.ref p) (upd H1 p (.lst xs))
theorem pe_tup{x1}(h:PA X es t):PE X (.Tuple es x1 pos) (tTup t):=by
 intro pins s σ H Q I hq
 refine wpAny_Tuple_spliced (thn (h pos pins s σ H _ I hq) λus s1 ⟨xs,H1,I1,r,z,q⟩=>⟨by rw[←r.length];exact z,?_⟩)
 have hf:H1 s1.heap.objs.size=none:=I1.hok.fresh (Ww _)
 refine⟨.ref s1.heap.objs.size,upd H1 s1.heap.objs.size (.tup xs),I1.laid (t':=s1.toks) (λb u e=>Wt _ e) (Ww _) ?_,rfl,q _ hf⟩
 exact⟨z,us,r,⟨_,WK _ rfl,rfl,_,rfl⟩⟩
theorem Tc(h:PA X es t):PE X (.List es pos) (tLst t):=by
 intro pins s σ H Q I hq
 refine wpAny_List_spliced (thn (h pos pins s σ H _ I hq) λus s1 ⟨xs,H1,I1,r,z,q⟩=>⟨by rw[←r.length];exact z,?_⟩)
 have hf:H1 s1.heap.objs.size=none:=I1.hok.fresh (Ww _)
 refine⟨.ref s1.heap.objs.size,upd H1 s1.heap.objs.size (.lst xs),I1.laid (t':=s1.toks) (λb u e=>Wt _ e) (Ww _) ?_,rfl,q _ hf⟩
 exact⟨z,us,0,r,WK _ rfl⟩
end
abbrev Sp:=List V->Hp->VK->XK->Prop
abbrev CXT:=List Env->Hp->Shared->XK->Value->Shared->Prop
structure Env0(P:Program)(w:World)(K:Frag)(mg:Str->Option Value)(base:Heap)(A:Around)(outer:List Env)(s:Shared)(H:Hp):Prop where
 frames:A.frames=some outer
 mod:Mod K mg base
 bs:∀b o,base.get? b=some o->s.heap.get? b=some o/\H b=none
 bsz:base.objs.size<=s.heap.objs.size
 BX:s.heap.FunFrames base outer
 frf:∀b∈frs outer,H b=none
 hok:HOk P w H s.heap
 bare:AllBare s.gens
def CE(outer:List Env)(P:Program)(w:World)(H:Hp)(s:Shared)(Q:VK)(u:Value)(s':Shared):Prop :=
 ∃v H',s'.os=s.os/\AllBare s'.gens/\Un (frs outer) [] H H' s.heap s'.heap/\HOk P w H' s'.heap/\RelV v u/\Q v H'
def CR(CX:CXT)(outer:List Env)(P:Program)(w:World)(H:Hp)(s:Shared)(Q:VK)(E:XK)(r:Result)(s':Shared):Prop :=
 match r with
 | .ok (.ret u)=>CE outer P w H s Q u s'
 | .ok _=>False
 | .error e=>CX outer H s E e s'
structure cP(P:Program)(w:World)(K:Frag)(mg:Str->Option Value)(base:Heap)(CX:CXT)(k:Nat)(f:Addr)(fd:FuncData)(ps:List Str)(sp:Sp):Prop where
 len:∀vs H Q E,sp vs H Q E->vs.length=ps.length
 run:∀(A:Around)(outer:List Env)(s:Shared)(H:Hp)(args:Args)(us:List Value)(vs:List V)(Q:VK)(E:XK),dX k A->Env0 P w K mg base A outer s H->BindsTo s fd args (ps.zip us)->Vals vs us->sp vs H Q E ->
  codeAny (model P w) A (.call (.ref f) args) (CR CX outer P w H s Q E) s
theorem cP.mono{P:Program}{w:World}{K:Frag}{mg:Str->Option Value}{base:Heap}{CX:CXT}{j k:Nat}{f:Addr}{fd:FuncData}{ps:List Str}{sp:Sp}(F:cP P w K mg base CX j f fd ps sp)(h:j<=k):
  cP P w K mg base CX k f fd ps sp:=⟨F.len,λA outer s H args us vs Q E hr=>F.run A outer s H args us vs Q E (hr.mono h)⟩
theorem cP.imp{P:Program}{w:World}{K:Frag}{mg:Str->Option Value}{base:Heap}{CX:CXT}{k:Nat}{f:Addr}{fd:FuncData}{ps:List Str}{sp sp':Sp}(F:cP P w K mg base CX k f fd ps sp)
  (h:∀vs H Q E,sp' vs H Q E->sp vs H Q E):cP P w K mg base CX k f fd ps sp' :=
 ⟨λvs H Q E q=>F.len vs H Q E (h _ _ _ _ q),λA outer s H args us vs Q E hr he hb hv hs=>F.run A outer s H args us vs Q E hr he hb hv (h _ _ _ _ hs)⟩
theorem Env0.make{P:Program}{w:World}{K:Frag}{mg:Str->Option Value}{base:Heap}{A:Around}{outer:List Env}{s:Shared}{H:Hp}(e:Env0 P w K mg base A outer s H)(C:Addr)(us:List Value)(kw:List (Str×Value)):
  Env0 P w K mg base (A.under (.builtin "type.__call__" ⟨.ref C::us,kw⟩)) outer s H:=⟨by first | exact e.frames | (simpa[Around.under,Code.envs,Code.isFrame,pushEnvs] using e.frames),e.mod,e.bs,e.bsz,e.BX,e.frf,e.hok,e.bare⟩
section
variable{X:Cx}{pins:List (Addr×Obj)}{σ:St}{H:Hp}{s s':Shared}
theorem Inv.env0(I:Inv X pins σ H s):Env0 X.prog X.w X.K X.mg X.base X.A X.stack s H :=
 ⟨I.ok.frames,I.ok.mod,I.bs,W5 I.ok.bsz I.sz,I.stack,I.U4,I.hok,I.bare⟩
theorem Inv.after{Q:VK}{u:Value}(I:Inv X pins σ H s)(h:CE X.stack X.prog X.w H s Q u s'):EP X pins σ Q u s':=by
 obtain⟨v,H',os,bare,un,hok,r,q⟩:=h
 obtain⟨hh,g,d,t,os'⟩:=s'
 obtain rfl:os'=s.os:=os
 exact⟨v,H',I.call (h':=hh) (g':=g) (d':=d) (t':=t) (ch:=[]) un hok bare (λb z=>absurd z (by simp)),r,q⟩
end
def Gm(sp:Sp)(dvs:List V)(E:XK)(t:TA):TE:=λσ H Q=>t σ H λvs H1=>sp (vs++dvs) H1 Q E
def tMeth(C:Addr)(m:Str)(sp:Sp)(dvs:List V)(E:XK)(ta:TE)(t:TA):TE:=λσ H Q=>ta σ H λx H1=>∃a dx fs,x=.ref a/\H1 a=some (.ins C dx fs)/\fs.lookup m=none /\
 t σ H1 λvs H2=>sp (x::(vs++dvs)) H2 Q E
def Q7(C:Addr)(sp:Sp)(dvs:List V)(E:XK)(t:TA):TE:=λσ H Q=>t σ H λvs H1=>∀x dx,H1 x=none->H1 dx=none->dx≠x ->
 sp (.ref x::(vs++dvs)) (upd (upd H1 dx (.own x)) x (.ins C dx [])) (λv H2=>v=.non/\Q (.ref x) H2) E
def Binds(K:Frag)(fd:FuncData)(ps:List Str)(ds:List Value):Prop :=
 ∀(s:Shared)(us:List Value),K.In s.heap->(us++ds).length=ps.length->BindsTo s fd ⟨us,[]⟩ (ps.zip (us++ds))
theorem Binds.all{K:Frag}{fd:FuncData}{ps:List Str}(h:∀us:List Value,us.length=ps.length->bindArgs fd ⟨us,[]⟩=pure (ps.zip us)):Binds K fd ps []:=λs us _ hl=>by
 rw[Xi] at hl ⊢
 exact .of_eq (h us hl)
def lu(CX:CXT)(X:Cx)(E:XK):Prop:=∀(pins:List (Addr×Obj))(σ:St)(H:Hp)(s:Shared)(e:Value)(s':Shared),Inv X pins σ H s->CX X.stack H s E e s'->X.xe e s'
section
variable{X:Cx}{CX:CXT}{k:Nat}{f C:Addr}{fd:FuncData}{ps:List Str}{sp:Sp}{dvs:List V}{ds:List Value}{E:XK}{x m:Str}{p pos apos:Pos}{e o:Expr}{es:List Expr}{ta:TE}{t:TA}
theorem Ah{pins:List (Addr×Obj)}{σ:St}{H:Hp}{s:Shared}{Q:VK}{us:List Value}{vs:List V}(F:cP X.prog X.w X.K X.mg X.base CX k f fd ps sp)(hr:dX k X.A)(hb:Binds X.K fd ps ds)(hd:Vals dvs ds)(hx:lu CX X E)
  (I:Inv X pins σ H s) (r:Vals vs us) (h:sp (vs++dvs) H Q E):wpAny (model X.prog X.w) X.A (call (.ref f) us) (EP X pins σ Q) X.xe s:=by
 have r2:Vals (vs++dvs) (us++ds):=r.append hd
 have hl:(us++ds).length=ps.length:=by rw[←r2.length];exact F.len _ _ _ _ h
 refine wpAny_call (YQ (F.run X.A X.stack s H ⟨us,[]⟩ (us++ds) (vs++dvs) Q E hr I.env0 (hb s us I.kIn hl) r2 h) λr s' hq=>?_)
 cases r with
 | error e=>exact hx pins σ H s e s' I hq
 | ok fl =>
  cases fl with
  | ret u=>exact I.after hq
  | next=>exact Wn hq
  | brk=>exact Wn hq
  | cont=>exact Wn hq
theorem Dh(F:cP X.prog X.w X.K X.mg X.base CX k f fd ps sp)(hr:dX k X.A)(hg:Gl X x)(hm:X.mg x=some (.ref f))(hk:keepIn X.K (.ref f)=true)(hb:Binds X.K fd ps ds)(hd:Vals dvs ds)(hx:lu CX X E)
  (ha:PA X (e::es) t) (hdb:(x==("__debug__":Str))=false:=by decide) (he:starEach (e::es) X.env=(false,eval e X.env)::starEach es X.env:=by rfl) (hpl:(backTo pos (starEach es X.env)).any (·.1)=false:=by rfl) :
  PE X (.Call (.Name x p) (e::es) [] pos) (Gm sp dvs E t):=by
 intro pins s σ H Q I h
 refine XF (yz I hg hm ?_ hdb)
 refine Yi (h₀:=X.base) I.ok.mod.kin hk (thn (ha pos pins s σ H _ I h) λus s1 ⟨vs,H1,I1,r,q⟩=>⟨I1.kIn,?_⟩) he hpl
 exact Ah F hr hb hd hx I1 r q
theorem pe_meth0{pl:Sem Bool}(he:PE X o ta)(c:Cls X.K C)(hm:Meth X.K C m f)(F:cP X.prog X.w X.K X.mg X.base CX k f fd ps sp)(hr:dX k X.A)(hb:Binds X.K fd ps ds)(hd:Vals dvs ds)(hx:lu CX X E)
  (ht:eval (.Call (.Attribute o m apos) [] [] pos) X.env=(do
   let ov ←eval o X.env
   standAt apos.atName
   let (f,first) ←holding [ov] (getMethod ov m pl)
   callWith pos f first (backTo pos (starEach [] X.env)) (backToKw pos (keywordEach [] X.env))):=by rfl) :
  PE X (.Call (.Attribute o m apos) [] [] pos) (tMeth C m sp dvs E ta vI):=by
 intro pins s σ H Q I h
 refine X7 (pl:=pl) (thn (he pins s σ H _ I h) λu s1 ⟨x,H1,I1,rx,a,dx,fs,ex,ea,l,q⟩=>?_) ht
 subst ex
 obtain rfl:u=Value.ref a:=rx
 refine rY I1 ea c hm l ?_
 exact Zh (first:=[.ref a]) I1.kIn hm.kp (Ah (us:=[.ref a]) (vs:=[.ref a]) F hr hb hd hx I1 (.cons rfl .nil) q)
structure Mk(K:Frag)(C f:Addr):Prop where
 makes:PySem.W.makesIn K C=true
 init:findIn K (.ref C) "__init__"=some (some (.ref f))
 fn:PySem.W.isFn K (.ref f)=true
 kp:keepIn K (.ref C)=true
theorem QK{pins:List (Addr×Obj)}{σ:St}{H:Hp}{s:Shared}{Q:VK}{us:List Value}{vs:List V}(M:Mk X.K C f)(F:cP X.prog X.w X.K X.mg X.base CX k f fd ps sp)(hr:dX (k+1) X.A)(hb:Binds X.K fd ps ds)(hd:Vals dvs ds)
  (hx:lu CX X E) (I:Inv X pins σ H s) (r:Vals vs us)
  (h:∀x dx,H x=none->H dx=none->dx≠x->sp (.ref x::(vs++dvs)) (upd (upd H dx (.own x)) x (.ins C dx [])) (λv H2=>v=.non/\Q (.ref x) H2) E) :
  wpAny (model X.prog X.w) X.A (call (.ref C) us) (EP X pins σ Q) X.xe s:=by
 have hq:=h (s.heap.objs.size+1) s.heap.objs.size (I.hok.fresh (Nat.le_succ _)) (I.hok.fresh (Ww _)) (WX (Xp _))
 have I2:=Inv.made (C:=C) I
 have r2:Vals (V.ref (s.heap.objs.size+1)::(vs++dvs)) (Value.ref (s.heap.objs.size+1)::(us++ds)):=.cons rfl (r.append hd)
 have hl:(Value.ref (s.heap.objs.size+1)::us++ds).length=ps.length:=by
  have e:=r2.length
  rw[F.len _ _ _ _ hq] at e
  exact e.symm
 refine wpAny_call (make_map (f:=f) I.kIn M.makes M.init (Ys.mp M.fn) (YQ (F.run _ X.stack _ _ ⟨Value.ref (s.heap.objs.size+1)::us,[]⟩ (Value.ref (s.heap.objs.size+1)::(us++ds)) _ _ E (hr.make C us [])
  (I2.env0.make C us []) (hb _ (Value.ref (s.heap.objs.size+1)::us) I2.kIn hl) r2 hq) λr s' hq'=>?_))
 cases r with
 | error e=>exact hx pins σ _ _ e s' I2 hq'
 | ok fl =>
  cases fl with
  | ret u =>
   obtain⟨v,H',I3,rv,ev,q3⟩:=I2.after hq'
   subst ev
   exact⟨rv,⟨V.ref (s.heap.objs.size+1),H',I3,rfl,q3⟩⟩
  | next=>exact Wn hq'
  | brk=>exact Wn hq'
  | cont=>exact Wn hq'
theorem Uw(M:Mk X.K C f)(F:cP X.prog X.w X.K X.mg X.base CX k f fd ps sp)(hr:dX (k+1) X.A)(hg:Gl X x)(hm:X.mg x=some (.ref C))(hb:Binds X.K fd ps ds)(hd:Vals dvs ds)(hx:lu CX X E)
  (ha:PA X (e::es) t) (hdb:(x==("__debug__":Str))=false:=by decide) (he:starEach (e::es) X.env=(false,eval e X.env)::starEach es X.env:=by rfl) (hpl:(backTo pos (starEach es X.env)).any (·.1)=false:=by rfl) :
  PE X (.Call (.Name x p) (e::es) [] pos) (Q7 C sp dvs E t):=by
 intro pins s σ H Q I h
 refine XF (yz I hg hm ?_ hdb)
 refine Yi (h₀:=X.base) I.ok.mod.kin M.kp (thn (ha pos pins s σ H _ I h) λus s1 ⟨vs,H1,I1,r,q⟩=>⟨I1.kIn,?_⟩) he hpl
 exact QK M F hr hb hd hx I1 r q
theorem pe_make0(M:Mk X.K C f)(F:cP X.prog X.w X.K X.mg X.base CX k f fd ps sp)(hr:dX (k+1) X.A)(hg:Gl X x)(hm:X.mg x=some (.ref C))(hb:Binds X.K fd ps ds)(hd:Vals dvs ds)(hx:lu CX X E)
  (hdb:(x==("__debug__":Str))=false:=by decide):PE X (.Call (.Name x p) [] [] pos) (Q7 C sp dvs E vI):=by
 intro pins s σ H Q I h
 refine XF (yz I hg hm ?_ hdb)
 exact Zh I.kIn M.kp (QK (us:=[]) M F hr hb hd hx I .nil h)
end
structure aF(N P:List Str)(sc:Scope):Prop where
 kind:sc.kind=.function
 co:sc.isCoroutine=false
 gen:sc.isGenerator=false
 nd:N.Nodup
 pre:N.take P.length=P
 par:∀x∈P,sc.names.lookup x=some .local∨sc.names.lookup x=some .cell
 SJ:∀y∈sc.names,y.2≠.free
theorem IV{kindOf:Str->Option NameKind}{x:Str}:∀{binds:List (Str×Value)}{m:Str->Option Value},(∀v,(x,v)∉binds)->bindL kindOf binds m x=m x
 | [],_,_=>rfl
 | (n,v)::r,m,h=>by
  unfold bindL
  rw[IV λw hw=>h w (WR _ hw)]
  split
  .have:x≠n:=by rintro rfl;exact h v WY
   simp[this]
  .rfl
theorem Iz{kindOf:Str->Option NameKind}{x:Str}:∀{binds:List (Str×Value)}{m:Str->Option Value},(∀v,(x,v)∉binds)->bindC kindOf binds m x=m x
 | [],_,_=>rfl
 | (n,v)::r,m,h=>by
  unfold bindC
  rw[Iz λw hw=>h w (WR _ hw)]
  split
  .rfl
  .have:x≠n:=by rintro rfl;exact h v WY
   simp[this]
theorem IK{kindOf:Str->Option NameKind}{x:Str}{v:Value}:∀{P:List Str}{vs:List Value}{i:Nat}{m:Str->Option Value},P.Nodup->P[i]?=some x->vs[i]?=some v->kindOf x=some .local ->
  bindL kindOf (P.zip vs) m x=some v
 | [],_,_,_,_,h,_,_=>by simp at h
 | _::_,[],_,_,_,_,h,_=>by simp at h
 | p::P,w::vs,0,m,nd,h1,h2,hk=>by
  simp at h1 h2;subst h1;subst h2
  show bindL kindOf ((p,w)::P.zip vs) m p=_
  unfold bindL
  rw[IV λv hv=>(Yy.mp nd).1 (List.of_mem_zip hv).1,Wu hk]
  simp
 | p::P,w::vs,i+1,m,nd,h1,h2,hk=>by
  show bindL kindOf ((p,w)::P.zip vs) m x=_
  unfold bindL
  exact IK (i:=i) (Yy.mp nd).2 (by simpa using h1) (by simpa using h2) hk
theorem Iw{kindOf:Str->Option NameKind}{x:Str}{v:Value}:∀{P:List Str}{vs:List Value}{i:Nat}{m:Str->Option Value},P.Nodup->P[i]?=some x->vs[i]?=some v->kindOf x≠some .local ->
  bindC kindOf (P.zip vs) m x=some v
 | [],_,_,_,_,h,_,_=>by simp at h
 | _::_,[],_,_,_,_,h,_=>by simp at h
 | p::P,w::vs,0,m,nd,h1,h2,hk=>by
  simp at h1 h2;subst h1;subst h2
  show bindC kindOf ((p,w)::P.zip vs) m p=_
  unfold bindC
  rw[Iz λv hv=>(Yy.mp nd).1 (List.of_mem_zip hv).1,WD hk]
  simp
 | p::P,w::vs,i+1,m,nd,h1,h2,hk=>by
  show bindC kindOf ((p,w)::P.zip vs) m x=_
  unfold bindC
  exact Iw (i:=i) (Yy.mp nd).2 (by simpa using h1) (by simpa using h2) hk
def start(N:List Str)(vs:List V):St:=vs.map some++List.replicate (N.length - vs.length) none
def BV(CX:CXT)(P:Program)(w:World)(K:Frag)(mg:Str->Option Value)(base:Heap)(N:List Str)(qual:Str)(scope:Scope)(f:Addr)(cd:Value)(A:Around)(outer:List Env)(s:Shared)(H:Hp)(E:XK):Cx where
 prog:=P
 w:=w
 K:=K
 mg:=mg
 base:=base
 A:=A.deeper (envOfC qual scope s.heap.objs.size f cd)
 N:=N
 s₀:=s
 H₀:=H
 env:=envOfC qual scope s.heap.objs.size f cd
 outer:=outer
 stack:=envOfC qual scope s.heap.objs.size f cd::outer
 ex:=[]
 calm:=true
 fn:=λ_=>true
 pn:=[]
 xe:=λe s'=>wpAny (model P w) (A.deeper (envOfC qual scope s.heap.objs.size f cd)) (leaving (envOfC qual scope s.heap.objs.size f cd) e) (λ_ s''=>CX outer H s E e s'') (λe' s''=>CX outer H s E e' s'') s'
theorem O3{sc:Scope}{n:Nat}{x:Str}(h:sc.names.lookup x=some .cell):∃c,(cellsFrom n sc.names []).lookup x=some c:=by
 have q:=PySem.W.cellsFrom_some sc.names n [] (.inl h)
 exact YW.mp q
theorem Vx{CX:CXT}{P:Program}{w:World}{K:Frag}{mg:Str->Option Value}{base:Heap}{N ps:List Str}{qual:Str}{scope:Scope}{f:Addr}{cd:Value}{A:Around}{outer:List Env}{s s1:Shared}{H:Hp}{E:XK}{us:List Value}{vs:List V}
  (S:aF N ps scope) (hd:A.handled=none) (e0:Env0 P w K mg base A outer s H) (hl:vs.length=ps.length) (r:Vals vs us)
  (x:InCallC s s.heap.objs.size (bindL (envOfC qual scope s.heap.objs.size f cd).kindOf (ps.zip us) λ_=>none) (cellsFrom (s.heap.objs.size+1) scope.names []) (bindC (envOfC qual scope s.heap.objs.size f cd).kindOf (ps.zip us) λ_=>none) s1) :
  Inv (BV CX P w K mg base N qual scope f cd A outer s H E) [] (start N vs) H s1:=by
 have hpl:ps.length<=N.length:=by have:=Xd List.length S.pre;rw[List.length_take] at this;omega
 obtain⟨h1,tk,rfl,hk⟩:=x.done
 have noA:∀b:Addr,b∉(BV CX P w K mg base N qual scope f cd A outer s H E).ex:=λb z=>absurd (show b∈([]:List Addr) from z) (by simp)
 refine⟨⟨e0.mod,S.kind,rfl,rfl,Ww _,λy z c h1 h2=>?_,λy hy=>?_,λy c _ h=>?_,λ_=>hd,Around.frames_deeper e0.frames,.inr ⟨rfl,rfl⟩,λb z=>absurd z (noA b),e0.bs,e0.bsz,λb _ _=>noA b,λb z=>absurd z (noA b),e0.BX,e0.frf⟩,
  rfl,e0.bare,Un.kept hk,⟨_,x.toInCall.ns,λi y v h1 h2 h3=>?_⟩,λy c h=>⟨_,x.cell y c h⟩,e0.hok.fresh (Ww _),λy c h=>?_,λp hp=>absurd (show p∈([]:List (Addr×Obj)) from hp) (by simp),e0.hok.kept hk,?_⟩
 .exact name_of_addr x.apart (XX h1) (XX h2)
 .have hy:scope.names.lookup y=some .cell∨scope.names.lookup y=some .free:=hy
  rcases hy with hy | hy
  .exact O3 hy
  .exact absurd rfl (S.SJ _ (XX hy))
 .exact Nat.le_of_lt (x.above y c (XX h))
 .have hi:i<vs.length:=by
   unfold start at h2
   by_cases hi:i<vs.length
   .exact hi
   .rw[W6 (by simpa using hi)] at h2
    rw[List.getElem?_replicate] at h2
    split at h2 <;> cases h2
  have ha:vs[i]?=some v:=by
   unfold start at h2
   rw[Wz (by simpa using hi),WL] at h2
   cases e:vs[i]? with
   | none=>rw[e] at h2;cases h2
   | some a=>rw[e] at h2;cases h2;rfl
  obtain⟨u,hu,rv⟩:=r.get ha
  have hp:ps[i]?=some y:=by
   rw[←S.pre,List.getElem?_take_of_lt (by omega)];exact h1
  have ndP:ps.Nodup:=by rw[←S.pre];exact S.nd.sublist (List.take_sublist _ _)
  refine⟨u,rv,?_⟩
  rcases S.par y (XJ hp) with k | k
  .exact .inl ⟨k,IK ndP hp hu k⟩
  .obtain⟨c,e⟩:=O3 (n:=s.heap.objs.size+1) k
   refine .inr ⟨.inl k,c,e,?_⟩
   have q:=x.cell y c e
   rw[Iw ndP hp hu (by show scope.names.lookup y≠_;rw[k];decide)] at q
   exact q
 .exact e0.hok.fresh (Nat.le_of_lt (x.above y c (XX h)))
 .unfold start
  show _=N.length
  rw[W0,Wx,List.length_replicate]
  omega
theorem fn_of{CX:CXT}{P:Program}{w:World}{K:Frag}{mg:Str->Option Value}{base:Heap}{k:Nat}{f:Addr}{name qual:Str}{params:Arguments}{body:List Stmt}{scope:Scope}{dV kV doc pm cdv ct oc:Value}{an od:Option Addr}
  {osl:Array (Option Value)} {N ps:List Str} {sp:Sp} (lk:K.lookup f=some ⟨oc,od,.func (PySem.W.fnOf name qual params body scope dV kV doc pm an cdv ct),osl⟩) (hcd:PySem.W.codeIn K cdv qual=true) (S:aF N ps scope)
  (len:∀vs H Q E,sp vs H Q E->vs.length=ps.length)
  (hbody:∀(A:Around)(outer:List Env)(s:Shared)(H:Hp)(vs:List V)(Q:VK)(E:XK),dX k (A.deeper (envOfC qual scope s.heap.objs.size f cdv))->sp vs H Q E ->
   ∃t,PSs (BV CX P w K mg base N qual scope f cdv A outer s H E) body t/\t { nx:=λ_ H'=>Q .non H',rt:=Q } (start N vs) H) :
  cP P w K mg base CX (k+1) f (PySem.W.fnOf name qual params body scope dV kV doc pm an cdv ct) ps sp:=by
 refine⟨len,λA outer s H args us vs Q E hr e0 hb r hsp=>?_⟩
 have hl:=len _ _ _ _ hsp
 have KX:K.In s.heap:=e0.mod.kin.keeps λb o e=>(e0.bs b o e).1
 have lim:s.heap.NoLimit:=e0.mod.nolimit.keeps λb o e=>(e0.bs b o e).1
 have hkind:∀y∈ps.zip us,scope.names.lookup y.1=some .local∨(scope.names.lookup y.1=some .cell/\((cellsFrom (s.heap.objs.size+1) scope.names []).lookup y.1).isSome=true):=λ⟨n,v⟩ hy=>by
  rcases S.par n (List.of_mem_zip hy).1 with q | q
  .exact .inl q
  .exact .inr ⟨q,PySem.W.cellsFrom_some _ _ _ (.inl q)⟩
 refine codeAny_call_function hr.depth (KX _ _ lk) rfl S.co S.gen rfl (PySem.W.codeRec_of KX hcd) (hb _ _ _ _ ?_)
 refine wpAny_newFunctionEnv_cells S.kind hkind λenv he s1 x=>?_
 subst he
 refine⟨lim.keeps x.toInCall.keep,codeAny_func ?_⟩
 obtain⟨t,ht,hq⟩:=hbody A outer s H vs Q E (hr.deeper _) hsp
 have I:Inv (BV CX P w K mg base N qual scope f cdv A outer s H E) [] (start N vs) H s1:=Vx S hr.hd e0 hl r x
 refine Xx (ht [] s1 (start N vs) H _ I hq) (λfl s' hs=>?_) λe s' hs=>hs
 have fin:∀{σ':St}{H':Hp}{v:V}{u:Value},Inv (BV CX P w K mg base N qual scope f cdv A outer s H E) [] σ' H' s'->RelV v u->Q v H'->CE outer P w H s Q u s' :=
  fun{σ' H' v u} J rv q=>⟨v,H',J.os,J.bare,J.base,J.hok,rv,q⟩
 cases fl with
 | ret u =>
  obtain⟨v,σ',H',J,rv,q⟩:=hs
  exact fin J rv q
 | next =>
  obtain⟨σ',H',J,q⟩:=hs
  exact fin (v:=V.non) (u:=Value.none) J rfl q
 | brk =>
  obtain⟨_,_,_,q⟩:=hs
  exact Wn q
 | cont =>
  obtain⟨_,_,_,q⟩:=hs
  exact Wn q
section
variable{X:Cx}{x:Str}{p pos:Pos}{e:Expr}{es:List Expr}{t:TA}{id T:String}{r:List V->Hp->VK->Prop}
def tCB(r:List V->Hp->VK->Prop)(t:TA):TE:=λσ H Q=>t σ H λvs H1=>r vs H1 Q
theorem qz(hc:jX X (.builtin id) r)(hg:Gl X x)(hm:X.mg x=none)(hv:bootBuiltins x=some (.builtin id))(ha:PA X (e::es) t)(hn:x≠"__name__":=by decide)(hdb:(x==("__debug__":Str))=false:=by decide)
  (he:starEach (e::es) X.env=(false,eval e X.env)::starEach es X.env:=by rfl) (hpl:(backTo pos (starEach es X.env)).any (·.1)=false:=by rfl):PE X (.Call (.Name x p) (e::es) [] pos) (tCB r t):=by
 intro pins s σ H Q I h
 refine XF (rZ I hg hm hv ?_ hn hdb)
 exact PyProof.Rows.callWith_builtin1 (thn (ha pos pins s σ H _ I h) λus s1 ⟨vs,H1,I1,r1,q1⟩=>hc pins s1 σ H1 vs us Q I1 r1 q1) he hpl
theorem qC(hc:jX X (.type T) r)(hg:Gl X x)(hm:X.mg x=none)(hv:bootBuiltins x=some (.type T))(ha:PA X (e::es) t)(hn:x≠"__name__":=by decide)(hdb:(x==("__debug__":Str))=false:=by decide)
  (he:starEach (e::es) X.env=(false,eval e X.env)::starEach es X.env:=by rfl) (hpl:(backTo pos (starEach es X.env)).any (·.1)=false:=by rfl):PE X (.Call (.Name x p) (e::es) [] pos) (tCB r t):=by
 intro pins s σ H Q I h
 refine XF (rZ I hg hm hv ?_ hn hdb)
 exact Xl (thn (ha pos pins s σ H _ I h) λus s1 ⟨vs,H1,I1,r1,q1⟩=>hc pins s1 σ H1 vs us Q I1 r1 q1) he hpl
end
end L2
namespace HT
open PySem PyProof.Rows
section
open PySem.SeqAt
open PySem.AutoSeq1 (wpAny_loadPart')
open PySem.MeetsSeq PySem.MeetsSeq2 PySem.MeetsSeq3
end
section
def sIx(n d:Nat):Option Int->Nat
 | none=>d
 | some v=>if v<0 then (v+(n:Int)).toNat else min v.toNat n
theorem QL(n d:Nat):sIx n d none=d:=rfl
theorem UL(n d k:Nat):sIx n d (some (k:Int))=min k n:=by
 show (if (k:Int)<0 then ((k:Int)+(n:Int)).toNat else min (k:Int).toNat n)=min k n
 rw[WD (by omega),Xv]
end
end HT
namespace L2
open PySem PySem.Spec PyProof.Rows
abbrev TO:=St->Hp->(Option Int->Hp->Prop)->Prop
def PO(X:Cx)(e:Option Expr)(t:TO):Prop :=
 ∀(pins:List (Addr×Obj))(s:Shared)(σ:St)(H:Hp)(Q:Option Int->Hp->Prop),Inv X pins σ H s->t σ H Q ->
  wpAny (model X.prog X.w) X.A (evalPart e X.env) (λu s'=>∃o H',Inv X pins σ H' s'/\IsPart u o/\Q o H') X.xe s
def tNoPart:TO:=λ_ H Q=>Q none H
def tPart(t:TE):TO:=λσ H Q=>t σ H λx H1=>∃i,x=.int i/\Q (some i) H1
section
variable{X:Cx}{e:Expr}{te:TE}{lo hi:Option Expr}{tl th:TO}{pos p2:Pos}
theorem po_none:PO X none tNoPart:=by
 intro pins s σ H Q I h
 rw[evalPart_none]
 exact WM ⟨none,H,I,.none,h⟩
theorem po_some(h:PE X e te):PO X (some e) (tPart te):=by
 intro pins s σ H Q I hw
 rw[evalPart_some]
 refine thn (h pins s σ H _ I hw) λu s1 ⟨x,H1,I1,r1,q1⟩=>?_
 obtain⟨i,rfl,q⟩:=q1
 obtain⟨t,rfl⟩:=r1
 exact⟨some i,H1,I1,.int i t,q⟩
def SlR(X:Cx)(r:V->Option Int->Option Int->Hp->VK->Prop):Prop :=
 ∀(pins:List (Addr×Obj))(s:Shared)(σ:St)(H:Hp)(x:V)(v vl vu:Value)(lo hi:Option Int)(sl:Addr)(Q:VK),Inv X pins σ H s->RelV x v->s.heap.IsSliceOf sl vl vu .none->IsPart vl lo->IsPart vu hi->r x lo hi H Q ->
  ∃T id,typeLookup (.type T) "__getitem__"=pure (some (.builtin id))/\s.TypeIs v T/\wpAny (model X.prog X.w) X.A (getItem v (.ref sl)) (EP X pins σ Q) X.xe s
theorem SlR.or{r r':V->Option Int->Option Int->Hp->VK->Prop}(h:SlR X r)(h':SlR X r'):SlR X (λx lo hi H Q=>r x lo hi H Q∨r' x lo hi H Q):=by
 intro pins s σ H x v vl vu lo hi sl Q I rx hs pl pu q
 rcases q with q | q
 .exact h pins s σ H x v vl vu lo hi sl Q I rx hs pl pu q
 .exact h' pins s σ H x v vl vu lo hi sl Q I rx hs pl pu q
def tSl(r:V->Option Int->Option Int->Hp->VK->Prop)(te:TE)(tl th:TO):TE:=λσ H Q=>te σ H λx H1=>tl σ H1 λl H2=>th σ H2 λu H3=>r x l u H3 Q
theorem pe_slice{r:V->Option Int->Option Int->Hp->VK->Prop}(hr:SlR X r)(he:PE X e te)(hl:PO X lo tl)(hu:PO X hi th):PE X (.Subscript e (.Slice lo hi none p2) pos) (tSl r te tl th):=by
 intro pins s σ H Q I h
 refine Subscript_ (thn (he pins s σ H _ I h) λv s1 ⟨x,H1,I1,r1,q1⟩=>?_)
 refine wpAny_Slice (thn (hl pins s1 σ H1 _ I1 q1) λvl s2 ⟨l,H2,I2,pl,q2⟩=>thn (hu pins s2 σ H2 _ I2 q2) λvu s3 ⟨u,H3,I3,pu,q3⟩=>?_)
 rw[evalPart_none]
 refine WM ?_
 have I4:Inv X pins σ H3 { s3 with heap:=s3.heap.push { cls:=.type "slice",data:=.fields #[vl,vu,.none] } }:=I3.kept (t':=s3.toks) λb ob q=>Wt _ q
 obtain⟨T,id,hT,ht,hg⟩:=hr pins { s3 with heap:=s3.heap.push { cls:=.type "slice",data:=.fields #[vl,vu,.none] } } σ H3 x v vl vu l u s3.heap.objs.size Q I4 r1 (Heap.IsSliceOf.new ..) pl pu q3
 show wpAny (model X.prog X.w) X.A (subscriptTail e (.Slice lo hi none p2) v (.ref s3.heap.objs.size)) (EP X pins σ Q) X.xe { s3 with heap:=s3.heap.push { cls:=.type "slice",data:=.fields #[vl,vu,.none] } }
 exact tail_any (ops:=[.ref s3.heap.objs.size,v]) ht hT hg (by with_unfolding_all rfl)
def cutV(xs:List V)(lo hi:Option Int):List V:=(xs.drop (HT.sIx xs.length 0 lo)).take (HT.sIx xs.length xs.length hi - HT.sIx xs.length 0 lo)
theorem O7(xs:List V)(lo hi:Option Int):(cutV xs lo hi).length<=xs.length:=by
 unfold cutV
 rw[List.length_take,List.length_drop]
 omega
end
def ixN(n:Nat)(i:Int):Option Nat:=if 0<=i then (if i<n then some i.toNat else none) else if -(n:Int)<=i then some (i+n).toNat else none
def atI{α:Type}(xs:List α)(i:Int):Option α:=(ixN xs.length i).bind λj=>xs[j]?
theorem Lk{n:Nat}{i:Int}{j:Nat}(h:ixN n i=some j):seqIndex? i n=some j/\j<n/\-(n:Int)<=i/\i<n:=by
 unfold ixN at h
 by_cases h0:0<=i
 .rw[Wu h0] at h
  by_cases h1:i<n
  .rw[Wu h1] at h
   have e:i.toNat=j:=WW h
   exact⟨by rw[seqIndex_of h0 h1,e],by omega,by omega,h1⟩
  .rw[WD h1] at h;cases h
 .rw[WD h0] at h
  by_cases h1:-(n:Int)<=i
  .rw[Wu h1] at h
   have e:(i+n).toNat=j:=WW h
   exact⟨by rw[seqIndex_neg (by omega) h1,e],by omega,h1,by omega⟩
  .rw[WD h1] at h;cases h
theorem Kc{α:Type}{xs:List α}{i:Int}{v:α}(h:atI xs i=some v):∃j,seqIndex? i xs.length=some j/\xs[j]?=some v/\j<xs.length/\-(xs.length:Int)<=i/\i<xs.length:=by
 unfold atI at h
 cases e:ixN xs.length i with
 | none=>rw[e] at h;cases h
 | some j =>
  rw[e] at h
  obtain⟨h1,h2,h3,h4⟩:=Lk e
  exact⟨j,h1,h,h2,h3,h4⟩
theorem g8{α:Type}{xs:List α}{j:Nat}{v:α}(h:xs[j]?=some v):atI xs (j:Int)=some v:=by
 have hj:j<xs.length:=(Ws.mp h).1
 have e:ixN xs.length (j:Int)=some j:=by
  unfold ixN
  rw[Wu (by omega),Wu (by omega)];simp
 unfold atI;rw[e];exact h
def xJ(b:Expr):Prop:=∀o i,subscripted b false o i=operate [o,i] (getItem o i)
def IxR(X:Cx)(r:R2):Prop :=
 ∀(value slice:Expr)(pins:List (Addr×Obj))(s:Shared)(σ:St)(H:Hp)(x y:V)(v u:Value)(Q:VK),Inv X pins σ H s->RelV x v->RelV y u->r x y H Q ->
  subscripted slice false v u=operate [v,u] (getItem v u)->wpAny (model X.prog X.w) X.A (subscriptTail value slice v u) (EP X pins σ Q) X.xe s
def MtR(X:Cx)(id:String)(r:V->List V->Hp->VK->Prop):Prop :=
 ∀(pins:List (Addr×Obj))(s:Shared)(σ:St)(H:Hp)(x:V)(xs:List V)(v:Value)(us:List Value)(Q:VK),Inv X pins σ H s->RelV x v->Vals xs us->r x xs H Q ->
  wpAny (model X.prog X.w) X.A (call (.builtin id) (v::us)) (EP X pins σ Q) X.xe s
section
variable{X:Cx}{a b:Expr}{ta tb:TE}{pos:Pos}
theorem IxR.or{r r':R2}(h:IxR X r)(h':IxR X r'):IxR X (λx y H Q=>r x y H Q∨r' x y H Q):=by
 intro value slice pins s σ H x y v u Q I rx ry q hs
 rcases q with q | q
 .exact h value slice pins s σ H x y v u Q I rx ry q hs
 .exact h' value slice pins s σ H x y v u Q I rx ry q hs
theorem pe_ix{r:R2}(hr:IxR X r)(ha:PE X a ta)(hb:PE X b tb)(hs:xJ b):PE X (.Subscript a b pos) (tOp r ta tb):=by
 intro pins s σ H Q I h
 exact Subscript_ (binT ha hb I h λv u s2 x y H2 I2 rx ry q=>hr a b pins s2 σ H2 x y v u Q I2 rx ry q (hs _ _))
def rIxL(K:Frag):R2:=λx y H Q=>∃p xs i v,x=.ref p/\y=.int i/\SqL K H p xs/\atI xs i=some v/\Q v H
def rIxT(K:Frag):R2:=λx y H Q=>∃p xs i v,x=.ref p/\y=.int i/\SqT K H p xs/\atI xs i=some v/\Q v H
def rIxS:R2:=λx y H Q=>∃z i c,x=.str z/\y=.int i/\z.length<=sizeLine/\atI z.cps.toList i=some c/\Q (.str ⟨#[c]⟩) H
theorem Uk:IxR X (rIxL X.K):=by
 intro value slice pins s σ H x y v u Q I rx ry h hs
 obtain⟨p,xs,i,z,rfl,rfl,hq,he,q⟩:=h
 cases rx
 obtain⟨t,rfl⟩:=ry
 obtain⟨its,r,pl,hz⟩:=I.list hq
 obtain⟨j,h1,h2,h3,h4,h5⟩:=Kc he
 obtain⟨w,ew,rw'⟩:=r.get h2
 have hl:=r.length
 have hn:=wX
 have fin:EP X pins σ Q w s:=⟨z,H,I,rw',q⟩
 by_cases h0:0<=i
 .have hj:i.toNat=j:=by
   rw[seqIndex_of h0 h5] at h1
   exact WW h1
  exact item_listR pl.isList h0 (by omega) (by rw[hj];simpa using ew) fin hs
 .have hj:(i+(its.toArray.size:Int)).toNat=j:=by
   rw[seqIndex_neg (by omega) h4] at h1
   rw[W8,←hl]
   exact WW h1
  exact subscriptTail_builtinR (x:=w) pl.isList.typeIs slot_list_getitem.lookup
   (wpAny_getItem_list_neg (Q:=λr s'=>r=w/\EP X pins σ Q r s') pl.isList (by omega) (by rw[W8] <;> omega) (by omega) (by rw[hj];simpa using ew) ⟨rfl,fin⟩) hs
theorem ix_tup:IxR X (rIxT X.K):=by
 intro value slice pins s σ H x y v u Q I rx ry h hs
 obtain⟨p,xs,i,z,rfl,rfl,hq,he,q⟩:=h
 cases rx
 obtain⟨t,rfl⟩:=ry
 obtain⟨its,r,pl,hz⟩:=I.tuple hq
 obtain⟨j,h1,h2,h3,h4,h5⟩:=Kc he
 obtain⟨w,ew,rw'⟩:=r.get h2
 have hl:=r.length
 have hn:=wX
 have fin:EP X pins σ Q w s:=⟨z,H,I,rw',q⟩
 exact subscriptTail_builtinR (x:=w) pl.typeIs slot_tuple_getitem.lookup
  (getItem_tuple (j:=j) (Q:=λr s'=>r=w/\EP X pins σ Q r s') pl (by omega) (by omega) (by rw[W8,←hl];exact h1) (by simpa using ew) ⟨rfl,fin⟩) hs
theorem ix_str:IxR X rIxS:=by
 intro value slice pins s σ H x y v u Q I rx ry h hs
 obtain⟨z,i,c,rfl,rfl,hz,he,q⟩:=h
 obtain⟨t,rfl⟩:=rx
 obtain⟨t',rfl⟩:=ry
 obtain⟨j,h1,h2,h3,h4,h5⟩:=Kc he
 have hl:z.cps.toList.length=z.length:=by simp[Str.length]
 rw[hl] at h1 h4 h5
 have hn:=wX
 exact tail_any (typeIs_str s z t) slot_str_getitem.lookup (getItem_str (c:=c) (by
  have e1:decide (i < -(2 ^ 63:Int))=false:=Xk (by omega)
  have e2:decide (i≥2 ^ 63)=false:=Xk (by omega)
  rw[e1,e2,Bool.or_false]) (by rw[h1];simpa using h2) ⟨.str ⟨#[c]⟩,H,I.tok _,⟨_,rfl⟩,q⟩) hs
def rIx(K:Frag):R2:=λx y H Q=>rIxL K x y H Q∨rIxT K x y H Q∨rIxS x y H Q
theorem Sd:IxR X (rIx X.K):=Uk.or (ix_tup.or ix_str)
theorem Ss(its:List Value)(n j:Nat)(u:Value):Obj.mapSeq (·.setIfInBounds j u) { cls:=.type "list",data:=.seq its.toArray n }={ cls:=.type "list",data:=.seq (its.set j u).toArray n }:=by
 simp[Obj.mapSeq]
theorem Inv.lst{pins:List (Addr×Obj)}{σ:St}{H:Hp}{s:Shared}{p:Addr}{xs:List V}(I:Inv X pins σ H s)(h:H p=some (.lst xs)):
  ∃(its:List Value)(n:Nat),Vals xs its/\s.heap.get? p=some { cls:=.type "list",data:=.seq its.toArray n }/\xs.length<=sizeLine:=by
 obtain⟨z,its,n,r,e⟩:=I.hok p _ h
 exact⟨its,n,r,e,z⟩
theorem Inv.lstUpd{pins:List (Addr×Obj)}{σ:St}{H:Hp}{s:Shared}{p:Addr}{xs ys:List V}{its its':List Value}{n n':Nat}{f:Obj->Obj}(I:Inv X pins σ H s)(h:H p=some (.lst xs))
  (ho:s.heap.get? p=some { cls:=.type "list",data:=.seq its.toArray n }) (hf:f { cls:=.type "list",data:=.seq its.toArray n }={ cls:=.type "list",data:=.seq its'.toArray n' }) (r:Vals ys its') (hz:ys.length<=sizeLine) (t:Nat) :
  Inv X pins σ (upd H p (.lst ys)) { s with heap:=s.heap.update p f,toks:=t }:=by
 have e:(s.heap.update p f).get? p=some { cls:=.type "list",data:=.seq its'.toArray n' }:=by
  rw[Heap.get?_update_self f ho (by rw[hf] <;> rfl),hf]
 refine I.write (x:=p) (e:=p) (by rw[h];trivial) (.inl rfl) (λb u hb q=>(Heap.get?_update_other _ _ (XH hb)).trans q) ⟨_,e⟩ ?_
 exact⟨hz,its',n',r,e⟩
def rSetL:V->V->V->Hp->(Hp->Prop)->Prop:=λo i v H Q=>∃p xs k j,o=.ref p/\i=.int k/\H p=some (.lst xs)/\ixN xs.length k=some j/\Q (upd H p (.lst (xs.set j v)))
theorem set_list:PSet X rSetL:=by
 intro pins s σ H o i v ov iv u Q I ro ri rv h
 obtain⟨p,xs,k,j,rfl,rfl,hp,hj,q⟩:=h
 cases ro
 obtain⟨t,rfl⟩:=ri
 obtain⟨its,n,r,ho,hz⟩:=I.lst hp
 obtain⟨h1,h2,h3,h4⟩:=Lk hj
 have hl:=r.length
 have hn:=wX
 have I':Inv X pins σ (upd H p (.lst (xs.set j v))) { s with heap:=s.heap.update p (Obj.mapSeq (·.setIfInBounds j u)) } :=
  I.lstUpd hp ho (Ss its n j u) (r.set rv j) (by rw[Xc];exact hz) s.toks
 by_cases h0:0<=k
 .have hk:k.toNat=j:=by
   rw[seqIndex_of h0 h4] at h1
   exact WW h1
  exact PySem.W.ki_setAt ho h0 (by omega) (by rw[W8,←hl];exact h4) (by rw[hk];exact⟨_,I',q⟩)
 .have hk:(k+(its.toArray.size:Int)).toNat=j:=by
   rw[seqIndex_neg (by omega) h3] at h1
   rw[W8,←hl]
   exact WW h1
  exact PySem.W.ki_setBack ho (by omega) (by rw[W8,←hl];exact h3) (by omega) (by rw[hk];exact⟨_,I',q⟩)
theorem Nm(lo hi:Option Int)(n:Nat):(sliceBounds lo hi none n).1=((HT.sIx n 0 lo:Nat):Int)/\(sliceBounds lo hi none n).2.1=((HT.sIx n n hi:Nat):Int)/\(sliceBounds lo hi none n).2.2=1:=by
 refine⟨?_,?_,rfl⟩
 .cases lo with
  | none=>simp[sliceBounds,HT.sIx]
  | some i =>
   simp only[sliceBounds,HT.sIx,Option.getD_none,show (1:Int)>0 by decide,if_true]
   by_cases h:i<0
   .simp only[h,if_true] <;> omega
   .simp only[h,if_false] <;> omega
 .cases hi with
  | none=>simp[sliceBounds,HT.sIx]
  | some i =>
   simp only[sliceBounds,HT.sIx,Option.getD_none,show (1:Int)>0 by decide,if_true]
   by_cases h:i<0
   .simp only[h,if_true] <;> omega
   .simp only[h,if_false] <;> omega
theorem Ig(its:List Value)(lo hi:Option Int):slicePick its.toArray lo hi none=((its.drop (HT.sIx its.length 0 lo)).take (HT.sIx its.length its.length hi - HT.sIx its.length 0 lo)).toArray:=by
 obtain⟨h1,h2,h3⟩:=Nm lo hi its.toArray.size
 unfold slicePick
 rw[h1,h2,h3]
 simp only[sliceRange_one,pick_run,List.size_toArray] <;> rfl
def rSlL(K:Frag):V->Option Int->Option Int->Hp->VK->Prop:=λx lo hi H Q=>∃a xs,x=.ref a/\SqL K H a xs/\∀p,H p=none->Q (.ref p) (upd H p (.lst (cutV xs lo hi)))
theorem sl_list:SlR X (rSlL X.K):=by
 intro pins s σ H x v vl vu lo hi sl Q I rx hs pl pu h
 obtain⟨a,xs,rfl,hx,q⟩:=h
 cases rx
 obtain⟨its,r,ht,hz⟩:=I.list hx
 have hlen:=r.length
 refine⟨"list",_,slot_list_getitem.lookup,ht.isList.typeIs,?_⟩
 refine wpAny_getItem_list_slice ht.isList hs pl pu .none (by simp) ?_ (by rw[W8] <;> omega)
 rw[Ig,←hlen]
 refine⟨.ref s.heap.objs.size,_,I.laid (t':=s.toks) (o:=.lst (cutV xs lo hi)) (λb ob q=>Wt _ q) (Ww _) ?_,rfl,q _ (I.hok.fresh (Ww _))⟩
 exact⟨W5 (O7 xs lo hi) hz,_,0,(r.drop (HT.sIx xs.length 0 lo)).take (HT.sIx xs.length xs.length hi - HT.sIx xs.length 0 lo),WK _ rfl⟩
def ud:V->Bool
 | .non=>true
 | .bl _=>true
 | .int _=>true
 | .str _=>true
 | _=>false
def eqV:V->V->Bool
 | .non,.non=>true
 | .bl a,.bl b=>a==b
 | .bl a,.int b=>(if a then 1 else 0)==b
 | .int a,.bl b=>a==(if b then 1 else 0)
 | .int a,.int b=>a==b
 | .str a,.str b=>a==b
 | _,_=>false
theorem eqAt_V{A:Around}{s:Shared}{y x:V}{u v:Value}(ry:RelV y u)(rx:RelV x v)(fy:ud y=true)(fx:ud x=true):SeqAt.EqAt A s u v (eqV y x):=by
 cases y with
 | non =>
  cases ry
  cases x with
  | non=>cases rx;exact SeqAt.EqAt.same _
  | bl b=>cases rx;exact SeqAt.EqAt.none_bool b
  | int b=>obtain⟨t,rfl⟩:=rx;exact SeqAt.EqAt.none_int b t
  | str b=>obtain⟨t,rfl⟩:=rx;exact SeqAt.EqAt.none_str b t
  | _=>exact absurd (show false=true from fx) Wv
 | bl a =>
  cases ry
  cases x with
  | non=>cases rx;exact SeqAt.EqAt.bool_none a
  | bl b=>cases rx;exact SeqAt.EqAt.bool_bool a b
  | int b=>obtain⟨t,rfl⟩:=rx;exact SeqAt.EqAt.bool_int a b t
  | str b=>obtain⟨t,rfl⟩:=rx;exact SeqAt.EqAt.bool_str a b t
  | _=>exact absurd (show false=true from fx) Wv
 | int a =>
  obtain⟨t',rfl⟩:=ry
  cases x with
  | non=>cases rx;exact SeqAt.EqAt.int_none a t'
  | bl b=>cases rx;exact SeqAt.EqAt.int_bool a t' b
  | int b=>obtain⟨t,rfl⟩:=rx;exact SeqAt.EqAt.int_int a t' b t
  | str b=>obtain⟨t,rfl⟩:=rx;exact SeqAt.EqAt.int_str a t' b t
  | _=>exact absurd (show false=true from fx) Wv
 | str a =>
  obtain⟨t',rfl⟩:=ry
  cases x with
  | non=>cases rx;exact SeqAt.EqAt.str_none a t'
  | bl b=>cases rx;exact SeqAt.EqAt.str_bool a t' b
  | int b=>obtain⟨t,rfl⟩:=rx;exact SeqAt.EqAt.str_int a t' b t
  | str b=>obtain⟨t,rfl⟩:=rx;exact SeqAt.EqAt.str_str a t' b t
  | _=>exact absurd (show false=true from fx) Wv
 | _=>exact absurd (show false=true from fy) Wv
def eqU(x:V)(u:Value):Bool:=match u with
 | .none=>eqV .non x
 | .bool b=>eqV (.bl b) x
 | .int i _=>eqV (.int i) x
 | .str z _=>eqV (.str z) x
 | _=>false
theorem eqU_of{x y:V}{u:Value}(r:RelV y u)(f:ud y=true):eqU x u=eqV y x:=by
 cases y with
 | non=>cases r;rfl
 | bl b=>cases r;rfl
 | int i=>obtain⟨t,rfl⟩:=r;rfl
 | str z=>obtain⟨t,rfl⟩:=r;rfl
 | _=>exact absurd (show false=true from f) Wv
theorem Ka{x:V}:∀{xs:List V}{us:List Value},Vals xs us->xs.all ud=true->us.any (eqU x)=xs.any λy=>eqV y x
 | _,_,.nil,_=>rfl
 | y::xs,u::us,.cons r t,f=>by
  rw[Yw,X3] at f
  rw[XS,XS,eqU_of r f.1,Ka t f.2]
theorem Fg{A:Around}{s:Shared}{x:V}{v:Value}(rx:RelV x v)(fx:ud x=true):∀{xs:List V}{us:List Value},Vals xs us->xs.all ud=true->∀u∈us,SeqAt.EqAt A s u v (eqU x u)
 | _,_,.nil,_=>λu hu=>by cases hu
 | y::xs,u::us,.cons r t,f=>λu' hu=>by
  rw[Yw,X3] at f
  rcases W9.mp hu with rfl | hu
  .rw[eqU_of r f.1];exact eqAt_V r rx f.1 fx
  .exact Fg rx fx t f.2 u' hu
def inV(x:V)(xs:List V):Bool:=xs.any λy=>eqV y x
def rIn(K:Frag)(neg:Bool):R2:=λx y H Q=>∃p xs,y=.ref p/\(SqL K H p xs∨SqT K H p xs)/\ud x=true/\xs.all ud=true/\Q (.bl (if neg then !inV x xs else inV x xs)) H
theorem VV:OpR X (compareOp .In) (rIn X.K false):=by
 intro pins s σ H x y v u Q I rx ry h
 obtain⟨p,xs,rfl,hq,fx,fs,q⟩:=h
 cases ry
 rcases hq with hq | hq
 .obtain⟨its,r,pl,hz⟩:=I.list hq
  refine SeqAt.in_listAt (eqU x) pl.isList (λw hw=>Fg rx fx r fs w (by simpa using hw)) ⟨.bl _,H,I,rfl,?_⟩
  rw[show its.toArray.any (eqU x)=its.any (eqU x) by simp,Ka r fs]
  exact q
 .obtain⟨its,r,pl,hz⟩:=I.tuple hq
  refine SeqAt.in_tupleAt (eqU x) pl (λw hw=>Fg rx fx r fs w (by simpa using hw)) ⟨.bl _,H,I,rfl,?_⟩
  rw[show its.toArray.any (eqU x)=its.any (eqU x) by simp,Ka r fs]
  exact q
theorem Kw:jX X (.builtin "len") (λxs H Q=>∃p ys,xs=[.ref p]/\(SqL X.K H p ys∨SqT X.K H p ys)/\Q (.int ys.length) H):=by
 intro pins s σ H xs us Q I r h
 obtain⟨p,ys,rfl,hq,q⟩:=h
 obtain⟨u,rfl,rx⟩:=vals1 r
 cases rx
 have hn:=wX
 rcases hq with hq | hq
 .obtain⟨its,r',pl,hz⟩:=I.list hq
  have hlen:=r'.length
  exact Calls.call_len_list pl.isList (by simp only[List.size_toArray] <;> omega) ⟨.int ys.length,H,I.tok _,⟨s.toks+1,by rw[W8,hlen]⟩,q⟩
 .obtain⟨its,r',pl,hz⟩:=I.tuple hq
  have hlen:=r'.length
  exact len_tuple pl (by simp only[List.size_toArray] <;> omega) ⟨.int ys.length,H,I.tok _,⟨s.toks+1,by rw[W8,hlen]⟩,q⟩
theorem Ky:jX X (.builtin "len") (λxs H Q=>∃z,xs=[.str z]/\z.length<=sizeLine/\Q (.int z.length) H):=by
 intro pins s σ H xs us Q I r h
 obtain⟨z,rfl,hz,q⟩:=h
 obtain⟨u,rfl,t,rfl⟩:=vals1 r
 have hn:=wX
 exact len_str (by omega) ⟨.int z.length,H,I.tok _,⟨_,rfl⟩,q⟩
theorem jX.or{f:Value}{r r':List V->Hp->VK->Prop}(h:jX X f r)(h':jX X f r'):jX X f (λxs H Q=>r xs H Q∨r' xs H Q):=by
 intro pins s σ H xs us Q I rs q
 rcases q with q | q
 .exact h pins s σ H xs us Q I rs q
 .exact h' pins s σ H xs us Q I rs q
theorem xT:jX X (.type "list") (λxs H Q=>∃p ys,xs=[.ref p]/\(SqL X.K H p ys∨SqT X.K H p ys)/\∀l,H l=none->Q (.ref l) (upd H l (.lst ys))):=by
 intro pins s σ H xs us Q I r h
 obtain⟨p,ys,rfl,hq,q⟩:=h
 obtain⟨u,rfl,rx⟩:=vals1 r
 cases rx
 have fin:∀(its:List Value),Vals ys its->ys.length<=sizeLine->∀(h':Heap)(c':Nat),(∀b o',s.heap.get? b=some o'->h'.get? b=some o') ->
   h'.get? s.heap.objs.size=some { cls:=.type "list",dict:=none,data:=.seq its.toArray c',slots:=#[] }->EP X pins σ Q (.ref s.heap.objs.size) { s with heap:=h' }:=λits r' hz h' c' kp e =>
  ⟨.ref s.heap.objs.size,_,I.laid (t':=s.toks) kp (Ww _) (show dF X.prog X.w _ h' _ (.lst ys) from ⟨hz,its,c',r',e⟩),rfl,q _ (I.hok.fresh (Ww _))⟩
 rcases hq with hq | hq
 .obtain⟨its,r',pl,hz⟩:=I.list hq
  have hlen:=r'.length
  obtain⟨o,ho,hc,n,hd⟩:=pl.isList
  exact call_list_seq p (.inl rfl) ho hc hd (λh' c' kp e=>fin its r' hz h' c' kp e) (by simp only[List.size_toArray] <;> omega)
 .obtain⟨its,r',pl,hz⟩:=I.tuple hq
  have hlen:=r'.length
  obtain⟨o,ho,hc,n,hd⟩:=pl
  exact call_list_seq p (.inr rfl) ho hc hd (λh' c' kp e=>fin its r' hz h' c' kp e) (by simp only[List.size_toArray] <;> omega)
theorem Hi:jX X (.type "tuple") (λxs H Q=>∃p ys,xs=[.ref p]/\((SqL X.K H p ys/\∀l,H l=none->Q (.ref l) (upd H l (.tup ys)))∨(SqT X.K H p ys/\Q (.ref p) H))):=by
 intro pins s σ H xs us Q I r h
 obtain⟨p,ys,rfl,h⟩:=h
 obtain⟨u,rfl,rx⟩:=vals1 r
 cases rx
 rcases h with⟨hq,q⟩| ⟨hq,q⟩
 .obtain⟨its,r',pl,hz⟩:=I.list hq
  have hlen:=r'.length
  refine call_tuple_list pl.isList (λh' kp=>?_) (by simp only[List.size_toArray] <;> omega)
  have I1:Inv X pins σ H { s with heap:=h' }:=I.kept (t':=s.toks) kp
  have I2:Inv X pins σ (upd H h'.objs.size (.tup ys)) { s with heap:=h'.push { cls:=.type "tuple",data:=.seq its.toArray } } :=
   I1.laid (t':=s.toks) (λb o e=>Wt _ e) (Ww _) (show dF X.prog X.w _ _ _ (.tup ys) from ⟨hz,its,r',IsTup.new _ _⟩)
  exact⟨.ref h'.objs.size,_,I2,rfl,q _ (I1.hok.fresh (Ww _))⟩
 .obtain⟨its,r',pl,hz⟩:=I.tuple hq
  exact call_tuple_same pl ⟨.ref p,H,I,rfl,q⟩
def tyV(K:Frag)(T:String)(x:V)(H:Hp):Prop:=match x with
 | .str _=>T="str"
 | .int _=>T="int"
 | .ref p=>(T="list"/\∃xs,SqL K H p xs)∨(T="tuple"/\∃o,K.lookup p=some o/\o.cls=.type "tuple"/\o.dict=none) ∨
   (T="dict"/\((∃kvs,H p=some (.dK kvs))∨∃kvs,H p=some (.dT kvs)))∨(T="set"/\∃S n,H p=some (.set S n))
 | _=>False
theorem tyV_is{pins:List (Addr×Obj)}{σ:St}{H:Hp}{s:Shared}{T:String}{x:V}{v:Value}(I:Inv X pins σ H s)(r:RelV x v)(ty:tyV X.K T x H):
  s.TypeIs v T/\∀a,v=.ref a->∃ob,s.heap.get? a=some ob/\ob.dict=none:=by
 cases x with
 | str z =>
  obtain⟨t,rfl⟩:=r
  cases (show T="str" from ty)
  exact⟨typeIs_str s z t,λ_ e=>nomatch e⟩
 | int i =>
  obtain⟨t,rfl⟩:=r
  cases (show T="int" from ty)
  exact⟨typeIs_int s i t,λ_ e=>nomatch e⟩
 | ref p =>
  cases r
  rcases ty with⟨rfl,xs,hq⟩| ⟨rfl,o,hk,hc,hd⟩| ⟨rfl,hk⟩| ⟨rfl,S,n,hk⟩
  .obtain⟨its,_,pl,_⟩:=I.list hq
   refine⟨pl.isList.typeIs,λa e=>?_⟩
   cases e
   obtain⟨o,n,e,c,hd,_⟩:=pl
   exact⟨o,e,hd⟩
  .refine⟨⟨o,I.kIn p o hk,hc⟩,λa e=>?_⟩
   cases e
   exact⟨o,I.kIn _ o hk,hd⟩
  .have z:∃o,s.heap.get? p=some o/\o.ExactDict:=by
    rcases hk with⟨kvs,hk⟩| ⟨kvs,hk⟩
    .obtain⟨_,_,_,_,o,_,_,e,ex,_⟩:=I.hok p _ hk
     exact⟨o,e,ex⟩
    .obtain⟨_,_,_,_,o,_,_,e,ex,_⟩:=I.hok p _ hk
     exact⟨o,e,ex⟩
   obtain⟨o,e,ex⟩:=z
   refine⟨⟨o,e,ex.1⟩,λa e2=>?_⟩
   cases e2
   exact⟨o,e,ex.2.1⟩
  .obtain⟨o,_,_,_,e,ex,_⟩:=I.hok p _ hk
   refine⟨⟨o,e,ex.1⟩,λa e2=>?_⟩
   cases e2
   exact⟨o,e,ex.2.1⟩
 | _=>exact Wn ty
def tBM0(K:Frag)(T:String)(r:V->List V->Hp->VK->Prop)(to:TE):TE:=λσ H Q=>to σ H λx H1=>tyV K T x H1/\r x [] H1 Q
def tBM(K:Frag)(T:String)(r:V->List V->Hp->VK->Prop)(to:TE)(t:TA):TE:=λσ H Q=>to σ H λx H1=>tyV K T x H1/\t σ H1 λxs H2=>r x xs H2 Q
variable{o e:Expr}{es:List Expr}{to:TE}{t:TA}{name:Str}{apos cpos:Pos}{T id:String}{r:V->List V->Hp->VK->Prop}
theorem pe_bm0(pa:PlainAttrs T)(slot:Slot T name id)(hty:typeOf (.builtin id)=pure (.type "method_descriptor"))(hm:MtR X id r)(ho:PE X o to)
  (hbase:attributeBase o name X.env (eval o X.env)=eval o X.env:=by rfl) (hline:(apos.endLine==cpos.line)=true:=by rfl):PE X (.Call (.Attribute o name apos) [] [] cpos) (tBM0 X.K T r to):=by
 intro pins s σ H Q I h
 refine wpAny_Call_method0_late hbase hline (thn (ho pins s σ H _ I h) λv s1 ⟨x,H1,I1,r1,ty,q1⟩=>?_)
 obtain⟨h1,h2⟩:=tyV_is I1 r1 ty
 exact⟨T,id,pa,slot,hty,h1,h2,Zj rfl (PySem.evalArgs_none (hm pins s1 σ H1 x [] v [] Q I1 r1 .nil q1))⟩
theorem pe_bm(pa:PlainAttrs T)(slot:Slot T name id)(hty:typeOf (.builtin id)=pure (.type "method_descriptor"))(hm:MtR X id r)(ho:PE X o to)(ha:PA X (e::es) t)
  (hbase:attributeBase o name X.env (eval o X.env)=eval o X.env:=by rfl)
  (hfew:((backTo cpos (starEach (e::es) X.env)).all (λx=>!x.1) && (backToKw cpos (keywordEach [] X.env)).all (λx=>x.1.isSome)
   && decide ((e::es).length+([]:List Keyword).length+(if ([]:List Keyword).isEmpty then 0 else 1)<30))=true:=by rfl)
  (hline:(apos.endLine==cpos.line)=true:=by rfl) (hs:starEach (e::es) X.env=(false,eval e X.env)::starEach es X.env:=by rfl) (hplain:(backTo cpos (starEach es X.env)).any (·.1)=false:=by rfl) :
  PE X (.Call (.Attribute o name apos) (e::es) [] cpos) (tBM X.K T r to t):=by
 intro pins s σ H Q I h
 refine wpAny_Call_method_late hbase hfew hline rfl (thn (ho pins s σ H _ I h) λv s1 ⟨x,H1,I1,r1,ty,q1⟩=>?_)
 obtain⟨h1,h2⟩:=tyV_is I1 r1 ty
 refine⟨T,id,pa,slot,hty,h1,h2,?_⟩
 have hA:=ha cpos pins s1 σ H1 _ I1 q1
 rw[hs] at hA ⊢
 refine Zj (by show (false || (backTo cpos (starEach es X.env)).any (·.1))=false;rw[hplain] <;> rfl) (Calls.evalArgs_plain ?_)
 exact thn hA λus s2 ⟨vs,H2,I2,r2,q2⟩=>hm pins s2 σ H2 x vs v us Q I2 r1 r2 q2
end
def MtM(X:Cx)(id:String)(r:V->List V->Hp->VK->Prop):Prop :=
 ∀(pins:List (Addr×Obj))(s:Shared)(σ:St)(H:Hp)(x:V)(xs:List V)(v:Value)(us:List Value)(Q:VK),Inv X pins σ H s->RelV x v->Vals xs us->r x xs H Q ->
  wpAny (model X.prog X.w) X.A (call (.builtin id) (v::us)) (EP X pins σ Q) X.xe s
theorem Vals.one:∀{x:V}{us:List Value},Vals [x] us->∃u,us=[u]/\RelV x u
 | _,_,.cons r .nil=>⟨_,rfl,r⟩
theorem Vals.zero:∀{us:List Value},Vals [] us->us=[]
 | _,.nil=>rfl
theorem Vals.reverse{xs:List V}{us:List Value}(h:Vals xs us):Vals xs.reverse us.reverse:=by
 induction h with
 | nil=>exact .nil
 | cons r t ih=>rw[YL,YL];exact Vals.append ih (.cons r .nil)
theorem Vals.rep{xs:List V}{us:List Value}(h:Vals xs us):∀k:Nat,Vals (List.replicate k xs).flatten (List.replicate k us).flatten
 | 0=>.nil
 | k+1=>by
  rw[Xm,Xm,XN,XN]
  exact Vals.append h (Vals.rep h k)
theorem foldl_rep(its:List Value):∀(k:Nat)(acc:List Value),
  List.foldl (λx1 x2=>x1++x2) acc.toArray (List.replicate k its.toArray)=(acc++(List.replicate k its).flatten).toArray
 | 0,acc=>by simp
 | k+1,acc=>by
  have e:acc.toArray++its.toArray=(acc++its).toArray:=by simp
  have e2:(acc++its)++(List.replicate k its).flatten=acc++(List.replicate (k+1) its).flatten:=by
   rw[Xm,XN,Xu]
  rw[←e2,←foldl_rep its k (acc++its),←e,Xm,List.foldl_cons]
section
variable{X:Cx}{pins:List (Addr×Obj)}{σ:St}{H:Hp}{s:Shared}{l:Addr}{xs ys:List V}
theorem Inv.lset{its its':List Value}{n:Nat}{f:Array Value->Array Value}{t':Nat}(I:Inv X pins σ H s)(hH:H l=some (.lst xs))
  (e:s.heap.get? l=some { cls:=.type "list",data:=.seq its.toArray n }) (hf:f its.toArray=its'.toArray) (hv:Vals ys its') (hz:ys.length<=sizeLine) :
  Inv X pins σ (upd H l (.lst ys)) { s with heap:=s.heap.update l (Obj.mapSeq f),toks:=t' }:=by
 have q:=PySem.IsL.update e f
 rw[hf] at q
 refine I.write (x:=l) (e:=l) (by rw[hH];exact trivial) (.inl rfl) (λb' u hb hu=>(Heap.get?_update_other s.heap (Obj.mapSeq f) (XH hb)).trans hu) ⟨_,q⟩ ?_
 exact⟨hz,its',_,hv,q⟩
theorem Inv.lnew{its:List Value}{t':Nat}(I:Inv X pins σ H s)(hv:Vals ys its)(hz:ys.length<=sizeLine):
  Inv X pins σ (upd H s.heap.objs.size (.lst ys)) { s with heap:=s.heap.push { cls:=.type "list",data:=.seq its.toArray },toks:=t' } :=
 I.laid (λ_ _ q=>Wt _ q) (Ww _) ⟨hz,its,0,hv,WK _ rfl⟩
theorem Inv.fresh(I:Inv X pins σ H s):H s.heap.objs.size=none:=I.hok.fresh (Ww _)
theorem Inv.lstM(I:Inv X pins σ H s)(hH:H l=some (.lst xs)):xs.length<=sizeLine/\∃(its:List Value)(n:Nat),Vals xs its/\xs.length=its.length/\s.heap.get? l=some { cls:=.type "list",data:=.seq its.toArray n }:=by
 obtain⟨z,its,n,r,e⟩:=I.hok l _ hH
 exact⟨z,its,n,r,r.length,e⟩
theorem notLongL{n:Nat}(h:n<=sizeLine):Builtin.List.listTooLong n=false:=by
 unfold Builtin.List.listTooLong
 exact Xk (by omega)
end
section
variable{X:Cx}
def sI:V->List V->Hp->VK->Prop:=λx vs H Q=>∃l xs y,x=.ref l/\vs=[y]/\H l=some (.lst xs)/\xs.length<sizeLine/\Q .non (upd H l (.lst (xs++[y])))
theorem v5:MtM X "list.append" sI:=by
 intro pins s σ H x vs v us Q I rx rv h
 obtain⟨l,xs,y,rfl,rfl,hH,hz,q⟩:=h
 cases rx
 obtain⟨u,rfl,ru⟩:=rv.one
 obtain⟨z,its,n,r,hl,e⟩:=I.lstM hH
 refine call_meets F.slot_list_append ⟨_,e,rfl⟩ F.entry_list_append (F.args_list_append_2 _ _) (PySem.list_append l its.toArray n u (by rw[W8];omega)) ⟨e,?_⟩
 refine⟨.non,_,I.lset (its':=its++[u]) hH e (by simp) (r.append (.cons ru .nil)) ?_,rfl,q⟩
 rw[W0,Xz]
 omega
def Qw:V->List V->Hp->VK->Prop:=λx vs H Q=>∃l xs,x=.ref l/\vs=[]/\H l=some (.lst xs)/\Q .non (upd H l (.lst xs.reverse))
theorem Sv:MtM X "list.reverse" Qw:=by
 intro pins s σ H x vs v us Q I rx rv h
 obtain⟨l,xs,rfl,rfl,hH,q⟩:=h
 cases rx
 have hus:=rv.zero
 subst hus
 obtain⟨z,its,n,r,hl,e⟩:=I.lstM hH
 refine call_meets F.slot_list_reverse ⟨_,e,rfl⟩ F.entry_list_reverse (F.args_list_reverse_1 _) (AutoSeq1.list_reverse_list_0 l its.toArray n (by rw[W8];omega)) ⟨e,?_⟩
 refine⟨.non,_,I.lset (its':=its.reverse) hH e (by simp) r.reverse ?_,rfl,q⟩
 rw[List.length_reverse]
 omega
def rCat:R2:=λx y H Q=>∃l b xs zs,x=.ref l/\y=.ref b/\H l=some (.lst xs)/\H b=some (.lst zs)/\xs.length+zs.length<=sizeLine/\∀p,H p=none->Q (.ref p) (upd H p (.lst (xs++zs)))
theorem op_cat:OpR X (binaryOp .Add) rCat:=by
 intro pins s σ H x y v u Q I rx ry h
 obtain⟨l,b,xs,zs,rfl,rfl,hH,hB,hz,q⟩:=h
 cases rx
 cases ry
 obtain⟨z,its,n,r,hl,e⟩:=I.lstM hH
 obtain⟨z2,its2,n2,r2,hl2,e2⟩:=I.lstM hB
 refine PySem.P.add_list e e2 ?_ (by rw[W8,W8];omega)
 have ea:its.toArray++its2.toArray=(its++its2).toArray:=by simp
 rw[ea]
 exact⟨.ref _,_,I.lnew (t':=s.toks) (r.append r2) (by rw[W0];omega),rfl,q _ I.fresh⟩
def rRep:R2:=λx y H Q=>∃l k xs,x=.ref l/\y=.int k/\H l=some (.lst xs)/\-(2 ^ 63)<=k/\k<2 ^ 63/\xs.length*k.toNat<=sizeLine /\
 ∀p,H p=none->Q (.ref p) (upd H p (.lst (List.replicate k.toNat xs).flatten))
theorem len_rep{α:Type}(xs:List α)(k:Nat):(List.replicate k xs).flatten.length=k*xs.length:=by
 induction k with
 | zero=>simp
 | succ k ih=>rw[Xm,XN,W0,ih,Nat.succ_mul,Nat.add_comm]
theorem op_rep:OpR X (binaryOp .Mult) rRep:=by
 intro pins s σ H x y v u Q I rx ry h
 obtain⟨l,k,xs,rfl,rfl,hH,h1,h2,hz,q⟩:=h
 cases rx
 obtain⟨t,rfl⟩:=ry
 obtain⟨z,its,n,r,hl,e⟩:=I.lstM hH
 have hlen:its.toArray.size*k.toNat<=sizeLine:=by rw[W8,←hl];exact hz
 have hcap:¬its.toArray.size*k.toNat>(2 ^ 63 - 1) / 8:=by
  have:(sizeLine:Nat)<=(2 ^ 63 - 1) / 8:=by decide
  omega
 have hfit:¬(!Builtin.List.listFitsIndex k)=true:=by
  rw[fitsIndex_both h1 h2]
  exact Wv
 have hlong:¬Builtin.List.listTooLong (its.toArray.size*k.toNat)=true:=by
  rw[notLongL hlen]
  exact Wv
 have hnew:List.foldl (λx1 x2=>x1++x2) #[] (List.replicate (if its.toArray.isEmpty=true then 0 else k.toNat) its.toArray)=(List.replicate k.toNat its).flatten.toArray:=by
  have f0:∀m:Nat,List.foldl (λx1 x2=>x1++x2) #[] (List.replicate m its.toArray)=(List.replicate m its).flatten.toArray:=λm=>by
   have:=foldl_rep its m []
   rw[Zt] at this
   exact this
  rw[f0]
  cases its with
  | nil=>simp
  | cons a r'=>rw[WD (by simp)]
 refine wpAny_binaryOp_repeat_ref (T:="list") (U:="int") (by decide) ⟨_,e,rfl⟩ (λs'=>typeIs_int s' k t) noFill_list_mul F.fills_int_mul F.slot_int_rmul repeat_list F.slot_int_index.lookup
  (call_meets F.slot_int_rmul (typeIs_int s k t) F.entry_int_rmul (F.args_int_rmul_2 _ _) (int___rmul___int_list k t l its.toArray n)
   ⟨e,rfl,⟨_,e,rfl⟩,call_meets F.slot_list_mul ⟨_,e,rfl⟩ F.entry_list_mul (F.args_list_mul_2 _ _) (AutoListH.list___mul___list_int_3 l its.toArray n k t hfit hcap hlong) ⟨e,?_⟩⟩)
 rw[hnew]
 exact⟨.ref _,_,I.lnew (t':=s.toks) (r.rep k.toNat) (by rw[len_rep,Nat.mul_comm];exact hz),rfl,q _ I.fresh⟩
end
end L2
namespace Att
open PySem PySem.W PySem.Calls PyProof.Rows
theorem BZ{P:Params}{h:Heap}:∀(ns:List Int)(vs:List Value),WellAll P h vs (ns.map WData.int)->IntsAre vs ns:=by
 intro ns
 induction ns with
 | nil =>
  intro vs w
  rw[List.map_nil] at w
  cases w
  exact .nil
 | cons n ns ih =>
  intro vs w
  rw[WN] at w
  cases w with
  | cons a b =>
   cases a
   exact .cons _ _ (ih _ b)
theorem V7{l:OpenLaw}{n:Nat}(hn:l.most=some n){P:Params}{h:Heap}{args:List WData}{vals:List Value}
  (hpre:l.row.toRowW.claim.pre args=true) (hwl:WellAll P h vals args) :
  ∃a vs ns,vals=[Value.ref a]/\args=[WData.list (ns.map WData.int)]/\h.get? a=some { cls:=.type "list",data:=.seq vs.toArray }/\IntsAre vs ns/\ns.length<=n:=by
 have hsh:WShape.hasAll [] args [.list .int]=true:=(pre_splitW hpre).1
 have hc:l.pre.holds [] { args:=args }=true:=(pre_splitW hpre).2
 obtain⟨d,r,rfl,h1,h2⟩:=hasAllW_cons hsh
 obtain rfl:=hasAllW_nil h2
 obtain⟨xs,rfl,h3⟩:=hasW_list h1
 obtain⟨ns,rfl⟩:=items_int h3
 have hlen:ns.length<=n:=by
  unfold OpenLaw.pre at hc
  have h4:(WTm.not (.lt (.lit (.int (n:Int))) (.len (.arg 0)))).holds [] { args:=[.list (ns.map .int)] }=true:=by
   have h4:=(holds_andW hc).1
   rw[hn] at h4
   exact h4
  have h5:=condW_of h4 (w_not (w_lt w_lit (w_len_list (w_arg rfl))))
  rw[Wx] at h5
  refine Nat.le_of_not_lt λq=>?_
  have q':(n:Int)<((ns.length:Nat):Int):=by omega
  first
   | (rw[Ym q'] at h5;exact absurd h5 (by decide))
   | (simp at h5;omega)
 cases hwl with
 | cons w1 w2 =>
  cases w2
  cases w1 with
  | list ho hall=>exact⟨_,_,ns,rfl,rfl,ho,BZ ns _ hall,hlen⟩
theorem V4(l:OpenLaw)(args:List WData):l.row.toRowW.claim.post args (.bool true) args=true :=
 postW_of (r:=l.row.toRowW) (X:=(true==true))
  (show WShape.has [] (.bool true) .bool=true by first | rfl | decide | simp[WShape.has,WShape.arms,WShape.armsAll])
  (show (WTm.eq .res (.lit (.bool true))).value [] { args:=args,res:=some (.bool true),after:=args }=some (.bool (true==true)) from w_eq_bool (w_res rfl) w_lit) rfl
theorem O2{l:OpenLaw}{n:Nat}{q:Program}{loose:List Str}{XP:(Str->Option Value)->Heap->Prop}{YP:World->Heap->Prop}{d:DefRec}
  (hn:l.most=some n) (hdf:d.params.defaults=[])
  (call:∀(w:World)(s₀ s₁:Shared)(mg mb:Str->Option Value)(fa:Addr)(o:Obj)(pm cd doc:Value)(a:Addr)(vs:List Value)(ns:List Int),
   Ground q loose [] XP w s₀ mg mb s₁.heap->YP w s₁.heap ->
   s₁.heap.get? fa=some o->o.data=.func (docDef d.name d.params d.body d.scope pm cd doc)->s₁.heap.CodeRec cd d.name->mg d.name=some (.ref fa) ->
   s₁.heap.get? a=some { cls:=.type "list",data:=.seq vs.toArray }->IntsAre vs ns->ns.length<=n->s₁.gens=#[] ->
   codeAny (model l.prog w) callerA (.call (.ref fa) ⟨[.ref a],[]⟩) (λr s'=>r=.ok (.ret (.bool true))/\OldK s₁.heap s'.heap/\s'.os=s₁.os/\AllBare s'.gens) s₁) :
  WalkO q loose XP YP l.row.toRowW d [] (λf vs=>PySem.call f vs):=by
 intro w s₀ s₁ mg mb G Y fa o pm cd doc dV kV ho hd hcd hD hmg hg args vals as hpre hlay hrd hwl hlo
 obtain rfl:dV=.none:=Dflts.none hD hdf
 obtain rfl:kV=.none:=Dflts.noKw hD
 obtain⟨a,vs,ns,rfl,rfl,hobj,hints,hlen⟩:=V7 hn hpre hwl
 refine enter_call (YQ (call w s₀ s₁ mg mb fa o pm cd doc a vs ns G Y ho (fd_plain hd) hcd hmg hobj hints hlen hg) λr s' hq=>?_)
 obtain⟨rfl,h2,h3,h4⟩:=hq
 exact⟨.inl ⟨.bool true,.bool true,[],rfl,λ_=>rfl,.bool true,V4 l _,λ_=>⟨List.Pairwise.nil,λ_ hm=>(nomatch hm)⟩⟩,h2,h3,h4⟩
end Att
namespace L2
open PySem PySem.Spec PyProof.Rows
theorem JG:∀{vs:List Value}{ns:List Int},IntsAre vs ns->Vals (ns.map V.int) vs
 | _,_,.nil=>.nil
 | _,_,.cons n t h=>.cons ⟨t,rfl⟩ (JG h)
def Only(H:Hp):Prop:=∀b,H b=none∨∃o xs,H b=some (.frz o (.lst xs))
theorem law_call{P:Program}{w:World}{K:Frag}{mg mb:Str->Option Value}{CX:CXT}{k:Nat}{fa a:Addr}{fd:FuncData}{x:Str}{sp:Sp}{s₁:Shared}{vs:List Value}{ns:List Int}
  (KX:K.In s₁.heap) (hns:s₁.heap.Ns mainGlobals mg) (hb:s₁.heap.Ns builtinsNs mb) (hbb:∀x:Str,x≠"__name__"->mb x=bootBuiltins x) (hlim:s₁.heap.NoLimit) (hg:s₁.gens=#[])
  (ha:s₁.heap.get? a=some { cls:=.type "list",data:=.seq vs.toArray }) (hi:IntsAre vs ns) (hl:ns.length<=sizeLine) (hr:dX k callerA)
  (F:∀base:Heap,K.In base->base.Ns mainGlobals mg->cP P w K mg base CX k fa fd [x] sp) (hbind:∀(s:Shared)(u:Value),BindsTo s fd ⟨[u],[]⟩ [(x,u)])
  (hsp:∀H:Hp,Only H->SqL K H a (ns.map V.int)->sp [.ref a] H (λv _=>v=.bl true) λ_ _ _=>False)
  (hCX:∀H e s',CX [] H s₁ (λ_ _ _=>False) e s'->False) :
  codeAny (model P w) callerA (.call (.ref fa) ⟨[.ref a],[]⟩) (λr s'=>r=.ok (.ret (.bool true))/\OldK s₁.heap s'.heap/\s'.os=s₁.os/\AllBare s'.gens) s₁:=by
 have rv:=JG hi
 have lenV:=hi.length
 have core:∀H:Hp,Only H->SqL K H a (ns.map V.int)->HOk P w H s₁.heap->(∀b,H b≠none->b=a)->(H a≠none->K.lookup a=none) ->
   codeAny (model P w) callerA (.call (.ref fa) ⟨[.ref a],[]⟩) (λr s'=>r=.ok (.ret (.bool true))/\OldK s₁.heap s'.heap/\s'.os=s₁.os/\AllBare s'.gens) s₁:=by
  intro H hO hS hok hA hK
  have base_of:∀{b:Addr}{o:Obj},s₁.heap.get? b=some o->H b=none->(hidT s₁.heap H).get? b=some o:=λe n=>hidT_get e n
  have noA:∀{b:Addr}{o:Obj}{es:Array DictEntry}{ep:Nat},s₁.heap.get? b=some o->o.data=.dict es ep->H b=none:=fun{b o es ep} e d=>by
   cases q:H b with
   | none=>rfl
   | some u =>
    have e':b=a:=hA b (by rw[q];simp)
    subst e'
    rw[ha] at e;cases e
    have d':Data.seq vs.toArray _=Data.dict es ep:=d
    cases d'
  have nsK:∀{b:Addr}{m:Str->Option Value},s₁.heap.Ns b m->(hidT s₁.heap H).Ns b m:=λ{b m} ⟨o,es,ep,e,d,r⟩=>⟨o,es,ep,base_of e (noA e d),d,r⟩
  have hKb:K.In (hidT s₁.heap H):=λb o e=>base_of (KX b o e) (by
   cases q:H b with
   | none=>rfl
   | some u =>
    have e':b=a:=hA b (by rw[q];simp)
    subst e'
    rw[hK (by rw[q];simp)] at e;cases e)
  have hM:Mod K mg (hidT s₁.heap H):=⟨hKb,nsK hns,⟨mb,nsK hb,hbb⟩,let ⟨mc,h1,h2⟩:=hlim;⟨mc,nsK h1,h2⟩⟩
  have e0:Env0 P w K mg (hidT s₁.heap H) callerA [] s₁ H:=⟨rfl,hM,λb o e=>of_hidT e,Nat.le_of_eq (Vv _ _),trivial,λb hb=>absurd (show b∈([]:List Addr) from hb) (by simp),hok,.of_eq hg⟩
  refine YQ ((F _ hKb (nsK hns)).run callerA [] s₁ H ⟨[.ref a],[]⟩ [.ref a] [.ref a] _ _ hr e0 (hbind s₁ (.ref a)) (.cons rfl .nil) (hsp H hO hS)) λr s' h=>?_
  cases r with
  | error e=>exact(hCX H e s' h).elim
  | ok fl =>
   cases fl with
   | next=>exact Wn h
   | brk=>exact Wn h
   | cont=>exact Wn h
   | ret u =>
    obtain⟨v,H',os,bare,un,hok',r',q⟩:=h
    have q':v=.bl true:=q
    subst q'
    obtain rfl:u=Value.bool true:=r'
    refine⟨rfl,OldK.of_keep λb o e=>?_,os,bare⟩
    cases q:H b with
    | none=>exact un.keep b o e q (by intro z;exact absurd (show b∈([]:List Addr) from z) (by simp)) (by simp)
    | some u =>
     rcases hO b with z | ⟨ob,xs,z⟩
     .rw[q] at z;cases z
     .have z2:=un.zU b ob _ z
      obtain⟨e1,_⟩:=hok b _ z
      obtain⟨e2,_⟩:=hok' b _ z2
      rw[e] at e1;cases e1
      exact e2
 cases hk:K.lookup a with
 | some o =>
  have e:=KX a o hk
  rw[ha] at e
  cases e
  refine core (λ_=>none) (λ_=>.inl rfl) (.inr ⟨_,vs.toArray,_,hk,rfl,rfl,rfl,by rw[W8,lenV];exact hl,by simpa using rv⟩) (λb u z=>by have z':(none:Option HO)=some u:=z;cases z') (λb z=>absurd rfl z) λz=>absurd rfl z
 | none =>
  refine core (λb=>if b=a then some (.frz { cls:=.type "list",data:=.seq vs.toArray } (.lst (ns.map V.int))) else none) (λb=>?_) (.inl (.inr ⟨{ cls:=.type "list",data:=.seq vs.toArray },Wu rfl⟩)) (λb u z=>?_) (λb z=>?_) λ_=>hk
  .by_cases hb:b=a
   .exact .inr ⟨_,_,Wu hb⟩
   .exact .inl (WD hb)
  .by_cases hb:b=a
   .have z':=(Wu hb).symm.trans z
    cases z'
    subst hb
    exact⟨ha,by rw[Wx];exact hl,vs,_,rv,ha⟩
   .have z':=(WD hb).symm.trans z
    cases z'
  .by_cases hb:b=a
   .exact hb
   .exact absurd (WD hb) z
theorem walk_of{l:PySem.W.OpenLaw}{n k:Nat}{q:Program}{loose:List Str}{XP:(Str->Option Value)->Heap->Prop}{YP:World->Heap->Prop}{d:DefRec}{K:Params->Frag}{CX:World->CXT}{sp:World->Sp}{x:Str}
  (hn:l.most=some n) (hn2:n<=sizeLine) (hdf:d.params.defaults=[]) (hr:dX k callerA)
  (hY:∀(w:World)(h:Heap),YP w h->(K w.params).In h)
  (F:∀(w:World)(mg:Str->Option Value)(fa:Addr)(h:Heap),(K w.params).In h->h.Ns mainGlobals mg->mg d.name=some (.ref fa) ->
   ∃fd:FuncData,(∀(s:Shared)(u:Value),BindsTo s fd ⟨[u],[]⟩ [(x,u)]) /\
    ∀base:Heap,(K w.params).In base->base.Ns mainGlobals mg->cP l.prog w (K w.params) mg base (CX w) k fa fd [x] (sp w))
  (hsp:∀(w:World)(H:Hp)(a:Addr)(ns:List Int),ns.length<=n->Only H->SqL (K w.params) H a (ns.map V.int)->sp w [.ref a] H (λv _=>v=.bl true) λ_ _ _=>False)
  (hCX:∀(w:World)(H:Hp)(s:Shared)(e:Value)(s':Shared),CX w [] H s (λ_ _ _=>False) e s'->False) :
  PySem.W.WalkO q loose XP YP l.row.toRowW d [] (λf vs=>PySem.call f vs):=by
 refine Att.O2 hn hdf λw s₀ s₁ mg mb fa o pm cd doc a vs ns G Y ho hd hcd hmg hobj hints hlen hg=>?_
 have KX:=hY w _ Y
 obtain⟨fd,hb,hF⟩:=F w mg fa _ KX G.T.g hmg
 exact law_call KX G.T.g G.T.b G.T.builtins G.T.nolimit hg hobj hints (W5 hlen hn2) hr hF hb (λH hO hS=>hsp w H a ns hlen hO hS) λH e s'=>hCX w H s₁ e s'
def inClass(s:Stmt)(j:Nat):Stmt:=match s with
 | .ClassDef _ _ _ body _ _ _ _ _ _ _=>body.getD j (.Pass ⟨0,0,0,0⟩)
 | _=>.Pass ⟨0,0,0,0⟩
def oO(s:Stmt):Arguments:=match s with
 | .FunctionDef _ a _ _ _ _ _ _ _ _=>a
 | _=>{ posonlyargs:=[],args:=[],vararg:=none,kwonlyargs:=[],kw_defaults:=[],kwarg:=none,defaults:=[] }
def eY(s:Stmt):List Stmt:=match s with
 | .FunctionDef _ _ b _ _ _ _ _ _ _=>b
 | _=>[]
def aq(s:Stmt):Scope:=match s with
 | .FunctionDef _ _ _ _ _ _ sc _ _ _=>sc
 | _=>{ kind:=.function,names:=[],isGenerator:=false,isCoroutine:=false }
abbrev CX0:CXT:=λ_ _ _ _ _ _=>False
abbrev E0:XK:=λ_ _ _=>False
theorem pass0{X:Cx}:lu CX0 X E0:=λ_ _ _ _ _ _ _ h=>h.elim
structure Fun(K:Frag)(x qual:Str)(st:Stmt)(f:Addr)(fd:FuncData):Prop where
 ex:∃(oc:Value)(od:Option Addr)(kV doc pm:Value)(an:Option Addr)(cdv ct:Value)(osl:Array (Option Value)),
  fd=PySem.W.fnOf x qual (oO st) (eY st) (aq st) .none kV doc pm an cdv ct/\K.lookup f=some ⟨oc,od,.func fd,osl⟩/\PySem.W.codeIn K cdv qual=true
 kp:keepIn K (.ref f)=true
section
variable{P:Program}{w:World}{K:Frag}{mg:Str->Option Value}{base:Heap}
theorem Fun.ok{x qual:Str}{st:Stmt}{f:Addr}{fd:FuncData}{N ps:List Str}{k:Nat}{sp:Sp}(F:Fun K x qual st f fd)(S:aF N ps (aq st))(len:∀vs H Q E,sp vs H Q E->vs.length=ps.length)
  (hbody:∀(cdv:Value)(A:Around)(outer:List Env)(s:Shared)(H:Hp)(vs:List V)(Q:VK)(E:XK),dX k (A.deeper (envOfC qual (aq st) s.heap.objs.size f cdv))->sp vs H Q E ->
   ∃t,PSs (BV CX0 P w K mg base N qual (aq st) f cdv A outer s H E).nox (eY st) t/\t { nx:=λ_ H'=>Q .non H',rt:=Q } (start N vs) H):cP P w K mg base CX0 (k+1) f fd ps sp:=by
 obtain⟨oc,od,kV,doc,pm,an,cdv,ct,osl,rfl,lk,hcd⟩:=F.ex
 refine fn_of lk hcd S len λA outer s H vs Q E hr hsp=>?_
 obtain⟨t,h,q⟩:=hbody cdv A outer s H vs Q E hr hsp
 exact⟨t,h.nox,q⟩
theorem Fun.binds{x qual:Str}{st:Stmt}{f:Addr}{fd:FuncData}{ps:List Str}(F:Fun K x qual st f fd)
  (h:∀(kV doc pm:Value)(an:Option Addr)(cdv ct:Value)(us:List Value),us.length=ps.length->bindArgs (PySem.W.fnOf x qual (oO st) (eY st) (aq st) .none kV doc pm an cdv ct) ⟨us,[]⟩=pure (ps.zip us)):Binds K fd ps []:=by
 obtain⟨oc,od,kV,doc,pm,an,cdv,ct,osl,rfl,lk,hcd⟩:=F.ex
 exact .all (h kV doc pm an cdv ct)
theorem fun_mk{x qual:Str}{st:Stmt}{f:Addr}{oc:Value}{od an:Option Addr}{osl:Array (Option Value)}{kV doc pm cdv ct:Value}(l:K.lookup f=some ⟨oc,od,.func (PySem.W.fnOf x qual (oO st) (eY st) (aq st) .none kV doc pm an cdv ct),osl⟩)
  (c:PySem.W.codeIn K cdv qual=true) (k:keepIn K (.ref f)=true):Fun K x qual st f (PySem.W.fnOf x qual (oO st) (eY st) (aq st) .none kV doc pm an cdv ct):=⟨⟨oc,od,kV,doc,pm,an,cdv,ct,osl,rfl,l,c⟩,k⟩
end
section
variable{X:Cx}
theorem pv(i:Nat){x:Str}{pos:Pos}(hN:X.N[i]?=some x:=by rfl)(hv:Vis X.env.scope x:=by first | exact Or.inl rfl | exact Or.inr (Or.inl rfl) | exact Or.inr (Or.inr rfl))(hd:(x==("__debug__":Str))=false:=by decide)
  (hcd:(x==("__classdict__":Str))=false:=by decide):PE X (.Name x pos) (kJ i):=pe_var hN hv hd hcd
end
def aP(H H':Hp):Prop:=∀b o,H b=some o->H' b=some o
theorem aP.refl(H:Hp):aP H H:=λ_ _ h=>h
theorem aP.trans{H H1 H2:Hp}(a:aP H H1)(b:aP H1 H2):aP H H2:=λc o h=>b c o (a c o h)
theorem aP.free{H H':Hp}(e:aP H H'){l:Addr}(h:H' l=Option.none):H l=Option.none:=by
 cases q:H l with
 | none=>rfl
 | some o =>
  rw[e l o q] at h
  cases h
theorem aP.seq{K:Frag}{H H':Hp}{a:Addr}{xs:List V}(e:aP H H')(h:SqL K H a xs):SqL K H' a xs:=by
 rcases h with (h | ⟨o,h⟩) | h
 .exact .inl (.inl (e _ _ h))
 .exact .inl (.inr ⟨o,e _ _ h⟩)
 .exact .inr h
end L2
set_option maxHeartbeats 1000000
namespace MX
open PySem
section
open Builtin Builtin.ObjectAttr
end
open PySem.W PySem.Calls PyProof.Rows Builtin Builtin.ObjectAttr
abbrev bmV:List Value:=[.type "ValueError",.type "Exception",.type "BaseException",.type "object"]
def onlyRefs:List Value->Bool
 | []=>true
 | .ref _::r=>onlyRefs r
 | _=>false
structure ExcGet(K:Frag)(C:Addr):Prop where
 ga:findIn K (.ref C) "__getattribute__"=some (some (.builtin "BaseException.__getattribute__"))
 gh:findIn K (.ref C) "__getattr__"=some none
 sa:findIn K (.ref C) "__setattr__"=some (some (.builtin "object.__setattr__"))
 sub:mroIn K C (.type "BaseException")=some true
 top:mroIn K C (.type "object")=some true
 cl:findIn K (.ref C) "__class__"=some (some (.builtin "object.__class__"))
 get:specialIn K (.builtin "object.__class__") "__get__"=some (some (.builtin "getset_descriptor.__get__"))
 tk:takesIn K (.builtin "object.__class__")=some true
 cls:∃cd l,clsIn K C=some cd/\cd.hasDict=true/\cd.mro=l++bmV/\onlyRefs l=true
section
variable{prog:Program}{w:World}{A:Around}{E:Value->Shared->Prop}{s:Shared}{K:Frag}{x C:Addr}{ox:Obj}{od:Option Obj}{name:Str}
theorem excBy{fill expr:Bool}{tk:Tok}{Q:Value->Shared->Prop}{v:Value}(G:ExcGet K C)(X:K.In s.heap)(I:InstAt s.heap x ox C od)(hh:handedIn v=true)
  (hf:wpAny (model prog w) A.in1 (Builtin.«object.__getattribute__» ⟨[.ref x,.str name tk],[]⟩) (λfin s'=>fin=.done (.ret v)/\Q v s') (λ_ _=>False) s) :
  wpAny (model prog w) A (getAttrBy (.ref x) (.str name tk) fill expr) Q E s:=by
 have L0:=I.type (M:=model prog w)
 have L1:=looks_findIn (M:=model prog w) X G.ga
 have L2:Looks (model prog w) s.heap (hookBefore (.ref C)) none:=looks_findIn (M:=model prog w) X G.gh
 have b:=PySem.F.attr_ValueError.ga.bind (.ref x)
 unfold getAttrBy
 refine Yc (Wr (L0.here (Wr (L1.here ?_))))
 have c1:(onTheHeap (Value.ref C) && Value.builtin "BaseException.__getattribute__"==Value.builtin "object.__getattribute__")=false:=by
  rw[show (Value.builtin "BaseException.__getattribute__"==Value.builtin "object.__getattribute__")=false by decide +kernel]
  simp
 show wpAny _ _ (if (onTheHeap (Value.ref C) && Value.builtin "BaseException.__getattribute__"==Value.builtin "object.__getattribute__")=true then _ else _) _ _ _
 rw[c1,WD Wv]
 unfold getAttrByItsOwn
 refine Wr (L2.here (Wr (Zq (Yc ?_))))
 have c2:callGetattribute (.ref x) (.str name tk) (.builtin "BaseException.__getattribute__") expr=boundAndCalled (.builtin "BaseException.__getattribute__") (.ref x) (.str name tk):=by cases expr <;> rfl
 rw[c2]
 unfold boundAndCalled
 rw[b]
 refine Wr (WM ?_)
 have hk:builtinKind "BaseException.__getattribute__"=some .slot:=by decide +kernel
 have hs:splitId "BaseException.__getattribute__"=some ("BaseException","__getattribute__"):=by decide +kernel
 show wpAny (model prog w) A (call (.builtin "BaseException.__getattribute__") [.ref x,.str name tk]) _ _ s
 have sub:Looks (model prog w) s.heap (isInstance (.ref x) (.type "BaseException")) true:=L0.andThen (looks_mroIn X G.sub)
 refine wpAny_call (codeAny_call_builtin PySem.F.attr_ValueError.ga.plain PySem.F.entry_bexc_ga (@check_slot (model prog w) _ _ s "BaseException.__getattribute__" "BaseException" "__getattribute__" (.ref x) [.str name tk] [] _ hk hs sub (PySem.F.args_bexc_ga (.ref x) (.str name tk)) ?_))
 refine Xx hf (λfin s' z=>?_) λ_ _ z=>z.elim
 obtain⟨rfl,z⟩:=z
 show wpAny _ _ (handedOut v) _ _ _
 rw[handedOut_of hh]
 exact WM z
theorem excClass{Q:Option Value->Shared->Prop}(G:ExcGet K C)(X:K.In s.heap)(I:InstAt s.heap x ox C od)(h:Q (some (.ref C)) { s with toks:=s.toks+1 }):
  wpAny (model prog w) A (getAttr? (.ref x) "__class__") Q E s:=by
 obtain⟨cd,l,hc,hd,hm,hr⟩:=G.cls
 have hf:findObj K C od "__class__"=some (.bind (.builtin "getset_descriptor.__get__") (.builtin "object.__class__")):=by
  unfold findObj
  rw[hc,YZ,G.cl,YZ]
  dsimp only
  rw[G.get,YZ]
  dsimp only
  rw[G.tk,YZ]
 unfold getAttr? getAttrBy?
 refine Wr (wpAny_mkText (Wr (Zq (excBy (v:=.ref C) (s:={ s with toks:=s.toks+1 }) G X I rfl ?_))))
 .obtain⟨hp,g,d,t,os⟩:=s
  have L0:=I.type (M:=model prog w)
  have L3:=looks_find (M:=model prog w) X I hf
  unfold Builtin.«object.__getattribute__»
  repeat (first | with_reducible refine wpAny_call ?_ | lk)
  refine class_get X I G.top ?_
  exact WM ⟨rfl,WM h⟩
theorem excKit(G:ExcGet K C):KitX K (.ref x) (.ref C) (λh=>InstAt h x ox C od) where
 ty:=λ_ _ _ I=>I.type
 it:=λ_ _ X _=>by
  obtain⟨cd,l,hc,_⟩:=G.cls
  unfold clsIn at hc
  split at hc
  .rename_i ho
   intro A' Q' E' s' k q
   unfold isType loadHead
   exact Wr (wpAny_loadPart (k _ _ (X _ _ ho)) (WM q))
  .cases hc
 ne:=λh tp dd its n sl X htp=>by
  obtain⟨cd,l,hc,_⟩:=G.cls
  refine XQ.mpr λq=>?_
  obtain rfl:C=tp:=Value.ref.inj (Ys.mp q)
  unfold clsIn at hc
  split at hc
  .rename_i ho
   have z:=(X _ _ ho).symm.trans htp
   cases z
  .cases hc
 ca:=λX I k=>excClass G X I k
end
end MX
namespace L2
open PySem PySem.Spec PyProof.Rows
section
variable{prog:Program}{w:World}{A:Around}{R:Result->Shared->Prop}{s:Shared}
theorem O6{elt tg iter:Expr}{ifs:List Expr}{sc:Scope}{pos:Pos}{it acc:Value}{env:Env}(J:Nat->Shared->Prop)
  (turn:∀n s,J n s->wpAny (model prog w) A (pyNext it) (λr s1=>match r with
   | none=>R (.ok .next) s1
   | some v=>wpAny (model prog w) A (letOwnedTupleGo tg it v) (λ_ s2=>wpAny (model prog w) A (assign tg env v) (λ_ s3 =>
     wpAny (model prog w) A (forIn ifs true λc r=>if r=true then do let ok ←isTrue c env (eval c env);pure (ForInStep.yield ok) else pure (ForInStep.yield r)) (λok s4 =>
      if ok=true then wpAny (model prog w) A (eval elt env) (λx s5=>wpAny (model prog w) A (call (.builtin "list.append") [acc,x]) (λ_ s6=>∃m,m<n/\J m s6) (λ_ _=>False) s5) (λ_ _=>False) s4
      else ∃m,m<n/\J m s4) (λ_ _=>False) s3) (λ_ _=>False) s2) (λ_ _=>False) s1) (λ_ _=>False) s)
  (n:Nat) (h:J n s):codeAny (model prog w) A (.compLoop (.ListComp elt [⟨tg,iter,ifs,0⟩] sc pos) 0 it acc env) R s:=by
 refine codeAny_loop rfl J (λn s hJ=>?_) n h
 show wpAny _ A ((compTurn (.ListComp elt [⟨tg,iter,ifs,0⟩] sc pos) 0 it acc env).onRaise (λx=>do noteFrame x env;theTreesLotGoes x)) _ _ s
 refine wpAny_noted ?_
 rw[compTurn_list]
 refine Wr (wpAny_standAt (Wr (Xx (turn n s hJ) (λr s1 h1=>?_) λ_ _ z=>z.elim)))
 cases r with
 | none=>exact WM h1
 | some v =>
  refine Wr (Xx h1 (λ_ s2 h2=>?_) λ_ _ z=>z.elim)
  refine Wr (Xx h2 (λ_ s3 h3=>?_) λ_ _ z=>z.elim)
  refine Wr (Xx h3 (λok s4 h4=>?_) λ_ _ z=>z.elim)
  cases ok with
  | false=>exact WM ⟨rfl,h4⟩
  | true =>
   refine Wr (Wr (Xx h4 (λx s5 h5=>?_) λ_ _ z=>z.elim))
   exact Wr (Xx h5 (λ_ s6 h6=>WM (WM ⟨rfl,h6⟩)) λ_ _ z=>z.elim)
end
abbrev bI(X:Cx)(N':List Str)(sc:Scope)(cl:List (Str×Addr))(s₀:Shared)(H₀:Hp)(C:Addr)(fp:List Addr)(pn:List (Addr×Obj)):Cx :=
 { X with N:=N',s₀:=s₀,H₀:=H₀,env:=compEnvC sc cl C X.env,outer:=X.stack,ex:=fp,fn:=λ_=>false,pn:=pn,xe:=λ_ _=>False }
def CellsOk(X:Cx):List (Str×Addr)->Prop
 | []=>True
 | (y,c)::r=>(X.env.cells.lookup y=some c/\(X.env.kindOf y=some .cell∨X.env.kindOf y=some .free))/\CellsOk X r
def Ar(X:Cx)(sc:Scope)(cl:List (Str×Addr)):List Str->List (Option Nat)->Prop
 | [],[]=>True
 | y::r,o::q=>(match o with
   | none=>True
   | some j=>X.N[j]?=some y/\(cl.lookup y).isSome=true/\((relabel sc X.env).names.lookup y=some .cell∨(relabel sc X.env).names.lookup y=some .free))/\Ar X sc cl r q
 | _,_=>False
def capS(cap:List (Option Nat))(σ:St):St:=cap.map λo=>match o with | none=>none | some j=>(σ[j]?).join
structure JH(X:Cx)(sc:Scope)(cl:List (Str×Addr))(N':List Str)(cap:List (Option Nat)):Prop where
 clos:closureFor sc X.env=pure cl
 kind:sc.kind=.function
 nF:(sc.names.all λy=>y.2 != .cell)=true
 locals:(sc.names.all λy=>y.2 != .local || sc.names.lookup y.1==some .local)=true
 frees:(sc.names.all λy=>y.2 != .free || (cl.lookup y.1).isSome)=true
 cells:CellsOk X cl
 caps:Ar X sc cl N' cap
theorem CellsOk.get{X:Cx}:∀{cl:List (Str×Addr)}{y:Str}{c:Addr},CellsOk X cl->cl.lookup y=some c->X.env.cells.lookup y=some c/\(X.env.kindOf y=some .cell∨X.env.kindOf y=some .free)
 | [],_,_,_,e=>by simp at e
 | (z,d)::r,y,c,h,e=>by
  by_cases q:y=z
  .subst q
   simp only[List.lookup_cons,beq_self_eq_true] at e
   cases e
   exact h.1
  .have q':(y==z)=false:=W3.mpr q
   simp only[List.lookup_cons,q'] at e
   exact CellsOk.get h.2 e
theorem Ar.get{X:Cx}{sc:Scope}{cl:List (Str×Addr)}:∀{N':List Str}{cap:List (Option Nat)}{i j:Nat}{y:Str},Ar X sc cl N' cap->N'[i]?=some y->cap[i]?=some (some j) ->
  X.N[j]?=some y/\(cl.lookup y).isSome=true/\((relabel sc X.env).names.lookup y=some .cell∨(relabel sc X.env).names.lookup y=some .free)
 | [],_,_,_,_,_,e,_=>by simp at e
 | _::_,[],_,_,_,_,_,e=>by simp at e
 | z::r,o::q,0,j,y,h,e1,e2=>by
  simp at e1 e2
  subst e1 e2
  exact h.1
 | z::r,o::q,i+1,j,y,h,e1,e2=>Ar.get (i:=i) h.2 (by simpa using e1) (by simpa using e2)
theorem Ar.len{X:Cx}{sc:Scope}{cl:List (Str×Addr)}:∀{N':List Str}{cap:List (Option Nat)},Ar X sc cl N' cap->cap.length=N'.length
 | [],[],_=>rfl
 | [],_::_,h=>h.elim
 | _::_,[],h=>h.elim
 | _::_,_::_,h=>by simp[Ar.len h.2]
theorem Un.sameBut{fs ex:List Addr}{H H':Hp}{h h' h'':Heap}{C:Addr}(u:Un fs ex H H' h h')(sb:Heap.SameBut C h' h'')(hC:h.get? C=none):Un fs ex H H' h h'':=by
 have ne:∀b o,h.get? b=some o->b≠C:=λb o e z=>by rw[z,hC] at e;cases e
 refine⟨λb o e n h1 h2=>(sb.2 b (ne b o e)).trans (u.keep b o e n h1 h2),λb o e n h1 h2=>?_,u.free,λb o e hx=>?_,u.tups,u.zU,u.Cr⟩
 .obtain⟨sl,q⟩:=u.slot b o e n h1 h2
  exact⟨sl,(sb.2 b (ne b o e)).trans q⟩
 .obtain⟨o',q⟩:=u.there b o e hx
  exact⟨o',(sb.2 b (ne b o e)).trans q⟩
theorem HOk.sameBut{P:Program}{w:World}{H:Hp}{h h':Heap}{C:Addr}(x:HOk P w H h)(sb:Heap.SameBut C h h')(hC:H C=none):HOk P w H h':=λb o e=>by
 refine(x b o e).stay (λc u hc q=>(sb.2 c ?_).trans q) (λ_ q=>q) λ_ _ q=>q
 rintro rfl
 rcases hc with z | z
 .rw[←z,hC] at e;cases e
 .rw[hC] at z;cases z
def BR(X:Cx)(ifs:List Expr)(t:TT):Prop :=
 ∀(pins:List (Addr×Obj))(s:Shared)(σ:St)(H:Hp)(Q:Bool->Hp->Prop),Inv X pins σ H s->t σ H Q ->
  wpAny (model X.prog X.w) X.A (forIn ifs true λc r=>if r=true then do let ok ←isTrue c X.env (eval c X.env);pure (ForInStep.yield ok) else pure (ForInStep.yield r)) (TP X pins σ Q) X.xe s
def tTrue:TT:=λ_ H Q=>Q true H
theorem pf_nil{X:Cx}:BR X [] tTrue:=λ_ _ _ H _ I h=>wpAny_tests_nil ⟨H,I,h⟩
theorem pf_one{X:Cx}{c:Expr}{t:TT}(h:PT X c t):BR X [c] t:=λpins s σ H Q I hw=>wpAny_tests_one (h pins s σ H Q I hw)
def CompGo(J:It)(g:TG)(tt:TT)(te:TE)(acc:Addr)(τ0:St)(H1:Hp)(Q:VK):Prop:=∃W:Nat->Nat->List V->St->Hp->Prop,
 (∃m,W 0 m [] τ0 (upd H1 acc (.lst [])))/\∀i m ys τ H,W i m ys τ H->H acc=some (.lst ys)/\ys.length<sizeLine /\
  ((J.stop i H/\Q (.ref acc) H)∨(J.go i H/\∀x H',J.yld i H x H'->g x τ H' λτ2 H2=>tt τ2 H2 λb H3 =>
   if b=true then te τ2 H3 λy H4=>H4 acc=some (.lst ys)/\∃m',m'<m/\W (i+1) m' (ys++[y]) τ2 (upd H4 acc (.lst (ys++[y])))
   else ∃m',m'<m/\W (i+1) m' ys τ2 H3))
def Bt(cap:List (Option Nat))(wi:TI)(g:TG)(tt:TT)(te:TE):TE:=λσ H Q=>wi σ H λJ H1=>∀acc,H1 acc=none->CompGo J g tt te acc (capS cap σ) H1 Q
section
variable{X:Cx}{tg iter elt:Expr}{ifs:List Expr}{sc:Scope}{pos:Pos}{cl:List (Str×Addr)}{N':List Str}{cap:List (Option Nat)}{wi:TI}{g:TG}{tt:TT}{te:TE}
theorem inv_comp{pins:List (Addr×Obj)}{σ:St}{H:Hp}{s:Shared}{fp:List Addr}{h1:Heap}(S:JH X sc cl N' cap)(I:Inv X pins σ H s)(hf:∀b∈fp,zu X pins H b)(hlt:∀b∈fp,b<s.heap.objs.size)
  (hns:h1.Ns s.heap.objs.size (λx=>([]:List (Str×Value)).reverse.lookup x)) (keep:∀b o,s.heap.get? b=some o->h1.get? b=some o) :
  Inv (bI X N' sc cl s H s.heap.objs.size fp (X.pn++pins)) [] (capS cap σ) H { s with heap:=h1 }:=by
 have nC:∀b o,s.heap.get? b=some o->b≠s.heap.objs.size:=λb o e=>WX (Wy e)
 have fsub:∀b,b≠X.env.locals->b∉X.fs->b∉frs X.stack:=λb h1 h2 z=>(W9.mp (I.Tt b z)).elim h1 h2
 refine⟨⟨I.ok.mod,?_,I.ok.glob,I.ok.blt,Ww _,λx y c e1 e2=>?_,λx hx=>?_,λx c e=>absurd e (by simp),I.ok.hd,I.ok.frames,.inl rfl,λb hb=>?_,I.bs,W5 I.ok.bsz I.sz,λb o e hb=>?_,λb hb=>?_,I.stack,I.U4⟩,
  rfl,I.bare,Un.kept keep,⟨_,hns,λi y v e1 e2 e3=>?_⟩,λy c e=>?_,I.hok.fresh (Ww _),λy c e=>?_,λp hp=>?_,I.hok.kept keep,?_⟩
 .show (relabel sc X.env).kind=.function
  exact S.kind
 .exact I.ok.inj _ _ c (S.cells.get e1).1 (S.cells.get e2).1
 ·
  have key:∀k,(relabel sc X.env).names.lookup x=some k->k≠.local->k≠.globalImplicit->(x,NameKind.free)∈sc.names∨(x,k)∈sc.names:=λk hk h1 h2=>by
   obtain⟨⟨n,k0⟩,hm,e⟩:=Yd.mp (XX hk)
   dsimp only at e
   split at e
   .rename_i q
    have q1:k0=NameKind.free:=by
     rw[X3,X3] at q
     exact Ys.mp q.1.1
    cases e
    subst q1
    exact .inl hm
   .cases e
    exact .inr hm
  have fin:(x,NameKind.free)∈sc.names->∃c,cl.lookup x=some c:=λhm=>by
   have z:=Y5.mp S.frees _ hm
   simp only[bne_self_eq_false,Bool.false_or] at z
   exact YW.mp z
  have hx:(relabel sc X.env).names.lookup x=some .cell∨(relabel sc X.env).names.lookup x=some .free:=hx
  rcases hx with hx | hx
  .rcases key _ hx (by decide) (by decide) with z | z
   .exact fin z
   .exact absurd (Y5.mp S.nF _ z) (by simp)
  .rcases key _ hx (by decide) (by decide) with z | z <;> exact fin z
 .obtain⟨_,_,_,_,h5,_⟩:=hf b hb
  exact⟨WX (hlt b hb),λx c e=>h5 x c (S.cells.get e).1⟩
 .obtain⟨_,_,_,h4,_,_⟩:=hf b hb
  rcases h4 with z | z
  .exact I.ok.bw b o e z
  .exact absurd (WQ (WQ (Wy e) I.ok.bsz) z) (Xw _)
 .obtain⟨_,h2,h3,_,_,_⟩:=hf b hb
  exact fsub b h2 h3
 ·
  unfold capS at e2
  rw[WL] at e2
  cases ec:cap[i]? with
  | none=>rw[ec] at e2;cases e2
  | some o =>
   rw[ec] at e2
   cases o with
   | none=>cases e2
   | some j =>
    have e2:(σ[j]?).join=some v:=WW e2
    obtain⟨hj,hs,hk⟩:=S.caps.get e1 ec
    obtain⟨c,hc⟩:=YW.mp hs
    obtain⟨c1,c2⟩:=S.cells.get hc
    have ej:σ[j]?=some (some v):=by
     cases q:σ[j]? with
     | none=>rw[q] at e2;cases e2
     | some z=>rw[q] at e2;exact Xd some e2
    obtain⟨m,hm,hl⟩:=id I.loc
    obtain⟨u,ru,lk⟩:=hl j y v hj ej (c2.elim (λz=>.inr (.inl z)) λz=>.inr (.inr z))
    refine⟨u,ru,?_⟩
    rcases lk with⟨z,_⟩| ⟨_,c',e',⟨oc,eo,ed⟩⟩
    .rcases c2 with q | q <;> · rw[q] at z;cases z
    .rw[c1] at e'
     cases e'
     exact .inr ⟨hk,c,hc,oc,keep _ _ eo,ed⟩
 .obtain⟨v,o,e1,e2⟩:=I.cell y c (S.cells.get e).1
  exact⟨v,o,keep _ _ e1,e2⟩
 .exact I.wC y c (S.cells.get e).1
 .have hp:p∈X.pn++pins:=by simpa using hp
  obtain⟨e,n,ne,nf,d⟩:=I.pin p hp
  exact⟨keep _ _ e,n,nC _ _ e,fsub _ ne nf,d⟩
 .show (capS cap σ).length=N'.length
  unfold capS
  rw[Wx]
  exact S.caps.len
theorem Fe{pp:Pos}{use:Option (Value->Sem Unit)}{Q':Value->Shared->Prop}{pins:List (Addr×Obj)}{s:Shared}{σ:St}{H:Hp}{Q:VK}(S:JH X sc cl N' cap)(hc:X.calm=true)(hi:PI X tg iter wi)(hg:∀s₀ H₀ C fp pn,PG (bI X N' sc cl s₀ H₀ C fp pn) tg g)(ht:∀s₀ H₀ C fp pn,BR (bI X N' sc cl s₀ H₀ C fp pn) ifs tt)
  (he:∀s₀ H₀ C fp pn,PE (bI X N' sc cl s₀ H₀ C fp pn) elt te) (hs:∀x,foldedSetIterable iter X.env x=pure x) (I:Inv X pins σ H s) (h:Bt cap wi g tt te σ H Q)
  (fin:∀(s6:Shared)(C a:Addr)(H6:Hp)(m:Str->Option Value),s6.heap.Ns C m->zu X pins H6 C->(∀h',Heap.SameBut C s6.heap h'->Inv X pins σ H6 { s6 with heap:=h' })->Q (.ref a) H6->compPost (model X.prog X.w) X.A X.xe use Q' (.ref a) C (.ok .next) s6) :
  wpAny (model X.prog X.w) X.A (comprehension (.ListComp elt [⟨tg,iter,ifs,0⟩] sc pos) sc X.env pp (newList []) false (eval iter X.env) use) Q' X.xe s:=by
 have nF:∀y∈sc.names,y.2≠.cell:=λy hy z=>absurd (Y5.mp S.nF y hy) (by rw[z];decide)
 have locals:∀y∈sc.names,y.2=.local->sc.names.lookup y.1=some .local:=λy hy z=>by
  have q:=Y5.mp S.locals y hy
  rw[z] at q
  simpa using q
 refine wpAny_comprehension_free (use:=use) rfl hs S.clos S.kind locals (thn (hi pins s σ H _ I h) λv s1 h1=>thn h1 λitv s2 h2=>?_)
 obtain⟨it,fp,tn,J,H2,e,I2,T,st2,f2,hR⟩:=h2
 subst e
 have nAcc:H2 s2.heap.objs.size=none:=I2.hok.fresh (Ww _)
 obtain⟨W,⟨m0,w0⟩,step⟩:=hR s2.heap.objs.size nAcc
 refine wpAny_newObj_type (wpAny_newFunctionEnv nF (by intro y hy;simp at hy) (λh1 hns hsb=>?_) S.kind)
 have I3:Inv X pins σ (upd H2 s2.heap.objs.size (.lst [])) { s2 with heap:=s2.heap.push { cls:=.type "list",data:=.seq ([]:List Value).toArray } } :=
  I2.laid (t':=s2.toks) (λb u e=>Wt _ e) (Ww _) ⟨Xq _,[],0,.nil,WK _ rfl⟩
 have fpn:∀b∈fp,b<s2.heap.objs.size:=λb hb=>by
  obtain⟨o,e,_⟩:=T.obj _ _ st2 b hb
  exact Wy e
 have f3:∀b∈fp,zu X pins (upd H2 s2.heap.objs.size (.lst [])) b:=λb hb=>⟨by rw[aR (WX (fpn b hb))];exact(f2 b hb).1,(f2 b hb).2⟩
 have hC:(s2.heap.push { cls:=.type "list",data:=.seq ([]:List Value).toArray }).get? (s2.heap.push { cls:=.type "list",data:=.seq ([]:List Value).toArray }).objs.size=none:=Heap.get?_none_of_le (Ww _)
 have keep:∀b o,(s2.heap.push { cls:=.type "list",data:=.seq ([]:List Value).toArray }).get? b=some o->h1.get? b=some o:=λb o e =>
  (hsb.2 b (WX (Wy e))).trans (Wt _ e)
 have I4:=inv_comp S I3 f3 (λb hb=>by
  show b<(s2.heap.push _).objs.size
  rw[Yx]
  exact Nat.lt_succ_of_lt (fpn b hb)) hns keep
 have fpc:∀{H':Hp},(∀b∈fp,H' b=none)->∀b∈fp,zu (bI X N' sc cl { s2 with heap:=s2.heap.push { cls:=.type "list",data:=.seq ([]:List Value).toArray } } (upd H2 s2.heap.objs.size (.lst [])) (s2.heap.push { cls:=.type "list",data:=.seq ([]:List Value).toArray }).objs.size fp (X.pn++pins)) [] H' b :=
  λhn b hb=>⟨hn b hb,(I4.ok.exf b hb).1,I4.ok.exfs b hb,.inl hb,(I4.ok.exf b hb).2,λp hp=>(f2 b hb).2.2.2.2.2 p (by simpa using hp)⟩
 have loop:∀s5:Shared,(∃i m ys τ H',Inv (bI X N' sc cl { s2 with heap:=s2.heap.push { cls:=.type "list",data:=.seq ([]:List Value).toArray } } (upd H2 s2.heap.objs.size (.lst [])) (s2.heap.push { cls:=.type "list",data:=.seq ([]:List Value).toArray }).objs.size fp (X.pn++pins)) [] τ H' s5 /\
   tn i s5.heap/\(∀b∈fp,H' b=none)/\W i m ys τ H')->codeAny (model X.prog X.w) X.A (.compLoop (.ListComp elt [⟨tg,iter,ifs,0⟩] sc pos) 0 (.ref it) (.ref s2.heap.objs.size) (compEnvC sc cl (s2.heap.push { cls:=.type "list",data:=.seq ([]:List Value).toArray }).objs.size X.env))
   (compPost (model X.prog X.w) X.A X.xe use Q' (.ref s2.heap.objs.size) (s2.heap.push { cls:=.type "list",data:=.seq ([]:List Value).toArray }).objs.size) s5:=by
  rintro s5 ⟨i0,m0',ys0,τ0,H0',I0,st0,fr0,w0'⟩
  refine O6 (λn s'=>∃i ys τ H',Inv (bI X N' sc cl { s2 with heap:=s2.heap.push { cls:=.type "list",data:=.seq ([]:List Value).toArray } } (upd H2 s2.heap.objs.size (.lst [])) (s2.heap.push { cls:=.type "list",data:=.seq ([]:List Value).toArray }).objs.size fp (X.pn++pins)) [] τ H' s' /\
   tn i s'.heap/\(∀b∈fp,H' b=none)/\W i n ys τ H') ?_ m0' ⟨i0,ys0,τ0,H0',I0,st0,fr0,w0'⟩
  rintro n s' ⟨i,ys,τ,H',I',st,fr,wv⟩
  obtain⟨hacc,hlen,alt⟩:=step i n ys τ H' wv
  rcases alt with⟨stop,q⟩| ⟨go,stp⟩
  .refine thn (T.done (bI X N' sc cl { s2 with heap:=s2.heap.push { cls:=.type "list",data:=.seq ([]:List Value).toArray } } (upd H2 s2.heap.objs.size (.lst [])) (s2.heap.push { cls:=.type "list",data:=.seq ([]:List Value).toArray }).objs.size fp (X.pn++pins)) rfl rfl rfl hc i [] s' τ H' _ I' (fpc fr) st stop) λr s6 ⟨hr,I6⟩=>?_
   subst hr
   obtain⟨m,hn,_⟩:=id I6.loc
   refine fin s6 _ _ H' m hn (I2.fpOk (by rw[Yx];exact Nat.le_succ _) I6.free) (λh' sb=>?_) q
   have un:Un (frs X.stack) fp H2 H' s2.heap h':=(Un.laid (o:=.lst []) (h':=s2.heap.push { cls:=.type "list",data:=.seq ([]:List Value).toArray }) (λb u e=>Wt _ e) (Ww _) nAcc).trans (I6.base.sameBut sb hC)
   exact I2.call' (s':={ s6 with heap:=h' }) (ch:=fp) I6.os un (I6.hok.sameBut sb I6.free) I6.bare λb hb=>⟨(f2 b hb).2.2.2.1,(f2 b hb).2.1,(f2 b hb).2.2.2.2.1,(f2 b hb).2.2.2.2.2⟩
  .refine thn (T.item (bI X N' sc cl { s2 with heap:=s2.heap.push { cls:=.type "list",data:=.seq ([]:List Value).toArray } } (upd H2 s2.heap.objs.size (.lst [])) (s2.heap.push { cls:=.type "list",data:=.seq ([]:List Value).toArray }).objs.size fp (X.pn++pins)) rfl rfl rfl hc i [] s' τ H' _ I' (fpc fr) st go) λr s6 ⟨u,hr,h6⟩=>?_
   subst hr
   refine thn h6 λ_ s7 ⟨x,H7,I7,rx,y7,st7,fr7⟩=>?_
   have I7':=I7.pinned (fpc fr7) (T.obj _ _ st7)
   refine thn (hg _ _ _ _ _ _ s7 τ H7 x u _ I7' rx (stp x H7 y7)) λ_ s8 ⟨τ8,H8,I8,q8⟩=>?_
   refine thn (ht _ _ _ _ _ _ s8 τ8 H8 _ I8 q8) λok s9 ⟨H9,I9,q9⟩=>?_
   have again:∀{τa:St}{Ha:Hp}{sa:Shared}{ysa:List V},Inv (bI X N' sc cl { s2 with heap:=s2.heap.push { cls:=.type "list",data:=.seq ([]:List Value).toArray } } (upd H2 s2.heap.objs.size (.lst [])) (s2.heap.push { cls:=.type "list",data:=.seq ([]:List Value).toArray }).objs.size fp (X.pn++pins)) ([]++Fy fp s7.heap) τa Ha sa ->
     (∃m',m'<n/\W (i+1) m' ysa τa Ha)->∃m',m'<n/\∃i ys τ H',Inv (bI X N' sc cl { s2 with heap:=s2.heap.push { cls:=.type "list",data:=.seq ([]:List Value).toArray } } (upd H2 s2.heap.objs.size (.lst [])) (s2.heap.push { cls:=.type "list",data:=.seq ([]:List Value).toArray }).objs.size fp (X.pn++pins)) [] τ H' sa /\
      tn i sa.heap/\(∀b∈fp,H' b=none)/\W i m' ys τ H':=fun{τa Ha sa ysa} Ia ⟨m',lt,wa⟩=>by
    refine⟨m',lt,i+1,ysa,τa,Ha,Ia.yS,T.keep _ _ _ st7 λb hb o e=>(Ia.pin (b,o) (Xg _ (Xg _ (sy hb e)))).1,λb hb=>?_,wa⟩
    obtain⟨o,e,_⟩:=T.obj _ _ st7 b hb
    exact(Ia.pin (b,o) (Xg _ (Xg _ (sy hb e)))).2.1
   cases ok with
   | false=>exact again I9 q9
   | true =>
    refine thn (he _ _ _ _ _ _ s9 τ8 H9 _ I9 q9) λv s10 ⟨y,H10,I10,ry,ha,hw⟩=>?_
    refine thn (v5 _ s10 τ8 H10 (.ref s2.heap.objs.size) [y] (.ref s2.heap.objs.size) [v] (λ_ Hq=>Hq=upd H10 s2.heap.objs.size (.lst (ys++[y]))) I10 rfl (.cons ry .nil) ⟨_,_,_,rfl,rfl,ha,hlen,rfl⟩) λ_ s11 ⟨_,H11,I11,_,e11⟩=>?_
    subst e11
    exact again I11 hw
 have start:∃i m ys τ H',Inv (bI X N' sc cl { s2 with heap:=s2.heap.push { cls:=.type "list",data:=.seq ([]:List Value).toArray } } (upd H2 s2.heap.objs.size (.lst [])) (s2.heap.push { cls:=.type "list",data:=.seq ([]:List Value).toArray }).objs.size fp (X.pn++pins)) [] τ H' { s2 with heap:=h1 } /\
   tn i h1/\(∀b∈fp,H' b=none)/\W i m ys τ H' :=
  ⟨0,m0,[],capS cap σ,_,I4,T.keep _ _ _ st2 λb hb o e=>keep _ _ (Wt _ e),λb hb=>(f3 b hb).1,w0⟩
 exact codeAny_compStart_list (loop _ start) (T.self _ 0 _ _ _ (T.keep _ _ _ st2 λb hb o e=>keep _ _ (Wt _ e)) (loop _ start))
theorem jD(S:JH X sc cl N' cap)(hc:X.calm=true)(hi:PI X tg iter wi)(hg:∀s₀ H₀ C fp pn,PG (bI X N' sc cl s₀ H₀ C fp pn) tg g)(ht:∀s₀ H₀ C fp pn,BR (bI X N' sc cl s₀ H₀ C fp pn) ifs tt)
  (he:∀s₀ H₀ C fp pn,PE (bI X N' sc cl s₀ H₀ C fp pn) elt te) (hs:∀x,foldedSetIterable iter X.env x=pure x:=by intro _;rfl) :
  PE X (.ListComp elt [⟨tg,iter,ifs,0⟩] sc pos) (Bt cap wi g tt te):=by
 intro pins s σ H Q I h
 rw[eval_ListComp]
 exact Fe (use:=none) (Q':=EP X pins σ Q) S hc hi hg ht he hs I h λs6 C a H6 m hn _ hI q=>⟨m,hn,λh' sb=>⟨.ref a,H6,hI h' sb,rfl,q⟩⟩
theorem Td{i:Nat}{x:Str}{pos' spos:Pos}(S:JH X sc cl N' cap)(hc:X.calm=true)(hN:X.N.Nodup)(hi':X.N[i]?=some x)(hx:Loc X.env.scope x)(hi:PI X tg iter wi)(hg:∀s₀ H₀ C fp pn,PG (bI X N' sc cl s₀ H₀ C fp pn) tg g)(ht:∀s₀ H₀ C fp pn,BR (bI X N' sc cl s₀ H₀ C fp pn) ifs tt)
  (he:∀s₀ H₀ C fp pn,PE (bI X N' sc cl s₀ H₀ C fp pn) elt te) (hsw:swapsWith (.ListComp elt [⟨tg,iter,ifs,0⟩] sc pos) (some (.Name x pos')) spos.line X.env=pure true) (hs:∀x,foldedSetIterable iter X.env x=pure x:=by intro _;rfl)
  (hf:X.fn x=true∨X.env.scope.names.lookup x=some .local:=by first | exact .inl rfl | exact .inr rfl | assumption) :
  PS X (.Assign [.Name x pos'] (.ListComp elt [⟨tg,iter,ifs,0⟩] sc pos) spos) (Gk (Bt cap wi g tt te) (yp i)):=by
 intro pins s σ H D I h
 rw[exec_Assign_Name_used _ _ _ _ hsw]
 refine Wr (wpAny_standAt (Wr ?_))
 show wpAny _ _ (do let _ ←comprehension (.ListComp elt [⟨tg,iter,ifs,0⟩] sc pos) sc X.env _ (newList []) false (eval iter X.env) (some (assign (.Name x pos') X.env))) _ _ s
 refine Wr (Xx (Fe (use:=some (assign (.Name x pos') X.env)) (Q':=λ_ s'=>SP X pins D .next s') S hc hi hg ht he hs I h λs6 C a H6 m hn fp hI q=>?_) (λ_ s' hq=>WM (WM hq)) λ_ _ e=>e)
 refine wpAny_assign_Name (JC (v:=.ref a) (hI _ (Heap.SameBut.refl _ _)) hN hi' hx rfl (λs7 I7 ⟨a7,sb7,ha7⟩=>?_) hf)
 have ne:C≠a7:=by
  rintro rfl
  rcases ha7 with e | e
  .exact fp.2.1 e
  .exact fp.2.2.2.2.1 _ _ e rfl
 refine⟨m,hn.sameBut sb7 ne,λh' sb=>?_⟩
 have un:Un (frs X.stack) [C] H6 H6 s7.heap h':=by
  have k:∀b o,s7.heap.get? b=some o->b∉[C]->h'.get? b=some o:=λb o e n=>(sb.2 b (λz=>n (by simp[z]))).trans e
  exact⟨λb o e _ _ n=>k b o e n,λb o e _ _ n=>⟨o.slots,k b o e n⟩,λ_ _ _ n _=>n,λb o e n=>⟨o,k b o e n⟩,λ_ _ q=>q,λ_ _ _ q=>q,λ_ ps q=>⟨#[],by simpa using q⟩⟩
 refine⟨_,H6,I7.call' (s':={ s7 with heap:=h' }) (ch:=[C]) rfl un (I7.hok.sameBut sb fp.1) I7.bare λb hb=>?_,q⟩
 obtain rfl:=YH.mp hb
 exact⟨fp.2.2.2.1,fp.2.1,fp.2.2.2.2.1,fp.2.2.2.2.2⟩
end
section
variable{X:Cx}{pins:List (Addr×Obj)}{σ:St}{H:Hp}{s:Shared}{h':Heap}
theorem Inv.tX{ch:List Addr}{a:Addr}{o:HO}{t':Nat}(I:Inv X pins σ H s)(hch:∀b∈ch,zu X pins H b)(k:∀b u,b∉ch->s.heap.get? b=some u->h'.get? b=some u)(ha:s.heap.objs.size<=a)
  (new:dF X.prog X.w (upd H a o) h' a o):Inv X pins σ (upd H a o) { s with heap:=h',toks:=t' }:=by
 have hn:H a=none:=I.hok.fresh ha
 have nch:∀b u,H b=some u->b∉ch:=λb u e z=>by rw[(hch b z).1] at e;cases e
 have nea:∀b u,s.heap.get? b=some u->b≠a:=λb u e=>WX (WQ (Wy e) ha)
 refine I.step (g':=s.gens) (d':=s.drawn) (ch:=ch) (λb hb=>?_) (λb u _ _ hc e _=>k b u hc e) (λb u _ _ hc e _=>⟨u.slots,k b u hc e⟩) (λb u hc e n=>by rw[aR (nea b u e)];exact n) (λb u hc e=>⟨u,k b u hc e⟩)
  (λb xs e=>by rw[aR (aX e hn)];exact e) (λb u xs e=>by rw[aR (aX e hn)];exact e) (λb ps e=>⟨#[],by rw[aR (aX e hn),e];simp⟩) (λm hm=>?_) (λb u e=>?_) I.bare
 .obtain⟨_,h2,_,h4,h5,h6⟩:=hch b hb
  exact⟨h4,h2,h5,h6⟩
 .obtain⟨o',es,ep,ho,r⟩:=hm
  exact⟨o',es,ep,k _ o' (λz=>(hch _ z).2.1 rfl) ho,r⟩
 .by_cases hb:b=a
  .subst hb
   rw[aK] at e
   cases e
   exact new
  .rw[aR hb] at e
   refine(I.hok b u e).stay (λc v hc q=>k c v ?_ q) (λc q=>by rw[aR (aX q hn)];exact q) λc xs q=>by rw[aR (aX q hn)];exact q
   rcases hc with z | z
   .rw[z];exact nch b u e
   .exact nch c _ z
end
def Ite(K:Frag)(a:Addr):It :=
 ⟨λi H=>∃xs x,SqL K H a xs/\xs[i]?=some x,λi H v H'=>∃p x,v=.ref p/\H p=none/\H'=upd H p (.tup [.int i,x])/\∀xs,SqL K H a xs->xs[i]?=some x,λi H=>∃xs,SqL K H a xs/\xs.length<=i⟩
theorem Wg{P:Program}{w:World}{K:Frag}{es:List Expr}{kk:Nat}{tp:Pos}(a e it:Addr)(hne:e≠it):
  Turn P w K (.Tuple es kk tp) (Ite K a) [e,it] e (λi h=>(∃old,IsEnum h e it (i:Nat) old)/\h.IsListIter it a i) where
 mem:=by simp
 obj:=λi h st b hb=>by
  obtain⟨⟨old,s1⟩,s2⟩:=st
  rcases W9.mp hb with z | z
  .subst z
   exact⟨_,s1,λv q=>by
    have q':Data.fields _=Data.cell v:=q
    cases q'⟩
  .have z:b=it:=by simpa using z
   subst z
   obtain⟨o,e1,c,d⟩:=s2
   exact⟨o,e1,λv q=>by rw[d] at q;cases q⟩
 keep:=λi h h' st k=>by
  obtain⟨⟨old,s1⟩,s2⟩:=st
  exact⟨⟨old,k e (by simp) _ s1⟩,s2.at λo q=>k it (by simp) o q⟩
 item:=by
  intro X hP hw hK hc i pins s σ H E I hf st hg
  subst hP hw hK
  obtain⟨xs,x,hq,hx⟩:=hg
  obtain⟨⟨old,s1⟩,s2⟩:=st
  obtain⟨its,rv,p,hz⟩:=I.list hq
  obtain⟨u,hu,ru⟩:=rv.get hx
  refine wpAny_pyNext_enum_item s1 s2 p.isList (x:=u) (by simpa using hu) hne λh1 eo li tu sz kk'=>⟨_,rfl,wpAny_letOwnedTupleGo_enum eo λh2 ie sb=>?_⟩
  have hp:H s.heap.objs.size=none:=I.hok.fresh (Ww _)
  have lt1:e<s.heap.objs.size:=Wy s1
  have ne1:s.heap.objs.size≠e:=YD lt1
  have tu2:h2.get? s.heap.objs.size=some { cls:=.type "tuple",data:=.seq #[.int i s.toks,u] }:=(sb.2 _ ne1).trans tu
  have I2:Inv X pins σ (upd H s.heap.objs.size (.tup [.int i,x])) { s with heap:=h2,toks:=s.toks+1 }:=I.tX (ch:=[e,it]) hf (λb o hb q=>by
    have hb1:b≠e:=λz=>hb (by simp[z])
    have hb2:b≠it:=λz=>hb (by simp[z])
    exact(sb.2 b hb1).trans (kk' b o hb1 hb2 q)) (Ww _) ⟨by show 2<=sizeLine;decide,[.int i s.toks,u],.cons ⟨_,rfl⟩ (.cons ru .nil),_,tu2,rfl,0,rfl⟩
  refine⟨.ref s.heap.objs.size,_,I2,rfl,⟨_,x,rfl,hp,rfl,λys hy=>by rw[I.yC hy hq];exact hx⟩,⟨⟨u,?_⟩,?_⟩,λb hb=>?_⟩
  .have q:IsEnum h2 e it ((i:Int)+1) u:=ie
   rw[show ((i:Int)+1)=((i+1:Nat):Int) by omega] at q
   exact q
  .obtain⟨o,e1,r⟩:=li
   exact⟨o,(sb.2 it (XH hne)).trans e1,r⟩
  .have lt2:b<s.heap.objs.size:=by
    rcases W9.mp hb with z | z
    .rw[z];exact lt1
    .have z:b=it:=by simpa using z
     rw[z]
     obtain⟨o,e1,_⟩:=s2
     exact Wy e1
   rw[aR (WX lt2)]
   exact(hf b hb).1
 done:=by
  intro X hP hw hK hc i pins s σ H E I hf st hg
  subst hP hw hK
  obtain⟨xs,hq,hx⟩:=hg
  obtain⟨⟨old,s1⟩,s2⟩:=st
  obtain⟨its,rv,p,hz⟩:=I.list hq
  obtain⟨f0,f1,f2,f3,f4,f5⟩:=hf it (by simp)
  have hl:=rv.length
  exact wpAny_pyNext_enum_end (I.ok.hd hc) s1 s2 p.isList (by simp;omega) λh' eb=>⟨rfl,I.turned (t':=s.toks) (λb o hb q=>eb b o hb q) f0 f1 f3 f4 f5⟩
 self:=λ_ _ _ _ _ st h=>Y8 st.1.choose_spec h
section
variable{X:Cx}
def iEnum(K:Frag)(ta:TA):TI:=λσ H R=>ta σ H λvs H1=>∃a,vs=[.ref a]/\(∃xs,SqL K H1 a xs)/\R (Ite K a) H1
theorem pi_enum{es:List Expr}{kk:Nat}{tp:Pos}{l:Expr}{ta:TA}{p pos:Pos}(hg:Gl X "enumerate")(hm:X.mg "enumerate"=none)(ha:PA X [l] ta)(hs:starEach [l] X.env=[(false,eval l X.env)]:=by rfl):
  PI X (.Tuple es kk tp) (.Call (.Name "enumerate" p) [l] [] pos) (iEnum X.K ta):=by
 intro pins s σ H R I h
 refine Call_ (rZ I hg hm PyProof.Rows.boot_enumerate (Xl (thn (ha pos pins s σ H _ I h) λus s1 ⟨vs,H1,I1,r1,q1⟩=>?_) hs rfl))
 obtain⟨a,e,⟨xs,hq⟩,q⟩:=q1
 subst e
 cases r1 with
 | cons r rr =>
  cases rr
  cases r
  obtain⟨its,rv,pl,hz⟩:=I1.list hq
  refine call_enumerate_list pl.isList λh' ie li sz kp=>?_
  refine Y8 (it:=s1.heap.objs.size) (i:=0) (old:=.none) ie ?_
  have I2:Inv X pins σ H1 { s1 with heap:=h' }:=I1.kept (t':=s1.toks) kp
  refine⟨s1.heap.objs.size+1,[s1.heap.objs.size+1,s1.heap.objs.size],_,_,H1,rfl,I2,Wg a (s1.heap.objs.size+1) s1.heap.objs.size (Nat.succ_ne_self _),⟨⟨.none,ie⟩,li⟩,λb hb=>?_,q⟩
  have hb':s1.heap.objs.size<=b:=by
   rcases W9.mp hb with z | z
   .rw[z];exact Nat.le_succ _
   .have z:b=s1.heap.objs.size:=by simpa using z
    exact Nat.le_of_eq z.symm
  obtain⟨g1,g2,g3,g4,g5,g6⟩:=I1.fpOk hb' (I1.hok.fresh hb')
  exact⟨g1,g2,g3,g4,g5,g6⟩
end
open MX
section
variable{X:Cx}{CX:CXT}{k:Nat}{f C:Addr}{fd:FuncData}{ps:List Str}{sp:Sp}{dvs:List V}{ds:List Value}{E:XK}{x m:Str}{p pos apos:Pos}{e:Expr}{es:List Expr}{t:TA}
structure Cv(K:Frag)(C:Addr)(m:Str)(v:Value):Prop where
 sp:PySem.W.specialIn K (.ref C) "__getattribute__"=some (some (.builtin "type.__getattribute__"))
 rd:PySem.W.readsIn K C (.type "type")=true
 at_:PySem.W.findCls K (.ref C) (.type "type") m=some (.val v)
theorem Qt{pl:Sem Bool}(F:cP X.prog X.w X.K X.mg X.base CX k f fd ps sp)(hr:dX k X.A)(hg:Gl X x)(hm:X.mg x=some (.ref C))(ca:Cv X.K C m (.ref f))(hk:keepIn X.K (.ref f)=true)(hb:Binds X.K fd ps ds)(hd:Vals dvs ds)(hx:lu CX X E)
  (ha:PA X (e::es) t) (hdb:(x==("__debug__":Str))=false:=by decide) (he:starEach (e::es) X.env=(false,eval e X.env)::starEach es X.env:=by rfl) (hpl:(backTo pos (starEach es X.env)).any (·.1)=false:=by rfl)
  (ht:eval (.Call (.Attribute (.Name x p) m apos) (e::es) [] pos) X.env=(do
   let ov ←eval (.Name x p) X.env
   standAt apos.atName
   let (f,first) ←holding [ov] (getMethod ov m pl)
   callWith pos f first (backTo pos (starEach (e::es) X.env)) (backToKw pos (keywordEach [] X.env))):=by rfl) :
  PE X (.Call (.Attribute (.Name x p) m apos) (e::es) [] pos) (Gm sp dvs E t):=by
 intro pins s σ H Q I h
 refine X7 (pl:=pl) (yz I hg hm ?_ hdb) ht
 refine PySem.W.method_cls I.kIn ca.sp (PySem.W.cls_value I.kIn ca.rd ca.at_ rfl ?_)
 have I1:=I.tok (s.toks+1)
 refine Yi (first:=[]) (h₀:=X.base) I.ok.mod.kin hk (thn (ha pos pins _ σ H _ I1 h) λus s1 ⟨vs,H1,I2,r,q⟩=>⟨I2.kIn,?_⟩) he hpl
 exact Ah F hr hb hd hx I2 r q
end
def excP(n:Bool)(C:Addr)(dd:Option Addr)(e:Addr)(h:Heap):Prop:=∃o vs t,h.get? e=some o/\o.cls=.ref C/\o.dict=dd/\o.data=.fields vs/\vs[0]?=some (.ref t)/\(n=true->vs=#[.ref t,.none,.none,.none,.bool false,.none])
def xdP(fs:List (Str×V))(d:Addr)(h:Heap):Prop:=∃mA,h.Ns1 d mA/\(∀f,qW (fs.lookup f) (mA f))/\PySem.Within mA (fs.map (·.1))
abbrev HO.exc(n:Bool)(C:Addr)(dd:Option Addr)(e:Addr):HO:=.ext (excP n C dd e)
abbrev HO.xds(fs:List (Str×V))(d:Addr):HO:=.ext (xdP fs d)
section
variable{X:Cx}{o:Expr}
inductive TyX (K:Frag) (H:Hp):V->Value->Prop where
 | of {x:V} {t:Value} (h:zK K H x t):TyX K H x t
 | e0 {n:Bool} {a C:Addr} (h:H a=some (.exc n C none a)) (g:ExcGet K C):TyX K H (.ref a) (.ref C)
 | e1 {n:Bool} {a C d:Addr} {fs:List (Str×V)} (h:H a=some (.exc n C (some d) a)) (h':H d=some (.xds fs d)) (g:ExcGet K C):TyX K H (.ref a) (.ref C)
 | kt {a:Addr} {xs:List V} (h:SqT K H a xs):TyX K H (.ref a) (.type "tuple")
def clsV:V->Value
 | .ref C=>.ref C
 | .ty n=>.type n
 | _=>.none
def rIsi(K:Frag)(xs:List V)(H:Hp)(Q:VK):Prop:=∃x c t b,xs=[x,c]/\(c=.ref (match c with | .ref C=>C | _=>0)∨c=.ty (match c with | .ty n=>n | _=>""))/\TyX K H x t/\PySem.W.kitOne K t (clsV c)=some b/\Q (.bl b) H
theorem call_isi:jX X (.builtin "isinstance") (rIsi X.K):=by
 intro pins s σ H xs us Q I r h
 obtain⟨x,c,t,b,rfl,hc,ty,ek,q⟩:=h
 cases r with
 | @cons _ u _ _ rx rr =>
  cases rr with
  | @cons _ cu _ _ rc rr =>
   cases rr
   have ec:cu=clsV c:=by
    rcases hc with z | z <;> · rw[z] at rc ⊢;exact rc
   subst ec
   have fin:∀tk,EP X pins σ Q (.bool b) { s with toks:=tk }:=λtk=>⟨.bl b,H,I.tok tk,rfl,q⟩
   cases ty with
   | of ty=>exact Vz I rx ty ek fin
   | @e0 n a C hH G =>
    cases rx
    obtain⟨⟨ob,vs,t0,e1,e2,e3,e4,e5⟩,_,_⟩:=I.hok a _ hH
    have IA:PySem.W.InstAt s.heap a ob C none:=⟨e1,e2,by unfold PySem.W.notCls;rw[e4],by rw[e3];trivial⟩
    exact Xh (excKit G) I.kIn IA ek (λz=>nomatch z) fin
   | @e1 n a C d fs hH hD G =>
    cases rx
    obtain⟨⟨ob,vs,t0,e1,e2,e3,e4,e5⟩,_,_⟩:=I.hok a _ hH
    obtain⟨⟨mA,n1,rl,wi⟩,_,_⟩:=I.hok d _ hD
    obtain⟨oD,esD,epD,eD,_⟩:=n1
    have IA:PySem.W.InstAt s.heap a ob C (some oD):=⟨e1,e2,by unfold PySem.W.notCls;rw[e4],by rw[e3];exact eD⟩
    exact Xh (excKit G) I.kIn IA ek (λz=>nomatch z) fin
   | @kt a xs hs =>
    cases rx
    obtain⟨its,_,⟨o,h1,h2,_⟩,_⟩:=I.tuple hs
    exact Xh PySem.W.kitx_tuple I.kIn ⟨o,h1,h2⟩ ek (λz=>nomatch z) fin
end
end L2
namespace L2
open PySem PySem.Spec PyProof.Rows
mutual
inductive zr (K:Frag) (H:Hp):V->PyData->Prop
 | non:zr K H .non .none
 | bl (b:Bool):zr K H (.bl b) (.bool b)
 | int (i:Int):zr K H (.int i) (.int i)
 | str (x:Str):zr K H (.str x) (.str x)
 | lst {a:Addr} {xs:List V} {ds:List PyData} (h:SqL K H a xs) (r:iW K H xs ds):zr K H (.ref a) (.list ds)
 | tup {a:Addr} {xs:List V} {ds:List PyData} (h:SqT K H a xs) (r:iW K H xs ds):zr K H (.ref a) (.tuple ds)
inductive iW (K:Frag) (H:Hp):List V->List PyData->Prop
 | nil:iW K H [] []
 | cons {x:V} {xs:List V} {d:PyData} {ds:List PyData} (h:zr K H x d) (r:iW K H xs ds):iW K H (x::xs) (d::ds)
end
section
variable{X:Cx}{pins:List (Addr×Obj)}{σ:St}{H:Hp}{s:Shared}
mutual
theorem zr.reads(I:Inv X pins σ H s):∀{x:V}{d:PyData}{u:Value},zr X.K H x d->RelV x u->∃as,Reads s.heap u d as
 | _,_,_,.non,r=>by cases r;exact⟨_,.none⟩
 | _,_,_,.bl b,r=>by cases r;exact⟨_,.bool b⟩
 | _,_,_,.int i,r=>by obtain⟨t,rfl⟩:=r;exact⟨_,.int i t⟩
 | _,_,_,.str x,r=>by obtain⟨t,rfl⟩:=r;exact⟨_,.str x t⟩
 | _,_,_,.lst h q,r=>by
  cases r
  obtain⟨its,rv,p,_⟩:=I.list h
  obtain⟨as,z⟩:=iW.reads I q rv
  obtain⟨o,e,c,n,dd⟩:=p.isList
  exact⟨_,.list e c dd (by simpa using z)⟩
 | _,_,_,.tup h q,r=>by
  cases r
  obtain⟨its,rv,p,_⟩:=I.tuple h
  obtain⟨as,z⟩:=iW.reads I q rv
  obtain⟨o,e,c,n,dd⟩:=p
  exact⟨_,.tuple e c dd (by simpa using z)⟩
theorem iW.reads(I:Inv X pins σ H s):∀{xs:List V}{ds:List PyData}{us:List Value},iW X.K H xs ds->Vals xs us->∃as,ReadsAll s.heap us ds as
 | _,_,_,.nil,.nil=>⟨_,.nil⟩
 | _,_,_,.cons h q,.cons r rr=>by
  obtain⟨as,z⟩:=zr.reads I h r
  obtain⟨bs,y⟩:=iW.reads I q rr
  exact⟨_,.cons z y⟩
end
end
def rEqD(K:Frag)(neg:Bool):R2:=λx y H Q=>∃da db,zr K H x da/\zr K H y db/\da.canLay0=true/\db.canLay0=true/\da.depth<=50/\Q (.bl (PyData.eqv da db != neg)) H
section
variable{X:Cx}
theorem op_eqD(hu:X.A.units+64<cLine):OpR X (compareOp .Eq) (rEqD X.K false):=by
 intro pins s σ H x y v u Q I rx ry h
 obtain⟨da,db,d1,d2,c1,c2,dp,q⟩:=h
 obtain⟨as,r1⟩:=d1.reads I rx
 obtain⟨bs,r2⟩:=d2.reads I ry
 exact SeqAt.compareEq_reads r1 r2 c1 c2 (by omega) ⟨.bl (PyData.eqv da db),H,I,rfl,by simpa using q⟩
theorem op_neD(hu:X.A.units+64<cLine):OpR X (compareOp .NotEq) (rEqD X.K true):=by
 intro pins s σ H x y v u Q I rx ry h
 obtain⟨da,db,d1,d2,c1,c2,dp,q⟩:=h
 obtain⟨as,r1⟩:=d1.reads I rx
 obtain⟨bs,r2⟩:=d2.reads I ry
 exact SeqAt.compareNe_reads r1 r2 c1 c2 (by omega) ⟨.bl (!PyData.eqv da db),H,I,rfl,by simpa using q⟩
theorem op_mulS:OpR X (binaryOp .Mult) (λx y H Q=>∃i n,x=.str i/\y=.int n/\i.length<=1000/\0<=n/\n<=1000/\Q (.str (Txt.mul i n)) H):=by
 intro pins s σ H x y v u Q I rx ry h
 obtain⟨i,n,rfl,rfl,h1,h2,h3,q⟩:=h
 obtain⟨t,rfl⟩:=rx
 obtain⟨t',rfl⟩:=ry
 exact PySem.SB.mul (mulOk_of 1000 1000 h1 (by omega) (by omega) (by decide) (by decide)) λt'' k=>⟨.str (Txt.mul i n),H,I.tok k,⟨_,rfl⟩,q⟩
end
section
variable{κ:Type}[DecidableEq κ]
def xu(kvs:List (κ×V))(k:κ):Option V:=(kvs.find? λkv=>decide (kv.1=k)).map (·.2)
def putK(kvs:List (κ×V))(k:κ)(v:V):List (κ×V) :=
 if (kvs.any λkv=>decide (kv.1=k))=true then kvs.map (λkv=>if kv.1=k then (kv.1,v) else kv) else kvs++[(k,v)]
theorem yV{p:κ×V}{r:List (κ×V)}{k:κ}(e:p.1=k):xu (p::r) k=some p.2:=by simp[xu,List.find?_cons,e]
theorem yU{p:κ×V}{r:List (κ×V)}{k:κ}(e:¬p.1=k):xu (p::r) k=xu r k:=by simp[xu,List.find?_cons,e]
theorem GF(k:κ):∀kvs:List (κ×V),(kvs.any λkv=>decide (kv.1=k))=(xu kvs k).isSome
 | []=>rfl
 | p::r=>by
  rw[XS]
  by_cases e:p.1=k
  .simp only[yV e,decide_eq_true e,Bool.true_or,Option.isSome_some]
  .rw[yU e,Xk e,Bool.false_or];exact GF k r
theorem Br(kvs:List (κ×V))(k:κ)(v:V):(putK kvs k v).length<=kvs.length+1:=by
 unfold putK
 split
 .rw[Wx];omega
 .rw[W0,WP,List.length_nil];omega
theorem qW.zY{o:Option V}{u:Option Value}(r:qW o u):o.isSome=u.isSome:=by
 cases o with
 | none=>cases u with
  | none=>rfl
  | some _=>exact(show False from r).elim
 | some _=>cases u with
  | none=>exact(show False from r).elim
  | some _=>rfl
theorem qW.getD{o:Option V}{u:Option Value}{d:V}{d':Value}(r:qW o u)(rd:RelV d d'):RelV (o.getD d) (u.getD d'):=by
 cases o with
 | none=>cases u with
  | none=>exact rd
  | some _=>exact(show False from r).elim
 | some _=>cases u with
  | none=>exact(show False from r).elim
  | some _=>exact r
theorem KV.val{kvs:List (κ×V)}{vs:List (κ×Value)}(r:KV kvs vs)(k:κ):qW (xu kvs k) (valueAt vs k):=by
 unfold KV at r
 induction r with
 | nil=>exact True.intro
 | @cons p q ps qs h t ih =>
  obtain⟨h1,h2⟩:=h
  by_cases e:p.1=k
  .have e':q.1=k:=h1.symm.trans e
   have b:valueAt (q::qs) k=some q.2:=by simp[valueAt,List.find?_cons,e']
   rw[yV e,b];exact h2
  .have e':¬q.1=k:=λz=>e (h1.trans z)
   have b:valueAt (q::qs) k=valueAt qs k:=by simp[valueAt,List.find?_cons,e']
   rw[yU e,b];exact ih
theorem KV.any{kvs:List (κ×V)}{vs:List (κ×Value)}(r:KV kvs vs)(k:κ):(kvs.any λkv=>decide (kv.1=k))=vs.any λkv=>decide (kv.1=k):=by
 unfold KV at r
 induction r with
 | nil=>rfl
 | cons h t ih=>rw[XS,XS,ih,h.1]
theorem KV.repl{kvs:List (κ×V)}{vs:List (κ×Value)}(r:KV kvs vs)(k:κ){y:V}{u:Value}(ry:RelV y u):
  KV (kvs.map λkv=>if kv.1=k then (kv.1,y) else kv) (vs.map λkv=>if kv.1=k then (kv.1,u) else kv):=by
 unfold KV at r ⊢
 induction r with
 | nil=>exact .nil
 | @cons p q ps qs h t ih =>
  rw[WN,WN]
  refine .cons ?_ ih
  obtain⟨h1,h2⟩:=h
  by_cases e:p.1=k
  .rw[Wu e,Wu (h1.symm.trans e)];exact⟨h1,ry⟩
  .rw[WD e,WD (λz=>e (h1.trans z))];exact⟨h1,h2⟩
theorem KV.put{kvs:List (κ×V)}{vs:List (κ×Value)}(r:KV kvs vs)(k:κ){y:V}{u:Value}(ry:RelV y u):KV (putK kvs k y) (stored vs k u):=by
 unfold putK stored
 rw[r.any k]
 by_cases e:(vs.any λkv=>decide (kv.1=k))=true
 .rw[Wu e,Wu e];exact r.repl k ry
 .rw[WD e,WD e];exact Paired.snoc r ⟨rfl,ry⟩
theorem KV.length{kvs:List (κ×V)}{vs:List (κ×Value)}(r:KV kvs vs):kvs.length=vs.length:=Zr r
end
theorem P0{P:Program}{w:World}{k:Key}{u:Value}(r:RelV (kV k) u):(dY P w).is k u=true:=by
 cases k with
 | inl i=>obtain⟨t,e⟩:=(show ∃t,u=Value.int i t from r);subst e;exact Qh P w i t
 | inr x=>obtain⟨t,e⟩:=(show ∃t,u=Value.str x t from r);subst e;exact Qi P w x t
theorem Jo{P:Program}{w:World}:∀{ks:List Key}{us:List Value},Vals (ks.map kV) us->ItemsAre (dY P w) ks us
 | [],_,r=>by rw[List.map_nil] at r;cases r;exact .nil
 | k::ks,_,r=>by
  rw[WN] at r
  cases r with
  | cons h t=>exact .cons (P0 h) (Jo t)
abbrev KT(H:Hp):List (List Key×V)->List (List Key×Addr×Value)->Prop:=Paired λp q=>p.1=q.1/\H q.2.1=some (.tup (p.1.map kV))/\RelV p.2 q.2.2
theorem KT.val{H:Hp}{kvs:List (List Key×V)}{xs:List (List Key×Addr×Value)}(r:KT H kvs xs)(k:List Key):qW (xu kvs k) ((atKey xs k).map (·.2)):=by
 induction r with
 | nil=>exact True.intro
 | @cons p q ps qs h t ih =>
  obtain⟨h1,_,h2⟩:=h
  by_cases e:p.1=k
  .have e':q.1=k:=h1.symm.trans e
   have b:atKey (q::qs) k=some q.2:=by simp[atKey,List.find?_cons,e']
   rw[yV e,b];exact h2
  .have e':¬q.1=k:=λz=>e (h1.trans z)
   have b:atKey (q::qs) k=atKey qs k:=by simp[atKey,List.find?_cons,e']
   rw[yU e,b];exact ih
theorem KT.repl{H:Hp}{kvs:List (List Key×V)}{xs:List (List Key×Addr×Value)}(r:KT H kvs xs)(k:List Key){y:V}{u:Value}(ry:RelV y u):
  KT H (kvs.map λkv=>if kv.1=k then (kv.1,y) else kv) (xs.map (putAt k u)):=by
 induction r with
 | nil=>exact .nil
 | @cons p q ps qs h t ih =>
  rw[WN,WN]
  refine .cons ?_ ih
  obtain⟨h1,h2,h3⟩:=h
  unfold putAt
  by_cases e:p.1=k
  .rw[Wu e,Wu (h1.symm.trans e)];exact⟨h1,h2,ry⟩
  .rw[WD e,WD (λz=>e (h1.trans z))];exact⟨h1,h2,h3⟩
theorem KT.put{H:Hp}{kvs:List (List Key×V)}{xs:List (List Key×Addr×Value)}(r:KT H kvs xs)(k:List Key){b:Addr}{y:V}{u:Value}(hb:H b=some (.tup (k.map kV)))(ry:RelV y u):
  KT H (putK kvs k y) (storedH xs k b u):=by
 have e:(kvs.any λkv=>decide (kv.1=k))=(atKey xs k).isSome:=by
  rw[GF,(r.val k).zY,Option.isSome_map]
 unfold putK storedH
 rw[e]
 by_cases q:(atKey xs k).isSome=true
 .rw[Wu q,Wu q];exact r.repl k ry
 .rw[WD q,WD q];exact Paired.snoc r ⟨rfl,hb,ry⟩
theorem KT.keeps{H H':Hp}{kvs:List (List Key×V)}{xs:List (List Key×Addr×Value)}(r:KT H kvs xs)(ht:∀b ys,H b=some (.tup ys)->H' b=some (.tup ys)):KT H' kvs xs :=
 Paired.mapP r λ_ _ z=>⟨z.1,ht _ _ z.2.1,z.2.2⟩
section
variable{P:Program}{w:World}{H:Hp}{h:Heap}{a:Addr}
theorem rd_of{u:HO}(ok:HOk P w H h)(e:Rd H a u):dF P w H h a u:=e.ok ok
theorem Jb{kvs:List (Key×V)}(ok:HOk P w H h)(e:Rd H a (.dK kvs)):kvs.length<=sizeLine/\(a==sysModules)=false/\∃vs,KV kvs vs/\h.DictOf (dY P w) a vs :=
 show dF P w H h a (.dK kvs) from rd_of ok e
theorem dk_of{kvs:List (Key×V)}(ok:HOk P w H h)(e:H a=some (.dK kvs)):kvs.length<=sizeLine/\(a==sysModules)=false/\∃vs,KV kvs vs/\h.DictOf (dY P w) a vs:=Jb ok (.inl e)
theorem Fd{ks:List Key}(ok:HOk P w H h)(e:H a=some (.tup (ks.map kV))):(tupleKind (dY P w)).is h ks a:=by
 obtain⟨_,its,r,o,h1,h2,n,h3⟩:=(show dF P w H h a (.tup (ks.map kV)) from ok a _ e)
 exact⟨o,its.toArray,n,h1,h2,h3,by simpa using Jo r⟩
theorem Ef{kvs:List (List Key×V)}(ok:HOk P w H h)(e:Rd H a (.dT kvs)):kvs.length<=sizeLine/\(a==sysModules)=false /\
  ∃xs,KT H kvs xs/\h.DictOfH (tupleKind (dY P w)) a xs:=by
 obtain⟨z,y,xs,r,o,es,ep,h1,h2,h3,h4,h5⟩:=(show dF P w H h a (.dT kvs) from rd_of ok e)
 refine⟨z,y,xs,r,o,es,ep,h1,h2,h3,h4,λx hx=>?_,h5⟩
 have all:∀{l:List (List Key×V)}{m:List (List Key×Addr×Value)},KT H l m->∀x∈m,(tupleKind (dY P w)).is h x.1 x.2.1:=by
  intro l m q
  induction q with
  | nil=>intro x hx;exact nomatch hx
  | @cons p q ps qs hq t ih =>
   intro x hx
   rcases W9.mp hx with e | hx
   .subst e
    exact Fd ok (by rw[←hq.1];exact hq.2.1)
   .exact ih x hx
 exact all r x hx
theorem dt_of{kvs:List (List Key×V)}(ok:HOk P w H h)(e:H a=some (.dT kvs)):kvs.length<=sizeLine/\(a==sysModules)=false /\
  ∃xs,KT H kvs xs/\h.DictOfH (tupleKind (dY P w)) a xs:=Ef ok (.inl e)
end
def zf(H:Hp)(a:Addr)(y:V)(r:Option V):Prop :=
 (∃kvs k,Rd H a (.dK kvs)/\y=kV k/\r=xu kvs k)∨∃kvs k b,Rd H a (.dT kvs)/\y=.ref b/\H b=some (.tup (k.map kV))/\r=xu kvs k
def DPut(H:Hp)(a:Addr)(y v:V)(H':Hp):Prop :=
 (∃kvs k,H a=some (.dK kvs)/\y=kV k/\kvs.length<sizeLine/\H'=upd H a (.dK (putK kvs k v))) ∨
 ∃kvs k b,H a=some (.dT kvs)/\y=.ref b/\H b=some (.tup (k.map kV))/\kvs.length<sizeLine/\H'=upd H a (.dT (putK kvs k v))
theorem zf.t{H:Hp}{a b:Addr}{kvs:List (List Key×V)}{k:List Key}(e:H a=some (.dT kvs))(eb:H b=some (.tup (k.map kV))):zf H a (.ref b) (xu kvs k):=.inr ⟨kvs,k,b,.inl e,rfl,eb,rfl⟩
theorem DPut.t{H:Hp}{a b:Addr}{kvs:List (List Key×V)}{k:List Key}{v:V}(e:H a=some (.dT kvs))(eb:H b=some (.tup (k.map kV)))(hl:kvs.length<sizeLine):
  DPut H a (.ref b) v (upd H a (.dT (putK kvs k v))):=.inr ⟨kvs,k,b,e,rfl,eb,hl,rfl⟩
section
variable{X:Cx}{pins:List (Addr×Obj)}{σ:St}{H:Hp}{s:Shared}{a:Addr}{y v:V}{u r:Value}{o:Option V}{A:Around}{E:Value->Shared->Prop}
theorem Inv.big(I:Inv X pins σ H s):sysModules<s.heap.objs.size:=by
 have h:mainGlobals<s.heap.objs.size:=(I.mod.glob.keeps I.bk).lt
 exact YF (by decide) h
theorem Vi{Q:Value->Shared->Prop}(hu:A.units+1<cLine)(I:Inv X pins σ H s)(g:zf H a y (some v))(ry:RelV y u)(h:∀w' s',Inv X pins σ H s'->RelV v w'->Q w' s'):
  wpAny (model X.prog X.w) A (getItem (.ref a) u) Q E s:=by
 rcases g with⟨kvs,k,e,ey,l⟩| ⟨kvs,k,b,e,ey,eb,l⟩
 .subst ey
  obtain⟨z,hd,vs,rel,dd⟩:=Jb I.hok e
  obtain⟨w',hw,rw'⟩:=qW.some_of (v:=v) (o:=valueAt vs k) (by rw[l];exact rel.val k)
  exact wpAny_getItem_of (P0 ry) dd.mapOf hw (h w' _ (I.tok _) rw')
 .subst ey
  cases (show u=Value.ref b from ry)
  obtain⟨z,hd,xs,rel,dd⟩:=Ef I.hok e
  obtain⟨w',hw,rw'⟩:=qW.some_of (v:=v) (o:=(atKey xs k).map (·.2)) (by rw[l];exact rel.val k)
  obtain⟨p,hp,hp2⟩:=WF.mp hw
  refine wpAny_getItem_heap (YX hu) (Fd I.hok eb) dd hp ?_
  rw[hp2]
  exact h w' _ (I.tok _) rw'
theorem d_notIn{Q:Value->Shared->Prop}(hu:A.units+1<cLine)(I:Inv X pins σ H s)(g:zf H a y o)(ry:RelV y u)(h:∀s',Inv X pins σ H s'->Q (.bool (!o.isSome)) s'):
  wpAny (model X.prog X.w) A (compareOp .NotIn u (.ref a)) Q E s:=by
 rcases g with⟨kvs,k,e,ey,l⟩| ⟨kvs,k,b,e,ey,eb,l⟩
 .subst ey
  obtain⟨z,hd,vs,rel,dd⟩:=Jb I.hok e
  refine wpAny_notIn_of (P0 ry) hd dd.mapOf ?_
  rw[←(rel.val k).zY,←l]
  exact h _ (I.tok _)
 .subst ey
  cases (show u=Value.ref b from ry)
  obtain⟨z,hd,xs,rel,dd⟩:=Ef I.hok e
  refine wpAny_notIn_heap (YX hu) (Fd I.hok eb) hd dd ?_
  have q:=(rel.val k).zY
  rw[Option.isSome_map] at q
  rw[←q,←l]
  exact h _ (I.tok _)
theorem T9{h':Heap}{t':Nat}{ob:HO}(I:Inv X pins σ H s)(mu:Mut (H a))(hs:Heap.SameBut a s.heap h')(he:∃q,h'.get? a=some q)(new:dF X.prog X.w (upd H a ob) h' a ob):
  Inv X pins σ (upd H a ob) { s with heap:=h',toks:=t' } :=
 I.write (x:=a) (e:=a) mu (.inl rfl) (λb q hb z=>(hs.2 b hb).trans z) he new
theorem dk_new{P:Program}{w:World}{H':Hp}{h':Heap}{kvs:List (Key×V)}{vs:List (Key×Value)}(z:kvs.length<=sizeLine)(hd:(a==sysModules)=false)(rel:KV kvs vs)(dd:h'.DictOf (dY P w) a vs):
  dF P w H' h' a (.dK kvs):=⟨z,hd,vs,rel,dd⟩
theorem Vj{H':Hp}{Q:Unit->Shared->Prop}(hu:A.units+1<cLine)(I:Inv X pins σ H s)(g:DPut H a y v H')(ry:RelV y u)(rv:RelV v r)(h:∀s',Inv X pins σ H' s'->Q () s'):
  wpAny (model X.prog X.w) A (setItem (.ref a) u r) Q E s:=by
 rcases g with⟨kvs,k,e,ey,l,eH⟩| ⟨kvs,k,b,e,ey,eb,l,eH⟩
 .subst ey eH
  obtain⟨z,hd,vs,rel,dd⟩:=dk_of I.hok e
  have hz:vs.length<=sizeLine:=by rw[←rel.length];exact z
  have hl:(putK kvs k v).length<=sizeLine:=by have:=Br kvs k v;omega
  refine wpAny_setItem_pairs (hsz:=hz) (P0 ry) dd λh' dd' hs=>h _ ?_
  have he:∃q,h'.get? a=some q:=let ⟨q,_,_,hq,_⟩:=dd';⟨q,hq⟩
  exact T9 I (by rw[e];exact True.intro) hs he (dk_new hl hd (rel.put k rv) dd')
 .subst ey eH
  cases (show u=Value.ref b from ry)
  obtain⟨z,hd,xs,rel,dd⟩:=dt_of I.hok e
  have hz:xs.length<=sizeLine:=by rw[←Zr rel];exact z
  have hl:(putK kvs k v).length<=sizeLine:=by have:=Br kvs k v;omega
  refine wpAny_setItem_heap (hsz:=hz) (YX hu) (Fd I.hok eb) dd λh' dd' hs=>h _ ?_
  obtain⟨q,es,ep,hq,h2,h3,h4,_,h5⟩:=dd'
  refine T9 I (by rw[e];exact True.intro) hs ⟨q,hq⟩ ⟨hl,hd,_,(rel.put k eb rv).keeps λc ys ec=>?_,q,es,ep,hq,h2,h3,h4,h5⟩
  rw[aR (ne_of ec e (λz=>nomatch z))]
  exact ec
end
def NoSl(i:Expr):Prop:=∀ov iv,subscripted i false ov iv=operate [ov,iv] (getItem ov iv)
theorem subD_of{prog:Program}{w:World}{A:Around}{E:Value->Shared->Prop}{s:Shared}{env:Env}{value slice:Expr}{pos:Pos}{T id:String}{Q:Value->Shared->Prop}
  (hl:typeLookup (.type T) "__getitem__"=pure (some (.builtin id))) (hs:NoSl slice)
  (h:wpAny (model prog w) A (eval value env) (λo s₁=>wpAny (model prog w) A (eval slice env) (λi s₂=>s₂.TypeIs o T/\wpAny (model prog w) A (getItem o i) Q E s₂) E s₁) E s) :
  wpAny (model prog w) A (eval (.Subscript value slice pos) env) Q E s:=by
 refine Subscript_ (Xx h (λo s₁ h₁=>Xx h₁ (λi s₂ h₂=>?_) λ_ _ x=>x) λ_ _ x=>x)
 obtain⟨hT,h₂⟩:=h₂
 unfold subscriptTail
 refine Wr ?_
 rw[getitemInPython_of_ne hT.not_modules]
 refine Wr (wpAny_specialOf hT hl ?_)
 have fin:wpAny (model prog w) A (subscripted slice false o i) (λr s₃=>wpAny (model prog w) A (letTemporaryGo value o r >>= λ_=>pure r) Q E s₃) E s₂:=by
  rw[hs o i]
  exact wpAny_operating (Xx h₂ (λr s₃ h₃=>Wr (wpAny_letTemporaryGo (WM h₃))) λ_ _ x=>x)
 first
  | exact WM (Wr fin)
  | exact Wr (WM (Wr fin))
  | exact Wr fin
theorem Pg{X:Cx}{pins:List (Addr×Obj)}{σ:St}{H:Hp}{s:Shared}{a:Addr}{y:V}{o:Option V}(I:Inv X pins σ H s)(g:zf H a y o):s.TypeIs (.ref a) "dict":=by
 rcases g with⟨kvs,k,e,_,_⟩| ⟨kvs,k,b,e,_,_,_⟩
 .obtain⟨_,_,vs,_,dd⟩:=Jb I.hok e
  exact dd.typeIs
 .obtain⟨_,_,xs,_,dd⟩:=Ef I.hok e
  exact dd.typeIs
def tDGet(td ty:TE):TE:=λσ H Q=>td σ H λx H1=>ty σ H1 λy H2=>∃a v,x=.ref a/\zf H2 a y (some v)/\Q v H2
def tDNotIn(ty td:TE):TE:=λσ H Q=>ty σ H λy H1=>td σ H1 λx H2=>∃a o,x=.ref a/\zf H2 a y o/\Q (.bl (!o.isSome)) H2
def sDPut(td ty tv:TE):TS:=λD σ H=>tv σ H λv H1=>td σ H1 λx H2=>ty σ H2 λy H3=>∃a H4,x=.ref a/\DPut H3 a y v H4/\D.nx σ H4
section
variable{X:Cx}{o i value:Expr}{pos pos':Pos}{td ty tv:TE}
theorem pe_dget(hu:X.A.units+1<cLine)(ho:PE X o td)(hi:PE X i ty)(hs:NoSl i):PE X (.Subscript o i pos) (tDGet td ty):=by
 intro pins s σ H Q I h
 refine subD_of PySem.F.slot_dict_getitem.lookup hs (thn (ho pins s σ H _ I h) λu s1 ⟨x,H1,I1,rx,q1⟩=>thn (hi pins s1 σ H1 _ I1 q1) λiv s2 ⟨y,H2,I2,ry,a,v,ex,g,q2⟩=>?_)
 subst ex
 obtain rfl:u=Value.ref a:=rx
 exact⟨Pg I2 g,Vi hu I2 g ry λw' s3 I3 rw'=>⟨v,H2,I3,rw',q2⟩⟩
theorem V1(hu:X.A.units+1<cLine)(hi:PE X i ty)(ho:PE X o td):PC X .NotIn i o (tDNotIn ty td):=by
 intro pins s σ H Q I h
 refine thn (hi pins s σ H _ I h) λiv s1 ⟨y,H1,I1,ry,q1⟩=>thn (ho pins s1 σ H1 _ I1 q1) λu s2 ⟨x,H2,I2,rx,a,ov,ex,g,q2⟩=>?_
 subst ex
 obtain rfl:u=Value.ref a:=rx
 exact d_notIn hu I2 g ry λs3 I3=>⟨.bl (!ov.isSome),H2,I3,rfl,q2⟩
theorem ps_dput(hu:X.A.units+1<cLine)(ho:PE X o td)(hi:PE X i ty)(hv:PE X value tv)(hs:swapsWith value (some (.Subscript o i pos')) pos.line X.env=pure false):
  PS X (.Assign [.Subscript o i pos'] value pos) (sDPut td ty tv):=by
 intro pins s σ H D I h
 refine wpAny_Assign_Subscript (thn (hv pins s σ H _ I h) λr s1 ⟨v,H1,I1,rv,q1⟩=>thn (ho pins s1 σ H1 _ I1 q1) λu s2 ⟨x,H2,I2,rx,q2⟩=>thn (hi pins s2 σ H2 _ I2 q2) λiv s3 ⟨y,H3,I3,ry,a,H4,ex,g,q3⟩=>?_) hs
 subst ex
 obtain rfl:u=Value.ref a:=rx
 exact Vj hu I3 g ry rv λs4 I4=>⟨σ,H4,I4,q3⟩
end
theorem dt_empty{P:Program}{w:World}{H:Hp}(h:Heap)(hb:sysModules<h.objs.size):dF P w H (h.push { cls:=.type "dict",data:=.dict #[] }) h.objs.size (.dT []) :=
 ⟨Xq _,W3.mpr (XH (WX hb)),[],.nil,_,#[],0,WK _ rfl,⟨rfl,rfl,rfl⟩,rfl,rfl,List.nodup_nil⟩
def tDNewT:TE:=λ_ H Q=>∀p,H p=none->Q (.ref p) (upd H p (.dT []))
section
variable{X:Cx}{pos:Pos}
theorem pe_dnewT:PE X (.Dict [] [] pos) tDNewT:=λpins s σ H Q I h =>
 wpAny_Dict_empty ⟨.ref s.heap.objs.size,_,I.laid (a:=s.heap.objs.size) (o:=.dT []) (t':=s.toks) (λ_ _ q=>Wt _ q) (Ww _) (dt_empty s.heap I.big),rfl,h _ (I.hok.fresh (Ww _))⟩
end
structure M2(X:Cx)(o:Expr)(m:Str)(apos:Pos)(e f:Expr)(cpos:Pos):Prop where
 base:attributeBase o m X.env (eval o X.env)=eval o X.env
 few:((backTo cpos (starEach [e,f] X.env)).all (λx=>!x.1) && (backToKw cpos (keywordEach [] X.env)).all (λx=>x.1.isSome)
  && decide (([e,f]:List Expr).length+([]:List Keyword).length+(if ([]:List Keyword).isEmpty then 0 else 1)<30))=true
 line:(apos.endLine==cpos.line)=true
 trees:backTo cpos (starEach [e,f] X.env)=[(false,eval e X.env),(false,eval f X.env)]
def IsD(H:Hp)(a:Addr):Prop:=(∃kvs,Rd H a (.dK kvs))∨∃kvs,Rd H a (.dT kvs)
theorem isD_at{X:Cx}{pins:List (Addr×Obj)}{σ:St}{H:Hp}{s:Shared}{a:Addr}(I:Inv X pins σ H s)(d:IsD H a):
  s.TypeIs (.ref a) "dict"/\(∀b,Value.ref a=.ref b->∃ob,s.heap.get? b=some ob/\ob.dict=none)/\(a==sysModules)=false:=by
 rcases d with⟨kvs,e⟩| ⟨kvs,e⟩
 .obtain⟨_,hd,vs,_,dd⟩:=Jb I.hok e
  refine⟨dd.typeIs,λb q=>?_,hd⟩
  cases q
  obtain⟨ob,_,_,h1,h2,_⟩:=dd
  exact⟨ob,h1,h2.2.1⟩
 .obtain⟨_,hd,xs,_,dd⟩:=Ef I.hok e
  refine⟨dd.typeIs,λb q=>?_,hd⟩
  cases q
  obtain⟨ob,_,_,h1,h2,_⟩:=dd
  exact⟨ob,h1,h2.2.1⟩
section
variable{X:Cx}{pins:List (Addr×Obj)}{σ:St}{H:Hp}{s:Shared}{a:Addr}{y d:V}{u r:Value}{o:Option V}{A:Around}{E:Value->Shared->Prop}
theorem d_get2{Q:Value->Shared->Prop}(hu:A.units+1<cLine)(I:Inv X pins σ H s)(g:zf H a y o)(ry:RelV y u)(rd:RelV d r)(h:∀w' s',Inv X pins σ H s'->RelV (o.getD d) w'->Q w' s'):
  wpAny (model X.prog X.w) A (call (.builtin "dict.get") [.ref a,u,r]) Q E s:=by
 rcases g with⟨kvs,k,e,ey,l⟩| ⟨kvs,k,b,e,ey,eb,l⟩
 .subst ey
  obtain⟨z,hd,vs,rel,dd⟩:=Jb I.hok e
  refine call_meetsIn Zc dd.typeIs PySem.F.entry_dict_get (PySem.F.args_dict_get_3 _ _ _) (meets_dict_get_default (dY X.prog X.w) a (P0 ry) hd r) ⟨_,dd.mapOf,h _ _ (I.tok _) ?_⟩
  rw[l]
  exact(rel.val k).getD rd
 .subst ey
  cases (show u=Value.ref b from ry)
  obtain⟨z,hd,xs,rel,dd⟩:=Ef I.hok e
  refine call_meetsIn Zc dd.typeIs PySem.F.entry_dict_get (PySem.F.args_dict_get_3 _ _ _) (meetsH_dict_get_default (tupleKind (dY X.prog X.w)) a b hd r) ⟨YX hu,k,xs,Fd I.hok eb,dd,h _ _ (I.tok _) ?_⟩
  rw[l]
  exact(rel.val k).getD rd
end
def tDGet2(td ty tx:TE):TE:=λσ H Q=>td σ H λx H1=>∃a,x=.ref a/\IsD H1 a/\ty σ H1 λy H2=>tx σ H2 λz H3=>∃o,zf H3 a y o/\Q (o.getD z) H3
section
variable{X:Cx}{o e f:Expr}{apos cpos:Pos}{td ty tx:TE}
theorem pe_dget2(hu:X.A.units+1<cLine)(ho:PE X o td)(he:PE X e ty)(hf:PE X f tx)(m:M2 X o "get" apos e f cpos):PE X (.Call (.Attribute o "get" apos) [e,f] [] cpos) (tDGet2 td ty tx):=by
 intro pins s σ H Q I h
 refine wpAny_Call_method m.base m.few m.line PySem.F.plainAttrs_dict Zc PySem.F.type_dict_get (thn (ho pins s σ H _ I h) λu s1 ⟨x,H1,I1,rx,a,ex,d,q1⟩=>?_)
 subst ex
 obtain rfl:u=Value.ref a:=rx
 obtain⟨t1,t2,_⟩:=isD_at I1 d
 refine⟨t1,t2,?_⟩
 rw[m.trees]
 refine Zj rfl (Calls.evalArgs_plain (Yo (thn (he pins s1 σ H1 _ I1 q1) λiv s2 ⟨y,H2,I2,ry,q2⟩ =>
  Yo (thn (hf pins s2 σ H2 _ I2 q2) λfv s3 ⟨z,H3,I3,rz,ov,g,q3⟩=>Zb ?_))))
 exact d_get2 hu I3 g ry rz λw' s4 I4 rw'=>⟨_,H3,I4,rw',q3⟩
end
end L2
namespace DL
open PySem PySem.Spec PyProof.Rows MX L2
inductive D where
 | non | bl (b:Bool) | int (i:Int) | str (x:Str) | ty (n:String) | cls (c:Nat)
 | lst (xs:List D) | tup (xs:List D) | rol (xs:List D) | rot (xs:List D)
 | dK (kvs:List (Key×D)) | dT (kvs:List (List Key×D))
 | obj (c:Nat) (fs:List (Str×D)) | exc (c:Nat) (fs:List (Str×D))
inductive Out (α:Type) where
 | ok (a:α) | ex (x:D) | stuck
namespace Out
noncomputable def bind{α β:Type}(o:Out α)(k:α->Out β):Out β:=match o with
 | .ok a=>k a
 | .ex x=>.ex x
 | .stuck=>.stuck
def opt{α:Type}:Option α->Out α
 | some a=>.ok a
 | none=>.stuck
def bw{α:Type}:Out α->Out α
 | .ok a=>.ok a
 | _=>.stuck
@[simp] theorem aQ{α β:Type}(a:α)(k:α->Out β):(Out.ok a).bind k=k a:=rfl
@[simp] theorem Kv{α β:Type}(x:D)(k:α->Out β):(Out.ex x).bind k=.ex x:=rfl
@[simp] theorem wR{α β:Type}(k:α->Out β):(Out.stuck:Out α).bind k=.stuck:=rfl
@[simp] theorem jC{α:Type}(a:α):opt (some a)=.ok a:=rfl
@[simp] theorem Qs{α:Type}:(opt none:Out α)=.stuck:=rfl
@[simp] theorem sG{α:Type}(a:α):bw (Out.ok a)=.ok a:=rfl
end Out
def wpO{α:Type}(o:Out α)(P:α->Prop)(R:D->Prop):Prop:=match o with
 | .ok a=>P a
 | .ex x=>R x
 | .stuck=>False
theorem ao{α β:Type}{o:Out α}{k:α->Out β}{P:β->Prop}{R:D->Prop}(h:wpO (o.bind k) P R):wpO o (λa=>wpO (k a) P R) R:=by
 cases o <;> exact h
theorem wpO.mono{α:Type}{o:Out α}{P P':α->Prop}{R R':D->Prop}(h:wpO o P R)(k:∀a,P a->P' a)(r:∀x,R x->R' x):wpO o P' R':=by
 cases o with
 | ok a=>exact k a h
 | ex x=>exact r x h
 | stuck=>exact h
theorem bC{α:Type}{o:Option α}{P:α->Prop}{R:D->Prop}(h:wpO (Out.opt o) P R):∃a,o=some a/\P a:=by
 cases o with
 | none=>exact Wn h
 | some a=>exact⟨a,rfl,h⟩
theorem cU{α:Type}{o:Out α}{P:α->Prop}{R R':D->Prop}(h:wpO o.bw P R):wpO o P R':=by
 cases o with
 | ok a=>exact h
 | ex x=>exact Wn h
 | stuck=>exact h
section
variable(K:Frag)(Γ:Nat->Option Addr)
mutual
inductive Rep (G:Hp):V->D->Prop
 | non:Rep G .non .non
 | bl (b:Bool):Rep G (.bl b) (.bl b)
 | int (i:Int):Rep G (.int i) (.int i)
 | str (x:Str):Rep G (.str x) (.str x)
 | ty (n:String):Rep G (.ty n) (.ty n)
 | cls {c:Nat} {C:Addr} (h:Γ c=some C):Rep G (.ref C) (.cls c)
 | lst {a:Addr} {vs:List V} {ds:List D} (h:G a=some (.lst vs)) (r:au G vs ds):Rep G (.ref a) (.lst ds)
 | tup {a:Addr} {vs:List V} {ds:List D} (h:G a=some (.tup vs)) (r:au G vs ds):Rep G (.ref a) (.tup ds)
 | rol {a:Addr} {vs:List V} {ds:List D} (h:SqL K G a vs) (r:au G vs ds):Rep G (.ref a) (.rol ds)
 | rot {a:Addr} {vs:List V} {ds:List D} (h:SqT K G a vs) (r:au G vs ds):Rep G (.ref a) (.rot ds)
 | dK {a:Addr} {kvs:List (Key×V)} {kds:List (Key×D)} (h:G a=some (.dK kvs)) (r:nU G kvs kds):Rep G (.ref a) (.dK kds)
 | dT {a:Addr} {kvs:List (List Key×V)} {kds:List (List Key×D)} (h:G a=some (.dT kvs)) (r:dM G kvs kds):Rep G (.ref a) (.dT kds)
 | obj {a:Addr} {c:Nat} {C dx:Addr} {fs:List (Str×V)} {fds:List (Str×D)} (h:G a=some (.ins C dx fs)) (g:Γ c=some C) (r:dG G fs fds):Rep G (.ref a) (.obj c fds)
 | e0 {n:Bool} {a:Addr} {c:Nat} {C:Addr} (h:G a=some (.exc n C none a)) (g:Γ c=some C):Rep G (.ref a) (.exc c [])
 | e1 {n:Bool} {a:Addr} {c:Nat} {C d:Addr} {fs:List (Str×V)} {fds:List (Str×D)} (h:G a=some (.exc n C (some d) a)) (h':G d=some (.xds fs d)) (g:Γ c=some C) (r:dG G fs fds):Rep G (.ref a) (.exc c fds)
inductive au (G:Hp):List V->List D->Prop
 | nil:au G [] []
 | cons {v:V} {vs:List V} {d:D} {ds:List D} (h:Rep G v d) (r:au G vs ds):au G (v::vs) (d::ds)
inductive dG (G:Hp):List (Str×V)->List (Str×D)->Prop
 | nil:dG G [] []
 | cons {f:Str} {v:V} {fs:List (Str×V)} {d:D} {fds:List (Str×D)} (h:Rep G v d) (r:dG G fs fds):dG G ((f,v)::fs) ((f,d)::fds)
inductive nU (G:Hp):List (Key×V)->List (Key×D)->Prop
 | nil:nU G [] []
 | cons {k:Key} {v:V} {fs:List (Key×V)} {d:D} {fds:List (Key×D)} (h:Rep G v d) (r:nU G fs fds):nU G ((k,v)::fs) ((k,d)::fds)
inductive dM (G:Hp):List (List Key×V)->List (List Key×D)->Prop
 | nil:dM G [] []
 | cons {k:List Key} {v:V} {fs:List (List Key×V)} {d:D} {fds:List (List Key×D)} (h:Rep G v d) (r:dM G fs fds):dM G ((k,v)::fs) ((k,d)::fds)
end
end
section
variable{K:Frag}{Γ:Nat->Option Addr}{G G':Hp}
theorem SqT.same(e:aP G G'){a:Addr}{xs:List V}(h:SqT K G a xs):SqT K G' a xs:=by
 rcases h with h | h
 .rcases h with h | ⟨o,h⟩
  .exact .inl (.inl (e _ _ h))
  .exact .inl (.inr ⟨o,e _ _ h⟩)
 .exact .inr h
mutual
theorem Rep.mono(e:aP G G'):∀{v:V}{d:D},Rep K Γ G v d->Rep K Γ G' v d
 | _,_,.non=>.non
 | _,_,.bl b=>.bl b
 | _,_,.int i=>.int i
 | _,_,.str x=>.str x
 | _,_,.ty n=>.ty n
 | _,_,.cls h=>.cls h
 | _,_,.lst h r=>.lst (e _ _ h) (au.mono e r)
 | _,_,.tup h r=>.tup (e _ _ h) (au.mono e r)
 | _,_,.rol h r=>.rol (e.seq h) (au.mono e r)
 | _,_,.rot h r=>.rot (SqT.same e h) (au.mono e r)
 | _,_,.dK h r=>.dK (e _ _ h) (nU.mono e r)
 | _,_,.dT h r=>.dT (e _ _ h) (dM.mono e r)
 | _,_,.obj h g r=>.obj (e _ _ h) g (dG.mono e r)
 | _,_,.e0 h g=>.e0 (e _ _ h) g
 | _,_,.e1 h h' g r=>.e1 (e _ _ h) (e _ _ h') g (dG.mono e r)
theorem au.mono(e:aP G G'):∀{v:List V}{d:List D},au K Γ G v d->au K Γ G' v d
 | _,_,.nil=>.nil
 | _,_,.cons h r=>.cons (Rep.mono e h) (au.mono e r)
theorem dG.mono(e:aP G G'):∀{v:List (Str×V)}{d:List (Str×D)},dG K Γ G v d->dG K Γ G' v d
 | _,_,.nil=>.nil
 | _,_,.cons h r=>.cons (Rep.mono e h) (dG.mono e r)
theorem nU.mono(e:aP G G'):∀{v:List (Key×V)}{d:List (Key×D)},nU K Γ G v d->nU K Γ G' v d
 | _,_,.nil=>.nil
 | _,_,.cons h r=>.cons (Rep.mono e h) (nU.mono e r)
theorem dM.mono(e:aP G G'):∀{v:List (List Key×V)}{d:List (List Key×D)},dM K Γ G v d->dM K Γ G' v d
 | _,_,.nil=>.nil
 | _,_,.cons h r=>.cons (Rep.mono e h) (dM.mono e r)
end
theorem au.length:∀{vs:List V}{ds:List D},au K Γ G vs ds->vs.length=ds.length
 | _,_,.nil=>rfl
 | _,_,.cons _ r=>by rw[WP,WP,r.length]
theorem au.get:∀{vs:List V}{ds:List D}{i:Nat}{d:D},au K Γ G vs ds->ds[i]?=some d->∃v,vs[i]?=some v/\Rep K Γ G v d
 | _,_,_,_,.nil,e=>by simp at e
 | _,_,0,_,.cons h _,e=>by simp at e;subst e;exact⟨_,rfl,h⟩
 | _,_,i+1,d,.cons _ r,e=>by
  obtain⟨v,h1,h2⟩:=au.get (i:=i) (d:=d) r (by simpa using e)
  exact⟨v,by simpa using h1,h2⟩
theorem au.append:∀{vs ws:List V}{ds es:List D},au K Γ G vs ds->au K Γ G ws es->au K Γ G (vs++ws) (ds++es)
 | _,_,_,_,.nil,s=>s
 | _,_,_,_,.cons h r,s=>.cons h (r.append s)
theorem au.take:∀{vs:List V}{ds:List D}(n:Nat),au K Γ G vs ds->au K Γ G (vs.take n) (ds.take n)
 | _,_,0,_=>by simpa using au.nil
 | _,_,_+1,.nil=>.nil
 | _,_,n+1,.cons h r=>.cons h (r.take n)
theorem au.drop:∀{vs:List V}{ds:List D}(n:Nat),au K Γ G vs ds->au K Γ G (vs.drop n) (ds.drop n)
 | _,_,0,r=>r
 | _,_,_+1,.nil=>.nil
 | _,_,n+1,.cons _ r=>r.drop n
theorem au.set{v:V}{d:D}(h:Rep K Γ G v d):∀{vs:List V}{ds:List D}(n:Nat),au K Γ G vs ds->au K Γ G (vs.set n v) (ds.set n d)
 | _,_,_,.nil=>.nil
 | _,_,0,.cons _ r=>.cons h r
 | _,_,n+1,.cons h' r=>.cons h' (au.set h n r)
theorem au.rep{vs:List V}{ds:List D}(h:au K Γ G vs ds):∀k:Nat,au K Γ G (List.replicate k vs).flatten (List.replicate k ds).flatten
 | 0=>.nil
 | k+1=>by
  rw[Xm,Xm,XN,XN]
  exact h.append (h.rep k)
theorem au.reverse{vs:List V}{ds:List D}(h:au K Γ G vs ds):au K Γ G vs.reverse ds.reverse:=by
 induction vs generalizing ds with
 | nil=>cases h;exact .nil
 | cons v vs ih =>
  cases h with
  | cons h r =>
   rw[YL,YL]
   exact(ih r).append (.cons h .nil)
theorem dG.look{f:Str}:∀{fs:List (Str×V)}{fds:List (Str×D)}{d:D},dG K Γ G fs fds->fds.lookup f=some d->∃v,fs.lookup f=some v/\Rep K Γ G v d
 | _,_,_,.nil,e=>by simp at e
 | _,_,d,.cons (f:=g) h r,e=>by
  by_cases q:f=g
  .subst q
   simp only[List.lookup_cons,beq_self_eq_true] at e
   cases e
   exact⟨_,by simp[List.lookup_cons],h⟩
  .have q':(f==g)=false:=W3.mpr q
   simp only[List.lookup_cons,q'] at e
   obtain⟨v,h1,h2⟩:=r.look e
   exact⟨v,by simp only[List.lookup_cons,q'];exact h1,h2⟩
theorem dG.none{f:Str}:∀{fs:List (Str×V)}{fds:List (Str×D)},dG K Γ G fs fds->fds.lookup f=none->fs.lookup f=none
 | _,_,.nil,_=>rfl
 | _,_,.cons (f:=g) h r,e=>by
  by_cases q:f=g
  .subst q
   simp only[List.lookup_cons,beq_self_eq_true] at e
   cases e
  .have q':(f==g)=false:=W3.mpr q
   simp only[List.lookup_cons,q'] at e ⊢
   exact r.none e
theorem dG.length:∀{fs:List (Str×V)}{fds:List (Str×D)},dG K Γ G fs fds->fs.length=fds.length
 | _,_,.nil=>rfl
 | _,_,.cons _ r=>by rw[WP,WP,r.length]
def putD(f:Str)(d:D):List (Str×D)->List (Str×D)
 | []=>[(f,d)]
 | (g,e)::r=>if g=f then (g,d)::r else (g,e)::putD f d r
theorem dG.put{f:Str}{v:V}{d:D}(h:Rep K Γ G v d):∀{fs:List (Str×V)}{fds:List (Str×D)},dG K Γ G fs fds->dG K Γ G (jP f v fs) (putD f d fds)
 | _,_,.nil=>.cons h .nil
 | _,_,.cons (f:=g) h' r=>by
  unfold jP putD
  by_cases q:g=f
  .rw[Wu q,Wu q];exact .cons h r
  .rw[WD q,WD q];exact .cons h' (dG.put h r)
end
structure Step(G H G' H':Hp):Prop where
 gg:aP G G'
 hh:aP H H'
 gh:aP G' H'
 sep:∀b,H b≠none->G b=none->G' b=none
theorem Step.refl{G H:Hp}(s:aP G H):Step G H G H:=⟨aP.refl _,aP.refl _,s,λ_ _ h=>h⟩
theorem Step.trans{G H G1 H1 G2 H2:Hp}(a:Step G H G1 H1)(b:Step G1 H1 G2 H2):Step G H G2 H2 :=
 ⟨a.gg.trans b.gg,a.hh.trans b.hh,b.gh,λx h g=>b.sep x (λq=>by
  cases e:H x with
  | none=>exact h e
  | some o=>rw[a.hh _ _ e] at q;cases q) (a.sep x h g)⟩
theorem aP.up{H:Hp}{p:Addr}{o:HO}(h:H p=none):aP H (upd H p o):=λb u q=>by rw[aR (aX q h)];exact q
theorem aC{G H:Hp}(s:aP G H){p:Addr}(h:H p=none):G p=none:=s.free h
theorem Step.new{G H:Hp}(s:aP G H){p:Addr}{o:HO}(h:H p=none):Step G H (upd G p o) (upd H p o):=by
 refine⟨aP.up (aC s h),aP.up h,λb u q=>?_,λb hb g=>?_⟩
 .by_cases e:b=p
  .subst e;rw[aK] at q ⊢;exact q
  .rw[aR e] at q ⊢;exact s _ _ q
 .have e:b≠p:=λe=>hb (e▸h)
  rw[aR e];exact g
theorem Step.aside{G H:Hp}(s:aP G H){p:Addr}{o:HO}(h:H p=none):Step G H G (upd H p o) :=
 ⟨aP.refl _,aP.up h,s.trans (aP.up h),λ_ _ g=>g⟩
inductive Mx where
 | own (ds:List D) | fix (d:D)
def Mx.d:Mx->D
 | .own ds=>.lst ds
 | .fix d=>d
inductive Sl where
 | sh (d:D) | ol (ds:List D) | oll (dss:List (List D)) | od (kvs:List (Key×D)) | odT (kvs:List (List Key×D)) | omx (es:List Mx)
abbrev DSt:=List (Option Sl)
section
variable(K:Frag)(Γ:Nat->Option Addr)(G0 H0 G H:Hp)(O:Addr->Option Nat)
inductive Inner (i:Nat):List V->List (List D)->Prop
 | nil:Inner i [] []
 | cons {b:Addr} {vs ws:List V} {ds:List D} {dss:List (List D)} (h:H b=some (.lst ws)) (g:G b=none) (h0:H0 b=none) (o:O b=some i) (r:au K Γ G ws ds) (n:V.ref b∉vs) (t:Inner i vs dss):Inner i (.ref b::vs) (ds::dss)
inductive bG (i:Nat):List V->List Mx->List Addr->Prop
 | nil:bG i [] [] []
 | own {b:Addr} {vs ws:List V} {ds:List D} {es:List Mx} {bs:List Addr} (h:H b=some (.lst ws)) (g:G b=none) (h0:H0 b=none) (o:O b=some i) (r:au K Γ G ws ds) (n:b∉bs) (t:bG i vs es bs):bG i (.ref b::vs) (.own ds::es) (b::bs)
 | fix {v:V} {vs:List V} {d:D} {es:List Mx} {bs:List Addr} (r:Rep K Γ G v d) (t:bG i vs es bs):bG i (v::vs) (.fix d::es) bs
def bK(i:Nat)(v:V):Sl->Prop
 | .sh d=>Rep K Γ G v d
 | .ol ds=>∃a vs,v=.ref a/\H a=some (.lst vs)/\G a=none/\H0 a=none/\O a=some i/\au K Γ G vs ds
 | .oll dss=>∃a vs,v=.ref a/\H a=some (.lst vs)/\G a=none/\H0 a=none/\O a=some i/\V.ref a∉vs/\Inner K Γ H0 G H O i vs dss
 | .od kvs=>∃a vs,v=.ref a/\H a=some (.dK vs)/\G a=none/\H0 a=none/\O a=some i/\nU K Γ G vs kvs
 | .odT kvs=>∃a vs,v=.ref a/\H a=some (.dT vs)/\G a=none/\H0 a=none/\O a=some i/\dM K Γ G vs kvs
 | .omx es=>∃a vs bs,v=.ref a/\H a=some (.lst vs)/\G a=none/\H0 a=none/\O a=some i/\a∉bs/\bG K Γ H0 G H O i vs es bs
def Slots(σ:L2.St)(δ:DSt):Prop:=∃O:Addr->Option Nat,∀i s,δ[i]?=some (some s)->∃v,σ[i]?=some (some v)/\bK K Γ H0 G H O i v s
structure SR(σ:L2.St)(δ:DSt):Prop where
 st:Step G0 H0 G H
 len:δ.length=σ.length
 sl:Slots K Γ H0 G H σ δ
end
section
variable{K:Frag}{Γ:Nat->Option Addr}{G0 H0 G H G' H':Hp}{O:Addr->Option Nat}{σ:L2.St}{δ:DSt}
theorem Inner.step(s:Step G H G' H'){i:Nat}:∀{vs:List V}{dss:List (List D)},Inner K Γ H0 G H O i vs dss->Inner K Γ H0 G' H' O i vs dss
 | _,_,.nil=>.nil
 | _,_,.cons h g h0 o r n t=>.cons (s.hh _ _ h) (s.sep _ (by rw[h];exact λq=>nomatch q) g) h0 o (r.mono s.gg) n (t.step s)
theorem bG.step(s:Step G H G' H'){i:Nat}:∀{vs:List V}{es:List Mx}{bs:List Addr},bG K Γ H0 G H O i vs es bs->bG K Γ H0 G' H' O i vs es bs
 | _,_,_,.nil=>.nil
 | _,_,_,.own h g h0 o r n t=>.own (s.hh _ _ h) (s.sep _ (by rw[h];exact λq=>nomatch q) g) h0 o (r.mono s.gg) n (t.step s)
 | _,_,_,.fix r t=>.fix (r.mono s.gg) (t.step s)
theorem bK.step(s:Step G H G' H'){i:Nat}{v:V}{x:Sl}(h:bK K Γ H0 G H O i v x):bK K Γ H0 G' H' O i v x:=by
 have sp:∀{a:Addr}{o:HO},H a=some o->G a=none->G' a=none:=λh g=>s.sep _ (by rw[h];exact λq=>nomatch q) g
 cases x with
 | sh d=>exact Rep.mono s.gg h
 | ol ds =>
  obtain⟨a,vs,e,h1,h2,h3,h4,h5⟩:=h
  exact⟨a,vs,e,s.hh _ _ h1,sp h1 h2,h3,h4,h5.mono s.gg⟩
 | oll ds =>
  obtain⟨a,vs,e,h1,h2,h3,h4,h5,h6⟩:=h
  exact⟨a,vs,e,s.hh _ _ h1,sp h1 h2,h3,h4,h5,h6.step s⟩
 | od ds =>
  obtain⟨a,vs,e,h1,h2,h3,h4,h5⟩:=h
  exact⟨a,vs,e,s.hh _ _ h1,sp h1 h2,h3,h4,h5.mono s.gg⟩
 | odT ds =>
  obtain⟨a,vs,e,h1,h2,h3,h4,h5⟩:=h
  exact⟨a,vs,e,s.hh _ _ h1,sp h1 h2,h3,h4,h5.mono s.gg⟩
 | omx ds =>
  obtain⟨a,vs,bs,e,h1,h2,h3,h4,h5,h6⟩:=h
  exact⟨a,vs,bs,e,s.hh _ _ h1,sp h1 h2,h3,h4,h5,h6.step s⟩
theorem SR.step(S:SR K Γ G0 H0 G H σ δ)(s:Step G H G' H'):SR K Γ G0 H0 G' H' σ δ:=by
 obtain⟨O,q⟩:=S.sl
 refine⟨S.st.trans s,S.len,O,λi x e=>?_⟩
 obtain⟨v,h1,h2⟩:=q i x e
 exact⟨v,h1,h2.step s⟩
theorem SR.set(S:SR K Γ G0 H0 G H σ δ){i:Nat}{v:V}{d:D}(r:Rep K Γ G v d):SR K Γ G0 H0 G H (σ.set i (some v)) (δ.set i (some (.sh d))):=by
 obtain⟨O,q⟩:=S.sl
 refine⟨S.st,by rw[Xc,Xc];exact S.len,O,λj x e=>?_⟩
 by_cases ij:i=j
 .subst ij
  rw[Y4] at e
  cases h:δ[i]? with
  | none=>rw[h] at e;simp at e
  | some y =>
   rw[h] at e
   simp at e
   have lt:i<σ.length:=by rw[←S.len];exact(Ws.mp h).1
   subst e
   exact⟨v,by rw[Xb lt],r⟩
 .rw[Xe ij] at e
  obtain⟨v',h1,h2⟩:=q j x e
  exact⟨v',by rw[Xe ij];exact h1,h2⟩
end
inductive bJ (K:Frag) (Γ:Nat->Option Addr) (H G' H':Hp):List V->List (List D)->Prop
 | nil:bJ K Γ H G' H' [] []
 | cons {b:Addr} {vs ws:List V} {ds:List D} {dss:List (List D)} (f:H b=none) (h:H' b=some (.lst ws)) (g:G' b=none) (r:au K Γ G' ws ds) (n:V.ref b∉vs) (t:bJ K Γ H G' H' vs dss):bJ K Γ H G' H' (.ref b::vs) (ds::dss)
section
variable(K:Frag)(Γ:Nat->Option Addr)(E:XK)
def okD(G H:Hp)(Q:VK)(d:D):Prop:=∀v G' H',Step G H G' H'->Rep K Γ G' v d->Q v H'
def exD(G H:Hp)(x:D):Prop:=∀a G' H',Step G H G' H'->Rep K Γ G' (.ref a) x->E (.ref a) none H'
def teD(f:DSt->Out D):TE:=λσ H Q=>∃G0 H0 G δ,SR K Γ G0 H0 G H σ δ/\wpO (f δ) (okD K Γ G H Q) (exD K Γ E G H)
def ttD(f:DSt->Out Bool):TT:=λσ H Q=>∃G0 H0 G δ,SR K Γ G0 H0 G H σ δ/\wpO (f δ) (λb=>∀G' H',Step G H G' H'->Q b H') (exD K Γ E G H)
def taD(f:DSt->Out (List D)):TA:=λσ H Q=>∃G0 H0 G δ,SR K Γ G0 H0 G H σ δ/\wpO (f δ) (λds=>∀vs G' H',Step G H G' H'->au K Γ G' vs ds->Q vs H') (exD K Γ E G H)
def tbD(f:DSt->Out D):TE:=λσ H Q=>∃G0 H0 G δ,SR K Γ G0 H0 G H σ δ/\wpO (f δ) (λd=>∀v G' H',Step G H G' H'->Rep K Γ H' v d->Q v H') (exD K Γ E G H)
inductive Fl where
 | nx (δ:DSt) | rt (d:D) | bk (δ:DSt) | ct (δ:DSt) | rl (ds:List D) | rll (dss:List (List D))
def FlOk(G0 H0:Hp)(N:Ends):Fl->Prop
 | .nx δ=>∀σ G H,SR K Γ G0 H0 G H σ δ->N.nx σ H
 | .rt d=>∀v G H,Step G0 H0 G H->Rep K Γ G v d->N.rt v H
 | .bk δ=>∀σ G H,SR K Γ G0 H0 G H σ δ->N.bk σ H
 | .ct δ=>∀σ G H,SR K Γ G0 H0 G H σ δ->N.ct σ H
 | .rl ds=>∀a vs G H,Step G0 H0 G H->H0 a=none->H a=some (.lst vs)->G a=none->au K Γ G vs ds->N.rt (.ref a) H
 | .rll dss=>∀a vs G H,Step G0 H0 G H->H0 a=none->H a=some (.lst vs)->G a=none->V.ref a∉vs->bJ K Γ H0 G H vs dss->N.rt (.ref a) H
def tsD(g:DSt->Out Fl):TS:=λN σ H=>∃G0 H0 G δ,SR K Γ G0 H0 G H σ δ/\wpO (g δ) (FlOk K Γ G0 H0 N) (exD K Γ E G0 H0)
end
section
variable{K:Frag}{Γ:Nat->Option Addr}{E:XK}{G H G1 H1:Hp}
theorem okD.step{Q:VK}{d:D}(h:okD K Γ G H Q d)(s:Step G H G1 H1):okD K Γ G1 H1 Q d:=λv G' H' s' r=>h v G' H' (s.trans s') r
theorem exD.step{x:D}(h:exD K Γ E G H x)(s:Step G H G1 H1):exD K Γ E G1 H1 x:=λv G' H' s' r=>h v G' H' (s.trans s') r
end
abbrev DE(X:Cx)(Γ:Nat->Option Addr)(E:XK)(e:Expr)(f:DSt->Out D):Prop:=PE X e (teD X.K Γ E f)
abbrev DB(X:Cx)(Γ:Nat->Option Addr)(E:XK)(e:Expr)(f:DSt->Out D):Prop:=PE X e (tbD X.K Γ E f)
abbrev DT(X:Cx)(Γ:Nat->Option Addr)(E:XK)(e:Expr)(f:DSt->Out Bool):Prop:=PT X e (ttD X.K Γ E f)
abbrev DW(X:Cx)(Γ:Nat->Option Addr)(E:XK)(e:Expr)(f:DSt->Out Bool):Prop:=PW X e (ttD X.K Γ E f)
abbrev DA(X:Cx)(Γ:Nat->Option Addr)(E:XK)(es:List Expr)(f:DSt->Out (List D)):Prop:=PA X es (taD X.K Γ E f)
abbrev DS(X:Cx)(Γ:Nat->Option Addr)(E:XK)(st:Stmt)(g:DSt->Out Fl):Prop:=PS X st (tsD X.K Γ E g)
abbrev DSs(X:Cx)(Γ:Nat->Option Addr)(E:XK)(st:List Stmt)(g:DSt->Out Fl):Prop:=PSs X st (tsD X.K Γ E g)
section
variable{X:Cx}
theorem PE.imp{e:Expr}{t t':TE}(h:PE X e t)(k:∀σ H Q,t' σ H Q->t σ H Q):PE X e t':=λpins s σ H Q I q=>h pins s σ H Q I (k _ _ _ q)
theorem PT.imp{e:Expr}{t t':TT}(h:PT X e t)(k:∀σ H Q,t' σ H Q->t σ H Q):PT X e t':=λpins s σ H Q I q=>h pins s σ H Q I (k _ _ _ q)
theorem PW.imp{e:Expr}{t t':TT}(h:PW X e t)(k:∀σ H Q,t' σ H Q->t σ H Q):PW X e t':=λwh pins s σ H Q I q=>h wh pins s σ H Q I (k _ _ _ q)
theorem PA.imp{e:List Expr}{t t':TA}(h:PA X e t)(k:∀σ H Q,t' σ H Q->t σ H Q):PA X e t':=λp pins s σ H Q I q=>h p pins s σ H Q I (k _ _ _ q)
theorem PS.imp{e:Stmt}{t t':TS}(h:PS X e t)(k:∀D σ H,t' D σ H->t D σ H):PS X e t':=λpins s σ H Q I q=>h pins s σ H Q I (k _ _ _ q)
theorem PSs.imp{e:List Stmt}{t t':TS}(h:PSs X e t)(k:∀D σ H,t' D σ H->t D σ H):PSs X e t':=λpins s σ H Q I q=>h pins s σ H Q I (k _ _ _ q)
end
def gv(i:Nat):DSt->Out D:=λδ=>match δ[i]? with
 | some (some (.sh d))=>.ok d
 | _=>.stuck
def slD:Sl->D
 | .sh d=>d
 | .ol ds=>.lst ds
 | .oll dss=>.lst (dss.map .lst)
 | .od kvs=>.dK kvs
 | .odT kvs=>.dT kvs
 | .omx es=>.lst (es.map Mx.d)
def gb(i:Nat):DSt->Out D:=λδ=>match δ[i]? with
 | some (some s)=>.ok (slD s)
 | _=>.stuck
section
variable{X:Cx}{Γ:Nat->Option Addr}{E:XK}{e a b c:Expr}{pos:Pos}
theorem de_var(i:Nat){x:Str}(h:PE X (.Name x pos) (kJ i)):DE X Γ E (.Name x pos) (gv i):=PE.imp h λσ H Q ⟨G0,H0,G,δ,S,w⟩=>by
 unfold gv at w
 split at w
 .rename_i d e
  obtain⟨O,q⟩:=S.sl
  obtain⟨v,h1,h2⟩:=q i _ e
  exact⟨v,h1,w v G H (.refl S.st.gh) h2⟩
 .exact Wn w
theorem Inner.rep{K:Frag}{H0 G H:Hp}{O:Addr->Option Nat}(s:aP G H){i:Nat}:∀{vs:List V}{dss:List (List D)},Inner K Γ H0 G H O i vs dss->au K Γ H vs (dss.map .lst)
 | _,_,.nil=>.nil
 | _,_,.cons h g h0 o r n t=>.cons (.lst h (r.mono s)) (t.rep s)
theorem bG.rep{K:Frag}{H0 G H:Hp}{O:Addr->Option Nat}(s:aP G H){i:Nat}:∀{vs:List V}{es:List Mx}{bs:List Addr},bG K Γ H0 G H O i vs es bs->au K Γ H vs (es.map Mx.d)
 | _,_,_,.nil=>.nil
 | _,_,_,.own h g h0 o r n t=>.cons (.lst h (r.mono s)) (t.rep s)
 | _,_,_,.fix r t=>.cons (r.mono s) (t.rep s)
theorem bK.rep{K:Frag}{H0 G H:Hp}{O:Addr->Option Nat}(s:aP G H){i:Nat}{v:V}{x:Sl}(h:bK K Γ H0 G H O i v x):Rep K Γ H v (slD x):=by
 cases x with
 | sh d=>exact Rep.mono s h
 | ol ds=>obtain⟨a,vs,e,h1,h2,h3,h4,h5⟩:=h;subst e;exact .lst h1 (h5.mono s)
 | oll ds=>obtain⟨a,vs,e,h1,h2,h3,h4,h5,h6⟩:=h;subst e;exact .lst h1 (h6.rep s)
 | od ds=>obtain⟨a,vs,e,h1,h2,h3,h4,h5⟩:=h;subst e;exact .dK h1 (h5.mono s)
 | odT ds=>obtain⟨a,vs,e,h1,h2,h3,h4,h5⟩:=h;subst e;exact .dT h1 (h5.mono s)
 | omx ds=>obtain⟨a,vs,bs,e,h1,h2,h3,h4,h5,h6⟩:=h;subst e;exact .lst h1 (h6.rep s)
theorem aN(i:Nat){x:Str}(h:PE X (.Name x pos) (kJ i)):DB X Γ E (.Name x pos) (gb i):=PE.imp h λσ H Q ⟨G0,H0,G,δ,S,w⟩=>by
 unfold gb at w
 split at w
 .rename_i d e
  obtain⟨O,q⟩:=S.sl
  obtain⟨v,h1,h2⟩:=q i _ e
  exact⟨v,h1,w v G H (.refl S.st.gh) (h2.rep S.st.gh)⟩
 .exact Wn w
theorem aL{f:DSt->Out D}(h:DE X Γ E e f):DB X Γ E e f:=PE.imp h λσ H Q ⟨G0,H0,G,δ,S,w⟩ =>
 ⟨G0,H0,G,δ,S,w.mono (λd k v G' H' s r=>k v G' H' s (r.mono s.gh)) λ_ k=>k⟩
theorem de_c{v:V}{d:D}(h:PE X e (tC v))(r:∀G,Rep X.K Γ G v d):DE X Γ E e (λ_=>.ok d):=PE.imp h λσ H Q ⟨G0,H0,G,δ,S,w⟩=>w v G H (.refl S.st.gh) (r G)
theorem aA{i j}:DE X Γ E (.Constant (.int i) j pos) (λ_=>.ok (.int i)):=de_c pe_int λ_=>.int i
theorem jE{i j}:DE X Γ E (.Constant (.bool i) j pos) (λ_=>.ok (.bl i)):=de_c pe_bl λ_=>.bl i
theorem ji{j}:DE X Γ E (.Constant .none j pos) (λ_=>.ok .non):=de_c My λ_=>.non
theorem bO{x j}:DE X Γ E (.Constant (.str x) j pos) (λ_=>.ok (.str x)):=de_c pe_str λ_=>.str x
def o2(g:D->D->Option D)(fa fb:DSt->Out D):DSt->Out D:=λδ=>(fa δ).bind λx=>(fb δ).bind λy=>.opt (g x y)
def DR2(K:Frag)(Γ:Nat->Option Addr)(r:R2)(g:D->D->Option D):Prop :=
 ∀G H x y dx dy d Q,aP G H->Rep K Γ G x dx->Rep K Γ G y dy->g dx dy=some d->okD K Γ G H Q d->r x y H Q
theorem d2{r:R2}{g:D->D->Option D}{fa fb:DSt->Out D}(hr:DR2 X.K Γ r g)(h:PE X e (tOp r (teD X.K Γ E fa) (teD X.K Γ E fb))):DE X Γ E e (o2 g fa fb):=PE.imp h λσ H Q ⟨G0,H0,G,δ,S,w⟩=>by
 refine⟨G0,H0,G,δ,S,(ao w).mono (λx w v G1 H1 s1 r1=>?_) λ_ k=>k⟩
 refine⟨G0,H0,G1,δ,S.step s1,(ao w).mono (λy w u G2 H2 s2 r2=>?_) λ_ k=>k.step s1⟩
 obtain⟨d,e,k⟩:=bC w
 exact hr G2 H2 v u x y d Q s2.gh (r1.mono s2.gg) r2 e (k.step (s1.trans s2))
def o2b(g:D->D->Option Bool)(fa fb:DSt->Out D):DSt->Out Bool:=λδ=>(fa δ).bind λx=>(fb δ).bind λy=>.opt (g x y)
def bV(f:DSt->Out Bool):DSt->Out D:=λδ=>(f δ).bind λb=>.ok (.bl b)
def DRB(K:Frag)(Γ:Nat->Option Addr)(r:R2)(g:D->D->Option Bool):Prop :=
 ∀H x y dx dy b Q,Rep K Γ H x dx->Rep K Γ H y dy->g dx dy=some b->Q (.bl b) H->r x y H Q
theorem d2b{r:R2}{g:D->D->Option Bool}{fa fb:DSt->Out D}(hr:DRB X.K Γ r g)(h:PE X e (tOp r (tbD X.K Γ E fa) (tbD X.K Γ E fb))):DE X Γ E e (bV (o2b g fa fb)):=PE.imp h λσ H Q ⟨G0,H0,G,δ,S,w⟩=>by
 refine⟨G0,H0,G,δ,S,(ao (ao w)).mono (λx w v G1 H1 s1 r1=>?_) λ_ k=>k⟩
 refine⟨G0,H0,G1,δ,S.step s1,(ao w).mono (λy w u G2 H2 s2 r2=>?_) λ_ k=>k.step s1⟩
 obtain⟨d,e,k⟩:=bC w
 exact hr H2 v u x y d Q (r1.mono s2.hh) r2 e (k _ G2 H2 (s1.trans s2) (.bl d))
theorem d2t{r:R2}{g:D->D->Option Bool}{fa fb:DSt->Out D}(hr:DRB X.K Γ r g)(h:PT X e (tTest (tOp r (tbD X.K Γ E fa) (tbD X.K Γ E fb)))):DT X Γ E e (o2b g fa fb):=PT.imp h λσ H Q ⟨G0,H0,G,δ,S,w⟩=>by
 refine⟨G0,H0,G,δ,S,(ao w).mono (λx w v G1 H1 s1 r1=>?_) λ_ k=>k⟩
 refine⟨G0,H0,G1,δ,S.step s1,(ao w).mono (λy w u G2 H2 s2 r2=>?_) λ_ k=>k.step s1⟩
 obtain⟨d,e,k⟩:=bC w
 exact hr H2 v u x y d _ (r1.mono s2.hh) r2 e ⟨d,rfl,k G2 H2 (s1.trans s2)⟩
def bZ:D->D->Option D
 | .int i,.int j=>some (.int (i+j))
 | .str i,.str j=>if i.length+j.length<=sizeLine then some (.str (i++j)) else none
 | .lst i,.lst j=>if i.length+j.length<=sizeLine then some (.lst (i++j)) else none
 | _,_=>none
def xn:D->D->Option D
 | .int i,.int j=>some (.int (i - j))
 | _,_=>none
instance (i j:Int):Decidable (qi i j):=by unfold qi;infer_instance
instance (i j:Int):Decidable (CDiv i j):=by unfold CDiv;infer_instance
def ul:D->D->Option D
 | .int i,.int j=>if qi i j then some (.int (i*j)) else none
 | .str i,.int j=>if i.length<=1000/\0<=j/\j<=1000 then some (.str (Txt.mul i j)) else none
 | .lst i,.int j=>if -(2 ^ 63)<=j/\j<2 ^ 63/\i.length*j.toNat<=sizeLine then some (.lst (List.replicate j.toNat i).flatten) else none
 | _,_=>none
def eV:D->D->Option D
 | .int i,.int j=>if CDiv i j then some (.int (i / j)) else none
 | _,_=>none
def cX:D->D->Option D
 | .int i,.int j=>if 0<j then some (.int (i % j)) else none
 | _,_=>none
theorem dr_add{K:Frag}:DR2 K Γ (λx y H Q=>(rI0 λi j=>.int (i+j)) x y H Q∨(∃i j,x=.str i/\y=.str j/\i.length+j.length<=sizeLine/\Q (.str (i++j)) H)∨rCat x y H Q) bZ:=by
 intro G H x y dx dy d Q s rx ry e k
 unfold bZ at e
 split at e
 .cases e;cases rx;cases ry;exact .inl ⟨_,_,rfl,rfl,k _ G H (.refl s) (.int _)⟩
 .split at e
  .cases e;cases rx;cases ry;rename_i h;exact .inr (.inl ⟨_,_,rfl,rfl,h,k _ G H (.refl s) (.str _)⟩)
  .cases e
 .split at e
  .cases e
   rename_i h
   cases rx with
   | lst h1 r1 =>
    cases ry with
    | lst h2 r2 =>
     refine .inr (.inr ⟨_,_,_,_,rfl,rfl,s _ _ h1,s _ _ h2,by rw[r1.length,r2.length];exact h,λp hp=>k _ _ _ (.new s hp) (.lst aK ?_)⟩)
     exact(r1.append r2).mono (aP.up (aC s hp))
  .cases e
 .cases e
theorem bW{fa fb:DSt->Out D}(ha:DE X Γ E a fa)(hb:DE X Γ E b fb):DE X Γ E (.BinOp a .Add b pos) (o2 bZ fa fb):=d2 dr_add (Jy (op_add.or (S9.or op_cat)) ha hb)
theorem Eb{fa fb:DSt->Out D}(ha:DE X Γ E a fa)(hb:DE X Γ E b fb):DE X Γ E (.BinOp a .Sub b pos) (o2 xn fa fb):=d2 (λG H x y dx dy d Q s rx ry e k=>by
 unfold xn at e
 split at e
 .cases e;cases rx;cases ry;exact⟨_,_,rfl,rfl,k _ G H (.refl s) (.int _)⟩
 .cases e) (Jy op_sub ha hb)
theorem dr_mul{K:Frag}:DR2 K Γ (λx y H Q=>(rI qi λi j=>.int (i*j)) x y H Q∨(∃i n,x=.str i/\y=.int n/\i.length<=1000/\0<=n/\n<=1000/\Q (.str (Txt.mul i n)) H)∨rRep x y H Q) ul:=by
 intro G H x y dx dy d Q s rx ry e k
 unfold ul at e
 split at e
 .split at e
  .rename_i h;cases e;cases rx;cases ry;exact .inl ⟨_,_,rfl,rfl,h,k _ G H (.refl s) (.int _)⟩
  .cases e
 .split at e
  .rename_i h;cases e;cases rx;cases ry;exact .inr (.inl ⟨_,_,rfl,rfl,h.1,h.2.1,h.2.2,k _ G H (.refl s) (.str _)⟩)
  .cases e
 .split at e
  .rename_i h
   cases e
   cases ry
   cases rx with
   | lst h1 r1 =>
    refine .inr (.inr ⟨_,_,_,rfl,rfl,s _ _ h1,h.1,h.2.1,by rw[r1.length];exact h.2.2,λp hp=>k _ _ _ (.new s hp) (.lst aK ?_)⟩)
    exact(r1.rep _).mono (aP.up (aC s hp))
  .cases e
 .cases e
theorem pQ{fa fb:DSt->Out D}(ha:DE X Γ E a fa)(hb:DE X Γ E b fb):DE X Γ E (.BinOp a .Mult b pos) (o2 ul fa fb):=d2 dr_mul (Jy (op_mul.or (op_mulS.or op_rep)) ha hb)
theorem ig{fa fb:DSt->Out D}(ha:DE X Γ E a fa)(hb:DE X Γ E b fb):DE X Γ E (.BinOp a .FloorDiv b pos) (o2 eV fa fb):=d2 (λG H x y dx dy d Q s rx ry e k=>by
 unfold eV at e
 split at e
 .split at e
  .rename_i h;cases e;cases rx;cases ry;exact⟨_,_,rfl,rfl,h,k _ G H (.refl s) (.int _)⟩
  .cases e
 .cases e) (Jy op_fdiv ha hb)
theorem cL{fa fb:DSt->Out D}(ha:DE X Γ E a fa)(hb:DE X Γ E b fb):DE X Γ E (.BinOp a .Mod b pos) (o2 cX fa fb):=d2 (λG H x y dx dy d Q s rx ry e k=>by
 unfold cX at e
 split at e
 .split at e
  .rename_i h;cases e;cases rx;cases ry;exact⟨_,_,rfl,rfl,h,k _ G H (.refl s) (.int _)⟩
  .cases e
 .cases e) (Jy op_mod ha hb)
def o1(g:D->Option D)(fa:DSt->Out D):DSt->Out D:=λδ=>(fa δ).bind λx=>.opt (g x)
def yD:D->Option D
 | .int i=>some (.int (-i))
 | _=>none
theorem RW{fa:DSt->Out D}(ha:DE X Γ E a fa):DE X Γ E (.UnaryOp .USub a pos) (o1 yD fa):=PE.imp (pe_un un_neg ha) λσ H Q ⟨G0,H0,G,δ,S,w⟩=>by
 refine⟨G0,H0,G,δ,S,(ao w).mono (λx w v G1 H1 s1 r1=>?_) λ_ k=>k⟩
 obtain⟨d,e,k⟩:=bC w
 unfold yD at e
 split at e
 .cases e;cases r1;exact⟨_,rfl,k _ G1 H1 s1 (.int _)⟩
 .cases e
def cmpI(p:Int->Int->Bool):D->D->Option Bool
 | .int i,.int j=>some (p i j)
 | _,_=>none
theorem oU{K:Frag}{p:Int->Int->Bool}:DRB K Γ (rI0 λi j=>.bl (p i j)) (cmpI p):=λH x y dx dy b Q rx ry e k=>by
 unfold cmpI at e
 split at e
 .cases e;cases rx;cases ry;exact⟨_,_,rfl,rfl,k⟩
 .cases e
abbrev ltD:D->D->Option Bool:=cmpI λi j=>decide (i<j)
abbrev leD:D->D->Option Bool:=cmpI λi j=>decide (i<=j)
abbrev gtD:D->D->Option Bool:=cmpI λi j=>decide (j<i)
abbrev geD:D->D->Option Bool:=cmpI λi j=>decide (j<=i)
mutual
def toPy:D->Option PyData
 | .non=>some .none
 | .bl b=>some (.bool b)
 | .int i=>some (.int i)
 | .str x=>some (.str x)
 | .lst xs=>(toPyL xs).map .list
 | .rol xs=>(toPyL xs).map .list
 | .tup xs=>(toPyL xs).map .tuple
 | .rot xs=>(toPyL xs).map .tuple
 | _=>none
def toPyL:List D->Option (List PyData)
 | []=>some []
 | d::r=>match toPy d,toPyL r with
  | some p,some q=>some (p::q)
  | _,_=>none
end
mutual
theorem Rep.deep{K:Frag}{H:Hp}:∀{v:V}{d:D}{p:PyData},Rep K Γ H v d->toPy d=some p->zr K H v p
 | _,_,_,.non,e=>by simp only[toPy] at e;cases e;exact .non
 | _,_,_,.bl b,e=>by simp only[toPy] at e;cases e;exact .bl b
 | _,_,_,.int b,e=>by simp only[toPy] at e;cases e;exact .int b
 | _,_,_,.str b,e=>by simp only[toPy] at e;cases e;exact .str b
 | _,_,_,.lst h r,e=>by
  simp only[toPy] at e
  obtain⟨q,e1,rfl⟩:=WF.mp e
  exact .lst (SqL.of h) (au.deep r e1)
 | _,_,_,.rol h r,e=>by
  simp only[toPy] at e
  obtain⟨q,e1,rfl⟩:=WF.mp e
  exact .lst h (au.deep r e1)
 | _,_,_,.tup h r,e=>by
  simp only[toPy] at e
  obtain⟨q,e1,rfl⟩:=WF.mp e
  exact .tup (SqT.of h) (au.deep r e1)
 | _,_,_,.rot h r,e=>by
  simp only[toPy] at e
  obtain⟨q,e1,rfl⟩:=WF.mp e
  exact .tup h (au.deep r e1)
 | _,_,_,.ty n,e=>by simp only[toPy] at e;cases e
 | _,_,_,.cls h,e=>by simp only[toPy] at e;cases e
 | _,_,_,.dK h r,e=>by simp only[toPy] at e;cases e
 | _,_,_,.dT h r,e=>by simp only[toPy] at e;cases e
 | _,_,_,.obj h g r,e=>by simp only[toPy] at e;cases e
 | _,_,_,.e0 h g,e=>by simp only[toPy] at e;cases e
 | _,_,_,.e1 h h' g r,e=>by simp only[toPy] at e;cases e
theorem au.deep{K:Frag}{H:Hp}:∀{v:List V}{d:List D}{p:List PyData},au K Γ H v d->toPyL d=some p->iW K H v p
 | _,_,_,.nil,e=>by simp only[toPyL] at e;cases e;exact .nil
 | _,_,_,.cons (d:=d) (ds:=ds) h r,e=>by
  simp only[toPyL] at e
  cases h1:toPy d with
  | none=>rw[h1] at e;cases e
  | some p =>
   cases h2:toPyL ds with
   | none=>rw[h1,h2] at e;cases e
   | some q =>
    rw[h1,h2] at e
    cases e
    exact .cons (Rep.deep h h1) (au.deep r h2)
end
def layP(p:PyData):Bool:=p.canLay0 && decide (p.depth<=50)
def eqD(x y:D):Option Bool:=match toPy x,toPy y with
 | some p,some q=>if layP p && layP q then some (PyData.eqv p q) else none
 | _,_=>none
def neD(x y:D):Option Bool:=(eqD x y).map (! ·)
theorem Pq{x y:D}{b:Bool}(h:eqD x y=some b):∃p q,toPy x=some p/\toPy y=some q/\p.canLay0=true/\q.canLay0=true/\p.depth<=50/\PyData.eqv p q=b:=by
 unfold eqD at h
 split at h
 .rename_i p q h1 h2
  split at h
  .rename_i z
   unfold layP at z
   simp only[Bool.and_eq_true,decide_eq_true_eq] at z
   exact⟨p,q,h1,h2,z.1.1,z.2.1,z.1.2,WW h⟩
  .cases h
 .cases h
theorem drb_eq{K:Frag}:DRB K Γ (rEqD K false) eqD:=λH x y dx dy b Q rx ry e k=>by
 obtain⟨p,q,h1,h2,c1,c2,c3,e⟩:=Pq e
 exact⟨p,q,rx.deep h1,ry.deep h2,c1,c2,c3,by rw[e];simpa using k⟩
theorem drb_ne{K:Frag}:DRB K Γ (rEqD K true) neD:=λH x y dx dy b Q rx ry e k=>by
 obtain⟨b',e',rfl⟩:=WF.mp e
 obtain⟨p,q,h1,h2,c1,c2,c3,e⟩:=Pq e'
 exact⟨p,q,rx.deep h1,ry.deep h2,c1,c2,c3,by rw[e];simpa using k⟩
def iy:D->Bool
 | .non=>true
 | _=>false
def isND(x y:D):Option Bool:=match y with
 | .non=>some (iy x)
 | _=>none
def kI(x y:D):Option Bool:=match y with
 | .non=>some (!iy x)
 | _=>none
theorem Rep.isNon{K:Frag}{H:Hp}{v:V}{d:D}(r:Rep K Γ H v d):decide (v=.non)=iy d:=by
 cases r <;> first | rfl | exact Xk (λq=>nomatch q)
theorem drb_is{K:Frag}:DRB K Γ (λx y H Q=>y=.non/\Q (.bl (decide (x=.non))) H) isND:=λH x y dx dy b Q rx ry e k=>by
 unfold isND at e
 split at e
 .cases e;cases ry;exact⟨rfl,by rw[rx.isNon];exact k⟩
 .cases e
theorem Jc{K:Frag}:DRB K Γ (λx y H Q=>y=.non/\Q (.bl (!decide (x=.non))) H) kI:=λH x y dx dy b Q rx ry e k=>by
 unfold kI at e
 split at e
 .cases e;cases ry;exact⟨rfl,by rw[rx.isNon];exact k⟩
 .cases e
def Ji:D->Option V
 | .non=>some .non
 | .bl b=>some (.bl b)
 | .int i=>some (.int i)
 | .str x=>some (.str x)
 | _=>none
def Es:List D->Option (List V)
 | []=>some []
 | d::r=>match Ji d,Es r with
  | some v,some vs=>some (v::vs)
  | _,_=>none
theorem Rep.flat{K:Frag}{H:Hp}{v u:V}{d:D}(r:Rep K Γ H v d)(e:Ji d=some u):v=u/\ud v=true:=by
 cases r <;> simp only[Ji] at e <;> cases e <;> exact⟨rfl,rfl⟩
theorem au.flat{K:Frag}{H:Hp}:∀{vs us:List V}{ds:List D},au K Γ H vs ds->Es ds=some us->vs=us/\vs.all ud=true
 | _,_,_,.nil,e=>by simp only[Es] at e;cases e;exact⟨rfl,rfl⟩
 | _,_,_,.cons (d:=d) (ds:=ds) h r,e=>by
  simp only[Es] at e
  cases h1:Ji d with
  | none=>rw[h1] at e;cases e
  | some p =>
   cases h2:Es ds with
   | none=>rw[h1,h2] at e;cases e
   | some q =>
    rw[h1,h2] at e
    cases e
    obtain⟨e1,f1⟩:=h.flat h1
    obtain⟨e2,f2⟩:=r.flat h2
    exact⟨by rw[e1,e2],by rw[Yw,f1,f2];rfl⟩
def uc:D->Option (List D)
 | .lst xs=>some xs
 | .rol xs=>some xs
 | .tup xs=>some xs
 | .rot xs=>some xs
 | _=>none
theorem Rep.seq{K:Frag}{H:Hp}{v:V}{d:D}{ds:List D}(r:Rep K Γ H v d)(e:uc d=some ds):∃a vs,v=.ref a/\(SqL K H a vs∨SqT K H a vs)/\au K Γ H vs ds:=by
 cases r <;> simp only[uc] at e <;> cases e
 .exact⟨_,_,rfl,.inl (SqL.of ‹_›),‹_›⟩
 .exact⟨_,_,rfl,.inr (SqT.of ‹_›),‹_›⟩
 .exact⟨_,_,rfl,.inl ‹_›,‹_›⟩
 .exact⟨_,_,rfl,.inr ‹_›,‹_›⟩
def inD(x y:D):Option Bool:=match x,y with
 | .str i,.str j=>some (!(Builtin.Str.occurrences j i 0 j.length 1).isEmpty)
 | x,y=>match Ji x,(uc y).bind Es with
  | some v,some vs=>some (inV v vs)
  | _,_=>none
theorem inD_some{K:Frag}{H:Hp}{x y:V}{dx dy:D}{b:Bool}(rx:Rep K Γ H x dx)(ry:Rep K Γ H y dy)(h:inD dx dy=some b):
  (∃i j,x=.str i/\y=.str j/\b=!(Builtin.Str.occurrences j i 0 j.length 1).isEmpty)∨∃p xs,y=.ref p/\(SqL K H p xs∨SqT K H p xs)/\ud x=true/\xs.all ud=true/\b=inV x xs:=by
 unfold inD at h
 split at h
 .cases h;cases rx;cases ry;exact .inl ⟨_,_,rfl,rfl,rfl⟩
 .cases h1:Ji dx with
  | none=>rw[h1] at h;cases h
  | some v =>
   cases h2:uc dy with
   | none=>rw[h1,h2] at h;cases h
   | some ds =>
    rw[h1,h2] at h
    dsimp only[Option.bind_some] at h
    cases h3:Es ds with
    | none=>rw[h3] at h;cases h
    | some vs =>
     rw[h3] at h
     cases h
     obtain⟨e1,f1⟩:=rx.flat h1
     obtain⟨a,ws,e2,sq,ra⟩:=ry.seq h2
     obtain⟨e3,f3⟩:=ra.flat h3
     exact .inr ⟨a,ws,e2,sq,f1,f3,by rw[e1,e3]⟩
theorem drb_in{K:Frag}:DRB K Γ (λx y H Q=>(∃i j,x=.str i/\y=.str j/\Q (.bl (!(Builtin.Str.occurrences j i 0 j.length 1).isEmpty)) H)∨rIn K false x y H Q) inD:=λH x y dx dy b Q rx ry e k=>by
 rcases inD_some rx ry e with⟨i,j,e1,e2,rfl⟩| ⟨p,xs,e1,sq,f1,f2,rfl⟩
 .exact .inl ⟨i,j,e1,e2,k⟩
 .exact .inr ⟨p,xs,e1,sq,f1,f2,k⟩
section
variable{fa fb:DSt->Out D}(hu:X.A.units+64<cLine)(ha:DB X Γ E a fa)(hb:DB X Γ E b fb)
theorem de_gt(ha:DB X Γ E a fa)(hb:DB X Γ E b fb):DE X Γ E (.Compare a [.Gt] [b] pos) (bV (o2b gtD fa fb)):=d2b oU (v6 op_gt ha hb (lC _))
theorem wy(hu:X.A.units+64<cLine)(ha:DB X Γ E a fa)(hb:DB X Γ E b fb):DE X Γ E (.Compare a [.Eq] [b] pos) (bV (o2b eqD fa fb)):=d2b drb_eq (v6 (op_eqD hu) ha hb (lC _))
theorem de_ne(hu:X.A.units+64<cLine)(ha:DB X Γ E a fa)(hb:DB X Γ E b fb):DE X Γ E (.Compare a [.NotEq] [b] pos) (bV (o2b neD fa fb)):=d2b drb_ne (v6 (op_neD hu) ha hb (lC _))
theorem de_is(ha:DB X Γ E a fa)(hb:DB X Γ E b fb):DE X Γ E (.Compare a [.Is] [b] pos) (bV (o2b isND fa fb)):=d2b drb_is (v6 op_isN ha hb (lC _))
theorem de_isnot(ha:DB X Γ E a fa)(hb:DB X Γ E b fb):DE X Γ E (.Compare a [.IsNot] [b] pos) (bV (o2b kI fa fb)):=d2b Jc (v6 Mv ha hb (lC _))
theorem de_in(ha:DB X Γ E a fa)(hb:DB X Γ E b fb)(hm:behindInMarks .In b=false:=by rfl):DE X Γ E (.Compare a [.In] [b] pos) (bV (o2b inD fa fb)):=d2b drb_in (v6 (V0.or VV) ha hb hm)
theorem Pk(ha:DB X Γ E a fa)(hb:DB X Γ E b fb):DT X Γ E (.Compare a [.Lt] [b] pos) (o2b ltD fa fb):=d2t oU (sH op_lt ha hb (lC _))
theorem dt_gt(ha:DB X Γ E a fa)(hb:DB X Γ E b fb):DT X Γ E (.Compare a [.Gt] [b] pos) (o2b gtD fa fb):=d2t oU (sH op_gt ha hb (lC _))
theorem dt_ge(ha:DB X Γ E a fa)(hb:DB X Γ E b fb):DT X Γ E (.Compare a [.GtE] [b] pos) (o2b geD fa fb):=d2t oU (sH op_ge ha hb (lC _))
theorem Ph(hu:X.A.units+64<cLine)(ha:DB X Γ E a fa)(hb:DB X Γ E b fb):DT X Γ E (.Compare a [.Eq] [b] pos) (o2b eqD fa fb):=d2t drb_eq (sH (op_eqD hu) ha hb (lC _))
theorem uJ(hu:X.A.units+64<cLine)(ha:DB X Γ E a fa)(hb:DB X Γ E b fb):DT X Γ E (.Compare a [.NotEq] [b] pos) (o2b neD fa fb):=d2t drb_ne (sH (op_neD hu) ha hb (lC _))
theorem Pj(ha:DB X Γ E a fa)(hb:DB X Γ E b fb):DT X Γ E (.Compare a [.IsNot] [b] pos) (o2b kI fa fb):=d2t Jc (sH Mv ha hb (lC _))
end
def o3(g g':D->D->Option Bool)(fa fb fc:DSt->Out D):DSt->Out Bool:=λδ=>(fa δ).bind λx=>(fb δ).bind λy=>(Out.opt (g x y)).bind λk=>if k=true then (fc δ).bind λz=>.opt (g' y z) else .ok false
theorem d3_aux{r r':R2}{g g':D->D->Option Bool}{fa fb fc:DSt->Out D}(hr:DRB X.K Γ r g)(hr':DRB X.K Γ r' g'){P:Bool->Hp->Prop}{σ:L2.St}{H:Hp}
  (w:ttD X.K Γ E (o3 g g' fa fb fc) σ H P):Gn r r' (tbD X.K Γ E fa) (tbD X.K Γ E fb) (tbD X.K Γ E fc) σ H λv H'=>∃k,v=.bl k/\P k H':=by
 obtain⟨G0,H0,G,δ,S,w⟩:=w
 refine⟨G0,H0,G,δ,S,(ao w).mono (λx w v G1 H1 s1 r1=>?_) λ_ k=>k⟩
 refine⟨G0,H0,G1,δ,S.step s1,(ao w).mono (λy w u G2 H2 s2 r2=>?_) λ_ k=>k.step s1⟩
 obtain⟨k,e,w⟩:=bC (ao w)
 refine hr H2 v u x y k _ (r1.mono s2.hh) r2 e ⟨k,rfl,?_⟩
 cases k with
 | false =>
  rw[WD Wv] at w ⊢
  exact⟨false,rfl,w G2 H2 (s1.trans s2)⟩
 | true =>
  rw[Wu rfl] at w ⊢
  refine⟨G0,H0,G2,δ,(S.step s1).step s2,(ao w).mono (λz w t G3 H3 s3 r3=>?_) λ_ k=>k.step (s1.trans s2)⟩
  obtain⟨k,e,w⟩:=bC w
  exact hr' H3 u t y z k _ (r2.mono s3.hh) r3 e ⟨k,rfl,w G3 H3 ((s1.trans s2).trans s3)⟩
theorem d3t{r r':R2}{g g':D->D->Option Bool}{fa fb fc:DSt->Out D}(hr:DRB X.K Γ r g)(hr':DRB X.K Γ r' g')(h:PT X e (tTest (Gn r r' (tbD X.K Γ E fa) (tbD X.K Γ E fb) (tbD X.K Γ E fc)))):DT X Γ E e (o3 g g' fa fb fc):=PT.imp h λσ H Q w=>d3_aux hr hr' w
theorem d3v{r r':R2}{g g':D->D->Option Bool}{fa fb fc:DSt->Out D}(hr:DRB X.K Γ r g)(hr':DRB X.K Γ r' g')(h:PE X e (Gn r r' (tbD X.K Γ E fa) (tbD X.K Γ E fb) (tbD X.K Γ E fc))):DE X Γ E e (bV (o3 g g' fa fb fc)):=PE.imp h λσ H Q ⟨G0,H0,G,δ,S,w⟩=>by
 have w:=ao w
 refine⟨G0,H0,G,δ,S,(ao w).mono (λx w v G1 H1 s1 r1=>?_) λ_ k=>k⟩
 refine⟨G0,H0,G1,δ,S.step s1,(ao w).mono (λy w u G2 H2 s2 r2=>?_) λ_ k=>k.step s1⟩
 obtain⟨k,e,w⟩:=bC (ao w)
 refine hr H2 v u x y k _ (r1.mono s2.hh) r2 e ⟨k,rfl,?_⟩
 cases k with
 | false =>
  rw[WD Wv] at w ⊢
  exact w _ G2 H2 (s1.trans s2) (.bl _)
 | true =>
  rw[Wu rfl] at w ⊢
  refine⟨G0,H0,G2,δ,(S.step s1).step s2,(ao w).mono (λz w t G3 H3 s3 r3=>?_) λ_ k=>k.step (s1.trans s2)⟩
  obtain⟨k,e,w⟩:=bC w
  exact hr' H3 u t y z k _ (r2.mono s3.hh) r3 e (w _ G3 H3 ((s1.trans s2).trans s3) (.bl _))
theorem KJ{fa fb fc:DSt->Out D}(ha:DB X Γ E a fa)(hb:DB X Γ E b fb)(hc:DB X Γ E c fc)(hm:lastMarks [.LtE,.LtE] [b,c]=false:=by with_unfolding_all rfl):DT X Γ E (.Compare a [.LtE,.LtE] [b,c] pos) (o3 leD leD fa fb fc):=d3t oU oU (pt_chain op_le op_le ha hb hc hm)
theorem de_lelt{fa fb fc:DSt->Out D}(ha:DB X Γ E a fa)(hb:DB X Γ E b fb)(hc:DB X Γ E c fc)(hm:lastMarks [.LtE,.Lt] [b,c]=false:=by with_unfolding_all rfl):DE X Γ E (.Compare a [.LtE,.Lt] [b,c] pos) (bV (o3 leD ltD fa fb fc)):=d3v oU oU (pe_chain op_le op_lt ha hb hc hm)
def truD:D->Option Bool
 | .non=>some false
 | .bl b=>some b
 | .int i=>some (i != 0)
 | .str y=>if y.length<=sizeLine then some ((y.length:Int) != 0) else none
 | .lst xs=>some (!xs.isEmpty)
 | .rol xs=>some (!xs.isEmpty)
 | .tup xs=>some (!xs.isEmpty)
 | .rot xs=>some (!xs.isEmpty)
 | .dK xs=>some (!xs.isEmpty)
 | _=>none
def tst(f:DSt->Out D):DSt->Out Bool:=λδ=>(f δ).bind λd=>.opt (truD d)
theorem vZ{K:Frag}{H:Hp}{vs:List V}{ds:List D}(r:au K Γ H vs ds):(!ds.isEmpty)=!vs.isEmpty:=by cases r <;> rfl
theorem Vy{K:Frag}{H:Hp}{vs:List (Key×V)}{ds:List (Key×D)}(r:nU K Γ H vs ds):(!ds.isEmpty)=!vs.isEmpty:=by cases r <;> rfl
theorem Rep.tru{K:Frag}{H:Hp}{v:V}{d:D}{k:Bool}(r:Rep K Γ H v d)(e:truD d=some k):TruV K v H k:=by
 cases r <;> simp only[truD] at e
 case non=>cases e;exact rfl
 case bl=>cases e;exact rfl
 case int=>cases e;exact rfl
 case str =>
  split at e
  .cases e;exact⟨‹_›,rfl⟩
  .cases e
 case lst h r=>cases e;rw[vZ r];exact .inl ⟨_,SqL.of h,rfl⟩
 case rol h r=>cases e;rw[vZ r];exact .inl ⟨_,h,rfl⟩
 case tup h r=>cases e;rw[vZ r];exact .inr (.inl ⟨_,SqT.of h,rfl⟩)
 case rot h r=>cases e;rw[vZ r];exact .inr (.inl ⟨_,h,rfl⟩)
 case dK h r=>cases e;rw[Vy r];exact .inr (.inr ⟨_,h,rfl⟩)
 all_goals cases e
theorem fU{f:DSt->Out D}(h:DB X Γ E e f)(he:∀whole,isTrue e X.env whole=(do let v ←whole;standAt e.pos;holding [v] (truthy v)):=by intro _;rfl):DT X Γ E e (tst f):=PT.imp (Qv h he) λσ H Q ⟨G0,H0,G,δ,S,w⟩=>by
 refine⟨G0,H0,G,δ,S,(ao w).mono (λx w v G1 H1 s1 r1=>?_) λ_ k=>k⟩
 obtain⟨k,e,q⟩:=bC w
 exact⟨k,r1.tru e,q G1 H1 s1⟩
def Dy(f g:DSt->Out Bool):DSt->Out Bool:=λδ=>(f δ).bind λk=>if k=true then g δ else .ok false
def orT(f g:DSt->Out Bool):DSt->Out Bool:=λδ=>(f δ).bind λk=>if k=true then .ok true else g δ
def lY(f:DSt->Out Bool):DSt->Out Bool:=λδ=>(f δ).bind λk=>.ok (!k)
variable{rest:List Expr}{ft gt:DSt->Out Bool}
theorem KN(ha:DT X Γ E a ft):DW X Γ E (.BoolOp .And [a] pos) ft:=UG ha
theorem rE(ha:DT X Γ E a ft):DW X Γ E (.BoolOp .Or [a] pos) ft:=pw_or1 ha
theorem RX(ha:DT X Γ E a ft)(hb:DW X Γ E (.BoolOp .And (b::rest) pos) gt):DW X Γ E (.BoolOp .And (a::b::rest) pos) (Dy ft gt):=PW.imp (pw_and ha hb) λσ H Q ⟨G0,H0,G,δ,S,w⟩=>by
 refine⟨G0,H0,G,δ,S,(ao w).mono (λk w G1 H1 s1=>?_) λ_ k=>k⟩
 cases k with
 | false=>rw[WD Wv] at w ⊢;exact w G1 H1 s1
 | true=>rw[Wu rfl] at w ⊢;exact⟨G0,H0,G1,δ,S.step s1,w.mono (λb q G2 H2 s2=>q G2 H2 (s1.trans s2)) λ_ k=>k.step s1⟩
theorem uK(ha:DT X Γ E a ft)(hb:DW X Γ E (.BoolOp .Or (b::rest) pos) gt):DW X Γ E (.BoolOp .Or (a::b::rest) pos) (orT ft gt):=PW.imp (pw_or ha hb) λσ H Q ⟨G0,H0,G,δ,S,w⟩=>by
 refine⟨G0,H0,G,δ,S,(ao w).mono (λk w G1 H1 s1=>?_) λ_ k=>k⟩
 cases k with
 | true=>rw[Wu rfl] at w ⊢;exact w G1 H1 s1
 | false=>rw[WD Wv] at w ⊢;exact⟨G0,H0,G1,δ,S.step s1,w.mono (λb q G2 H2 s2=>q G2 H2 (s1.trans s2)) λ_ k=>k.step s1⟩
theorem BW(h:DW X Γ E e ft):DT X Γ E e ft:=L2.PW.pt h
theorem iw(ha:DT X Γ E a ft):DT X Γ E (.UnaryOp .Not a pos) (lY ft):=PT.imp (pt_not ha) λσ H Q ⟨G0,H0,G,δ,S,w⟩ =>
 ⟨G0,H0,G,δ,S,(ao w).mono (λk w G1 H1 s1=>w G1 H1 s1) λ_ k=>k⟩
def asB:D->Option Bool
 | .bl b=>some b
 | _=>none
def zN(f g:DSt->Out D):DSt->Out D:=λδ=>(f δ).bind λd=>(Out.opt (asB d)).bind λk=>if k=true then g δ else .ok (.bl false)
def orV(f g:DSt->Out D):DSt->Out D:=λδ=>(f δ).bind λd=>(Out.opt (asB d)).bind λk=>if k=true then .ok (.bl true) else g δ
def notV(f:DSt->Out D):DSt->Out D:=λδ=>(f δ).bind λd=>(Out.opt (asB d)).bind λk=>.ok (.bl (!k))
theorem Rep.asB{K:Frag}{H:Hp}{v:V}{d:D}{k:Bool}(r:Rep K Γ H v d)(e:asB d=some k):v=.bl k:=by
 cases r <;> simp only[DL.asB] at e <;> cases e;rfl
variable{fa fb:DSt->Out D}
theorem wV{op}(ha:DE X Γ E a fa):DE X Γ E (.BoolOp op [a] pos) fa:=pe_one ha
theorem wU(ha:DE X Γ E a fa)(hb:DE X Γ E (.BoolOp .And (b::rest) pos) fb):DE X Γ E (.BoolOp .And (a::b::rest) pos) (zN fa fb):=PE.imp (pe_and ha hb) λσ H Q ⟨G0,H0,G,δ,S,w⟩=>by
 refine⟨G0,H0,G,δ,S,(ao w).mono (λx w v G1 H1 s1 r1=>?_) λ_ k=>k⟩
 obtain⟨k,e,w⟩:=bC (ao w)
 refine⟨k,r1.asB e,?_⟩
 cases k with
 | false=>rw[WD Wv] at w ⊢;exact w _ G1 H1 s1 (.bl false)
 | true=>rw[Wu rfl] at w ⊢;exact⟨G0,H0,G1,δ,S.step s1,w.mono (λb q=>q.step s1) λ_ k=>k.step s1⟩
theorem de_or(ha:DE X Γ E a fa)(hb:DE X Γ E (.BoolOp .Or (b::rest) pos) fb):DE X Γ E (.BoolOp .Or (a::b::rest) pos) (orV fa fb):=PE.imp (pe_or ha hb) λσ H Q ⟨G0,H0,G,δ,S,w⟩=>by
 refine⟨G0,H0,G,δ,S,(ao w).mono (λx w v G1 H1 s1 r1=>?_) λ_ k=>k⟩
 obtain⟨k,e,w⟩:=bC (ao w)
 refine⟨k,r1.asB e,?_⟩
 cases k with
 | true=>rw[Wu rfl] at w ⊢;exact w _ G1 H1 s1 (.bl true)
 | false=>rw[WD Wv] at w ⊢;exact⟨G0,H0,G1,δ,S.step s1,w.mono (λb q=>q.step s1) λ_ k=>k.step s1⟩
theorem de_not(ha:DE X Γ E a fa):DE X Γ E (.UnaryOp .Not a pos) (notV fa):=PE.imp (pe_not ha) λσ H Q ⟨G0,H0,G,δ,S,w⟩=>by
 refine⟨G0,H0,G,δ,S,(ao w).mono (λx w v G1 H1 s1 r1=>?_) λ_ k=>k⟩
 obtain⟨k,e,w⟩:=bC (ao w)
 exact⟨k,r1.asB e,w _ G1 H1 s1 (.bl _)⟩
def aD:DSt->Out (List D):=λ_=>.ok []
def aj(f:DSt->Out D)(r:DSt->Out (List D)):DSt->Out (List D):=λδ=>(f δ).bind λd=>(r δ).bind λds=>.ok (d::ds)
variable{es:List Expr}{fr:DSt->Out (List D)}
theorem aJ:DA X Γ E [] aD:=PA.imp eO λσ H Q ⟨G0,H0,G,δ,S,w⟩=>w _ G H (.refl S.st.gh) .nil
theorem ak(ha:DE X Γ E e fa)(hr:DA X Γ E es fr)(hs:starEach (e::es) X.env=(false,eval e X.env)::starEach es X.env:=by rfl):DA X Γ E (e::es) (aj fa fr):=PA.imp (bM ha hr hs) λσ H Q ⟨G0,H0,G,δ,S,w⟩=>by
 refine⟨G0,H0,G,δ,S,(ao w).mono (λx w v G1 H1 s1 r1=>?_) λ_ k=>k⟩
 refine⟨G0,H0,G1,δ,S.step s1,(ao w).mono (λds w vs G2 H2 s2 r2=>?_) λ_ k=>k.step s1⟩
 exact w _ G2 H2 (s1.trans s2) (.cons (r1.mono s2.gg) r2)
def bL(f:DSt->Out (List D)):DSt->Out D:=λδ=>(f δ).bind λds=>if ds.length<=sizeLine then .ok (.tup ds) else .stuck
def fJ(f:DSt->Out (List D)):DSt->Out D:=λδ=>(f δ).bind λds=>if ds.length<=sizeLine then .ok (.lst ds) else .stuck
theorem eE{x1}(h:DA X Γ E es fr):DE X Γ E (.Tuple es x1 pos) (bL fr):=PE.imp (pe_tup h) λσ H Q ⟨G0,H0,G,δ,S,w⟩=>by
 refine⟨G0,H0,G,δ,S,(ao w).mono (λds w vs G1 H1 s1 r1=>?_) λ_ k=>k⟩
 split at w
 .rename_i h
  exact⟨by rw[r1.length];exact h,λp hp=>w _ _ _ (s1.trans (.new s1.gh hp)) (.tup aK (r1.mono (aP.up (aC s1.gh hp))))⟩
 .exact Wn w
theorem rB(h:DA X Γ E es fr):DE X Γ E (.List es pos) (fJ fr):=PE.imp (Tc h) λσ H Q ⟨G0,H0,G,δ,S,w⟩=>by
 refine⟨G0,H0,G,δ,S,(ao w).mono (λds w vs G1 H1 s1 r1=>?_) λ_ k=>k⟩
 split at w
 .rename_i h
  exact⟨by rw[r1.length];exact h,λp hp=>w _ _ _ (s1.trans (.new s1.gh hp)) (.lst aK (r1.mono (aP.up (aC s1.gh hp))))⟩
 .exact Wn w
theorem au.atI{K:Frag}{H:Hp}{vs:List V}{ds:List D}{i:Int}{d:D}(r:au K Γ H vs ds)(e:atI ds i=some d):∃v,atI vs i=some v/\Rep K Γ H v d:=by
 unfold L2.atI at e ⊢
 rw[r.length]
 cases q:ixN ds.length i with
 | none=>rw[q] at e;cases e
 | some j =>
  rw[q] at e
  exact r.get e
def ixD:D->D->Option D
 | .str z,.int i=>if z.length<=sizeLine then (atI z.cps.toList i).map λc=>.str ⟨#[c]⟩ else none
 | x,.int i=>(uc x).bind λds=>atI ds i
 | _,_=>none
theorem dr_ix{K:Frag}:DR2 K Γ (rIx K) ixD:=by
 intro G H x y dx dy d Q s rx ry e k
 unfold ixD at e
 split at e
 .split at e
  .obtain⟨c,e1,rfl⟩:=WF.mp e
   cases rx;cases ry
   exact .inr (.inr ⟨_,_,c,rfl,rfl,‹_›,e1,k _ G H (.refl s) (.str _)⟩)
  .cases e
 .cases ry
  obtain⟨ds,e1,e2⟩:=Xr.mp e
  obtain⟨a,vs,rfl,sq,ra⟩:=rx.seq e1
  obtain⟨v,h1,h2⟩:=ra.atI e2
  rcases sq with sq | sq
  .exact .inl ⟨a,vs,_,v,rfl,rfl,s.seq sq,h1,k _ G H (.refl s) h2⟩
  .exact .inr (.inl ⟨a,vs,_,v,rfl,rfl,SqT.same s sq,h1,k _ G H (.refl s) h2⟩)
 .cases e
theorem fW(ha:DE X Γ E a fa)(hb:DE X Γ E b fb)(hs:xJ b:=by exact λ_ _=>rfl):DE X Γ E (.Subscript a b pos) (o2 ixD fa fb):=d2 dr_ix (pe_ix Sd ha hb hs)
def gvo(i:Nat):DSt->Out D:=λδ=>match δ[i]? with
 | some (some (.sh d))=>.ok d
 | some (some (.ol ds))=>.ok (.lst ds)
 | _=>.stuck
theorem aZ(i:Nat){x:Str}{p:Pos}(h:PE X (.Name x p) (kJ i))(hb:DE X Γ E b fb)(hs:xJ b:=by exact λ_ _=>rfl):DE X Γ E (.Subscript (.Name x p) b pos) (o2 ixD (gvo i) fb):=PE.imp (pe_ix Sd h hb hs) λσ H Q ⟨G0,H0,G,δ,S,w⟩=>by
 obtain⟨O,q⟩:=id S.sl
 unfold o2 gvo at w
 split at w
 .rename_i d e
  obtain⟨v,h1,h2⟩:=q i _ e
  refine⟨v,h1,G0,H0,G,δ,S,(ao (o:=fb δ) w).mono (λy w u G2 H2 s2 r2=>?_) λ_ k=>k⟩
  obtain⟨d,e,k⟩:=bC w
  exact dr_ix G2 H2 v u _ y d Q s2.gh (Rep.mono s2.gg h2) r2 e (k.step s2)
 .rename_i ds e
  obtain⟨v,h1,a,vs,ev,ha,ga,h0,hO,ra⟩:=q i _ e
  subst ev
  refine⟨_,h1,G0,H0,G,δ,S,(ao (o:=fb δ) w).mono (λy w u G2 H2 s2 r2=>?_) λ_ k=>k⟩
  obtain⟨d,e,k⟩:=bC w
  unfold ixD at e
  split at e
  .exact absurd (‹D.lst ds=D.str _›) (λq=>by cases q)
  .cases r2
   obtain⟨ds',e1,e2⟩:=Xr.mp e
   cases e1
   obtain⟨v,h1,h2⟩:=ra.atI e2
   exact .inl ⟨a,vs,_,v,rfl,rfl,SqL.of (s2.hh _ _ ha),h1,k _ G2 H2 s2 (h2.mono s2.gg)⟩
  .cases e
 .exact Wn w
def DRC(K:Frag)(Γ:Nat->Option Addr)(r:List V->Hp->VK->Prop)(g:List D->Option D):Prop :=
 ∀G H vs ds d Q,aP G H->au K Γ G vs ds->g ds=some d->okD K Γ G H Q d->r vs H Q
def oC(g:List D->Option D)(f:DSt->Out (List D)):DSt->Out D:=λδ=>(f δ).bind λds=>.opt (g ds)
theorem dC{r:List V->Hp->VK->Prop}{g:List D->Option D}(hr:DRC X.K Γ r g)(h:PE X e (tCB r (taD X.K Γ E fr))):DE X Γ E e (oC g fr):=PE.imp h λσ H Q ⟨G0,H0,G,δ,S,w⟩=>by
 refine⟨G0,H0,G,δ,S,(ao w).mono (λds w vs G1 H1 s1 r1=>?_) λ_ k=>k⟩
 obtain⟨d,e,k⟩:=bC w
 exact hr G1 H1 vs ds d Q s1.gh r1 e (k.step s1)
def DRC1(K:Frag)(Γ:Nat->Option Addr)(r:List V->Hp->VK->Prop)(g:D->Option D):Prop :=
 ∀G H v dx d Q,aP G H->Rep K Γ H v dx->g dx=some d->okD K Γ G H Q d->r [v] H Q
theorem dC1{r:List V->Hp->VK->Prop}{g:D->Option D}(hr:DRC1 X.K Γ r g)(h:PE X e (tCB r (pJ (tbD X.K Γ E fa) vI))):DE X Γ E e (o1 g fa):=PE.imp h λσ H Q ⟨G0,H0,G,δ,S,w⟩=>by
 refine⟨G0,H0,G,δ,S,(ao w).mono (λx w v G1 H1 s1 r1=>?_) λ_ k=>k⟩
 obtain⟨d,e,k⟩:=bC w
 exact hr G1 H1 v x d Q s1.gh r1 e (k.step s1)
def bN:D->Option D
 | .str z=>if z.length<=sizeLine then some (.int z.length) else none
 | x=>(uc x).map λds=>.int ds.length
theorem drc_len{K:Frag}:DRC1 K Γ (λxs H Q=>(∃p ys,xs=[.ref p]/\(SqL K H p ys∨SqT K H p ys)/\Q (.int ys.length) H)∨∃z,xs=[.str z]/\z.length<=sizeLine/\Q (.int z.length) H) bN:=by
 intro G H v dx d Q s r e k
 unfold bN at e
 split at e
 .split at e
  .cases e;cases r;exact .inr ⟨_,rfl,‹_›,k _ G H (.refl s) (.int _)⟩
  .cases e
 .obtain⟨ds,e1,rfl⟩:=WF.mp e
  obtain⟨a,vs,rfl,sq,ra⟩:=r.seq e1
  exact .inl ⟨a,vs,rfl,sq,by rw[ra.length];exact k _ G H (.refl s) (.int _)⟩
variable{p:Pos}
theorem cA(hg:Gl X "len")(hm:X.mg "len"=none)(ha:DB X Γ E a fa)(hs:starEach [a] X.env=[(false,eval a X.env)]:=by rfl):DE X Γ E (.Call (.Name "len" p) [a] [] pos) (o1 bN fa) :=
 dC1 drc_len (qz (Kw.or Ky) hg hm PySem.boot_len (bM ha eO (by rw[hs];rfl)) (by decide) (by decide) (by rw[hs];rfl) (by rfl))
def intD:D->Option D
 | .int i=>some (.int i)
 | .bl k=>some (.int (if k then 1 else 0))
 | _=>none
theorem Cz(hg:Gl X "int")(hm:X.mg "int"=none)(ha:DE X Γ E a fa)(hs:starEach [a] X.env=[(false,eval a X.env)]:=by rfl):DE X Γ E (.Call (.Name "int" p) [a] [] pos) (o1 intD fa) :=
 dC1 (λG H v dx d Q s r e k=>by
  unfold intD at e
  split at e
  .cases e;cases r;exact .inl ⟨_,rfl,k _ G H (.refl s) (.int _)⟩
  .cases e;cases r;exact .inr ⟨_,rfl,k _ G H (.refl s) (.int _)⟩
  .cases e) (qC Vf hg hm (by decide +kernel) (bM (aL ha) eO (by rw[hs];rfl)) (by decide) (by decide) (by rw[hs];rfl) (by rfl))
def maxD:List D->Option D
 | [.int i,.int j]=>some (.int (if j>i then j else i))
 | _=>none
def minD:List D->Option D
 | [.int i,.int j]=>some (.int (if j<i then j else i))
 | _=>none
theorem de_min(hc:X.calm=true)(hg:Gl X "min")(hm:X.mg "min"=none)(ha:DA X Γ E (e::es) fr)(he:starEach (e::es) X.env=(false,eval e X.env)::starEach es X.env:=by rfl)(hpl:(backTo pos (starEach es X.env)).any (·.1)=false:=by rfl):DE X Γ E (.Call (.Name "min" p) (e::es) [] pos) (oC minD fr) :=
 dC (λG H vs ds d Q s r e k=>by
  unfold minD at e
  split at e
  .cases e
   cases r with
   | cons r1 r2=>cases r1;cases r2 with
    | cons r2 r3=>cases r2;cases r3;exact⟨_,_,rfl,k _ G H (.refl s) (.int _)⟩
  .cases e) (qz (Vh hc) hg hm (by decide +kernel) ha (by decide) (by decide) he hpl)
def listD:D->Option D:=λx=>(uc x).map .lst
theorem de_list(hg:Gl X "list")(hm:X.mg "list"=none)(ha:DE X Γ E a fa)(hs:starEach [a] X.env=[(false,eval a X.env)]:=by rfl):DE X Γ E (.Call (.Name "list" p) [a] [] pos) (oC (λds=>match ds with | [x]=>listD x | _=>none) (aj fa aD)) :=
 dC (λG H vs ds d Q s r e k=>by
  cases r with
  | nil=>cases e
  | cons r1 r2 =>
   cases r2 with
   | cons _ _=>cases e
   | nil =>
    dsimp only at e
    unfold listD at e
    obtain⟨xs,e1,rfl⟩:=WF.mp e
    obtain⟨a,vs,rfl,sq,ra⟩:=r1.seq e1
    exact⟨a,vs,rfl,sq.imp (λz=>s.seq z) (λz=>SqT.same s z),λl hl=>k _ _ _ (.new s hl) (.lst aK (ra.mono (aP.up (aC s hl))))⟩) (qC xT hg hm (by decide +kernel) (ak ha aJ (by rw[hs];rfl)) (by decide) (by decide) (by rw[hs];rfl) (by rfl))
def xr:D->Option D
 | .lst xs=>some (.tup xs)
 | .rol xs=>some (.tup xs)
 | .tup xs=>some (.tup xs)
 | _=>none
theorem Ed(hg:Gl X "tuple")(hm:X.mg "tuple"=none)(ha:DE X Γ E a fa)(hs:starEach [a] X.env=[(false,eval a X.env)]:=by rfl):DE X Γ E (.Call (.Name "tuple" p) [a] [] pos) (oC (λds=>match ds with | [x]=>xr x | _=>none) (aj fa aD)) :=
 dC (λG H vs ds d Q s r e k=>by
  cases r with
  | nil=>cases e
  | cons r1 r2 =>
   cases r2 with
   | cons _ _=>cases e
   | nil =>
    dsimp only at e
    unfold xr at e
    split at e
    .cases e
     cases r1 with
     | lst h ra=>exact⟨_,_,rfl,.inl ⟨s.seq (SqL.of h),λl hl=>k _ _ _ (.new s hl) (.tup aK (ra.mono (aP.up (aC s hl))))⟩⟩
    .cases e
     cases r1 with
     | rol h ra=>exact⟨_,_,rfl,.inl ⟨s.seq h,λl hl=>k _ _ _ (.new s hl) (.tup aK (ra.mono (aP.up (aC s hl))))⟩⟩
    .cases e
     cases r1 with
     | tup h ra=>exact⟨_,_,rfl,.inr ⟨SqT.of (s _ _ h),k _ G H (.refl s) (.tup h ra)⟩⟩
    .cases e) (qC Hi hg hm (by decide +kernel) (ak ha aJ (by rw[hs];rfl)) (by decide) (by decide) (by rw[hs];rfl) (by rfl))
end
section
variable{K:Frag}{Γ:Nat->Option Addr}{G0 H0 G H G' H':Hp}{O O':Addr->Option Nat}{σ:L2.St}{δ:DSt}
theorem Inner.reO(k:∀b,H b≠none->O' b=O b){i:Nat}:∀{vs:List V}{dss:List (List D)},Inner K Γ H0 G H O i vs dss->Inner K Γ H0 G H O' i vs dss
 | _,_,.nil=>.nil
 | _,_,.cons h g h0 o r n t=>.cons h g h0 (by rw[k _ (by rw[h];exact λq=>nomatch q)];exact o) r n (t.reO k)
theorem bG.reO(k:∀b,H b≠none->O' b=O b){i:Nat}:∀{vs:List V}{es:List Mx}{bs:List Addr},bG K Γ H0 G H O i vs es bs->bG K Γ H0 G H O' i vs es bs
 | _,_,_,.nil=>.nil
 | _,_,_,.own h g h0 o r n t=>.own h g h0 (by rw[k _ (by rw[h];exact λq=>nomatch q)];exact o) r n (t.reO k)
 | _,_,_,.fix r t=>.fix r (t.reO k)
theorem bK.reO{i:Nat}{v:V}{x:Sl}(h:bK K Γ H0 G H O i v x)(k:∀b,H b≠none->O' b=O b):bK K Γ H0 G H O' i v x:=by
 have kk:∀{a:Addr}{o:HO},H a=some o->O' a=O a:=λh=>k _ (by rw[h];exact λq=>nomatch q)
 cases x with
 | sh d=>exact h
 | ol ds=>obtain⟨a,vs,e,h1,h2,h3,h4,h5⟩:=h;exact⟨a,vs,e,h1,h2,h3,(kk h1).trans h4,h5⟩
 | oll ds=>obtain⟨a,vs,e,h1,h2,h3,h4,h5,h6⟩:=h;exact⟨a,vs,e,h1,h2,h3,(kk h1).trans h4,h5,h6.reO k⟩
 | od ds=>obtain⟨a,vs,e,h1,h2,h3,h4,h5⟩:=h;exact⟨a,vs,e,h1,h2,h3,(kk h1).trans h4,h5⟩
 | odT ds=>obtain⟨a,vs,e,h1,h2,h3,h4,h5⟩:=h;exact⟨a,vs,e,h1,h2,h3,(kk h1).trans h4,h5⟩
 | omx ds=>obtain⟨a,vs,bs,e,h1,h2,h3,h4,h5,h6⟩:=h;exact⟨a,vs,bs,e,h1,h2,h3,(kk h1).trans h4,h5,h6.reO k⟩
theorem Inner.frame{i j:Nat}(ij:j≠i)(hh:∀b,O b≠some i->H' b=H b)(gg:aP G G')(gn:∀b,O b≠some i->G b=none->G' b=none):∀{vs:List V}{dss:List (List D)},Inner K Γ H0 G H O j vs dss->Inner K Γ H0 G' H' O j vs dss
 | _,_,.nil=>.nil
 | _,_,.cons h g h0 o r n t=>.cons ((hh _ (by rw[o];exact λq=>ij (WW q))).trans h) (gn _ (by rw[o];exact λq=>ij (WW q)) g) h0 o (r.mono gg) n (t.frame ij hh gg gn)
theorem bG.frame{i j:Nat}(ij:j≠i)(hh:∀b,O b≠some i->H' b=H b)(gg:aP G G')(gn:∀b,O b≠some i->G b=none->G' b=none):∀{vs:List V}{es:List Mx}{bs:List Addr},bG K Γ H0 G H O j vs es bs->bG K Γ H0 G' H' O j vs es bs
 | _,_,_,.nil=>.nil
 | _,_,_,.own h g h0 o r n t=>.own ((hh _ (by rw[o];exact λq=>ij (WW q))).trans h) (gn _ (by rw[o];exact λq=>ij (WW q)) g) h0 o (r.mono gg) n (t.frame ij hh gg gn)
 | _,_,_,.fix r t=>.fix (r.mono gg) (t.frame ij hh gg gn)
theorem bK.frame{i j:Nat}{v:V}{x:Sl}(h:bK K Γ H0 G H O j v x)(ij:j≠i)(hh:∀b,O b≠some i->H' b=H b)(gg:aP G G')(gn:∀b,O b≠some i->G b=none->G' b=none):bK K Γ H0 G' H' O j v x:=by
 have nz:∀{a:Addr},O a=some j->O a≠some i:=λo=>by rw[o];exact λq=>ij (WW q)
 cases x with
 | sh d=>exact Rep.mono gg h
 | ol ds=>obtain⟨a,vs,e,h1,h2,h3,h4,h5⟩:=h;exact⟨a,vs,e,(hh _ (nz h4)).trans h1,gn _ (nz h4) h2,h3,h4,h5.mono gg⟩
 | oll ds=>obtain⟨a,vs,e,h1,h2,h3,h4,h5,h6⟩:=h;exact⟨a,vs,e,(hh _ (nz h4)).trans h1,gn _ (nz h4) h2,h3,h4,h5,h6.frame ij hh gg gn⟩
 | od ds=>obtain⟨a,vs,e,h1,h2,h3,h4,h5⟩:=h;exact⟨a,vs,e,(hh _ (nz h4)).trans h1,gn _ (nz h4) h2,h3,h4,h5.mono gg⟩
 | odT ds=>obtain⟨a,vs,e,h1,h2,h3,h4,h5⟩:=h;exact⟨a,vs,e,(hh _ (nz h4)).trans h1,gn _ (nz h4) h2,h3,h4,h5.mono gg⟩
 | omx ds=>obtain⟨a,vs,bs,e,h1,h2,h3,h4,h5,h6⟩:=h;exact⟨a,vs,bs,e,(hh _ (nz h4)).trans h1,gn _ (nz h4) h2,h3,h4,h5,h6.frame ij hh gg gn⟩
theorem Slots.put{i:Nat}{v:V}{x:Sl}(hl:δ.length=σ.length)(q:∀j s,δ[j]?=some (some s)->j≠i->∃v,σ[j]?=some (some v)/\bK K Γ H0 G H O j v s)(n:bK K Γ H0 G H O i v x):Slots K Γ H0 G H (σ.set i (some v)) (δ.set i (some x)):=by
 refine⟨O,λj y e=>?_⟩
 by_cases ij:i=j
 .subst ij
  rw[Y4] at e
  cases h:δ[i]? with
  | none=>rw[h] at e;simp at e
  | some z =>
   rw[h] at e
   simp at e
   have lt:i<σ.length:=by rw[←hl];exact(Ws.mp h).1
   subst e
   exact⟨v,by rw[Xb lt],n⟩
 .rw[Xe ij] at e
  obtain⟨v',h1,h2⟩:=q j y e (λz=>ij z.symm)
  exact⟨v',by rw[Xe ij];exact h1,h2⟩
theorem yP{α:Type}{l:List α}{i:Nat}{x:α}(h:l[i]?=some x):l.set i x=l:=by
 obtain⟨lt,e⟩:=Ws.mp h
 subst e
 exact List.set_getElem_self lt
theorem SR.setl(S:SR K Γ G0 H0 G H σ δ)(s:Step G H G' H'){i:Nat}{a:Addr}{vs:List V}{ds:List D}(f:H a=none)(h:H' a=some (.lst vs))(g:G' a=none)(r:au K Γ G' vs ds):
  SR K Γ G0 H0 G' H' (σ.set i (some (.ref a))) (δ.set i (some (.ol ds))):=by
 obtain⟨O,q⟩:=S.sl
 have k:∀b,H b≠none->(λb=>if b=a then some i else O b) b=O b:=λb hb=>by
  have:b≠a:=λz=>hb (z▸f)
  simp[this]
 refine⟨S.st.trans s,by rw[Xc,Xc];exact S.len,Slots.put (O:=λb=>if b=a then some i else O b) S.len (λj y e ij=>?_) ⟨a,vs,rfl,h,g,aC S.st.hh f,by simp,r⟩⟩
 obtain⟨v,h1,h2⟩:=q j y e
 exact⟨v,h1,(h2.reO k).step s⟩
theorem bJ.mem{G' H':Hp}:∀{vs:List V}{dss:List (List D)},bJ K Γ H G' H' vs dss->∀b,V.ref b∈vs->H b=none/\H' b≠none
 | _,_,.nil,b,hb=>by cases hb
 | _,_,.cons f h g r n t,b,hb=>by
  rcases W9.mp hb with z | z
  .cases z;exact⟨f,by rw[h];exact λq=>nomatch q⟩
  .exact t.mem b z
theorem SR.write(S:SR K Γ G0 H0 G H σ δ)(q:∀i s,δ[i]?=some (some s)->∃v,σ[i]?=some (some v)/\bK K Γ H0 G H O i v s){i:Nat}{a:Addr}{o:HO}{v:V}{x:Sl}(g:G a=none)(h0:H0 a=none)(oa:O a=some i)(hv:σ[i]?=some (some v))
  (n:bK K Γ H0 G (upd H a o) O i v x):SR K Γ G0 H0 G (upd H a o) σ (δ.set i (some x)):=by
 have hh:∀b,O b≠some i->upd H a o b=H b:=λb hb=>aR λz=>hb (z▸oa)
 refine⟨⟨S.st.gg,λb u e=>?_,λb u e=>?_,S.st.sep⟩,by rw[Xc];exact S.len,?_⟩
 .rw[aR (aX e h0)];exact S.st.hh _ _ e
 .rw[aR (aX e g)];exact S.st.gh _ _ e
 .have z:=Slots.put (v:=v) (i:=i) (x:=x) S.len (λj y e ij=>by
   obtain⟨v',h1,h2⟩:=q j y e
   exact⟨v',h1,h2.frame ij hh (aP.refl _) (λ_ _ g=>g)⟩) n
  rwa [yP hv] at z
def dH(G H:Hp)(p:Addr->Bool):Hp:=λb=>if p b=true then H b else G b
theorem SR.yo(S:SR K Γ G0 H0 G H σ δ)(q:∀i s,δ[i]?=some (some s)->∃v,σ[i]?=some (some v)/\bK K Γ H0 G H O i v s){i:Nat}(p:Addr->Bool)(hp:∀b,p b=true->O b=some i/\G b=none/\H0 b=none){v:V}{d:D}(hv:σ[i]?=some (some v))
  (n:Rep K Γ (dH G H p) v d):SR K Γ G0 H0 (dH G H p) H σ (δ.set i (some (.sh d))):=by
 have gg:aP G (dH G H p):=λb u e=>by
  unfold dH
  split
  .rw[(hp b ‹_›).2.1] at e;cases e
  .exact e
 have gn:∀b,O b≠some i->G b=none->dH G H p b=none:=λb hb g=>by
  unfold dH
  split
  .exact absurd (hp b ‹_›).1 hb
  .exact g
 refine⟨⟨S.st.gg.trans gg,S.st.hh,λb u e=>?_,λb hb g0=>?_⟩,by rw[Xc];exact S.len,?_⟩
 .unfold dH at e
  split at e
  .exact e
  .exact S.st.gh _ _ e
 .unfold dH
  split
  .exact absurd (hp b ‹_›).2.2 hb
  .exact S.st.sep b hb g0
 .have z:=Slots.put (v:=v) (i:=i) (x:=.sh d) S.len (λj y e ij=>by
   obtain⟨v',h1,h2⟩:=q j y e
   exact⟨v',h1,h2.frame ij (λ_ _=>rfl) gg gn⟩) n
  rwa [yP hv] at z
theorem Inner.facts{i:Nat}:∀{vs:List V}{dss:List (List D)},Inner K Γ H0 G H O i vs dss->∀b,V.ref b∈vs->O b=some i/\G b=none/\H0 b=none
 | _,_,.nil,b,hb=>by cases hb
 | _,_,.cons h g h0 o r n t,b,hb=>by
  rcases W9.mp hb with z | z
  .cases z;exact⟨o,g,h0⟩
  .exact t.facts b z
theorem Inner.frozen{i:Nat}{p:Addr->Bool}(gg:aP G (dH G H p)):∀{vs:List V}{dss:List (List D)},(∀b,V.ref b∈vs->p b=true)->Inner K Γ H0 G H O i vs dss->au K Γ (dH G H p) vs (dss.map .lst)
 | _,_,_,.nil=>.nil
 | _,_,m,.cons h g h0 o r n t=>.cons (.lst (by unfold dH;rw[Wu (m _ WY)];exact h) (r.mono gg)) (Inner.frozen gg (λb' hb=>m b' (WR _ hb)) t)
theorem bG.facts{i:Nat}:∀{vs:List V}{es:List Mx}{bs:List Addr},bG K Γ H0 G H O i vs es bs->∀b∈bs,O b=some i/\G b=none/\H0 b=none
 | _,_,_,.nil,b,hb=>by cases hb
 | _,_,_,.own h g h0 o r n t,b,hb=>by
  rcases W9.mp hb with z | z
  .cases z;exact⟨o,g,h0⟩
  .exact t.facts b z
 | _,_,_,.fix r t,b,hb=>t.facts b hb
theorem bG.frozen{i:Nat}{p:Addr->Bool}(gg:aP G (dH G H p)):∀{vs:List V}{es:List Mx}{bs:List Addr},(∀b∈bs,p b=true)->bG K Γ H0 G H O i vs es bs->au K Γ (dH G H p) vs (es.map Mx.d)
 | _,_,_,_,.nil=>.nil
 | _,_,_,m,.own h g h0 o r n t=>.cons (.lst (by unfold dH;rw[Wu (m _ WY)];exact h) (r.mono gg)) (bG.frozen gg (λb' hb=>m b' (WR _ hb)) t)
 | _,_,_,m,.fix r t=>.cons (r.mono gg) (bG.frozen gg m t)
def frzS:Sl->Sl
 | .sh d=>.sh d
 | .ol ds=>.sh (.lst ds)
 | .oll dss=>.sh (.lst (dss.map .lst))
 | .od kvs=>.sh (.dK kvs)
 | .odT kvs=>.sh (.dT kvs)
 | .omx es=>.sh (.lst (es.map Mx.d))
def frz(i:Nat)(δ:DSt):DSt:=match δ[i]? with
 | some (some s)=>δ.set i (some (frzS s))
 | _=>δ
theorem cR{p:Addr->Bool}(hp:∀b,p b=true->G b=none):aP G (dH G H p):=λb u e=>by
 unfold dH
 split
 .rw[hp b ‹_›] at e;cases e
 .exact e
theorem SR.freeze(S:SR K Γ G0 H0 G H σ δ)(i:Nat):∃G',SR K Γ G0 H0 G' H σ (frz i δ):=by
 obtain⟨O,q⟩:=id S.sl
 unfold frz
 split
 .rename_i s e
  obtain⟨v,hv,h⟩:=q i s e
  cases s with
  | sh d=>exact⟨G,by rw[show frzS (.sh d)=.sh d from rfl,yP e];exact S⟩
  | ol ds =>
   obtain⟨a,vs,ev,h1,h2,h3,h4,h5⟩:=h
   subst ev
   have hp:∀b,decide (b=a)=true->O b=some i/\G b=none/\H0 b=none:=λb z=>by obtain rfl:=WT z;exact⟨h4,h2,h3⟩
   exact⟨_,S.yo q (λb=>decide (b=a)) hp hv (.lst (by unfold dH;rw[Wu (by simp)];exact h1) (h5.mono (cR λb z=>(hp b z).2.1)))⟩
  | oll ds =>
   obtain⟨a,vs,ev,h1,h2,h3,h4,h5,h6⟩:=h
   subst ev
   have hp:∀b,decide (b=a∨V.ref b∈vs)=true->O b=some i/\G b=none/\H0 b=none:=λb z=>by
    rcases WT z with z | z
    .subst z;exact⟨h4,h2,h3⟩
    .exact h6.facts b z
   exact⟨_,S.yo q (λb=>decide (b=a∨V.ref b∈vs)) hp hv (.lst (by unfold dH;rw[Wu (by simp)];exact h1) (h6.frozen (cR λb z=>(hp b z).2.1) λb hb=>by simp[hb]))⟩
  | od ds =>
   obtain⟨a,vs,ev,h1,h2,h3,h4,h5⟩:=h
   subst ev
   have hp:∀b,decide (b=a)=true->O b=some i/\G b=none/\H0 b=none:=λb z=>by obtain rfl:=WT z;exact⟨h4,h2,h3⟩
   exact⟨_,S.yo q (λb=>decide (b=a)) hp hv (.dK (by unfold dH;rw[Wu (by simp)];exact h1) (h5.mono (cR λb z=>(hp b z).2.1)))⟩
  | odT ds =>
   obtain⟨a,vs,ev,h1,h2,h3,h4,h5⟩:=h
   subst ev
   have hp:∀b,decide (b=a)=true->O b=some i/\G b=none/\H0 b=none:=λb z=>by obtain rfl:=WT z;exact⟨h4,h2,h3⟩
   exact⟨_,S.yo q (λb=>decide (b=a)) hp hv (.dT (by unfold dH;rw[Wu (by simp)];exact h1) (h5.mono (cR λb z=>(hp b z).2.1)))⟩
  | omx ds =>
   obtain⟨a,vs,bs,ev,h1,h2,h3,h4,h5,h6⟩:=h
   subst ev
   have hp:∀b,decide (b=a∨b∈bs)=true->O b=some i/\G b=none/\H0 b=none:=λb z=>by
    rcases WT z with z | z
    .subst z;exact⟨h4,h2,h3⟩
    .exact h6.facts b z
   exact⟨_,S.yo q (λb=>decide (b=a∨b∈bs)) hp hv (.lst (by unfold dH;rw[Wu (by simp)];exact h1) (h6.frozen (cR λb z=>(hp b z).2.1) λb hb=>by simp[hb]))⟩
 .exact⟨G,S⟩
end
section
variable(K:Frag)(Γ:Nat->Option Addr)(E:XK)
def okF(G H:Hp)(Q:VK)(ds:List D):Prop:=∀a vs G' H',Step G H G' H'->H a=none->H' a=some (.lst vs)->G' a=none->au K Γ G' vs ds->Q (.ref a) H'
def okFF(G H:Hp)(Q:VK)(dss:List (List D)):Prop:=∀a vs G' H',Step G H G' H'->H a=none->H' a=some (.lst vs)->G' a=none->V.ref a∉vs->bJ K Γ H G' H' vs dss->Q (.ref a) H'
def tfD(f:DSt->Out (List D)):TE:=λσ H Q=>∃G0 H0 G δ,SR K Γ G0 H0 G H σ δ/\wpO (f δ) (okF K Γ G H Q) (exD K Γ E G H)
def tffD(f:DSt->Out (List (List D))):TE:=λσ H Q=>∃G0 H0 G δ,SR K Γ G0 H0 G H σ δ/\wpO (f δ) (okFF K Γ G H Q) (exD K Γ E G H)
end
abbrev DF(X:Cx)(Γ:Nat->Option Addr)(E:XK)(e:Expr)(f:DSt->Out (List D)):Prop:=PE X e (tfD X.K Γ E f)
abbrev DFF(X:Cx)(Γ:Nat->Option Addr)(E:XK)(e:Expr)(f:DSt->Out (List (List D))):Prop:=PE X e (tffD X.K Γ E f)
section
variable{X:Cx}{Γ:Nat->Option Addr}{E:XK}{e a b:Expr}{pos:Pos}{es:List Expr}{fa:DSt->Out D}{fr:DSt->Out (List D)}
theorem bJ.frozen{K:Frag}{G0 H0 G H:Hp}{p:Addr->Bool}(gg:aP G (dH G H p)):∀{vs:List V}{dss:List (List D)},(∀b,V.ref b∈vs->p b=true)->bJ K Γ H0 G H vs dss->au K Γ (dH G H p) vs (dss.map .lst)
 | _,_,_,.nil=>.nil
 | _,_,m,.cons f h g r n t=>.cons (.lst (by unfold dH;rw[Wu (m _ WY)];exact h) (r.mono gg)) (bJ.frozen (G0:=G0) gg (λb' hb=>m b' (WR _ hb)) t)
theorem bJ.gnone{K:Frag}{H G' H':Hp}:∀{vs:List V}{dss:List (List D)},bJ K Γ H G' H' vs dss->∀b,V.ref b∈vs->G' b=none
 | _,_,.nil,b,hb=>by cases hb
 | _,_,.cons f h g r n t,b,hb=>by
  rcases W9.mp hb with z | z
  .cases z;exact g
  .exact t.gnone b z
theorem Step.frz{G H G' H':Hp}(s:Step G H G' H')(p:Addr->Bool)(hp:∀b,p b=true->G' b=none/\H b=none):Step G H (dH G' H' p) H' :=
 ⟨s.gg.trans (cR λb z=>(hp b z).1),s.hh,λb u e=>by
  unfold dH at e
  split at e
  .exact e
  .exact s.gh _ _ e,λb hb g=>by
  unfold dH
  split
  .exact absurd (hp b ‹_›).2 hb
  .exact s.sep b hb g⟩
def su(f:DSt->Out (List D)):DSt->Out D:=λδ=>(f δ).bind λds=>.ok (.lst ds)
theorem Ea{f:DSt->Out (List D)}(h:DF X Γ E e f):DE X Γ E e (su f):=PE.imp h λσ H Q ⟨G0,H0,G,δ,S,w⟩=>by
 refine⟨G0,H0,G,δ,S,(ao w).mono (λds w a vs G1 H1 s1 f h g r=>?_) λ_ k=>k⟩
 have hp:∀b,decide (b=a)=true->G1 b=none/\H b=none:=λb z=>by obtain rfl:=WT z;exact⟨g,f⟩
 exact w _ _ H1 (s1.frz (λb=>decide (b=a)) hp) (.lst (by unfold dH;rw[Wu (by simp)];exact h) (r.mono (cR λb z=>(hp b z).1)))
def uI(f:DSt->Out (List D)):DSt->Out (List D):=λδ=>(f δ).bind λds=>if ds.length<=sizeLine then .ok ds else .stuck
theorem wW(h:DA X Γ E es fr):DF X Γ E (.List es pos) (uI fr):=PE.imp (Tc h) λσ H Q ⟨G0,H0,G,δ,S,w⟩=>by
 refine⟨G0,H0,G,δ,S,(ao w).mono (λds w vs G1 H1 s1 r1=>?_) λ_ k=>k⟩
 split at w
 .rename_i h
  exact⟨by rw[r1.length];exact h,λp hp=>w p vs G1 _ (s1.trans (.aside s1.gh hp)) (aC s1.hh hp) aK (aC s1.gh hp) r1⟩
 .exact Wn w
def iR(f:DSt->Out D):DSt->Out (List D):=λδ=>(f δ).bind λd=>.opt (uc d)
theorem df_list{p:Pos}(hg:Gl X "list")(hm:X.mg "list"=none)(ha:DE X Γ E a fa)(hs:starEach [a] X.env=[(false,eval a X.env)]:=by rfl):DF X Γ E (.Call (.Name "list" p) [a] [] pos) (iR fa) :=
 PE.imp (qC xT hg hm (by decide +kernel) (bM ha eO (by rw[hs];rfl)) (by decide) (by decide) (by rw[hs];rfl) (by rfl)) λσ H Q ⟨G0,H0,G,δ,S,w⟩=>by
  refine⟨G0,H0,G,δ,S,(ao w).mono (λd w v G1 H1 s1 r1=>?_) λ_ k=>k⟩
  obtain⟨ds,e,w⟩:=bC w
  obtain⟨a,vs,rfl,sq,ra⟩:=r1.seq e
  exact⟨a,vs,rfl,sq.imp (λz=>s1.gh.seq z) (λz=>SqT.same s1.gh z),λl hl=>w l vs G1 _ (s1.trans (.aside s1.gh hl)) (aC s1.hh hl) aK (aC s1.gh hl) ra⟩
end
section
variable{X:Cx}{Γ:Nat->Option Addr}{E:XK}{e a b c:Expr}{pos:Pos}{es:List Expr}{fa:DSt->Out D}{fr:DSt->Out (List D)}{ft:DSt->Out Bool}{st:Stmt}{rest sa sb:List Stmt}{g g':DSt->Out Fl}
def iQ:DSt->Out Fl:=λδ=>.ok (.nx δ)
def bB(g g':DSt->Out Fl):DSt->Out Fl:=λδ=>(g δ).bind λfl=>match fl with
 | .nx δ'=>g' δ'
 | fl=>.ok fl
theorem cF:DSs X Γ E [] iQ:=PSs.imp Uz λN σ H ⟨G0,H0,G,δ,S,w⟩=>w σ G H S
theorem aB(h1:DS X Γ E st g)(h2:DSs X Γ E rest g'):DSs X Γ E (st::rest) (bB g g'):=PSs.imp (u9 h1 h2) λN σ H ⟨G0,H0,G,δ,S,w⟩=>by
 refine⟨G0,H0,G,δ,S,(ao w).mono (λfl w=>?_) λ_ k=>k⟩
 cases fl with
 | nx δ'=>exact λσ' G' H' S'=>⟨G0,H0,G',δ',S',w⟩
 | rt d=>exact w
 | bk d=>exact w
 | ct d=>exact w
 | rl d=>exact w
 | rll d=>exact w
theorem az(h1:DS X Γ E st g):DSs X Γ E [st] g:=pG h1
theorem KH(i:Nat)(h:DS X Γ E st g):DS X Γ E st (λδ=>g (frz i δ)):=PS.imp h λN σ H ⟨G0,H0,G,δ,S,w⟩=>by
 obtain⟨G',S'⟩:=S.freeze i
 exact⟨G0,H0,G',_,S',w⟩
theorem xX:DS X Γ E st (λ_=>.stuck):=PS.imp ps_never λN σ H ⟨G0,H0,G,δ,S,w⟩=>w
def cz(f:DSt->Out D):DSt->Out Fl:=λδ=>(f δ).bind λd=>.ok (.rt d)
theorem bh(he:DE X Γ E e fa):DS X Γ E (.Return (some e) pos) (cz fa):=PS.imp (w6 he) λN σ H ⟨G0,H0,G,δ,S,w⟩ =>
 ⟨G0,H0,G,δ,S,(ao w).mono (λd w v G' H' s r=>w v G' H' (S.st.trans s) r) λx k=>exD.step k S.st⟩
def sRetf(f:DSt->Out (List D)):DSt->Out Fl:=λδ=>(f δ).bind λd=>.ok (.rl d)
theorem ds_retf(he:DF X Γ E e fr):DS X Γ E (.Return (some e) pos) (sRetf fr):=PS.imp (w6 he) λN σ H ⟨G0,H0,G,δ,S,w⟩ =>
 ⟨G0,H0,G,δ,S,(ao w).mono (λd w a vs G' H' s f h g r=>w a vs G' H' (S.st.trans s) (aC S.st.hh f) h g r) λx k=>exD.step k S.st⟩
theorem bJ.reF{K:Frag}{H H2 G' H':Hp}(k:∀b,H b=none->H2 b=none):∀{vs:List V}{dss:List (List D)},bJ K Γ H G' H' vs dss->bJ K Γ H2 G' H' vs dss
 | _,_,.nil=>.nil
 | _,_,.cons f h g r n t=>.cons (k _ f) h g r n (bJ.reF k t)
def Tf(f:DSt->Out (List (List D))):DSt->Out Fl:=λδ=>(f δ).bind λd=>.ok (.rll d)
theorem ds_retff{ff:DSt->Out (List (List D))}(he:DFF X Γ E e ff):DS X Γ E (.Return (some e) pos) (Tf ff):=PS.imp (w6 he) λN σ H ⟨G0,H0,G,δ,S,w⟩ =>
 ⟨G0,H0,G,δ,S,(ao w).mono (λd w a vs G' H' s f h g n r=>w a vs G' H' (S.st.trans s) (aC S.st.hh f) h g n (r.reF λb z=>aC S.st.hh z)) λx k=>exD.step k S.st⟩
def FW(i:Nat):DSt->Out Fl:=λδ=>match δ[i]? with
 | some (some (.sh d))=>.ok (.rt d)
 | some (some (.ol ds))=>.ok (.rl ds)
 | some (some (.oll dss))=>.ok (.rll dss)
 | _=>.stuck
theorem Inner.toN{K:Frag}{H0 G H:Hp}{O:Addr->Option Nat}{i:Nat}:∀{vs:List V}{dss:List (List D)},Inner K Γ H0 G H O i vs dss->bJ K Γ H0 G H vs dss
 | _,_,.nil=>.nil
 | _,_,.cons h g h0 o r n t=>.cons h0 h g r n t.toN
theorem xY(i:Nat){x:Str}{p:Pos}(hv:PE X (.Name x p) (kJ i)):DS X Γ E (.Return (some (.Name x p)) pos) (FW i):=PS.imp (w6 hv) λN σ H ⟨G0,H0,G,δ,S,w⟩=>by
 obtain⟨O,q⟩:=id S.sl
 unfold FW at w
 split at w
 .rename_i d e
  obtain⟨v,hv,h⟩:=q i _ e
  exact⟨v,hv,w v G H S.st h⟩
 .rename_i d e
  obtain⟨v,hv,a,vs,ev,h1,h2,h3,h4,h5⟩:=q i _ e
  subst ev
  exact⟨_,hv,w a vs G H S.st h3 h1 h2 h5⟩
 .rename_i d e
  obtain⟨v,hv,a,vs,ev,h1,h2,h3,h4,h5,h6⟩:=q i _ e
  subst ev
  exact⟨_,hv,w a vs G H S.st h3 h1 h2 h5 h6.toN⟩
 .exact Wn w
def sIf(t:DSt->Out Bool)(g g':DSt->Out Fl):DSt->Out Fl:=λδ=>(t δ).bind λk=>if k=true then g δ else g' δ
theorem gM(hc:DT X Γ E c ft)(ha:DSs X Γ E sa g)(hb:DSs X Γ E sb g'):DS X Γ E (.If c sa sb pos) (sIf ft g g'):=PS.imp (ps_if hc ha hb) λN σ H ⟨G0,H0,G,δ,S,w⟩=>by
 refine⟨G0,H0,G,δ,S,(ao w).mono (λk w G1 H1 s1=>?_) λx k=>exD.step k S.st⟩
 cases k with
 | true=>rw[Wu rfl] at w ⊢;exact⟨G0,H0,G1,δ,S.step s1,w⟩
 | false=>rw[WD Wv] at w ⊢;exact⟨G0,H0,G1,δ,S.step s1,w⟩
def tgD(K:Frag)(Γ:Nat->Option Addr)(f:D->DSt->Option DSt):TG:=λv σ H Q=>∃G0 H0 G δ d δ',SR K Γ G0 H0 G H σ δ/\Rep K Γ G v d/\f d δ=some δ'/\∀σ',SR K Γ G0 H0 G H σ' δ'->Q σ' H
def tgsD(K:Frag)(Γ:Nat->Option Addr)(f:List D->DSt->Option DSt):TGs:=λvs σ H Q=>∃G0 H0 G δ ds δ',SR K Γ G0 H0 G H σ δ/\au K Γ G vs ds/\f ds δ=some δ'/\∀σ',SR K Γ G0 H0 G H σ' δ'->Q σ' H
abbrev DG(X:Cx)(Γ:Nat->Option Addr)(e:Expr)(f:D->DSt->Option DSt):Prop:=PG X e (tgD X.K Γ f)
abbrev DGs(X:Cx)(Γ:Nat->Option Addr)(es:List Expr)(f:List D->DSt->Option DSt):Prop:=PGs X es (tgsD X.K Γ f)
theorem PG.imp{e:Expr}{t t':TG}(h:PG X e t)(k:∀v σ H Q,t' v σ H Q->t v σ H Q):PG X e t':=λpins s σ H v u Q I r q=>h pins s σ H v u Q I r (k _ _ _ _ q)
theorem PGs.imp{e:List Expr}{t t':TGs}(h:PGs X e t)(k:∀v σ H Q,t' v σ H Q->t v σ H Q):PGs X e t':=λpins s σ H v u Q I r q=>h pins s σ H v u Q I r (k _ _ _ _ q)
def gN(i:Nat):D->DSt->Option DSt:=λd δ=>some (δ.set i (some (.sh d)))
theorem Ub{i:Nat}{x:Str}(h:PG X (.Name x pos) (yp i)):DG X Γ (.Name x pos) (gN i):=PG.imp h λv σ H Q ⟨G0,H0,G,δ,d,δ',S,r,e,q⟩=>by
 cases e
 exact q _ (S.set r)
def lG:List D->DSt->Option DSt:=λds δ=>match ds with
 | []=>some δ
 | _=>none
def cD(f:D->DSt->Option DSt)(g:List D->DSt->Option DSt):List D->DSt->Option DSt:=λds δ=>match ds with
 | d::r=>(f d δ).bind (g r)
 | []=>none
theorem vU:DGs X Γ [] lG:=PGs.imp pgs_nil λvs σ H Q ⟨G0,H0,G,δ,ds,δ',S,r,e,q⟩=>by
 cases r with
 | nil=>cases e;exact⟨rfl,q _ S⟩
 | cons _ _=>cases e
theorem fC{f:D->DSt->Option DSt}{h:List D->DSt->Option DSt}(h1:DG X Γ e f)(h2:DGs X Γ es h)(hh:∀{t:TG} {u:TGs},PG X e t->PGs X es u->PGs X (e::es) (gCons t u)):DGs X Γ (e::es) (cD f h):=PGs.imp (hh h1 h2) λvs σ H Q ⟨G0,H0,G,δ,ds,δ',S,r,e,q⟩=>by
 cases r with
 | nil=>cases e
 | cons r1 r2 =>
  unfold cD at e
  obtain⟨δ1,e1,e2⟩:=Xr.mp e
  exact⟨_,_,rfl,G0,H0,G,δ,_,δ1,S,r1,e1,λσ' S'=>⟨G0,H0,G,δ1,_,δ',S',r2,e2,q⟩⟩
def gT(n:Nat)(f:List D->DSt->Option DSt):D->DSt->Option DSt:=λd δ=>match d with
 | .tup ds=>if ds.length=n then f ds δ else none
 | _=>none
theorem zR{f:List D->DSt->Option DSt}{n:Nat}(hh:∀{t:TGs},PGs X es t->PG X e (gTup X.K n t))(h:DGs X Γ es f):DG X Γ e (gT n f):=PG.imp (hh h) λv σ H Q ⟨G0,H0,G,δ,d,δ',S,r,e,q⟩=>by
 unfold gT at e
 split at e
 .split at e
  .cases r with
   | tup h1 r1=>exact⟨_,_,rfl,SqT.of (S.st.gh _ _ h1),by rw[r1.length];assumption,G0,H0,G,δ,_,δ',S,r1,e,q⟩
  .cases e
 .cases e
def bD(i:Nat)(f:DSt->Out D):DSt->Out Fl:=λδ=>(f δ).bind λd=>.ok (.nx (δ.set i (some (.sh d))))
theorem ds_set(i:Nat){x:Str}{pos':Pos}(hh:∀{te:TE},PE X e te->PS X (.Assign [.Name x pos'] e pos) (Gk te (yp i)))(he:DE X Γ E e fa):DS X Γ E (.Assign [.Name x pos'] e pos) (bD i fa):=PS.imp (hh he) λN σ H ⟨G0,H0,G,δ,S,w⟩ =>
 ⟨G0,H0,G,δ,S,(ao w).mono (λd w v G1 H1 s1 r1=>w _ G1 H1 ((S.step s1).set r1)) λx k=>exD.step k S.st⟩
def gY(i:Nat)(f:DSt->Out (List D)):DSt->Out Fl:=λδ=>(f δ).bind λd=>.ok (.nx (δ.set i (some (.ol d))))
theorem ds_setl(i:Nat){x:Str}{pos':Pos}(hh:∀{te:TE},PE X e te->PS X (.Assign [.Name x pos'] e pos) (Gk te (yp i)))(he:DF X Γ E e fr):DS X Γ E (.Assign [.Name x pos'] e pos) (gY i fr):=PS.imp (hh he) λN σ H ⟨G0,H0,G,δ,S,w⟩ =>
 ⟨G0,H0,G,δ,S,(ao w).mono (λd w a vs G1 H1 s1 f h g r=>w _ G1 H1 (S.setl s1 f h g r)) λx k=>exD.step k S.st⟩
end
section
variable{X:Cx}{Γ:Nat->Option Addr}{E:XK}{e a b c:Expr}{pos:Pos}{es:List Expr}{fa fb:DSt->Out D}{ft:DSt->Out Bool}{st:Stmt}{rest sb:List Stmt}{g g':DSt->Out Fl}
def um(i:Nat)(f:DSt->Out D):DSt->Out Fl:=λδ=>match δ[i]? with
 | some (some (.ol ds))=>(f δ).bind λd=>if ds.length<sizeLine then .ok (.nx (δ.set i (some (.ol (ds++[d]))))) else .stuck
 | _=>.stuck
theorem ds_app(i:Nat){x m:Str}{p apos cpos:Pos}(hv:PE X (.Name x p) (kJ i))(he:DE X Γ E e fa)(hh:∀{to te:TE},PE X (.Name x p) to->PE X e te->PS X (.Expr (.Call (.Attribute (.Name x p) m apos) [e] [] cpos) pos) (uf (tBM X.K "list" sI to (pJ te vI)))):
  DS X Γ E (.Expr (.Call (.Attribute (.Name x p) m apos) [e] [] cpos) pos) (um i fa) :=
 PS.imp (hh hv he) λN σ H ⟨G0,H0,G,δ,S,w⟩=>by
  obtain⟨O,q⟩:=id S.sl
  unfold um at w
  split at w
  .rename_i ds ei
   obtain⟨v,hvi,h⟩:=id (q i _ ei)
   obtain⟨aa,vs,ev,h1,h2,h3,h4,h5⟩:=h
   subst ev
   refine⟨_,hvi,.inl ⟨rfl,vs,SqL.of h1⟩,G0,H0,G,δ,S,(ao w).mono (λd w u G1 H1 s1 r1=>?_) λx k=>exD.step k S.st⟩
   split at w
   .rename_i hz
    have S1:=S.step s1
    have q1:∀i s,δ[i]?=some (some s)->∃v,σ[i]?=some (some v)/\bK X.K Γ H0 G1 H1 O i v s:=λj y e=>by
     obtain⟨v',z1,z2⟩:=q j y e
     exact⟨v',z1,z2.step s1⟩
    refine⟨aa,vs,u,rfl,rfl,s1.hh _ _ h1,by rw[h5.length];exact hz,w σ G1 _ (S1.write q1 (s1.sep aa (by rw[h1];exact λz=>nomatch z) h2) h3 h4 hvi ?_)⟩
    exact⟨aa,vs++[u],rfl,aK,s1.sep aa (by rw[h1];exact λz=>nomatch z) h2,h3,h4,(h5.mono s1.gg).append (.cons r1 .nil)⟩
   .exact Wn w
  .exact Wn w
theorem Inner.length{K:Frag}{H0 G H:Hp}{O:Addr->Option Nat}{i:Nat}:∀{vs:List V}{dss:List (List D)},Inner K Γ H0 G H O i vs dss->vs.length=dss.length
 | _,_,.nil=>rfl
 | _,_,.cons h g h0 o r n t=>by rw[WP,WP,t.length]
theorem Inner.updI{K:Frag}{H0 G H:Hp}{O:Addr->Option Nat}{i:Nat}{a:Addr}{o:HO}:∀{vs:List V}{dss:List (List D)},V.ref a∉vs->Inner K Γ H0 G H O i vs dss->Inner K Γ H0 G (upd H a o) O i vs dss
 | _,_,_,.nil=>.nil
 | _,_,m,.cons h g h0 oo r n t=>.cons ((aR λz=>m (by rw[z];exact WY)).trans h) g h0 oo r n (Inner.updI (λz=>m (WR _ z)) t)
theorem Inner.snoc{K:Frag}{H0 G H:Hp}{O:Addr->Option Nat}{i:Nat}{b:Addr}{ws:List V}{ds:List D}(h:H b=some (.lst ws))(g:G b=none)(h0:H0 b=none)(o:O b=some i)(r:au K Γ G ws ds):∀{vs:List V}{dss:List (List D)},V.ref b∉vs->Inner K Γ H0 G H O i vs dss->Inner K Γ H0 G H O i (vs++[.ref b]) (dss++[ds])
 | _,_,_,.nil=>.cons h g h0 o r (by simp) .nil
 | _,_,m,.cons h' g' h0' o' r' n' t=>.cons h' g' h0' o' r' (λz=>by
   rcases W4.mp z with z | z
   .exact n' z
   .exact m (by rw[YH.mp z];exact WY)) (Inner.snoc h g h0 o r (λz=>m (WR _ z)) t)
theorem Inner.at{K:Frag}{H0 G H:Hp}{O:Addr->Option Nat}{i:Nat}:∀{vs:List V}{dss:List (List D)}{j:Nat}{ds:List D},Inner K Γ H0 G H O i vs dss->dss[j]?=some ds->∃b ws,vs[j]?=some (.ref b)/\H b=some (.lst ws)/\G b=none/\H0 b=none/\O b=some i/\au K Γ G ws ds
 | _,_,_,_,.nil,e=>by simp at e
 | _,_,0,_,.cons h g h0 o r n t,e=>by simp at e;subst e;exact⟨_,_,rfl,h,g,h0,o,r⟩
 | _,_,j+1,_,.cons h g h0 o r n t,e=>by
  obtain⟨b,ws,z1,z⟩:=Inner.at (j:=j) t (by simpa using e)
  exact⟨b,ws,by simpa using z1,z⟩
theorem Inner.put{K:Frag}{H0 G H:Hp}{O:Addr->Option Nat}{i:Nat}{b:Addr}{ws:List V}{ds:List D}(r:au K Γ G ws ds):∀{vs:List V}{dss:List (List D)}{j:Nat},Inner K Γ H0 G H O i vs dss->vs[j]?=some (.ref b)->Inner K Γ H0 G (upd H b (.lst ws)) O i vs (dss.set j ds)
 | _,_,_,.nil,e=>by simp at e
 | _,_,0,.cons h g h0 o r' n t,e=>by
  simp at e
  subst e
  exact .cons aK g h0 o r n (Inner.updI n t)
 | _,_,j+1,.cons (b:=b') (vs:=vs') h g h0 o r' n t,e=>by
  have e':vs'[j]?=some (V.ref b):=by simpa using e
  have ne:b'≠b:=λz=>n (by rw[z];exact XJ e')
  exact .cons ((aR ne).trans h) g h0 o r' n (Inner.put (j:=j) r t e')
def sClr2(i:Nat)(fk:DSt->Out D):DSt->Out Fl:=λδ=>match δ[i]? with
 | some (some (.oll dss))=>(fk δ).bind λk=>match k with
  | .int k=>match ixN dss.length k with
   | some j=>.ok (.nx (δ.set i (some (.oll (dss.set j [])))))
   | none=>.stuck
  | _=>.stuck
 | _=>.stuck
theorem ixN_lt{n:Nat}{i:Int}{j:Nat}(h:ixN n i=some j):j<n:=(Lk h).2.1
def sPut(i:Nat)(fe fk:DSt->Out D):DSt->Out Fl:=λδ=>(fe δ).bind λd=>match δ[i]? with
 | some (some (.ol ds))=>(fk δ).bind λk=>match k with
  | .int k=>match ixN ds.length k with
   | some j=>.ok (.nx (δ.set i (some (.ol (ds.set j d)))))
   | none=>.stuck
  | _=>.stuck
 | _=>.stuck
theorem ds_put(i:Nat){x:Str}{p p2:Pos}(hv:PE X (.Name x p) (kJ i))(he:DE X Γ E e fa)(hb:DE X Γ E b fb)(hh:∀{te to ti:TE},PE X e te->PE X (.Name x p) to->PE X b ti->PS X (.Assign [.Subscript (.Name x p) b p2] e pos) (Gk te (gSub to ti rSetL))):
  DS X Γ E (.Assign [.Subscript (.Name x p) b p2] e pos) (sPut i fa fb) :=
 PS.imp (hh he hv hb) λN σ H ⟨G0,H0,G,δ,S,w⟩=>by
  refine⟨G0,H0,G,δ,S,(ao w).mono (λd w u G1 H1 s1 r1=>?_) λx k=>exD.step k S.st⟩
  have S1:=S.step s1
  obtain⟨O,q⟩:=id S1.sl
  split at w
  .rename_i ds ei
   obtain⟨v,hvi,aa,vs,ev,h1,h2,h3,h4,h5⟩:=id (q i _ ei)
   subst ev
   refine⟨_,hvi,G0,H0,G1,δ,S1,(ao w).mono (λd2 w u2 G2 H2 s2 r2=>?_) λx k=>exD.step k S1.st⟩
   split at w
   .rename_i k
    split at w
    .rename_i j hj
     cases r2
     have S2:=S1.step s2
     have q1:∀i s,δ[i]?=some (some s)->∃v,σ[i]?=some (some v)/\bK X.K Γ H0 G2 H2 O i v s:=λj y e=>by
      obtain⟨v',z1,z2⟩:=q j y e
      exact⟨v',z1,z2.step s2⟩
     have ga:G2 aa=none:=s2.sep aa (by rw[h1];exact λz=>nomatch z) h2
     refine⟨aa,vs,k,j,rfl,rfl,s2.hh _ _ h1,by rw[h5.length];exact hj,w σ G2 _ (S2.write q1 ga h3 h4 hvi ⟨aa,_,rfl,aK,ga,h3,h4,au.set (r1.mono s2.gg) j (h5.mono s2.gg)⟩)⟩
    .exact Wn w
   .exact Wn w
  .exact Wn w
def FT(i:Nat)(fe fk fl:DSt->Out D):DSt->Out Fl:=λδ=>(fe δ).bind λd=>match δ[i]? with
 | some (some (.oll dss))=>(fk δ).bind λk=>match k with
  | .int k=>match ixN dss.length k with
   | some j=>(fl δ).bind λl=>match l with
    | .int l=>match ixN (dss.getD j []).length l with
     | some m=>.ok (.nx (δ.set i (some (.oll (dss.set j ((dss.getD j []).set m d))))))
     | none=>.stuck
    | _=>.stuck
   | none=>.stuck
  | _=>.stuck
 | _=>.stuck
theorem ds_put2(i:Nat){x:Str}{p p2 p3:Pos}{fc:DSt->Out D}(hv:PE X (.Name x p) (kJ i))(he:DE X Γ E e fa)(hb:DE X Γ E b fb)(hc:DE X Γ E c fc)(hh:∀{te to ti:TE},PE X e te->PE X (.Subscript (.Name x p) b p3) to->PE X c ti->PS X (.Assign [.Subscript (.Subscript (.Name x p) b p3) c p2] e pos) (Gk te (gSub to ti rSetL)))(hs:xJ b:=by exact λ_ _=>rfl):
  DS X Γ E (.Assign [.Subscript (.Subscript (.Name x p) b p3) c p2] e pos) (FT i fa fb fc) :=
 PS.imp (hh he (pe_ix Uk hv hb hs) hc) λN σ H ⟨G0,H0,G,δ,S,w⟩=>by
  refine⟨G0,H0,G,δ,S,(ao w).mono (λd w u G1 H1 s1 r1=>?_) λx k=>exD.step k S.st⟩
  have S1:=S.step s1
  obtain⟨O,q⟩:=id S1.sl
  split at w
  .rename_i dss ei
   obtain⟨v,hvi,aa,vs,ev,h1,h2,h3,h4,h5,h6⟩:=id (q i _ ei)
   subst ev
   refine⟨_,hvi,G0,H0,G1,δ,S1,(ao w).mono (λd2 w u2 G2 H2 s2 r2=>?_) λx k=>exD.step k S1.st⟩
   split at w
   .rename_i k
    split at w
    .rename_i j hj
     cases r2
     have S2:=S1.step s2
     have lt:=ixN_lt hj
     have I6:=h6.step s2
     obtain⟨bb,ws,z1,z2,z3,z4,z5,z6⟩:=I6.at (j:=j) (ds:=dss[j]) (by simp[lt])
     have gd:dss.getD j []=dss[j]:=by simp[lt]
     refine⟨aa,vs,k,.ref bb,rfl,rfl,SqL.of (s2.hh _ _ h1),by unfold atI;rw[h6.length,hj];exact z1,G0,H0,G2,δ,S2,(ao w).mono (λd3 w u3 G3 H3 s3 r3=>?_) λx k=>exD.step k S2.st⟩
     split at w
     .rename_i l
      split at w
      .rename_i m hm
       cases r3
       have S3:=S2.step s3
       have I7:=I6.step s3
       have q1:∀i s,δ[i]?=some (some s)->∃v,σ[i]?=some (some v)/\bK X.K Γ H0 G3 H3 O i v s:=λj y e=>by
        obtain⟨v',z1,z2⟩:=q j y e
        exact⟨v',z1,(z2.step s2).step s3⟩
       have ga:G3 aa=none:=s3.sep aa (by rw[s2.hh _ _ h1];exact λz=>nomatch z) (s2.sep aa (by rw[h1];exact λz=>nomatch z) h2)
       have gb:G3 bb=none:=s3.sep bb (by rw[z2];exact λz=>nomatch z) z3
       have ne:aa≠bb:=λz=>h5 (by rw[z];exact XJ z1)
       rw[gd] at hm w
       refine⟨bb,ws,l,m,rfl,rfl,s3.hh _ _ z2,by rw[z6.length];exact hm,w σ G3 _ (S3.write q1 gb z4 z5 hvi ?_)⟩
       exact⟨aa,vs,rfl,(aR ne).trans (s3.hh _ _ (s2.hh _ _ h1)),ga,h3,h4,h5,I7.put (au.set (r1.mono (s2.trans s3).gg) m (z6.mono s3.gg)) z1⟩
      .exact Wn w
     .exact Wn w
    .exact Wn w
   .exact Wn w
  .exact Wn w
structure Yl(K:Frag)(Γ:Nat->Option Addr)(G1:Hp)(J:It)(ds:List D):Prop where
 go:∀i H,aP G1 H->i<ds.length->J.go i H
 yld:∀i G H x H' d,aP G1 G->aP G H->J.yld i H x H'->ds[i]?=some d->∃G',Step G H G' H'/\Rep K Γ G' x d
 stop:∀i H,aP G1 H->ds.length<=i->J.stop i H
def tiD(K:Frag)(Γ:Nat->Option Addr)(E:XK)(f:DSt->Out (List D)):TI:=λσ H R=>∃G0 H0 G δ,SR K Γ G0 H0 G H σ δ/\wpO (f δ) (λds=>∀J G' H',Step G H G' H'->Yl K Γ G' J ds->R J H') (exD K Γ E G H)
abbrev DI(X:Cx)(Γ:Nat->Option Addr)(E:XK)(tg iter:Expr)(f:DSt->Out (List D)):Prop:=PI X tg iter (tiD X.K Γ E f)
theorem PI.imp{tg iter:Expr}{t t':TI}(h:PI X tg iter t)(k:∀σ H R,t' σ H R->t σ H R):PI X tg iter t':=λpins s σ H R I q=>h pins s σ H R I (k _ _ _ q)
theorem U7{K:Frag}{G:Hp}{a:Addr}{vs:List V}{ds:List D}(h:SqL K G a vs)(r:au K Γ G vs ds):Yl K Γ G (Itl K a) ds:=by
 refine⟨λi H s lt=>?_,λi G' H x H' d s s' y e=>?_,λi H s le=>⟨vs,s.seq h,by rw[r.length];exact le⟩⟩
 .obtain⟨v,e,_⟩:=r.get (i:=i) (d:=ds[i]) (by simp[lt])
  exact⟨vs,v,s.seq h,e⟩
 .obtain⟨rfl,y⟩:=y
  obtain⟨v,e1,e2⟩:=r.get e
  have:=y vs ((s.trans s').seq h)
  rw[e1] at this
  cases this
  exact⟨G',.refl s',e2.mono s⟩
theorem yl_tup{K:Frag}{G:Hp}{a:Addr}{vs:List V}{ds:List D}(h:SqT K G a vs)(r:au K Γ G vs ds):Yl K Γ G (Itt K a) ds:=by
 refine⟨λi H s lt=>?_,λi G' H x H' d s s' y e=>?_,λi H s le=>⟨vs,SqT.same s h,by rw[r.length];exact le⟩⟩
 .obtain⟨v,e,_⟩:=r.get (i:=i) (d:=ds[i]) (by simp[lt])
  exact⟨vs,v,SqT.same s h,e⟩
 .obtain⟨rfl,y⟩:=y
  obtain⟨v,e1,e2⟩:=r.get e
  have:=y vs (SqT.same (s.trans s') h)
  rw[e1] at this
  cases this
  exact⟨G',.refl s',e2.mono s⟩
theorem pi_or{tg iter:Expr}{w w':TI}(h:PI X tg iter w)(h':PI X tg iter w'):PI X tg iter (λσ H R=>w σ H R∨w' σ H R):=λpins s σ H R I q=>by
 rcases q with q | q
 .exact h pins s σ H R I q
 .exact h' pins s σ H R I q
theorem rC{tg:Expr}(ha:DE X Γ E a fa):DI X Γ E tg a (iR fa):=PI.imp (pi_or (pi_list ha) (pi_tup ha)) λσ H R ⟨G0,H0,G,δ,S,w⟩=>by
 unfold iR at w
 cases h:fa δ with
 | stuck=>rw[h] at w;exact Wn w
 | ex x=>rw[h] at w;exact .inl ⟨G0,H0,G,δ,S,by rw[h];exact w⟩
 | ok d =>
  rw[h] at w
  obtain⟨ds,e,k⟩:=bC w
  cases d <;> simp only[uc] at e <;> cases e
  .refine .inl ⟨G0,H0,G,δ,S,?_⟩
   rw[h]
   intro v G1 H1 s1 r1
   cases r1 with
   | lst h r=>exact⟨_,rfl,⟨_,SqL.of (s1.gh _ _ h)⟩,k _ G1 H1 s1 (U7 (SqL.of h) r)⟩
  .refine .inr ⟨G0,H0,G,δ,S,?_⟩
   rw[h]
   intro v G1 H1 s1 r1
   cases r1 with
   | tup h r=>exact⟨_,rfl,⟨_,SqT.of (s1.gh _ _ h)⟩,k _ G1 H1 s1 (yl_tup (SqT.of h) r)⟩
  .refine .inl ⟨G0,H0,G,δ,S,?_⟩
   rw[h]
   intro v G1 H1 s1 r1
   cases r1 with
   | rol h r=>exact⟨_,rfl,⟨_,s1.gh.seq h⟩,k _ G1 H1 s1 (U7 h r)⟩
  .refine .inr ⟨G0,H0,G,δ,S,?_⟩
   rw[h]
   intro v G1 H1 s1 r1
   cases r1 with
   | rot h r=>exact⟨_,rfl,⟨_,SqT.same s1.gh h⟩,k _ G1 H1 s1 (yl_tup h r)⟩
def rngL(lo:Int)(n:Nat):List D:=(List.range n).map λi=>.int (lo+(i:Nat))
theorem yl_rng{K:Frag}{G:Hp}{lo:Int}{n:Nat}:Yl K Γ G (Itr lo n) (rngL lo n):=by
 have hl:(rngL lo n).length=n:=by simp[rngL]
 refine⟨λi H s lt=>by rw[hl] at lt;exact lt,λi G' H x H' d s s' y e=>?_,λi H s le=>by rw[hl] at le;exact le⟩
 obtain⟨rfl,rfl⟩:=y
 unfold rngL at e
 rw[WL] at e
 obtain⟨j,e1,e2⟩:=WF.mp e
 obtain⟨lt,e3⟩:=Ws.mp e1
 rw[List.getElem_range] at e3
 subst e2 e3
 exact⟨G',.refl s',.int _⟩
def cY(f:DSt->Out D):DSt->Out (List D):=λδ=>(f δ).bind λd=>match d with
 | .int j=>if -(2 ^ 62)<=j/\j<2 ^ 62 then .ok (rngL 0 j.toNat) else .stuck
 | _=>.stuck
theorem cg{tg:Expr}{p:Pos}(hg:Gl X "range")(hm:X.mg "range"=none)(ha:DE X Γ E a fa)(hs:starEach [a] X.env=[(false,eval a X.env)]:=by rfl):DI X Γ E tg (.Call (.Name "range" p) [a] [] pos) (cY fa) :=
 PI.imp (V3 hg hm (bM ha eO (by rw[hs];rfl)) hs) λσ H R ⟨G0,H0,G,δ,S,w⟩=>by
  refine⟨G0,H0,G,δ,S,(ao w).mono (λd w v G1 H1 s1 r1=>?_) λ_ k=>k⟩
  split at w
  .split at w
   .rename_i h;cases r1;exact⟨_,rfl,h.1,h.2,w _ G1 H1 s1 yl_rng⟩
   .exact Wn w
  .exact Wn w
def oV:Nat->List D->List D
 | _,[]=>[]
 | n,d::ds=>.tup [.int n,d]::oV (n+1) ds
theorem vV:∀(ds:List D)(n i:Nat),(oV n ds)[i]?=(ds[i]?).map λd=>.tup [.int ((n+i:Nat):Int),d]
 | [],n,i=>by simp[oV]
 | d::ds,n,0=>by simp[oV]
 | d::ds,n,i+1=>by
  have:=vV ds (n+1) i
  simp only[oV,List.getElem?_cons_succ]
  rw[this]
  congr 1
  funext d
  congr 2
  simp only[List.cons.injEq,D.int.injEq,and_true]
  omega
theorem vW(ds:List D):∀n,(oV n ds).length=ds.length:=by
 induction ds with
 | nil=>intro n;rfl
 | cons d ds ih=>intro n;simp[oV,ih]
theorem U6{K:Frag}{G:Hp}{a:Addr}{vs:List V}{ds:List D}(h:SqL K G a vs)(r:au K Γ G vs ds):Yl K Γ G (Ite K a) (oV 0 ds):=by
 refine⟨λi H s lt=>?_,λi G' H x H' d s s' y e=>?_,λi H s le=>⟨vs,s.seq h,by rw[vW] at le;rw[r.length];exact le⟩⟩
 .rw[vW] at lt
  obtain⟨v,e,_⟩:=r.get (i:=i) (d:=ds[i]) (by simp[lt])
  exact⟨vs,v,s.seq h,e⟩
 .obtain⟨p,x0,rfl,hp,rfl,y⟩:=y
  rw[vV] at e
  obtain⟨d0,e0,rfl⟩:=WF.mp e
  obtain⟨v,e1,e2⟩:=r.get e0
  have:=y vs ((s.trans s').seq h)
  rw[e1] at this
  cases this
  refine⟨_,.new s' hp,.tup aK (.cons ?_ (.cons ((e2.mono s).mono (aP.up (aC s' hp))) .nil))⟩
  rw[Nat.zero_add]
  exact .int _
def Ac:D->Option (List D)
 | .lst xs=>some xs
 | .rol xs=>some xs
 | _=>none
def enum(f:DSt->Out D):DSt->Out (List D):=λδ=>(f δ).bind λd=>(Out.opt (Ac d)).bind λds=>.ok (oV 0 ds)
theorem Uc{es':List Expr}{kk:Nat}{tp p:Pos}(hg:Gl X "enumerate")(hm:X.mg "enumerate"=none)(ha:DE X Γ E a fa)(hs:starEach [a] X.env=[(false,eval a X.env)]:=by rfl):DI X Γ E (.Tuple es' kk tp) (.Call (.Name "enumerate" p) [a] [] pos) (enum fa) :=
 PI.imp (pi_enum hg hm (bM ha eO (by rw[hs];rfl)) hs) λσ H R ⟨G0,H0,G,δ,S,w⟩=>by
  refine⟨G0,H0,G,δ,S,(ao w).mono (λd w v G1 H1 s1 r1=>?_) λ_ k=>k⟩
  obtain⟨ds,e,w⟩:=bC (ao w)
  unfold Ac at e
  split at e
  .cases e
   cases r1 with
   | lst h r=>exact⟨_,rfl,⟨_,SqL.of (s1.gh _ _ h)⟩,w _ G1 H1 s1 (U6 (SqL.of h) r)⟩
  .cases e
   cases r1 with
   | rol h r=>exact⟨_,rfl,⟨_,s1.gh.seq h⟩,w _ G1 H1 s1 (U6 h r)⟩
  .cases e
def qu(tg:D->DSt->Option DSt)(body:DSt->Out Fl):List D->DSt->Out Fl
 | [],δ=>.ok (.nx δ)
 | d::ds,δ=>(Out.opt (tg d δ)).bind λδ1=>(body δ1).bind λfl=>match fl with
  | .nx δ2=>qu tg body ds δ2
  | .ct δ2=>qu tg body ds δ2
  | .bk δ2=>.ok (.nx δ2)
  | fl=>.ok fl
def cM(fi:DSt->Out (List D))(tg:D->DSt->Option DSt)(body:DSt->Out Fl):DSt->Out Fl:=λδ=>(fi δ).bind λds=>qu tg body ds δ
def un2(H0 G1:Hp):Hp:=λb=>match H0 b with
 | some o=>some o
 | none=>G1 b
theorem eQ{H0 G1:Hp}{b:Addr}:un2 H0 G1 b=none↔H0 b=none/\G1 b=none:=by
 unfold un2
 cases h:H0 b <;> simp
theorem Rf{H0 G1:Hp}{b:Addr}{o:HO}(h:un2 H0 G1 b=some o):H0 b=some o∨G1 b=some o:=by
 unfold un2 at h
 cases h0:H0 b with
 | none=>rw[h0] at h;exact .inr h
 | some u=>rw[h0] at h;exact .inl h
theorem Inner.reH{K:Frag}{H0 H0' G H:Hp}{O:Addr->Option Nat}{i:Nat}(k:∀b,H0 b=none->G b=none->H0' b=none):∀{vs:List V}{dss:List (List D)},Inner K Γ H0 G H O i vs dss->Inner K Γ H0' G H O i vs dss
 | _,_,.nil=>.nil
 | _,_,.cons h g h0 o r n t=>.cons h g (k _ h0 g) o r n (Inner.reH k t)
theorem bG.reH{K:Frag}{H0 H0' G H:Hp}{O:Addr->Option Nat}{i:Nat}(k:∀b,H0 b=none->G b=none->H0' b=none):∀{vs:List V}{es:List Mx}{bs:List Addr},bG K Γ H0 G H O i vs es bs->bG K Γ H0' G H O i vs es bs
 | _,_,_,.nil=>.nil
 | _,_,_,.own h g h0 o r n t=>.own h g (k _ h0 g) o r n (bG.reH k t)
 | _,_,_,.fix r t=>.fix r (bG.reH k t)
theorem bK.reH{K:Frag}{H0 H0' G H:Hp}{O:Addr->Option Nat}{i:Nat}{v:V}{x:Sl}(h:bK K Γ H0 G H O i v x)(k:∀b,H0 b=none->G b=none->H0' b=none):bK K Γ H0' G H O i v x:=by
 cases x with
 | sh d=>exact h
 | ol ds=>obtain⟨a,vs,e,h1,h2,h3,h4,h5⟩:=h;exact⟨a,vs,e,h1,h2,k _ h3 h2,h4,h5⟩
 | oll ds=>obtain⟨a,vs,e,h1,h2,h3,h4,h5,h6⟩:=h;exact⟨a,vs,e,h1,h2,k _ h3 h2,h4,h5,h6.reH k⟩
 | od ds=>obtain⟨a,vs,e,h1,h2,h3,h4,h5⟩:=h;exact⟨a,vs,e,h1,h2,k _ h3 h2,h4,h5⟩
 | odT ds=>obtain⟨a,vs,e,h1,h2,h3,h4,h5⟩:=h;exact⟨a,vs,e,h1,h2,k _ h3 h2,h4,h5⟩
 | omx ds=>obtain⟨a,vs,bs,e,h1,h2,h3,h4,h5,h6⟩:=h;exact⟨a,vs,bs,e,h1,h2,k _ h3 h2,h4,h5,h6.reH k⟩
theorem SR.later{K:Frag}{G0 H0 G1 H1 G H:Hp}{σ:L2.St}{δ:DSt}(s1:Step G0 H0 G1 H1)(S:SR K Γ G0 H0 G H σ δ)(s:aP G1 G):SR K Γ G1 (un2 H0 G1) G H σ δ:=by
 refine⟨⟨s,λb o e=>?_,S.st.gh,λb hb g=>?_⟩,S.len,?_⟩
 .rcases Rf e with e | e
  .exact S.st.hh _ _ e
  .exact S.st.gh _ _ (s _ _ e)
 .have h0:H0 b≠none:=λz=>hb (eQ.mpr ⟨z,g⟩)
  exact S.st.sep b h0 (s1.gg.free g)
 .obtain⟨O,q⟩:=S.sl
  refine⟨O,λi x e=>?_⟩
  obtain⟨v,h1,h2⟩:=q i x e
  exact⟨v,h1,h2.reH λb z g=>eQ.mpr ⟨z,s.free g⟩⟩
theorem Step.back{G0 H0 G1 H1 G H:Hp}(s1:Step G0 H0 G1 H1)(s:Step G1 (un2 H0 G1) G H):Step G0 H0 G H :=
 ⟨s1.gg.trans s.gg,λb o e=>s.hh _ _ (by unfold un2;rw[e]),s.gh,λb hb g=>s.sep b (λz=>hb (eQ.mp z).1) (s1.sep b hb g)⟩
theorem SR.back{K:Frag}{G0 H0 G1 H1 G H:Hp}{σ:L2.St}{δ:DSt}(s1:Step G0 H0 G1 H1)(S:SR K Γ G1 (un2 H0 G1) G H σ δ):SR K Γ G0 H0 G H σ δ:=by
 refine⟨s1.back S.st,S.len,?_⟩
 obtain⟨O,q⟩:=S.sl
 refine⟨O,λi x e=>?_⟩
 obtain⟨v,h1,h2⟩:=q i x e
 exact⟨v,h1,h2.reH λb z _=>(eQ.mp z).1⟩
theorem ds_for{tg iter:Expr}{body:List Stmt}{fi:DSt->Out (List D)}{t:D->DSt->Option DSt}(hh:∀{wi:TI} {g:TG} {tb:TS},PI X tg iter wi->PG X tg g->PSs X body tb->PS X (.For tg iter body [] pos) (tFor wi g tb))(hi:DI X Γ E tg iter fi)(hg:DG X Γ tg t)(hb:DSs X Γ E body g):
  DS X Γ E (.For tg iter body [] pos) (cM fi t g):=PS.imp (hh hi hg hb) λN σ H ⟨G0,H0,G,δ,S,w⟩=>by
 refine⟨G0,H0,G,δ,S,(ao w).mono (λds w J G1 H1 s1 Y=>?_) λx k=>exD.step k S.st⟩
 have sb:Step G0 H0 G1 H1:=S.st.trans s1
 refine⟨λi m σ H=>∃G δ,SR X.K Γ G0 H0 G H σ δ/\aP G1 G/\m=ds.length - i/\i<=ds.length/\wpO (qu t g (ds.drop i) δ) (FlOk X.K Γ G0 H0 N) (exD X.K Γ E G0 H0),⟨_,G1,δ,S.step s1,aP.refl _,rfl,Xq _,w⟩,?_⟩
 rintro i m σ H ⟨G2,δ2,S2,s2,rfl,hi,w⟩
 by_cases lt:i<ds.length
 .refine .inr ⟨Y.go i H (s2.trans S2.st.gh) lt,λσ' H'=>∃G δ,SR X.K Γ G0 H0 G H' σ' δ/\aP G1 G/\wpO (qu t g (ds.drop (i+1)) δ) (FlOk X.K Γ G0 H0 N) (exD X.K Γ E G0 H0),λσ' H' ⟨G',δ',a1,a2,a3⟩=>⟨ds.length - (i+1),by omega,G',δ',a1,a2,rfl,lt,a3⟩,λx H' y=>?_⟩
  obtain⟨G3,s3,r3⟩:=Y.yld i G2 H x H' ds[i] s2 S2.st.gh y (by simp[lt])
  rw[XC lt] at w
  obtain⟨δ3,e3,w⟩:=bC (ao w)
  have S3:=(S2.step s3).later sb (s2.trans s3.gg)
  refine⟨G1,un2 H0 G1,G3,δ2,ds[i],δ3,S3,r3,e3,λσ4 S4=>?_⟩
  refine⟨G1,un2 H0 G1,G3,δ3,S4,(ao w).mono (λfl w=>?_) λx k a G' H' s' r'=>k a G' H' (sb.back s') r'⟩
  cases fl with
  | nx δ'=>exact λσ' G' H' S'=>⟨G',δ',S'.back sb,S'.st.gg,w⟩
  | ct δ'=>exact λσ' G' H' S'=>⟨G',δ',S'.back sb,S'.st.gg,w⟩
  | bk δ'=>exact λσ' G' H' S'=>w σ' G' H' (S'.back sb)
  | rt d=>exact λv G' H' s' r'=>w v G' H' (sb.back s') r'
  | rl d=>exact λa vs G' H' s' f h g r=>w a vs G' H' (sb.back s') (eQ.mp f).1 h g r
  | rll d=>exact λa vs G' H' s' f h g n r=>w a vs G' H' (sb.back s') (eQ.mp f).1 h g n (r.reF λb z=>(eQ.mp z).1)
 .obtain rfl:i=ds.length:=by omega
  rw[Yu] at w
  exact .inl ⟨Y.stop _ H (s2.trans S2.st.gh) (Ww _),w σ G2 H S2⟩
def whD(t:DSt->Out Bool)(body:DSt->Out Fl):Nat->DSt->Out Fl
 | 0,_=>.stuck
 | n+1,δ=>(t δ).bind λk=>if k=true then (body δ).bind λfl=>match fl with
   | .nx δ2=>whD t body n δ2
   | .ct δ2=>whD t body n δ2
   | .bk δ2=>.ok (.nx δ2)
   | fl=>.ok fl
  else .ok (.nx δ)
theorem ds_while{body:List Stmt}(fuel:DSt->Nat)(hh:∀{tc:TT} {tb:TS},PT X c tc->PSs X body tb->PS X (.While c body [] pos) (Tu tc tb))(hc:DT X Γ E c ft)(hb:DSs X Γ E body g):
  DS X Γ E (.While c body [] pos) (λδ=>whD ft g (fuel δ) δ):=PS.imp (hh hc hb) λN σ H ⟨G0,H0,G,δ,S,w⟩=>by
 refine⟨λm σ H=>∃G δ,SR X.K Γ G0 H0 G H σ δ/\wpO (whD ft g m δ) (FlOk X.K Γ G0 H0 N) (exD X.K Γ E G0 H0),⟨_,G,δ,S,w⟩,?_⟩
 rintro m σ H ⟨G2,δ2,S2,w⟩
 cases m with
 | zero=>exact Wn w
 | succ n =>
  refine⟨G0,H0,G2,δ2,S2,(ao w).mono (λk w G3 H3 s3=>?_) λx k=>exD.step k S2.st⟩
  cases k with
  | false=>rw[WD Wv] at w ⊢;exact w σ G3 H3 (S2.step s3)
  | true =>
   rw[Wu rfl] at w ⊢
   refine⟨λσ' H'=>∃G δ,SR X.K Γ G0 H0 G H' σ' δ/\wpO (whD ft g n δ) (FlOk X.K Γ G0 H0 N) (exD X.K Γ E G0 H0),λσ' H' ⟨G',δ',a1,a3⟩=>⟨n,Xp n,G',δ',a1,a3⟩,G0,H0,G3,δ2,S2.step s3,(ao w).mono (λfl w=>?_) λx k=>k⟩
   cases fl with
   | nx δ'=>exact λσ' G' H' S'=>⟨G',δ',S',w⟩
   | ct δ'=>exact λσ' G' H' S'=>⟨G',δ',S',w⟩
   | bk δ'=>exact w
   | rt d=>exact w
   | rl d=>exact w
   | rll d=>exact w
def capD(cap:List (Option Nat))(δ:DSt):DSt:=cap.map λo=>match o with
 | none=>none
 | some j=>match δ[j]? with
  | some (some (.sh d))=>some (.sh d)
  | _=>none
def xV{α:Type}(tg:D->DSt->Option DSt)(t:DSt->Out Bool)(fe:DSt->Out α):List D->DSt->Out (List α)
 | [],_=>.ok []
 | d::ds,δ=>(Out.opt (tg d δ)).bind λδ1=>(t δ1).bw.bind λk=>if k=true then (fe δ1).bw.bind λy=>(xV tg t fe ds δ1).bind λys=>.ok (y::ys) else xV tg t fe ds δ1
def fX{α:Type}(cap:List (Option Nat))(fi:DSt->Out (List D))(tg:D->DSt->Option DSt)(t:DSt->Out Bool)(fe:DSt->Out α):DSt->Out (List α):=λδ=>(fi δ).bind λds=>if ds.length<sizeLine then xV tg t fe ds (capD cap δ) else .stuck
abbrev DTs(X:Cx)(Γ:Nat->Option Addr)(E:XK)(ifs:List Expr)(f:DSt->Out Bool):Prop:=BR X ifs (ttD X.K Γ E f)
theorem lQ:DTs X Γ E [] (λ_=>.ok true):=λpins s σ H Q I ⟨G0,H0,G,δ,S,w⟩=>pf_nil pins s σ H Q I (w G H (.refl S.st.gh))
theorem dts_one(h:DT X Γ E c ft):DTs X Γ E [c] ft:=pf_one h
theorem SR.cap{K:Frag}{G0 H0 G H:Hp}{σ:L2.St}{δ:DSt}(S:SR K Γ G0 H0 G H σ δ)(cap:List (Option Nat)):SR K Γ G H G H (capS cap σ) (capD cap δ):=by
 refine⟨.refl S.st.gh,by simp[capS,capD],λ_=>none,λi x e=>?_⟩
 obtain⟨O,q⟩:=S.sl
 unfold capD at e
 rw[WL] at e
 obtain⟨o,e1,e2⟩:=WF.mp e
 cases o with
 | none=>cases e2
 | some j =>
  dsimp only at e2
  split at e2
  .rename_i d ej
   cases e2
   obtain⟨v,h1,h2⟩:=q j _ ej
   exact⟨v,by unfold capS;rw[WL,e1];simp[h1],h2⟩
  .cases e2
def Ij(δ:DSt):Prop:=∀(i:Nat) x,δ[i]?=some (some x)->∃d,x=.sh d
def ShT(t:D->DSt->Option DSt):Prop:=∀d δ δ',t d δ=some δ'->Ij δ->Ij δ'
theorem sh_cap(cap:List (Option Nat))(δ:DSt):Ij (capD cap δ):=λi x e=>by
 unfold capD at e
 rw[WL] at e
 obtain⟨o,e1,e2⟩:=WF.mp e
 cases o with
 | none=>cases e2
 | some j =>
  dsimp only at e2
  split at e2
  .cases e2;exact⟨_,rfl⟩
  .cases e2
theorem sh_n(i:Nat):ShT (gN i):=λd δ δ' e h j x ej=>by
 cases e
 rw[List.getElem?_set] at ej
 split at ej
 .split at ej
  .cases ej;exact⟨_,rfl⟩
  .cases ej
 .exact h j x ej
theorem SR.beside{K:Frag}{G0 H0 G H:Hp}{σ:L2.St}{δ:DSt}(S:SR K Γ G0 H0 G H σ δ)(sh:Ij δ){a:Addr}{o:HO}(g:G a=none)(h0:H0 a=none):SR K Γ G0 H0 G (upd H a o) σ δ:=by
 have sx:=S.st
 refine⟨⟨sx.gg,λb u e=>by rw[aR (aX e h0)];exact sx.hh _ _ e,λb u e=>by rw[aR (aX e g)];exact sx.gh _ _ e,sx.sep⟩,S.len,?_⟩
 obtain⟨O,q⟩:=S.sl
 refine⟨O,λi x e=>?_⟩
 obtain⟨d,rfl⟩:=sh i x e
 exact q i _ e
theorem Bc{cap:List (Option Nat)}{fi:DSt->Out (List D)}{t:D->DSt->Option DSt}{ft:DSt->Out Bool}{fe:DSt->Out D}(sh:ShT t)(σ:L2.St)(H:Hp)(Q:VK):tfD X.K Γ E (fX cap fi t ft fe) σ H Q->Bt cap (tiD X.K Γ E fi) (tgD X.K Γ t) (ttD X.K Γ E0 ft) (teD X.K Γ E0 fe) σ H Q:=λ⟨G0,H0,G,δ,S,w⟩=>by
 refine⟨G0,H0,G,δ,S,(ao w).mono (λds w J G1 H1 s1 Y=>?_) λx k=>k⟩
 by_cases hz:ds.length<sizeLine
 .rw[Wu hz] at w
  intro acc hacc
  have Sc:=(S.step s1).cap cap
  refine⟨λi m ys τ H=>∃G δ done,Step G1 H1 G H/\SR X.K Γ G1 H1 G H τ δ/\Ij δ/\H acc=some (.lst ys)/\G acc=none/\au X.K Γ G ys done/\m=ds.length - i/\i<=ds.length/\ys.length<=i /\
   wpO (xV t ft fe (ds.drop i) δ) (λrest=>∀G' H' vs,Step G1 H1 G' H'->H' acc=some (.lst vs)->G' acc=none->au X.K Γ G' vs (done++rest)->Q (.ref acc) H') (λ_=>True),?_,?_⟩
  .have g1:G1 acc=none:=aC s1.gh hacc
   have st:=Step.aside s1.gh (o:=.lst []) hacc
   refine⟨_,G1,_,[],st,Sc.step st,sh_cap _ _,aK,g1,.nil,rfl,Xq _,Ww _,w.mono (λrest k G' H' vs s' h' g' r'=>k acc vs G' H' (s1.trans s') (aC s1.hh hacc) h' g' r') λ_ _=>trivial⟩
  .rintro i m ys τ H ⟨G2,δ2,done,st,S2,sh2,h2,g2,r2,rfl,hi,hl,w⟩
   refine⟨h2,Xa (W5 hl hi) hz,?_⟩
   by_cases lt:i<ds.length
   .refine .inr ⟨Y.go i H (st.gg.trans st.gh) lt,λx H' y=>?_⟩
    obtain⟨G3,s3,r3⟩:=Y.yld i G2 H x H' ds[i] st.gg st.gh y (by simp[lt])
    rw[XC lt] at w
    obtain⟨δ3,e3,w⟩:=bC (ao w)
    refine⟨G1,H1,G3,δ2,ds[i],δ3,S2.step s3,r3,e3,λσ4 S4=>?_⟩
    have w:=cU (R':=exD X.K Γ E0 G3 H') (ao w)
    refine⟨G1,H1,G3,δ3,S4,w.mono (λk w G5 H5 s5=>?_) λ_ k=>k⟩
    have s25:=s3.trans s5
    have sh3:=sh _ _ _ e3 sh2
    cases k with
    | false =>
     rw[WD Wv] at w
     dsimp only
     rw[WD Wv]
     exact⟨_,Yz lt (Xp i),G5,δ3,done,st.trans s25,S4.step s5,sh3,s25.hh _ _ h2,s25.sep acc (by rw[h2];exact λz=>nomatch z) g2,r2.mono s25.gg,rfl,lt,Nat.le_succ_of_le hl,w⟩
    | true =>
     rw[Wu rfl] at w
     dsimp only
     rw[Wu rfl]
     have w:=cU (R':=exD X.K Γ E0 G5 H5) (ao w)
     refine⟨G1,H1,G5,δ3,S4.step s5,w.mono (λy w v G6 H6 s6 r6=>?_) λ_ k=>k⟩
     have s26:=s25.trans s6
     have h6:=s26.hh _ _ h2
     have g6:G6 acc=none:=s26.sep acc (by rw[h2];exact λz=>nomatch z) g2
     have n1:H1 acc=none:=hacc
     refine⟨h6,_,Yz lt (Xp i),G6,δ3,done++[y],?_,?_,sh3,aK,g6,(r2.mono s26.gg).append (.cons r6 .nil),rfl,lt,by rw[W0];exact Nat.succ_le_succ hl,?_⟩
     .have sx:=st.trans s26
      exact⟨sx.gg,λb u e=>by rw[aR (aX e n1)];exact sx.hh _ _ e,λb u e=>by rw[aR (aX e g6)];exact sx.gh _ _ e,sx.sep⟩
     .exact((S4.step s5).step s6).beside sh3 g6 n1
     .refine(ao w).mono (λrest k G' H' vs s' h' g' r'=>k G' H' vs s' h' g' (by simpa using r')) λ_ k=>k
   .obtain rfl:i=ds.length:=by omega
    rw[Yu] at w
    exact .inl ⟨Y.stop _ H (st.gg.trans st.gh) (Ww _),w G2 H ys st h2 g2 (by simpa using r2)⟩
 .rw[WD hz] at w
  exact Wn w
theorem oR{tg iter elt:Expr}{ifs:List Expr}{sc:Scope}{cl:List (Str×Addr)}{N':List Str}{cap:List (Option Nat)}{fi:DSt->Out (List D)}{t:D->DSt->Option DSt}{ft:DSt->Out Bool}{fe:DSt->Out D}
  (hh:∀{wi:TI}{g:TG}{tt:TT}{te:TE},PI X tg iter wi->(∀s₀ H₀ C fp pn,PG (bI X N' sc cl s₀ H₀ C fp pn) tg g)->(∀s₀ H₀ C fp pn,BR (bI X N' sc cl s₀ H₀ C fp pn) ifs tt)->(∀s₀ H₀ C fp pn,PE (bI X N' sc cl s₀ H₀ C fp pn) elt te)->PE X (.ListComp elt [⟨tg,iter,ifs,0⟩] sc pos) (Bt cap wi g tt te))
  (hi:DI X Γ E tg iter fi) (sh:ShT t) (hg:∀s₀ H₀ C fp pn,PG (bI X N' sc cl s₀ H₀ C fp pn) tg (tgD X.K Γ t)) (ht:∀s₀ H₀ C fp pn,BR (bI X N' sc cl s₀ H₀ C fp pn) ifs (ttD X.K Γ E0 ft)) (he:∀s₀ H₀ C fp pn,PE (bI X N' sc cl s₀ H₀ C fp pn) elt (teD X.K Γ E0 fe)) :
  DF X Γ E (.ListComp elt [⟨tg,iter,ifs,0⟩] sc pos) (fX cap fi t ft fe):=PE.imp (hh hi hg ht he) (Bc sh)
theorem bJ.snoc{K:Frag}{H G' H':Hp}{b:Addr}{ws:List V}{ds:List D}(f:H b=none)(h:H' b=some (.lst ws))(g:G' b=none)(r:au K Γ G' ws ds):∀{vs:List V}{dss:List (List D)},V.ref b∉vs->bJ K Γ H G' H' vs dss->bJ K Γ H G' H' (vs++[.ref b]) (dss++[ds])
 | _,_,_,.nil=>.cons f h g r (by simp) .nil
 | _,_,m,.cons f' h' g' r' n' t=>.cons f' h' g' r' (λz=>by
   rcases W4.mp z with z | z
   .exact n' z
   .exact m (by rw[YH.mp z];exact WY)) (bJ.snoc f h g r (λz=>m (WR _ z)) t)
theorem bJ.step{K:Frag}{H G H1 G2 H2:Hp}(s:Step G H1 G2 H2):∀{vs:List V}{dss:List (List D)},bJ K Γ H G H1 vs dss->bJ K Γ H G2 H2 vs dss
 | _,_,.nil=>.nil
 | _,_,.cons f h g r n t=>.cons f (s.hh _ _ h) (s.sep _ (by rw[h];exact λq=>nomatch q) g) (r.mono s.gg) n (bJ.step s t)
theorem bJ.updI{K:Frag}{H G' H':Hp}{a:Addr}{o:HO}:∀{vs:List V}{dss:List (List D)},V.ref a∉vs->bJ K Γ H G' H' vs dss->bJ K Γ H G' (upd H' a o) vs dss
 | _,_,_,.nil=>.nil
 | _,_,m,.cons f h g r n t=>.cons f ((aR λz=>m (by rw[z];exact WY)).trans h) g r n (bJ.updI (λz=>m (WR _ z)) t)
theorem KD{cap:List (Option Nat)}{fi:DSt->Out (List D)}{t:D->DSt->Option DSt}{ft:DSt->Out Bool}{fe:DSt->Out (List D)}(sh:ShT t)(σ:L2.St)(H:Hp)(Q:VK):tffD X.K Γ E (fX cap fi t ft fe) σ H Q->Bt cap (tiD X.K Γ E fi) (tgD X.K Γ t) (ttD X.K Γ E0 ft) (tfD X.K Γ E0 fe) σ H Q:=λ⟨G0,H0,G,δ,S,w⟩=>by
 refine⟨G0,H0,G,δ,S,(ao w).mono (λds w J G1 H1 s1 Y=>?_) λx k=>k⟩
 by_cases hz:ds.length<sizeLine
 .rw[Wu hz] at w
  intro acc hacc
  have Sc:=(S.step s1).cap cap
  refine⟨λi m ys τ H=>∃G δ done,Step G1 H1 G H/\SR X.K Γ G1 H1 G H τ δ/\Ij δ/\H acc=some (.lst ys)/\G acc=none/\V.ref acc∉ys/\bJ X.K Γ H1 G H ys done/\m=ds.length - i/\i<=ds.length/\ys.length<=i /\
   wpO (xV t ft fe (ds.drop i) δ) (λrest=>∀G' H' vs,Step G1 H1 G' H'->H' acc=some (.lst vs)->G' acc=none->V.ref acc∉vs->bJ X.K Γ H1 G' H' vs (done++rest)->Q (.ref acc) H') (λ_=>True),?_,?_⟩
  .have g1:G1 acc=none:=aC s1.gh hacc
   have st:=Step.aside s1.gh (o:=.lst []) hacc
   refine⟨_,G1,_,[],st,Sc.step st,sh_cap _ _,aK,g1,(by simp),.nil,rfl,Xq _,Ww _,w.mono (λrest k G' H' vs s' h' g' n' r'=>k acc vs G' H' (s1.trans s') (aC s1.hh hacc) h' g' n' (r'.reF λb z=>aC s1.hh z)) λ_ _=>trivial⟩
  .rintro i m ys τ H ⟨G2,δ2,done,st,S2,sh2,h2,g2,n2,r2,rfl,hi,hl,w⟩
   refine⟨h2,Xa (W5 hl hi) hz,?_⟩
   by_cases lt:i<ds.length
   .refine .inr ⟨Y.go i H (st.gg.trans st.gh) lt,λx H' y=>?_⟩
    obtain⟨G3,s3,r3⟩:=Y.yld i G2 H x H' ds[i] st.gg st.gh y (by simp[lt])
    rw[XC lt] at w
    obtain⟨δ3,e3,w⟩:=bC (ao w)
    refine⟨G1,H1,G3,δ2,ds[i],δ3,S2.step s3,r3,e3,λσ4 S4=>?_⟩
    have w:=cU (R':=exD X.K Γ E0 G3 H') (ao w)
    refine⟨G1,H1,G3,δ3,S4,w.mono (λk w G5 H5 s5=>?_) λ_ k=>k⟩
    have s25:=s3.trans s5
    have sh3:=sh _ _ _ e3 sh2
    cases k with
    | false =>
     rw[WD Wv] at w
     dsimp only
     rw[WD Wv]
     exact⟨_,Yz lt (Xp i),G5,δ3,done,st.trans s25,S4.step s5,sh3,s25.hh _ _ h2,s25.sep acc (by rw[h2];exact λz=>nomatch z) g2,n2,r2.step s25,rfl,lt,Nat.le_succ_of_le hl,w⟩
    | true =>
     rw[Wu rfl] at w
     dsimp only
     rw[Wu rfl]
     have w:=cU (R':=exD X.K Γ E0 G5 H5) (ao w)
     refine⟨G1,H1,G5,δ3,S4.step s5,w.mono (λy w bb wv G6 H6 s6 fb hb gb rb=>?_) λ_ k=>k⟩
     have s26:=s25.trans s6
     have h6:=s26.hh _ _ h2
     have g6:G6 acc=none:=s26.sep acc (by rw[h2];exact λz=>nomatch z) g2
     have n1:H1 acc=none:=hacc
     have neb:acc≠bb:=λz=>by
      have:=s25.hh _ _ h2
      rw[z,fb] at this
      cases this
     have nbm:V.ref bb∉ys:=λz=>(r2.step s25).mem bb z |>.2 fb
     have f1:H1 bb=none:=aC ((st.trans s25).hh) fb
     refine⟨h6,_,Yz lt (Xp i),G6,δ3,done++[y],?_,?_,sh3,aK,g6,(λz=>by
      rcases W4.mp z with z | z
      .exact n2 z
      .exact neb (V.ref.inj (YH.mp z))),bJ.snoc f1 ((aR (XH neb)).trans hb) gb rb nbm (bJ.updI n2 (r2.step s26)),rfl,lt,by rw[W0];exact Nat.succ_le_succ hl,?_⟩
     .have sx:=st.trans s26
      exact⟨sx.gg,λb u e=>by rw[aR (aX e n1)];exact sx.hh _ _ e,λb u e=>by rw[aR (aX e g6)];exact sx.gh _ _ e,sx.sep⟩
     .exact((S4.step s5).step s6).beside sh3 g6 n1
     .refine(ao w).mono (λrest k G' H' vs s' h' g' n' r'=>k G' H' vs s' h' g' n' (by simpa using r')) λ_ k=>k
   .obtain rfl:i=ds.length:=by omega
    rw[Yu] at w
    exact .inl ⟨Y.stop _ H (st.gg.trans st.gh) (Ww _),w G2 H ys st h2 g2 n2 (by simpa using r2)⟩
 .rw[WD hz] at w
  exact Wn w
theorem dff_comp{tg iter elt:Expr}{ifs:List Expr}{sc:Scope}{cl:List (Str×Addr)}{N':List Str}{cap:List (Option Nat)}{fi:DSt->Out (List D)}{t:D->DSt->Option DSt}{ft:DSt->Out Bool}{fe:DSt->Out (List D)}
  (hh:∀{wi:TI}{g:TG}{tt:TT}{te:TE},PI X tg iter wi->(∀s₀ H₀ C fp pn,PG (bI X N' sc cl s₀ H₀ C fp pn) tg g)->(∀s₀ H₀ C fp pn,BR (bI X N' sc cl s₀ H₀ C fp pn) ifs tt)->(∀s₀ H₀ C fp pn,PE (bI X N' sc cl s₀ H₀ C fp pn) elt te)->PE X (.ListComp elt [⟨tg,iter,ifs,0⟩] sc pos) (Bt cap wi g tt te))
  (hi:DI X Γ E tg iter fi) (sh:ShT t) (hg:∀s₀ H₀ C fp pn,PG (bI X N' sc cl s₀ H₀ C fp pn) tg (tgD X.K Γ t)) (ht:∀s₀ H₀ C fp pn,BR (bI X N' sc cl s₀ H₀ C fp pn) ifs (ttD X.K Γ E0 ft)) (he:∀s₀ H₀ C fp pn,PE (bI X N' sc cl s₀ H₀ C fp pn) elt (tfD X.K Γ E0 fe)) :
  DFF X Γ E (.ListComp elt [⟨tg,iter,ifs,0⟩] sc pos) (fX cap fi t ft fe):=PE.imp (hh hi hg ht he) (KD sh)
section
variable{tg iter elt:Expr}{ifs:List Expr}{sc:Scope}{cl:List (Str×Addr)}{N':List Str}{cap:List (Option Nat)}{fi:DSt->Out (List D)}{t:D->DSt->Option DSt}{ft:DSt->Out Bool}{x:Str}{pos' spos:Pos}
theorem ds_setc(i:Nat){fe:DSt->Out D}
  (hh:∀{wi:TI}{g:TG}{tt:TT}{te:TE},PI X tg iter wi->(∀s₀ H₀ C fp pn,PG (bI X N' sc cl s₀ H₀ C fp pn) tg g)->(∀s₀ H₀ C fp pn,BR (bI X N' sc cl s₀ H₀ C fp pn) ifs tt)->(∀s₀ H₀ C fp pn,PE (bI X N' sc cl s₀ H₀ C fp pn) elt te)->PS X (.Assign [.Name x pos'] (.ListComp elt [⟨tg,iter,ifs,0⟩] sc pos) spos) (Gk (Bt cap wi g tt te) (yp i)))
  (hi:DI X Γ E tg iter fi) (sh:ShT t) (hg:∀s₀ H₀ C fp pn,PG (bI X N' sc cl s₀ H₀ C fp pn) tg (tgD X.K Γ t)) (ht:∀s₀ H₀ C fp pn,BR (bI X N' sc cl s₀ H₀ C fp pn) ifs (ttD X.K Γ E0 ft)) (he:∀s₀ H₀ C fp pn,PE (bI X N' sc cl s₀ H₀ C fp pn) elt (teD X.K Γ E0 fe)) :
  DS X Γ E (.Assign [.Name x pos'] (.ListComp elt [⟨tg,iter,ifs,0⟩] sc pos) spos) (bD i (su (fX cap fi t ft fe))):=PS.imp (hh hi hg ht he) λN σ H ⟨G0,H0,G,δ,S,w⟩=>Bc sh _ _ _
 ⟨G0,H0,G,δ,S,(ao (ao w)).mono (λds w a vs G1 H1 s1 f h g r=>by
  have hp:∀b,decide (b=a)=true->G1 b=none/\H b=none:=λb z=>by obtain rfl:=WT z;exact⟨g,f⟩
  have s2:=s1.frz (λb=>decide (b=a)) hp
  exact w _ _ H1 ((S.step s2).set (.lst (by unfold dH;rw[Wu (by simp)];exact h) (r.mono (cR λb z=>(hp b z).1))))) λx k=>exD.step k S.st⟩
end
end
def fV(n:Nat)(ds:List D):DSt:=ds.map (λd=>some (.sh d))++List.replicate (n - ds.length) none
def v9:Fl->Out D
 | .nx _=>.ok .non
 | .rt d=>.ok d
 | .rl ds=>.ok (.lst ds)
 | .rll dss=>.ok (.lst (dss.map .lst))
 | _=>.stuck
def endF:Fl->Out (List D)
 | .rl ds=>.ok ds
 | _=>.stuck
def endFF:Fl->Out (List (List D))
 | .rll ds=>.ok ds
 | _=>.stuck
def dz(n:Nat)(g:DSt->Out Fl)(ds:List D):Out D:=(g (fV n ds)).bind v9
def runL(n:Nat)(g:DSt->Out Fl)(ds:List D):Out (List D):=(g (fV n ds)).bind endF
def runLL(n:Nat)(g:DSt->Out Fl)(ds:List D):Out (List (List D)):=(g (fV n ds)).bind endFF
def spF(K:Frag)(Γ:Nat->Option Addr)(n:Nat)(F:List D->Out (List D)):Sp:=λvs H Q E=>vs.length=n/\∃G ds,aP G H/\au K Γ G vs ds/\wpO (F ds) (okF K Γ G H Q) (exD K Γ E G H)
def spFF(K:Frag)(Γ:Nat->Option Addr)(n:Nat)(F:List D->Out (List (List D))):Sp:=λvs H Q E=>vs.length=n/\∃G ds,aP G H/\au K Γ G vs ds/\wpO (F ds) (okFF K Γ G H Q) (exD K Γ E G H)
def spD(K:Frag)(Γ:Nat->Option Addr)(n:Nat)(F:List D->Out D):Sp:=λvs H Q E=>vs.length=n/\∃G ds,aP G H/\au K Γ G vs ds/\wpO (F ds) (okD K Γ G H Q) (exD K Γ E G H)
theorem SR.Dl{K:Frag}{Γ:Nat->Option Addr}{G H:Hp}{vs:List V}{ds:List D}{N:List Str}(s:aP G H)(r:au K Γ G vs ds):SR K Γ G H G H (L2.start N vs) (fV N.length ds):=by
 refine⟨.refl s,by simp[fV,L2.start,r.length],λ_=>none,λi x e=>?_⟩
 unfold fV at e
 by_cases h:i<ds.length
 .rw[Wz (by simpa using h),WL] at e
  obtain⟨d,e1,e2⟩:=WF.mp e
  cases e2
  obtain⟨v,h1,h2⟩:=r.get e1
  refine⟨v,?_,h2⟩
  unfold L2.start
  rw[Wz (by rw[Wx,r.length];exact h),WL,h1]
  rfl
 .rw[W6 (by simpa using h),List.getElem?_replicate] at e
  split at e <;> cases e
theorem frz_rl{K:Frag}{Γ:Nat->Option Addr}{G H:Hp}{Q:VK}{ds:List D}(q:okD K Γ G H Q (.lst ds)):okF K Γ G H Q ds:=λa vs G1 H1 s1 f h g r=>by
 have hp:∀b,decide (b=a)=true->G1 b=none/\H b=none:=λb z=>by obtain rfl:=WT z;exact⟨g,f⟩
 exact q _ _ H1 (s1.frz (λb=>decide (b=a)) hp) (.lst (by unfold dH;rw[Wu (by simp)];exact h) (r.mono (cR λb z=>(hp b z).1)))
theorem Uj{K:Frag}{Γ:Nat->Option Addr}{G H:Hp}{Q:VK}{dss:List (List D)}(q:okD K Γ G H Q (.lst (dss.map .lst))):okFF K Γ G H Q dss:=λa vs G1 H1 s1 f h g n r=>by
 have hp:∀b,decide (b=a∨V.ref b∈vs)=true->G1 b=none/\H b=none:=λb z=>by
  rcases WT z with z | z
  .subst z;exact⟨g,f⟩
  .exact⟨r.gnone b z,(r.mem b z).1⟩
 exact q _ _ H1 (s1.frz (λb=>decide (b=a∨V.ref b∈vs)) hp) (.lst (by unfold dH;rw[Wu (by simp)];exact h) (bJ.frozen (G0:=G) (cR λb z=>(hp b z).1) (λb hb=>by simp[hb]) r))
section
variable{P:Program}{w:World}{K:Frag}{mg:Str->Option Value}{base:Heap}{Γ:Nat->Option Addr}
theorem Fun.okD{x qual:Str}{st:Stmt}{f:Addr}{fd:FuncData}{N ps:List Str}{k:Nat}{g:DSt->Out Fl}(F:L2.Fun K x qual st f fd)(S:aF N ps (aq st))
  (h:∀(cdv:Value)(A:Around)(outer:List Env)(s:Shared)(H:Hp)(E:XK),dX k (A.deeper (envOfC qual (aq st) s.heap.objs.size f cdv))->DSs (BV CX0 P w K mg base N qual (aq st) f cdv A outer s H E).nox Γ E0 (eY st) g) :
  cP P w K mg base CX0 (k+1) f fd ps (spD K Γ ps.length λds=>(dz N.length g ds).bw) :=
 L2.Fun.ok F S (λvs H Q E h=>h.1) λcdv A outer s H vs Q E hr ⟨hl,G,ds,sg,r,q⟩=>by
  refine⟨_,h cdv A outer s H E hr,G,H,G,fV N.length ds,SR.Dl sg r,(ao (cU (R':=exD K Γ E0 G H) q)).mono (λfl q=>?_) λ_ k=>k⟩
  cases fl with
  | nx δ=>exact λσ G' H' S'=>q _ G' H' S'.st .non
  | rt d=>exact λv G' H' s' r'=>q v G' H' s' r'
  | bk δ=>exact Wn q
  | ct δ=>exact Wn q
  | rl ds=>exact frz_rl q
  | rll dss=>exact Uj q
theorem Fun.okF{x qual:Str}{st:Stmt}{f:Addr}{fd:FuncData}{N ps:List Str}{k:Nat}{g:DSt->Out Fl}(F:L2.Fun K x qual st f fd)(S:aF N ps (aq st))
  (h:∀(cdv:Value)(A:Around)(outer:List Env)(s:Shared)(H:Hp)(E:XK),dX k (A.deeper (envOfC qual (aq st) s.heap.objs.size f cdv))->DSs (BV CX0 P w K mg base N qual (aq st) f cdv A outer s H E).nox Γ E0 (eY st) g) :
  cP P w K mg base CX0 (k+1) f fd ps (spF K Γ ps.length λds=>(runL N.length g ds).bw) :=
 L2.Fun.ok F S (λvs H Q E h=>h.1) λcdv A outer s H vs Q E hr ⟨hl,G,ds,sg,r,q⟩=>by
  refine⟨_,h cdv A outer s H E hr,G,H,G,fV N.length ds,SR.Dl sg r,(ao (cU (R':=exD K Γ E0 G H) q)).mono (λfl q=>?_) λ_ k=>k⟩
  cases fl with
  | rl ds=>exact λa vs G' H' s f h g r=>q a vs G' H' s f h g r
  | _=>exact Wn q
theorem Fun.okFF{x qual:Str}{st:Stmt}{f:Addr}{fd:FuncData}{N ps:List Str}{k:Nat}{g:DSt->Out Fl}(F:L2.Fun K x qual st f fd)(S:aF N ps (aq st))
  (h:∀(cdv:Value)(A:Around)(outer:List Env)(s:Shared)(H:Hp)(E:XK),dX k (A.deeper (envOfC qual (aq st) s.heap.objs.size f cdv))->DSs (BV CX0 P w K mg base N qual (aq st) f cdv A outer s H E).nox Γ E0 (eY st) g) :
  cP P w K mg base CX0 (k+1) f fd ps (spFF K Γ ps.length λds=>(runLL N.length g ds).bw) :=
 L2.Fun.ok F S (λvs H Q E h=>h.1) λcdv A outer s H vs Q E hr ⟨hl,G,ds,sg,r,q⟩=>by
  refine⟨_,h cdv A outer s H E hr,G,H,G,fV N.length ds,SR.Dl sg r,(ao (cU (R':=exD K Γ E0 G H) q)).mono (λfl q=>?_) λ_ k=>k⟩
  cases fl with
  | rll ds=>exact λa vs G' H' s f h g n r=>q a vs G' H' s f h g n r
  | _=>exact Wn q
theorem okFF_D{CX:CXT}{k n:Nat}{f:Addr}{fd:FuncData}{ps:List Str}{F:List D->Out (List (List D))}(h:cP P w K mg base CX k f fd ps (spFF K Γ n F)):cP P w K mg base CX k f fd ps (spD K Γ n λds=>(F ds).bind λxs=>.ok (.lst (xs.map .lst))) :=
 h.imp λvs H Q E ⟨hl,G,ds,sg,r,q⟩=>⟨hl,G,ds,sg,r,(ao q).mono (λxs q=>Uj q) λ_ k=>k⟩
end
section
variable{X:Cx}{Γ:Nat->Option Addr}{E:XK}{e a b c o:Expr}{pos apos:Pos}{es:List Expr}{fo:DSt->Out D}{fr:DSt->Out (List D)}{CX:CXT}
def oF(n:Nat)(F:List D->Out D)(fr:DSt->Out (List D)):DSt->Out D:=λδ=>(fr δ).bind λds=>if ds.length=n then F ds else .stuck
theorem dcall{n:Nat}{F:List D->Out D}(h:PE X e (Gm (spD X.K Γ n F) [] E (taD X.K Γ E fr))):DE X Γ E e (oF n F fr):=PE.imp h λσ H Q ⟨G0,H0,G,δ,S,w⟩=>by
 refine⟨G0,H0,G,δ,S,(ao w).mono (λds w vs G1 H1 s1 r1=>?_) λ_ k=>k⟩
 split at w
 .rename_i h
  rw[Xi]
  exact⟨by rw[r1.length];exact h,G1,ds,s1.gh,r1,w.mono (λd k=>k.step s1) λx k=>k.step s1⟩
 .exact Wn w
def zE{α:Type}(X:Cx)(Γ:Nat->Option Addr)(CX:CXT)(m:Str)(sp:(List D->Out α)->Sp):List (Nat×(List D->Out α))->Prop
 | []=>True
 | (c,F)::r=>(∃C f fd ps k,Γ c=some C/\Cls X.K C/\Meth X.K C m f/\cP X.prog X.w X.K X.mg X.base CX k f fd ps (sp F)/\dX k X.A/\Binds X.K fd ps [])/\zE X Γ CX m sp r
theorem zE.get{α:Type}{m:Str}{sp:(List D->Out α)->Sp}:∀{M:List (Nat×(List D->Out α))}{c:Nat}{F:List D->Out α},zE X Γ CX m sp M->M.lookup c=some F ->
  ∃C f fd ps k,Γ c=some C/\Cls X.K C/\Meth X.K C m f/\cP X.prog X.w X.K X.mg X.base CX k f fd ps (sp F)/\dX k X.A/\Binds X.K fd ps []
 | [],_,_,_,e=>by cases e
 | (c',F')::r,c,F,h,e=>by
  by_cases q:c=c'
  .subst q
   simp only[List.lookup_cons,beq_self_eq_true] at e
   cases e
   exact h.1
  .have q':(c==c')=false:=W3.mpr q
   simp only[List.lookup_cons,q'] at e
   exact h.2.get e
def Nv{α:Type}(Γ:Nat->Option Addr)(m:Str)(sp:(List D->Out α)->Sp)(M:List (Nat×(List D->Out α)))(E:XK)(ta:TE)(t:TA):TE:=λσ H Q=>ta σ H λx H1=>∃c a C dx fs F,x=.ref a/\H1 a=some (.ins C dx fs)/\Γ c=some C/\M.lookup c=some F/\fs.lookup m=none /\
 t σ H1 λvs H2=>sp F (x::vs) H2 Q E
theorem pe_methD{α:Type}{m:Str}{sp:(List D->Out α)->Sp}{M:List (Nat×(List D->Out α))}{ta:TE}{t:TA}{pl:Sem Bool}(hM:zE X Γ CX m sp M)(hx:lu CX X E)(he:PE X o ta)(ha:PA X (e::es) t)
  (hst:starEach (e::es) X.env=(false,eval e X.env)::starEach es X.env:=by rfl) (hpl:(backTo pos (starEach es X.env)).any (·.1)=false:=by rfl)
  (ht:eval (.Call (.Attribute o m apos) (e::es) [] pos) X.env=(do
   let ov ←eval o X.env
   standAt apos.atName
   let (f,first) ←holding [ov] (getMethod ov m pl)
   callWith pos f first (backTo pos (starEach (e::es) X.env)) (backToKw pos (keywordEach [] X.env))):=by rfl) :
  PE X (.Call (.Attribute o m apos) (e::es) [] pos) (Nv Γ m sp M E ta t):=by
 intro pins s σ H Q I h
 refine X7 (pl:=pl) (thn (he pins s σ H _ I h) λu s1 ⟨x,H1,I1,rx,c,a,C,dx,fs,F,ex,ea,hc,hF,l,q⟩=>?_) ht
 subst ex
 obtain rfl:u=Value.ref a:=rx
 obtain⟨C',f,fd,ps,k,hc',cl,hm,G,hr,hb⟩:=hM.get hF
 rw[hc] at hc'
 cases hc'
 refine rY I1 ea cl hm l ?_
 refine Yi (first:=[.ref a]) (h₀:=X.base) I.ok.mod.kin hm.kp (thn (ha pos pins s1 σ H1 _ I1 q) λus s2 ⟨vs,H2,I2,r,q2⟩=>⟨I2.kIn,?_⟩) hst hpl
 exact Ah (dvs:=[]) (us:=.ref a::us) (vs:=.ref a::vs) G hr hb .nil hx I2 (.cons rfl r) (by rw[Xi];exact q2)
theorem V2{α:Type}{m:Str}{sp:(List D->Out α)->Sp}{M:List (Nat×(List D->Out α))}{ta:TE}{pl:Sem Bool}(hM:zE X Γ CX m sp M)(hx:lu CX X E)(he:PE X o ta)
  (ht:eval (.Call (.Attribute o m apos) [] [] pos) X.env=(do
   let ov ←eval o X.env
   standAt apos.atName
   let (f,first) ←holding [ov] (getMethod ov m pl)
   callWith pos f first (backTo pos (starEach [] X.env)) (backToKw pos (keywordEach [] X.env))):=by rfl) :
  PE X (.Call (.Attribute o m apos) [] [] pos) (Nv Γ m sp M E ta vI):=by
 intro pins s σ H Q I h
 refine X7 (pl:=pl) (thn (he pins s σ H _ I h) λu s1 ⟨x,H1,I1,rx,c,a,C,dx,fs,F,ex,ea,hc,hF,l,q⟩=>?_) ht
 subst ex
 obtain rfl:u=Value.ref a:=rx
 obtain⟨C',f,fd,ps,k,hc',cl,hm,G,hr,hb⟩:=hM.get hF
 rw[hc] at hc'
 cases hc'
 refine rY I1 ea cl hm l ?_
 exact Zh (first:=[.ref a]) I1.kIn hm.kp (Ah (dvs:=[]) (us:=[.ref a]) (vs:=[.ref a]) G hr hb .nil hx I1 (.cons rfl .nil) (by rw[Xi];exact q))
def oM(m:Str)(n:Nat)(M:List (Nat×(List D->Out D)))(fo:DSt->Out D)(fr:DSt->Out (List D)):DSt->Out D:=λδ=>(fo δ).bind λo=>match o with
 | .obj c fs=>match M.lookup c with
  | some F=>if (fs.lookup m).isNone=true then (fr δ).bind λds=>if ds.length+1=n then F (o::ds) else .stuck else .stuck
  | none=>.stuck
 | _=>.stuck
theorem de_meth0{m:Str}{n:Nat}{M:List (Nat×(List D->Out D))}(h:PE X e (Nv Γ m (spD X.K Γ n) M E (teD X.K Γ E fo) vI)):DE X Γ E e (oM m n M fo aD):=PE.imp h λσ H Q ⟨G0,H0,G,δ,S,w⟩=>by
 refine⟨G0,H0,G,δ,S,(ao w).mono (λd w v G1 H1 s1 r1=>?_) λ_ k=>k⟩
 split at w
 .rename_i c fs
  split at w
  .rename_i F hF
   split at w
   .rename_i hn
    have r1':=r1
    cases r1 with
    | obj ha hc rf =>
     refine⟨c,_,_,_,_,F,rfl,s1.gh _ _ ha,hc,hF,rf.none (YJ.mp hn),?_⟩
     have w:wpO (if 0+1=n then F [.obj c fs] else .stuck) (okD X.K Γ G H Q) (exD X.K Γ E G H):=w
     split at w
     .rename_i hl
      exact⟨hl,G1,_,s1.gh,.cons r1' .nil,w.mono (λd k=>k.step s1) λx k=>k.step s1⟩
     .exact Wn w
   .exact Wn w
  .exact Wn w
 .exact Wn w
def oFl{α:Type}(n:Nat)(F:List D->Out α)(fr:DSt->Out (List D)):DSt->Out α:=λδ=>(fr δ).bind λds=>if ds.length=n then F ds else .stuck
theorem dcallF{n:Nat}{F:List D->Out (List D)}(h:PE X e (Gm (spF X.K Γ n F) [] E (taD X.K Γ E fr))):DF X Γ E e (oFl n F fr):=PE.imp h λσ H Q ⟨G0,H0,G,δ,S,w⟩=>by
 refine⟨G0,H0,G,δ,S,(ao w).mono (λds w vs G1 H1 s1 r1=>?_) λ_ k=>k⟩
 split at w
 .rename_i h
  rw[Xi]
  exact⟨by rw[r1.length];exact h,G1,ds,s1.gh,r1,w.mono (λd k a vs G' H' s f h g r=>k a vs G' H' (s1.trans s) (aC s1.hh f) h g r) λx k=>k.step s1⟩
 .exact Wn w
def Od(K:Frag)(Γ:Nat->Option Addr)(f:Str):List Nat->Prop
 | []=>True
 | c::r=>(∃C,Γ c=some C/\Cls K C/\bH K C f)/\Od K Γ f r
theorem Od.get{K:Frag}{f:Str}:∀{cs:List Nat}{c:Nat},Od K Γ f cs->cs.contains c=true->∃C,Γ c=some C/\Cls K C/\bH K C f
 | [],_,_,e=>by cases e
 | d::r,c,h,e=>by
  by_cases q:c=d
  .subst q;exact h.1
  .exact h.2.get (by simpa[q] using e)
def gC(f:Str)(cs:List Nat)(fo:DSt->Out D):DSt->Out D:=λδ=>(fo δ).bind λo=>match o with
 | .obj c fs=>if cs.contains c=true then .opt (fs.lookup f) else .stuck
 | _=>.stuck
theorem gO{f:Str}{cs:List Nat}(hf:Od X.K Γ f cs)(he:DE X Γ E o fo)(hb:attributeBase o f X.env (eval o X.env)=eval o X.env:=by rfl):DE X Γ E (.Attribute o f pos) (gC f cs fo):=PE.imp (pe_fld he hb) λσ H Q ⟨G0,H0,G,δ,S,w⟩=>by
 refine⟨G0,H0,G,δ,S,(ao w).mono (λd w v G1 H1 s1 r1=>?_) λ_ k=>k⟩
 split at w
 .rename_i c fs
  split at w
  .rename_i hc
   obtain⟨d,e,k⟩:=bC w
   cases r1 with
   | obj ha hC rf =>
    obtain⟨C',hC',cl,na⟩:=hf.get hc
    rw[hC] at hC'
    cases hC'
    obtain⟨v,h1,h2⟩:=rf.look e
    exact⟨_,_,_,_,v,rfl,s1.gh _ _ ha,cl,na,h1,k _ G1 H1 s1 h2⟩
  .exact Wn w
 .exact Wn w
def spI(K:Frag)(Γ:Nat->Option Addr)(c n:Nat)(F:List D->Out (List (Str×D))):Sp:=λvs H Q E=>vs.length=n+1/\∃a dx C us G ds,vs=.ref a::us/\H a=some (.ins C dx [])/\Γ c=some C/\G a=none/\aP G H/\au K Γ G us ds /\
 wpO (F ds) (λfds=>∀fs G' H',aP G G'->(∀b o,H b=some o->b≠a->H' b=some o)->aP G' H'->(∀b,H b≠none->G b=none->G' b=none)->H' a=some (.ins C dx fs)->dG K Γ G' fs fds->Q .non H')
  (λx=>∀a' G' H',aP G G'->(∀b o,H b=some o->b≠a->H' b=some o)->aP G' H'->(∀b,H b≠none->G b=none->G' b=none)->Rep K Γ G' (.ref a') x->E (.ref a') none H')
def oMk(c n:Nat)(F:List D->Out (List (Str×D)))(fr:DSt->Out (List D)):DSt->Out D:=λδ=>(fr δ).bind λds=>if ds.length=n then (F ds).bind λfds=>.ok (.obj c fds) else .stuck
theorem Uq{c n:Nat}{C:Addr}{F:List D->Out (List (Str×D))}{G H G1 H1:Hp}{Q:VK}{vs:List V}{ds:List D}(hC:Γ c=some C)(s1:Step G H G1 H1)(r1:au X.K Γ G1 vs ds)(hl:ds.length=n)(w:wpO ((F ds).bind λfds=>.ok (.obj c fds)) (okD X.K Γ G H Q) (exD X.K Γ E G H))(x dx:Addr)(hx:H1 x=none)(hdx:H1 dx=none)(ne:dx≠x):
  spI X.K Γ c n F (.ref x::vs) (upd (upd H1 dx (.own x)) x (.ins C dx [])) (λv H2=>v=.non/\Q (.ref x) H2) E:=by
 have gx:G1 x=none:=aC s1.gh hx
 have gdx:G1 dx=none:=aC s1.gh hdx
 have up:∀b o,H1 b=some o->b≠x/\upd (upd H1 dx (.own x)) x (.ins C dx []) b=some o:=λb o e=>⟨aX e hx,by rw[aR (aX e hx),aR (aX e hdx)];exact e⟩
 have nn:∀b,H1 b≠none->upd (upd H1 dx (.own x)) x (.ins C dx []) b≠none:=λb hb z=>by
  cases q:H1 b with
  | none=>exact hb q
  | some o=>rw[(up b o q).2] at z;cases z
 refine⟨by rw[WP,r1.length,hl],x,dx,C,vs,G1,ds,rfl,aK,hC,gx,λb o e=>(up b o (s1.gh _ _ e)).2,r1,(ao w).mono (λfds w fs G' H' a1 a2 a3 a4 a5 a6=>⟨rfl,?_⟩) λex k a' G' H' a1 a2 a3 a4 a5=>k a' G' H' (s1.trans ⟨a1,λb o e=>a2 b o (up b o e).2 (up b o e).1,a3,λb hb g=>a4 b (nn b hb) g⟩) a5⟩
 have gx':G' x=none:=a4 x (by rw[aK];exact λz=>nomatch z) gx
 refine w _ (upd G' x (.ins C dx fs)) H' (s1.trans ⟨a1.trans (aP.up gx'),λb o e=>a2 b o (up b o e).2 (up b o e).1,λb o e=>?_,λb hb g=>?_⟩) (.obj aK hC (a6.mono (aP.up gx')))
 .by_cases z:b=x
  .subst z;rw[aK] at e;cases e;exact a5
  .rw[aR z] at e;exact a3 _ _ e
 .have z:b≠x:=λz=>hb (by rw[z];exact hx)
  rw[aR z];exact a4 b (nn b hb) g
theorem dmake{c n:Nat}{C:Addr}{F:List D->Out (List (Str×D))}(hC:Γ c=some C)(h:PE X e (Q7 C (spI X.K Γ c n F) [] E (taD X.K Γ E fr))):DE X Γ E e (oMk c n F fr):=PE.imp h λσ H Q ⟨G0,H0,G,δ,S,w⟩=>by
 refine⟨G0,H0,G,δ,S,(ao w).mono (λds w vs G1 H1 s1 r1=>?_) λ_ k=>k⟩
 split at w
 .rename_i hl
  intro x dx hx hdx ne
  rw[Xi]
  exact Uq hC s1 r1 hl w x dx hx hdx ne
 .exact Wn w
theorem dmake0{c n:Nat}{C:Addr}{F:List D->Out (List (Str×D))}(hC:Γ c=some C)(h:PE X e (Q7 C (spI X.K Γ c n F) [] E vI)):DE X Γ E e (oMk c n F aD):=PE.imp h λσ H Q ⟨G0,H0,G,δ,S,w⟩=>by
 have w:wpO (if 0=n then (F []).bind λfds=>.ok (.obj c fds) else .stuck) (okD X.K Γ G H Q) (exD X.K Γ E G H):=w
 split at w
 .rename_i hl
  intro x dx hx hdx ne
  rw[Xi]
  exact Uq (G:=G) (H:=H) hC (.refl S.st.gh) .nil hl w x dx hx hdx ne
 .exact Wn w
structure uo(K:Frag)(C:Addr):Prop where
 cls:Cls K C
 ha:findIn K (.ref C) "__class__"=some (some (.builtin "object.__class__"))
 hn:PySem.W.specialIn K (.builtin "object.__class__") "__get__"=some (some (.builtin "getset_descriptor.__get__"))
 htk:PySem.W.takesIn K (.builtin "object.__class__")=some true
 hm:PySem.W.mroIn K C (.type "object")=some true
 ty:PySem.W.typeIn K (.ref C)=some (.type "type")
 cd:∃cd,PySem.W.clsIn K C=some cd
def Dp(K:Frag)(Γ:Nat->Option Addr)(cv:V)(isi:D->Option Bool):Prop:=∀H v d b,Rep K Γ H v d->isi d=some b->∃t,TyX K H v t/\PySem.W.kitOne K t (clsV cv)=some b
def uY(isi:D->Option Bool)(fo:DSt->Out D):DSt->Out D:=λδ=>(fo δ).bind λd=>(Out.opt (isi d)).bind λb=>.ok (.bl b)
theorem lA{cv:V}{isi:D->Option Bool}{p:Pos}(hc:(cv=.ref (match cv with | .ref C=>C | _=>0)∨cv=.ty (match cv with | .ty n=>n | _=>"")))(hi:Dp X.K Γ cv isi)(hg:Gl X "isinstance")(hm:X.mg "isinstance"=none)(ho:DB X Γ E o fo)(hcv:PE X c (tC cv))
  (hs:starEach [o,c] X.env=(false,eval o X.env)::starEach [c] X.env:=by rfl) (hs2:starEach [c] X.env=[(false,eval c X.env)]:=by rfl):DE X Γ E (.Call (.Name "isinstance" p) [o,c] [] pos) (uY isi fo) :=
 PE.imp (qz call_isi hg hm PyProof.Rows.boot_isinstance (bM ho (bM hcv eO (by rw[hs2];rfl)) hs) (by decide) (by decide) hs (by rw[hs2];rfl)) λσ H Q ⟨G0,H0,G,δ,S,w⟩=>by
  refine⟨G0,H0,G,δ,S,(ao w).mono (λd w v G1 H1 s1 r1=>?_) λ_ k=>k⟩
  obtain⟨b,e,k⟩:=bC (ao w)
  obtain⟨t,ty,kt⟩:=hi H1 v d b r1 e
  exact⟨v,cv,t,b,rfl,hc,ty,kt,k _ G1 H1 s1 (.bl b)⟩
end
abbrev kc(d:D):DSt->Out D:=λ_=>.ok d
abbrev one1(g:D->Option D):List D->Option D:=λds=>match ds with
 | [x]=>g x
 | _=>none
abbrev frzd(i:Nat)(g:DSt->Out Fl):DSt->Out Fl:=λδ=>g (frz i δ)
abbrev FZ(fuel:DSt->Nat)(t:DSt->Out Bool)(b:DSt->Out Fl):DSt->Out Fl:=λδ=>whD t b (fuel δ) δ
structure Def(P:Program)(w:World)(K:Frag)(mg:Str->Option Value)(base:Heap)(x:Str)(k:Nat)(ps:List Str)(sp:Sp):Prop where
 ex:∃f fd,cP P w K mg base CX0 k f fd ps sp/\Binds K fd ps []/\mg x=some (.ref f)/\keepIn K (.ref f)=true
structure Ini(P:Program)(w:World)(K:Frag)(mg:Str->Option Value)(base:Heap)(C:Addr)(k:Nat)(ps:List Str)(sp:Sp):Prop where
 ex:∃f fd,Mk K C f/\cP P w K mg base CX0 k f fd ps sp/\Binds K fd ps []
def mU{α:Type}(P:Program)(w:World)(K:Frag)(mg:Str->Option Value)(base:Heap)(Γ:Nat->Option Addr)(m:Str)(sp:(List D->Out α)->Sp)(k:Nat):List (Nat×(List D->Out α))->Prop
 | []=>True
 | (c,F)::r=>(∃C f fd ps,Γ c=some C/\Cls K C/\Meth K C m f/\cP P w K mg base CX0 k f fd ps (sp F)/\Binds K fd ps [])/\mU P w K mg base Γ m sp k r
theorem mU.ok{α:Type}{X:Cx}{Γ:Nat->Option Addr}{m:Str}{sp:(List D->Out α)->Sp}{k:Nat}(hr:dX k X.A):∀{M:List (Nat×(List D->Out α))},mU X.prog X.w X.K X.mg X.base Γ m sp k M->zE X Γ CX0 m sp M
 | [],_=>trivial
 | (c,F)::r,⟨⟨C,f,fd,ps,h1,h2,h3,h4,h5⟩,t⟩=>⟨⟨C,f,fd,ps,k,h1,h2,h3,h4,hr,h5⟩,mU.ok hr t⟩
abbrev dOff(F:List D->Out (List (List D))):List D->Out D:=λds=>(F ds).bind λxs=>.ok (.lst (xs.map .lst))
abbrev tabDD(M:List (Nat×(List D->Out (List (List D))))):List (Nat×(List D->Out D)):=M.map λp=>(p.1,dOff p.2)
theorem mU.dFF{P:Program}{w:World}{K:Frag}{mg:Str->Option Value}{base:Heap}{Γ:Nat->Option Addr}{m:Str}{n k:Nat}:∀{M:List (Nat×(List D->Out (List (List D))))},mU P w K mg base Γ m (spFF K Γ n) k M->mU P w K mg base Γ m (spD K Γ n) k (tabDD M)
 | [],_=>trivial
 | (c,F)::r,⟨⟨C,f,fd,ps,h1,h2,h3,h4,h5⟩,t⟩=>⟨⟨C,f,fd,ps,h1,h2,h3,okFF_D h4,h5⟩,mU.dFF t⟩
def JS(K:Frag)(Γ:Nat->Option Addr)(cv:Value):List (Nat×Bool)->Prop
 | []=>True
 | (c,b)::r=>(∃C',Γ c=some C'/\uo K C'/\PySem.W.kitOne K (.ref C') cv=some b)/\JS K Γ cv r
theorem JS.get{K:Frag}{Γ:Nat->Option Addr}{cv:Value}:∀{tab:List (Nat×Bool)}{c:Nat}{b:Bool},JS K Γ cv tab->tab.lookup c=some b->∃C',Γ c=some C'/\uo K C'/\PySem.W.kitOne K (.ref C') cv=some b
 | [],_,_,_,e=>by cases e
 | (c',b')::r,c,b,h,e=>by
  by_cases q:c=c'
  .subst q
   simp only[List.lookup_cons,beq_self_eq_true] at e
   cases e
   exact h.1
  .have q':(c==c')=false:=W3.mpr q
   simp only[List.lookup_cons,q'] at e
   exact h.2.get e
def uh(n:String)(tab:List (Nat×Bool)):D->Option Bool
 | .obj c _=>tab.lookup c
 | .non=>some false
 | .bl _=>some (n=="bool" || n=="int")
 | .int _=>some (n=="int")
 | .str _=>some (n=="str")
 | .lst _=>some (n=="list")
 | .tup _=>some (n=="tuple")
 | .rot _=>some (n=="tuple")
 | .dK _=>some (n=="dict")
 | .dT _=>some (n=="dict")
 | _=>none
def ttB(a b:String):Option Bool:=if (Value.type a==Value.type b)=true then some true else if PySem.W.kitMeta b=true then (PySem.fastBuiltinMro a).map (·.contains (.type b)) else none
def Gz(n:String):Bool:=ttB "NoneType" n==some false && ttB "bool" n==some (n=="bool" || n=="int") && ttB "int" n==some (n=="int") && ttB "str" n==some (n=="str") && ttB "list" n==some (n=="list") && ttB "tuple" n==some (n=="tuple") && ttB "dict" n==some (n=="dict")
theorem yw{K:Frag}{Γ:Nat->Option Addr}{n:String}{tab:List (Nat×Bool)}(a:Gz n=true)(h:JS K Γ (.type n) tab):Dp K Γ (.ty n) (uh n tab):=by
 unfold Gz at a
 simp only[Bool.and_eq_true,beq_iff_eq] at a
 obtain⟨⟨⟨⟨⟨⟨a0,a1⟩,a2⟩,a3⟩,a4⟩,a5⟩,a6⟩:=a
 intro H v d b r e
 cases r <;> simp only[uh] at e
 case non=>cases e;exact⟨_,.of .non,a0⟩
 case bl=>cases e;exact⟨_,.of (.bl _),a1⟩
 case int=>cases e;exact⟨_,.of (.int _),a2⟩
 case str=>cases e;exact⟨_,.of (.str _),a3⟩
 case lst h1 _=>cases e;exact⟨_,.of (.lst h1),a4⟩
 case tup h1 _=>cases e;exact⟨_,.of (.tup h1),a5⟩
 case rot h1 _=>cases e;exact⟨_,.kt h1,a5⟩
 case dK h1 _=>cases e;exact⟨_,.of (.dK h1),a6⟩
 case dT h1 _=>cases e;exact⟨_,.of (.dT h1),a6⟩
 case obj h1 g _ =>
  obtain⟨C',g',i,k⟩:=h.get e
  rw[g] at g'
  cases g'
  exact⟨_,.of (.ins h1 i.cls i.ha i.hn i.htk i.hm),k⟩
 all_goals cases e
theorem tt_bool:Gz "bool"=true:=by decide +kernel
theorem tt_int:Gz "int"=true:=by decide +kernel
theorem tt_str:Gz "str"=true:=by decide +kernel
theorem tt_list:Gz "list"=true:=by decide +kernel
theorem tt_tuple:Gz "tuple"=true:=by decide +kernel
theorem lO(i j:Int):bZ (.int i) (.int j)=some (.int (i+j)):=rfl
theorem Dm(i j:Int):xn (.int i) (.int j)=some (.int (i - j)):=rfl
theorem pF{i j:Int}(h:qi i j):ul (.int i) (.int j)=some (.int (i*j)):=by show (if qi i j then _ else _)=_;rw[Wu h]
theorem kh{i j:Int}(h:CDiv i j):eV (.int i) (.int j)=some (.int (i / j)):=by show (if CDiv i j then _ else _)=_;rw[Wu h]
theorem lX{i j:Int}(h:0<j):cX (.int i) (.int j)=some (.int (i % j)):=by show (if 0<j then _ else _)=_;rw[Wu h]
theorem Cy(p:Int->Int->Bool)(i j:Int):cmpI p (.int i) (.int j)=some (p i j):=rfl
theorem N5(b:Bool):truD (.bl b)=some b:=rfl
theorem asB_b(b:Bool):asB (.bl b)=some b:=rfl
theorem dO(xs:List D):bN (.lst xs)=some (.int xs.length):=rfl
theorem Lp(xs:List D):bN (.rol xs)=some (.int xs.length):=rfl
theorem Lq(xs:List D):bN (.tup xs)=some (.int xs.length):=rfl
theorem qw(xs:List D)(i:Int):ixD (.lst xs) (.int i)=atI xs i:=rfl
theorem ixD_r(xs:List D)(i:Int):ixD (.rol xs) (.int i)=atI xs i:=rfl
theorem Jp(xs:List D)(i:Int):ixD (.tup xs) (.int i)=atI xs i:=rfl
theorem Lj(i:Int):intD (.int i)=some (.int i):=rfl
theorem uQ(b:Bool):intD (.bl b)=some (.int (if b then 1 else 0)):=rfl
theorem Lw(i j:Int):maxD [.int i,.int j]=some (.int (if j>i then j else i)):=rfl
theorem Fi(i j:Int):minD [.int i,.int j]=some (.int (if j<i then j else i)):=rfl
theorem modb(a b:Int){m:Int}(h:0<m)(h2:m<=2 ^ 32):qi (a % m) b:=by
 have h3:=XD a (show m≠0 by omega)
 have h4:=X4 a h
 exact .inl ⟨by omega,by omega⟩
theorem xU{a b:Int}(h1:-1000000000<=a)(h2:a<=1000000000):qi a b:=.inl ⟨by omega,by omega⟩
def nxP(o:Out Fl)(I:DSt->Prop):Prop:=match o with
 | .ok (.nx δ)=>I δ
 | _=>False
theorem nxP_ok(δ:DSt)(I:DSt->Prop):nxP (.ok (.nx δ)) I=I δ:=rfl
theorem Uu{o:Out Fl}{I:DSt->Prop}(h:nxP o I):∃δ,o=.ok (.nx δ)/\I δ:=by
 unfold nxP at h
 split at h
 .exact⟨_,rfl,h⟩
 .exact h.elim
theorem LK{a b:String}:Str.ofString a=Str.ofString b↔a=b:=by
 constructor
 .intro h
  rw[Str.ofString_eq_toList,Str.ofString_eq_toList] at h
  have h1:a.toList.map Char.toNat=b.toList.map Char.toNat:=by
   have:=Xd (λs:Str=>s.cps.toList) h
   simpa using this
  have inj:∀{x y:List Char},x.map Char.toNat=y.map Char.toNat->x=y:=by
   intro x
   induction x with
   | nil=>intro y h;cases y with | nil=>rfl | cons _ _=>cases h
   | cons c x ih =>
    intro y h
    cases y with
    | nil=>cases h
    | cons d y =>
     simp only[List.map_cons,List.cons.injEq] at h
     rw[ih h.2]
     congr 1
     exact Char.ext (UInt32.toNat_inj.mp h.1)
  exact String.toList_inj.mp (inj h1)
 .rintro rfl;rfl
theorem lZ(a b:String):(Str.ofString a==Str.ofString b)=(a==b):=by
 by_cases h:a=b
 .subst h;simp
 .rw[W3.mpr h,W3.mpr (λq=>h (LK.mp q))]
mutual
theorem eqv_refl:∀d:PyData,d.canLay0=true->PyData.eqv d d=true
 | .none,_=>by simp[PyData.eqv]
 | .bool b,_=>by simp[PyData.eqv]
 | .int i,_=>by simp[PyData.eqv]
 | .str x,_=>by simp[PyData.eqv]
 | .list xs,h=>by
  simp only[PyData.eqv]
  exact eqvAll_refl xs (by simpa[PyData.canLay0] using h)
 | .tuple xs,h=>by
  simp only[PyData.eqv]
  exact eqvAll_refl xs (by simpa[PyData.canLay0] using h)
 | .dict _,h=>by simp[PyData.canLay0] at h
theorem eqvAll_refl:∀ds:List PyData,PyData.canLayAll0 ds=true->PyData.eqvAll ds ds=true
 | [],_=>by simp[PyData.eqvAll]
 | d::ds,h=>by
  simp only[PyData.canLayAll0,Bool.and_eq_true] at h
  simp only[PyData.eqvAll,eqv_refl d h.1,eqvAll_refl ds h.2,Bool.and_self]
end
mutual
def eZ:Nat->D->Bool
 | _,.non=>true
 | _,.bl _=>true
 | _,.int _=>true
 | _,.str x=>PyData.strOk x
 | n+1,.lst xs=>pC n xs
 | n+1,.tup xs=>pC n xs
 | n+1,.rol xs=>pC n xs
 | n+1,.rot xs=>pC n xs
 | _,_=>false
def pC:Nat->List D->Bool
 | _,[]=>true
 | n,d::ds=>eZ n d && pC n ds
end
mutual
theorem CW:∀(d:D)(n:Nat),eZ n d=true->∃p,toPy d=some p/\p.canLay0=true/\p.depth<=n
 | .non,n,_=>⟨_,rfl,by simp[PyData.canLay0],by simp[PyData.depth]⟩
 | .bl b,n,_=>⟨_,rfl,by simp[PyData.canLay0],by simp[PyData.depth]⟩
 | .int b,n,_=>⟨_,rfl,by simp[PyData.canLay0],by simp[PyData.depth]⟩
 | .str x,n,h=>⟨_,rfl,by simpa[PyData.canLay0,eZ] using h,by simp[PyData.depth]⟩
 | .lst xs,n+1,h=>by
  obtain⟨q,e,c,k⟩:=uR xs n (by simpa[eZ] using h)
  exact⟨.list q,by simp[toPy,e],by simpa[PyData.canLay0] using c,by simp[PyData.depth];omega⟩
 | .rol xs,n+1,h=>by
  obtain⟨q,e,c,k⟩:=uR xs n (by simpa[eZ] using h)
  exact⟨.list q,by simp[toPy,e],by simpa[PyData.canLay0] using c,by simp[PyData.depth];omega⟩
 | .tup xs,n+1,h=>by
  obtain⟨q,e,c,k⟩:=uR xs n (by simpa[eZ] using h)
  exact⟨.tuple q,by simp[toPy,e],by simpa[PyData.canLay0] using c,by simp[PyData.depth];omega⟩
 | .rot xs,n+1,h=>by
  obtain⟨q,e,c,k⟩:=uR xs n (by simpa[eZ] using h)
  exact⟨.tuple q,by simp[toPy,e],by simpa[PyData.canLay0] using c,by simp[PyData.depth];omega⟩
 | .lst xs,0,h=>by simp[eZ] at h
 | .rol xs,0,h=>by simp[eZ] at h
 | .tup xs,0,h=>by simp[eZ] at h
 | .rot xs,0,h=>by simp[eZ] at h
 | .ty _,n,h=>by simp[eZ] at h
 | .cls _,n,h=>by simp[eZ] at h
 | .dK _,n,h=>by simp[eZ] at h
 | .dT _,n,h=>by simp[eZ] at h
 | .obj _ _,n,h=>by simp[eZ] at h
 | .exc _ _,n,h=>by simp[eZ] at h
theorem uR:∀(ds:List D)(n:Nat),pC n ds=true->∃p,toPyL ds=some p/\PyData.canLayAll0 p=true/\PyData.depthAll p<=n
 | [],n,_=>⟨_,rfl,by simp[PyData.canLayAll0],by simp[PyData.depthAll]⟩
 | d::ds,n,h=>by
  simp only[pC,Bool.and_eq_true] at h
  obtain⟨p,e1,c1,k1⟩:=CW d n h.1
  obtain⟨q,e2,c2,k2⟩:=uR ds n h.2
  exact⟨p::q,by simp[toPyL,e1,e2],by simp[PyData.canLayAll0,c1,c2],by simp[PyData.depthAll];omega⟩
end
def eqB(x y:D):Bool:=match toPy x,toPy y with
 | some p,some q=>PyData.eqv p q
 | _,_=>false
theorem xZ{x y:D}(hx:eZ 50 x=true)(hy:eZ 50 y=true):eqD x y=some (eqB x y):=by
 obtain⟨p,e1,c1,k1⟩:=CW x 50 hx
 obtain⟨q,e2,c2,k2⟩:=CW y 50 hy
 unfold eqD eqB layP
 rw[e1,e2]
 simp[c1,c2,k1,k2]
theorem Lx{x y:D}(hx:eZ 50 x=true)(hy:eZ 50 y=true):neD x y=some (!eqB x y):=by
 unfold neD
 rw[xZ hx hy]
 rfl
theorem eqB_refl{n:Nat}{x:D}(hx:eZ n x=true):eqB x x=true:=by
 obtain⟨p,e1,c1,k1⟩:=CW x n hx
 unfold eqB
 rw[e1]
 exact eqv_refl p c1
theorem eqD_refl{x:D}(hx:eZ 50 x=true):eqD x x=some true:=by rw[xZ hx hx,eqB_refl hx]
theorem Ue(i j:Int):eqB (.int i) (.int j)=(i==j):=by simp[eqB,toPy,PyData.eqv]
theorem eqB_str(i j:Str):eqB (.str i) (.str j)=(i==j):=by simp[eqB,toPy,PyData.eqv]
theorem eqB_bl(i j:Bool):eqB (.bl i) (.bl j)=(i==j):=by simp[eqB,toPy,PyData.eqv]
theorem rF(i j:Int):eqD (.int i) (.int j)=some (i==j):=by rw[xZ (by simp[eZ]) (by simp[eZ]),Ue]
theorem Ae(i j:Int):neD (.int i) (.int j)=some (!(i==j)):=by rw[Lx (by simp[eZ]) (by simp[eZ]),Ue]
theorem Fj(i j:Bool):neD (.bl i) (.bl j)=some (!(i==j)):=by rw[Lx (by simp[eZ]) (by simp[eZ]),eqB_bl]
theorem eqD_ss{i j:Str}(hi:PyData.strOk i=true)(hj:PyData.strOk j=true):eqD (.str i) (.str j)=some (i==j):=by rw[xZ (by simpa[eZ] using hi) (by simpa[eZ] using hj),eqB_str]
theorem atI_0{α:Type}(x0:α)(r:List α):atI (x0::r) 0=some x0:=g8 (j:=0) rfl
theorem atI_1{α:Type}(x0 x1:α)(r:List α):atI (x0::x1::r) 1=some x1:=g8 (j:=1) rfl
section
variable{X:Cx}{Γ:Nat->Option Addr}{E:XK}{e a b c:Expr}{pos p:Pos}{es:List Expr}{fa:DSt->Out D}
theorem GJ:∀{bs:List Bool}{us:List Value},Vals (bs.map V.bl) us->us=bs.map Value.bool
 | [],_,r=>by cases r;rfl
 | b::bs,_,r=>by
  cases r with
  | cons r1 r2=>cases r1;rw[GJ r2];rfl
theorem all_range(bs:List Bool):(List.range bs.length).all (λi=>bs.getD i true)=bs.all id:=by
 induction bs with
 | nil=>rfl
 | cons b bs ih =>
  rw[WP,List.range_succ_eq_map,Yw,List.all_map,Yw]
  have:((λi=>(b::bs).getD i true)∘Nat.succ)=λi=>bs.getD i true:=by funext i;simp
  rw[this,ih];simp
theorem DY(hc:X.calm=true):jX X (.builtin "all") (λxs H Q=>∃(q:Addr)(bs:List Bool),xs=[.ref q]/\SqL X.K H q (bs.map V.bl)/\Q (.bl (bs.all id)) H):=by
 intro pins s σ H xs us Q I r h
 obtain⟨q,bs,rfl,hq,k⟩:=h
 obtain⟨u,rfl,rx⟩:=vals1 r
 cases rx
 obtain⟨its,r',pl,hz⟩:=I.list hq
 have ei:=GJ r'
 subst ei
 refine call_all_walk (PySem.wpAny_pyIter_list pl.isList ?_)
 have hh:X.A.in1.handled=none:=I.ok.hd hc
 have hlt:q<s.heap.objs.size:=by obtain⟨ob,hob,_⟩:=pl.isList;exact Wy hob
 refine⟨_,_,_,_,_,_,λi=>bs.getD i true,rfl,Walks.list hh s.heap.objs.size q (WX hlt) _,⟨⟨_,WK _ rfl,rfl,rfl⟩,pl.isList.push _⟩,λi v s' Q' E' hv hQ=>?_,λh' tk kp=>?_⟩
 .have hv:(bs.map Value.bool)[i]?=some v:=by simpa using hv
  rw[WL] at hv
  obtain⟨b,hb,rfl⟩:=WF.mp hv
  have hQ:Q' (bs.getD i true) s':=hQ
  rw[Wq,hb] at hQ
  exact Xn hQ
 .have es:(bs.map Value.bool).toArray.size=bs.length:=by simp
  rw[es,all_range]
  exact⟨.bl _,H,I.kept (t':=tk) λb ob hb=>kp b ob (by simp;exact WX (Wy hb)) (Wt _ hb),rfl,k⟩
def uH:List D->Option (List Bool)
 | []=>some []
 | d::r=>match asB d,uH r with
  | some b,some bs=>some (b::bs)
  | _,_=>none
theorem au.bools{K:Frag}{H:Hp}:∀{vs:List V}{ds:List D}{bs:List Bool},au K Γ H vs ds->uH ds=some bs->vs=bs.map V.bl
 | _,_,_,.nil,e=>by simp only[uH] at e;cases e;rfl
 | _,_,_,.cons (d:=d) (ds:=ds) h r,e=>by
  simp only[uH] at e
  cases h1:asB d with
  | none=>rw[h1] at e;cases e
  | some b =>
   cases h2:uH ds with
   | none=>rw[h1,h2] at e;cases e
   | some bs =>
    rw[h1,h2] at e
    cases e
    rw[h.asB h1,r.bools h2];rfl
def allD(d:D):Option D:=(Ac d).bind λds=>(uH ds).map λbs=>.bl (bs.all id)
theorem Rep.Ac{K:Frag}{H:Hp}{v:V}{d:D}{ds:List D}(r:Rep K Γ H v d)(e:Ac d=some ds):∃a vs,v=.ref a/\SqL K H a vs/\au K Γ H vs ds:=by
 cases r <;> simp only[DL.Ac] at e <;> cases e
 .exact⟨_,_,rfl,SqL.of ‹_›,‹_›⟩
 .exact⟨_,_,rfl,‹_›,‹_›⟩
theorem de_all(hc:X.calm=true)(hg:Gl X "all")(hm:X.mg "all"=none)(ha:DB X Γ E a fa)(hs:starEach [a] X.env=[(false,eval a X.env)]:=by rfl):DE X Γ E (.Call (.Name "all" p) [a] [] pos) (o1 allD fa) :=
 dC1 (λG H v dx d Q s r e k=>by
  unfold allD at e
  obtain⟨ds,e1,e2⟩:=Xr.mp e
  obtain⟨bs,e3,rfl⟩:=WF.mp e2
  obtain⟨q,vs,rfl,sq,ra⟩:=r.Ac e1
  exact⟨q,bs,rfl,(ra.bools e3)▸sq,k _ G H (.refl s) (.bl _)⟩) (qz (DY hc) hg hm (by decide +kernel) (bM ha eO (by rw[hs];rfl)) (by decide) (by decide) (by rw[hs];rfl) (by rfl))
def Its(x:Str):It:=⟨λi _=>i<x.cps.size,λi H v H'=>H'=H/\∃c,x.cps[i]?=some c/\v=.str ⟨#[c]⟩,λi _=>x.cps.size<=i⟩
theorem GC{P:Program}{w:World}{K:Frag}{tg:Expr}(x:Str)(tk:Tok)(it:Addr):Turn P w K tg (Its x) [it] it (λi h=>h.IsStrIter it "str_ascii_iterator" x tk i) where
 mem:=by simp
 obj:=λi h st b hb=>by
  have z:b=it:=by simpa using hb
  subst z
  obtain⟨ob,e1,e2,e3⟩:=st
  exact⟨ob,e1,λv z=>by rw[e3] at z;cases z⟩
 keep:=λi h h' st kp=>by
  obtain⟨ob,e1,e2⟩:=st
  exact⟨ob,kp it (by simp) ob e1,e2⟩
 item:=by
  intro X hP hw hK hc i pins s σ H E I hf st hg
  subst hP hw hK
  obtain⟨f0,f1,f2,f3,f4,f5⟩:=hf it (by simp)
  have lt:i<x.cps.size:=hg
  have hx:x.cps[i]?=some x.cps[i]:=Array.getElem?_eq_getElem lt
  refine wpAny_pyNext_ascii_item st hx λh' st' sb=>?_
  have I1:Inv X pins σ H { s with heap:=h',toks:=s.toks+1 }:=I.turned (t':=s.toks+1) (λb ob hb q=>(sb.2 b hb).trans q) f0 f1 f3 f4 f5
  obtain⟨ob,e1,e2,e3⟩:=id st'
  exact⟨_,rfl,PP (s:={ s with heap:=h',toks:=s.toks+1 }) e1 e2 e3 (by decide) ⟨.str ⟨#[x.cps[i]]⟩,H,I1,⟨_,rfl⟩,⟨rfl,_,hx,rfl⟩,st',λb hb=>(hf b hb).1⟩⟩
 done:=by
  intro X hP hw hK hc i pins s σ H E I hf st hg
  subst hP hw hK
  obtain⟨f0,f1,f2,f3,f4,f5⟩:=hf it (by simp)
  have hx:x.cps[i]?=none:=by
   have:x.cps.size<=i:=hg
   simp[this]
  exact wpAny_pyNext_ascii_end (I.ok.hd hc) st hx λh' eb=>⟨rfl,I.turned (t':=s.toks) (λb ob hb q=>eb b ob hb q) f0 f1 f3 f4 f5⟩
 self:=λ_ _ _ _ _ st h=>wpAny_pyIter_striter_ascii st h
theorem Ii{P:Program}{w:World}{K:Frag}{tg:Expr}(x:Str)(tk:Tok)(it:Addr):Turn P w K tg (Its x) [it] it (λi h=>h.IsStrIter it "str_iterator" x tk i) where
 mem:=by simp
 obj:=λi h st b hb=>by
  have z:b=it:=by simpa using hb
  subst z
  obtain⟨ob,e1,e2,e3⟩:=st
  exact⟨ob,e1,λv z=>by rw[e3] at z;cases z⟩
 keep:=λi h h' st kp=>by
  obtain⟨ob,e1,e2⟩:=st
  exact⟨ob,kp it (by simp) ob e1,e2⟩
 item:=by
  intro X hP hw hK hc i pins s σ H E I hf st hg
  subst hP hw hK
  obtain⟨f0,f1,f2,f3,f4,f5⟩:=hf it (by simp)
  have lt:i<x.cps.size:=hg
  have hx:x.cps[i]?=some x.cps[i]:=Array.getElem?_eq_getElem lt
  refine wpAny_pyNext_wide_item st hx λh' st' sb=>?_
  have I1:Inv X pins σ H { s with heap:=h',toks:=s.toks+1 }:=I.turned (t':=s.toks+1) (λb ob hb q=>(sb.2 b hb).trans q) f0 f1 f3 f4 f5
  obtain⟨ob,e1,e2,e3⟩:=id st'
  exact⟨_,rfl,PP (s:={ s with heap:=h',toks:=s.toks+1 }) e1 e2 e3 (by decide) ⟨.str ⟨#[x.cps[i]]⟩,H,I1,⟨_,rfl⟩,⟨rfl,_,hx,rfl⟩,st',λb hb=>(hf b hb).1⟩⟩
 done:=by
  intro X hP hw hK hc i pins s σ H E I hf st hg
  subst hP hw hK
  obtain⟨f0,f1,f2,f3,f4,f5⟩:=hf it (by simp)
  have hx:x.cps[i]?=none:=by
   have:x.cps.size<=i:=hg
   simp[this]
  exact wpAny_pyNext_wide_end (I.ok.hd hc) st hx λh' eb=>⟨rfl,I.turned (t':=s.toks) (λb ob hb q=>eb b ob hb q) f0 f1 f3 f4 f5⟩
 self:=λ_ _ _ _ _ st h=>wpAny_pyIter_striter_wide st h
def iStr(tl:TE):TI:=λσ H R=>tl σ H λv H1=>∃x,v=.str x/\R (Its x) H1
theorem pi_str{tg l:Expr}{tl:TE}(hl:PE X l tl):PI X tg l (iStr tl):=by
 intro pins s σ H R I h
 refine thn (hl pins s σ H _ I h) λv s1 ⟨x,H1,I1,r1,q1⟩=>?_
 obtain⟨z,ez,q⟩:=q1
 subst ez
 obtain⟨tk,rfl⟩:=r1
 have fp:∀b∈[s1.heap.objs.size],zu X pins H1 b:=λb hb=>by
  have eb:b=s1.heap.objs.size:=by simpa using hb
  subst eb
  exact I1.fpOk (Ww _) (I1.hok.fresh (Ww _))
 cases ha:z.cps.all (·<128) with
 | true=>exact wpAny_pyIter_ascii ha ⟨s1.heap.objs.size,[s1.heap.objs.size],_,_,H1,rfl,I1.kept (t':=s1.toks) λb ob q=>Wt _ q,GC z tk _,⟨_,WK _ rfl,rfl,rfl⟩,fp,q⟩
 | false=>exact wpAny_pyIter_wide ha ⟨s1.heap.objs.size,[s1.heap.objs.size],_,_,H1,rfl,I1.kept (t':=s1.toks) λb ob q=>Wt _ q,Ii z tk _,⟨_,WK _ rfl,rfl,rfl⟩,fp,q⟩
def Q4(x:Str):List D:=x.cps.toList.map λc=>.str ⟨#[c]⟩
theorem yl_str{K:Frag}{G:Hp}{x:Str}:Yl K Γ G (Its x) (Q4 x):=by
 have hl:(Q4 x).length=x.cps.size:=by simp[Q4]
 refine⟨λi H s lt=>by rw[hl] at lt;exact lt,λi G' H v H' d s s' y ed=>?_,λi H s le=>by rw[hl] at le;exact le⟩
 obtain⟨rfl,ch,hx,rfl⟩:=y
 unfold Q4 at ed
 rw[WL] at ed
 obtain⟨ch',e1,rfl⟩:=WF.mp ed
 have e2:x.cps.toList[i]?=some ch:=by simpa using hx
 rw[e1] at e2
 cases e2
 exact⟨G',.refl s',.str _⟩
def strO(f:DSt->Out D):DSt->Out (List D):=λδ=>(f δ).bind λd=>match d with
 | .str x=>.ok (Q4 x)
 | _=>.stuck
theorem di_str{tg:Expr}(ha:DE X Γ E a fa):DI X Γ E tg a (strO fa):=PI.imp (pi_str ha) λσ H R ⟨G0,H0,G,δ,S,w⟩=>by
 refine⟨G0,H0,G,δ,S,(ao w).mono (λd w v G1 H1 s1 r1=>?_) λ_ k=>k⟩
 split at w
 .cases r1;exact⟨_,rfl,w _ G1 H1 s1 yl_str⟩
 .exact Wn w
def rSlS:V->Option Int->Option Int->Hp->VK->Prop:=λx lo hi H Q=>∃z,x=.str z/\z.length<=sizeLine/\Q (.str (Txt.slice z lo hi)) H
theorem sl_str:SlR X rSlS:=by
 intro pins s σ H x v vl vu lo hi sl Q I rx hs pl pu h
 obtain⟨z,rfl,hz,q⟩:=h
 obtain⟨t,rfl⟩:=rx
 obtain⟨ob,h1,h2,h3⟩:=hs
 refine⟨"str",_,PySem.F.slot_str_getitem.lookup,typeIs_str _ _ _,?_⟩
 have fin:∀t' k,EP X pins σ Q (.str (Txt.slice z lo hi) t') { s with toks:=k }:=λt' k=>⟨.str _,H,I.tok k,⟨_,rfl⟩,q⟩
 cases pl with
 | none =>
  cases pu with
  | none=>exact Yp (l:=none) (u:=none) (st:=none) ⟨ob,h1,h2,h3⟩ rfl (Zm ⟨W5 (Txt.slice_le z _ _) hz,λt' k=>fin t' k⟩)
  | int j u=>exact Yp (l:=none) (u:=some (j,u)) (st:=none) ⟨ob,h1,h2,h3⟩ rfl (Zm ⟨W5 (Txt.slice_le z _ _) hz,λt' k=>fin t' k⟩)
 | int i u' =>
  cases pu with
  | none=>exact Yp (l:=some (i,u')) (u:=none) (st:=none) ⟨ob,h1,h2,h3⟩ rfl (Zm ⟨W5 (Txt.slice_le z _ _) hz,λt' k=>fin t' k⟩)
  | int j u=>exact Yp (l:=some (i,u')) (u:=some (j,u)) (st:=none) ⟨ob,h1,h2,h3⟩ rfl (Zm ⟨W5 (Txt.slice_le z _ _) hz,λt' k=>fin t' k⟩)
def toD(K:Frag)(Γ:Nat->Option Addr)(E:XK)(f:DSt->Out (Option Int)):TO:=λσ H Q=>∃G0 H0 G δ,SR K Γ G0 H0 G H σ δ/\wpO (f δ) (λb=>∀G' H',Step G H G' H'->Q b H') (exD K Γ E G H)
abbrev DO(X:Cx)(Γ:Nat->Option Addr)(E:XK)(lo:Option Expr)(f:DSt->Out (Option Int)):Prop:=PO X lo (toD X.K Γ E f)
theorem PO.imp{lo:Option Expr}{t t':TO}(h:PO X lo t)(k:∀σ H Q,t' σ H Q->t σ H Q):PO X lo t':=λpins s σ H Q I q=>h pins s σ H Q I (k _ _ _ q)
def noI:DSt->Out (Option Int):=λ_=>.ok none
def soI(f:DSt->Out D):DSt->Out (Option Int):=λδ=>(f δ).bind λd=>match d with
 | .int i=>.ok (some i)
 | _=>.stuck
theorem CG:DO X Γ E none noI:=PO.imp po_none λσ H Q ⟨G0,H0,G,δ,S,w⟩=>w G H (.refl S.st.gh)
theorem CJ(h:DE X Γ E e fa):DO X Γ E (some e) (soI fa):=PO.imp (po_some h) λσ H Q ⟨G0,H0,G,δ,S,w⟩=>by
 refine⟨G0,H0,G,δ,S,(ao w).mono (λd w v G1 H1 s1 r1=>?_) λ_ k=>k⟩
 split at w
 .cases r1;exact⟨_,rfl,w G1 H1 s1⟩
 .exact Wn w
def cutL(xs:List D)(lo hi:Option Int):List D:=List.take (HT.sIx xs.length xs.length hi - HT.sIx xs.length 0 lo) (List.drop (HT.sIx xs.length 0 lo) xs)
def cutD:D->Option Int->Option Int->Option D
 | .str z,lo,hi=>if z.length<=sizeLine then some (.str (Txt.slice z lo hi)) else none
 | .lst xs,lo,hi=>some (.lst (cutL xs lo hi))
 | .rol xs,lo,hi=>some (.lst (cutL xs lo hi))
 | _,_,_=>none
def oSl(fa:DSt->Out D)(fl fh:DSt->Out (Option Int)):DSt->Out D:=λδ=>(fa δ).bind λx=>(fl δ).bind λl=>(fh δ).bind λh=>.opt (cutD x l h)
theorem au.cut{K:Frag}{H:Hp}{vs:List V}{ds:List D}(r:au K Γ H vs ds)(lo hi:Option Int):au K Γ H (cutV vs lo hi) (cutL ds lo hi):=by
 unfold cutV cutL
 rw[r.length]
 exact(r.drop _).take _
theorem xW{lo hi:Option Expr}{p2:Pos}{fl fh:DSt->Out (Option Int)}(he:DE X Γ E e fa)(hl:DO X Γ E lo fl)(hu:DO X Γ E hi fh):DE X Γ E (.Subscript e (.Slice lo hi none p2) pos) (oSl fa fl fh):=PE.imp (pe_slice (sl_str.or sl_list) he hl hu) λσ H Q ⟨G0,H0,G,δ,S,w⟩=>by
 refine⟨G0,H0,G,δ,S,(ao w).mono (λx w v G1 H1 s1 r1=>?_) λ_ k=>k⟩
 refine⟨G0,H0,G1,δ,S.step s1,(ao w).mono (λl w G2 H2 s2=>?_) λ_ k=>k.step s1⟩
 refine⟨G0,H0,G2,δ,(S.step s1).step s2,(ao w).mono (λh w G3 H3 s3=>?_) λ_ k=>k.step (s1.trans s2)⟩
 obtain⟨d,e,k⟩:=bC w
 have r3:=(r1.mono s2.gg).mono s3.gg
 have k3:=k.step ((s1.trans s2).trans s3)
 unfold cutD at e
 split at e
 .split at e
  .cases e;cases r1;exact .inl ⟨_,rfl,‹_›,k3 _ G3 H3 (.refl s3.gh) (.str _)⟩
  .cases e
 .cases e
  cases r3 with
  | lst h r=>exact .inr ⟨_,_,rfl,SqL.of (s3.gh _ _ h),λq hq=>k3 _ _ _ (.new s3.gh hq) (.lst aK ((r.cut _ _).mono (aP.up (aC s3.gh hq))))⟩
 .cases e
  cases r3 with
  | rol h r=>exact .inr ⟨_,_,rfl,s3.gh.seq h,λq hq=>k3 _ _ _ (.new s3.gh hq) (.lst aK ((r.cut _ _).mono (aP.up (aC s3.gh hq))))⟩
 .cases e
def Gi:List D->Option (List Str)
 | []=>some []
 | .str x::r=>(Gi r).map (x::·)
 | _=>none
theorem au.strs{K:Frag}{H:Hp}:∀{vs:List V}{ds:List D}{ss:List Str},au K Γ H vs ds->Gi ds=some ss->vs=ss.map V.str
 | _,_,_,.nil,e=>by simp only[Gi] at e;cases e;rfl
 | _,_,_,.cons (d:=d) (ds:=ds) h r,e=>by
  unfold Gi at e
  split at e
  .rename_i z;cases z
  .rename_i z
   cases z
   obtain⟨q,e1,rfl⟩:=WF.mp e
   cases h
   rw[au.strs r e1];rfl
  .cases e
def lD:List Str->List Str->List Str
 | acc,[]=>acc
 | acc,x::r=>lD (if acc.contains x then acc else acc++[x]) r
end
theorem Af:∀(l acc:List Str)(x:Str),lD acc (l++[x])=if (lD acc l).contains x then lD acc l else lD acc l++[x]
 | [],acc,x=>rfl
 | y::l,acc,x=>by simp only[List.cons_append,lD];exact Af l _ x
theorem Fo:∀(l acc:List Str),(lD acc l).length<=acc.length+l.length
 | [],acc=>Ww _
 | y::l,acc=>by
  simp only[lD,List.length_cons]
  have h1:=Fo l (if acc.contains y then acc else acc++[y])
  have h2:(if acc.contains y=true then acc else acc++[y]).length<=acc.length+1:=by split <;> simp
  omega
theorem Fp:∀(l acc:List Str),(acc++l).Nodup->lD acc l=acc++l
 | [],acc,_=>by simp[lD]
 | y::l,acc,h=>by
  have hy:y∉acc:=λz=>by
   have:=(List.nodup_append.mp h).2.2 y z y WY
   exact this rfl
  simp only[lD]
  rw[WD (by simpa using hy),Fp l (acc++[y]) (by simpa using h)]
  simp
section
variable{prog:Program}{w:World}{A:Around}{E:Value->Shared->Prop}{R:Result->Shared->Prop}
theorem isS(x:Str)(t:Tok):(PySem.strKind prog w).is x (.str x t)=true:=strKind_is prog w x t
theorem QZ{h h':Heap}{a:Addr}{S:Str->Bool}{n:Nat}(x:h.SetOf (PySem.strKind prog w) a S n)(k:∀o,h.get? a=some o->h'.get? a=some o):h'.SetOf (PySem.strKind prog w) a S n:=by
 obtain⟨o,es,ep,tb,ho,z⟩:=x
 exact⟨o,es,ep,tb,k o ho,z⟩
theorem Q0{h:Heap}{a:Addr}{S S':Str->Bool}{n n':Nat}(x:h.SetOf (PySem.strKind prog w) a S n)(e:S=S')(en:n=n'):h.SetOf (PySem.strKind prog w) a S' n':=by subst e en;exact x
theorem set_loop{I l S:Addr}{items:Array Value}{ss:List Str}(hi:items.toList.length=ss.length)(hv:∀(i:Nat) v,items[i]?=some v->∃x t,ss[i]?=some x/\v=.str x t)(W:Walks prog w A.in1 I [I,l] [I] items.size (λi v=>items[i]?=some v) (λi h=>h.IsListIter I l i/\h.IsList l items))
  (nI:S≠I) (nl:S≠l) (few:ss.length+1<scanBound):∀(k i:Nat)(s:Shared),items.size - i=k->i<=items.size->(s.heap.IsListIter I l i/\s.heap.IsList l items) ->
   s.heap.SetOf (PySem.strKind prog w) S (λx=>(lD [] (ss.take i)).contains x) (lD [] (ss.take i)).length ->
   (∀h' tk,(∀b o,b≠S->b≠I->s.heap.get? b=some o->h'.get? b=some o)->h'.SetOf (PySem.strKind prog w) S (λx=>(lD [] ss).contains x) (lD [] ss).length->R (.ok (.ret .none)) { s with heap:=h',toks:=tk }) ->
   codeAny (model prog w) A (.builtin "set.update.loop" ⟨[.ref S,.ref I],[]⟩) R s:=by
 have hsz:items.size=ss.length:=by simpa using hi
 intro k
 induction k with
 | zero =>
  intro i s ek le st hS q
  obtain rfl:i=items.size:=by omega
  refine codeAny_builtin PyProof.Rows.F.entry_set_update_loop ?_
  rw[Around.under_plainId Yg _]
  show wpAny _ A.in1 (pyNext (.ref I) >>= _) _ _ s
  refine Wr (W.done s _ _ st λh' tk kp=>WM (q h' tk (λb o h1 h2 z=>kp b o (by simpa using h2) z) ?_))
  have z:=QZ hS λo ho=>kp S o (by simpa using nI) ho
  rwa [hsz,List.take_length] at z
 | succ k ih =>
  intro i s ek le st hS q
  have lt:i<items.size:=by omega
  refine codeAny_builtin PyProof.Rows.F.entry_set_update_loop ?_
  rw[Around.under_plainId Yg _]
  show wpAny _ A.in1 (pyNext (.ref I) >>= _) _ _ s
  refine Wr (W.item i s _ _ lt st λv h1 tk1 pv st1 kp1=>?_)
  obtain⟨x,t,hx,rfl⟩:=hv i v pv
  have hS1:=QZ (h':=h1) hS λo ho=>kp1 S o (by simpa using nI) ho
  show wpAny _ A.in1 (holding [Value.str x t] (setAdd S (.str x t)) >>= _) _ _ _
  refine Wr (Yc ?_)
  unfold setAdd
  refine Yc (Wr ((PySem.strKind prog w).pyHash (k:=x) (isS x t) ?_))
  have nl2:=Fo (ss.take i) []
  have tl:(ss.take i).length<=ss.length:=List.length_take_le' i ss
  refine wpAny_setAddHashed_of (knd:=PySem.strKind prog w) (k:=x) (isS x t) rfl hS1 (by simp at nl2;omega) λh2 sb hS2=>?_
  have tk2:ss.take (i+1)=ss.take i++[x]:=by
   obtain⟨hl,e⟩:=Ws.mp hx
   rw[List.take_succ,hx];rfl
  have hS3:h2.SetOf (PySem.strKind prog w) S (λx=>(lD [] (ss.take (i+1))).contains x) (lD [] (ss.take (i+1))).length:=by
   refine Q0 hS2 (funext λy=>?_) ?_
   .rw[tk2,Af]
    by_cases c:(lD [] (ss.take i)).contains x=true
    .rw[Wu c]
     by_cases e:y=x
     .subst e;simp only[c,Bool.true_or]
     .simp[e]
    .rw[WD c]
     simp
   .rw[tk2,Af]
    by_cases c:(lD [] (ss.take i)).contains x=true
    .rw[Wu c,Wu c]
    .rw[WD c,WD c];simp
  refine WM ⟨plainId_quiet Yg _,ih (i+1) _ (by omega) lt ?_ hS3 λh3 tk3 kp3 z=>q h3 tk3 (λb o b1 b2 y=>kp3 b o b1 b2 ((sb.2 b b1).trans (kp1 b o (by simpa using b2) y))) z⟩
  refine W.frame _ _ _ st1 λb hb o y=>?_
  have bS:b≠S:=λz=>by
   subst z
   rcases W9.mp hb with z | z
   .exact nI z
   .exact nl (by simpa using z)
  exact(sb.2 b bS).trans y
set_option maxHeartbeats 4000000 in
theorem Hh{s:Shared}{l:Addr}{items:Array Value}{ss:List Str}{Q:Value->Shared->Prop}(hh:A.handled=none)(hl:s.heap.IsList l items)(hi:items.toList.length=ss.length)(hv:∀(i:Nat) v,items[i]?=some v->∃x t,ss[i]?=some x/\v=.str x t)(few:ss.length+1<scanBound)
  (q:∀(h':Heap)(tk:Nat),h'.SetOf (PySem.strKind prog w) s.heap.objs.size (λx=>(lD [] ss).contains x) (lD [] ss).length->(∀b o,s.heap.get? b=some o->h'.get? b=some o)->Q (.ref s.heap.objs.size) { s with heap:=h',toks:=tk }) :
  wpAny (model prog w) A (call (.type "set") [.ref l]) Q E s:=by
 obtain⟨c0,tl0,mro0⟩:=Xo.mro
 have made0:=Xo.made
 have sub0:=Xo.sub
 have nt0:=Xo.notType
 have cc0:=Xo.canCreate
 have tc0:=PySem.F.typeCall_set_1 (.ref l)
 refine wpAny_call (codeAny_of_tree ?_)
 show wpAny _ _ (callAny (.type "set") _) _ _ _
 refine WM ⟨Code.quiet_builtin _ (by decide +kernel),codeAny_builtin PySem.F.entry_type_call ?_⟩
 rw[Around.under_plain (weight_type_call_type "set" [.ref l] []) rfl]
 repeat (any_goals (first | assumption | wp_step))
 refine YQ (code_set_new_1 (.ref l) (E:=E) (Q₁:=λob s1=>∃led:Bool,ob=.ref s.heap.objs.size/\s1={ s with heap:=s.heap.push { cls:=.type "set",dict:=none,data:=.set #[] 0 (.fresh 0 0 led) } }) λled=>⟨led,rfl,rfl⟩) λr1 s1 z1=>?_
 cases r1 with
 | error e=>exact z1
 | ok fl1 =>
  cases fl1 with
  | ret ob1 =>
   obtain⟨led,rfl,rfl⟩:=z1
   have hS:=WK s.heap (o:={ cls:=.type "set",dict:=none,data:=.set #[] 0 (.fresh 0 0 led) }) rfl
   have hT:Shared.TypeIs { s with heap:=s.heap.push { cls:=.type "set",dict:=none,data:=.set #[] 0 (.fresh 0 0 led) } } (.ref s.heap.objs.size) "set":=⟨_,hS,rfl⟩
   have il0:=Xo.init.lookup
   have ib0:=Xo.init.bind (.ref s.heap.objs.size)
   repeat (any_goals (first | assumption | wp_step))
   refine YQ (codeAny_call_builtin (R:=wants (λr2 s2=>r2=.none/\∃h' tk,s2={ s with heap:=h',toks:=tk }/\h'.SetOf (PySem.strKind prog w) s.heap.objs.size (λx=>(lD [] ss).contains x) (lD [] ss).length/\(∀b o,s.heap.get? b=some o->h'.get? b=some o)) E)
    Xo.init.plain PySem.F.entry_set_init (check_set_init_1 hT ?_)) λr2 s2 z2=>?_
   .obtain⟨⟨cl,dl,dt,sl⟩,hol,hc1,nn,hd1⟩:=hl
    dsimp only at hc1 hd1
    subst hc1
    subst hd1
    have hol1:=Wt (h:=s.heap) { cls:=.type "set",dict:=none,data:=.set #[] 0 (.fresh 0 0 led) } hol
    have sls:=PySem.F.sub_list_set
    have slf:=PySem.F.sub_list_frozenset
    have nld:(Value.type "list"==Value.type "dict")=false:=by decide
    have hl1:(s.heap.push { cls:=.type "set",dict:=none,data:=.set #[] 0 (.fresh 0 0 led) }).IsList l items:=⟨_,hol1,rfl,nn,rfl⟩
    unfold Builtin.«set.__init__» noKeywords Builtin.Frozenset.updateFrom
    generalize hPI:pyIter=PI
    wp_walk
    subst hPI
    refine wpAny_pyIter_list hl1 (Wr (wpAny_runValue ?_))
    have lS:l<s.heap.objs.size:=Wy hol
    have h3:A.in1.in1.in1.handled=none:=by simp[hh]
    have sz1:(s.heap.push { cls:=.type "set",dict:=none,data:=.set #[] 0 (.fresh 0 0 led) }).objs.size=s.heap.objs.size+1:=Yx ..
    have nel:l≠(s.heap.push { cls:=.type "set",dict:=none,data:=.set #[] 0 (.fresh 0 0 led) }).objs.size:=by rw[sz1];exact WX (Nat.lt_succ_of_lt lS)
    refine set_loop hi hv (Walks.list h3 _ l nel items) (by rw[sz1];exact WX (Xp _)) (YD lS) few (items.size - 0) 0 _ rfl (Xq _) ⟨⟨_,WK _ rfl,rfl,rfl⟩,hl1.push _⟩ ?_ λh' tk kp z=>?_
    .exact Q0 ((PyProof.Rows.setObjOf_fresh (knd:=PySem.strKind prog w) led).setOf (Wt _ hS) (by decide)) rfl rfl
    .refine WM (WM ⟨rfl,h',tk,rfl,z,λb o y=>?_⟩)
     have blt:=Wy y
     exact kp b o (WX blt) (by rw[sz1];exact WX (Nat.lt_succ_of_lt blt)) (Wt _ (Wt _ y))
   .cases r2 with
    | error e=>exact z2
    | ok fl2 =>
     cases fl2 with
     | ret r =>
      obtain⟨rfl,h',tk,rfl,zS,kp⟩:=z2
      repeat (any_goals (first | assumption | wp_step))
      exact q _ _ zS kp
     | _=>exact z2.elim
  | _=>exact z1.elim
end
def sstP(n:Nat)(a:Addr)(h:Heap):Prop:=∃o es ep tb,h.get? a=some o/\o.ExactSet/\o.data=.set es ep tb/\tb.fits es.size=true/\es.size=n
section
variable{X:Cx}{Γ:Nat->Option Addr}{E:XK}{e a o:Expr}{pos p p2 pos2:Pos}{fa:DSt->Out D}
theorem sst_ok{P:Program}{w:World}{H:Hp}{h:Heap}{n:Nat}{a:Addr}(x:sstP n a h):dF P w H h a (.ext (sstP n a)):=by
 refine⟨x,?_,λh1 h2 y k=>?_⟩
 .obtain⟨o,_,_,_,q,_⟩:=x
  exact⟨o,q⟩
 .obtain⟨o,es,ep,tb,q,r⟩:=y
  exact⟨o,es,ep,tb,k o q,r⟩
theorem RT(hc:X.calm=true):jX X (.type "set") (λxs H Q=>∃(q:Addr)(ss:List Str),xs=[.ref q]/\SqL X.K H q (ss.map V.str)/\ss.length<=1000/\∀z,H z=none->Q (.ref z) (upd H z (.ext (sstP (lD [] ss).length z)))):=by
 intro pins s σ H xs us Q I r h
 obtain⟨q,ss,rfl,hq,hz,k⟩:=h
 obtain⟨u,rfl,rx⟩:=vals1 r
 cases rx
 obtain⟨its,r',pl,_⟩:=I.list hq
 have hl:=r'.length
 rw[Wx] at hl
 refine Hh (ss:=ss) (I.ok.hd hc) pl.isList (by simpa using hl.symm) (λi v hv=>?_) (by unfold scanBound;omega) λh' tk hS kp=>?_
 .have hv:its[i]?=some v:=by simpa using hv
  have lt:i<its.length:=(Ws.mp hv).1
  have:(ss.map V.str)[i]?=some (V.str ss[i]):=by rw[WL,Wo (by omega)];rfl
  obtain⟨u,hu,ru⟩:=r'.get this
  rw[hv] at hu
  cases hu
  obtain⟨t,rfl⟩:=ru
  exact⟨_,t,Wo (by omega),rfl⟩
 .obtain⟨ob,es,ep,tb,h1,h2,h3,_,_,_,h4,h5⟩:=hS
  exact⟨.ref s.heap.objs.size,_,I.laid (t':=tk) kp (Ww _) (sst_ok ⟨ob,es,ep,tb,h1,h2,h3,h4,h5⟩),rfl,k _ (I.hok.fresh (Ww _))⟩
theorem RQ:jX X (.builtin "len") (λxs H Q=>∃(z:Addr)(n:Nat),xs=[.ref z]/\H z=some (.ext (sstP n z))/\n<=1000/\Q (.int n) H):=by
 intro pins s σ H xs us Q I r h
 obtain⟨z,n,rfl,hz,hn,k⟩:=h
 obtain⟨u,rfl,rx⟩:=vals1 r
 cases rx
 obtain⟨⟨ob,es,ep,tb,h1,h2,h3,h4,h5⟩,_,_⟩:=I.hok z _ hz
 refine call_len_set h1 h2 h3 h4 (by omega) ⟨.int n,H,I.tok _,⟨s.toks+1,by rw[h5]⟩,k⟩
def Ff:D->Option D:=λd=>(Ac d).bind λds=>(Gi ds).bind λss=>if ss.length<=1000 then some (.int (lD [] ss).length) else none
theorem Vk(hc:X.calm=true)(hg:Gl X "len")(hm:X.mg "len"=none)(hg2:Gl X "set")(hm2:X.mg "set"=none)(ha:DE X Γ E a fa)(hs:starEach [a] X.env=[(false,eval a X.env)]:=by rfl)(hs2:starEach [.Call (.Name "set" p2) [a] [] pos2] X.env=[(false,eval (.Call (.Name "set" p2) [a] [] pos2) X.env)]:=by rfl):
  DE X Γ E (.Call (.Name "len" p) [.Call (.Name "set" p2) [a] [] pos2] [] pos) (o1 Ff fa) :=
 PE.imp (qz RQ hg hm PySem.boot_len (bM (qC (RT hc) hg2 hm2 (by decide +kernel) (bM ha eO (by rw[hs];rfl)) (by decide) (by decide) (by rw[hs];rfl) (by rfl)) eO (by rw[hs2];rfl)) (by decide) (by decide) (by rw[hs2];rfl) (by rfl)) λσ H Q ⟨G0,H0,G,δ,S,w⟩=>by
  refine⟨G0,H0,G,δ,S,(ao w).mono (λd w v G1 H1 s1 r1=>?_) λ_ k=>k⟩
  obtain⟨r,e,k⟩:=bC w
  unfold Ff at e
  obtain⟨ds,e1,e2⟩:=Xr.mp e
  obtain⟨ss,e3,e4⟩:=Xr.mp e2
  split at e4
  .rename_i hz
   cases e4
   obtain⟨q,vs,rfl,sq,ra⟩:=r1.Ac e1
   have ev:=ra.strs e3
   subst ev
   have hn:=Fo ss []
   exact⟨q,ss,rfl,s1.gh.seq sq,hz,λz hz0=>⟨z,_,rfl,aK,by simp at hn;omega,k _ G1 _ (s1.trans (.aside s1.gh hz0)) (.int _)⟩⟩
  .cases e4
end
mutual
def noL:D->Bool
 | .non=>true
 | .bl _=>true
 | .int _=>true
 | .str _=>true
 | .ty _=>true
 | .cls _=>true
 | .tup xs=>noLs xs
 | .obj _ fs=>noLf fs
 | _=>false
def noLs:List D->Bool
 | []=>true
 | d::r=>noL d && noLs r
def noLf:List (Str×D)->Bool
 | []=>true
 | (_,d)::r=>noL d && noLf r
end
def Qc:HO->Bool
 | .lst _=>true
 | .dK _=>true
 | .dT _=>true
 | _=>false
section
variable{K:Frag}{Γ:Nat->Option Addr}{G1 G2:Hp}
mutual
theorem Rep.less(e:∀b o,G1 b=some o->Qc o=false->G2 b=some o):∀{v:V}{d:D},Rep K Γ G1 v d->noL d=true->Rep K Γ G2 v d
 | _,_,.non,_=>.non
 | _,_,.bl b,_=>.bl b
 | _,_,.int i,_=>.int i
 | _,_,.str x,_=>.str x
 | _,_,.ty n,_=>.ty n
 | _,_,.cls h,_=>.cls h
 | _,_,.tup h r,q=>.tup (e _ _ h rfl) (au.less e r (by simpa[noL] using q))
 | _,_,.obj h g r,q=>.obj (e _ _ h rfl) g (dG.less e r (by simpa[noL] using q))
 | _,_,.lst _ _,q=>by simp[noL] at q
 | _,_,.rol _ _,q=>by simp[noL] at q
 | _,_,.rot _ _,q=>by simp[noL] at q
 | _,_,.dK _ _,q=>by simp[noL] at q
 | _,_,.dT _ _,q=>by simp[noL] at q
 | _,_,.e0 _ _,q=>by simp[noL] at q
 | _,_,.e1 _ _ _ _,q=>by simp[noL] at q
theorem au.less(e:∀b o,G1 b=some o->Qc o=false->G2 b=some o):∀{v:List V}{d:List D},au K Γ G1 v d->noLs d=true->au K Γ G2 v d
 | _,_,.nil,_=>.nil
 | _,_,.cons h r,q=>by
  simp only[noLs,Bool.and_eq_true] at q
  exact .cons (Rep.less e h q.1) (au.less e r q.2)
theorem dG.less(e:∀b o,G1 b=some o->Qc o=false->G2 b=some o):∀{v:List (Str×V)}{d:List (Str×D)},dG K Γ G1 v d->noLf d=true->dG K Γ G2 v d
 | _,_,.nil,_=>.nil
 | _,_,.cons h r,q=>by
  simp only[noLf,Bool.and_eq_true] at q
  exact .cons (Rep.less e h q.1) (dG.less e r q.2)
end
end
section
variable{K:Frag}{Γ:Nat->Option Addr}{G0 H0 G H:Hp}{σ:L2.St}{δ:DSt}
def lends:Sl->Bool
 | .sh _=>true
 | .ol _=>true
 | .oll _=>true
 | .od _=>true
 | .odT _=>true
 | _=>false
theorem Inner.lsts{O:Addr->Option Nat}{i:Nat}:∀{vs:List V}{dss:List (List D)},Inner K Γ H0 G H O i vs dss->∀b,V.ref b∈vs->∃us,H b=some (.lst us)
 | _,_,.nil,b,hb=>by cases hb
 | _,_,.cons h g h0 o r n t,b,hb=>by
  rcases W9.mp hb with z | z
  .cases z;exact⟨_,h⟩
  .exact t.lsts b z
theorem SR.lend(S:SR K Γ G0 H0 G H σ δ)(i:Nat)(hl:∀s,δ[i]?=some (some s)->lends s=true):∃G',SR K Γ G0 H0 G' H σ (frz i δ)/\∀b,G' b=G b∨(G b=none/\∃o,G' b=some o/\Qc o=true):=by
 obtain⟨O,q⟩:=id S.sl
 unfold frz
 split
 .rename_i s e
  obtain⟨v,hv,h⟩:=q i s e
  cases s with
  | sh d=>exact⟨G,by rw[show frzS (.sh d)=.sh d from rfl,yP e];exact S,λ_=>.inl rfl⟩
  | ol ds =>
   obtain⟨a,vs,ev,h1,h2,h3,h4,h5⟩:=h
   subst ev
   have hp:∀b,decide (b=a)=true->O b=some i/\G b=none/\H0 b=none:=λb z=>by obtain rfl:=WT z;exact⟨h4,h2,h3⟩
   refine⟨_,S.yo q (λb=>decide (b=a)) hp hv (.lst (by unfold dH;rw[Wu (by simp)];exact h1) (h5.mono (cR λb z=>(hp b z).2.1))),λb=>?_⟩
   unfold dH
   by_cases z:b=a
   .subst z
    exact .inr ⟨h2,_,by rw[Wu (by simp)];exact h1,rfl⟩
   .exact .inl (WD (by simp[z]))
  | oll ds =>
   obtain⟨a,vs,ev,h1,h2,h3,h4,h5,h6⟩:=h
   subst ev
   have hp:∀b,decide (b=a∨V.ref b∈vs)=true->O b=some i/\G b=none/\H0 b=none:=λb z=>by
    rcases WT z with z | z
    .subst z;exact⟨h4,h2,h3⟩
    .exact h6.facts b z
   refine⟨_,S.yo q (λb=>decide (b=a∨V.ref b∈vs)) hp hv (.lst (by unfold dH;rw[Wu (by simp)];exact h1) (h6.frozen (cR λb z=>(hp b z).2.1) λb hb=>by simp[hb])),λb=>?_⟩
   unfold dH
   by_cases z:b=a∨V.ref b∈vs
   .refine .inr ⟨(hp b (Ym z)).2.1,?_⟩
    rw[Wu (Ym z)]
    rcases z with z | z
    .subst z;exact⟨_,h1,rfl⟩
    .obtain⟨us,hus⟩:=h6.lsts b z;exact⟨_,hus,rfl⟩
   .exact .inl (WD (by simp[z]))
  | od ds =>
   obtain⟨a,vs,ev,h1,h2,h3,h4,h5⟩:=h
   subst ev
   have hp:∀b,decide (b=a)=true->O b=some i/\G b=none/\H0 b=none:=λb z=>by obtain rfl:=WT z;exact⟨h4,h2,h3⟩
   refine⟨_,S.yo q (λb=>decide (b=a)) hp hv (.dK (by unfold dH;rw[Wu (by simp)];exact h1) (h5.mono (cR λb z=>(hp b z).2.1))),λb=>?_⟩
   unfold dH
   by_cases z:b=a
   .subst z
    exact .inr ⟨h2,_,by rw[Wu (by simp)];exact h1,rfl⟩
   .exact .inl (WD (by simp[z]))
  | odT ds =>
   obtain⟨a,vs,ev,h1,h2,h3,h4,h5⟩:=h
   subst ev
   have hp:∀b,decide (b=a)=true->O b=some i/\G b=none/\H0 b=none:=λb z=>by obtain rfl:=WT z;exact⟨h4,h2,h3⟩
   refine⟨_,S.yo q (λb=>decide (b=a)) hp hv (.dT (by unfold dH;rw[Wu (by simp)];exact h1) (h5.mono (cR λb z=>(hp b z).2.1))),λb=>?_⟩
   unfold dH
   by_cases z:b=a
   .subst z
    exact .inr ⟨h2,_,by rw[Wu (by simp)];exact h1,rfl⟩
   .exact .inl (WD (by simp[z]))
  | omx ds=>exact absurd (hl _ e) (by simp[lends])
 .exact⟨G,S,λ_=>.inl rfl⟩
end
section
variable{X:Cx}{Γ:Nat->Option Addr}{E:XK}{e:Expr}
def Jt(i:Nat)(f:DSt->Out D):DSt->Out D:=λδ=>match δ[i]? with
 | some (some s)=>if lends s=true then (f (frz i δ)).bw.bind λd=>if noL d=true then .ok d else .stuck else .stuck
 | _=>.stuck
theorem de_lent(i:Nat){f:DSt->Out D}(h:DE X Γ E e f):DE X Γ E e (Jt i f):=PE.imp h λσ H Q ⟨G0,H0,G,δ,S,w⟩=>by
 unfold Jt at w
 split at w
 .rename_i s es
  by_cases hl:lends s=true
  .rw[Wu hl] at w
   obtain⟨G',S',hG⟩:=S.lend i (λs' e'=>by rw[es] at e';cases e';exact hl)
   refine⟨G0,H0,G',_,S',(cU (ao w)).mono (λd w v G1 H1 s1 r1=>?_) λ_ k=>k⟩
   by_cases hd:noL d=true
   .rw[Wu hd] at w
    have key:∀b,(∃o,G' b=some o/\Qc o=true)/\G b=none∨G' b=G b:=λb=>by
     rcases hG b with z | ⟨z1,z2⟩
     .exact .inr z
     .exact .inl ⟨z2,z1⟩
    classical
    refine w v (λb=>if G b=none/\G' b≠none then none else G1 b) H1 ⟨λb o q=>?_,s1.hh,λb o q=>?_,λb hb g=>?_⟩ (r1.less (λb o q n=>?_) hd)
    .rw[WD (λz=>by rw[q] at z;cases z.1)]
     refine s1.gg b o ?_
     rcases key b with⟨_,z⟩| z
     .rw[q] at z;cases z
     .rw[z];exact q
    .split at q
     .cases q
     .exact s1.gh b o q
    .split
     .rfl
     .rename_i nz
      have:G' b=none:=by
       cases z:G' b with
       | none=>rfl
       | some o=>exact absurd ⟨g,by rw[z];exact λz=>nomatch z⟩ nz
      exact s1.sep b hb this
    .rw[WD λz=>?_]
     .exact q
     .rcases key b with⟨⟨o',z1,z3⟩,_⟩| z1
      .have:=s1.gg b _ z1
       rw[q] at this
       rw[WW this,z3] at n
       cases n
      .exact z.2 (z1.trans z.1)
   .rw[WD hd] at w
    exact Wn w
  .rw[WD hl] at w
   exact Wn w
 .exact Wn w
end
def keyD:D->Option Key
 | .int i=>some (.inl i)
 | .str x=>some (.inr x)
 | _=>none
section
variable{X:Cx}{Γ:Nat->Option Addr}{E:XK}{e a b:Expr}{pos:Pos}{fa fb:DSt->Out D}{K:Frag}{G H:Hp}
theorem Rep.key{v:V}{d:D}{k:Key}(r:Rep K Γ G v d)(e:keyD d=some k):v=kV k:=by
 cases r <;> simp only[keyD] at e <;> cases e <;> rfl
def sAugA(i:Nat)(f:DSt->Out D):DSt->Out Fl:=λδ=>match δ[i]? with
 | some (some (.sh (.int m)))=>(f δ).bind λd=>match d with
  | .int n=>.ok (.nx (δ.set i (some (.sh (.int (m+n))))))
  | _=>.stuck
 | _=>.stuck
theorem ds_aug(i:Nat){x:Str}{pos':Pos}(hh:∀{te:TE},PE X e te->PS X (.AugAssign (.Name x pos') .Add e pos) (tAug i te (ipI λi j=>i+j)))(he:DE X Γ E e fa):DS X Γ E (.AugAssign (.Name x pos') .Add e pos) (sAugA i fa) :=
 PS.imp (hh he) λN σ H ⟨G0,H0,G,δ,S,w⟩=>by
  unfold sAugA at w
  split at w
  .rename_i m ei
   obtain⟨O,q⟩:=id S.sl
   obtain⟨v,hvi,h⟩:=id (q i _ ei)
   refine⟨v,hvi,G0,H0,G,δ,S,(ao w).mono (λd w u G1 H1 s1 r1=>?_) λx k=>exD.step k S.st⟩
   split at w
   .rename_i n
    have h:Rep X.K Γ G v (.int m):=h
    cases h
    cases r1
    exact⟨_,_,rfl,rfl,w _ G1 H1 ((S.step s1).set (.int _))⟩
   .exact Wn w
  .exact Wn w
def repL(fa fb:DSt->Out D):DSt->Out (List D):=λδ=>(fa δ).bind λx=>(fb δ).bind λy=>match x,y with
 | .lst i,.int j=>if -(2 ^ 63)<=j/\j<2 ^ 63/\i.length*j.toNat<=sizeLine then .ok (List.replicate j.toNat i).flatten else .stuck
 | _,_=>.stuck
theorem df_rep(ha:DE X Γ E a fa)(hb:DE X Γ E b fb):DF X Γ E (.BinOp a .Mult b pos) (repL fa fb):=PE.imp (Jy op_rep ha hb) λσ H Q ⟨G0,H0,G,δ,S,w⟩=>by
 refine⟨G0,H0,G,δ,S,(ao w).mono (λx w v G1 H1 s1 r1=>?_) λ_ k=>k⟩
 refine⟨G0,H0,G1,δ,S.step s1,(ao w).mono (λy w u G2 H2 s2 r2=>?_) λ_ k=>k.step s1⟩
 split at w
 .split at w
  .rename_i h
   cases r2
   cases r1 with
   | lst h1 r1 =>
    refine⟨_,_,_,rfl,rfl,s2.gh _ _ (s2.gg _ _ h1),h.1,h.2.1,by rw[r1.length];exact h.2.2,λl hl=>?_⟩
    have st:=(s1.trans s2)
    exact w l _ G2 _ (st.trans (.aside st.gh hl)) (aC st.hh hl) aK (aC st.gh hl) ((r1.rep _).mono s2.gg)
  .exact Wn w
 .exact Wn w
end
theorem uZ{X:Cx}{E:XK}:lu CX0 X E:=λ_ _ _ _ _ _ _ h=>h.elim
end DL
namespace MX
open PySem PySem.Spec PyProof.Rows L2
section
variable{X:Cx}{pins:List (Addr×Obj)}{σ:L2.St}{H:Hp}{s:Shared}{h':Heap}
theorem Inv.Wi{ch:List Addr}{t':Nat}(I:Inv X pins σ H s)(hch:∀b∈ch,zu X pins H b)(k:∀b u,b∉ch->s.heap.get? b=some u->h'.get? b=some u):Inv X pins σ H { s with heap:=h',toks:=t' }:=by
 have nch:∀b u,H b=some u->b∉ch:=λb u e z=>by rw[(hch b z).1] at e;cases e
 refine I.step (g':=s.gens) (d':=s.drawn) (ch:=ch) (λb hb=>?_) (λb u _ _ hc e _=>k b u hc e) (λb u _ _ hc e _=>⟨u.slots,k b u hc e⟩) (λb u hc e n=>n) (λb u hc e=>⟨u,k b u hc e⟩)
  (λb xs e=>e) (λb u xs e=>e) (λb ps e=>⟨#[],by rw[e];simp⟩) (λm hm=>?_) (λb u e=>?_) I.bare
 .obtain⟨_,h2,_,h4,h5,h6⟩:=hch b hb
  exact⟨h4,h2,h5,h6⟩
 .obtain⟨o',es,ep,ho,r⟩:=hm
  exact⟨o',es,ep,k _ o' (λz=>(hch _ z).2.1 rfl) ho,r⟩
 .refine(I.hok b u e).stay (λc v hc q=>k c v ?_ q) (λc q=>q) λc xs q=>q
  rcases hc with z | z
  .rw[z];exact nch b u e
  .exact nch c _ z
end
def Itz(K:Frag)(a b:Addr):It :=
 ⟨λi H=>∃xs x ys y,SqL K H a xs/\xs[i]?=some x/\SqL K H b ys/\ys[i]?=some y,
  λi H v H'=>∃p x y,v=.ref p/\H p=none/\H'=upd H p (.tup [x,y])/\(∀xs,SqL K H a xs->xs[i]?=some x)/\∀ys,SqL K H b ys->ys[i]?=some y,
  λi H=>∃xs ys,SqL K H a xs/\SqL K H b ys/\(xs.length<=i∨ys.length<=i)⟩
theorem turn_zip{P:Program}{w:World}{K:Frag}{es:List Expr}{kk:Nat}{tp:Pos}{a b z TI TO i1 i2:Addr}(D:ZipApart z TI TO i1 i2 a b):
  Turn P w K (.Tuple es kk tp) (Itz K a b) [z,TI,TO,i1,i2] z (λi h=>IsZip h z TI TO .none/\IsPair h TI (.ref i1) (.ref i2)/\(∃u v,IsPair h TO u v)/\h.IsListIter i1 a i/\h.IsListIter i2 b i) where
 mem:=by simp
 obj:=λi h st c hc=>by
  obtain⟨s1,s2,⟨u,v,s3⟩,s4,s5⟩:=st
  simp only[List.mem_cons,List.not_mem_nil,or_false] at hc
  rcases hc with rfl | rfl | rfl | rfl | rfl
  .exact⟨_,s1,λv q=>by
    have q':Data.fields _=Data.cell v:=q
    cases q'⟩
  .exact⟨_,s2,λv q=>by
    have q':Data.seq _ _=Data.cell v:=q
    cases q'⟩
  .exact⟨_,s3,λv q=>by
    have q':Data.seq _ _=Data.cell v:=q
    cases q'⟩
  .obtain⟨o,e1,c,d⟩:=s4
   exact⟨o,e1,λv q=>by rw[d] at q;cases q⟩
  .obtain⟨o,e1,c,d⟩:=s5
   exact⟨o,e1,λv q=>by rw[d] at q;cases q⟩
 keep:=λi h h' st k=>by
  obtain⟨s1,s2,⟨u,v,s3⟩,s4,s5⟩:=st
  exact⟨k z (by simp) _ s1,k TI (by simp) _ s2,⟨u,v,k TO (by simp) _ s3⟩,s4.at λo q=>k i1 (by simp) o q,s5.at λo q=>k i2 (by simp) o q⟩
 item:=by
  intro X hP hw hK hc i pins s σ H E I hf st hg
  subst hP hw hK
  obtain⟨xs,x,ys,y,hq,hx,hq2,hy⟩:=hg
  obtain⟨s1,s2,⟨u0,v0,s3⟩,s4,s5⟩:=st
  obtain⟨its,rv,p,hz⟩:=I.list hq
  obtain⟨its2,rv2,p2,hz2⟩:=I.list hq2
  obtain⟨u,hu,ru⟩:=rv.get hx
  obtain⟨u2,hu2,ru2⟩:=rv2.get hy
  refine wpAny_pyNext_zip_item D s1 s2 s3 s4 s5 p.isList p2.isList (x:=u) (y:=u2) (by simpa using hu) (by simpa using hu2) λh1 a1 a2 a3 a4 a5 a6 kk'=>⟨_,rfl,wpAny_letOwnedTupleGo_zip a1 λh2 hz' sb=>?_⟩
  have hp:H s.heap.objs.size=none:=I.hok.fresh (Ww _)
  have ltz:z<s.heap.objs.size:=Wy s1
  have tu2:h2.get? s.heap.objs.size=some { cls:=.type "tuple",data:=.seq #[u,u2] }:=(sb.2 _ (YD ltz)).trans a5
  have ex:∀c o,c≠z->h1.get? c=some o->h2.get? c=some o:=λc o n e=>(sb.2 c n).trans e
  have I2:Inv X pins σ (upd H s.heap.objs.size (.tup [x,y])) { s with heap:=h2,toks:=s.toks }:=Inv.tX (ch:=[z,TI,TO,i1,i2]) I hf (λb o hb q=>by
    simp only[List.mem_cons,List.not_mem_nil,or_false,not_or] at hb
    exact ex b o hb.1 (kk' b o hb.1 hb.2.2.1 hb.2.2.2.1 hb.2.2.2.2 q)) (Ww _) ⟨by show 2<=sizeLine;decide,[u,u2],.cons ru (.cons ru2 .nil),_,tu2,rfl,0,rfl⟩
  refine⟨.ref s.heap.objs.size,_,I2,rfl,⟨_,x,y,rfl,hp,rfl,λys hy'=>by rw[I.yC hy' hq];exact hx,λys hy'=>by rw[I.yC hy' hq2];exact hy⟩,⟨hz',?_,⟨u,u2,?_⟩,?_,?_⟩,λc hc=>?_⟩
  .exact ex _ _ D.TIz (kk' _ _ D.TIz D.TITO D.TIi1 D.TIi2 s2)
  .exact ex _ _ D.TOz a2
  .exact a3.at λo q=>ex _ o D.i1z q
  .exact a4.at λo q=>ex _ o D.i2z q
  .have lt2:c<s.heap.objs.size:=by
    simp only[List.mem_cons,List.not_mem_nil,or_false] at hc
    rcases hc with rfl | rfl | rfl | rfl | rfl
    .exact ltz
    .exact Wy s2
    .exact Wy s3
    .obtain⟨o,e1,_⟩:=s4;exact Wy e1
    .obtain⟨o,e1,_⟩:=s5;exact Wy e1
   rw[aR (WX lt2)]
   exact(hf c hc).1
 done:=by
  intro X hP hw hK hc i pins s σ H E I hf st hg
  subst hP hw hK
  obtain⟨xs,ys,hq,hq2,hx⟩:=hg
  obtain⟨s1,s2,⟨u0,v0,s3⟩,s4,s5⟩:=st
  obtain⟨its,rv,p,hz⟩:=I.list hq
  obtain⟨its2,rv2,p2,hz2⟩:=I.list hq2
  have hl:=rv.length
  have hl2:=rv2.length
  refine wpAny_pyNext_zip_end (I.ok.hd hc) D s1 s2 s3 s4 s5 p.isList p2.isList (by rcases hx with hx | hx;exact .inl (by simp;omega);exact .inr (by simp;omega)) λh' eb=>⟨rfl,?_⟩
  exact Inv.Wi (ch:=[z,TI,TO,i1,i2]) (t':=s.toks) I hf λb o hb q=>by
   simp only[List.mem_cons,List.not_mem_nil,or_false,not_or] at hb
   exact eb b o hb.1 hb.2.2.1 hb.2.2.2.1 hb.2.2.2.2 q
 self:=λ_ _ _ _ _ st h=>wpAny_pyIter_zip st.1 h
section
variable{X:Cx}
def iZip(K:Frag)(ta:TA):TI:=λσ H R=>ta σ H λvs H1=>∃a b,vs=[.ref a,.ref b]/\(∃xs,SqL K H1 a xs)/\(∃ys,SqL K H1 b ys)/\R (Itz K a b) H1
theorem pi_zip{es:List Expr}{kk:Nat}{tp:Pos}{l l2:Expr}{ta:TA}{p pos:Pos}(hg:Gl X "zip")(hm:X.mg "zip"=none)(hv:bootBuiltins "zip"=some (.type "zip"))(ha:PA X [l,l2] ta)(hs:starEach [l,l2] X.env=(false,eval l X.env)::starEach [l2] X.env:=by rfl)(hs2:(backTo pos (starEach [l2] X.env)).any (·.1)=false:=by rfl):
  PI X (.Tuple es kk tp) (.Call (.Name "zip" p) [l,l2] [] pos) (iZip X.K ta):=by
 intro pins s σ H R I h
 refine Call_ (rZ I hg hm hv (Xl (thn (ha pos pins s σ H _ I h) λus s1 ⟨vs,H1,I1,r1,q1⟩=>?_) hs hs2))
 obtain⟨a,b,e,⟨xs,hq⟩,⟨ys,hq2⟩,q⟩:=q1
 subst e
 cases r1 with
 | cons r rr =>
  cases rr with
  | cons r2 rr =>
   cases rr
   cases r
   cases r2
   obtain⟨its,rv,pl,hz⟩:=I1.list hq
   obtain⟨its2,rv2,pl2,hz2⟩:=I1.list hq2
   have lt1:a<s1.heap.objs.size:=by obtain⟨o,e,_⟩:=pl.isList;exact Wy e
   have lt2:b<s1.heap.objs.size:=by obtain⟨o,e,_⟩:=pl2.isList;exact Wy e
   refine call_zip_2 pl.isList pl2.isList λh' iz ip1 ip2 li1 li2 sz kp=>?_
   refine wpAny_pyIter_zip iz ?_
   have I2:Inv X pins σ H1 { s1 with heap:=h' }:=I1.kept (t':=s1.toks) kp
   refine⟨s1.heap.objs.size+4,[s1.heap.objs.size+4,s1.heap.objs.size+2,s1.heap.objs.size+3,s1.heap.objs.size,s1.heap.objs.size+1],_,_,H1,rfl,I2,turn_zip (zipApart_new lt1 lt2),⟨iz,ip1,⟨_,_,ip2⟩,li1,li2⟩,λc hc=>?_,q⟩
   have hb':s1.heap.objs.size<=c:=by
    simp only[List.mem_cons,List.not_mem_nil,or_false] at hc
    rcases hc with z | z | z | z | z
    .rw[z];exact Y0 _ _
    .rw[z];exact Y0 _ _
    .rw[z];exact Y0 _ _
    .rw[z];exact Ww _
    .rw[z];exact Y0 _ _
   obtain⟨g1,g2,g3,g4,g5,g6⟩:=I1.fpOk hb' (I1.hok.fresh hb')
   exact⟨g1,g2,g3,g4,g5,g6⟩
end
end MX
namespace DL
open PySem PySem.Spec PyProof.Rows MX L2
section
variable{X:Cx}{Γ:Nat->Option Addr}{E:XK}{a b:Expr}{pos:Pos}{fa fb:DSt->Out D}{K:Frag}{G:Hp}
def vN:List D->List D->List D
 | x::xs,y::ys=>.tup [x,y]::vN xs ys
 | _,_=>[]
theorem GQ:∀{xs ys:List D}{i:Nat}{d:D},(vN xs ys)[i]?=some d->∃x y,xs[i]?=some x/\ys[i]?=some y/\d=.tup [x,y]
 | [],_,_,_,e=>by simp[vN] at e
 | _::_,[],_,_,e=>by simp[vN] at e
 | x::xs,y::ys,0,d,e=>by simp[vN] at e;exact⟨x,y,rfl,rfl,e.symm⟩
 | x::xs,y::ys,i+1,d,e=>by
  simp only[vN,List.getElem?_cons_succ] at e ⊢
  exact GQ e
theorem BP:∀xs ys:List D,(vN xs ys).length=min xs.length ys.length
 | [],_=>by simp[vN]
 | _::_,[]=>by simp[vN]
 | x::xs,y::ys=>by simp[vN,BP xs ys,Nat.succ_min_succ]
theorem yl_zip{p q:Addr}{vs us:List V}{xs ys:List D}(h:SqL K G p vs)(r:au K Γ G vs xs)(h2:SqL K G q us)(r2:au K Γ G us ys):Yl K Γ G (Itz K p q) (vN xs ys):=by
 refine⟨λi H s lt=>?_,λi G' H x H' d s s' y e=>?_,λi H s le=>⟨vs,us,s.seq h,s.seq h2,by rw[BP] at le;rw[r.length,r2.length];omega⟩⟩
 .obtain⟨x,y,e1,e2,_⟩:=GQ (show (vN xs ys)[i]?=some (vN xs ys)[i] by simp[lt])
  obtain⟨v,e3,_⟩:=r.get e1
  obtain⟨u,e4,_⟩:=r2.get e2
  exact⟨vs,v,us,u,s.seq h,e3,s.seq h2,e4⟩
 .obtain⟨pp,x1,y1,rfl,hp,rfl,k1,k2⟩:=y
  obtain⟨x2,y2,e1,e2,rfl⟩:=GQ e
  obtain⟨v,e3,r3⟩:=r.get e1
  obtain⟨u,e4,r4⟩:=r2.get e2
  have z1:=k1 vs ((s.trans s').seq h)
  rw[e3] at z1
  cases z1
  have z2:=k2 us ((s.trans s').seq h2)
  rw[e4] at z2
  cases z2
  have up:∀o:HO,aP G' (upd G' pp o):=λo=>aP.up (aC s' hp)
  exact⟨_,.new s' hp,.tup aK (.cons ((r3.mono s).mono (up _)) (.cons ((r4.mono s).mono (up _)) .nil))⟩
def zipO(f g:DSt->Out D):DSt->Out (List D):=λδ=>(f δ).bind λd=>(g δ).bind λe=>match d,e with
 | .lst xs,.lst ys=>.ok (vN xs ys)
 | _,_=>.stuck
theorem di_zip{es':List Expr}{kk:Nat}{tp p:Pos}(hg:Gl X "zip")(hm:X.mg "zip"=none)(ha:DE X Γ E a fa)(hb:DE X Γ E b fb)(hs:starEach [a,b] X.env=(false,eval a X.env)::starEach [b] X.env:=by rfl)(hs2:starEach [b] X.env=[(false,eval b X.env)]:=by rfl):DI X Γ E (.Tuple es' kk tp) (.Call (.Name "zip" p) [a,b] [] pos) (zipO fa fb) :=
 PI.imp (pi_zip hg hm (by decide +kernel) (bM ha (bM hb eO (by rw[hs2];rfl)) hs) hs (by rw[hs2];rfl)) λσ H R ⟨G0,H0,G,δ,S,w⟩=>by
  refine⟨G0,H0,G,δ,S,(ao w).mono (λd w v G1 H1 s1 r1=>?_) λ_ k=>k⟩
  refine⟨G0,H0,G1,δ,S.step s1,(ao w).mono (λd2 w v2 G2 H2 s2 r2=>?_) λ_ k=>k.step s1⟩
  split at w
  .cases r1 with
   | lst h r =>
    cases r2 with
    | lst h2 r2=>exact⟨_,_,rfl,⟨_,SqL.of (s2.gh _ _ (s2.gg _ _ h))⟩,⟨_,SqL.of (s2.gh _ _ h2)⟩,w _ G2 H2 (s1.trans s2) (yl_zip (SqL.of (s2.gg _ _ h)) (r.mono s2.gg) (SqL.of h2) r2)⟩
  .exact Wn w
end
abbrev Plc:=Nat->Option Addr
def xt(Γ:Plc)(L:Plc):Plc:=λc=>if c<1000 then Γ c else L (c - 1000)
abbrev D.loc(k:Nat):D:=.cls (1000+k)
theorem xt_lo{Γ L:Plc}{c:Nat}(h:c<1000):xt Γ L c=Γ c:=Wu h
theorem GP{Γ L:Plc}(k:Nat):xt Γ L (1000+k)=L k:=by
 unfold xt
 rw[WD (by omega),W7]
def Le(L L':Plc):Prop:=∀k a,L k=some a->L' k=some a
theorem Le.refl(L:Plc):Le L L:=λ_ _ h=>h
theorem Le.trans{L L1 L2:Plc}(a:Le L L1)(b:Le L1 L2):Le L L2:=λk x h=>b k x (a k x h)
theorem Le.xt{Γ L L':Plc}(h:Le L L'):Le (xt Γ L) (DL.xt Γ L'):=λc a e=>by
 unfold DL.xt at e ⊢
 by_cases q:c<1000
 .rw[Wu q] at e ⊢;exact e
 .rw[WD q] at e ⊢;exact h _ _ e
section
variable{K:Frag}{Γ Γ':Plc}{G:Hp}
mutual
theorem Rep.gam(e:Le Γ Γ'):∀{v:V}{d:D},Rep K Γ G v d->Rep K Γ' G v d
 | _,_,.non=>.non
 | _,_,.bl b=>.bl b
 | _,_,.int i=>.int i
 | _,_,.str x=>.str x
 | _,_,.ty n=>.ty n
 | _,_,.cls h=>.cls (e _ _ h)
 | _,_,.lst h r=>.lst h (au.gam e r)
 | _,_,.tup h r=>.tup h (au.gam e r)
 | _,_,.rol h r=>.rol h (au.gam e r)
 | _,_,.rot h r=>.rot h (au.gam e r)
 | _,_,.dK h r=>.dK h (nU.gam e r)
 | _,_,.dT h r=>.dT h (dM.gam e r)
 | _,_,.obj h g r=>.obj h (e _ _ g) (dG.gam e r)
 | _,_,.e0 h g=>.e0 h (e _ _ g)
 | _,_,.e1 h h' g r=>.e1 h h' (e _ _ g) (dG.gam e r)
theorem au.gam(e:Le Γ Γ'):∀{v:List V}{d:List D},au K Γ G v d->au K Γ' G v d
 | _,_,.nil=>.nil
 | _,_,.cons h r=>.cons (Rep.gam e h) (au.gam e r)
theorem dG.gam(e:Le Γ Γ'):∀{v:List (Str×V)}{d:List (Str×D)},dG K Γ G v d->dG K Γ' G v d
 | _,_,.nil=>.nil
 | _,_,.cons h r=>.cons (Rep.gam e h) (dG.gam e r)
theorem nU.gam(e:Le Γ Γ'):∀{v:List (Key×V)}{d:List (Key×D)},nU K Γ G v d->nU K Γ' G v d
 | _,_,.nil=>.nil
 | _,_,.cons h r=>.cons (Rep.gam e h) (nU.gam e r)
theorem dM.gam(e:Le Γ Γ'):∀{v:List (List Key×V)}{d:List (List Key×D)},dM K Γ G v d->dM K Γ' G v d
 | _,_,.nil=>.nil
 | _,_,.cons h r=>.cons (Rep.gam e h) (dM.gam e r)
end
theorem Rep.up{G':Hp}{L L':Plc}{v:V}{d:D}(r:Rep K (xt Γ L) G v d)(l:Le L L')(g:aP G G'):Rep K (xt Γ L') G' v d:=(r.gam l.xt).mono g
end
inductive Cl where
 | lst (ds:List D) | dK (kvs:List (Key×D)) | dT (kvs:List (List Key×D)) | obj (c:Nat) (fs:List (Str×D))
abbrev Mem:=List Cl
def ClOk(K:Frag)(Γ:Plc)(G H:Hp)(a:Addr):Cl->Prop
 | .lst ds=>∃vs,H a=some (.lst vs)/\au K Γ G vs ds
 | .dK ds=>∃vs,H a=some (.dK vs)/\nU K Γ G vs ds
 | .dT ds=>∃vs,H a=some (.dT vs)/\dM K Γ G vs ds
 | .obj c fs=>∃C dx vs,H a=some (.ins C dx vs)/\Γ c=some C/\dG K Γ G vs fs
theorem ClOk.some{K:Frag}{Γ:Plc}{G H:Hp}{a:Addr}{c:Cl}(h:ClOk K Γ G H a c):H a≠none:=by
 cases c with
 | lst _=>obtain⟨_,e,_⟩:=h;rw[e];exact λq=>nomatch q
 | dK _=>obtain⟨_,e,_⟩:=h;rw[e];exact λq=>nomatch q
 | dT _=>obtain⟨_,e,_⟩:=h;rw[e];exact λq=>nomatch q
 | obj _ _=>obtain⟨_,_,_,e,_⟩:=h;rw[e];exact λq=>nomatch q
theorem ClOk.up{K:Frag}{Γ Γ':Plc}{G H G' H':Hp}{a:Addr}{c:Cl}(h:ClOk K Γ G H a c)(l:Le Γ Γ')(g:aP G G')(e:H' a=H a):ClOk K Γ' G' H' a c:=by
 cases c with
 | lst _=>obtain⟨vs,q,r⟩:=h;exact⟨vs,e.trans q,(r.gam l).mono g⟩
 | dK _=>obtain⟨vs,q,r⟩:=h;exact⟨vs,e.trans q,(r.gam l).mono g⟩
 | dT _=>obtain⟨vs,q,r⟩:=h;exact⟨vs,e.trans q,(r.gam l).mono g⟩
 | obj _ _=>obtain⟨C,dx,vs,q,z,r⟩:=h;exact⟨C,dx,vs,e.trans q,l _ _ z,(r.gam l).mono g⟩
structure jh(K:Frag)(Γ:Plc)(L:Plc)(H0 G H:Hp)(μ:Mem):Prop where
 at_:∀k c,μ[k]?=some c->∃a,L k=some a/\H0 a=none/\G a=none/\ClOk K (xt Γ L) G H a c
 inj:∀k k' a,L k=some a->L k'=some a->k=k'
 top:∀k a,L k=some a->k<μ.length
theorem jh.get{K:Frag}{Γ L:Plc}{H0 G H:Hp}{μ:Mem}(M:jh K Γ L H0 G H μ){k:Nat}{a:Addr}(h:L k=some a):∃c,μ[k]?=some c/\H0 a=none/\G a=none/\ClOk K (xt Γ L) G H a c:=by
 have lt:=M.top _ _ h
 obtain⟨a',e,q⟩:=M.at_ k μ[k] (by simp[lt])
 rw[h] at e
 cases e
 exact⟨μ[k],by simp[lt],q⟩
open Classical in
noncomputable def ov(L:Plc)(H H0:Hp):Hp:=λb=>if ∃k,L k=some b then H b else H0 b
theorem eN{L:Plc}{H H0:Hp}{k:Nat}{b:Addr}(h:L k=some b):ov L H H0 b=H b:=Wu ⟨k,h⟩
theorem bA{L:Plc}{H H0:Hp}{b:Addr}(h:¬∃k,L k=some b):ov L H H0 b=H0 b:=WD h
theorem Uv{L:Plc}{H H' H0:Hp}(h:∀k a,L k=some a->H' a=H a):ov L H' H0=ov L H H0:=by
 funext b
 by_cases z:∃k,L k=some b
 .obtain⟨k,e⟩:=z
  rw[eN e,eN e,h k b e]
 .rw[bA z,bA z]
noncomputable abbrev hid(L:Plc)(H:Hp):Hp:=ov L (λ_=>none) H
structure StM(K:Frag)(Γ:Plc)(L0:Plc)(G0 H0:Hp)(L:Plc)(G H:Hp)(μ:Mem):Prop where
 le:Le L0 L
 st:Step G0 H0 G H
 mem:jh K Γ L H0 G H μ
structure SRS(K:Frag)(Γ:Plc)(L0:Plc)(G0 H0:Hp)(L:Plc)(G H:Hp)(σ:L2.St)(δ:DSt)(μ:Mem):Prop where
 le:Le L0 L
 sr:SR K (xt Γ L) G0 (ov L H H0) G H σ δ
 mem:jh K Γ L H0 G H μ
section
variable{K:Frag}{Γ Γ':Plc}{G0 H0 H0' G H G' H':Hp}{O:Addr->Option Nat}{σ σ':L2.St}{δ δ':DSt}{L0 L L':Plc}{μ μ':Mem}
theorem Inner.go{i:Nat}(l:Le Γ Γ')(gg:aP G G')(hb:∀b o,H b=some o->H0 b=none->G b=none->H' b=some o/\H0' b=none/\G' b=none):∀{vs:List V}{dss:List (List D)},Inner K Γ H0 G H O i vs dss->Inner K Γ' H0' G' H' O i vs dss
 | _,_,.nil=>.nil
 | _,_,.cons h g h0 o r n t=>.cons (hb _ _ h h0 g).1 (hb _ _ h h0 g).2.2 (hb _ _ h h0 g).2.1 o ((r.gam l).mono gg) n (Inner.go l gg hb t)
theorem bG.go{i:Nat}(l:Le Γ Γ')(gg:aP G G')(hb:∀b o,H b=some o->H0 b=none->G b=none->H' b=some o/\H0' b=none/\G' b=none):∀{vs:List V}{es:List Mx}{bs:List Addr},bG K Γ H0 G H O i vs es bs->bG K Γ' H0' G' H' O i vs es bs
 | _,_,_,.nil=>.nil
 | _,_,_,.own h g h0 o r n t=>.own (hb _ _ h h0 g).1 (hb _ _ h h0 g).2.2 (hb _ _ h h0 g).2.1 o ((r.gam l).mono gg) n (bG.go l gg hb t)
 | _,_,_,.fix r t=>.fix ((r.gam l).mono gg) (bG.go l gg hb t)
theorem bK.go{i:Nat}{v:V}{x:Sl}(h:bK K Γ H0 G H O i v x)(l:Le Γ Γ')(gg:aP G G')(hb:∀b o,H b=some o->H0 b=none->G b=none->H' b=some o/\H0' b=none/\G' b=none):bK K Γ' H0' G' H' O i v x:=by
 cases x with
 | sh d=>exact(Rep.gam l h).mono gg
 | ol ds=>obtain⟨a,vs,e,h1,h2,h3,h4,h5⟩:=h;obtain⟨k1,k2,k3⟩:=hb _ _ h1 h3 h2;exact⟨a,vs,e,k1,k3,k2,h4,(h5.gam l).mono gg⟩
 | oll ds=>obtain⟨a,vs,e,h1,h2,h3,h4,h5,h6⟩:=h;obtain⟨k1,k2,k3⟩:=hb _ _ h1 h3 h2;exact⟨a,vs,e,k1,k3,k2,h4,h5,h6.go l gg hb⟩
 | od ds=>obtain⟨a,vs,e,h1,h2,h3,h4,h5⟩:=h;obtain⟨k1,k2,k3⟩:=hb _ _ h1 h3 h2;exact⟨a,vs,e,k1,k3,k2,h4,(h5.gam l).mono gg⟩
 | odT ds=>obtain⟨a,vs,e,h1,h2,h3,h4,h5⟩:=h;obtain⟨k1,k2,k3⟩:=hb _ _ h1 h3 h2;exact⟨a,vs,e,k1,k3,k2,h4,(h5.gam l).mono gg⟩
 | omx ds=>obtain⟨a,vs,bs,e,h1,h2,h3,h4,h5,h6⟩:=h;obtain⟨k1,k2,k3⟩:=hb _ _ h1 h3 h2;exact⟨a,vs,bs,e,k1,k3,k2,h4,h5,h6.go l gg hb⟩
theorem SR.go{G0 H0 G0' H0':Hp}(S:SR K Γ G0 H0 G H σ δ)(l:Le Γ Γ')(gg:aP G G')(st:Step G0' H0' G' H')(hb:∀b o,H b=some o->H0 b=none->G b=none->H' b=some o/\H0' b=none/\G' b=none):SR K Γ' G0' H0' G' H' σ δ:=by
 refine⟨st,S.len,?_⟩
 obtain⟨O,q⟩:=S.sl
 refine⟨O,λi x e=>?_⟩
 obtain⟨v,h1,h2⟩:=q i x e
 exact⟨v,h1,h2.go l gg hb⟩
theorem jh.nF(M:jh K Γ L H0 G H μ){b:Addr}{o:HO}(h:H0 b=some o):¬∃k,L k=some b:=λ⟨k,e⟩=>by
 obtain⟨c,_,z,_⟩:=M.get e
 rw[h] at z
 cases z
theorem SRS.stm(S:SRS K Γ L0 G0 H0 L G H σ δ μ):StM K Γ L0 G0 H0 L G H μ :=
 ⟨S.le,⟨S.sr.st.gg,λb o e=>S.sr.st.hh b o ((bA (S.mem.nF e)).trans e),S.sr.st.gh,λb hb g=>S.sr.st.sep b (λz=>by
  cases q:H0 b with
  | none=>exact hb q
  | some o=>rw[bA (S.mem.nF q),q] at z;cases z) g⟩,S.mem⟩
theorem SRS.pure(S:SRS K Γ L0 G0 H0 L G H σ δ μ)(s:Step G H G' H'):SRS K Γ L0 G0 H0 L G' H' σ δ μ:=by
 have hc:∀k a,L k=some a->H' a=H a:=λk a e=>by
  obtain⟨c,_,_,_,q⟩:=S.mem.get e
  cases z:H a with
  | none=>exact absurd z q.some
  | some o=>exact s.hh _ _ z
 refine⟨S.le,by rw[Uv hc];exact S.sr.step s,λk c e=>?_,S.mem.inj,S.mem.top⟩
 obtain⟨a,h1,h2,h3,h4⟩:=S.mem.at_ k c e
 exact⟨a,h1,h2,s.sep a h4.some h3,h4.up (.refl _) s.gg (hc k a h1)⟩
theorem SRS.call(S:SRS K Γ L0 G0 H0 L G H σ δ μ)(M:StM K Γ L G (hid L H) L' G' H' μ'):SRS K Γ L0 G0 H0 L' G' H' σ δ μ':=by
 have T:=S.stm
 have hn:∀b o,H b=some o->(¬∃k,L k=some b)->H' b=some o:=λb o e z=>M.st.hh b o ((bA z).trans e)
 have hz:∀k a,L' k=some a->H0 a=none:=λk a e=>by
  obtain⟨c,_,z,_⟩:=M.mem.get e
  by_cases q:∃k,L k=some a
  .obtain⟨k',e'⟩:=q
   exact(S.mem.get e').choose_spec.2.1
  .rw[hid,bA q] at z
   exact T.st.hh.free z
 have gz:∀k a,L' k=some a->G' a=none:=λk a e=>(M.mem.get e).choose_spec.2.2.1
 refine⟨S.le.trans M.le,?_,λk c e=>?_,M.mem.inj,M.mem.top⟩
 .refine S.sr.go M.le.xt M.st.gg ⟨S.sr.st.gg.trans M.st.gg,λb o e=>?_,M.st.gh,λb hb g=>?_⟩ λb o e z g=>?_
  .by_cases q:∃k,L' k=some b
   .obtain⟨k,e'⟩:=q;rw[eN e'] at e;exact e
   .rw[bA q] at e
    exact hn b o (T.st.hh b o e) (S.mem.nF e)
  .by_cases q:∃k,L' k=some b
   .obtain⟨k,e'⟩:=q;exact gz k b e'
   .rw[bA q] at hb
    cases z:H0 b with
    | none=>exact absurd z hb
    | some o =>
     have hz':=T.st.hh b o z
     exact M.st.sep b (by rw[hid,bA (S.mem.nF z),hz'];exact λq=>nomatch q) (T.st.sep b hb g)
  .have nc:¬∃k,L k=some b:=λ⟨k,e'⟩=>by rw[eN e',e] at z;cases z
   rw[bA nc] at z
   have nc':¬∃k,L' k=some b:=λ⟨k,e'⟩=>by
    obtain⟨c,_,y,_⟩:=M.mem.get e'
    rw[hid,bA nc,e] at y
    cases y
   exact⟨hn b o e nc,by rw[bA nc'];exact z,M.st.sep b (by rw[hid,bA nc,e];exact λq=>nomatch q) g⟩
 .obtain⟨a,h1,h2,h3,h4⟩:=M.mem.at_ k c e
  exact⟨a,h1,hz k a h1,h3,h4⟩
theorem SRS.cell(S:SRS K Γ L0 G0 H0 L G H σ δ μ){k:Nat}{a:Addr}{o:HO}{c:Cl}(hk:L k=some a)(hc:ClOk K (xt Γ L) G (upd H a o) a c):SRS K Γ L0 G0 H0 L G (upd H a o) σ δ (μ.set k c):=by
 obtain⟨c0,hμ,hz,gz,q0⟩:=S.mem.get hk
 have nb:∀b,b≠a->upd H a o b=H b:=λb z=>aR z
 refine⟨S.le,?_,λk' c' e=>?_,S.mem.inj,λk' a' e=>by rw[Xc];exact S.mem.top k' a' e⟩
 .refine S.sr.go (.refl _) (aP.refl _) ⟨S.sr.st.gg,λb u e=>?_,λb u e=>?_,λb hb g=>S.sr.st.sep b (λz=>?_) g⟩ λb u e z g=>?_
  .by_cases q:∃k,L k=some b
   .obtain⟨k,e'⟩:=q;rw[eN e'] at e;exact e
   .rw[bA q] at e
    have:b≠a:=λz=>q ⟨k,z▸hk⟩
    rw[nb b this]
    exact S.stm.st.hh b u e
  .have:b≠a:=λz=>by rw[z,gz] at e;cases e
   rw[nb b this];exact S.sr.st.gh b u e
  .apply hb
   by_cases q:∃k,L k=some b
   .obtain⟨k',e'⟩:=q
    rw[eN e'] at z
    exact absurd z (S.mem.get e').choose_spec.2.2.2.some
   .rw[bA q] at z ⊢;exact z
  .have nc:¬∃k,L k=some b:=λ⟨k,e'⟩=>by rw[eN e',e] at z;cases z
   have:b≠a:=λz=>nc ⟨k,z▸hk⟩
   rw[bA nc] at z
   exact⟨by rw[nb b this];exact e,by rw[bA nc];exact z,g⟩
 .by_cases q:k=k'
  .subst q
   rw[Xb (S.mem.top k a hk)] at e
   cases e
   exact⟨a,hk,hz,gz,hc⟩
  .rw[Xe q] at e
   obtain⟨a',h1,h2,h3,h4⟩:=S.mem.at_ k' c' e
   have:a'≠a:=λz=>q (S.mem.inj k k' a hk (z▸h1))
   exact⟨a',h1,h2,h3,h4.up (.refl _) (aP.refl _) (nb a' this)⟩
def ug(L:Plc)(n:Nat)(p:Addr):Plc:=λk=>if k=n then some p else L k
theorem qp{L:Plc}{n:Nat}{p:Addr}:ug L n p n=some p:=Wu rfl
theorem jh.Aa(M:jh K Γ L H0 G H μ)(p:Addr):Le L (ug L μ.length p):=λk a e=>by
 unfold ug
 rw[WD (WX (M.top k a e))]
 exact e
theorem SRS.adopt(S:SRS K Γ L0 G0 H0 L G H σ δ μ){p:Addr}{c:Cl}(s:Step G H G' H')(hp:H p=none)(gp:G' p=none)(hc:ClOk K (xt Γ (ug L μ.length p)) G' H' p c):SRS K Γ L0 G0 H0 (ug L μ.length p) G' H' σ δ (μ++[c]):=by
 have zp:H0 p=none:=S.stm.st.hh.free hp
 have le:=S.mem.Aa p
 have S1:=S.pure s
 have T1:=S1.stm
 have inv:∀k b,ug L μ.length p k=some b->(k=μ.length/\b=p)∨L k=some b:=λk b e=>by
  unfold ug at e
  split at e
  .cases e;exact .inl ⟨‹_›,rfl⟩
  .exact .inr e
 have nin:∀k b,L k=some b->b≠p:=λk b e z=>(S.mem.get e).choose_spec.2.2.2.some (z▸hp)
 refine⟨S.le.trans le,?_,λk' c' e=>?_,λk k' a e e'=>?_,λk a e=>?_⟩
 .refine S.sr.go le.xt s.gg ⟨S1.sr.st.gg,λb u e=>?_,s.gh,λb hb g=>?_⟩ λb u e z g=>?_
  .by_cases q:∃k,ug L μ.length p k=some b
   .obtain⟨k,e'⟩:=q;rw[eN e'] at e;exact e
   .rw[bA q] at e
    exact T1.st.hh b u e
  .by_cases q:∃k,ug L μ.length p k=some b
   .obtain⟨k,e'⟩:=q
    rcases inv k b e' with⟨_,z⟩| z
    .rw[z];exact gp
    .exact(S1.mem.get z).choose_spec.2.2.1
   .rw[bA q] at hb
    exact T1.st.sep b hb g
  .have nc:¬∃k,L k=some b:=λ⟨k,e'⟩=>by rw[eN e',e] at z;cases z
   rw[bA nc] at z
   have nc':¬∃k,ug L μ.length p k=some b:=λ⟨k,e'⟩=>by
    rcases inv k b e' with⟨_,y⟩| y
    .rw[y,hp] at e;cases e
    .exact nc ⟨k,y⟩
   exact⟨s.hh _ _ e,by rw[bA nc'];exact z,s.sep b (by rw[e];exact λq=>nomatch q) g⟩
 .by_cases q:k'<μ.length
  .rw[Wz q] at e
   obtain⟨a,h1,h2,h3,h4⟩:=S1.mem.at_ k' c' e
   exact⟨a,le _ _ h1,h2,h3,h4.up le.xt (aP.refl _) rfl⟩
  .rw[W6 (by omega)] at e
   have:k'=μ.length:=by
    have:=(Ws.mp e).1
    simp at this
    omega
   subst this
   simp at e
   subst e
   exact⟨p,qp,zp,gp,hc⟩
 .rcases inv k a e with⟨z1,z2⟩| z <;> rcases inv k' a e' with⟨y1,y2⟩| y
  .rw[z1,y1]
  .exact absurd z2 (nin _ _ y)
  .exact absurd y2 (nin _ _ z)
  .exact S.mem.inj k k' a z y
 .rw[W0,Xz]
  rcases inv k a e with⟨z1,z2⟩| z
  .omega
  .have:=S.mem.top k a z;omega
theorem StM.adopt(S:StM K Γ L0 G0 H0 L G H μ){p:Addr}{c:Cl}(zp:H0 p=none)(gp:G p=none)(np:¬∃k,L k=some p)(hc:ClOk K (xt Γ (ug L μ.length p)) G H p c):StM K Γ L0 G0 H0 (ug L μ.length p) G H (μ++[c]):=by
 have le:=S.mem.Aa p
 have inv:∀k b,ug L μ.length p k=some b->(k=μ.length/\b=p)∨L k=some b:=λk b e=>by
  unfold ug at e
  split at e
  .cases e;exact .inl ⟨‹_›,rfl⟩
  .exact .inr e
 refine⟨S.le.trans le,S.st,λk' c' e=>?_,λk k' a e e'=>?_,λk a e=>?_⟩
 .by_cases q:k'<μ.length
  .rw[Wz q] at e
   obtain⟨a,h1,h2,h3,h4⟩:=S.mem.at_ k' c' e
   exact⟨a,le _ _ h1,h2,h3,h4.up le.xt (aP.refl _) rfl⟩
  .rw[W6 (by omega)] at e
   have:k'=μ.length:=by
    have:=(Ws.mp e).1
    simp at this
    omega
   subst this
   simp at e
   subst e
   exact⟨p,qp,zp,gp,hc⟩
 .rcases inv k a e with⟨z1,z2⟩| z <;> rcases inv k' a e' with⟨y1,y2⟩| y
  .rw[z1,y1]
  .exact absurd ⟨_,z2▸y⟩ np
  .exact absurd ⟨_,y2▸z⟩ np
  .exact S.mem.inj k k' a z y
 .rw[W0,Xz]
  rcases inv k a e with⟨z1,z2⟩| z
  .omega
  .have:=S.mem.top k a z;omega
theorem StM.frz(S:StM K Γ L0 G0 H0 L G H μ){p:Addr}(zp:H0 p=none)(gp:G p=none)(np:¬∃k,L k=some p):StM K Γ L0 G0 H0 L (dH G H λb=>decide (b=p)) H μ:=by
 have sm:aP G (dH G H λb=>decide (b=p)):=cR λb z=>by obtain rfl:=WT z;exact gp
 refine⟨S.le,S.st.frz _ λb z=>by obtain rfl:=WT z;exact⟨gp,zp⟩,λk c e=>?_,S.mem.inj,S.mem.top⟩
 obtain⟨a,h1,h2,h3,h4⟩:=S.mem.at_ k c e
 refine⟨a,h1,h2,?_,h4.up (.refl _) sm rfl⟩
 unfold dH
 rw[WD (by simp;exact λz=>np ⟨k,z▸h1⟩)]
 exact h3
open Classical in
noncomputable def hb0(B G H:Hp):Hp:=λb=>if B b=none/\G b=none then none else H b
theorem PQ{B G H:Hp}{b:Addr}(s:aP B H)(h:hb0 B G H b=none):B b=none:=by
 unfold hb0 at h
 split at h
 .rename_i z;exact z.1
 .exact s.free h
theorem SRS.enter(S:SRS K Γ L0 G0 H0 L G H σ δ μ):SR K (xt Γ L) G (hb0 (ov L H H0) G H) G H σ δ:=by
 refine S.sr.go (.refl _) (aP.refl _) ⟨aP.refl _,λb o e=>?_,S.sr.st.gh,λ_ _ g=>g⟩ λb o e z g=>⟨e,by unfold hb0;rw[Wu ⟨z,g⟩],g⟩
 unfold hb0 at e
 split at e
 .cases e
 .exact e
theorem Step.leave(S:SRS K Γ L0 G0 H0 L G H σ δ μ)(s:Step G (hb0 (ov L H H0) G H) G' H'):Step G0 (ov L H H0) G' H'/\∀k a,L k=some a->H' a=H a:=by
 have hs:∀b o,ov L H H0 b=some o->H' b=some o:=λb o e=>s.hh b o (by
  unfold hb0
  rw[WD (λz=>by rw[e] at z;cases z.1)]
  exact S.sr.st.hh b o e)
 refine⟨⟨S.sr.st.gg.trans s.gg,hs,s.gh,λb hb g=>s.sep b (λz=>?_) (S.sr.st.sep b hb g)⟩,λk a e=>?_⟩
 .unfold hb0 at z
  split at z
  .rename_i y;exact hb y.1
  .cases q:ov L H H0 b with
   | none=>exact hb q
   | some o=>rw[S.sr.st.hh b o q] at z;cases z
 .cases z:H a with
  | none=>exact absurd z (S.mem.get e).choose_spec.2.2.2.some
  | some o=>exact hs a o ((eN e).trans z)
theorem SRS.leaveM(S:SRS K Γ L0 G0 H0 L G H σ δ μ)(s:Step G (hb0 (ov L H H0) G H) G' H'):jh K Γ L H0 G' H' μ:=by
 obtain⟨st,hc⟩:=Step.leave S s
 refine⟨λk c e=>?_,S.mem.inj,S.mem.top⟩
 obtain⟨a,h1,h2,h3,h4⟩:=S.mem.at_ k c e
 refine⟨a,h1,h2,?_,h4.up (.refl _) s.gg (hc k a h1)⟩
 exact st.sep a (by rw[eN h1];exact h4.some) (S.sr.st.gg.free h3)
theorem SRS.leave(S:SRS K Γ L0 G0 H0 L G H σ δ μ)(S':SR K (xt Γ L) G (hb0 (ov L H H0) G H) G' H' σ' δ'):SRS K Γ L0 G0 H0 L G' H' σ' δ' μ:=by
 obtain⟨st,hc⟩:=Step.leave S S'.st
 refine⟨S.le,?_,S.leaveM S'.st⟩
 rw[Uv hc]
 exact S'.go (.refl _) (aP.refl _) st λb o e z g=>⟨e,PQ S.sr.st.hh z,g⟩
theorem SRS.Sg(S:SRS K Γ L0 G0 H0 L G H σ δ μ)(s:Step G (hb0 (ov L H H0) G H) G' H'):StM K Γ L0 G0 H0 L G' H' μ:=by
 obtain⟨st,hc⟩:=Step.leave S s
 exact⟨S.le,⟨st.gg,λb o e=>st.hh b o ((bA (S.mem.nF e)).trans e),st.gh,λb hb g=>st.sep b (λz=>by
  cases q:H0 b with
  | none=>exact hb q
  | some o=>rw[bA (S.mem.nF q),q] at z;cases z) g⟩,S.leaveM s⟩
theorem SRS.later{L1:Plc}{G1:Hp}(S:SRS K Γ L0 G0 H0 L G H σ δ μ)(l:Le L1 L)(g01:aP G0 G1)(s:aP G1 G):SRS K Γ L1 G1 (un2 H0 G1) L G H σ δ μ:=by
 refine⟨l,?_,λk c e=>?_,S.mem.inj,S.mem.top⟩
 .refine S.sr.go (.refl _) (aP.refl _) ⟨s,λb o e=>?_,S.sr.st.gh,λb hb g=>?_⟩ λb o e z g=>?_
  .by_cases q:∃k,L k=some b
   .obtain⟨k,e'⟩:=q;rw[eN e'] at e;exact e
   .rw[bA q] at e
    rcases Rf e with e | e
    .exact S.stm.st.hh _ _ e
    .exact S.sr.st.gh _ _ (s _ _ e)
  .by_cases q:∃k,L k=some b
   .obtain⟨k,e'⟩:=q;exact(S.mem.get e').choose_spec.2.2.1
   .rw[bA q] at hb
    exact S.stm.st.sep b (λz=>hb (eQ.mpr ⟨z,g⟩)) (g01.free g)
  .have nc:¬∃k,L k=some b:=λ⟨k,e'⟩=>by rw[eN e',e] at z;cases z
   rw[bA nc] at z
   exact⟨e,by rw[bA nc];exact eQ.mpr ⟨z,s.free g⟩,g⟩
 .obtain⟨a,h1,h2,h3,h4⟩:=S.mem.at_ k c e
  exact⟨a,h1,eQ.mpr ⟨h2,s.free h3⟩,h3,h4⟩
theorem StM.back{L1:Plc}{G1 H1:Hp}{μ1:Mem}(T:StM K Γ L0 G0 H0 L1 G1 H1 μ1)(S:StM K Γ L1 G1 (un2 H0 G1) L G H μ):StM K Γ L0 G0 H0 L G H μ:=by
 refine⟨T.le.trans S.le,T.st.back S.st,λk c e=>?_,S.mem.inj,S.mem.top⟩
 obtain⟨a,h1,h2,h3,h4⟩:=S.mem.at_ k c e
 exact⟨a,h1,(eQ.mp h2).1,h3,h4⟩
theorem SRS.back{L1:Plc}{G1 H1:Hp}{μ1:Mem}(T:StM K Γ L0 G0 H0 L1 G1 H1 μ1)(S:SRS K Γ L1 G1 (un2 H0 G1) L G H σ δ μ):SRS K Γ L0 G0 H0 L G H σ δ μ:=by
 have B:=T.back S.stm
 refine⟨B.le,?_,B.mem⟩
 refine S.sr.go (.refl _) (aP.refl _) ⟨B.st.gg,λb o e=>?_,B.st.gh,λb hb g=>?_⟩ λb o e z g=>?_
 .by_cases q:∃k,L k=some b
  .obtain⟨k,e'⟩:=q;rw[eN e'] at e;exact e
  .rw[bA q] at e;exact B.st.hh _ _ e
 .by_cases q:∃k,L k=some b
  .obtain⟨k,e'⟩:=q;exact(S.mem.get e').choose_spec.2.2.1
  .rw[bA q] at hb;exact B.st.sep b hb g
 .have nc:¬∃k,L k=some b:=λ⟨k,e'⟩=>by rw[eN e',e] at z;cases z
  rw[bA nc] at z
  exact⟨e,by rw[bA nc];exact(eQ.mp z).1,g⟩
end
inductive Res (α:Type) where
 | ok (a:α) (μ:Mem) | ex (x:D) (μ:Mem) | stuck
namespace Res
noncomputable def bind{α β:Type}(r:Res α)(k:α->Mem->Res β):Res β:=match r with
 | .ok a μ=>k a μ
 | .ex x μ=>.ex x μ
 | .stuck=>.stuck
def of{α:Type}(o:Out α)(μ:Mem):Res α:=match o with
 | .ok a=>.ok a μ
 | .ex x=>.ex x μ
 | .stuck=>.stuck
def bw{α:Type}:Res α->Res α
 | .ok a μ=>.ok a μ
 | _=>.stuck
@[simp] theorem aQ{α β:Type}(a:α)(μ:Mem)(k:α->Mem->Res β):(Res.ok a μ).bind k=k a μ:=rfl
@[simp] theorem Kv{α β:Type}(x:D)(μ:Mem)(k:α->Mem->Res β):(Res.ex x μ).bind k=.ex x μ:=rfl
@[simp] theorem wR{α β:Type}(k:α->Mem->Res β):(Res.stuck:Res α).bind k=.stuck:=rfl
@[simp] theorem of_ok{α:Type}(a:α)(μ:Mem):of (.ok a) μ=.ok a μ:=rfl
@[simp] theorem sG{α:Type}(a:α)(μ:Mem):bw (Res.ok a μ)=.ok a μ:=rfl
end Res
def wpR{α:Type}(r:Res α)(P:α->Mem->Prop)(R:D->Mem->Prop):Prop:=match r with
 | .ok a μ=>P a μ
 | .ex x μ=>R x μ
 | .stuck=>False
theorem aY{α β:Type}{r:Res α}{k:α->Mem->Res β}{P:β->Mem->Prop}{R:D->Mem->Prop}(h:wpR (r.bind k) P R):wpR r (λa μ=>wpR (k a μ) P R) R:=by
 cases r <;> exact h
theorem wpR.mono{α:Type}{r:Res α}{P P':α->Mem->Prop}{R R':D->Mem->Prop}(h:wpR r P R)(k:∀a μ,P a μ->P' a μ)(q:∀x μ,R x μ->R' x μ):wpR r P' R':=by
 cases r with
 | ok a μ=>exact k a μ h
 | ex x μ=>exact q x μ h
 | stuck=>exact h
theorem qg{α:Type}{o:Out α}{μ:Mem}{P:α->Mem->Prop}{R:D->Mem->Prop}(h:wpR (Res.of o μ) P R):wpO o (λa=>P a μ) (λx=>R x μ):=by
 cases o <;> exact h
theorem wpR_noex{α:Type}{r:Res α}{P:α->Mem->Prop}{R R':D->Mem->Prop}(h:wpR r.bw P R):wpR r P R':=by
 cases r with
 | ok a μ=>exact h
 | ex x μ=>exact Wn h
 | stuck=>exact h
section
variable(K:Frag)(Γ:Plc)(E:XK)
def exS(L0:Plc)(G0 H0:Hp)(x:D)(μ:Mem):Prop:=∀a L G H,StM K Γ L0 G0 H0 L G H μ->Rep K (xt Γ L) G (.ref a) x->E (.ref a) none H
def teS(f:DSt->Mem->Res D):TE:=λσ H Q=>∃L0 G0 H0 L G δ μ,SRS K Γ L0 G0 H0 L G H σ δ μ /\
 wpR (f δ μ) (λd μ'=>∀v L' G' H',SRS K Γ L0 G0 H0 L' G' H' σ δ μ'->Le L L'->aP G G'->Rep K (xt Γ L') G' v d->Q v H') (exS K Γ E L0 G0 H0)
def ttS(f:DSt->Mem->Res Bool):TT:=λσ H Q=>∃L0 G0 H0 L G δ μ,SRS K Γ L0 G0 H0 L G H σ δ μ /\
 wpR (f δ μ) (λd μ'=>∀L' G' H',SRS K Γ L0 G0 H0 L' G' H' σ δ μ'->Le L L'->aP G G'->Q d H') (exS K Γ E L0 G0 H0)
def taS(f:DSt->Mem->Res (List D)):TA:=λσ H Q=>∃L0 G0 H0 L G δ μ,SRS K Γ L0 G0 H0 L G H σ δ μ /\
 wpR (f δ μ) (λd μ'=>∀v L' G' H',SRS K Γ L0 G0 H0 L' G' H' σ δ μ'->Le L L'->aP G G'->au K (xt Γ L') G' v d->Q v H') (exS K Γ E L0 G0 H0)
def tiS(f:DSt->Mem->Res (List D)):TI:=λσ H R=>∃L0 G0 H0 L G δ μ,SRS K Γ L0 G0 H0 L G H σ δ μ /\
 wpR (f δ μ) (λds μ'=>∀J L' G' H',SRS K Γ L0 G0 H0 L' G' H' σ δ μ'->Le L L'->aP G G'->Yl K (xt Γ L') G' J ds->R J H') (exS K Γ E L0 G0 H0)
def FlS(L0:Plc)(G0 H0:Hp)(N:Ends):Fl->Mem->Prop
 | .nx δ,μ=>∀σ L G H,SRS K Γ L0 G0 H0 L G H σ δ μ->N.nx σ H
 | .rt d,μ=>∀v L G H,StM K Γ L0 G0 H0 L G H μ->Rep K (xt Γ L) G v d->N.rt v H
 | .bk δ,μ=>∀σ L G H,SRS K Γ L0 G0 H0 L G H σ δ μ->N.bk σ H
 | .ct δ,μ=>∀σ L G H,SRS K Γ L0 G0 H0 L G H σ δ μ->N.ct σ H
 | .rl ds,μ=>∀a vs L G H,StM K Γ L0 G0 H0 L G H μ->H0 a=none->(¬∃k,L k=some a)->H a=some (.lst vs)->G a=none->au K (xt Γ L) G vs ds->N.rt (.ref a) H
 | .rll _,_=>False
def tsS(g:DSt->Mem->Res Fl):TS:=λN σ H=>∃L0 G0 H0 L G δ μ,SRS K Γ L0 G0 H0 L G H σ δ μ/\wpR (g δ μ) (FlS K Γ L0 G0 H0 N) (exS K Γ E L0 G0 H0)
end
abbrev SE(X:Cx)(Γ:Plc)(E:XK)(e:Expr)(f:DSt->Mem->Res D):Prop:=PE X e (teS X.K Γ E f)
abbrev ST(X:Cx)(Γ:Plc)(E:XK)(e:Expr)(f:DSt->Mem->Res Bool):Prop:=PT X e (ttS X.K Γ E f)
abbrev SA(X:Cx)(Γ:Plc)(E:XK)(es:List Expr)(f:DSt->Mem->Res (List D)):Prop:=PA X es (taS X.K Γ E f)
abbrev SI(X:Cx)(Γ:Plc)(E:XK)(tg iter:Expr)(f:DSt->Mem->Res (List D)):Prop:=PI X tg iter (tiS X.K Γ E f)
abbrev SS(X:Cx)(Γ:Plc)(E:XK)(st:Stmt)(g:DSt->Mem->Res Fl):Prop:=PS X st (tsS X.K Γ E g)
abbrev SSs(X:Cx)(Γ:Plc)(E:XK)(st:List Stmt)(g:DSt->Mem->Res Fl):Prop:=PSs X st (tsS X.K Γ E g)
section
variable{X:Cx}{Γ:Plc}{E:XK}{e a c:Expr}{pos:Pos}{es:List Expr}{st:Stmt}{rest sa sb:List Stmt}
theorem PE.ex{α:Type}{t:α->TE}(h:∀x,PE X e (t x)):PE X e (λσ H Q=>∃x,t x σ H Q):=λpins s σ H Q I ⟨x,q⟩=>h x pins s σ H Q I q
theorem PT.ex{α:Type}{t:α->TT}(h:∀x,PT X e (t x)):PT X e (λσ H Q=>∃x,t x σ H Q):=λpins s σ H Q I ⟨x,q⟩=>h x pins s σ H Q I q
theorem PI.ex{α:Type}{tg:Expr}{t:α->TI}(h:∀x,PI X tg e (t x)):PI X tg e (λσ H Q=>∃x,t x σ H Q):=λpins s σ H Q I ⟨x,q⟩=>h x pins s σ H Q I q
theorem PS.ex{α:Type}{t:α->TS}(h:∀x,PS X st (t x)):PS X st (λN σ H=>∃x,t x N σ H):=λpins s σ H Q I ⟨x,q⟩=>h x pins s σ H Q I q
theorem PG.ex{α:Type}{t:α->TG}(h:∀x,PG X e (t x)):PG X e (λv σ H Q=>∃x,t x v σ H Q):=λpins s σ H v u Q I r ⟨x,q⟩=>h x pins s σ H v u Q I r q
theorem exS.old{K:Frag}{L0 L:Plc}{G0 H0 G H:Hp}{σ:L2.St}{δ:DSt}{μ:Mem}{x:D}(S:SRS K Γ L0 G0 H0 L G H σ δ μ)(k:exS K Γ E L0 G0 H0 x μ):exD K (xt Γ L) E G H x:=λa G' H' s r=>k a L G' H' (S.pure s).stm r
def fO{α:Type}(f:DSt->Out α):DSt->Mem->Res α:=λδ μ=>.of (f δ) μ
theorem bx{f:DSt->Out D}(h:∀L,DE X (xt Γ L) E e f):SE X Γ E e (fO f):=PE.imp (PE.ex h) λσ H Q ⟨L0,G0,H0,L,G,δ,μ,S,w⟩ =>
 ⟨L,G0,ov L H H0,G,δ,S.sr,(qg w).mono (λd k v G' H' s r=>k v L G' H' (S.pure s) (.refl _) s.gg r) λx k=>exS.old S k⟩
theorem Q6{f:DSt->Out Bool}(h:∀L,DT X (xt Γ L) E e f):ST X Γ E e (fO f):=PT.imp (PT.ex h) λσ H Q ⟨L0,G0,H0,L,G,δ,μ,S,w⟩ =>
 ⟨L,G0,ov L H H0,G,δ,S.sr,(qg w).mono (λd k G' H' s=>k L G' H' (S.pure s) (.refl _) s.gg) λx k=>exS.old S k⟩
theorem si_of{tg:Expr}{f:DSt->Out (List D)}(h:∀L,DI X (xt Γ L) E tg e f):SI X Γ E tg e (fO f):=PI.imp (PI.ex h) λσ H Q ⟨L0,G0,H0,L,G,δ,μ,S,w⟩ =>
 ⟨L,G0,ov L H H0,G,δ,S.sr,(qg w).mono (λd k J G' H' s y=>k J L G' H' (S.pure s) (.refl _) s.gg y) λx k=>exS.old S k⟩
theorem pI{g:DSt->Out Fl}(h:∀L,DS X (xt Γ L) E st g):SS X Γ E st (fO g):=PS.imp (PS.ex h) λN σ H ⟨L0,G0,H0,L,G,δ,μ,S,w⟩=>by
 refine⟨L,G,hb0 (ov L H H0) G H,G,δ,S.enter,(qg w).mono (λfl k=>?_) λx k a G' H' s r=>k a L G' H' (S.Sg s) r⟩
 cases fl with
 | nx δ'=>exact λσ' G' H' S'=>k σ' L G' H' (S.leave S')
 | rt d=>exact λv G' H' s r=>k v L G' H' (S.Sg s) r
 | bk δ'=>exact λσ' G' H' S'=>k σ' L G' H' (S.leave S')
 | ct δ'=>exact λσ' G' H' S'=>k σ' L G' H' (S.leave S')
 | rl ds =>
  intro a vs G' H' s f h g r
  have z:=PQ S.sr.st.hh f
  have nc:¬∃k,L k=some a:=λ⟨j,e'⟩=>by
   rw[eN e'] at z
   exact(S.mem.get e').choose_spec.2.2.2.some z
  rw[bA nc] at z
  exact k a vs L G' H' (S.Sg s) z nc h g r
 | rll _=>exact Wn k
def dW:DSt->Mem->Res (List D):=λ_ μ=>.ok [] μ
def aH(f:DSt->Mem->Res D)(g:DSt->Mem->Res (List D)):DSt->Mem->Res (List D):=λδ μ=>(f δ μ).bind λd μ=>(g δ μ).bind λds μ=>.ok (d::ds) μ
theorem iH:SA X Γ E [] dW:=PA.imp eO λσ H Q ⟨L0,G0,H0,L,G,δ,μ,S,w⟩=>w [] L G H S (.refl _) (aP.refl _) .nil
theorem bc{f:DSt->Mem->Res D}{g:DSt->Mem->Res (List D)}(ha:SE X Γ E e f)(hr:SA X Γ E es g)(hs:starEach (e::es) X.env=(false,eval e X.env)::starEach es X.env:=by rfl):SA X Γ E (e::es) (aH f g):=PA.imp (bM ha hr hs) λσ H Q ⟨L0,G0,H0,L,G,δ,μ,S,w⟩=>by
 refine⟨L0,G0,H0,L,G,δ,μ,S,(aY w).mono (λd μ1 w v L1 G1 H1 S1 l1 s1 r1=>?_) λ_ _ k=>k⟩
 refine⟨L0,G0,H0,L1,G1,δ,μ1,S1,(aY w).mono (λds μ2 w vs L2 G2 H2 S2 l2 s2 r2=>?_) λ_ _ k=>k⟩
 exact w (v::vs) L2 G2 H2 S2 (l1.trans l2) (s1.trans s2) (.cons (r1.up l2 s2) r2)
def wY:DSt->Mem->Res Fl:=λδ μ=>.ok (.nx δ) μ
def dm(g g':DSt->Mem->Res Fl):DSt->Mem->Res Fl:=λδ μ=>(g δ μ).bind λfl μ=>match fl with
 | .nx δ'=>g' δ' μ
 | fl=>.ok fl μ
variable{g g':DSt->Mem->Res Fl}{f:DSt->Mem->Res D}{ft:DSt->Mem->Res Bool}{fr:DSt->Mem->Res (List D)}
theorem mz:SSs X Γ E [] wY:=PSs.imp Uz λN σ H ⟨L0,G0,H0,L,G,δ,μ,S,w⟩=>w σ L G H S
theorem aU(h1:SS X Γ E st g)(h2:SSs X Γ E rest g'):SSs X Γ E (st::rest) (dm g g'):=PSs.imp (u9 h1 h2) λN σ H ⟨L0,G0,H0,L,G,δ,μ,S,w⟩=>by
 refine⟨L0,G0,H0,L,G,δ,μ,S,(aY w).mono (λfl μ1 w=>?_) λ_ _ k=>k⟩
 cases fl with
 | nx δ'=>exact λσ' L' G' H' S'=>⟨L0,G0,H0,L',G',δ',μ1,S',w⟩
 | rt d=>exact w
 | bk d=>exact w
 | ct d=>exact w
 | rl d=>exact w
 | rll d=>exact w
theorem cO(h1:SS X Γ E st g):SSs X Γ E [st] g:=pG h1
def Jg(f:DSt->Mem->Res D):DSt->Mem->Res Fl:=λδ μ=>(f δ μ).bind λ_ μ=>.ok (.nx δ) μ
theorem U3(he:SE X Γ E e f)(hs:swapsWith e none pos.line X.env=pure false:=by rfl):SS X Γ E (.Expr e pos) (Jg f):=PS.imp (mj he hs) λN σ H ⟨L0,G0,H0,L,G,δ,μ,S,w⟩ =>
 ⟨L0,G0,H0,L,G,δ,μ,S,(aY w).mono (λd μ1 w v L1 G1 H1 S1 l1 s1 r1=>w σ L1 G1 H1 S1) λ_ _ k=>k⟩
def retS(f:DSt->Mem->Res D):DSt->Mem->Res Fl:=λδ μ=>(f δ μ).bind λd μ=>.ok (.rt d) μ
theorem nR(he:SE X Γ E e f):SS X Γ E (.Return (some e) pos) (retS f):=PS.imp (w6 he) λN σ H ⟨L0,G0,H0,L,G,δ,μ,S,w⟩ =>
 ⟨L0,G0,H0,L,G,δ,μ,S,(aY w).mono (λd μ1 w v L1 G1 H1 S1 l1 s1 r1=>w v L1 G1 H1 S1.stm r1) λ_ _ k=>k⟩
def tU(i:Nat)(f:DSt->Mem->Res D):DSt->Mem->Res Fl:=λδ μ=>(f δ μ).bind λd μ=>.ok (.nx (δ.set i (some (.sh d)))) μ
theorem SRS.set{K:Frag}{L0 L:Plc}{G0 H0 G H:Hp}{σ:L2.St}{δ:DSt}{μ:Mem}{i:Nat}{v:V}{d:D}(S:SRS K Γ L0 G0 H0 L G H σ δ μ)(r:Rep K (xt Γ L) G v d):SRS K Γ L0 G0 H0 L G H (σ.set i (some v)) (δ.set i (some (.sh d))) μ:=⟨S.le,S.sr.set r,S.mem⟩
theorem ss_set(i:Nat){x:Str}{pos':Pos}(hh:∀{te:TE},PE X e te->PS X (.Assign [.Name x pos'] e pos) (Gk te (yp i)))(he:SE X Γ E e f):SS X Γ E (.Assign [.Name x pos'] e pos) (tU i f):=PS.imp (hh he) λN σ H ⟨L0,G0,H0,L,G,δ,μ,S,w⟩ =>
 ⟨L0,G0,H0,L,G,δ,μ,S,(aY w).mono (λd μ1 w v L1 G1 H1 S1 l1 s1 r1=>w _ L1 G1 H1 (S1.set r1)) λ_ _ k=>k⟩
def ifS(t:DSt->Mem->Res Bool)(g g':DSt->Mem->Res Fl):DSt->Mem->Res Fl:=λδ μ=>(t δ μ).bind λk μ=>if k=true then g δ μ else g' δ μ
theorem yQ(hc:ST X Γ E c ft)(ha:SSs X Γ E sa g)(hb:SSs X Γ E sb g'):SS X Γ E (.If c sa sb pos) (ifS ft g g'):=PS.imp (ps_if hc ha hb) λN σ H ⟨L0,G0,H0,L,G,δ,μ,S,w⟩=>by
 refine⟨L0,G0,H0,L,G,δ,μ,S,(aY w).mono (λk μ1 w L1 G1 H1 S1 l1 s1=>?_) λ_ _ k=>k⟩
 cases k with
 | true=>rw[Wu rfl] at w ⊢;exact⟨L0,G0,H0,L1,G1,δ,μ1,S1,w⟩
 | false=>rw[WD Wv] at w ⊢;exact⟨L0,G0,H0,L1,G1,δ,μ1,S1,w⟩
def whS(t:DSt->Mem->Res Bool)(body:DSt->Mem->Res Fl):Nat->DSt->Mem->Res Fl
 | 0,_,_=>.stuck
 | n+1,δ,μ=>(t δ μ).bind λk μ=>if k=true then (body δ μ).bind λfl μ=>match fl with
   | .nx δ2=>whS t body n δ2 μ
   | .ct δ2=>whS t body n δ2 μ
   | .bk δ2=>.ok (.nx δ2) μ
   | fl=>.ok fl μ
  else .ok (.nx δ) μ
theorem ss_while{body:List Stmt}(fuel:DSt->Nat)(hh:∀{tc:TT} {tb:TS},PT X c tc->PSs X body tb->PS X (.While c body [] pos) (Tu tc tb))(hc:ST X Γ E c ft)(hb:SSs X Γ E body g):
  SS X Γ E (.While c body [] pos) (λδ μ=>whS ft g (fuel δ) δ μ):=PS.imp (hh hc hb) λN σ H ⟨L0,G0,H0,L,G,δ,μ,S,w⟩=>by
 refine⟨λm σ H=>∃L G δ μ,SRS X.K Γ L0 G0 H0 L G H σ δ μ/\wpR (whS ft g m δ μ) (FlS X.K Γ L0 G0 H0 N) (exS X.K Γ E L0 G0 H0),⟨_,L,G,δ,μ,S,w⟩,?_⟩
 rintro m σ H ⟨L2,G2,δ2,μ2,S2,w⟩
 cases m with
 | zero=>exact Wn w
 | succ n =>
  refine⟨L0,G0,H0,L2,G2,δ2,μ2,S2,(aY w).mono (λk μ3 w L3 G3 H3 S3 l3 s3=>?_) λ_ _ k=>k⟩
  cases k with
  | false=>rw[WD Wv] at w ⊢;exact w σ L3 G3 H3 S3
  | true =>
   rw[Wu rfl] at w ⊢
   refine⟨λσ' H'=>∃L G δ μ,SRS X.K Γ L0 G0 H0 L G H' σ' δ μ/\wpR (whS ft g n δ μ) (FlS X.K Γ L0 G0 H0 N) (exS X.K Γ E L0 G0 H0),λσ' H' ⟨L',G',δ',μ',a1,a3⟩=>⟨n,Xp n,L',G',δ',μ',a1,a3⟩,L0,G0,H0,L3,G3,δ2,μ3,S3,(aY w).mono (λfl μ4 w=>?_) λ_ _ k=>k⟩
   cases fl with
   | nx δ'=>exact λσ' L' G' H' S'=>⟨L',G',δ',μ4,S',w⟩
   | ct δ'=>exact λσ' L' G' H' S'=>⟨L',G',δ',μ4,S',w⟩
   | bk δ'=>exact w
   | rt d=>exact w
   | rl d=>exact w
   | rll d=>exact w
def forS(tg:D->DSt->Option DSt)(body:DSt->Mem->Res Fl):List D->DSt->Mem->Res Fl
 | [],δ,μ=>.ok (.nx δ) μ
 | d::ds,δ,μ=>(Res.of (Out.opt (tg d δ)) μ).bind λδ1 μ=>(body δ1 μ).bind λfl μ=>match fl with
  | .nx δ2=>forS tg body ds δ2 μ
  | .ct δ2=>forS tg body ds δ2 μ
  | .bk δ2=>.ok (.nx δ2) μ
  | fl=>.ok fl μ
def yL(fi:DSt->Mem->Res (List D))(tg:D->DSt->Option DSt)(body:DSt->Mem->Res Fl):DSt->Mem->Res Fl:=λδ μ=>(fi δ μ).bind λds μ=>forS tg body ds δ μ
theorem ss_for{tg iter:Expr}{body:List Stmt}{t:D->DSt->Option DSt}(hh:∀{wi:TI} {g:TG} {tb:TS},PI X tg iter wi->PG X tg g->PSs X body tb->PS X (.For tg iter body [] pos) (tFor wi g tb))(hi:SI X Γ E tg iter fr)(hg:∀L,DG X (xt Γ L) tg t)(hb:SSs X Γ E body g):
  SS X Γ E (.For tg iter body [] pos) (yL fr t g):=PS.imp (hh hi (PG.ex hg) hb) λN σ H ⟨L0,G0,H0,L,G,δ,μ,S,w⟩=>by
 refine⟨L0,G0,H0,L,G,δ,μ,S,(aY w).mono (λds μ1 w J L1 G1 H1 S1 l1 s1 Y=>?_) λ_ _ k=>k⟩
 refine⟨λi m σ H=>∃L G δ μ,SRS X.K Γ L0 G0 H0 L G H σ δ μ/\Le L1 L/\aP G1 G/\m=ds.length - i/\i<=ds.length/\wpR (forS t g (ds.drop i) δ μ) (FlS X.K Γ L0 G0 H0 N) (exS X.K Γ E L0 G0 H0),⟨_,L1,G1,δ,μ1,S1,.refl _,aP.refl _,rfl,Xq _,w⟩,?_⟩
 rintro i m σ H ⟨L2,G2,δ2,μ2,S2,l2,s2,rfl,hi,w⟩
 by_cases lt:i<ds.length
 .refine .inr ⟨Y.go i H (s2.trans S2.sr.st.gh) lt,λσ' H'=>∃L G δ μ,SRS X.K Γ L0 G0 H0 L G H' σ' δ μ/\Le L1 L/\aP G1 G/\wpR (forS t g (ds.drop (i+1)) δ μ) (FlS X.K Γ L0 G0 H0 N) (exS X.K Γ E L0 G0 H0),λσ' H' ⟨L',G',δ',μ',a1,a2,a3,a4⟩=>⟨ds.length - (i+1),by omega,L',G',δ',μ',a1,a2,a3,rfl,lt,a4⟩,λx H' y=>?_⟩
  obtain⟨G3,s3,r3⟩:=Y.yld i G2 H x H' ds[i] s2 S2.sr.st.gh y (by simp[lt])
  rw[XC lt] at w
  obtain⟨δ3,e3,w⟩:=bC (qg (aY w))
  have S3:=S2.pure s3
  refine⟨L2,G0,ov L2 H' H0,G3,δ2,ds[i],δ3,S3.sr,r3.gam l2.xt,e3,λσ4 S4=>?_⟩
  have S5:SRS X.K Γ L0 G0 H0 L2 G3 H' σ4 δ3 μ2:=⟨S3.le,S4,S3.mem⟩
  have T:=S1.stm
  have S6:=S5.later l2 S1.sr.st.gg (s2.trans s3.gg)
  refine⟨L1,G1,un2 H0 G1,L2,G3,δ3,μ2,S6,(aY w).mono (λfl μ4 w=>?_) λx μ4 k a L' G' H'' s' r'=>k a L' G' H'' (T.back s') r'⟩
  cases fl with
  | nx δ'=>exact λσ' L' G' H' S'=>⟨L',G',δ',μ4,SRS.back T S',S'.le,S'.sr.st.gg,w⟩
  | ct δ'=>exact λσ' L' G' H' S'=>⟨L',G',δ',μ4,SRS.back T S',S'.le,S'.sr.st.gg,w⟩
  | bk δ'=>exact λσ' L' G' H' S'=>w σ' L' G' H' (SRS.back T S')
  | rt d=>exact λv L' G' H' s' r'=>w v L' G' H' (T.back s') r'
  | rl d=>exact λa vs L' G' H' s' f nc h g r=>w a vs L' G' H' (T.back s') (eQ.mp f).1 nc h g r
  | rll d=>exact w
 .obtain rfl:i=ds.length:=by omega
  rw[Yu] at w
  exact .inl ⟨Y.stop _ H (s2.trans S2.sr.st.gh) (Ww _),w σ L2 G2 H S2⟩
end
def res(μ:Mem):Nat->D->D
 | 0,d=>d
 | n+1,d=>match d with
  | .cls c=>if 1000<=c then match μ[c - 1000]? with
    | some (.lst ds)=>.lst (ds.map (res μ n))
    | some (.dK kvs)=>.dK (kvs.map λp=>(p.1,res μ n p.2))
    | some (.dT kvs)=>.dT (kvs.map λp=>(p.1,res μ n p.2))
    | some (.obj c fs)=>.obj c (fs.map λp=>(p.1,res μ n p.2))
    | none=>d
   else d
  | .tup ds=>.tup (ds.map (res μ n))
  | d=>d
section
variable{K:Frag}{Γ:Plc}{G0 H0 G H G' H':Hp}{σ:L2.St}{δ:DSt}{L0 L:Plc}{μ:Mem}
theorem au.through{Γ:Plc}{r:D->D}(k:∀v d,Rep K Γ G v d->Rep K Γ G' v (r d)):∀{vs:List V}{ds:List D},au K Γ G vs ds->au K Γ G' vs (ds.map r)
 | _,_,.nil=>.nil
 | _,_,.cons h t=>.cons (k _ _ h) (au.through k t)
theorem dG.through{Γ:Plc}{r:D->D}(k:∀v d,Rep K Γ G v d->Rep K Γ G' v (r d)):∀{vs:List (Str×V)}{ds:List (Str×D)},dG K Γ G vs ds->dG K Γ G' vs (ds.map λp=>(p.1,r p.2))
 | _,_,.nil=>.nil
 | _,_,.cons h t=>.cons (k _ _ h) (dG.through k t)
theorem nU.through{Γ:Plc}{r:D->D}(k:∀v d,Rep K Γ G v d->Rep K Γ G' v (r d)):∀{vs:List (Key×V)}{ds:List (Key×D)},nU K Γ G vs ds->nU K Γ G' vs (ds.map λp=>(p.1,r p.2))
 | _,_,.nil=>.nil
 | _,_,.cons h t=>.cons (k _ _ h) (nU.through k t)
theorem dM.through{Γ:Plc}{r:D->D}(k:∀v d,Rep K Γ G v d->Rep K Γ G' v (r d)):∀{vs:List (List Key×V)}{ds:List (List Key×D)},dM K Γ G vs ds->dM K Γ G' vs (ds.map λp=>(p.1,r p.2))
 | _,_,.nil=>.nil
 | _,_,.cons h t=>.cons (k _ _ h) (dM.through k t)
theorem jh.sub(M:jh K Γ L H0 G H μ):aP G (ov L H G):=λb o e=>by
 have nc:¬∃k,L k=some b:=λ⟨k,e'⟩=>by
  obtain⟨c,_,_,z,_⟩:=M.get e'
  rw[e] at z
  cases z
 rw[bA nc]
 exact e
theorem UJ(M:jh K Γ L H0 G H μ):∀n v d,Rep K (xt Γ L) G v d->Rep K (xt Γ L) (ov L H G) v (res μ n d)
 | 0,v,d,r=>r.mono M.sub
 | n+1,v,d,r=>by
  have ih:=UJ M n
  cases r with
  | @cls c C h =>
   show Rep _ _ _ _ (if 1000<=c then _ else _)
   by_cases q:1000<=c
   .rw[Wu q]
    have h':L (c - 1000)=some C:=by
     unfold xt at h
     rw[WD (by omega)] at h
     exact h
    obtain⟨c0,e,_,_,k⟩:=M.get h'
    rw[e]
    cases c0 with
    | lst ds=>obtain⟨vs,z,r⟩:=k;exact .lst ((eN h').trans z) (au.through ih r)
    | dK ds=>obtain⟨vs,z,r⟩:=k;exact .dK ((eN h').trans z) (nU.through ih r)
    | dT ds=>obtain⟨vs,z,r⟩:=k;exact .dT ((eN h').trans z) (dM.through ih r)
    | obj c' ds=>obtain⟨C',dx,vs,z,y,r⟩:=k;exact .obj ((eN h').trans z) y (dG.through ih r)
   .rw[WD q];exact .cls h
  | tup h r=>exact .tup (M.sub _ _ h) (au.through ih r)
  | non=>exact .non
  | bl b=>exact .bl b
  | int i=>exact .int i
  | str x=>exact .str x
  | ty x=>exact .ty x
  | lst h r=>exact(Rep.lst h r).mono M.sub
  | rol h r=>exact(Rep.rol h r).mono M.sub
  | rot h r=>exact(Rep.rot h r).mono M.sub
  | dK h r=>exact(Rep.dK h r).mono M.sub
  | dT h r=>exact(Rep.dT h r).mono M.sub
  | obj h g r=>exact(Rep.obj h g r).mono M.sub
  | e0 h g=>exact(Rep.e0 h g).mono M.sub
  | e1 h h' g r=>exact(Rep.e1 h h' g r).mono M.sub
def rs1(μ:Mem)(n:Nat):Option Sl->Option Sl
 | some (.sh d)=>some (.sh (res μ n d))
 | o=>o
def rsv(μ:Mem)(n:Nat)(δ:DSt):DSt:=δ.map (rs1 μ n)
theorem SRS.snap(S:SRS K Γ L0 G0 H0 L G H σ δ μ)(n:Nat):SR K (xt Γ L) (ov L H G) (hb0 (ov L H H0) G H) (ov L H G) H σ (rsv μ n δ):=by
 refine⟨⟨aP.refl _,λb o e=>?_,λb o e=>?_,λ_ _ g=>g⟩,by rw[rsv,Wx];exact S.sr.len,?_⟩
 .unfold hb0 at e
  split at e
  .cases e
  .exact e
 .by_cases q:∃k,L k=some b
  .obtain⟨k,e'⟩:=q;rw[eN e'] at e;exact e
  .rw[bA q] at e;exact S.sr.st.gh _ _ e
 .obtain⟨O,q⟩:=S.sr.sl
  refine⟨O,λi x e=>?_⟩
  rw[rsv,WL] at e
  obtain⟨y,e1,e2⟩:=WF.mp e
  have key:∀y',y=some y'->∃v,σ[i]?=some (some v)/\bK K (xt Γ L) (ov L H H0) G H O i v y':=λy' z=>q i y' (z▸e1)
  have go:∀{v:V}{y':Sl},bK K (xt Γ L) (ov L H H0) G H O i v y'->bK K (xt Γ L) (hb0 (ov L H H0) G H) (ov L H G) H O i v y':=λh=>h.go (.refl _) S.mem.sub λb o e z g=>⟨e,by unfold hb0;rw[Wu ⟨z,g⟩],by
   rw[bA λ⟨k,e'⟩=>by rw[eN e',e] at z;cases z]
   exact g⟩
  cases y with
  | none=>cases e2
  | some y' =>
   obtain⟨v,h1,h2⟩:=key y' rfl
   cases y' with
   | sh d=>cases e2;exact⟨v,h1,UJ S.mem n v d h2⟩
   | ol _=>cases e2;exact⟨v,h1,go h2⟩
   | oll _=>cases e2;exact⟨v,h1,go h2⟩
   | od _=>cases e2;exact⟨v,h1,go h2⟩
   | odT _=>cases e2;exact⟨v,h1,go h2⟩
   | omx _=>cases e2;exact⟨v,h1,go h2⟩
theorem SRS.GD(S:SRS K Γ L0 G0 H0 L G H σ δ μ)(s:Step (ov L H G) H G' H'):Step G H (hid L G') H':=by
 have nc:∀b o,G b=some o->¬∃k,L k=some b:=λb o e ⟨k,e'⟩=>by
  obtain⟨c,_,_,z,_⟩:=S.mem.get e'
  rw[e] at z
  cases z
 refine⟨λb o e=>?_,s.hh,λb o e=>?_,λb hb g=>?_⟩
 .rw[hid,bA (nc b o e)]
  exact s.gg b o (S.mem.sub b o e)
 .by_cases q:∃k,L k=some b
  .obtain⟨k,e'⟩:=q;rw[hid,eN e'] at e;cases e
  .rw[hid,bA q] at e;exact s.gh _ _ e
 .by_cases q:∃k,L k=some b
  .obtain⟨k,e'⟩:=q;rw[hid,eN e']
  .rw[hid,bA q];exact s.sep b hb (by rw[bA q];exact g)
def gk:Nat->D->Bool
 | _,.non=>true
 | _,.bl _=>true
 | _,.int _=>true
 | _,.str _=>true
 | _,.ty _=>true
 | _,.cls _=>true
 | n+1,.tup ds=>ds.all (gk n)
 | _,_=>false
theorem K8{Γ:Plc}{n:Nat}(k:∀v d,gk n d=true->Rep K Γ G v d->Rep K Γ G' v d):∀{vs:List V}{ds:List D},ds.all (gk n)=true->au K Γ G vs ds->au K Γ G' vs ds
 | _,_,_,.nil=>.nil
 | _,_,e,.cons h t=>by
  rw[Yw,X3] at e
  exact .cons (k _ _ e.1 h) (K8 k e.2 t)
theorem SRS.fix(S:SRS K Γ L0 G0 H0 L G H σ δ μ)(s:Step (ov L H G) H G' H'):∀n v d,gk n d=true->Rep K (xt Γ L) G' v d->Rep K (xt Γ L) (hid L G') v d
 | n,v,d,e,r=>by
  cases r with
  | non=>exact .non
  | bl b=>exact .bl b
  | int i=>exact .int i
  | str x=>exact .str x
  | ty x=>exact .ty x
  | cls h=>exact .cls h
  | @tup a vs ds h r =>
   cases n with
   | zero=>simp[gk] at e
   | succ n =>
    have nc:¬∃k,L k=some a:=λ⟨k,e'⟩=>by
     obtain⟨c,_,_,_,z⟩:=S.mem.get e'
     have h1:=s.gh _ _ h
     cases c with
     | lst _=>obtain⟨_,z,_⟩:=z;rw[s.hh _ _ z] at h1;cases h1
     | dK _=>obtain⟨_,z,_⟩:=z;rw[s.hh _ _ z] at h1;cases h1
     | dT _=>obtain⟨_,z,_⟩:=z;rw[s.hh _ _ z] at h1;cases h1
     | obj _ _=>obtain⟨_,_,_,z,_⟩:=z;rw[s.hh _ _ z] at h1;cases h1
    exact .tup (by rw[hid,bA nc];exact h) (K8 (S.fix s n) (by simpa[gk] using e) r)
  | lst h r=>cases n <;> simp[gk] at e
  | rol h r=>cases n <;> simp[gk] at e
  | rot h r=>cases n <;> simp[gk] at e
  | dK h r=>cases n <;> simp[gk] at e
  | dT h r=>cases n <;> simp[gk] at e
  | obj h g r=>cases n <;> simp[gk] at e
  | e0 h g=>cases n <;> simp[gk] at e
  | e1 h h' g r=>cases n <;> simp[gk] at e
end
section
variable{X:Cx}{Γ:Plc}{E:XK}{e a b c o:Expr}{pos apos:Pos}{es:List Expr}{st:Stmt}
variable{g:DSt->Mem->Res Fl}{f fa fb:DSt->Mem->Res D}{fr:DSt->Mem->Res (List D)}
def rdS(n:Nat)(f:DSt->Out D):DSt->Mem->Res D:=λδ μ=>(Res.of (f (rsv μ n δ)).bw μ).bind λd μ=>if gk 4 d=true then .ok d μ else .stuck
theorem wH(n:Nat){f:DSt->Out D}(h:∀L,DE X (xt Γ L) E e f):SE X Γ E e (rdS n f):=PE.imp (PE.ex h) λσ H Q ⟨L0,G0,H0,L,G,δ,μ,S,w⟩=>by
 refine⟨L,ov L H G,hb0 (ov L H H0) G H,ov L H G,rsv μ n δ,S.snap n,(cU (qg (aY w))).mono (λd w v G' H' s r=>?_) λ_ k=>k⟩
 split at w
 .exact w v L (hid L G') H' (S.pure (S.GD s)) (.refl _) (S.GD s).gg (S.fix s _ _ _ ‹_› r)
 .exact Wn w
def rdT(n:Nat)(f:DSt->Out Bool):DSt->Mem->Res Bool:=λδ μ=>Res.of (f (rsv μ n δ)).bw μ
theorem st_rd(n:Nat){f:DSt->Out Bool}(h:∀L,DT X (xt Γ L) E e f):ST X Γ E e (rdT n f):=PT.imp (PT.ex h) λσ H Q ⟨L0,G0,H0,L,G,δ,μ,S,w⟩ =>
 ⟨L,ov L H G,hb0 (ov L H H0) G H,ov L H G,rsv μ n δ,S.snap n,(cU (qg w)).mono (λd w G' H' s=>w L (hid L G') H' (S.pure (S.GD s)) (.refl _) (S.GD s).gg) λ_ k=>k⟩
def rdC(n:Nat)(f:DSt->Out (List D)):DSt->Mem->Res D:=λδ μ=>(Res.of (f (rsv μ n δ)).bw μ).bind λds μ=>if ds.all (gk 4)=true then .ok (.loc μ.length) (μ++[.lst ds]) else .stuck
theorem se_rdC(n:Nat){f:DSt->Out (List D)}(h:∀L,DF X (xt Γ L) E e f):SE X Γ E e (rdC n f):=PE.imp (PE.ex h) λσ H Q ⟨L0,G0,H0,L,G,δ,μ,S,w⟩=>by
 refine⟨L,ov L H G,hb0 (ov L H H0) G H,ov L H G,rsv μ n δ,S.snap n,(cU (qg (aY w))).mono (λds w p vs G' H' s hp hh gp r=>?_) λ_ k=>k⟩
 split at w
 .have u:=S.GD s
  have gp':hid L G' p=none:=by
   by_cases q:∃k,L k=some p
   .obtain⟨k,e'⟩:=q;rw[hid,eN e']
   .rw[hid,bA q];exact gp
  have le:=S.mem.Aa p
  refine w _ (ug L μ.length p) _ H' (S.adopt u hp gp' ⟨vs,hh,(K8 (S.fix s 4) ‹_› r).gam le.xt⟩) le u.gg (.cls ?_)
  rw[GP];exact qp
 .exact Wn w
def lstC(fr:DSt->Mem->Res (List D)):DSt->Mem->Res D:=λδ μ=>(fr δ μ).bind λds μ=>if ds.length<=sizeLine then .ok (.loc μ.length) (μ++[.lst ds]) else .stuck
theorem Nj(h:SA X Γ E es fr):SE X Γ E (.List es pos) (lstC fr):=PE.imp (Tc h) λσ H Q ⟨L0,G0,H0,L,G,δ,μ,S,w⟩=>by
 refine⟨L0,G0,H0,L,G,δ,μ,S,(aY w).mono (λds μ1 w vs L1 G1 H1 S1 l1 s1 r1=>?_) λ_ _ k=>k⟩
 split at w
 .rename_i hl
  refine⟨by rw[r1.length];exact hl,λp hp=>?_⟩
  have le:=S1.mem.Aa p
  refine w _ (ug L1 μ1.length p) G1 _ (S1.adopt (.aside S1.sr.st.gh hp) hp (aC S1.sr.st.gh hp) ⟨vs,aK,r1.gam le.xt⟩) (l1.trans le) s1 (.cls ?_)
  rw[GP];exact qp
 .exact Wn w
def tupS(fr:DSt->Mem->Res (List D)):DSt->Mem->Res D:=λδ μ=>(fr δ μ).bind λds μ=>if ds.length<=sizeLine then .ok (.tup ds) μ else .stuck
theorem se_tup{x1}(h:SA X Γ E es fr):SE X Γ E (.Tuple es x1 pos) (tupS fr):=PE.imp (pe_tup h) λσ H Q ⟨L0,G0,H0,L,G,δ,μ,S,w⟩=>by
 refine⟨L0,G0,H0,L,G,δ,μ,S,(aY w).mono (λds μ1 w vs L1 G1 H1 S1 l1 s1 r1=>?_) λ_ _ k=>k⟩
 split at w
 .rename_i hl
  refine⟨by rw[r1.length];exact hl,λp hp=>?_⟩
  have u:Step G1 H1 (upd G1 p (.tup vs)) (upd H1 p (.tup vs)):=.new S1.sr.st.gh hp
  exact w _ L1 _ _ (S1.pure u) l1 (s1.trans u.gg) (.tup aK (r1.mono u.gg))
 .exact Wn w
def spS(K:Frag)(Γ:Plc)(n:Nat)(F:Mem->List D->Res D):Sp:=λvs H Q E=>vs.length=n/\∃L G μ ds,aP G H/\jh K Γ L (hid L H) G H μ/\au K (xt Γ L) G vs ds /\
 wpR (F μ ds) (λd μ'=>∀v L' G' H',StM K Γ L G (hid L H) L' G' H' μ'->Rep K (xt Γ L') G' v d->Q v H') (exS K Γ E L G (hid L H))
theorem jh.own{K:Frag}{L:Plc}{H0 G H:Hp}{μ:Mem}(M:jh K Γ L H0 G H μ):jh K Γ L (hid L H) G H μ:=by
 refine⟨λk c e=>?_,M.inj,M.top⟩
 obtain⟨a,h1,h2,h3,h4⟩:=M.at_ k c e
 exact⟨a,h1,by rw[hid,eN h1],h3,h4⟩
theorem ov_hid{L:Plc}{H:Hp}:ov L H (hid L H)=H:=by
 funext b
 by_cases q:∃k,L k=some b
 .obtain⟨k,e⟩:=q;rw[eN e]
 .rw[bA q,hid,bA q]
def gj(n:Nat)(F:Mem->List D->Res D)(fr:DSt->Mem->Res (List D)):DSt->Mem->Res D:=λδ μ=>(fr δ μ).bind λds μ=>if ds.length=n then F μ ds else .stuck
theorem se_call{n:Nat}{F:Mem->List D->Res D}(h:PE X e (Gm (spS X.K Γ n F) [] E (taS X.K Γ E fr))):SE X Γ E e (gj n F fr):=PE.imp h λσ H Q ⟨L0,G0,H0,L,G,δ,μ,S,w⟩=>by
 refine⟨L0,G0,H0,L,G,δ,μ,S,(aY w).mono (λds μ1 w vs L1 G1 H1 S1 l1 s1 r1=>?_) λ_ _ k=>k⟩
 split at w
 .rename_i hl
  rw[Xi]
  exact⟨by rw[r1.length];exact hl,L1,G1,μ1,ds,S1.sr.st.gh,S1.mem.own,r1,w.mono (λd μ2 k v L' G' H' M r=>k v L' G' H' (S1.call M) (l1.trans M.le) (s1.trans M.st.gg) r) λx μ2 k a L' G' H' M r=>k a L' G' H' (S1.call M).stm r⟩
 .exact Wn w
def Io(P:Program)(w:World)(K:Frag)(mg:Str->Option Value)(base:Heap)(Γ:Plc)(m:Str)(sp:(Mem->List D->Res D)->Sp)(k:Nat):List (Nat×(Mem->List D->Res D))->Prop
 | []=>True
 | (c,F)::r=>(∃C f fd ps,Γ c=some C/\Cls K C/\Meth K C m f/\cP P w K mg base CX0 k f fd ps (sp F)/\Binds K fd ps [])/\Io P w K mg base Γ m sp k r
theorem Io.get{P:Program}{w:World}{K:Frag}{mg:Str->Option Value}{base:Heap}{m:Str}{sp:(Mem->List D->Res D)->Sp}{k:Nat}:∀{M:List (Nat×(Mem->List D->Res D))}{c:Nat}{F:Mem->List D->Res D},Io P w K mg base Γ m sp k M->M.lookup c=some F ->
  ∃C f fd ps,Γ c=some C/\Cls K C/\Meth K C m f/\cP P w K mg base CX0 k f fd ps (sp F)/\Binds K fd ps []
 | [],_,_,_,e=>by cases e
 | (c',F')::r,c,F,h,e=>by
  by_cases q:c=c'
  .subst q
   simp only[List.lookup_cons,beq_self_eq_true] at e
   cases e
   exact h.1
  .have q':(c==c')=false:=W3.mpr q
   simp only[List.lookup_cons,q'] at e
   exact h.2.get e
def tMethS(Γ:Plc)(m:Str)(sp:(Mem->List D->Res D)->Sp)(M:List (Nat×(Mem->List D->Res D)))(E:XK)(ta:TE)(t:TA):TE:=λσ H Q=>ta σ H λx H1=>∃c a C dx fs F,x=.ref a/\H1 a=some (.ins C dx fs)/\Γ c=some C/\M.lookup c=some F/\fs.lookup m=none /\
 t σ H1 λvs H2=>sp F (x::vs) H2 Q E
theorem pe_methS{m:Str}{sp:(Mem->List D->Res D)->Sp}{M:List (Nat×(Mem->List D->Res D))}{ta:TE}{t:TA}{k:Nat}{pl:Sem Bool}(hM:Io X.prog X.w X.K X.mg X.base Γ m sp k M)(hr:dX k X.A)(hx:lu CX0 X E)(he:PE X o ta)(ha:PA X (e::es) t)
  (hst:starEach (e::es) X.env=(false,eval e X.env)::starEach es X.env:=by rfl) (hpl:(backTo pos (starEach es X.env)).any (·.1)=false:=by rfl)
  (ht:eval (.Call (.Attribute o m apos) (e::es) [] pos) X.env=(do
   let ov ←eval o X.env
   standAt apos.atName
   let (f,first) ←holding [ov] (getMethod ov m pl)
   callWith pos f first (backTo pos (starEach (e::es) X.env)) (backToKw pos (keywordEach [] X.env))):=by rfl) :
  PE X (.Call (.Attribute o m apos) (e::es) [] pos) (tMethS Γ m sp M E ta t):=by
 intro pins s σ H Q I h
 refine X7 (pl:=pl) (thn (he pins s σ H _ I h) λu s1 ⟨x,H1,I1,rx,c,a,C,dx,fs,F,ex,ea,hc,hF,l,q⟩=>?_) ht
 subst ex
 obtain rfl:u=Value.ref a:=rx
 obtain⟨C',f,fd,ps,hc',cl,hm,G,hb⟩:=hM.get hF
 rw[hc] at hc'
 cases hc'
 refine rY I1 ea cl hm l ?_
 refine Yi (first:=[.ref a]) (h₀:=X.base) I.ok.mod.kin hm.kp (thn (ha pos pins s1 σ H1 _ I1 q) λus s2 ⟨vs,H2,I2,r,q2⟩=>⟨I2.kIn,?_⟩) hst hpl
 exact Ah (dvs:=[]) (us:=.ref a::us) (vs:=.ref a::vs) G hr hb .nil hx I2 (.cons rfl r) (by rw[Xi];exact q2)
def objOf(μ:Mem):D->Option (Nat×List (Str×D))
 | .obj c fs=>some (c,fs)
 | .cls n=>if 1000<=n then match μ[n - 1000]? with
   | some (.obj c fs)=>some (c,fs)
   | _=>none
  else none
 | _=>none
theorem VN{K:Frag}{L:Plc}{H0 G H:Hp}{μ:Mem}{v:V}{d:D}{c:Nat}{fs:List (Str×D)}(M:jh K Γ L H0 G H μ)(gh:aP G H)(r:Rep K (xt Γ L) G v d)(e:objOf μ d=some (c,fs)):∃a C dx vs,v=.ref a/\H a=some (.ins C dx vs)/\xt Γ L c=some C/\dG K (xt Γ L) G vs fs:=by
 cases d with
 | obj c' fs' =>
  cases e
  cases r with
  | obj h g rf=>exact⟨_,_,_,_,rfl,gh _ _ h,g,rf⟩
 | cls n =>
  simp only[objOf] at e
  split at e
  .rename_i hn
   split at e
   .rename_i c' fs' hm
    cases e
    cases r with
    | @cls _ C h =>
     have h':L (n - 1000)=some C:=by
      unfold xt at h
      rw[WD (by omega)] at h
      exact h
     obtain⟨c0,e0,_,_,k⟩:=M.get h'
     rw[hm] at e0
     cases e0
     obtain⟨C',dx,vs,z,y,rf⟩:=k
     exact⟨C,C',dx,vs,rfl,z,y,rf⟩
   .cases e
  .cases e
 | _=>cases e
def methS(m:Str)(n:Nat)(M:List (Nat×(Mem->List D->Res D)))(fo:DSt->Mem->Res D)(fr:DSt->Mem->Res (List D)):DSt->Mem->Res D:=λδ μ=>(fo δ μ).bind λo μ=>match objOf μ o with
 | some (c,fs)=>match M.lookup c with
  | some F=>if (fs.lookup m).isNone=true/\c<1000 then (fr δ μ).bind λds μ=>if ds.length+1=n then F μ (o::ds) else .stuck else .stuck
  | none=>.stuck
 | none=>.stuck
theorem se_meth{m:Str}{n:Nat}{M:List (Nat×(Mem->List D->Res D))}(h:PE X e (tMethS Γ m (spS X.K Γ n) M E (teS X.K Γ E f) (taS X.K Γ E fr))):SE X Γ E e (methS m n M f fr):=PE.imp h λσ H Q ⟨L0,G0,H0,L,G,δ,μ,S,w⟩=>by
 refine⟨L0,G0,H0,L,G,δ,μ,S,(aY w).mono (λd μ1 w v L1 G1 H1 S1 l1 s1 r1=>?_) λ_ _ k=>k⟩
 split at w
 .rename_i c fs ho
  split at w
  .rename_i F hF
   split at w
   .rename_i hn
    obtain⟨a,C,dx,vs,rfl,ha,hc,rf⟩:=VN S1.mem S1.sr.st.gh r1 ho
    rw[xt_lo hn.2] at hc
    refine⟨c,a,C,dx,vs,F,rfl,ha,hc,hF,rf.none (YJ.mp hn.1),L0,G0,H0,L1,G1,δ,μ1,S1,(aY w).mono (λds μ2 w us L2 G2 H2 S2 l2 s2 r2=>?_) λ_ _ k=>k⟩
    split at w
    .rename_i hl
     exact⟨by rw[WP,r2.length];exact hl,L2,G2,μ2,_,S2.sr.st.gh,S2.mem.own,.cons (r1.up l2 s2) r2,w.mono (λd μ2 k v L' G' H' M r=>k v L' G' H' (S2.call M) ((l1.trans l2).trans M.le) ((s1.trans s2).trans M.st.gg) r) λx μ2 k a L' G' H' M r=>k a L' G' H' (S2.call M).stm r⟩
    .exact Wn w
   .exact Wn w
  .exact Wn w
 .exact Wn w
def Jv(c n:Nat)(F:Mem->List D->Res D)(fr:DSt->Mem->Res (List D)):DSt->Mem->Res D:=λδ μ=>(fr δ μ).bind λds μ=>if ds.length+1=n then (F (μ++[.obj c []]) (.loc μ.length::ds)).bind λd μ'=>match d with
  | .non=>.ok (.loc μ.length) μ'
  | _=>.stuck
 else .stuck
theorem make_core{c n:Nat}{C:Addr}{F:Mem->List D->Res D}{L0 L1 L:Plc}{G0 H0 G1 H1 G:Hp}{σ:L2.St}{δ:DSt}{μ1:Mem}{Q:VK}{vs:List V}{ds:List D}(hC:Γ c=some C)(c1:c<1000)(S1:SRS X.K Γ L0 G0 H0 L1 G1 H1 σ δ μ1)(l1:Le L L1)(s1:aP G G1)(r1:au X.K (xt Γ L1) G1 vs ds)(hl:ds.length+1=n)
  (w:wpR ((F (μ1++[.obj c []]) (.loc μ1.length::ds)).bind λd μ'=>match d with | .non=>.ok (.loc μ1.length) μ' | _=>.stuck) (λd μ'=>∀v L' G' H',SRS X.K Γ L0 G0 H0 L' G' H' σ δ μ'->Le L L'->aP G G'->Rep X.K (xt Γ L') G' v d->Q v H') (exS X.K Γ E L0 G0 H0)) (x dx:Addr) (hx:H1 x=none) (hdx:H1 dx=none) (ne:dx≠x) :
  spS X.K Γ n F (.ref x::vs) (upd (upd H1 dx (.own x)) x (.ins C dx [])) (λv H2=>v=.non/\Q (.ref x) H2) E:=by
 have hh:aP H1 (upd (upd H1 dx (.own x)) x (.ins C dx [])):=λb o e=>by rw[aR (aX e hx),aR (aX e hdx)];exact e
 have u:Step G1 H1 G1 (upd (upd H1 dx (.own x)) x (.ins C dx [])):=⟨aP.refl _,hh,S1.sr.st.gh.trans hh,λ_ _ g=>g⟩
 have le:=S1.mem.Aa x
 have S2:=S1.adopt (c:=.obj c []) u hx (aC S1.sr.st.gh hx) ⟨C,dx,[],aK,by rw[xt_lo c1];exact hC,.nil⟩
 have lx:ug L1 μ1.length x μ1.length=some x:=qp
 refine⟨by rw[WP,r1.length];exact hl,ug L1 μ1.length x,G1,_,_,S2.sr.st.gh,S2.mem.own,.cons (.cls (by rw[GP];exact lx)) (r1.gam le.xt),(aY w).mono (λd μ2 w v L' G' H' M r=>?_) λex μ2 k a L' G' H' M r=>k a L' G' H' (S2.call M).stm r⟩
 split at w
 .cases r
  exact⟨rfl,w _ L' G' H' (S2.call M) ((l1.trans le).trans M.le) (s1.trans M.st.gg) (.cls (by rw[GP];exact M.le _ _ lx))⟩
 .exact Wn w
theorem se_make{c n:Nat}{C:Addr}{F:Mem->List D->Res D}(hC:Γ c=some C)(c1:c<1000)(h:PE X e (Q7 C (spS X.K Γ n F) [] E (taS X.K Γ E fr))):SE X Γ E e (Jv c n F fr):=PE.imp h λσ H Q ⟨L0,G0,H0,L,G,δ,μ,S,w⟩=>by
 refine⟨L0,G0,H0,L,G,δ,μ,S,(aY w).mono (λds μ1 w vs L1 G1 H1 S1 l1 s1 r1=>?_) λ_ _ k=>k⟩
 split at w
 .rename_i hl
  intro x dx hx hdx ne
  rw[Xi]
  exact make_core hC c1 S1 l1 s1 r1 hl w x dx hx hdx ne
 .exact Wn w
def uW(μ:Mem):D->Option (Nat×List D)
 | .cls n=>if 1000<=n then match μ[n - 1000]? with
   | some (.lst ds)=>some (n - 1000,ds)
   | _=>none
  else none
 | _=>none
theorem Ab{K:Frag}{L:Plc}{H0 G H:Hp}{μ:Mem}{v:V}{d:D}{k:Nat}{ds:List D}(M:jh K Γ L H0 G H μ)(r:Rep K (xt Γ L) G v d)(e:uW μ d=some (k,ds)):∃a vs,v=.ref a/\L k=some a/\G a=none/\H a=some (.lst vs)/\au K (xt Γ L) G vs ds:=by
 cases d with
 | cls n =>
  simp only[uW] at e
  split at e
  .rename_i hn
   split at e
   .rename_i ds' hm
    cases e
    cases r with
    | @cls _ C h =>
     have h':L (n - 1000)=some C:=by
      unfold xt at h
      rw[WD (by omega)] at h
      exact h
     obtain⟨c0,e0,_,gz,q⟩:=M.get h'
     rw[hm] at e0
     cases e0
     obtain⟨vs,z,y⟩:=q
     exact⟨C,vs,rfl,h',gz,z,y⟩
   .cases e
  .cases e
 | _=>cases e
def Dz(fo fe:DSt->Mem->Res D):DSt->Mem->Res Fl:=λδ μ=>(fo δ μ).bind λo μ=>match uW μ o with
 | some _=>(fe δ μ).bind λd μ=>match uW μ o with
  | some (k,ds)=>if ds.length<sizeLine then .ok (.nx δ) (μ.set k (.lst (ds++[d]))) else .stuck
  | none=>.stuck
 | none=>.stuck
theorem ss_app{m:Str}{cpos:Pos}(ho:SE X Γ E o fa)(he:SE X Γ E e fb)(hh:∀{to te:TE},PE X o to->PE X e te->PS X (.Expr (.Call (.Attribute o m apos) [e] [] cpos) pos) (uf (tBM X.K "list" sI to (pJ te vI)))):
  SS X Γ E (.Expr (.Call (.Attribute o m apos) [e] [] cpos) pos) (Dz fa fb):=PS.imp (hh ho he) λN σ H ⟨L0,G0,H0,L,G,δ,μ,S,w⟩=>by
 refine⟨L0,G0,H0,L,G,δ,μ,S,(aY w).mono (λd μ1 w v L1 G1 H1 S1 l1 s1 r1=>?_) λ_ _ k=>k⟩
 split at w
 .rename_i p hp
  obtain⟨a,vs,rfl,hk,gz,ha,ra⟩:=Ab S1.mem r1 (show uW μ1 d=some (p.1,p.2) from hp)
  refine⟨.inl ⟨rfl,vs,SqL.of ha⟩,L0,G0,H0,L1,G1,δ,μ1,S1,(aY w).mono (λd2 μ2 w u L2 G2 H2 S2 l2 s2 r2=>?_) λ_ _ k=>k⟩
  split at w
  .rename_i k ds hp2
   split at w
   .rename_i hz
    obtain⟨a',vs',e',hk',gz',ha',ra'⟩:=Ab S2.mem (r1.up l2 s2) hp2
    cases e'
    refine⟨a,vs',u,rfl,rfl,ha',by rw[ra'.length];exact hz,w σ L2 G2 _ (S2.cell hk' ⟨vs'++[u],aK,ra'.append (.cons r2 .nil)⟩)⟩
   .exact Wn w
  .exact Wn w
 .exact Wn w
def putS(fe fo fi:DSt->Mem->Res D):DSt->Mem->Res Fl:=λδ μ=>(fe δ μ).bind λd μ=>(fo δ μ).bind λo μ=>(fi δ μ).bind λi μ=>match uW μ o,i with
 | some (k,ds),.int i=>match ixN ds.length i with
  | some j=>.ok (.nx δ) (μ.set k (.lst (ds.set j d)))
  | none=>.stuck
 | _,_=>.stuck
theorem ss_put{p2:Pos}{fc:DSt->Mem->Res D}(he:SE X Γ E e fc)(ho:SE X Γ E o fa)(hi:SE X Γ E b fb)(hh:∀{te to ti:TE},PE X e te->PE X o to->PE X b ti->PS X (.Assign [.Subscript o b p2] e pos) (Gk te (gSub to ti rSetL))):
  SS X Γ E (.Assign [.Subscript o b p2] e pos) (putS fc fa fb):=PS.imp (hh he ho hi) λN σ H ⟨L0,G0,H0,L,G,δ,μ,S,w⟩=>by
 refine⟨L0,G0,H0,L,G,δ,μ,S,(aY w).mono (λd μ1 w v L1 G1 H1 S1 l1 s1 r1=>?_) λ_ _ k=>k⟩
 refine⟨L0,G0,H0,L1,G1,δ,μ1,S1,(aY w).mono (λd2 μ2 w u L2 G2 H2 S2 l2 s2 r2=>?_) λ_ _ k=>k⟩
 refine⟨L0,G0,H0,L2,G2,δ,μ2,S2,(aY w).mono (λd3 μ3 w u3 L3 G3 H3 S3 l3 s3 r3=>?_) λ_ _ k=>k⟩
 split at w
 .rename_i k ds i hp
  split at w
  .rename_i j hj
   obtain⟨a,vs,rfl,hk,gz,ha,ra⟩:=Ab S3.mem (r2.up l3 s3) hp
   cases r3
   refine⟨a,vs,i,j,rfl,rfl,ha,by rw[ra.length];exact hj,w σ L3 G3 _ (S3.cell hk ⟨vs.set j v,aK,au.set ((r1.up l2 s2).up l3 s3) j ra⟩)⟩
  .exact Wn w
 .exact Wn w
def Qm(μ:Mem):D->Option (Nat×Nat×List (Str×D))
 | .cls n=>if 1000<=n then match μ[n - 1000]? with
   | some (.obj c fs)=>some (n - 1000,c,fs)
   | _=>none
  else none
 | _=>none
theorem VL{K:Frag}{L:Plc}{H0 G H:Hp}{μ:Mem}{v:V}{d:D}{k c:Nat}{fs:List (Str×D)}(M:jh K Γ L H0 G H μ)(r:Rep K (xt Γ L) G v d)(e:Qm μ d=some (k,c,fs)):∃a C dx vs,v=.ref a/\L k=some a/\H a=some (.ins C dx vs)/\xt Γ L c=some C/\dG K (xt Γ L) G vs fs:=by
 cases d with
 | cls n =>
  simp only[Qm] at e
  split at e
  .rename_i hn
   split at e
   .rename_i c' fs' hm
    cases e
    cases r with
    | @cls _ C h =>
     have h':L (n - 1000)=some C:=by
      unfold xt at h
      rw[WD (by omega)] at h
      exact h
     obtain⟨c0,e0,_,gz,q⟩:=M.get h'
     rw[hm] at e0
     cases e0
     obtain⟨C',dx,vs,z,y,rf⟩:=q
     exact⟨C,C',dx,vs,rfl,h',z,y,rf⟩
   .cases e
  .cases e
 | _=>cases e
def Jk(f:Str)(cs:List Nat)(fo fe:DSt->Mem->Res D):DSt->Mem->Res Fl:=λδ μ=>(fe δ μ).bind λd μ=>(fo δ μ).bind λo μ=>match Qm μ o with
 | some (k,c,fs)=>if cs.contains c=true/\c<1000/\fs.length<1000 then .ok (.nx δ) (μ.set k (.obj c (putD f d fs))) else .stuck
 | none=>.stuck
theorem Nt{f:Str}{cs:List Nat}{p2:Pos}(hf:Od X.K Γ f cs)(ho:SE X Γ E o fa)(he:SE X Γ E e fb)(hs:swapsWith e (some (.Attribute o f p2)) pos.line X.env=pure false:=by rfl):
  SS X Γ E (.Assign [.Attribute o f p2] e pos) (Jk f cs fa fb):=PS.imp (Mz ho he hs) λN σ H ⟨L0,G0,H0,L,G,δ,μ,S,w⟩=>by
 refine⟨L0,G0,H0,L,G,δ,μ,S,(aY w).mono (λd μ1 w v L1 G1 H1 S1 l1 s1 r1=>?_) λ_ _ k=>k⟩
 refine⟨L0,G0,H0,L1,G1,δ,μ1,S1,(aY w).mono (λd2 μ2 w u L2 G2 H2 S2 l2 s2 r2=>?_) λ_ _ k=>k⟩
 split at w
 .rename_i k c fs hp
  split at w
  .rename_i hc
   obtain⟨a,C,dx,vs,rfl,hk,ha,hC,rf⟩:=VL S2.mem r2 hp
   obtain⟨C',hC',cl,na⟩:=hf.get hc.1
   have hC0:=hC
   rw[xt_lo hc.2.1,hC'] at hC
   cases hC
   exact⟨a,_,dx,vs,rfl,ha,cl,na,by rw[rf.length];exact hc.2.2,w σ L2 G2 _ (S2.cell hk ⟨_,dx,_,aK,hC0,dG.put (r1.up l2 s2) rf⟩)⟩
  .exact Wn w
 .exact Wn w
end
def endS(cell:Bool):Fl->Mem->Res D
 | .nx _,μ=>.ok .non μ
 | .rt d,μ=>.ok d μ
 | .rl xs,μ=>if cell=true then .ok (.loc μ.length) (μ++[.lst xs]) else .ok (.lst xs) μ
 | _,_=>.stuck
def yK(cell:Bool)(n:Nat)(g:DSt->Mem->Res Fl)(μ:Mem)(ds:List D):Res D:=(g (fV n ds) μ).bind (endS cell)
section
variable{P:Program}{w:World}{K:Frag}{mg:Str->Option Value}{base:Heap}{Γ:Plc}
theorem end_ok{cell:Bool}{L0:Plc}{G0 H0:Hp}{N:Ends}{E:XK}{Q:VK}(hn:∀σ H,Q .non H->N.nx σ H)(hq:∀v H,Q v H->N.rt v H){fl:Fl}{μ:Mem}(q:wpR (endS cell fl μ) (λd μ'=>∀v L' G' H',StM K Γ L0 G0 H0 L' G' H' μ'->Rep K (xt Γ L') G' v d->Q v H') (exS K Γ E L0 G0 H0)):FlS K Γ L0 G0 H0 N fl μ:=by
 cases fl with
 | nx δ=>exact λσ L G H S=>hn σ H (q .non L G H S.stm .non)
 | rt d=>exact λv L G H S r=>hq v H (q v L G H S r)
 | bk δ=>exact Wn q
 | ct δ=>exact Wn q
 | rll _=>exact Wn q
 | rl xs =>
  intro a vs L G H S z nc h g r
  cases cell with
  | true =>
   have le:=S.mem.Aa a
   exact hq _ H (q _ _ G H (S.adopt z g nc ⟨vs,h,r.gam le.xt⟩) (.cls (by rw[GP];exact qp)))
  | false =>
   have sm:aP G (dH G H λb=>decide (b=a)):=cR λb z=>by obtain rfl:=WT z;exact g
   exact hq _ H (q _ L _ H (S.frz z g nc) (.lst (by unfold dH;rw[Wu (by simp)];exact h) (r.mono sm)))
theorem Fun.okS{x qual:Str}{st:Stmt}{f:Addr}{fd:FuncData}{N ps:List Str}{k:Nat}{g:DSt->Mem->Res Fl}(cell:Bool)(F:L2.Fun K x qual st f fd)(S:aF N ps (aq st))
  (h:∀(cdv:Value)(A:Around)(outer:List Env)(s:Shared)(H:Hp)(E:XK),dX k (A.deeper (envOfC qual (aq st) s.heap.objs.size f cdv))->SSs (BV CX0 P w K mg base N qual (aq st) f cdv A outer s H E).nox Γ E0 (eY st) g) :
  cP P w K mg base CX0 (k+1) f fd ps (spS K Γ ps.length λμ ds=>(yK cell N.length g μ ds).bw) :=
 L2.Fun.ok F S (λvs H Q E h=>h.1) λcdv A outer s H vs Q E hr ⟨hl,L,G,μ,ds,sg,M,r,q⟩=>by
  refine⟨_,h cdv A outer s H E hr,L,G,hid L H,L,G,fV N.length ds,μ,⟨.refl _,by rw[ov_hid];exact SR.Dl sg r,M⟩,(aY (wpR_noex (R':=exS K Γ E0 L G (hid L H)) q)).mono (λfl μ' q=>?_) λ_ _ k=>k⟩
  exact end_ok (E:=E0) (Q:=Q) (λσ H z=>z) (λv H z=>z) q
structure DefA(P:Program)(w:World)(K:Frag)(mg:Str->Option Value)(base:Heap)(x:Str)(k:Nat)(ps:List Str)(sp:Plc->Sp):Prop where
 ex:∃f fd,(∀L,cP P w K mg base CX0 k f fd ps (sp L))/\Binds K fd ps []/\mg x=some (.ref f)/\keepIn K (.ref f)=true
theorem DefA.at{x:Str}{k:Nat}{ps:List Str}{sp:Plc->Sp}(h:DefA P w K mg base x k ps sp)(L:Plc):Def P w K mg base x k ps (sp L):=by
 obtain⟨f,fd,G,r⟩:=h.ex
 exact⟨f,fd,G L,r⟩
structure IniA(P:Program)(w:World)(K:Frag)(mg:Str->Option Value)(base:Heap)(C:Addr)(k:Nat)(ps:List Str)(sp:Plc->Sp):Prop where
 ex:∃f fd,Mk K C f/\(∀L,cP P w K mg base CX0 k f fd ps (sp L))/\Binds K fd ps []
theorem IniA.at{C:Addr}{k:Nat}{ps:List Str}{sp:Plc->Sp}(h:IniA P w K mg base C k ps sp)(L:Plc):Ini P w K mg base C k ps (sp L):=by
 obtain⟨f,fd,M,G,r⟩:=h.ex
 exact⟨f,fd,M,G L,r⟩
theorem V9{n:Nat}{F:Mem->List D->Res D}{vs:List V}{H:Hp}{Q:VK}{E:XK}{ds:List D}(hl:vs.length=n)(r:au K (xt Γ λ_=>none) H vs ds){d:D}{μ:Mem}(e:F [] ds=.ok d μ)(q:∀v L' G' H',Rep K (xt Γ L') G' v d->Q v H'):spS K Γ n F vs H Q E:=by
 refine⟨hl,λ_=>none,H,[],ds,aP.refl _,⟨λk c e=>(by simp at e),λk k' a e=>(by cases e),λk a e=>(by cases e)⟩,r,?_⟩
 rw[e]
 exact λv L' G' H' M r=>q v L' G' H' r
end
section
variable{X:Cx}{Γ:Nat->Option Addr}{E:XK}{e a b c o:Expr}{pos apos:Pos}{fa fb fo:DSt->Out D}{fr:DSt->Out (List D)}{K:Frag}{G H:Hp}
def oMFa{α:Type}(m:Str)(n:Nat)(M:List (Nat×(List D->Out α)))(fo:DSt->Out D)(fr:DSt->Out (List D)):DSt->Out α:=λδ=>(fo δ).bind λo=>match o with
 | .obj c fs=>match M.lookup c with
  | some F=>if (fs.lookup m).isNone=true then (fr δ).bind λds=>if ds.length+1=n then F (o::ds) else .stuck else .stuck
  | none=>.stuck
 | _=>.stuck
theorem df_meth{m:Str}{n:Nat}{M:List (Nat×(List D->Out (List D)))}(h:PE X e (Nv Γ m (spF X.K Γ n) M E (teD X.K Γ E fo) (taD X.K Γ E fr))):DF X Γ E e (oMFa m n M fo fr):=PE.imp h λσ H Q ⟨G0,H0,G,δ,S,w⟩=>by
 refine⟨G0,H0,G,δ,S,(ao w).mono (λd w v G1 H1 s1 r1=>?_) λ_ k=>k⟩
 split at w
 .rename_i c fs
  split at w
  .rename_i F hF
   split at w
   .rename_i hn
    have r1':=r1
    cases r1 with
    | obj ha hc rf =>
     refine⟨c,_,_,_,_,F,rfl,s1.gh _ _ ha,hc,hF,rf.none (YJ.mp hn),G0,H0,G1,δ,S.step s1,(ao w).mono (λds w vs G2 H2 s2 r2=>?_) λ_ k=>k.step s1⟩
     split at w
     .rename_i hl
      exact⟨by rw[WP,r2.length];exact hl,G2,_,s2.gh,.cons (r1'.mono s2.gg) r2,w.mono (λd k a vs G' H' s f h g r=>k a vs G' H' ((s1.trans s2).trans s) (aC (s1.trans s2).hh f) h g r) λx k=>k.step (s1.trans s2)⟩
     .exact Wn w
   .exact Wn w
  .exact Wn w
 .exact Wn w
def sRev(i:Nat):DSt->Out Fl:=λδ=>match δ[i]? with
 | some (some (.ol ds))=>.ok (.nx (δ.set i (some (.ol ds.reverse))))
 | _=>.stuck
theorem ds_rev(i:Nat){x m:Str}{p apos cpos:Pos}(hv:PE X (.Name x p) (kJ i))(hh:∀{to:TE},PE X (.Name x p) to->PS X (.Expr (.Call (.Attribute (.Name x p) m apos) [] [] cpos) pos) (uf (tBM0 X.K "list" Qw to))):
  DS X Γ E (.Expr (.Call (.Attribute (.Name x p) m apos) [] [] cpos) pos) (sRev i) :=
 PS.imp (hh hv) λN σ H ⟨G0,H0,G,δ,S,w⟩=>by
  obtain⟨O,q⟩:=id S.sl
  unfold sRev at w
  split at w
  .rename_i ds ei
   obtain⟨v,hvi,aa,vs,ev,h1,h2,h3,h4,h5⟩:=id (q i _ ei)
   subst ev
   exact⟨_,hvi,.inl ⟨rfl,vs,SqL.of h1⟩,aa,vs,rfl,rfl,h1,w σ G _ (S.write q h2 h3 h4 hvi ⟨aa,_,rfl,aK,h2,h3,h4,h5.reverse⟩)⟩
  .exact Wn w
def Jq:List D->Option (List Key)
 | []=>some []
 | d::r=>match keyD d,Jq r with
  | some k,some ks=>some (k::ks)
  | _,_=>none
def Ca:D->Option (List Key)
 | .tup ds=>Jq ds
 | _=>none
theorem au.keys:∀{vs:List V}{ds:List D}{ks:List Key},au K Γ G vs ds->Jq ds=some ks->vs=ks.map kV
 | _,_,_,.nil,e=>by simp only[Jq] at e;cases e;rfl
 | _,_,_,.cons (d:=d) (ds:=ds) h r,e=>by
  simp only[Jq] at e
  cases h1:keyD d with
  | none=>rw[h1] at e;cases e
  | some k =>
   cases h2:Jq ds with
   | none=>rw[h1,h2] at e;cases e
   | some ks =>
    rw[h1,h2] at e
    cases e
    rw[h.key h1,r.keys h2]
    rfl
theorem Rep.Ca{v:V}{d:D}{ks:List Key}(r:Rep K Γ G v d)(e:DL.Ca d=some ks):∃b,v=.ref b/\G b=some (.tup (ks.map kV)):=by
 cases r with
 | tup h r=>rw[r.keys e] at h;exact⟨_,rfl,h⟩
 | _=>cases e
def yu(kvs:List (List Key×D))(k:List Key):Bool:=kvs.any λkv=>decide (kv.1=k)
def uP(kvs:List (List Key×D))(k:List Key):Option D:=(kvs.find? λkv=>decide (kv.1=k)).map (·.2)
def Jz(kvs:List (List Key×D))(k:List Key)(v:D):List (List Key×D) :=
 if (kvs.any λkv=>decide (kv.1=k))=true then kvs.map (λkv=>if kv.1=k then (kv.1,v) else kv) else kvs++[(k,v)]
theorem dM.any{k:List Key}:∀{kvs:List (List Key×V)}{kds:List (List Key×D)},dM K Γ G kvs kds->(kvs.any λkv=>decide (kv.1=k))=(kds.any λkv=>decide (kv.1=k))
 | _,_,.nil=>rfl
 | _,_,.cons h r=>by rw[XS,XS,r.any]
theorem dM.snoc{k:List Key}{v:V}{d:D}(h:Rep K Γ G v d):∀{kvs:List (List Key×V)}{kds:List (List Key×D)},dM K Γ G kvs kds->dM K Γ G (kvs++[(k,v)]) (kds++[(k,d)])
 | _,_,.nil=>.cons h .nil
 | _,_,.cons h' r=>.cons h' (r.snoc h)
theorem dM.repl{k:List Key}{v:V}{d:D}(h:Rep K Γ G v d):∀{kvs:List (List Key×V)}{kds:List (List Key×D)},dM K Γ G kvs kds->dM K Γ G (kvs.map λkv=>if kv.1=k then (kv.1,v) else kv) (kds.map λkv=>if kv.1=k then (kv.1,d) else kv)
 | _,_,.nil=>.nil
 | _,_,.cons (k:=k') h' r=>by
  rw[WN,WN]
  by_cases z:k'=k
  .simp only[z,if_true];exact .cons h (r.repl h)
  .simp only[z,if_false];exact .cons h' (r.repl h)
theorem dM.put{k:List Key}{v:V}{d:D}(h:Rep K Γ G v d){kvs:List (List Key×V)}{kds:List (List Key×D)}(r:dM K Γ G kvs kds):dM K Γ G (putK kvs k v) (Jz kds k d):=by
 unfold putK Jz
 rw[r.any]
 split
 .exact r.repl h
 .exact r.snoc h
theorem dM.length:∀{kvs:List (List Key×V)}{kds:List (List Key×D)},dM K Γ G kvs kds->kvs.length=kds.length
 | _,_,.nil=>rfl
 | _,_,.cons _ r=>by rw[WP,WP,r.length]
theorem dM.get{k:List Key}:∀{kvs:List (List Key×V)}{kds:List (List Key×D)},dM K Γ G kvs kds->(xu kvs k=none/\uP kds k=none)∨∃v d,xu kvs k=some v/\uP kds k=some d/\Rep K Γ G v d
 | _,_,.nil=>.inl ⟨rfl,rfl⟩
 | _,_,.cons (k:=k') (v:=v) (d:=d) (fds:=fds) h r=>by
  by_cases z:k'=k
  .exact .inr ⟨v,d,yV z,by simp[uP,List.find?_cons,z],h⟩
  .rw[yU (p:=(k',v)) z,show uP ((k',d)::fds) k=uP fds k by simp[uP,List.find?_cons,z]]
   exact r.get
theorem dM.has{k:List Key}{kvs:List (List Key×V)}{kds:List (List Key×D)}(r:dM K Γ G kvs kds):(xu kvs k).isSome=yu kds k:=by
 unfold yu
 rw[←GF,r.any]
theorem SR.setT{G0 H0 G' H':Hp}{σ:L2.St}{δ:DSt}(S:SR K Γ G0 H0 G H σ δ)(s:Step G H G' H'){i:Nat}{a:Addr}{vs:List (List Key×V)}{ds:List (List Key×D)}(f:H a=none)(h:H' a=some (.dT vs))(g:G' a=none)(r:dM K Γ G' vs ds):
  SR K Γ G0 H0 G' H' (σ.set i (some (.ref a))) (δ.set i (some (.odT ds))):=by
 obtain⟨O,q⟩:=id S.sl
 have S':=S.step s
 have k:∀b,H b≠none->(λb=>if b=a then some i else O b) b=O b:=λb hb=>by
  have:b≠a:=λz=>hb (z▸f)
  simp[this]
 refine⟨S'.st,by rw[Xc,Xc];exact S.len,Slots.put S.len (O:=λb=>if b=a then some i else O b) (λj x e ij=>?_) ⟨a,vs,rfl,h,g,aC S.st.hh f,by simp,r⟩⟩
 obtain⟨v,h1,h2⟩:=q j x e
 exact⟨v,h1,(h2.reO k).step s⟩
def dtOf(i:Nat)(δ:DSt):Option (List (List Key×D)):=match δ[i]? with
 | some (some (.odT kvs))=>some kvs
 | some (some (.sh (.dT kvs)))=>some kvs
 | _=>none
theorem SR.dt{G0 H0:Hp}{σ:L2.St}{δ:DSt}{i:Nat}{kds:List (List Key×D)}(S:SR K Γ G0 H0 G H σ δ)(e:dtOf i δ=some kds):∃a vs,σ[i]?=some (some (.ref a))/\H a=some (.dT vs)/\dM K Γ G vs kds:=by
 obtain⟨O,q⟩:=S.sl
 unfold dtOf at e
 split at e
 .rename_i kvs ei
  cases e
  obtain⟨v,hv,a,vs,ev,h1,h2,h3,h4,h5⟩:=q i _ ei
  subst ev
  exact⟨a,vs,hv,h1,h5⟩
 .rename_i kvs ei
  cases e
  obtain⟨v,hv,h⟩:=q i _ ei
  have h':Rep K Γ G v (.dT kds):=h
  cases h' with
  | dT h1 r=>exact⟨_,_,hv,S.st.gh _ _ h1,r⟩
 .cases e
def xq(i:Nat)(fk:DSt->Out D):DSt->Out Bool:=λδ=>(fk δ).bind λk=>match Ca k,dtOf i δ with
 | some key,some kvs=>.ok (!yu kvs key)
 | _,_=>.stuck
theorem Jd(i:Nat){x:Str}{p:Pos}(hu:X.A.units+64<cLine)(hv:PE X (.Name x p) (kJ i))(ha:DE X Γ E a fa)(hm:behindInMarks .NotIn (.Name x p)=false:=by rfl):DT X Γ E (.Compare a [.NotIn] [.Name x p] pos) (xq i fa) :=
 PT.imp (pt_cmp (V1 (by omega) ha hv) hm) λσ H Q ⟨G0,H0,G,δ,S,w⟩=>by
  refine⟨G0,H0,G,δ,S,(ao w).mono (λd w v G1 H1 s1 r1=>?_) λ_ k=>k⟩
  split at w
  .rename_i key kvs ek ei
   obtain⟨aa,vs,hu,h1,h5⟩:=(S.step s1).dt ei
   obtain⟨b',rfl,hb'⟩:=r1.Ca ek
   refine⟨_,hu,aa,xu vs key,rfl,zf.t h1 (s1.gh _ _ hb'),_,rfl,?_⟩
   rw[h5.has]
   exact w G1 H1 s1
  .exact Wn w
def tGet(i:Nat)(fk:DSt->Out D):DSt->Out D:=λδ=>match dtOf i δ with
 | some kvs=>(fk δ).bind λk=>match Ca k with
  | some key=>.opt (uP kvs key)
  | none=>.stuck
 | none=>.stuck
theorem de_tget(i:Nat){x:Str}{p:Pos}(hu:X.A.units+64<cLine)(hv:PE X (.Name x p) (kJ i))(hb:DE X Γ E b fb)(hs:NoSl b:=by exact λ_ _=>rfl):DE X Γ E (.Subscript (.Name x p) b pos) (tGet i fb) :=
 PE.imp (pe_dget (by omega) hv hb hs) λσ H Q ⟨G0,H0,G,δ,S,w⟩=>by
  unfold tGet at w
  split at w
  .rename_i kvs ei
   obtain⟨aa,vs,hvi,h1,h5⟩:=S.dt ei
   refine⟨_,hvi,G0,H0,G,δ,S,(ao w).mono (λd w v G1 H1 s1 r1=>?_) λ_ k=>k⟩
   split at w
   .rename_i key ek
    obtain⟨d,ed,k⟩:=bC w
    obtain⟨b',rfl,hb'⟩:=r1.Ca ek
    rcases h5.get (k:=key) with⟨z1,z2⟩| ⟨v',d',z1,z2,z3⟩
    .rw[z2] at ed;cases ed
    .rw[z2] at ed
     cases ed
     refine⟨aa,v',rfl,?_,k v' G1 H1 s1 (z3.mono s1.gg)⟩
     rw[←z1]
     exact zf.t (s1.hh _ _ h1) (s1.gh _ _ hb')
   .exact Wn w
  .exact Wn w
def QM(i:Nat)(fv fk:DSt->Out D):DSt->Out Fl:=λδ=>(fv δ).bind λv=>match δ[i]? with
 | some (some (.odT kvs))=>(fk δ).bind λk=>match Ca k with
  | some key=>if kvs.length<sizeLine then .ok (.nx (δ.set i (some (.odT (Jz kvs key v))))) else .stuck
  | none=>.stuck
 | _=>.stuck
theorem Ud(i:Nat){x:Str}{p p2:Pos}(hu:X.A.units+64<cLine)(hv:PE X (.Name x p) (kJ i))(he:DE X Γ E e fa)(hb:DE X Γ E b fb)(hs:swapsWith e (some (.Subscript (.Name x p) b p2)) pos.line X.env=pure false:=by rfl):
  DS X Γ E (.Assign [.Subscript (.Name x p) b p2] e pos) (QM i fa fb) :=
 PS.imp (ps_dput (by omega) hv hb he hs) λN σ H ⟨G0,H0,G,δ,S,w⟩=>by
  refine⟨G0,H0,G,δ,S,(ao w).mono (λd w u G1 H1 s1 r1=>?_) λx k=>exD.step k S.st⟩
  have S1:=S.step s1
  obtain⟨O,q⟩:=id S1.sl
  split at w
  .rename_i kvs ei
   obtain⟨v,hvi,aa,vs,ev,h1,h2,h3,h4,h5⟩:=id (q i _ ei)
   subst ev
   refine⟨_,hvi,G0,H0,G1,δ,S1,(ao w).mono (λd2 w u2 G2 H2 s2 r2=>?_) λx k=>exD.step k S1.st⟩
   split at w
   .rename_i key ek
    split at w
    .rename_i hz
     have S2:=S1.step s2
     have q1:∀i s,δ[i]?=some (some s)->∃v,σ[i]?=some (some v)/\bK X.K Γ H0 G2 H2 O i v s:=λj y e=>by
      obtain⟨v',z1,z2⟩:=q j y e
      exact⟨v',z1,z2.step s2⟩
     have ga:G2 aa=none:=s2.sep aa (by rw[h1];exact λz=>nomatch z) h2
     obtain⟨b',rfl,hb'⟩:=r2.Ca ek
     refine⟨aa,_,rfl,DPut.t (s2.hh _ _ h1) (s2.gh _ _ hb') (by rw[h5.length];exact hz),w σ G2 _ (S2.write q1 ga h3 h4 hvi ⟨aa,_,rfl,aK,ga,h3,h4,dM.put (r1.mono s2.gg) (h5.mono s2.gg)⟩)⟩
    .exact Wn w
   .exact Wn w
  .exact Wn w
end
structure zc(K:Frag)(n:Str)(C:Addr):Prop where
 a:nsIn K mainGlobals n=some (some (.ref C))
 pg:PySem.W.plainGet K C Str.empty=true
 hd:PySem.W.hasDictIn K C=true
 po:PySem.W.plainOver K C=true
 sa:findIn K (.ref C) "__setattr__"=some (some (.builtin "object.__setattr__"))
 ha:findIn K (.ref C) "__class__"=some (some (.builtin "object.__class__"))
 hm:PySem.W.mroIn K C (.type "object")=some true
 ty:PySem.W.typeIn K (.ref C)=some (.type "type")
 cd:∃cd,PySem.W.clsIn K C=some cd
theorem zc.of{K:Frag}{n:Str}{C:Addr}{cd:ClassData}(a:nsIn K mainGlobals n=some (some (.ref C)))(pg:PySem.W.plainGet K C Str.empty=true)(hd:PySem.W.hasDictIn K C=true)(po:PySem.W.plainOver K C=true)(sa:findIn K (.ref C) "__setattr__"=some (some (.builtin "object.__setattr__")))(ha:findIn K (.ref C) "__class__"=some (some (.builtin "object.__class__")))(hm:PySem.W.mroIn K C (.type "object")=some true)(ty:PySem.W.typeIn K (.ref C)=some (.type "type"))(h:PySem.W.clsIn K C=some cd):zc K n C:=⟨a,pg,hd,po,sa,ha,hm,ty,cd,h⟩
structure GetF(K:Frag):Prop where
 hn:PySem.W.specialIn K (.builtin "object.__class__") "__get__"=some (some (.builtin "getset_descriptor.__get__"))
 htk:PySem.W.takesIn K (.builtin "object.__class__")=some true
theorem zc.i{K:Frag}{n:Str}{C:Addr}(c:zc K n C)(g:GetF K):uo K C:=⟨⟨c.pg,c.hd,c.po,c.sa⟩,c.ha,g.hn,g.htk,c.hm,c.ty,c.cd⟩
structure FX(K:Frag)(n q:Str)(s:Stmt)(f:Addr):Prop where
 ex:∃fd,L2.Fun K n q s f fd
 fn:PySem.W.isFn K (.ref f)=true
theorem FX.of{K:Frag}{n q:Str}{s:Stmt}{f:Addr}{oc:Value}{od an:Option Addr}{osl:Array (Option Value)}{kV doc pm cdv ct:Value}(l:K.lookup f=some ⟨oc,od,.func (PySem.W.fnOf n q (oO s) (eY s) (aq s) .none kV doc pm an cdv ct),osl⟩)
  (c:PySem.W.codeIn K cdv q=true) (k:keepIn K (.ref f)=true) (fn:PySem.W.isFn K (.ref f)=true):FX K n q s f:=⟨⟨_,fun_mk l c k⟩,fn⟩
structure TX(K:Frag)(n:Str)(s:Stmt)(f:Addr):Prop where
 m:nsIn K mainGlobals n=some (some (.ref f))
 x:FX K n n s f
structure MkF(K:Frag)(C f:Addr):Prop where
 mks:PySem.W.makesIn K C=true
 ini:findIn K (.ref C) "__init__"=some (some (.ref f))
 kC:keepIn K (.ref C)=true
theorem MkF.k{K:Frag}{C f:Addr}(m:MkF K C f){n q:Str}{s:Stmt}(x:FX K n q s f):Mk K C f:=⟨m.mks,m.ini,x.fn,m.kC⟩
theorem FX.me{K:Frag}{n q:Str}{s:Stmt}{f C:Addr}{m:Str}(x:FX K n q s f)(a:findIn K (.ref C) m=some (some (.ref f))):Meth K C m f:=⟨a,x.fn,x.ex.choose_spec.kp⟩
section
variable{K:Frag}{x q:Str}{st:Stmt}{f:Addr}{fd:FuncData}{ps:List Str}
abbrev BA(x q:Str)(st:Stmt)(ps:List Str)(us:List Value):Prop:=∀(kV doc pm:Value)(an:Option Addr)(cdv ct:Value),bindArgs (PySem.W.fnOf x q (oO st) (eY st) (aq st) .none kV doc pm an cdv ct) ⟨us,[]⟩=pure (ps.zip us)
theorem bd1(F:L2.Fun K x q st f fd)(hl:ps.length=1:=by rfl)(h:∀a,BA x q st ps [a]:=by intro _ _ _ _ _ _ _;rfl):Binds K fd ps []:=F.binds λ_ _ _ _ _ _ us e=>match us,e.trans hl with | [_],_=>h _ _ _ _ _ _ _
theorem bd2(F:L2.Fun K x q st f fd)(hl:ps.length=2:=by rfl)(h:∀a b,BA x q st ps [a,b]:=by intro _ _ _ _ _ _ _ _;rfl):Binds K fd ps []:=F.binds λ_ _ _ _ _ _ us e=>match us,e.trans hl with | [_,_],_=>h _ _ _ _ _ _ _ _
theorem bd3(F:L2.Fun K x q st f fd)(hl:ps.length=3:=by rfl)(h:∀a b c,BA x q st ps [a,b,c]:=by intro _ _ _ _ _ _ _ _ _;rfl):Binds K fd ps []:=F.binds λ_ _ _ _ _ _ us e=>match us,e.trans hl with | [_,_,_],_=>h _ _ _ _ _ _ _ _ _
theorem bd4(F:L2.Fun K x q st f fd)(hl:ps.length=4:=by rfl)(h:∀a b c d,BA x q st ps [a,b,c,d]:=by intro _ _ _ _ _ _ _ _ _ _;rfl):Binds K fd ps []:=F.binds λ_ _ _ _ _ _ us e=>match us,e.trans hl with | [_,_,_,_],_=>h _ _ _ _ _ _ _ _ _ _
theorem bd5(F:L2.Fun K x q st f fd)(hl:ps.length=5:=by rfl)(h:∀a b c d e,BA x q st ps [a,b,c,d,e]:=by intro _ _ _ _ _ _ _ _ _ _ _;rfl):Binds K fd ps []:=F.binds λ_ _ _ _ _ _ us e=>match us,e.trans hl with | [_,_,_,_,_],_=>h _ _ _ _ _ _ _ _ _ _ _
end
theorem scm{N P:List Str}{sc:Scope}(kind:sc.kind=.function:=by rfl)(co:sc.isCoroutine=false:=by rfl)(gen:sc.isGenerator=false:=by rfl)(nd:N.Nodup:=by decide +kernel)(pre:N.take P.length=P:=by rfl)
  (par:∀x∈P,sc.names.lookup x=some .local∨sc.names.lookup x=some .cell:=by decide +kernel) (SJ:∀y∈sc.names,y.2≠.free:=by decide +kernel):aF N P sc:=⟨kind,co,gen,nd,pre,par,SJ⟩
structure Inf(α:Type) where
 x:Str
 k:Nat
 ps:List Str
 F:List D->Out α
structure InfS where
 x:Str
 k:Nat
 ps:List Str
 F:Mem->List D->Res D
section
variable(P:Program)(w:World)(K:Frag)(mg:Str->Option Value)(base:Heap)
abbrev DD(Γ:Plc)(I:Inf D):Prop:=Def P w K mg base I.x I.k I.ps (spD K Γ I.ps.length I.F)
abbrev DDf(Γ:Plc)(I:Inf (List D)):Prop:=Def P w K mg base I.x I.k I.ps (spF K Γ I.ps.length I.F)
abbrev DA'(Γ:Plc)(I:Inf D):Prop:=DefA P w K mg base I.x I.k I.ps (λL=>spD K (xt Γ L) I.ps.length I.F)
abbrev DAf(Γ:Plc)(I:Inf (List D)):Prop:=DefA P w K mg base I.x I.k I.ps (λL=>spF K (xt Γ L) I.ps.length I.F)
abbrev DDs(Γ:Plc)(I:InfS):Prop:=Def P w K mg base I.x I.k I.ps (spS K Γ I.ps.length I.F)
abbrev OD(Γ:Plc)(I:Inf D)(f:Addr)(fd:FuncData):Prop:=cP P w K mg base CX0 I.k f fd I.ps (spD K Γ I.ps.length I.F)
abbrev ODf(Γ:Plc)(I:Inf (List D))(f:Addr)(fd:FuncData):Prop:=cP P w K mg base CX0 I.k f fd I.ps (spF K Γ I.ps.length I.F)
abbrev ODg(Γ:Plc)(I:Inf (List (List D)))(f:Addr)(fd:FuncData):Prop:=cP P w K mg base CX0 I.k f fd I.ps (spFF K Γ I.ps.length I.F)
abbrev ODs(Γ:Plc)(I:InfS)(f:Addr)(fd:FuncData):Prop:=cP P w K mg base CX0 I.k f fd I.ps (spS K Γ I.ps.length I.F)
end
section
variable{P:Program}{w:World}{K:Frag}{mg:Str->Option Value}{base:Heap}{Γ:Plc}{x q:Str}{st:Stmt}{f:Addr}{fd:FuncData}{N:List Str}{k:Nat}
abbrev BodyOk(P:Program)(w:World)(K:Frag)(mg:Str->Option Value)(base:Heap)(Γ:Plc)(q:Str)(st:Stmt)(f:Addr)(N:List Str)(k:Nat)(g:DSt->Out Fl):Prop:=∀(cdv:Value)(A:Around)(outer:List Env)(s:Shared)(H:Hp)(E:XK),dX k (A.deeper (envOfC q (aq st) s.heap.objs.size f cdv))->DSs (BV CX0 P w K mg base N q (aq st) f cdv A outer s H E).nox Γ E0 (eY st) g
theorem okJ{I:Inf D}(k:Nat)(g:DSt->Out Fl)(F:L2.Fun K x q st f fd)(S:aF N I.ps (aq st))(h:BodyOk P w K mg base Γ q st f N k g)(hk:I.k=k+1:=by rfl)(hF:I.F=λds=>(dz N.length g ds).bw:=by rfl):OD P w K mg base Γ I f fd:=by
 have:=DL.Fun.okD F S h
 rw[←hk,←hF] at this
 exact this
theorem okJf{I:Inf (List D)}(k:Nat)(g:DSt->Out Fl)(F:L2.Fun K x q st f fd)(S:aF N I.ps (aq st))(h:BodyOk P w K mg base Γ q st f N k g)(hk:I.k=k+1:=by rfl)(hF:I.F=λds=>(runL N.length g ds).bw:=by rfl):ODf P w K mg base Γ I f fd:=by
 have:=DL.Fun.okF F S h
 rw[←hk,←hF] at this
 exact this
theorem okJg{I:Inf (List (List D))}(k:Nat)(g:DSt->Out Fl)(F:L2.Fun K x q st f fd)(S:aF N I.ps (aq st))(h:BodyOk P w K mg base Γ q st f N k g)(hk:I.k=k+1:=by rfl)(hF:I.F=λds=>(runLL N.length g ds).bw:=by rfl):ODg P w K mg base Γ I f fd:=by
 have:=DL.Fun.okFF F S h
 rw[←hk,←hF] at this
 exact this
theorem okJs{I:InfS}(cell:Bool)(k:Nat)(g:DSt->Mem->Res Fl)(F:L2.Fun K x q st f fd)(S:aF N I.ps (aq st))(h:∀(cdv:Value) (A:Around) (outer:List Env) (s:Shared) (H:Hp) (E:XK),dX k (A.deeper (envOfC q (aq st) s.heap.objs.size f cdv))->SSs (BV CX0 P w K mg base N q (aq st) f cdv A outer s H E).nox Γ E0 (eY st) g)
  (hk:I.k=k+1:=by rfl) (hF:I.F=λμ ds=>(yK cell N.length g μ ds).bw:=by rfl):ODs P w K mg base Γ I f fd:=by
 have:=DL.Fun.okS cell F S h
 rw[←hk,←hF] at this
 exact this
end
section
variable{X:Cx}{Γ:Plc}{E:XK}{e a b c o:Expr}{pos apos p:Pos}{es:List Expr}{x m:Str}{j k n i:Nat}{ps:List Str}{pos':Pos}
theorem dB(i:Nat){fa:DSt->Out D}(hN:X.N.Nodup)(he:DE X Γ E e fa)(hi:X.N[i]?=some x:=by rfl)(hx:Loc X.env.scope x:=by first | exact Or.inl rfl | exact Or.inr rfl)(hs:swapsWith e (some (.Name x pos')) pos.line X.env=pure false:=by rfl)
  (hf:X.fn x=true∨X.env.scope.names.lookup x=some .local:=by first | exact .inl rfl | exact .inr rfl | assumption):DS X Γ E (.Assign [.Name x pos'] e pos) (bD i fa):=ds_set i (λh=>MF hN hi hx h hs hf) he
theorem yF(i:Nat){fa:DSt->Out (List D)}(hN:X.N.Nodup)(he:DF X Γ E e fa)(hi:X.N[i]?=some x:=by rfl)(hx:Loc X.env.scope x:=by first | exact Or.inl rfl | exact Or.inr rfl)(hs:swapsWith e (some (.Name x pos')) pos.line X.env=pure false:=by rfl)
  (hf:X.fn x=true∨X.env.scope.names.lookup x=some .local:=by first | exact .inl rfl | exact .inr rfl | assumption):DS X Γ E (.Assign [.Name x pos'] e pos) (gY i fa):=ds_setl i (λh=>MF hN hi hx h hs hf) he
theorem yE(i:Nat){fa:DSt->Mem->Res D}(hN:X.N.Nodup)(he:SE X Γ E e fa)(hi:X.N[i]?=some x:=by rfl)(hx:Loc X.env.scope x:=by first | exact Or.inl rfl | exact Or.inr rfl)(hs:swapsWith e (some (.Name x pos')) pos.line X.env=pure false:=by rfl)
  (hf:X.fn x=true∨X.env.scope.names.lookup x=some .local:=by first | exact .inl rfl | exact .inr rfl | assumption):SS X Γ E (.Assign [.Name x pos'] e pos) (tU i fa):=ss_set i (λh=>MF hN hi hx h hs hf) he
theorem ngn{i:Nat}(hN:X.N.Nodup)(hi:X.N[i]?=some x:=by rfl)(hx:Loc X.env.scope x:=by first | exact Or.inl rfl | exact Or.inr rfl)(hf:X.fn x=true∨X.env.scope.names.lookup x=some .local:=by first | exact .inl rfl | exact .inr rfl | assumption):DG X Γ (.Name x pos) (gN i):=Ub (Ux hN hi hx hf)
theorem nv(i:Nat)(hN:X.N[i]?=some x:=by rfl)(hv:Vis X.env.scope x:=by first | exact Or.inl rfl | exact Or.inr (Or.inl rfl) | exact Or.inr (Or.inr rfl))(hd:(x==("__debug__":Str))=false:=by decide)
  (hcd:(x==("__classdict__":Str))=false:=by decide):DE X Γ E (.Name x pos) (gv i):=de_var i (pe_var hN hv hd hcd)
section
theorem cT{F:List D->Out D}{fr:DSt->Out (List D)}(Df:Def X.prog X.w X.K X.mg X.base x k ps (spD X.K Γ n F))(hr:dX j X.A)(ha:DA X Γ E (e::es) fr)(hk:k<=j:=by decide)(hg:Gl X x:=by rfl)(hdb:(x==("__debug__":Str))=false:=by decide)
  (he:starEach (e::es) X.env=(false,eval e X.env)::starEach es X.env:=by rfl) (hpl:(backTo pos (starEach es X.env)).any (·.1)=false:=by rfl):DE X Γ E (.Call (.Name x p) (e::es) [] pos) (oF n F fr):=by
 obtain⟨f,fd,G,b,m,kk⟩:=Df.ex
 exact dcall (Dh G (hr.mono hk) hg m kk b .nil uZ ha hdb he hpl)
theorem ncallF{F:List D->Out (List D)}{fr:DSt->Out (List D)}(Df:Def X.prog X.w X.K X.mg X.base x k ps (spF X.K Γ n F))(hr:dX j X.A)(ha:DA X Γ E (e::es) fr)(hk:k<=j:=by decide)(hg:Gl X x:=by rfl)(hdb:(x==("__debug__":Str))=false:=by decide)
  (he:starEach (e::es) X.env=(false,eval e X.env)::starEach es X.env:=by rfl) (hpl:(backTo pos (starEach es X.env)).any (·.1)=false:=by rfl):DF X Γ E (.Call (.Name x p) (e::es) [] pos) (oFl n F fr):=by
 obtain⟨f,fd,G,b,m,kk⟩:=Df.ex
 exact dcallF (Dh G (hr.mono hk) hg m kk b .nil uZ ha hdb he hpl)
theorem sE{F:Mem->List D->Res D}{fr:DSt->Mem->Res (List D)}(Df:Def X.prog X.w X.K X.mg X.base x k ps (spS X.K Γ n F))(hr:dX j X.A)(ha:SA X Γ E (e::es) fr)(hk:k<=j:=by decide)(hg:Gl X x:=by rfl)(hdb:(x==("__debug__":Str))=false:=by decide)
  (he:starEach (e::es) X.env=(false,eval e X.env)::starEach es X.env:=by rfl) (hpl:(backTo pos (starEach es X.env)).any (·.1)=false:=by rfl):SE X Γ E (.Call (.Name x p) (e::es) [] pos) (gj n F fr):=by
 obtain⟨f,fd,G,b,m,kk⟩:=Df.ex
 exact se_call (Dh G (hr.mono hk) hg m kk b .nil uZ ha hdb he hpl)
theorem Qj{c n:Nat}{C:Addr}{F:List D->Out (List (Str×D))}{fr:DSt->Out (List D)}(N:Ini X.prog X.w X.K X.mg X.base C k ps (spI X.K Γ c n F))(hr:dX j X.A)(hm:X.mg x=some (.ref C))(ha:DA X Γ E (e::es) fr)(hC:Γ c=some C:=by rfl)(hk:k+1<=j:=by decide)(hg:Gl X x:=by rfl)
  (hdb:(x==("__debug__":Str))=false:=by decide) (he:starEach (e::es) X.env=(false,eval e X.env)::starEach es X.env:=by rfl) (hpl:(backTo pos (starEach es X.env)).any (·.1)=false:=by rfl):DE X Γ E (.Call (.Name x p) (e::es) [] pos) (oMk c n F fr):=by
 obtain⟨f,fd,M,G,b⟩:=N.ex
 exact dmake hC (Uw M G (hr.mono hk) hg hm b .nil uZ ha hdb he hpl)
theorem Ly{c n:Nat}{C:Addr}{F:List D->Out (List (Str×D))}(N:Ini X.prog X.w X.K X.mg X.base C k ps (spI X.K Γ c n F))(hr:dX j X.A)(hm:X.mg x=some (.ref C))(hC:Γ c=some C:=by rfl)(hk:k+1<=j:=by decide)(hg:Gl X x:=by rfl)
  (hdb:(x==("__debug__":Str))=false:=by decide):DE X Γ E (.Call (.Name x p) [] [] pos) (oMk c n F aD):=by
 obtain⟨f,fd,M,G,b⟩:=N.ex
 exact dmake0 hC (pe_make0 M G (hr.mono hk) hg hm b .nil uZ hdb)
theorem nmakeS{c n:Nat}{C:Addr}{F:Mem->List D->Res D}{fr:DSt->Mem->Res (List D)}(N:Ini X.prog X.w X.K X.mg X.base C k ps (spS X.K Γ n F))(hr:dX j X.A)(hm:X.mg x=some (.ref C))(ha:SA X Γ E (e::es) fr)(hC:Γ c=some C:=by rfl)(c1:c<1000:=by decide)(hk:k+1<=j:=by decide)(hg:Gl X x:=by rfl)
  (hdb:(x==("__debug__":Str))=false:=by decide) (he:starEach (e::es) X.env=(false,eval e X.env)::starEach es X.env:=by rfl) (hpl:(backTo pos (starEach es X.env)).any (·.1)=false:=by rfl):SE X Γ E (.Call (.Name x p) (e::es) [] pos) (Jv c n F fr):=by
 obtain⟨f,fd,M,G,b⟩:=N.ex
 exact se_make hC c1 (Uw M G (hr.mono hk) hg hm b .nil uZ ha hdb he hpl)
end
theorem ngc{i:Nat}(hN:X.N.Nodup:=by(show List.Nodup (_::_));decide +kernel)(hi:X.N[i]?=some x:=by rfl)(hx:Loc X.env.scope x:=by first | exact Or.inl rfl | exact Or.inr rfl)(hf:X.fn x=true∨X.env.scope.names.lookup x=some .local:=by first | exact .inl rfl | exact .inr rfl | assumption):DG X Γ (.Name x pos) (gN i):=Ub (Ux hN hi hx hf)
theorem wZ{M:List (Nat×(List D->Out D))}{fo:DSt->Out D}{pl:Sem Bool}(hM:mU X.prog X.w X.K X.mg X.base Γ m (spD X.K Γ n) k M)(hr:dX j X.A)(he:DE X Γ E o fo)(hk:k<=j:=by decide)
  (ht:eval (.Call (.Attribute o m apos) [] [] pos) X.env=(do
   let ov ←eval o X.env
   standAt apos.atName
   let (f,first) ←holding [ov] (getMethod ov m pl)
   callWith pos f first (backTo pos (starEach [] X.env)) (backToKw pos (keywordEach [] X.env))):=by rfl):DE X Γ E (.Call (.Attribute o m apos) [] [] pos) (oM m n M fo aD):=de_meth0 (V2 (hM.ok (hr.mono hk)) uZ he ht)
theorem napp(i:Nat){fa:DSt->Out D}{cpos:Pos}(he:DE X Γ E e fa)(hv:PE X (.Name x p) (kJ i):=by exact pv _)(hh:∀{to te:TE},PE X (.Name x p) to->PE X e te->PS X (.Expr (.Call (.Attribute (.Name x p) "append" apos) [e] [] cpos) pos) (uf (tBM X.K "list" sI to (pJ te vI))):=by exact λa b=>mj (pe_bm Yk YT YS v5 a (bM b eO))):
  DS X Γ E (.Expr (.Call (.Attribute (.Name x p) "append" apos) [e] [] cpos) pos) (um i fa):=ds_app i hv he hh
theorem nappS{fa fb:DSt->Mem->Res D}{cpos:Pos}(ho:SE X Γ E o fa)(he:SE X Γ E e fb)(hh:∀{to te:TE},PE X o to->PE X e te->PS X (.Expr (.Call (.Attribute o "append" apos) [e] [] cpos) pos) (uf (tBM X.K "list" sI to (pJ te vI))):=by exact λa b=>mj (pe_bm Yk YT YS v5 a (bM b eO))):
  SS X Γ E (.Expr (.Call (.Attribute o "append" apos) [e] [] cpos) pos) (Dz fa fb):=ss_app ho he hh
variable{iter tg:Expr}{body:List Stmt}
theorem qy{fi:DSt->Out (List D)}{t:D->DSt->Option DSt}{g:DSt->Out Fl}(hi:DI X Γ E tg iter fi)(hg:DG X Γ tg t)(hb:DSs X Γ E body g)(hp:PassesOwn (model X.prog X.w) X.A X.env X.xe:=by exact Zn)(hc:X.calm=true:=by rfl)(hs:∀x,foldedSetIterable iter X.env x=pure x:=by intro _;rfl):DS X Γ E (.For tg iter body [] pos) (cM fi t g):=ds_for (λa b c=>ps_for hp hc a b c hs) hi hg hb
theorem nforS{fi:DSt->Mem->Res (List D)}{t:D->DSt->Option DSt}{g:DSt->Mem->Res Fl}(hi:SI X Γ E tg iter fi)(hg:∀L,DG X (xt Γ L) tg t)(hb:SSs X Γ E body g)(hp:PassesOwn (model X.prog X.w) X.A X.env X.xe:=by exact Zn)(hc:X.calm=true:=by rfl)(hs:∀x,foldedSetIterable iter X.env x=pure x:=by intro _;rfl):SS X Γ E (.For tg iter body [] pos) (yL fi t g):=ss_for (λa b c=>ps_for hp hc a b c hs) hi hg hb
theorem nwhile(fuel:DSt->Nat){ft:DSt->Out Bool}{g:DSt->Out Fl}(hc:DT X Γ E c ft)(hb:DSs X Γ E body g)(hp:PassesOwn (model X.prog X.w) X.A X.env X.xe:=by exact Zn):DS X Γ E (.While c body [] pos) (FZ fuel ft g):=ds_while fuel (λa b=>Qu hp a b) hc hb
theorem Ut(fuel:DSt->Nat){ft:DSt->Mem->Res Bool}{g:DSt->Mem->Res Fl}(hc:ST X Γ E c ft)(hb:SSs X Γ E body g)(hp:PassesOwn (model X.prog X.w) X.A X.env X.xe:=by exact Zn):SS X Γ E (.While c body [] pos) (λδ μ=>whS ft g (fuel δ) δ μ):=ss_while fuel (λa b=>Qu hp a b) hc hb
end
end DL
namespace L2
open PySem PySem.Spec PyProof.Rows
section
open Classical in
end
end L2
namespace DL
open PySem PySem.Spec PyProof.Rows MX L2
section
variable{X:Cx}{Γ:Plc}{E:XK}{a e:Expr}{pos:Pos}{f:DSt->Mem->Res D}{ft:DSt->Mem->Res Bool}
def Cu(f:DSt->Mem->Res D):DSt->Mem->Res Bool:=λδ μ=>(f δ μ).bind λd μ=>Res.of (Out.opt (truD d)) μ
def notS(t:DSt->Mem->Res Bool):DSt->Mem->Res Bool:=λδ μ=>(t δ μ).bind λk μ=>.ok (!k) μ
theorem Nu(ha:SE X Γ E e f)(he:∀whole,isTrue e X.env whole=(do let v ←whole;standAt e.pos;holding [v] (truthy v)):=by intro _;rfl):ST X Γ E e (Cu f):=PT.imp (Qv ha he) λσ H Q ⟨L0,G0,H0,L,G,δ,μ,S,w⟩=>by
 refine⟨L0,G0,H0,L,G,δ,μ,S,(aY w).mono (λd μ1 w v L1 G1 H1 S1 l1 s1 r1=>?_) λ_ _ k=>k⟩
 obtain⟨k,e,q⟩:=bC (qg w)
 exact⟨k,(r1.mono S1.sr.st.gh).tru e,q L1 G1 H1 S1 l1 s1⟩
theorem Tq(ha:ST X Γ E a ft):ST X Γ E (.UnaryOp .Not a pos) (notS ft):=PT.imp (pt_not ha) λσ H Q ⟨L0,G0,H0,L,G,δ,μ,S,w⟩ =>
 ⟨L0,G0,H0,L,G,δ,μ,S,(aY w).mono (λk μ1 w L1 G1 H1 S1 l1 s1=>w L1 G1 H1 S1 l1 s1) λ_ _ k=>k⟩
def Ql(f:DSt->Mem->Res D):DSt->Mem->Res Bool:=λδ μ=>(f δ μ).bind λd μ=>.ok (!iy d) μ
theorem st_notN{j:Nat}{p:Pos}(ha:SE X Γ E a f):ST X Γ E (.Compare a [.IsNot] [.Constant .none j p] pos) (Ql f):=PT.imp (sH Mv ha My (lC _)) λσ H Q ⟨L0,G0,H0,L,G,δ,μ,S,w⟩=>by
 refine⟨L0,G0,H0,L,G,δ,μ,S,(aY w).mono (λd μ1 w v L1 G1 H1 S1 l1 s1 r1=>?_) λ_ _ k=>k⟩
 exact⟨rfl,_,rfl,by rw[r1.isNon];exact w L1 G1 H1 S1 l1 s1⟩
end
theorem JF:∀(n k:Nat)(us:List Value),us.length=n->(∀(i:Nat)(v:Value),us[i]?=some v->∃t,v=.int ((k+i:Nat):Int) t)->Vals ((List.range' k n).map λi=>V.int (i:Nat)) us
 | 0,_,[],_,_=>.nil
 | n+1,k,u::us,hl,h=>by
  rw[List.range'_succ,WN]
  refine .cons ?_ (JF n (k+1) us (by simpa using hl) λi v e=>?_)
  .obtain⟨t,e⟩:=h 0 u rfl
   exact⟨t,e⟩
  .obtain⟨t,e⟩:=h (i+1) v (by simpa using e)
   exact⟨t,by rw[e,show k+(i+1)=k+1+i by omega]⟩
section
variable{X:Cx}{Γ:Nat->Option Addr}{E:XK}{e a b o:Expr}{pos p p2 pos2:Pos}{fa:DSt->Out D}{te:TE}
def tLR(te:TE):TE:=λσ H Q=>te σ H λx H1=>∃j:Int,x=.int j/\-(2 ^ 62)<=j/\j<2 ^ 62/\j.toNat<=sizeLine/\∀q,H1 q=none->Q (.ref q) (upd H1 q (.lst ((List.range' 0 j.toNat).map λi=>V.int (i:Nat))))
theorem Mw(hc:X.calm=true)(hgl:Gl X "list")(hml:X.mg "list"=none)(hgr:Gl X "range")(hmr:X.mg "range"=none)(he:PE X e te)(hs:starEach [e] X.env=[(false,eval e X.env)])
  (hs2:starEach [(.Call (.Name "range" p2) [e] [] pos2)] X.env=[(false,eval (.Call (.Name "range" p2) [e] [] pos2) X.env)]):PE X (.Call (.Name "list" p) [.Call (.Name "range" p2) [e] [] pos2] [] pos) (tLR te):=by
 have bl:bootBuiltins "list"=some (.type "list"):=by decide +kernel
 intro pins s σ H Q I h
 refine XF (rZ I hgl hml bl ?_ (by decide) (by decide))
 refine Xl ?_ (by rw[hs2];rfl) rfl
 rw[hs2]
 show wpAny _ _ (spliced [(false,eval (.Call (.Name "range" p2) [e] [] pos2) X.env)]) _ _ s
 refine Yo (XF (rZ I hgr hmr boot_range ?_ (by decide) (by decide)))
 refine Xl ?_ (by rw[hs];rfl) rfl
 rw[hs]
 show wpAny _ _ (spliced [(false,eval e X.env)]) _ _ s
 refine Yo (thn (he pins s σ H _ I h) λu s1 ⟨x,H1,I1,r1,j,ex,q1,q2,q3,q⟩=>Zb ?_)
 subst ex
 obtain⟨t,rfl⟩:=r1
 refine call_range_1 (Zb ?_)
 have hh:X.A.handled=none:=I.ok.hd hc
 have rs:Builtin.Range.rangeSize 0 j 1=(j.toNat:Int):=by rw[rangeSize_one];split <;> omega
 refine call_list_range hh (IsRange.new ..) (small_one (by decide) (by decide) q1 q2) rs (by rw[Zo] at q3;exact q3) λh' tk acc c' keep hS hacc=>?_
 have sz:∀ob:Obj,(s1.heap.push ob).objs.size=s1.heap.objs.size+1:=λob=>by simp[Heap.push]
 obtain⟨h1,h2⟩:=hacc
 have vs:Vals ((List.range' 0 j.toNat).map λi=>V.int (i:Nat)) acc.toList:=JF _ 0 _ (by simpa using h1) λi v e=>by
  obtain⟨t,e⟩:=h2 i v (by rw[←Array.getElem?_toList];exact e)
  exact⟨t,by rw[e];simp⟩
 have T:=I1.tX (ch:=[]) (h':=h') (t':=tk) (a:=s1.heap.objs.size+1) (o:=.lst ((List.range' 0 j.toNat).map λi=>V.int (i:Nat))) (λb hb=>nomatch hb)
  (λb u _ hu=>keep b u (Wt _ hu)) (by omega) ⟨by simpa using q3,acc.toList,c',vs,by simpa[sz] using hS⟩
 exact⟨.ref _,_,T,by simp[sz];rfl,q _ (I1.hok.fresh (by omega))⟩
theorem Qy{K:Frag}{G:Hp}:∀ns:List Nat,au K Γ G (ns.map λi=>V.int (i:Nat)) (ns.map λi=>D.int (i:Nat))
 | []=>.nil
 | n::ns=>.cons (.int _) (Qy ns)
def lrO(fa:DSt->Out D):DSt->Out (List D):=λδ=>(fa δ).bind λd=>match d with
 | .int j=>if -(2 ^ 62)<=j/\j<2 ^ 62/\j.toNat<=sizeLine then .ok ((List.range' 0 j.toNat).map λi=>D.int (i:Nat)) else .stuck
 | _=>.stuck
theorem KC(hc:X.calm=true)(hgl:Gl X "list")(hml:X.mg "list"=none)(hgr:Gl X "range")(hmr:X.mg "range"=none)(he:DE X Γ E e fa)(hs:starEach [e] X.env=[(false,eval e X.env)]:=by rfl)
  (hs2:starEach [(.Call (.Name "range" p2) [e] [] pos2)] X.env=[(false,eval (.Call (.Name "range" p2) [e] [] pos2) X.env)]:=by rfl):DF X Γ E (.Call (.Name "list" p) [.Call (.Name "range" p2) [e] [] pos2] [] pos) (lrO fa) :=
 PE.imp (Mw hc hgl hml hgr hmr he hs hs2) λσ H Q ⟨G0,H0,G,δ,S,w⟩=>by
  refine⟨G0,H0,G,δ,S,(ao w).mono (λx w v G1 H1 s1 r1=>?_) λ_ k=>k⟩
  split at w
  .split at w
   .rename_i h
    cases r1
    exact⟨_,rfl,h.1,h.2.1,h.2.2,λl hl=>w l _ G1 _ (s1.trans (.aside s1.gh hl)) (aC s1.hh hl) aK (aC s1.gh hl) (Qy _)⟩
   .exact Wn w
  .exact Wn w
end
section
variable{K:Frag}{Γ:Nat->Option Addr}{H0 G H:Hp}{O O':Addr->Option Nat}
theorem Inner.reJ{i:Nat}(k:∀b,O b=some i->O' b=some i):∀{vs:List V}{dss:List (List D)},Inner K Γ H0 G H O i vs dss->Inner K Γ H0 G H O' i vs dss
 | _,_,.nil=>.nil
 | _,_,.cons h g h0 o r n t=>.cons h g h0 (k _ o) r n (t.reJ k)
theorem bG.reJ{i:Nat}(k:∀b,O b=some i->O' b=some i):∀{vs:List V}{es:List Mx}{bs:List Addr},bG K Γ H0 G H O i vs es bs->bG K Γ H0 G H O' i vs es bs
 | _,_,_,.nil=>.nil
 | _,_,_,.own h g h0 o r n t=>.own h g h0 (k _ o) r n (t.reJ k)
 | _,_,_,.fix r t=>.fix r (t.reJ k)
theorem bK.reJ{i:Nat}{v:V}{x:Sl}(h:bK K Γ H0 G H O i v x)(k:∀b,O b=some i->O' b=some i):bK K Γ H0 G H O' i v x:=by
 cases x with
 | sh d=>exact h
 | ol ds=>obtain⟨a,vs,e,h1,h2,h3,h4,h5⟩:=h;exact⟨a,vs,e,h1,h2,h3,k _ h4,h5⟩
 | oll ds=>obtain⟨a,vs,e,h1,h2,h3,h4,h5,h6⟩:=h;exact⟨a,vs,e,h1,h2,h3,k _ h4,h5,h6.reJ k⟩
 | od ds=>obtain⟨a,vs,e,h1,h2,h3,h4,h5⟩:=h;exact⟨a,vs,e,h1,h2,h3,k _ h4,h5⟩
 | odT ds=>obtain⟨a,vs,e,h1,h2,h3,h4,h5⟩:=h;exact⟨a,vs,e,h1,h2,h3,k _ h4,h5⟩
 | omx ds=>obtain⟨a,vs,bs,e,h1,h2,h3,h4,h5,h6⟩:=h;exact⟨a,vs,bs,e,h1,h2,h3,k _ h4,h5,h6.reJ k⟩
theorem Inner.owned{i:Nat}{b:Addr}:∀{vs:List V}{dss:List (List D)},Inner K Γ H0 G H O i vs dss->V.ref b∈vs->O b=some i
 | _,_,.cons h g h0 o r n t,z=>by
  rcases W9.mp z with z | z
  .cases z;exact o
  .exact t.owned z
end
section
variable{X:Cx}{Γ:Nat->Option Addr}{E:XK}{pos:Pos}
def sAppm(i k:Nat):DSt->Out Fl:=λδ=>match δ[i]?,δ[k]? with
 | some (some (.oll dss)),some (some (.ol ds))=>if i≠k/\dss.length<sizeLine then .ok (.nx ((δ.set k none).set i (some (.oll (dss++[ds]))))) else .stuck
 | some (some (.ol [])),some (some (.ol ds))=>if i≠k then .ok (.nx ((δ.set k none).set i (some (.oll [ds])))) else .stuck
 | _,_=>.stuck
theorem ds_appm(i k:Nat){x y m:Str}{p p2 apos cpos:Pos}(hv:PE X (.Name x p) (kJ i))(he:PE X (.Name y p2) (kJ k))(hh:∀{to te:TE},PE X (.Name x p) to->PE X (.Name y p2) te->PS X (.Expr (.Call (.Attribute (.Name x p) m apos) [.Name y p2] [] cpos) pos) (uf (tBM X.K "list" sI to (pJ te vI)))):
  DS X Γ E (.Expr (.Call (.Attribute (.Name x p) m apos) [.Name y p2] [] cpos) pos) (sAppm i k) :=
 PS.imp (hh hv he) λN σ H ⟨G0,H0,G,δ,S,w⟩=>by
  obtain⟨O,q⟩:=id S.sl
  have core:∀(dss:List (List D))(ds:List D)(aa:Addr)(vs:List V),i≠k->σ[i]?=some (some (.ref aa))->H aa=some (.lst vs)->G aa=none->H0 aa=none->O aa=some i->V.ref aa∉vs->Inner X.K Γ H0 G H O i vs dss->dss.length<sizeLine->δ[k]?=some (some (.ol ds)) ->
    FlOk X.K Γ G0 H0 N (.nx ((δ.set k none).set i (some (.oll (dss++[ds])))))->uf (tBM X.K "list" sI (kJ i) (pJ (kJ k) vI)) N σ H:=by
   intro dss ds aa vs ik hvi h1 h2 h3 h4 h5 h6 hz ek w
   obtain⟨v,hvk,bb,ws,ev,b1,b2,b3,b4,b5⟩:=id (q k _ ek)
   subst ev
   have ne:aa≠bb:=λz=>by rw[z,b4] at h4;exact ik (WW h4).symm
   have nm:V.ref bb∉vs:=λz=>by
    have:=h6.owned z
    rw[b4] at this
    exact ik (WW this).symm
   have keep:∀j,j≠k->∀b,O b=some j->(λb=>if b=bb then some i else O b) b=some j:=λj jk b hb=>by
    have:b≠bb:=λz=>by rw[z,b4] at hb;exact jk (WW hb).symm
    simp[this,hb]
   have q1:∀j s,(δ.set k none)[j]?=some (some s)->∃v,σ[j]?=some (some v)/\bK X.K Γ H0 G H (λb=>if b=bb then some i else O b) j v s:=λj s e=>by
    by_cases jk:j=k
    .subst jk
     rw[Y4 ] at e
     cases hd:δ[j]? with
     | none=>rw[hd] at e;cases e
     | some u=>rw[hd] at e;cases e
    .rw[Xe (XH jk)] at e
     obtain⟨v',z1,z2⟩:=q j s e
     exact⟨v',z1,z2.reJ (keep j jk)⟩
   have S1:SR X.K Γ G0 H0 G H σ (δ.set k none):=⟨S.st,by rw[Xc];exact S.len,_,q1⟩
   refine⟨_,hvi,.inl ⟨rfl,vs,SqL.of h1⟩,_,hvk,?_⟩
   refine⟨aa,vs,.ref bb,rfl,rfl,h1,by rw[h6.length];exact hz,w σ G _ (S1.write q1 h2 h3 (by simp[ne,h4]) hvi ?_)⟩
   refine⟨aa,vs++[.ref bb],rfl,aK,h2,h3,by simp[ne,h4],λz=>?_,?_⟩
   .rcases W4.mp z with z | z
    .exact h5 z
    .have z:V.ref aa=V.ref bb:=by simpa using z
     cases z
     exact ne rfl
   .exact Inner.snoc ((aR (XH ne)).trans b1) b2 b3 (by simp) b5 nm (Inner.updI h5 (h6.reJ (keep i ik)))
  unfold sAppm at w
  split at w
  .rename_i dss ds ei ek
   split at w
   .rename_i h
    obtain⟨v,hvi,aa,vs,ev,h1,h2,h3,h4,h5,h6⟩:=id (q i _ ei)
    subst ev
    exact core dss ds aa vs h.1 hvi h1 h2 h3 h4 h5 h6 h.2 ek w
   .exact Wn w
  .rename_i ds ei ek
   split at w
   .rename_i h
    obtain⟨v,hvi,aa,vs,ev,h1,h2,h3,h4,h5⟩:=id (q i _ ei)
    subst ev
    cases h5
    exact core [] ds aa [] h hvi h1 h2 h3 h4 (by simp) .nil (by decide) ek w
   .exact Wn w
  .exact Wn w
end
section
variable{X:Cx}{Γ:Plc}{E:XK}{a b e:Expr}{pos:Pos}{rest:List Expr}{ft gt:DSt->Mem->Res Bool}
abbrev SW(X:Cx)(Γ:Plc)(E:XK)(e:Expr)(f:DSt->Mem->Res Bool):Prop:=PW X e (ttS X.K Γ E f)
def orTS(f g:DSt->Mem->Res Bool):DSt->Mem->Res Bool:=λδ μ=>(f δ μ).bind λk μ=>if k=true then .ok true μ else g δ μ
def Iu(f g:DSt->Mem->Res Bool):DSt->Mem->Res Bool:=λδ μ=>(f δ μ).bind λk μ=>if k=true then g δ μ else .ok false μ
theorem sw_or1(ha:ST X Γ E a ft):SW X Γ E (.BoolOp .Or [a] pos) ft:=pw_or1 ha
theorem sw_and1(ha:ST X Γ E a ft):SW X Γ E (.BoolOp .And [a] pos) ft:=UG ha
theorem sw_or(ha:ST X Γ E a ft)(hb:SW X Γ E (.BoolOp .Or (b::rest) pos) gt):SW X Γ E (.BoolOp .Or (a::b::rest) pos) (orTS ft gt):=PW.imp (pw_or ha hb) λσ H Q ⟨L0,G0,H0,L,G,δ,μ,S,w⟩=>by
 refine⟨L0,G0,H0,L,G,δ,μ,S,(aY w).mono (λk μ1 w L1 G1 H1 S1 l1 s1=>?_) λ_ _ k=>k⟩
 cases k with
 | true=>rw[Wu rfl] at w ⊢;exact w L1 G1 H1 S1 l1 s1
 | false=>rw[WD Wv] at w ⊢;exact⟨L0,G0,H0,L1,G1,δ,μ1,S1,w.mono (λd μ2 k L2 G2 H2 S2 l2 s2=>k L2 G2 H2 S2 (l1.trans l2) (s1.trans s2)) λ_ _ k=>k⟩
theorem sw_and(ha:ST X Γ E a ft)(hb:SW X Γ E (.BoolOp .And (b::rest) pos) gt):SW X Γ E (.BoolOp .And (a::b::rest) pos) (Iu ft gt):=PW.imp (pw_and ha hb) λσ H Q ⟨L0,G0,H0,L,G,δ,μ,S,w⟩=>by
 refine⟨L0,G0,H0,L,G,δ,μ,S,(aY w).mono (λk μ1 w L1 G1 H1 S1 l1 s1=>?_) λ_ _ k=>k⟩
 cases k with
 | false=>rw[WD Wv] at w ⊢;exact w L1 G1 H1 S1 l1 s1
 | true=>rw[Wu rfl] at w ⊢;exact⟨L0,G0,H0,L1,G1,δ,μ1,S1,w.mono (λd μ2 k L2 G2 H2 S2 l2 s2=>k L2 G2 H2 S2 (l1.trans l2) (s1.trans s2)) λ_ _ k=>k⟩
theorem st_w(h:SW X Γ E e ft):ST X Γ E e ft:=L2.PW.pt h
end
section
variable{X:Cx}{Γ:Nat->Option Addr}{E:XK}{a b:Expr}{pos:Pos}{fa fb:DSt->Out D}
def Tg(i:Nat):DSt->Out Fl:=λδ=>.ok (.nx (δ.set i (some (.odT []))))
theorem ds_setT0(i:Nat){x:Str}{pos' p:Pos}(hh:∀{te:TE},PE X (.Dict [] [] p) te->PS X (.Assign [.Name x pos'] (.Dict [] [] p) pos) (Gk te (yp i))):DS X Γ E (.Assign [.Name x pos'] (.Dict [] [] p) pos) (Tg i) :=
 PS.imp (hh pe_dnewT) λN σ H ⟨G0,H0,G,δ,S,w⟩=>λq hq=>w _ G _ (S.setT (.aside S.st.gh hq) hq aK (aC S.st.gh hq) .nil)
def wI(i:Nat)(fk fx:DSt->Out D):DSt->Out D:=λδ=>match dtOf i δ with
 | some kvs=>(fk δ).bind λk=>(fx δ).bind λx=>match Ca k with
  | some key=>.ok ((uP kvs key).getD x)
  | none=>.stuck
 | none=>.stuck
theorem Ec(i:Nat){x:Str}{p apos cpos:Pos}(hu:X.A.units+64<cLine)(hv:PE X (.Name x p) (kJ i))(ha:DE X Γ E a fa)(hb:DE X Γ E b fb)(m:M2 X (.Name x p) "get" apos a b cpos):DE X Γ E (.Call (.Attribute (.Name x p) "get" apos) [a,b] [] cpos) (wI i fa fb) :=
 PE.imp (pe_dget2 (by omega) hv ha hb m) λσ H Q ⟨G0,H0,G,δ,S,w⟩=>by
  unfold wI at w
  split at w
  .rename_i kds ek
   obtain⟨aa,vs,hvi,h1,r⟩:=S.dt ek
   refine⟨_,hvi,aa,rfl,.inr ⟨vs,.inl h1⟩,G0,H0,G,δ,S,(ao w).mono (λd w u G1 H1 s1 r1=>?_) λ_ k=>k⟩
   refine⟨G0,H0,G1,δ,S.step s1,(ao w).mono (λd2 w u2 G2 H2 s2 r2=>?_) λ_ k=>k.step s1⟩
   split at w
   .rename_i key ekey
    obtain⟨b',rfl,hb'⟩:=r1.Ca ekey
    have hb2:H2 b'=_:=s2.hh _ _ (s1.gh _ _ hb')
    rcases ((r.mono s1.gg).mono s2.gg).get (k:=key) with⟨z1,z2⟩| ⟨v,d',z1,z2,z3⟩
    .refine⟨_,zf.t (s2.hh _ _ (s1.hh _ _ h1)) hb2,?_⟩
     rw[z1]
     rw[z2] at w
     exact w _ G2 H2 (s1.trans s2) r2
    .refine⟨_,zf.t (s2.hh _ _ (s1.hh _ _ h1)) hb2,?_⟩
     rw[z1]
     rw[z2] at w
     exact w _ G2 H2 (s1.trans s2) z3
   .exact Wn w
  .exact Wn w
end
section
variable{prog:Program}{w:World}{κ:Type}[DecidableEq κ]{knd:HeapKind prog w κ}{A:Around}{E:Value->Shared->Prop}{s:Shared}
theorem Su(d:Addr)(hd:(d==sysModules)=false):MeetsIn prog w (Builtin.«dict.__len__» ⟨[.ref d],[]⟩) (λ_ R s=>∃xs,s.heap.DictOfH knd d xs/\R (.ok (.ret (.int xs.length s.toks))) { s with toks:=s.toks+1 }) :=
 .of_wp λA R s ⟨xs,⟨o,es,ep,ho,hc,hdat,hp,hk,hn⟩,h⟩=>by
  have sz:es.size=xs.length:=by simpa using Xd List.length hp
  show wpAny _ _ (dictSize d >>= _) _ _ s
  unfold dictSize;refine Wr (Wr (wpAny_dictEntries ho hdat (WM ?_)))
  show wpAny _ _ (Builtin.Dict.pendingCount d >>= _) _ _ s;refine Wr (wpAny_pendingCount_other hd (wpAny_ret_mkInt ?_))
  rw[Nat.add_zero,sz];exact h
theorem Ve{d:Addr}{xs:List (κ×Addr×Value)}{Q:Value->Shared->Prop}(hd:(d==sysModules)=false)(hm:s.heap.DictOfH knd d xs)(hfit:(xs.length:Int)<2 ^ 63)(h:Q (.int xs.length (s.toks+1)) { s with toks:=s.toks+1+1 }):
  wpAny (model prog w) A (call (.builtin "len") [.ref d]) Q E s:=by
 refine Calls.call_function_entry kind_len plain_len entry_len (args_len1 _) ?_
 unfold Builtin.«len»;refine Wr (m:=oneArg "len" _) (WM ?_)
 refine Wr (m:=callSpecial? (.ref d) (Str.ofString "__len__")) (X5 hm.typeIs F.slot_dict_len (call_meetsIn F.slot_dict_len hm.typeIs F.entry_dict_len (F.args_dict_len_1 _) (Su d hd) ⟨xs,hm,?_⟩))
 show wpAny _ _ _ _ _ { s with toks:=s.toks+1 };refine Wr (Yc (WM (Wr (wpAny_letGo ?_))))
 show wpAny _ _ (if ((xs.length:Nat):Int)<0 then _ else _) _ _ _;rw[WD (by omega)]
 show wpAny _ _ (if ((xs.length:Nat):Int)≥2 ^ 63 then _ else _) _ _ _;rw[WD (by omega)]
 exact Wr (wpAny_mkInt (WM ⟨_,rfl,h⟩))
end
section
variable{X:Cx}{Γ:Nat->Option Addr}{E:XK}{pos:Pos}
theorem KT.len{H:Hp}:∀{kvs:List (List Key×V)}{xs:List (List Key×Addr×Value)},KT H kvs xs->kvs.length=xs.length:=by
 intro kvs xs h
 induction h with
 | nil=>rfl
 | cons _ _ ih=>simp[ih]
theorem Vg:jX X (.builtin "len") (λxs H Q=>∃p kvs,xs=[.ref p]/\Rd H p (.dT kvs)/\Q (.int kvs.length) H):=by
 intro pins s σ H xs us Q I r h
 obtain⟨p,kvs,rfl,hq,q⟩:=h
 obtain⟨u,rfl,rx⟩:=vals1 r
 cases rx
 obtain⟨z,hd,vs,rel,dd⟩:=Ef I.hok hq
 have hl:=KT.len rel
 refine Ve hd dd (by rw[Zo] at z;omega) ⟨.int kvs.length,H,I.tok _,⟨s.toks+1,by rw[hl]⟩,q⟩
def tLen(i:Nat):DSt->Out D:=λδ=>match dtOf i δ with
 | some kvs=>.ok (.int kvs.length)
 | none=>.stuck
theorem dM.len{K:Frag}{G:Hp}:∀{vs:List (List Key×V)}{kds:List (List Key×D)},dM K Γ G vs kds->vs.length=kds.length
 | _,_,.nil=>rfl
 | _,_,.cons _ r=>by rw[WP,WP,r.len]
theorem Ua(i:Nat){x:Str}{p p2:Pos}(hg:Gl X "len")(hm:X.mg "len"=none)(hv:PE X (.Name x p2) (kJ i))(hs:starEach [.Name x p2] X.env=[(false,eval (.Name x p2) X.env)]:=by rfl):DE X Γ E (.Call (.Name "len" p) [.Name x p2] [] pos) (tLen i) :=
 PE.imp (qz Vg hg hm PySem.boot_len (bM hv eO (by rw[hs];rfl)) (by decide) (by decide) (by rw[hs];rfl) (by rfl)) λσ H Q ⟨G0,H0,G,δ,S,w⟩=>by
  unfold tLen at w
  split at w
  .rename_i kvs ei
   obtain⟨aa,vs,hvi,h1,r⟩:=S.dt ei
   exact⟨_,hvi,aa,vs,rfl,.inl h1,by rw[r.len];exact w _ G H (.refl S.st.gh) (.int _)⟩
  .exact Wn w
end
end DL
namespace MX
open PySem PySem.Spec PyProof.Rows L2
section
variable{prog:Program}{w:World}{A:Around}{E:Value->Shared->Prop}{s:Shared}
theorem Sy{it a:Addr}{n:Nat}{us:Array Value}{u:Value}{Q:Value->Shared->Prop}(r:s.heap.IsTupleIter it a n)(q:s.heap.IsTuple a us)(e:us[n]?=some u)
  (k:∀h1,h1.IsTupleIter it a (n+1)->Heap.SameBut it s.heap h1->Q u { s with heap:=h1 }):wpAny (model prog w) A (Builtin.SmallTypes.nextOf (.ref it)) Q E s:=by
 have ⟨o1,g1,c1,d1⟩:=r
 have ⟨o2,g2,_,m2,d2⟩:=q
 rw[Builtin.SmallTypes.nextOf]
 apply Wr
 apply X5 (name:=Str.ofString "__next__") r.typeIs Yh
 apply Ze Yh r.typeIs F.entry_tuple_iterator_next _ (F.args_tuple_iterator_next_1 _)
 change wpAny _ _ (field _ 0 >>= _) _ _ _
 refine Wr (X8 (i:=0) g1 d1 (x:=.ref a) rfl ?_)
 have nn:(Value.ref a==Value.none)=false:=rfl
 change wpAny _ _ (ite _ _ _) _ _ _
 rw[nn,WD Wv]
 change wpAny _ _ (field _ 1 >>= _) _ _ _
 refine Wr (X8 (i:=1) g1 d1 (x:=.int n 0) rfl ?_)
 change wpAny _ _ (seqItems? _ >>= _) _ _ _
 refine Wr (wpAny_seqItems g2 d2 ?_)
 simp only[e,Int.toNat_natCast]
 refine Wr (wpAny_setField g1 d1 (by simp) (WM ⟨u,rfl,WM (k _ ⟨_,Heap.get?_update_self _ g1 (Obj.isFreed_of_fields (Obj.data_mapFields d1 _)),?_,?_⟩ (Heap.SameBut.update ..))⟩))
 .rw[Obj.cls_mapFields,c1]
 .rw[Obj.data_mapFields d1,rawInt];simp
theorem VJ{it a:Addr}{n:Nat}{us:Array Value}{Q:Value->Shared->Prop}(hd:A.handled=none)(r:s.heap.IsTupleIter it a n)(q:s.heap.IsTuple a us)(e:us[n]?=none)
  (k:∀h1 x,Heap.ExtBut it s.heap h1->(∃o,h1.get? x=some o/\o.cls=.type "StopIteration")->E (.ref x) { s with heap:=h1 }):wpAny (model prog w) A (Builtin.SmallTypes.nextOf (.ref it)) Q E s:=by
 have ⟨o1,g1,c1,d1⟩:=r
 have ⟨o2,g2,_,m2,d2⟩:=q
 rw[Builtin.SmallTypes.nextOf]
 apply Wr
 apply X5 (name:=Str.ofString "__next__") r.typeIs Yh
 apply Ze Yh r.typeIs F.entry_tuple_iterator_next _ (F.args_tuple_iterator_next_1 _)
 change wpAny _ _ (field _ 0 >>= _) _ _ _
 refine Wr (X8 (i:=0) g1 d1 (x:=.ref a) rfl ?_)
 have nn:(Value.ref a==Value.none)=false:=rfl
 change wpAny _ _ (ite _ _ _) _ _ _
 rw[nn,WD Wv]
 change wpAny _ _ (field _ 1 >>= _) _ _ _
 refine Wr (X8 (i:=1) g1 d1 (x:=.int n 0) rfl ?_)
 change wpAny _ _ (seqItems? _ >>= _) _ _ _
 refine Wr (wpAny_seqItems g2 d2 ?_)
 simp only[e,Int.toNat_natCast]
 refine Wr (wpAny_rule (Wr (wpAny_setField g1 d1 (by simp) ?_)))
 change wpAny _ _ (newExc _ _ >>= _) _ _ _
 apply Wr
 simp only[newExc,newTuple]
 refine Wr (wpAny_newObj_type (Wr (m:=firstArgMember _ _) (wpAny_of_eq (a:=Value.none) (by first | rfl | (simp only[firstArgMember];rfl)) ?_)) (by size_fits))
 refine wpAny_newObj_type ?_ (by size_fits)
 rw[raiseNew]
 apply Wr
 apply wpAny_handled
 first | rw[hd] | rw[show A.in1.handled=none from hd]
 refine Wr (WM (wpAny_throw (k _ _ (((Heap.SameBut.update ..).extBut.push _).push _) ⟨_,WK _ rfl,rfl⟩)))
theorem RZ{e it a:Addr}{n:Nat}{us:Array Value}{u o0:Value}{Q:Option Value->Shared->Prop}(r0:IsEnum s.heap e it n o0)(r:s.heap.IsTupleIter it a n)(q:s.heap.IsTuple a us)(hu:us[n]?=some u)(ne:e≠it)
  (k:∀h1,IsEnumOut h1 e it ((n:Int)+1) u s.heap.objs.size->h1.IsTupleIter it a (n+1)->h1.get? s.heap.objs.size=some { cls:=.type "tuple",data:=.seq #[.int n s.toks,u] } ->
   (∀b o,b≠e->b≠it->s.heap.get? b=some o->h1.get? b=some o)->Q (some (.ref s.heap.objs.size)) { s with heap:=h1,toks:=s.toks+1 }):wpAny (model prog w) A (pyNext (.ref e)) Q E s:=by
 have ty:s.TypeIs (.ref e) "enumerate":=⟨_,r0,rfl⟩
 rw[pyNext]
 apply Wr
 apply Zq
 apply X5 (name:=Str.ofString "__next__") ty YC
 apply Ze YC ty F.entry_enumerate_next _ (F.args_enumerate_next_1 _)
 rcases s with⟨g0,gn,dr,tk,os⟩
 change wpAny _ _ (field _ 2 >>= _) _ _ _
 refine Wr (X8 r0 rfl (x:=.ref it) rfl (Wr (Sy r q hu λg1 r1 b1=>?_)))
 have b1:Heap.SameBut it g0 g1:=b1
 have x1:IsEnum g1 e it n o0:=by have z:=b1.2 e ne;exact z.trans r0
 change wpAny _ _ (field _ 3 >>= _) _ _ ⟨g1,gn,dr,tk,os⟩
 refine Wr (X8 x1 rfl (x:=rawInt n) rfl ?_)
 change wpAny _ _ (field _ 4 >>= _) _ _ ⟨g1,gn,dr,tk,os⟩
 refine Wr (X8 x1 rfl (x:=.none) rfl ?_)
 change wpAny _ _ (mkInt n >>= _) _ _ ⟨g1,gn,dr,tk,os⟩
 apply Wr
 apply wpAny_mkInt
 change wpAny _ _ (setField _ 3 (rawInt ((n:Int)+1)) >>= _) _ _ ⟨g1,gn,dr,tk+1,os⟩
 refine Wr (Yn x1 (by simp) λg2 x2 b2=>?_)
 have b2:Heap.SameBut e g1 g2:=b2
 have x2:IsEnum g2 e it ((n:Int)+1) o0:=x2
 change wpAny _ _ (setField _ 4 _ >>= _) _ _ ⟨g2,gn,dr,tk+1,os⟩
 refine Wr (Yn x2 (by simp) λg3 x3 b3=>?_)
 have b3:Heap.SameBut e g2 g3:=b3
 have x3:IsEnum g3 e it ((n:Int)+1) o0:=x3
 change wpAny _ _ (newTuple [.int n tk,u] >>= _) _ _ ⟨g3,gn,dr,tk+1,os⟩
 refine Wr (wpAny_newTuple ?_)
 have x4:IsEnum (g3.push { cls:=.type "tuple",data:=.seq #[.int n tk,u] }) e it ((n:Int)+1) o0:=Wt _ x3
 have z3:g3.objs.size=g0.objs.size:=b3.1.trans (b2.1.trans b1.1)
 have t4:(g3.push { cls:=.type "tuple",data:=.seq #[.int n tk,u] }).get? g0.objs.size=some { cls:=.type "tuple",data:=.seq #[.int n tk,u] }:=z3▸WK _ rfl
 have k4:∀b o,b≠e->b≠it->g0.get? b=some o->(g3.push { cls:=.type "tuple",data:=.seq #[.int n tk,u] }).get? b=some o:=λb o n1 n2 y =>
  Wt _ (b3.extBut b o n1 (b2.extBut b o n1 (b1.extBut b o n2 y)))
 have i4:(g3.push { cls:=.type "tuple",data:=.seq #[.int n tk,u] }).IsTupleIter it a (n+1):=by
  have ⟨o,y,z⟩:=(r1.extBut b2.extBut (XH ne)).extBut b3.extBut (XH ne)
  exact⟨o,Wt _ y,z⟩
 generalize g3.push { cls:=.type "tuple",data:=.seq #[.int n tk,u] }=g4 at x4 t4 k4 i4
 rw[z3]
 have le:g0.objs.size≠e:=YD (Wy r0)
 change wpAny _ _ (Builtin.SmallTypes.ownedTupleIsFree _ >>= _) _ _ ⟨g4,gn,dr,tk+1,os⟩
 apply Wr
 rw[Builtin.SmallTypes.ownedTupleIsFree]
 refine Wr (X8 x4 rfl (x:=.none) rfl (WM ?_))
 rw[Wu rfl]
 refine Wr (wpAny_rule (Wr (X8 x4 rfl (x:=o0) rfl (Wr (Yn x4 (by simp) λg5 x5 b5=>?_)))))
 have b5:Heap.SameBut e g4 g5:=b5
 have x5:IsEnum g5 e it ((n:Int)+1) u:=x5
 change wpAny _ _ (Builtin.SmallTypes.ownedTupleHandOut _ (.ref g0.objs.size) >>= _) _ _ ⟨g5,gn,dr,tk+1,os⟩
 apply Wr
 rw[Builtin.SmallTypes.ownedTupleHandOut]
 refine Wr (Yn x5 (by simp) λg6 x6 b6=>?_)
 have b6:Heap.SameBut e g5 g6:=b6
 have x6:IsEnumOut g6 e it ((n:Int)+1) u g0.objs.size:=x6
 refine Yn x6 (by simp) λg7 x7 b7=>?_
 have b7:Heap.SameBut e g6 g7:=b7
 have x7:IsEnumOut g7 e it ((n:Int)+1) u g0.objs.size:=x7
 have up:∀b o,b≠e->g4.get? b=some o->g7.get? b=some o:=λb o n1 y=>b7.extBut b o n1 (b6.extBut b o n1 (b5.extBut b o n1 y))
 refine Wr (wpAny_letGo (WM ⟨_,rfl,WM (k g7 x7 ?_ (up _ _ le t4) λb o n1 n2 y=>up b o n1 (k4 b o n1 n2 y))⟩))
 have ⟨o,y,z⟩:=i4
 exact⟨o,up _ _ (XH ne) y,z⟩
theorem Vm{e it a:Addr}{n:Nat}{us:Array Value}{o0:Value}{Q:Option Value->Shared->Prop}(hd:A.handled=none)(r0:IsEnum s.heap e it n o0)(r:s.heap.IsTupleIter it a n)(q:s.heap.IsTuple a us)(hu:us[n]?=none)
  (k:∀h1,Heap.ExtBut it s.heap h1->Q none { s with heap:=h1 }):wpAny (model prog w) A (pyNext (.ref e)) Q E s:=by
 have ty:s.TypeIs (.ref e) "enumerate":=⟨_,r0,rfl⟩
 rw[pyNext]
 apply Wr
 apply Zq
 apply X5 (name:=Str.ofString "__next__") ty YC
 apply Ze YC ty F.entry_enumerate_next _ (F.args_enumerate_next_1 _)
 change wpAny _ _ (field _ 2 >>= _) _ _ _
 refine Wr (X8 r0 rfl (x:=.ref it) rfl (Wr (VJ hd r q hu λg1 x b1 ⟨o,y,z⟩=>?_)))
 exact Wr (wpAny_isInstance (T:="StopIteration") (b:=true) ⟨o,y,z⟩ isSubtype_stop (WM (k _ b1)))
abbrev eT(it:Addr):Obj:={ cls:=.type "enumerate",data:=.fields #[.none,.bool false,.ref it,rawInt 0,.none,.none] }
abbrev iT(a:Addr):Obj:={ cls:=.type "tuple_iterator",data:=.fields #[.ref a,.int 0 0] }
theorem Qg(a:Addr)(us:Array Value)(n:Nat)(dc:Option Addr)(sl:Array (Option Value)):Meets (Builtin.«enumerate.__new__» ⟨[.type "enumerate",.ref a],[]⟩) (λ_ R s=>s.heap.get? a=some { cls:=.type "tuple",dict:=dc,data:=.seq us n,slots:=sl } /\
   R (.ok (.ret (.ref (s.heap.push (iT a)).objs.size))) { s with heap:=(s.heap.push (iT a)).push (eT s.heap.objs.size) }):=.of_wp λprog w A R s y=>by
 rcases s with⟨g0,gn,dr,tk,os⟩
 rcases y with⟨y,z⟩
 have hsub:=sub_enumerate
 have q:Heap.IsTuple (Shared.heap ⟨g0,gn,dr,tk,os⟩) a us:=⟨_,y,rfl,n,rfl⟩
 wp_walk using Zd y
 refine wpAny_stack_any λst=>WM ?_
 split
 .rename_i c _ _ _ _ _
  cases (c==Value.type "enumerate") <;> (wp_walk using Zd y,wpAny_pyIter_tuple q;exact⟨_,rfl,z⟩)
 .wp_walk using Zd y,wpAny_pyIter_tuple q
  exact⟨_,rfl,z⟩
theorem RP{a:Addr}{us:Array Value}{Q:Value->Shared->Prop}(q:s.heap.IsTuple a us)
  (k:∀h1,IsEnum h1 (s.heap.objs.size+1) s.heap.objs.size 0 .none->h1.IsTupleIter s.heap.objs.size a 0->(∀b o,s.heap.get? b=some o->h1.get? b=some o)->Q (.ref (s.heap.objs.size+1)) { s with heap:=h1 }) :
  wpAny (model prog w) A (call (.type "enumerate") [.ref a]) Q E s:=by
 obtain⟨⟨c,dc,dt,sl⟩,y,e1,n,e2⟩:=q
 cases (show c=.type "tuple" from e1)
 cases (show dt=.seq us n from e2)
 refine callType_new F.called_enumerate (by decide) (F.typeCall_enumerate_1 _) (F.newCall_enumerate_1 _) (λobj=>F.args_object_init_2 obj _) F.entry_enumerate_new (Qg a us n dc sl) ⟨y,?_⟩
 have sz:(s.heap.push (iT a)).objs.size=s.heap.objs.size+1:=Yx ..
 have ie:IsEnum ((s.heap.push (iT a)).push (eT s.heap.objs.size)) (s.heap.objs.size+1) s.heap.objs.size 0 .none:=sz▸WK _ rfl
 change _/\_
 rw[sz]
 exact⟨⟨_,ie,rfl⟩,k _ ie ⟨_,Wt _ (WK _ rfl),rfl,rfl⟩ λb o x=>Wt _ (Wt _ x)⟩
end
def Iet(K:Frag)(a:Addr):It :=
 ⟨λi H=>∃xs x,SqT K H a xs/\xs[i]?=some x,λi H v H'=>∃p x,v=.ref p/\H p=none/\H'=upd H p (.tup [.int i,x])/\∀xs,SqT K H a xs->xs[i]?=some x,λi H=>∃xs,SqT K H a xs/\xs.length<=i⟩
theorem Tw{P:Program}{w:World}{K:Frag}{es:List Expr}{kk:Nat}{tp:Pos}(a e it:Addr)(hne:e≠it):
  Turn P w K (.Tuple es kk tp) (Iet K a) [e,it] e (λi h=>(∃old,IsEnum h e it (i:Nat) old)/\h.IsTupleIter it a i) where
 mem:=by simp
 obj:=λi h st b hb=>by
  obtain⟨⟨old,s1⟩,s2⟩:=st
  rcases W9.mp hb with z | z
  .subst z
   exact⟨_,s1,λv q=>by
    have q':Data.fields _=Data.cell v:=q
    cases q'⟩
  .have z:b=it:=by simpa using z
   subst z
   obtain⟨o,e1,c,d⟩:=s2
   exact⟨o,e1,λv q=>by rw[d] at q;cases q⟩
 keep:=λi h h' st k=>by
  obtain⟨⟨old,s1⟩,s2⟩:=st
  exact⟨⟨old,k e (by simp) _ s1⟩,s2.at λo q=>k it (by simp) o q⟩
 item:=by
  intro X hP hw hK hc i pins s σ H E I hf st hg
  subst hP hw hK
  obtain⟨xs,x,hq,hx⟩:=hg
  obtain⟨⟨old,s1⟩,s2⟩:=st
  obtain⟨its,rv,p,hz⟩:=I.tuple hq
  obtain⟨u,hu,ru⟩:=rv.get hx
  refine RZ s1 s2 (show s.heap.IsTuple a its.toArray from p) (u:=u) (by simpa using hu) hne λh1 eo li tu kk'=>⟨_,rfl,wpAny_letOwnedTupleGo_enum eo λh2 ie sb=>?_⟩
  have hp:H s.heap.objs.size=none:=I.hok.fresh (Ww _)
  have lt1:e<s.heap.objs.size:=Wy s1
  have ne1:s.heap.objs.size≠e:=YD lt1
  have tu2:h2.get? s.heap.objs.size=some { cls:=.type "tuple",data:=.seq #[.int i s.toks,u] }:=(sb.2 _ ne1).trans tu
  have I2:Inv X pins σ (upd H s.heap.objs.size (.tup [.int i,x])) { s with heap:=h2,toks:=s.toks+1 }:=I.tX (ch:=[e,it]) hf (λb o hb q=>by
    have hb1:b≠e:=λz=>hb (by simp[z])
    have hb2:b≠it:=λz=>hb (by simp[z])
    exact(sb.2 b hb1).trans (kk' b o hb1 hb2 q)) (Ww _) ⟨by show 2<=sizeLine;decide,[.int i s.toks,u],.cons ⟨_,rfl⟩ (.cons ru .nil),_,tu2,rfl,0,rfl⟩
  refine⟨.ref s.heap.objs.size,_,I2,rfl,⟨_,x,rfl,hp,rfl,λys hy=>by rw[I.JD hy hq];exact hx⟩,⟨⟨u,?_⟩,?_⟩,λb hb=>?_⟩
  .have q:IsEnum h2 e it ((i:Int)+1) u:=ie
   rw[show ((i:Int)+1)=((i+1:Nat):Int) by omega] at q
   exact q
  .obtain⟨o,e1,r⟩:=li
   exact⟨o,(sb.2 it (XH hne)).trans e1,r⟩
  .have lt2:b<s.heap.objs.size:=by
    rcases W9.mp hb with z | z
    .rw[z];exact lt1
    .have z:b=it:=by simpa using z
     rw[z]
     obtain⟨o,e1,_⟩:=s2
     exact Wy e1
   rw[aR (WX lt2)]
   exact(hf b hb).1
 done:=by
  intro X hP hw hK hc i pins s σ H E I hf st hg
  subst hP hw hK
  obtain⟨xs,hq,hx⟩:=hg
  obtain⟨⟨old,s1⟩,s2⟩:=st
  obtain⟨its,rv,p,hz⟩:=I.tuple hq
  obtain⟨f0,f1,f2,f3,f4,f5⟩:=hf it (by simp)
  have hl:=rv.length
  exact Vm (I.ok.hd hc) s1 s2 (show s.heap.IsTuple a its.toArray from p) (by simp;omega) λh' eb=>⟨rfl,I.turned (t':=s.toks) (λb o hb q=>eb b o hb q) f0 f1 f3 f4 f5⟩
 self:=λ_ _ _ _ _ st h=>Y8 st.1.choose_spec h
section
variable{X:Cx}
def iEnumT(K:Frag)(ta:TA):TI:=λσ H R=>ta σ H λvs H1=>∃a,vs=[.ref a]/\(∃xs,SqT K H1 a xs)/\R (Iet K a) H1
theorem pi_enumT{es:List Expr}{kk:Nat}{tp:Pos}{l:Expr}{ta:TA}{p pos:Pos}(hg:Gl X "enumerate")(hm:X.mg "enumerate"=none)(ha:PA X [l] ta)(hs:starEach [l] X.env=[(false,eval l X.env)]:=by rfl):
  PI X (.Tuple es kk tp) (.Call (.Name "enumerate" p) [l] [] pos) (iEnumT X.K ta):=by
 intro pins s σ H R I h
 refine Call_ (rZ I hg hm PyProof.Rows.boot_enumerate (Xl (thn (ha pos pins s σ H _ I h) λus s1 ⟨vs,H1,I1,r1,q1⟩=>?_) hs rfl))
 obtain⟨a,e,⟨xs,hq⟩,q⟩:=q1
 subst e
 cases r1 with
 | cons r rr =>
  cases rr
  cases r
  obtain⟨its,rv,pl,hz⟩:=I1.tuple hq
  refine RP (show s1.heap.IsTuple a its.toArray from pl) λh' ie li kp=>?_
  refine Y8 (it:=s1.heap.objs.size) (i:=0) (old:=.none) ie ?_
  have I2:Inv X pins σ H1 { s1 with heap:=h' }:=I1.kept (t':=s1.toks) kp
  refine⟨s1.heap.objs.size+1,[s1.heap.objs.size+1,s1.heap.objs.size],_,_,H1,rfl,I2,Tw a (s1.heap.objs.size+1) s1.heap.objs.size (Nat.succ_ne_self _),⟨⟨.none,ie⟩,li⟩,λb hb=>?_,q⟩
  have hb':s1.heap.objs.size<=b:=by
   rcases W9.mp hb with z | z
   .rw[z];exact Nat.le_succ _
   .have z:b=s1.heap.objs.size:=by simpa using z
    exact Nat.le_of_eq z.symm
  obtain⟨g1,g2,g3,g4,g5,g6⟩:=I1.fpOk hb' (I1.hok.fresh hb')
  exact⟨g1,g2,g3,g4,g5,g6⟩
end
end MX
namespace DL
open PySem PySem.Spec PyProof.Rows MX L2
theorem Rj{Γ:Nat->Option Addr}{K:Frag}{G:Hp}{a:Addr}{vs:List V}{ds:List D}(h:SqT K G a vs)(r:au K Γ G vs ds):Yl K Γ G (Iet K a) (oV 0 ds):=by
 refine⟨λi H s lt=>?_,λi G' H x H' d s s' y e=>?_,λi H s le=>⟨vs,SqT.same s h,by rw[vW] at le;rw[r.length];exact le⟩⟩
 .rw[vW] at lt
  obtain⟨v,e,_⟩:=r.get (i:=i) (d:=ds[i]) (by simp[lt])
  exact⟨vs,v,SqT.same s h,e⟩
 .obtain⟨p,x0,rfl,hp,rfl,y⟩:=y
  rw[vV] at e
  obtain⟨d0,e0,rfl⟩:=WF.mp e
  obtain⟨v,e1,e2⟩:=r.get e0
  have:=y vs (SqT.same (s.trans s') h)
  rw[e1] at this
  cases this
  refine⟨_,.new s' hp,.tup aK (.cons ?_ (.cons ((e2.mono s).mono (aP.up (aC s' hp))) .nil))⟩
  rw[Nat.zero_add]
  exact .int _
def tupO:D->Option (List D)
 | .tup xs=>some xs
 | .rot xs=>some xs
 | _=>none
def Je(f:DSt->Out D):DSt->Out (List D):=λδ=>(f δ).bind λd=>(Out.opt (tupO d)).bind λds=>.ok (oV 0 ds)
section
variable{X:Cx}{Γ:Nat->Option Addr}{E:XK}{a:Expr}{pos:Pos}{fa:DSt->Out D}
theorem Pb{es':List Expr}{kk:Nat}{tp p:Pos}(hg:Gl X "enumerate")(hm:X.mg "enumerate"=none)(ha:DE X Γ E a fa)(hs:starEach [a] X.env=[(false,eval a X.env)]:=by rfl):DI X Γ E (.Tuple es' kk tp) (.Call (.Name "enumerate" p) [a] [] pos) (Je fa) :=
 PI.imp (pi_enumT hg hm (bM ha eO (by rw[hs];rfl)) hs) λσ H R ⟨G0,H0,G,δ,S,w⟩=>by
  refine⟨G0,H0,G,δ,S,(ao w).mono (λd w v G1 H1 s1 r1=>?_) λ_ k=>k⟩
  obtain⟨ds,e,w⟩:=bC (ao w)
  unfold tupO at e
  split at e
  .cases e
   cases r1 with
   | tup h r=>exact⟨_,rfl,⟨_,SqT.of (s1.gh _ _ h)⟩,w _ G1 H1 s1 (Rj (SqT.of h) r)⟩
  .cases e
   cases r1 with
   | rot h r=>exact⟨_,rfl,⟨_,SqT.same s1.gh h⟩,w _ G1 H1 s1 (Rj h r)⟩
  .cases e
end
def o2S(g:D->D->Option D)(fa fb:DSt->Mem->Res D):DSt->Mem->Res D:=λδ μ=>(fa δ μ).bind λx μ=>(fb δ μ).bind λy μ=>Res.of (Out.opt (g x y)) μ
section
variable{X:Cx}{Γ:Plc}{E:XK}{e a b:Expr}{pos:Pos}{fa fb:DSt->Mem->Res D}
theorem s2S{r:R2}{g:D->D->Option D}(hr:∀L,DR2 X.K (xt Γ L) r g)(h:PE X e (tOp r (teS X.K Γ E fa) (teS X.K Γ E fb))):SE X Γ E e (o2S g fa fb):=PE.imp h λσ H Q ⟨L0,G0,H0,L,G,δ,μ,S,w⟩=>by
 refine⟨L0,G0,H0,L,G,δ,μ,S,(aY w).mono (λx μ1 w v L1 G1 H1 S1 l1 s1 r1=>?_) λ_ _ k=>k⟩
 refine⟨L0,G0,H0,L1,G1,δ,μ1,S1,(aY w).mono (λy μ2 w u L2 G2 H2 S2 l2 s2 r2=>?_) λ_ _ k=>k⟩
 obtain⟨d,ed,k⟩:=bC (qg w)
 exact hr L2 G2 H2 v u x y d Q S2.sr.st.gh (r1.up l2 s2) r2 ed λv' G' H' s r=>k v' L2 G' H' (S2.pure s) (l1.trans l2) ((s1.trans s2).trans s.gg) r
theorem se_ix(ha:SE X Γ E a fa)(hb:SE X Γ E b fb)(hs:xJ b:=by exact λ_ _=>rfl):SE X Γ E (.Subscript a b pos) (o2S ixD fa fb):=s2S (λ_=>dr_ix) (pe_ix Sd ha hb hs)
end
end DL
local macro_rules
 | `(tactic| walk_at $s:str)=>do
  let t:=s.getString
  if t=="o" then return ←`(tactic| first | exact Or.inl rfl | exact Or.inr rfl)
  if t.startsWith "d " || t.startsWith "e " then
   let a:=((t.splitOn " ").filter (·≠"")).toArray.map λx=>Lean.mkIdent x.toName
   let i:=λ(x:String)=>Lean.mkIdent x.toName
   let (lp,w,K,mg,base,t',X,G,T):=(i "l.prog",i "w",i "K",i "mg",i "base",i "t",i "X",i "G",i "T")
   let k:=if t.startsWith "d " then 3 else 2
   let (D,J,ok,U,tx,bd):=(a[1]!,a[k]!,a[k+1]!,a[k+2]!,a[k+3]!,a[k+4]!)
   let as:=a.extract (k+5) a.size
   let (m,ex,kp):=(Lean.mkIdent (tx.getId++`m),Lean.mkIdent (tx.getId++`x++`ex),Lean.mkIdent (U.getId++`kp))
   let L:=i "L"
   let bs ←as.mapM λx=>`(($x $L))
   if t.startsWith "d " then
    return ←`(tactic| (obtain⟨_,$U⟩:=$ex;have $D : $(a[2]!) $lp $w $K $mg $base ($(i "Ga0") $t') $J := ⟨_,_,fun $L=>$ok $U $T $bs*,$bd $U,mg_of $X $G $m,$kp⟩))
   return ←`(tactic| (obtain⟨_,$U⟩:=$ex;have $D : $(i "DDs") $lp $w $K $mg $base ($(i "Ga0") $t') $J := ⟨_,_,$ok $U $T $as*,$bd $U,mg_of $X $G $m,$kp⟩))
  unless t.startsWith "ev" || t.startsWith "vc" || t.startsWith "vs" do Lean.Macro.throwUnsupported
  let (h,r):=match t.splitOn ":" with
   | [h,r]=>(h,r)
   | _=>(t,"")
  let minus:=(h.splitOn "-").drop 1
  let l:=if t.startsWith "ev" then "dz fV v9 bB iQ bD gY sIf cz cM um sClr2 sPut FT gv gb gvo slD o1 o2 o2b o3 oC oF oM oMk gC uY bV Dy orT lY tst zN orV notV aD aj bL fJ uI iR su kc one1 frzd frz frzS yD lO Dm pF kh lX Cy N5 asB_b dO Lp Lq qw ixD_r Jp Lj uQ atI_0 atI_1 Lw Fi rF Ae Fj isND kI iy gN lG cD gT Out.aQ Out.Kv Out.wR Out.jC Out.Qs Out.sG nxP_ok List.map_cons List.map_nil List.length_cons List.length_nil List.append_assoc List.nil_append List.cons_append List.getElem?_cons_zero List.getElem?_cons_succ List.getElem?_nil List.set_cons_zero List.set_cons_succ Nat.zero_add Nat.reduceAdd Nat.reduceSub List.replicate_succ List.replicate_zero List.lookup_cons List.lookup_nil Option.some.injEq Option.bind_some Option.map_some Nat.reduceBEq Nat.reduceEqDiff Int.reduceLT Int.reduceLE Int.reduceNeg Int.reduceAdd Int.reduceMul Int.reduceSub Nat.reduceLeDiff reduceIte ite_true decide_true decide_false Bool.not_true Bool.not_false Nat.reduceEqDiff Bool.false_eq_true Option.isNone_none Option.isNone_some lZ String.reduceBEq String.reduceEq beq_self_eq_true List.contains_cons List.contains_nil Bool.or_false Bool.or_true Bool.true_or Bool.false_or Bool.and_true Bool.and_false Bool.true_and Bool.false_and Bool.not_eq_true eq_self_iff_true Int.cast_ofNat_Int Int.reduceBEq Int.natCast_zero" else if t.startsWith "vs" then "W_ok dN RM J9 sv_0 sv_s sb_0 sb_s sw_0 W_gv W_gb W_gvo W_o2 W_o2b W_bV W_fld ofl_o as_l as_t as_r Ir Ja W_seq W_ret Ox W_runF W_eR slD fV one1 lO Dm pF kh lX yD Cy N5 asB_b dO Lp Lq qw ixD_r Jp Lj uQ atI_0 atI_1 Lw Fi rF Ae Fj isND kI iN_0 iN_1 iN_2 iN_3 iN_4 iN_5 iN_6 iN_7 gN lG cD gT frzd frz frzS Out.jC Option.bind_some Option.map_some List.map_cons List.map_nil List.length_cons List.length_nil List.append_assoc List.nil_append List.cons_append List.getElem?_cons_zero List.getElem?_cons_succ List.getElem?_nil List.set_cons_zero List.set_cons_succ Nat.zero_add Nat.reduceAdd Nat.reduceSub List.replicate_succ List.replicate_zero Nat.reduceEqDiff Int.reduceLT Int.reduceLE Int.reduceNeg Int.reduceAdd Int.reduceMul Int.reduceSub Nat.reduceLeDiff decide_true decide_false decide_eq_true_eq decide_eq_false_iff_not Bool.not_true Bool.not_false Bool.false_eq_true Bool.true_eq_false not_true_eq_false not_false_eq_true if_true if_false true_and and_true and_self lZ String.reduceBEq beq_self_eq_true Int.cast_ofNat_Int Int.reduceBEq Int.natCast_zero sizeLine_eq List.lookup_cons List.lookup_nil List.contains_cons List.contains_nil Bool.or_false Bool.or_true Bool.true_or Bool.false_or Nat.reduceBEq Option.isNone_none Option.isNone_some Option.some.injEq exists_eq_left' xO dq T6 Ow thS_nx ml_s mo_s mlD_l moD_l WS_fO WS_nilA WS_cons WS_seq WS_ret WS_set RK WS_rd WS_rdT WS_lst WS_call WS_app WS_put WS_fput WS_run WS_eN WS_eR rsv_n rsv_c rs1_s rs1_n rs1_o Ks Q3 uG tV Dj QB QC List.length_append" else "W_ok dN RM J9 sv_0 sv_s sb_0 sb_s sw_0 W_gv W_gb W_gvo W_o2 W_o2b W_bV W_fld ofl_o as_l as_t as_r Ir Ja W_seq W_ret Ox W_runF W_eR slD fV one1 lO Dm pF kh lX yD Cy N5 asB_b dO Lp Lq qw ixD_r Jp Lj uQ atI_0 atI_1 Lw Fi rF Ae Fj isND kI iN_0 iN_1 iN_2 iN_3 iN_4 iN_5 iN_6 iN_7 gN lG cD gT frzd frz frzS Out.jC Option.bind_some Option.map_some List.map_cons List.map_nil List.length_cons List.length_nil List.append_assoc List.nil_append List.cons_append List.getElem?_cons_zero List.getElem?_cons_succ List.getElem?_nil List.set_cons_zero List.set_cons_succ Nat.zero_add Nat.reduceAdd Nat.reduceSub List.replicate_succ List.replicate_zero Nat.reduceEqDiff Int.reduceLT Int.reduceLE Int.reduceNeg Int.reduceAdd Int.reduceMul Int.reduceSub Nat.reduceLeDiff decide_true decide_false decide_eq_true_eq decide_eq_false_iff_not Bool.not_true Bool.not_false Bool.false_eq_true Bool.true_eq_false not_true_eq_false not_false_eq_true if_true if_false true_and and_true and_self lZ String.reduceBEq beq_self_eq_true Int.cast_ofNat_Int Int.reduceBEq Int.natCast_zero sizeLine_eq List.lookup_cons List.lookup_nil List.contains_cons List.contains_nil Bool.or_false Bool.or_true Bool.true_or Bool.false_or Nat.reduceBEq Option.isNone_none Option.isNone_some Option.some.injEq exists_eq_left'"
  let all:=(l.splitOn " ").filter λx=>!minus.contains x
  let ids:=(all++(r.splitOn " ").filter (·≠"")).toArray.map λx=>Lean.mkIdent x.toName
  let args ←ids.mapM λi=>`(Lean.Parser.Tactic.simpLemma| $i:term)
  `(tactic| simp only[$args,*])
namespace K10
open PySem L2 MX DL
def top(i:Nat):Stmt:=PySem.Challenge.pw_mustmay_k23_rooms_parted.main.body.getD i (.Pass ⟨0,0,0,0⟩)
structure Ad where
 Door:Addr
 Must:Addr
 May:Addr
 Shut:Addr
 Torn:Addr
 Draft:Addr
 Plan:Addr
 Trail:Addr
def Ga0(t:Ad):Plc:=λc=>[t.Door,t.Must,t.May,t.Shut,t.Torn,t.Draft,t.Plan,t.Trail][c]?
abbrev Ga(t:Ad)(L:Plc):Plc:=xt (Ga0 t) L
abbrev eU:Nat:=1
abbrev j8:Nat:=2
abbrev d8:Nat:=3
abbrev d9:Nat:=4
abbrev d7:Nat:=5
abbrev fu:Nat:=6
abbrev aO:Nat:=7
def kj:D->Option Bool:=uh "bool" []
def pB:D->Option Bool:=uh "int" []
def c7:D->Option Bool:=uh "list" []
def ju:D->Option Bool:=uh "str" []
def dD:D->Option Bool:=uh "tuple" []
structure Txt(K:Frag)(mg:Str->Option Value)(t:Ad):Prop where
 g_Door:mg "Door"=some (.ref t.Door)
 i_Door:uo K t.Door
 g_Must:mg "Must"=some (.ref t.Must)
 Lh:uo K t.Must
 g_May:mg "May"=some (.ref t.May)
 i_May:uo K t.May
 g_Shut:mg "Shut"=some (.ref t.Shut)
 Ez:uo K t.Shut
 g_Torn:mg "Torn"=some (.ref t.Torn)
 EY:uo K t.Torn
 g_Draft:mg "Draft"=some (.ref t.Draft)
 CT:uo K t.Draft
 g_Plan:mg "Plan"=some (.ref t.Plan)
 Li:uo K t.Plan
 g_Trail:mg "Trail"=some (.ref t.Trail)
 jr:uo K t.Trail
 jN:bH K t.Draft "actions"
 dh:bH K t.Draft "rooms"
 jO:bH K t.May "to"
 iC:bH K t.Must "to"
 lB:bH K t.Plan "actions"
 dR:bH K t.Plan "rooms"
 iD:bH K t.Shut "to"
 iG:bH K t.Torn "to"
 di:bH K t.Trail "pairs"
 fK:bH K t.Trail "places"
 gA:bH K t.Trail "steps"
 b_all:mg "all"=none
 b_bool:mg "bool"=none
 oK:mg "enumerate"=none
 Iv:mg "int"=none
 bR:mg "isinstance"=none
 cQ:mg "len"=none
 wQ:mg "list"=none
 b_min:mg "min"=none
 du:mg "range"=none
 b_set:mg "set"=none
 b_str:mg "str"=none
 xQ:mg "tuple"=none
 b_zip:mg "zip"=none
 kj:∀L:Plc,Dp K (Ga t L) (.ty "bool") kj
 pB:∀L:Plc,Dp K (Ga t L) (.ty "int") pB
 c7:∀L:Plc,Dp K (Ga t L) (.ty "list") c7
 ju:∀L:Plc,Dp K (Ga t L) (.ty "str") ju
 dD:∀L:Plc,Dp K (Ga t L) (.ty "tuple") dD
 zP:∃u,mg "LETTERS"=some u/\RelV (.str "abcdefghijklmnopqrstuvwxyz") u
 mV:∃u,mg "MOST_ACTIONS"=some u/\RelV (.int 8) u
 rm:∃u,mg "MOST_ROOMS"=some u/\RelV (.int 2000) u
 rA:∃u,mg "MOST_SIGNS"=some u/\RelV (.int 8) u
section
variable{P:Program}{w:World}{K:Frag}{mg:Str->Option Value}{base:Heap}{t:Ad}{L:Plc}{f:Addr}{fd:FuncData}
abbrev vf:Stmt:=inClass (top 2) 0
abbrev vp:Stmt:=inClass (top 5) 0
abbrev vy:Stmt:=inClass (top 6) 0
def uz:List D->Out (List (Str×D)):=λds=>match ds with
 | [d]=>.ok [("to",d)]
 | _=>.stuck
def Il:List D->Out (List (Str×D)):=uz
def uA:List D->Out (List (Str×D)):=λds=>match ds with
 | []=>.ok [("to",.non)]
 | _=>.stuck
def wM:List D->Out (List (Str×D)):=uA
def Nq(K:Frag):Sp:=λvs H Q _=>∃a C dx v,vs=[.ref a,v]/\H a=some (.ins C dx [])/\Cls K C/\bH K C "to"/\Q .non (upd H a (.ins C dx [("to",v)]))
theorem M4:aF ["self","to"] ["self","to"] (aq vf):=⟨rfl,rfl,rfl,by decide +kernel,rfl,by decide +kernel,by decide +kernel⟩
theorem LQ{f:Addr}{fd:FuncData}(F:L2.Fun K "__init__" "Door.__init__" vf f fd):cP P w K mg base CX0 1 f fd ["self","to"] (Nq K):=by
 refine F.ok M4 (λvs H Q E h=>?_) (λcdv A outer s H vs Q E hr h=>?_)
 .obtain⟨a,C,dx,v,rfl,_⟩:=h
  rfl
 .obtain⟨a,C,dx,v,rfl,hH,cl,na,q⟩:=h
  refine⟨_,pG (Mz (pv 0) (pv 1) rfl),?_⟩
  exact⟨_,rfl,_,rfl,a,C,dx,_,rfl,hH,cl,na,(by decide),q⟩
theorem Nr{K:Frag}{Γ:Nat->Option Addr}{G H:Hp}{a C dx:Addr}{v:V}{d:D}{f:Str}{Q:VK}(ga:G a=none)(sg:aP G H)(r:Rep K Γ G v d)
  (w:∀fs G' H',aP G G'->(∀b o,H b=some o->b≠a->H' b=some o)->aP G' H'->(∀b,H b≠none->G b=none->G' b=none)->H' a=some (.ins C dx fs)->dG K Γ G' fs [(f,d)]->Q .non H'):Q .non (upd H a (.ins C dx [(f,v)])) :=
 w [(f,v)] G _ (aP.refl _) (λb o e hb=>by rw[aR hb];exact e) (λb o e=>by rw[aR (aX e ga)];exact sg _ _ e) (λ_ _ g=>g) aK (.cons r .nil)
theorem ok_to{c:Nat}{f C0:Addr}{fd:FuncData}(F:cP P w K mg base CX0 1 f fd ["self","to"] (Nq K))(hc:Ga t L c=some C0)(cl:Cls K C0)(na:bH K C0 "to"):cP P w K mg base CX0 1 f fd ["self","to"] (spI K (Ga t L) c 1 uz):=F.imp λvs H Q E h=>by
 obtain⟨hl,a,dx,C,us,G,ds,rfl,hH,hC,ga,sg,r,w⟩:=h
 rw[hc] at hC
 cases hC
 cases r with
 | nil=>cases hl
 | cons r1 r2 =>
  cases r2 with
  | cons _ _=>cases hl
  | nil=>exact⟨a,C0,dx,_,rfl,hH,cl,na,Nr ga sg r1 w⟩
theorem M9:aF ["self"] ["self"] (aq vp):=⟨rfl,rfl,rfl,by decide +kernel,rfl,by decide +kernel,by decide +kernel⟩
theorem Nf:aF ["self"] ["self"] (aq vy):=⟨rfl,rfl,rfl,by decide +kernel,rfl,by decide +kernel,by decide +kernel⟩
theorem Mh{f fD:Addr}{fd fdD:FuncData}(F:L2.Fun K "__init__" "Shut.__init__" vp f fd)(T:Txt K mg t)(G0:cP P w K mg base CX0 1 fD fdD ["self","to"] (Nq K))(ca:Cv K t.Door "__init__" (.ref fD))(hk:keepIn K (.ref fD)=true)(hb:Binds K fdD ["self","to"] []):cP P w K mg base CX0 2 f fd ["self"] (spI K (Ga t L) d8 0 uA):=by
 refine F.ok M9 (λvs H Q E h=>h.1) (λcdv A outer s H vs Q E hr h=>?_)
 obtain⟨hl,a,dx,C,us,G,ds,rfl,hH,hC,ga,sg,r,w⟩:=h
 cases hC
 cases r with
 | cons _ _=>cases hl
 | nil =>
  refine⟨_,pG (mj (Qt G0 hr rfl T.g_Door ca hk hb .nil pass0 (bM (pv 0) (bM My eO)))),?_⟩
  exact⟨_,rfl,a,_,dx,_,rfl,hH,T.Ez.cls,T.iD,Nr ga sg .non w⟩
theorem Mj{f fD:Addr}{fd fdD:FuncData}(F:L2.Fun K "__init__" "Torn.__init__" vy f fd)(T:Txt K mg t)(G0:cP P w K mg base CX0 1 fD fdD ["self","to"] (Nq K))(ca:Cv K t.Door "__init__" (.ref fD))(hk:keepIn K (.ref fD)=true)(hb:Binds K fdD ["self","to"] []):cP P w K mg base CX0 2 f fd ["self"] (spI K (Ga t L) d9 0 wM):=by
 refine F.ok Nf (λvs H Q E h=>h.1) (λcdv A outer s H vs Q E hr h=>?_)
 obtain⟨hl,a,dx,C,us,G,ds,rfl,hH,hC,ga,sg,r,w⟩:=h
 cases hC
 cases r with
 | cons _ _=>cases hl
 | nil =>
  refine⟨_,pG (mj (Qt G0 hr rfl T.g_Door ca hk hb .nil pass0 (bM (pv 0) (bM My eO)))),?_⟩
  exact⟨_,rfl,a,_,dx,_,rfl,hH,T.EY.cls,T.iG,Nr ga sg .non w⟩
abbrev vm:Stmt:=inClass (top 3) 0
theorem M7:aF ["self"] ["self"] (aq vm):=scm
def oW:DSt->Out Fl:=(cz (kc (.str "must")))
def n6:List D->Out D:=λds=>(dz 1 oW ds).bw
abbrev Oh:Inf D:=⟨"word",1,["self"],n6⟩
theorem Mf(F:L2.Fun K "word" "Must.word" vm f fd)(T:Txt K mg t):OD P w K mg base (Ga t L) Oh f fd:=by
 refine okJ 0 oW F M7 λ_ _ _ _ _ _ hr=>?_
 exact(az (bh bO))
abbrev xf:Stmt:=inClass (top 4) 0
theorem QS:aF ["self"] ["self"] (aq xf):=scm
def rO:DSt->Out Fl:=(cz (kc (.str "may")))
def qM:List D->Out D:=λds=>(dz 1 rO ds).bw
abbrev Ru:Inf D:=⟨"word",1,["self"],qM⟩
theorem Qn(F:L2.Fun K "word" "May.word" xf f fd)(T:Txt K mg t):OD P w K mg base (Ga t L) Ru f fd:=by
 refine okJ 0 rO F QS λ_ _ _ _ _ _ hr=>?_
 exact(az (bh bO))
abbrev vq:Stmt:=inClass (top 5) 1
theorem Nb:aF ["self"] ["self"] (aq vq):=scm
def oX:DSt->Out Fl:=(cz (kc (.str "shut")))
def n8:List D->Out D:=λds=>(dz 1 oX ds).bw
abbrev Oi:Inf D:=⟨"word",1,["self"],n8⟩
theorem Mi(F:L2.Fun K "word" "Shut.word" vq f fd)(T:Txt K mg t):OD P w K mg base (Ga t L) Oi f fd:=by
 refine okJ 0 oX F Nb λ_ _ _ _ _ _ hr=>?_
 exact(az (bh bO))
abbrev vz:Stmt:=inClass (top 6) 1
theorem Ng:aF ["self"] ["self"] (aq vz):=scm
def oY:DSt->Out Fl:=(cz (kc (.str "torn")))
def oh:List D->Out D:=λds=>(dz 1 oY ds).bw
abbrev Oj:Inf D:=⟨"word",1,["self"],oh⟩
theorem Ml(F:L2.Fun K "word" "Torn.word" vz f fd)(T:Txt K mg t):OD P w K mg base (Ga t L) Oj f fd:=by
 refine okJ 0 oY F Ng λ_ _ _ _ _ _ hr=>?_
 exact(az (bh bO))
def gD:List (Nat×(List D->Out D)):=[(eU,n6),(j8,qM),(d8,n8),(d9,oh)]
abbrev sW:Stmt:=inClass (top 3) 1
theorem HW:aF ["self"] ["self"] (aq sW):=scm
def yq:DSt->Out Fl:=(cz (kc (.bl true)))
def JK:List D->Out D:=λds=>(dz 1 yq ds).bw
abbrev JX:Inf D:=⟨"needs",1,["self"],JK⟩
theorem Ho(F:L2.Fun K "needs" "Must.needs" sW f fd)(T:Txt K mg t):OD P w K mg base (Ga t L) JX f fd:=by
 refine okJ 0 yq F HW λ_ _ _ _ _ _ hr=>?_
 exact(az (bh jE))
abbrev vh:Stmt:=inClass (top 4) 1
theorem M6:aF ["self"] ["self"] (aq vh):=scm
def Bo:DSt->Out Fl:=(cz (kc (.bl false)))
def Ob:List D->Out D:=λds=>(dz 1 Bo ds).bw
abbrev Og:Inf D:=⟨"needs",1,["self"],Ob⟩
theorem Ma(F:L2.Fun K "needs" "May.needs" vh f fd)(T:Txt K mg t):OD P w K mg base (Ga t L) Og f fd:=by
 refine okJ 0 Bo F M6 λ_ _ _ _ _ _ hr=>?_
 exact(az (bh jE))
abbrev sX:Stmt:=inClass (top 5) 2
theorem HX:aF ["self"] ["self"] (aq sX):=scm
def yr:DSt->Out Fl:=(cz (kc (.bl false)))
def JL:List D->Out D:=λds=>(dz 1 yr ds).bw
abbrev JZ:Inf D:=⟨"needs",1,["self"],JL⟩
theorem Hr(F:L2.Fun K "needs" "Shut.needs" sX f fd)(T:Txt K mg t):OD P w K mg base (Ga t L) JZ f fd:=by
 refine okJ 0 yr F HX λ_ _ _ _ _ _ hr=>?_
 exact(az (bh jE))
abbrev sY:Stmt:=inClass (top 6) 2
theorem HY:aF ["self"] ["self"] (aq sY):=scm
def yt:DSt->Out Fl:=(cz (kc (.bl true)))
def JM:List D->Out D:=λds=>(dz 1 yt ds).bw
abbrev J0:Inf D:=⟨"needs",1,["self"],JM⟩
theorem Hs(F:L2.Fun K "needs" "Torn.needs" sY f fd)(T:Txt K mg t):OD P w K mg base (Ga t L) J0 f fd:=by
 refine okJ 0 yt F HY λ_ _ _ _ _ _ hr=>?_
 exact(az (bh jE))
abbrev pZ:Stmt:=inClass (top 3) 2
theorem Gd:aF ["self"] ["self"] (aq pZ):=scm
def pR:DSt->Out Fl:=(cz (kc (.bl true)))
def pM:List D->Out D:=λds=>(dz 1 pR ds).bw
abbrev GR:Inf D:=⟨"allows",1,["self"],pM⟩
theorem Fq(F:L2.Fun K "allows" "Must.allows" pZ f fd)(T:Txt K mg t):OD P w K mg base (Ga t L) GR f fd:=by
 refine okJ 0 pR F Gd λ_ _ _ _ _ _ hr=>?_
 exact(az (bh jE))
abbrev sV:Stmt:=inClass (top 4) 2
theorem HS:aF ["self"] ["self"] (aq sV):=scm
def rN:DSt->Out Fl:=(cz (kc (.bl true)))
def qL:List D->Out D:=λds=>(dz 1 rN ds).bw
abbrev JW:Inf D:=⟨"allows",1,["self"],qL⟩
theorem Hn(F:L2.Fun K "allows" "May.allows" sV f fd)(T:Txt K mg t):OD P w K mg base (Ga t L) JW f fd:=by
 refine okJ 0 rN F HS λ_ _ _ _ _ _ hr=>?_
 exact(az (bh jE))
abbrev p6:Stmt:=inClass (top 5) 3
theorem Ge:aF ["self"] ["self"] (aq p6):=scm
def pU:DSt->Out Fl:=(cz (kc (.bl false)))
def pN:List D->Out D:=λds=>(dz 1 pU ds).bw
abbrev GX:Inf D:=⟨"allows",1,["self"],pN⟩
theorem Ft(F:L2.Fun K "allows" "Shut.allows" p6 f fd)(T:Txt K mg t):OD P w K mg base (Ga t L) GX f fd:=by
 refine okJ 0 pU F Ge λ_ _ _ _ _ _ hr=>?_
 exact(az (bh jE))
abbrev p7:Stmt:=inClass (top 6) 3
theorem Gf:aF ["self"] ["self"] (aq p7):=scm
def pW:DSt->Out Fl:=(cz (kc (.bl false)))
def pO:List D->Out D:=λds=>(dz 1 pW ds).bw
abbrev GZ:Inf D:=⟨"allows",1,["self"],pO⟩
theorem Fv(F:L2.Fun K "allows" "Torn.allows" p7 f fd)(T:Txt K mg t):OD P w K mg base (Ga t L) GZ f fd:=by
 refine okJ 0 pW F Gf λ_ _ _ _ _ _ hr=>?_
 exact(az (bh jE))
def iI:List (Nat×(List D->Out D)):=[(eU,pM),(j8,qL),(d8,pN),(d9,pO)]
abbrev xg:Stmt:=inClass (top 3) 3
theorem QT:aF ["self","to"] ["self","to"] (aq xg):=scm
def Et:DSt->Out Fl:=(cz (oMk eU 1 uz (aj (gv 1) aD)))
def Rm:List D->Out D:=λds=>(dz 2 Et ds).bw
abbrev Rv:Inf D:=⟨"led",3,["self","to"],Rm⟩
theorem Qo(F:L2.Fun K "led" "Must.led" xg f fd)(T:Txt K mg t)(zF:Ini P w K mg base t.Must 1 ["self","to"] (spI K (Ga t L) eU 1 uz)):OD P w K mg base (Ga t L) Rv f fd:=by
 refine okJ 2 Et F QT λ_ _ _ _ _ _ hr=>?_
 exact(az (bh (Qj zF hr T.g_Must (ak (nv 1) aJ))))
abbrev Ai:Stmt:=inClass (top 4) 3
theorem Th:aF ["self","to"] ["self","to"] (aq Ai):=scm
def Jl:DSt->Out Fl:=(cz (oMk j8 1 Il (aj (gv 1) aD)))
def U8:List D->Out D:=λds=>(dz 2 Jl ds).bw
abbrev Va:Inf D:=⟨"led",3,["self","to"],U8⟩
theorem SM(F:L2.Fun K "led" "May.led" Ai f fd)(T:Txt K mg t)(Ip:Ini P w K mg base t.May 1 ["self","to"] (spI K (Ga t L) j8 1 Il)):OD P w K mg base (Ga t L) Va f fd:=by
 refine okJ 2 Jl F Th λ_ _ _ _ _ _ hr=>?_
 exact(az (bh (Qj Ip hr T.g_May (ak (nv 1) aJ))))
abbrev xj:Stmt:=inClass (top 5) 4
theorem QV:aF ["self","to"] ["self","to"] (aq xj):=scm
def Eu:DSt->Out Fl:=(cz (oMk d8 0 uA aD))
def Rn:List D->Out D:=λds=>(dz 2 Eu ds).bw
abbrev Rw:Inf D:=⟨"led",4,["self","to"],Rn⟩
theorem Qp(F:L2.Fun K "led" "Shut.led" xj f fd)(T:Txt K mg t)(zG:Ini P w K mg base t.Shut 2 ["self"] (spI K (Ga t L) d8 0 uA)):OD P w K mg base (Ga t L) Rw f fd:=by
 refine okJ 3 Eu F QV λ_ _ _ _ _ _ hr=>?_
 exact(az (bh (Ly zG hr T.g_Shut)))
abbrev xm:Stmt:=inClass (top 6) 4
theorem QW:aF ["self","to"] ["self","to"] (aq xm):=scm
def Ew:DSt->Out Fl:=(cz (oMk d9 0 wM aD))
def Ro:List D->Out D:=λds=>(dz 2 Ew ds).bw
abbrev Rx:Inf D:=⟨"led",4,["self","to"],Ro⟩
theorem Qq(F:L2.Fun K "led" "Torn.led" xm f fd)(T:Txt K mg t)(zH:Ini P w K mg base t.Torn 2 ["self"] (spI K (Ga t L) d9 0 wM)):OD P w K mg base (Ga t L) Rx f fd:=by
 refine okJ 3 Ew F QW λ_ _ _ _ _ _ hr=>?_
 exact(az (bh (Ly zH hr T.g_Torn)))
abbrev vg:Stmt:=inClass (top 2) 1
theorem M5:aF ["self"] ["self"] (aq vg):=scm
def uL:DSt->Out Fl:=(cz (bL (aj (oM "word" 1 gD (gv 0) aD) (aj (gC "to" [eU,j8,d8,d9] (gv 0)) aD))))
def fY:List D->Out D:=λds=>(dz 1 uL ds).bw
abbrev Oe:Inf D:=⟨"told",2,["self"],fY⟩
theorem LR(F:L2.Fun K "told" "Door.told" vg f fd)(T:Txt K mg t)(wO:mU P w K mg base (Ga t L) "word" (spD K (Ga t L) 1) 1 gD):OD P w K mg base (Ga t L) Oe f fd:=by
 refine okJ 1 uL F M5 λ_ _ _ _ _ _ hr=>?_
 exact(az (bh (eE (ak (wZ wO hr (nv 0)) (ak (gO (cs:=[eU,j8,d8,d9]) ⟨⟨t.Must,rfl,T.Lh.cls,T.iC⟩,⟨t.May,rfl,T.i_May.cls,T.jO⟩,⟨t.Shut,rfl,T.Ez.cls,T.iD⟩,⟨t.Torn,rfl,T.EY.cls,T.iG⟩,trivial⟩ (nv 0)) aJ)))))
def vJ:List (Nat×(List D->Out D)):=[(eU,fY),(j8,fY),(d8,fY),(d9,fY)]
abbrev Aj:Stmt:=top 7
theorem Ti:aF ["needs","allows","to"] ["needs","allows","to"] (aq Aj):=scm
def zV:DSt->Out Fl:=(bB (sIf (Dy (tst (gb 0)) (tst (gb 1))) (cz (oMk eU 1 uz (aj (gv 2) aD))) iQ)
 (bB (sIf (tst (gb 1)) (cz (oMk j8 1 Il (aj (gv 2) aD))) iQ)
 (bB (sIf (tst (gb 0)) (cz (oMk d9 0 wM aD)) iQ)
 (cz (oMk d8 0 uA aD)))))
def vP:List D->Out D:=λds=>(dz 3 zV ds).bw
abbrev zy:Inf D:=⟨"door_of",4,["needs","allows","to"],vP⟩
theorem SN(F:L2.Fun K "door_of" "door_of" Aj f fd)(T:Txt K mg t)(zF:Ini P w K mg base t.Must 1 ["self","to"] (spI K (Ga t L) eU 1 uz))(Ip:Ini P w K mg base t.May 1 ["self","to"] (spI K (Ga t L) j8 1 Il))(zH:Ini P w K mg base t.Torn 2 ["self"] (spI K (Ga t L) d9 0 wM))(zG:Ini P w K mg base t.Shut 2 ["self"] (spI K (Ga t L) d8 0 uA)):OD P w K mg base (Ga t L) zy f fd:=by
 refine okJ 3 zV F Ti λ_ _ _ _ _ _ hr=>?_
 exact(aB (gM (BW (RX (fU (aN 0 (pv 0))) (KN (fU (aN 1 (pv 1)))))) (az (bh (Qj zF hr T.g_Must (ak (nv 2) aJ)))) cF)
   (aB (gM (fU (aN 1 (pv 1))) (az (bh (Qj Ip hr T.g_May (ak (nv 2) aJ)))) cF)
   (aB (gM (fU (aN 0 (pv 0))) (az (bh (Ly zH hr T.g_Torn))) cF)
   (az (bh (Ly zG hr T.g_Shut))))))
abbrev Al:Stmt:=top 16
theorem Tj:aF ["thing"] ["thing"] (aq Al):=scm
def uT:DSt->Out D:=(bV (o2b inD (gb 0) (kc (.str "abcdefghijklmnopqrstuvwxyz"))))
def zW:DSt->Out Fl:=(bB (sIf (orT (lY (tst (uY ju (gb 0)))) (lY (o3 leD leD (kc (.int 1)) (o1 bN (gb 0)) (kc (.int 8))))) (cz (kc (.bl false))) iQ)
 (cz (o1 allD (su (fX [none] (strO (gv 0)) (gN 0) (λ_=>.ok true) uT)))))
def ql:List D->Out D:=λds=>(dz 1 zW ds).bw
abbrev zA:Inf D:=⟨"is_name",1,["thing"],ql⟩
theorem SX(F:L2.Fun K "is_name" "is_name" Al f fd)(T:Txt K mg t):OD P w K mg base (Ga t L) zA f fd:=by
 obtain⟨u_MOST_SIGNS,Lf,MK⟩:=T.rA
 obtain⟨u_LETTERS,Vt,V5⟩:=T.zP
 refine okJ 0 zW F Tj λ_ _ _ _ _ _ hr=>?_
 exact(aB (gM (BW (uK (iw (fU (aL (lA (cv:=.ty "str") (.inr rfl) (T.ju _) rfl T.bR (aN 0 (pv 0)) (ir rfl T.b_str (by decide +kernel) rfl))))) (rE (iw (KJ (aL aA) (aL (cA rfl T.cQ (aN 0 (pv 0)))) (aL (de_c (Di (v:=.int 8) rfl Lf MK) (λ_=>.int _)))))))) (az (bh jE)) cF)
   (az (bh (de_all rfl rfl T.b_all (aL (Ea (oR (λa b c d=>jD (N':=["sign"]) (cap:=[none]) ⟨rfl,rfl,by decide +kernel,by decide +kernel,by rfl,trivial,⟨trivial,trivial⟩⟩ rfl a b c d) (di_str (nv 0)) (sh_n 0) (λ_ _ _ _ _=>ngc) (λ_ _ _ _ _=>lQ) (λ_ _ _ _ _=>(de_in (aN 0 (pv 0)) (aL (de_c (Di (v:=.str "abcdefghijklmnopqrstuvwxyz") rfl Vt V5) (λ_=>.str _))))))))))))
abbrev jR:Stmt:=top 17
theorem yN:aF ["thing"] ["thing"] (aq jR):=scm
def iB:DSt->Out D:=(oF 1 ql (aj (gv 0) aD))
def jK:DSt->Out Fl:=(bB (sIf (orT (lY (tst (uY c7 (gb 0)))) (lY (o3 leD leD (kc (.int 1)) (o1 bN (gb 0)) (kc (.int 8))))) (cz (kc (.bl false))) iQ)
 (cz (zN (o1 allD (su (fX [none] (iR (gv 0)) (gN 0) (λ_=>.ok true) iB))) (bV (o2b eqD (o1 Ff (gv 0)) (o1 bN (gb 0)))))))
def jG:List D->Out D:=λds=>(dz 1 jK ds).bw
abbrev jH:Inf D:=⟨"is_action_list",2,["thing"],jG⟩
theorem yH(F:L2.Fun K "is_action_list" "is_action_list" jR f fd)(T:Txt K mg t)(zj:DD P w K mg base (Ga t L) zA):OD P w K mg base (Ga t L) jH f fd:=by
 obtain⟨u_MOST_ACTIONS,Ey,FJ⟩:=T.mV
 refine okJ 1 jK F yN λ_ _ _ _ _ _ hr=>?_
 exact(aB (gM (BW (uK (iw (fU (aL (lA (cv:=.ty "list") (.inr rfl) (T.c7 _) rfl T.bR (aN 0 (pv 0)) (ir rfl T.wQ (by decide +kernel) rfl))))) (rE (iw (KJ (aL aA) (aL (cA rfl T.cQ (aN 0 (pv 0)))) (aL (de_c (Di (v:=.int 8) rfl Ey FJ) (λ_=>.int _)))))))) (az (bh jE)) cF)
   (az (bh (wU (de_all rfl rfl T.b_all (aL (Ea (oR (λa b c d=>jD (N':=["name"]) (cap:=[none]) ⟨rfl,rfl,by decide +kernel,by decide +kernel,by rfl,trivial,⟨trivial,trivial⟩⟩ rfl a b c d) (rC (nv 0)) (sh_n 0) (λ_ _ _ _ _=>ngc) (λ_ _ _ _ _=>lQ) (λ_ _ _ _ _=>(cT zj hr (ak (nv 0) aJ))))))) (wV (wy hr.units (aL (Vk rfl rfl T.cQ rfl T.b_set (nv 0))) (aL (cA rfl T.cQ (aN 0 (pv 0))))))))))
abbrev nQ:Stmt:=top 18
theorem Cq:aF ["actions"] ["actions"] (aq nQ):=scm
def m6:DSt->Out Fl:=(sIf (lY (tst (oF 1 jG (aj (gv 0) aD)))) (λ_=>.stuck) iQ)
def je:List D->Out D:=λds=>(dz 1 m6 ds).bw
abbrev mR:Inf D:=⟨"need_actions",3,["actions"],je⟩
theorem Ck(F:L2.Fun K "need_actions" "need_actions" nQ f fd)(T:Txt K mg t)(jF:DD P w K mg base (Ga t L) jH):OD P w K mg base (Ga t L) mR f fd:=by
 refine okJ 2 m6 F Cq λ_ _ _ _ _ _ hr=>?_
 exact(az (gM (iw (fU (aL (cT jF hr (ak (nv 0) aJ))))) (az xX) cF))
abbrev Am:Stmt:=top 19
theorem Tn:aF ["thing","many"] ["thing","many"] (aq Am):=scm
def zX:DSt->Out Fl:=(cz (zN (uY pB (gb 0)) (zN (notV (uY kj (gb 0))) (bV (o3 leD ltD (kc (.int 0)) (gb 0) (gb 1))))))
def vQ:List D->Out D:=λds=>(dz 2 zX ds).bw
abbrev zB:Inf D:=⟨"is_room",1,["thing","many"],vQ⟩
theorem S7(F:L2.Fun K "is_room" "is_room" Am f fd)(T:Txt K mg t):OD P w K mg base (Ga t L) zB f fd:=by
 refine okJ 0 zX F Tn λ_ _ _ _ _ _ hr=>?_
 exact(az (bh (wU (lA (cv:=.ty "int") (.inr rfl) (T.pB _) rfl T.bR (aN 0 (pv 0)) (ir rfl T.Iv (by decide +kernel) rfl)) (wU (de_not (lA (cv:=.ty "bool") (.inr rfl) (T.kj _) rfl T.bR (aN 0 (pv 0)) (ir rfl T.b_bool (by decide +kernel) rfl))) (wV (de_lelt (aL aA) (aN 0 (pv 0)) (aN 1 (pv 1))))))))
abbrev nP:Stmt:=top 20
theorem ue:aF ["thing","many","torn_too","word"] ["thing","many","torn_too"] (aq nP):=scm
def mZ:DSt->Out Fl:=(bB (sIf (orT (lY (tst (uY dD (gb 0)))) (o2b neD (o1 bN (gb 0)) (kc (.int 2)))) (cz (kc (.bl false))) iQ)
 (bB (bD 3 (o2 ixD (gvo 0) (kc (.int 0))))
 (bB (sIf (lY (tst (uY ju (gb 3)))) (cz (kc (.bl false))) iQ)
 (bB (sIf (orT (o2b eqD (gb 3) (kc (.str "must"))) (o2b eqD (gb 3) (kc (.str "may")))) (cz (oF 2 vQ (aj (o2 ixD (gvo 0) (kc (.int 1))) (aj (gv 1) aD)))) iQ)
 (cz (zN (bV (o2b isND (o2 ixD (gvo 0) (kc (.int 1))) (kc .non))) (orV (bV (o2b eqD (gb 3) (kc (.str "shut")))) (zN (bV (o2b eqD (gb 3) (kc (.str "torn")))) (gv 2)))))))))
def jd:List D->Out D:=λds=>(dz 4 mZ ds).bw
abbrev mQ:Inf D:=⟨"is_told_door",2,["thing","many","torn_too"],jd⟩
theorem Cj(F:L2.Fun K "is_told_door" "is_told_door" nP f fd)(T:Txt K mg t)(zq:DD P w K mg base (Ga t L) zB):OD P w K mg base (Ga t L) mQ f fd:=by
 refine okJ 1 mZ F ue λ_ _ _ _ _ _ hr=>?_
 exact(aB (gM (BW (uK (iw (fU (aL (lA (cv:=.ty "tuple") (.inr rfl) (T.dD _) rfl T.bR (aN 0 (pv 0)) (ir rfl T.xQ (by decide +kernel) rfl))))) (rE (uJ hr.units (aL (cA rfl T.cQ (aN 0 (pv 0)))) (aL aA))))) (az (bh jE)) cF)
   (aB (dB 3 ue.nd (aZ 0 (pv 0) aA))
   (aB (gM (iw (fU (aL (lA (cv:=.ty "str") (.inr rfl) (T.ju _) rfl T.bR (aN 3 (pv 3)) (ir rfl T.b_str (by decide +kernel) rfl))))) (az (bh jE)) cF)
   (aB (gM (BW (uK (Ph hr.units (aN 3 (pv 3)) (aL bO)) (rE (Ph hr.units (aN 3 (pv 3)) (aL bO))))) (az (bh (cT zq hr (ak (aZ 0 (pv 0) aA) (ak (nv 1) aJ))))) cF)
   (az (bh (wU (de_is (aL (aZ 0 (pv 0) aA)) (aL ji)) (wV (de_or (wy hr.units (aN 3 (pv 3)) (aL bO)) (wV (wU (wy hr.units (aN 3 (pv 3)) (aL bO)) (wV (nv 2)))))))))))))
abbrev tQ:Stmt:=top 21
theorem gZ:aF ["rows","many_actions","torn_too","room","row","action","thing"] ["rows","many_actions","torn_too"] (aq tQ):=scm
def nj:DSt->Out Fl:=(sIf (lY (tst (oF 3 jd (aj (gv 6) (aj (o1 bN (gb 0)) (aj (gv 2) aD)))))) (λ_=>.stuck) iQ)
def ni:DSt->Out Fl:=(bB (sIf (orT (lY (tst (uY c7 (gb 4)))) (o2b neD (o1 bN (gb 4)) (gb 1))) (λ_=>.stuck) iQ)
 (cM (enum (gv 4)) (gT 2 (cD (gN 5) (cD (gN 6) lG))) nj))
def rW:DSt->Out Fl:=(bB (sIf (orT (lY (tst (uY c7 (gb 0)))) (lY (o3 leD leD (kc (.int 1)) (o1 bN (gb 0)) (kc (.int 2000))))) (λ_=>.stuck) iQ)
 (cM (enum (gv 0)) (gT 2 (cD (gN 3) (cD (gN 4) lG))) ni))
def gH:List D->Out D:=λds=>(dz 7 rW ds).bw
abbrev qU:Inf D:=⟨"need_rooms",3,["rows","many_actions","torn_too"],gH⟩
theorem HH(F:L2.Fun K "need_rooms" "need_rooms" tQ f fd)(T:Txt K mg t)(mH:DD P w K mg base (Ga t L) mQ):OD P w K mg base (Ga t L) qU f fd:=by
 obtain⟨u_MOST_ROOMS,Ld,MJ⟩:=T.rm
 refine okJ 2 rW F gZ λ_ _ _ _ _ _ hr=>?_
 exact(aB (gM (BW (uK (iw (fU (aL (lA (cv:=.ty "list") (.inr rfl) (T.c7 _) rfl T.bR (aN 0 (pv 0)) (ir rfl T.wQ (by decide +kernel) rfl))))) (rE (iw (KJ (aL aA) (aL (cA rfl T.cQ (aN 0 (pv 0)))) (aL (de_c (Di (v:=.int 2000) rfl Ld MJ) (λ_=>.int _)))))))) (az xX) cF)
   (az (qy (Uc rfl T.oK (nv 0)) (zR (n:=2) (λh=>Ag rfl h) (fC (ngn gZ.nd) (fC (ngn gZ.nd) vU (λa b=>fL a b)) (λa b=>fL a b))) (aB (gM (BW (uK (iw (fU (aL (lA (cv:=.ty "list") (.inr rfl) (T.c7 _) rfl T.bR (aN 4 (pv 4)) (ir rfl T.wQ (by decide +kernel) rfl))))) (rE (uJ hr.units (aL (cA rfl T.cQ (aN 4 (pv 4)))) (aN 1 (pv 1)))))) (az xX) cF)
   (az (qy (Uc rfl T.oK (nv 4)) (zR (n:=2) (λh=>Ag rfl h) (fC (ngn gZ.nd) (fC (ngn gZ.nd) vU (λa b=>fL a b)) (λa b=>fL a b))) (az (gM (iw (fU (aL (cT mH hr (ak (nv 6) (ak (cA rfl T.cQ (aN 0 (pv 0))) (ak (nv 2) aJ))))))) (az xX) cF))))))))
abbrev vD:Stmt:=top 22
theorem yO:aF ["told","word"] ["told"] (aq vD):=scm
def uM:DSt->Out Fl:=(bB (bD 1 (o2 ixD (gvo 0) (kc (.int 0))))
 (cz (oF 3 vP (aj (bV (o2b inD (gb 1) (bL (aj (kc (.str "must")) (aj (kc (.str "torn")) aD))))) (aj (bV (o2b inD (gb 1) (bL (aj (kc (.str "must")) (aj (kc (.str "may")) aD))))) (aj (o2 ixD (gvo 0) (kc (.int 1))) aD))))))
def j0:List D->Out D:=λds=>(dz 2 uM ds).bw
abbrev uD:Inf D:=⟨"made_door",5,["told"],j0⟩
theorem Mr(F:L2.Fun K "made_door" "made_door" vD f fd)(T:Txt K mg t)(zg:DD P w K mg base (Ga t L) zy):OD P w K mg base (Ga t L) uD f fd:=by
 refine okJ 4 uM F yO λ_ _ _ _ _ _ hr=>?_
 exact(aB (dB 1 yO.nd (aZ 0 (pv 0) aA))
   (az (bh (cT zg hr (ak (de_in (aN 1 (pv 1)) (aL (eE (ak bO (ak bO aJ))))) (ak (de_in (aN 1 (pv 1)) (aL (eE (ak bO (ak bO aJ))))) (ak (aZ 0 (pv 0) aA) aJ)))))))
abbrev vG:Stmt:=top 23
theorem Nh:aF ["row"] ["row"] (aq vG):=scm
def pX:DSt->Out D:=(oF 1 j0 (aj (gv 0) aD))
def uN:DSt->Out Fl:=(cz (oC (one1 xr) (aj (su (fX [none] (iR (gv 0)) (gN 0) (λ_=>.ok true) pX)) aD)))
def j5:List D->Out D:=λds=>(dz 1 uN ds).bw
abbrev uE:Inf D:=⟨"made_room",6,["row"],j5⟩
theorem Ms(F:L2.Fun K "made_room" "made_room" vG f fd)(T:Txt K mg t)(uv:DD P w K mg base (Ga t L) uD):OD P w K mg base (Ga t L) uE f fd:=by
 refine okJ 5 uN F Nh λ_ _ _ _ _ _ hr=>?_
 exact(az (bh (Ed rfl T.xQ (Ea (oR (λa b c d=>jD (N':=["told"]) (cap:=[none]) ⟨rfl,rfl,by decide +kernel,by decide +kernel,by rfl,trivial,⟨trivial,trivial⟩⟩ rfl a b c d) (rC (nv 0)) (sh_n 0) (λ_ _ _ _ _=>ngc) (λ_ _ _ _ _=>lQ) (λ_ _ _ _ _=>(cT uv hr (ak (nv 0) aJ))))))))
abbrev vH:Stmt:=top 24
theorem Ni:aF ["doors"] ["doors"] (aq vH):=scm
def pY:DSt->Out D:=(oM "told" 1 vJ (gv 0) aD)
def uO:DSt->Out Fl:=(sRetf (fX [none] (iR (gv 0)) (gN 0) (λ_=>.ok true) pY))
def j6:List D->Out (List D):=λds=>(runL 1 uO ds).bw
abbrev uF:Inf (List D):=⟨"told_room",3,["doors"],j6⟩
theorem Mu(F:L2.Fun K "told_room" "told_room" vH f fd)(T:Txt K mg t)(Dt:mU P w K mg base (Ga t L) "told" (spD K (Ga t L) 1) 2 vJ):ODf P w K mg base (Ga t L) uF f fd:=by
 refine okJf 2 uO F Ni λ_ _ _ _ _ _ hr=>?_
 exact(az (ds_retf (oR (λa b c d=>jD (N':=["door"]) (cap:=[none]) ⟨rfl,rfl,by decide +kernel,by decide +kernel,by rfl,trivial,⟨trivial,trivial⟩⟩ rfl a b c d) (rC (nv 0)) (sh_n 0) (λ_ _ _ _ _=>ngc) (λ_ _ _ _ _=>lQ) (λ_ _ _ _ _=>(wZ Dt hr (nv 0))))))
abbrev sJ:Stmt:=inClass (top 25) 0
theorem HJ:aF ["self","actions","rows"] ["self","actions","rows"] (aq sJ):=⟨rfl,rfl,rfl,by decide +kernel,rfl,by decide +kernel,by decide +kernel⟩
def nu:DSt->Out D:=(oF 1 j5 (aj (gv 0) aD))
def CK:DSt->Out D:=(oF 1 je (aj (gv 1) aD))
def CN:DSt->Out D:=(o1 bN (gb 1))
def CP:DSt->Out D:=(oC (one1 xr) (aj (gv 1) aD))
def CQ:DSt->Out D:=(oC (one1 xr) (aj (su (fX [none] (iR (gv 2)) (gN 0) (λ_=>.ok true) nu)) aD))
def Jm(torn:Bool)(ds:List D):Out (List (Str×D)):=match ds with
 | [acts,rows] =>
  let δ:DSt:=[none,some (.sh acts),some (.sh rows)]
  (CK δ).bw.bind λ_=>(CN δ).bw.bind λn=>(gH [rows,n,.bl torn]).bw.bind λ_=>(CP δ).bw.bind λta=>(CQ δ).bw.bind λtr=>.ok [("actions",ta),("rooms",tr)]
 | _=>.stuck
def I_Draft:List D->Out (List (Str×D)):=Jm true
def JR:List D->Out (List (Str×D)):=Jm false
def spT(b:Bool):Sp:=λvs H Q _=>∃v,vs=[v]/\Q (.bl b) H
abbrev sO:Stmt:=inClass (top 25) 1
theorem HN:aF ["self"] ["self"] (aq sO):=⟨rfl,rfl,rfl,by decide +kernel,rfl,by decide +kernel,by decide +kernel⟩
theorem Hk{f:Addr}{fd:FuncData}(F:L2.Fun K "lets_torn" "Draft.lets_torn" sO f fd):cP P w K mg base CX0 1 f fd ["self"] (spT true):=by
 refine F.ok HN (λvs H Q E h=>?_) (λcdv A outer s H vs Q E hr h=>?_)
 .obtain⟨v,rfl,_⟩:=h
  rfl
 .obtain⟨v,rfl,q⟩:=h
  exact⟨_,pG (w6 pe_bl),q⟩
abbrev vo:Stmt:=inClass (top 26) 0
theorem M8:aF ["self"] ["self"] (aq vo):=⟨rfl,rfl,rfl,by decide +kernel,rfl,by decide +kernel,by decide +kernel⟩
theorem Mg{f:Addr}{fd:FuncData}(F:L2.Fun K "lets_torn" "Plan.lets_torn" vo f fd):cP P w K mg base CX0 1 f fd ["self"] (spT false):=by
 refine F.ok M8 (λvs H Q E h=>?_) (λcdv A outer s H vs Q E hr h=>?_)
 .obtain⟨v,rfl,_⟩:=h
  rfl
 .obtain⟨v,rfl,q⟩:=h
  exact⟨_,pG (w6 pe_bl),q⟩
theorem Vw{K:Frag}{Γ:Nat->Option Addr}{G H:Hp}{a C dx:Addr}{v1 v2:V}{acts rows:D}{torn:Bool}{Q:VK}{E:XK}(hH:H a=some (.ins C dx []))(ga:G a=none)(sg:aP G H)(r1:Rep K Γ G v1 acts)(r2:Rep K Γ G v2 rows)(cl:Cls K C)(na1:bH K C "actions")(na2:bH K C "rooms")
  (w:wpO (Jm torn [acts,rows]) (λfds=>∀fs G' H',aP G G'->(∀b o,H b=some o->b≠a->H' b=some o)->aP G' H'->(∀b,H b≠none->G b=none->G' b=none)->H' a=some (.ins C dx fs)->dG K Γ G' fs fds->Q .non H')
   (λx=>∀a' G' H',aP G G'->(∀b o,H b=some o->b≠a->H' b=some o)->aP G' H'->(∀b,H b≠none->G b=none->G' b=none)->Rep K Γ G' (.ref a') x->E (.ref a') none H')) :
  tSeq (uf (teD K Γ E0 CK)) (tSeq (uf (Gm (spD K Γ 3 gH) [] E0 (pJ (teD K Γ E0 (gv 2)) (pJ (teD K Γ E0 CN) (pJ (tMeth C "lets_torn" (spT torn) [] E0 (kJ 0) vI) vI))))) (tSeq (sFld K (kJ 0) (teD K Γ E0 CP) "actions") (sFld K (kJ 0) (teD K Γ E0 CQ) "rooms"))) { nx:=λ_ H'=>Q .non H',rt:=Q } [some (.ref a),some v1,some v2] H:=by
 have S0:SR K Γ G H G H [some (.ref a),some v1,some v2] [none,some (.sh acts),some (.sh rows)]:=by
  refine⟨.refl sg,rfl,λ_=>none,λi x e=>?_⟩
  match i,e with
  | 1,e=>cases e;exact⟨v1,rfl,r1⟩
  | 2,e=>cases e;exact⟨v2,rfl,r2⟩
  | i+3,e=>simp at e
 have g2:gv 2 [none,some (.sh acts),some (.sh rows)]=.ok rows:=rfl
 have w1:=cU (R':=exD K Γ E0 G H) (ao w)
 refine⟨G,H,G,_,S0,w1.mono (λd1 w1 u1 G1 H1 s1 _=>?_) λ_ k=>k⟩
 have S1:=S0.step s1
 refine⟨G,H,G1,_,S1,?_⟩
 rw[g2]
 intro u2 G2 H2 s2 q2
 have S2:=S1.step s2
 have w2:=cU (R':=exD K Γ E0 G2 H2) (ao w1)
 refine⟨G,H,G2,_,S2,w2.mono (λn w2 u3 G3 H3 s3 q3=>?_) λ_ k=>k⟩
 have s03:=((s1.trans s2).trans s3)
 refine⟨_,rfl,a,dx,[],rfl,s03.hh _ _ hH,rfl,_,rfl,rfl,G3,[rows,n,.bl torn],s03.gh,.cons (q2.mono s3.gg) (.cons q3 (.cons (.bl _) .nil)),?_⟩
 have w3:=cU (R':=exD K Γ E0 G3 H3) (ao w2)
 refine w3.mono (λd3 w3 u4 G4 H4 s4 _=>?_) λ_ k=>k
 have s04:=s03.trans s4
 have S4:=S0.step s04
 have w4:=cU (R':=exD K Γ E0 G4 H4) (ao w3)
 refine⟨G,H,G4,_,S4,w4.mono (λta w4 u5 G5 H5 s5 q5=>?_) λ_ k=>k⟩
 have s05:=s04.trans s5
 have g5:G5 a=none:=s05.sep a (by rw[hH];exact λz=>nomatch z) ga
 refine⟨_,rfl,a,C,dx,[],rfl,s05.hh _ _ hH,cl,na1,(by decide),?_⟩
 have st5:Step G5 (upd H5 a (.ins C dx (jP "actions" u5 []))) G5 (upd H5 a (.ins C dx (jP "actions" u5 []))):=.refl λb o e=>by rw[aR (aX e g5)];exact s05.gh _ _ e
 have S5:SR K Γ G5 (upd H5 a (.ins C dx (jP "actions" u5 []))) G5 (upd H5 a (.ins C dx (jP "actions" u5 []))) [some (.ref a),some v1,some v2] [none,some (.sh acts),some (.sh rows)]:=by
  refine⟨st5,rfl,λ_=>none,λi x e=>?_⟩
  match i,e with
  | 1,e=>cases e;exact⟨v1,rfl,r1.mono s05.gg⟩
  | 2,e=>cases e;exact⟨v2,rfl,r2.mono s05.gg⟩
  | i+3,e=>simp at e
 have w5:=cU (R':=exD K Γ E0 G5 (upd H5 a (.ins C dx (jP "actions" u5 [])))) (ao w4)
 refine⟨_,_,G5,_,S5,w5.mono (λtr w5 u6 G6 H6 s6 q6=>?_) λ_ k=>k⟩
 have h6:=s6.hh _ _ (aK (H:=H5) (a:=a) (o:=.ins C dx (jP "actions" u5 [])))
 refine⟨_,rfl,a,C,dx,_,rfl,h6,cl,na2,(by show 1<1000;decide),?_⟩
 have g6:G6 a=none:=s6.sep a (by rw[aK];exact λz=>nomatch z) g5
 have ne:¬(("actions":Str)="rooms"):=by decide +kernel
 have ef:jP "rooms" u6 (jP "actions" u5 [])=[(("actions":Str),u5),(("rooms":Str),u6)]:=by
  show (if ("actions":Str)="rooms" then _ else (("actions":Str),u5)::jP "rooms" u6 [])=_
  rw[WD ne]
  rfl
 refine w5 [("actions",u5),("rooms",u6)] G6 _ (s05.gg.trans s6.gg) (λb o e hb=>?_) (λb o e=>?_) (λb hb g0=>?_) (by rw[aK,ef]) (.cons (q5.mono s6.gg) (.cons q6 .nil))
 .rw[aR hb]
  exact s6.hh _ _ (by rw[aR hb];exact s05.hh _ _ e)
 .rw[aR (aX e g6)]
  exact s6.gh _ _ e
 .refine s6.sep b (λz=>?_) (s05.sep b hb g0)
  by_cases e:b=a
  .subst e;rw[aK] at z;cases z
  .rw[aR e] at z
   cases q:H b with
   | none=>exact hb q
   | some o=>rw[s05.hh _ _ q] at z;cases z
theorem wF{f fT C:Addr}{fd fdT:FuncData}{c:Nat}{torn:Bool}(F:L2.Fun K "__init__" "Draft.__init__" sJ f fd)(T:Txt K mg t)(iV:DD P w K mg base (Ga t L) mR)(lH:DD P w K mg base (Ga t L) qU)(nZ:DD P w K mg base (Ga t L) uE)(hC:Ga t L c=some C)(cl:Cls K C)(na1:bH K C "actions")(na2:bH K C "rooms")(hmT:Meth K C "lets_torn" fT)(GT:cP P w K mg base CX0 1 fT fdT ["self"] (spT torn))(bT:Binds K fdT ["self"] []):cP P w K mg base CX0 7 f fd ["self","actions","rows"] (spI K (Ga t L) c 2 (Jm torn)):=by
 obtain⟨yj,fd_need_rooms,JQ,Ku,Ls,Ln⟩:=lH.ex
 refine F.ok HJ (λvs H Q E h=>h.1) (λcdv A outer s H vs Q E hr h=>?_)
 obtain⟨hl,a,dx,C',us,G,ds,rfl,hH,hC',ga,sg,r,w⟩:=h
 rw[hC] at hC'
 cases hC'
 cases r with
 | nil=>cases hl
 | @cons v1 us acts ds r1 r =>
  cases r with
  | nil=>cases hl
  | @cons v2 us rows ds r2 r =>
   cases r with
   | cons _ _=>cases hl
   | nil =>
    refine⟨tSeq (uf (teD K (Ga t L) E0 CK)) (tSeq (uf (Gm (spD K (Ga t L) 3 gH) [] E0 (pJ (teD K (Ga t L) E0 (gv 2)) (pJ (teD K (Ga t L) E0 CN) (pJ (tMeth C "lets_torn" (spT torn) [] E0 (kJ 0) vI) vI))))) (tSeq (sFld K (kJ 0) (teD K (Ga t L) E0 CP) "actions") (sFld K (kJ 0) (teD K (Ga t L) E0 CQ) "rooms"))),u9 (mj (cT iV hr (ak (nv 1) aJ))) (u9 (mj (Dh JQ (hr.mono (by decide)) rfl Ls Ln Ku .nil uZ (bM (nv 2) (bM (cA rfl T.cQ (aN 1 (pv 1))) (bM (pe_meth0 (pv 0) cl hmT GT (hr.mono (by decide)) bT .nil uZ) eO))))) (u9 (Mz (pv 0) (Ed rfl T.xQ (nv 1)) rfl) (pG (Mz (pv 0) (Ed rfl T.xQ (Ea (oR (λa b c d=>jD (N':=["row"]) (cap:=[none]) ⟨rfl,rfl,by decide +kernel,by decide +kernel,by rfl,trivial,⟨trivial,trivial⟩⟩ rfl a b c d) (rC (nv 2)) (sh_n 0) (λ_ _ _ _ _=>ngc) (λ_ _ _ _ _=>lQ) (λ_ _ _ _ _=>(cT nZ hr (ak (nv 0) aJ)))))) rfl)))),?_⟩
    exact Vw hH ga sg r1 r2 cl na1 na2 w
abbrev sS:Stmt:=inClass (top 25) 3
theorem HQ:aF ["self"] ["self"] (aq sS):=scm
def rK:DSt->Out Fl:=(cz (o1 bN (gC "rooms" [d7,fu] (gv 0))))
def lJ:List D->Out D:=λds=>(dz 1 rK ds).bw
abbrev JT:Inf D:=⟨"many",1,["self"],lJ⟩
theorem Hl(F:L2.Fun K "many" "Draft.many" sS f fd)(T:Txt K mg t):OD P w K mg base (Ga t L) JT f fd:=by
 refine okJ 0 rK F HQ λ_ _ _ _ _ _ hr=>?_
 exact(az (bh (cA rfl T.cQ (aL (gO (cs:=[d7,fu]) ⟨⟨t.Draft,rfl,T.CT.cls,T.dh⟩,⟨t.Plan,rfl,T.Li.cls,T.dR⟩,trivial⟩ (nv 0))))))
def qD:List (Nat×(List D->Out D)):=[(d7,lJ),(fu,lJ)]
abbrev sU:Stmt:=inClass (top 25) 5
theorem HR:aF ["self"] ["self"] (aq sU):=scm
def nA:DSt->Out (List D):=(oFl 1 j6 (aj (gv 0) aD))
def rM:DSt->Out Fl:=(Tf (fX [none] (iR (gC "rooms" [d7,fu] (gv 0))) (gN 0) (λ_=>.ok true) nA))
def iY:List D->Out (List (List D)):=λds=>(runLL 1 rM ds).bw
abbrev JV:Inf (List (List D)):=⟨"told",4,["self"],iY⟩
theorem Hm(F:L2.Fun K "told" "Draft.told" sU f fd)(T:Txt K mg t)(ux:DDf P w K mg base (Ga t L) uF):ODg P w K mg base (Ga t L) JV f fd:=by
 refine okJg 3 rM F HR λ_ _ _ _ _ _ hr=>?_
 exact(az (ds_retff (dff_comp (λa b c d=>jD (N':=["doors"]) (cap:=[none]) ⟨rfl,rfl,by decide +kernel,by decide +kernel,by rfl,trivial,⟨trivial,trivial⟩⟩ rfl a b c d) (rC (gO (cs:=[d7,fu]) ⟨⟨t.Draft,rfl,T.CT.cls,T.dh⟩,⟨t.Plan,rfl,T.Li.cls,T.dR⟩,trivial⟩ (nv 0))) (sh_n 0) (λ_ _ _ _ _=>ngc) (λ_ _ _ _ _=>lQ) (λ_ _ _ _ _=>(ncallF ux hr (ak (nv 0) aJ))))))
def nT:List (Nat×(List D->Out (List (List D)))):=[(d7,iY),(fu,iY)]
abbrev jQ:Stmt:=inClass (top 28) 0
theorem yM:aF ["self","first"] ["self","first"] (aq jQ):=scm
def jJ:DSt->Mem->Res Fl:=(dm (Jk "pairs" [aO] (fO (gv 0)) (lstC (aH (fO (gv 1)) dW)))
 (dm (Jk "places" [aO] (fO (gv 0)) (lstC (aH (fO (kc (.int 0))) dW)))
 (Jk "steps" [aO] (fO (gv 0)) (lstC (aH (fO (kc (.int 0))) dW)))))
def bY:Mem->List D->Res D:=λμ ds=>(yK false 2 jJ μ ds).bw
abbrev zx:InfS:=⟨"__init__",1,["self","first"],bY⟩
theorem yG(F:L2.Fun K "__init__" "Trail.__init__" jQ f fd)(T:Txt K mg t):ODs P w K mg base (Ga0 t) zx f fd:=by
 refine okJs false 0 jJ F yM λ_ _ _ _ _ _ hr=>?_
 exact(aU (Nt (cs:=[aO]) ⟨⟨t.Trail,rfl,T.jr.cls,T.di⟩,trivial⟩ (bx λL=>(nv 0)) (Nj (bc (bx λL=>(nv 1)) iH)))
   (aU (Nt (cs:=[aO]) ⟨⟨t.Trail,rfl,T.jr.cls,T.fK⟩,trivial⟩ (bx λL=>(nv 0)) (Nj (bc (bx λL=>aA) iH)))
   (cO (Nt (cs:=[aO]) ⟨⟨t.Trail,rfl,T.jr.cls,T.gA⟩,trivial⟩ (bx λL=>(nv 0)) (Nj (bc (bx λL=>aA) iH))))))
abbrev sZ:Stmt:=inClass (top 28) 1
theorem Ib:aF ["self","pair","place","action"] ["self","pair","place","action"] (aq sZ):=scm
def rP:DSt->Mem->Res Fl:=(dm (Dz (rdS 1 (gC "pairs" [aO] (gv 0))) (fO (gv 1)))
 (dm (Dz (rdS 1 (gC "places" [aO] (gv 0))) (fO (gv 2)))
 (Dz (rdS 1 (gC "steps" [aO] (gv 0))) (fO (gv 3)))))
def lK:Mem->List D->Res D:=λμ ds=>(yK false 4 rP μ ds).bw
abbrev J1:InfS:=⟨"come",1,["self","pair","place","action"],lK⟩
theorem Ht(F:L2.Fun K "come" "Trail.come" sZ f fd)(T:Txt K mg t):ODs P w K mg base (Ga0 t) J1 f fd:=by
 refine okJs false 0 rP F Ib λ_ _ _ _ _ _ hr=>?_
 exact(aU (nappS (wH 1 λL=>(gO (cs:=[aO]) ⟨⟨t.Trail,rfl,T.jr.cls,T.di⟩,trivial⟩ (nv 0))) (bx λL=>(nv 1)))
   (aU (nappS (wH 1 λL=>(gO (cs:=[aO]) ⟨⟨t.Trail,rfl,T.jr.cls,T.fK⟩,trivial⟩ (nv 0))) (bx λL=>(nv 2)))
   (cO (nappS (wH 1 λL=>(gO (cs:=[aO]) ⟨⟨t.Trail,rfl,T.jr.cls,T.gA⟩,trivial⟩ (nv 0))) (bx λL=>(nv 3))))))
def Gw:List (Nat×(Mem->List D->Res D)):=[(aO,lK)]
abbrev vA:Stmt:=inClass (top 28) 2
theorem tR:aF ["self","place","row"] ["self","place"] (aq vA):=scm
def jW:DSt->Out Bool:=(o2b gtD (gb 1) (kc (.int 0)))
def gQ:DSt->Out Fl:=(bB (um 2 (o2 ixD (gC "steps" [aO] (gv 0)) (gv 1)))
 (bD 1 (o2 ixD (gC "places" [aO] (gv 0)) (gv 1))))
def oZ:DSt->Out Fl:=(bB (gY 2 (uI aD))
 (bB (FZ (λ_=>300) jW gQ)
 (bB (sRev 2)
 (FW 2))))
def ou:List D->Out (List D):=λds=>(runL 3 oZ ds).bw
abbrev Ol:Inf (List D):=⟨"row",1,["self","place"],ou⟩
theorem Mm(F:L2.Fun K "row" "Trail.row" vA f fd)(T:Txt K mg t):ODf P w K mg base (Ga t L) Ol f fd:=by
 refine okJf 0 oZ F tR λ_ _ _ _ _ _ hr=>?_
 exact(aB (yF 2 tR.nd (wW aJ))
   (aB (nwhile (λ_=>300) (dt_gt (aN 1 (pv 1)) (aL aA)) (aB (napp 2 (fW (gO (cs:=[aO]) ⟨⟨t.Trail,rfl,T.jr.cls,T.gA⟩,trivial⟩ (nv 0)) (nv 1)))
   (az (dB 1 tR.nd (fW (gO (cs:=[aO]) ⟨⟨t.Trail,rfl,T.jr.cls,T.fK⟩,trivial⟩ (nv 0)) (nv 1))))))
   (aB (ds_rev 2 (pv 2) (λa=>mj (pe_bm0 Yk PySem.F.slot_list_reverse PySem.F.type_list_reverse Sv a)))
   (az (xY 2 (pv 2))))))
def tW:List (Nat×(List D->Out (List D))):=[(aO,ou)]
abbrev Ak:Stmt:=top 29
theorem Gg:aF ["heads","room"] ["heads","room"] (aq Ak):=scm
def iM:DSt->Mem->Res Bool:=(rdT 3 (o2b neD (o2 ixD (gvo 0) (gv 1)) (gb 1)))
def gq:DSt->Mem->Res Fl:=(dm (putS (rdS 3 (o2 ixD (gvo 0) (o2 ixD (gvo 0) (gv 1)))) (fO (gv 0)) (fO (gv 1)))
 (tU 1 (rdS 3 (o2 ixD (gvo 0) (gv 1)))))
def vX:DSt->Mem->Res Fl:=(dm (λδ μ=>whS iM gq ((λ_=>300) δ) δ μ)
 (retS (fO (gv 1))))
def qj:Mem->List D->Res D:=λμ ds=>(yK false 2 vX μ ds).bw
abbrev zz:InfS:=⟨"head_of",1,["heads","room"],qj⟩
theorem SQ(F:L2.Fun K "head_of" "head_of" Ak f fd)(T:Txt K mg t):ODs P w K mg base (Ga0 t) zz f fd:=by
 refine okJs false 0 vX F Gg λ_ _ _ _ _ _ hr=>?_
 exact(aU (Ut (λ_=>300) (st_rd 3 λL=>(uJ hr.units (aL (aZ 0 (pv 0) (nv 1))) (aN 1 (pv 1)))) (aU (ss_put (wH 3 λL=>(aZ 0 (pv 0) (aZ 0 (pv 0) (nv 1)))) (bx λL=>(nv 0)) (bx λL=>(nv 1)) (λa b c=>Fz a (Fx b c set_list)))
   (cO (yE 1 Gg.nd (wH 3 λL=>(aZ 0 (pv 0) (nv 1)))))))
   (cO (nR (bx λL=>(nv 1)))))
abbrev Gb:Stmt:=top 30
theorem Ao:aF ["heads","one","other","head","last"] ["heads","one","other"] (aq Gb):=scm
def Ex:DSt->Mem->Res Fl:=(dm (tU 3 (gj 2 qj (aH (fO (gv 0)) (aH (fO (gv 1)) dW))))
 (dm (tU 4 (gj 2 qj (aH (fO (gv 0)) (aH (fO (gv 2)) dW))))
 (dm (putS (fO (gv 4)) (fO (gv 0)) (fO (gv 3)))
 (retS (fO (bV (o2b neD (gb 3) (gb 4))))))))
def jZ:Mem->List D->Res D:=λμ ds=>(yK false 5 Ex μ ds).bw
abbrev Dq:InfS:=⟨"joined",2,["heads","one","other"],jZ⟩
theorem VR(F:L2.Fun K "joined" "joined" Gb f fd)(T:Txt K mg t)(vO:DDs P w K mg base (Ga0 t) zz):ODs P w K mg base (Ga0 t) Dq f fd:=by
 refine okJs false 1 Ex F Ao λ_ _ _ _ _ _ hr=>?_
 exact(aU (yE 3 Ao.nd (sE vO hr (bc (bx λL=>(nv 0)) (bc (bx λL=>(nv 1)) iH))))
   (aU (yE 4 Ao.nd (sE vO hr (bc (bx λL=>(nv 0)) (bc (bx λL=>(nv 2)) iH))))
   (aU (ss_put (bx λL=>(nv 4)) (bx λL=>(nv 0)) (bx λL=>(nv 3)) (λa b c=>Fz a (Fx b c set_list)))
   (cO (nR (bx λL=>(de_ne hr.units (aN 3 (pv 3)) (aN 4 (pv 4)))))))))
abbrev nO:Stmt:=top 31
theorem lE:aF ["doors","others","action","door"] ["doors","others"] (aq nO):=scm
def jM:DSt->Out Fl:=(sIf (o2b neD (oM "word" 1 gD (gv 3) aD) (oM "word" 1 gD (o2 ixD (gvo 1) (gv 2)) aD)) (cz (gv 2)) iQ)
def mY:DSt->Out Fl:=(bB (cM (Je (gv 0)) (gT 2 (cD (gN 2) (cD (gN 3) lG))) jM)
 (cz (kc .non)))
def f9:List D->Out D:=λds=>(dz 4 mY ds).bw
abbrev mO:Inf D:=⟨"first_unlike",2,["doors","others"],f9⟩
theorem Ci(F:L2.Fun K "first_unlike" "first_unlike" nO f fd)(T:Txt K mg t)(wO:mU P w K mg base (Ga t L) "word" (spD K (Ga t L) 1) 1 gD):OD P w K mg base (Ga t L) mO f fd:=by
 refine okJ 1 mY F lE λ_ _ _ _ _ _ hr=>?_
 exact(aB (qy (Pb rfl T.oK (nv 0)) (zR (n:=2) (λh=>Ag rfl h) (fC (ngn lE.nd) (fC (ngn lE.nd) vU (λa b=>fL a b)) (λa b=>fL a b))) (az (gM (uJ hr.units (aL (wZ wO hr (nv 3))) (aL (wZ wO hr (aZ 1 (pv 1) (nv 2))))) (az (bh (nv 2))) cF)))
   (az (bh ji)))
abbrev An:Stmt:=top 32
theorem dj:aF ["plan","room","other","heads","trail","at","doors","others","unlike","action","door","to"] ["plan","room","other"] (aq An):=scm
def kE:DSt->Mem->Res Fl:=(dm (fO (bD 11 (gC "to" [eU,j8,d8,d9] (o2 ixD (gvo 7) (gv 9)))))
 (ifS (Iu (fO (tst (oM "allows" 1 iI (gv 10) aD))) (Cu (gj 3 jZ (aH (fO (gv 3)) (aH (fO (gC "to" [eU,j8,d8,d9] (gv 10))) (aH (fO (gv 11)) dW)))))) (Jg (methS "come" 4 Gw (fO (gv 4)) (aH (fO (bL (aj (gC "to" [eU,j8,d8,d9] (gv 10)) (aj (gv 11) aD)))) (aH (fO (gv 5)) (aH (fO (gv 9)) dW))))) wY))
def uX:DSt->Mem->Res Bool:=(rdT 3 (o2b ltD (gb 5) (o1 bN (gC "pairs" [aO] (gv 4)))))
def pD:DSt->Mem->Res Fl:=(dm (tU 6 (o2S ixD (fO (gC "rooms" [d7,fu] (gv 0))) (rdS 3 (o2 ixD (o2 ixD (gC "pairs" [aO] (gv 4)) (gv 5)) (kc (.int 0))))))
 (dm (tU 7 (o2S ixD (fO (gC "rooms" [d7,fu] (gv 0))) (rdS 3 (o2 ixD (o2 ixD (gC "pairs" [aO] (gv 4)) (gv 5)) (kc (.int 1))))))
 (dm (fO (bD 8 (oF 2 f9 (aj (gv 6) (aj (gv 7) aD)))))
 (dm (ifS (fO (o2b kI (gb 8) (kc .non))) (retS (tupS (aH (rdC 3 (oMFa "row" 2 tW (gv 4) (aj (gv 5) aD))) (aH (fO (gv 8)) dW)))) wY)
 (dm (yL (fO (Je (gv 6))) (gT 2 (cD (gN 9) (cD (gN 10) lG))) kE)
 (fO (sAugA 5 (kc (.int 1)))))))))
def vY:DSt->Mem->Res Fl:=(dm (tU 3 (rdC 0 (lrO (oM "many" 1 qD (gv 0) aD))))
 (dm (Jg (gj 3 jZ (aH (fO (gv 3)) (aH (fO (gv 1)) (aH (fO (gv 2)) dW)))))
 (dm (tU 4 (Jv aO 2 bY (aH (fO (bL (aj (gv 1) (aj (gv 2) aD)))) dW)))
 (dm (fO (bD 5 (kc (.int 0))))
 (dm (λδ μ=>whS uX pD ((λ_=>300) δ) δ μ)
 (retS (fO (kc .non))))))))
def iJ:Mem->List D->Res D:=λμ ds=>(yK false 12 vY μ ds).bw
abbrev vR:InfS:=⟨"parting",3,["plan","room","other"],iJ⟩
theorem S8(F:L2.Fun K "parting" "parting" An f fd)(T:Txt K mg t)(Rz:∀L:Plc,mU P w K mg base (Ga t L) "many" (spD K (Ga t L) 1) 1 qD)(xx:DDs P w K mg base (Ga0 t) Dq)(J2:Ini P w K mg base t.Trail 1 ["self","first"] (spS K (Ga0 t) 2 bY))(mG:DA' P w K mg base (Ga0 t) mO)(Om:∀L:Plc,mU P w K mg base (Ga t L) "row" (spF K (Ga t L) 2) 1 tW)(Ds:∀L:Plc,mU P w K mg base (Ga t L) "allows" (spD K (Ga t L) 1) 1 iI)(Ry:Io P w K mg base (Ga0 t) "come" (spS K (Ga0 t) 4) 1 Gw):ODs P w K mg base (Ga0 t) vR f fd:=by
 refine okJs false 2 vY F dj λ_ _ _ _ _ _ hr=>?_
 exact(aU (yE 3 dj.nd (se_rdC 0 λL=>(KC rfl rfl T.wQ rfl T.du (wZ (Rz L) hr (nv 0)))))
   (aU (U3 (sE xx hr (bc (bx λL=>(nv 3)) (bc (bx λL=>(nv 1)) (bc (bx λL=>(nv 2)) iH)))))
   (aU (yE 4 dj.nd (nmakeS J2 hr T.g_Trail (bc (bx λL=>(eE (ak (nv 1) (ak (nv 2) aJ)))) iH)))
   (aU (pI λL=>(dB 5 dj.nd aA))
   (aU (Ut (λ_=>300) (st_rd 3 λL=>(Pk (aN 5 (pv 5)) (aL (cA rfl T.cQ (aL (gO (cs:=[aO]) ⟨⟨t.Trail,rfl,T.jr.cls,T.di⟩,trivial⟩ (nv 4))))))) (aU (yE 6 dj.nd (se_ix (bx λL=>(gO (cs:=[d7,fu]) ⟨⟨t.Draft,rfl,T.CT.cls,T.dh⟩,⟨t.Plan,rfl,T.Li.cls,T.dR⟩,trivial⟩ (nv 0))) (wH 3 λL=>(fW (fW (gO (cs:=[aO]) ⟨⟨t.Trail,rfl,T.jr.cls,T.di⟩,trivial⟩ (nv 4)) (nv 5)) aA))))
   (aU (yE 7 dj.nd (se_ix (bx λL=>(gO (cs:=[d7,fu]) ⟨⟨t.Draft,rfl,T.CT.cls,T.dh⟩,⟨t.Plan,rfl,T.Li.cls,T.dR⟩,trivial⟩ (nv 0))) (wH 3 λL=>(fW (fW (gO (cs:=[aO]) ⟨⟨t.Trail,rfl,T.jr.cls,T.di⟩,trivial⟩ (nv 4)) (nv 5)) aA))))
   (aU (pI λL=>(dB 8 dj.nd (cT (mG.at L) hr (ak (nv 6) (ak (nv 7) aJ)))))
   (aU (yQ (Q6 λL=>(Pj (aN 8 (pv 8)) (aL ji))) (cO (nR (se_tup (bc (se_rdC 3 λL=>(df_meth (pe_methD ((Om L).ok (hr.mono (by decide))) uZ (nv 4) (ak (nv 5) aJ)))) (bc (bx λL=>(nv 8)) iH))))) mz)
   (aU (nforS (si_of λL=>(Pb rfl T.oK (nv 6))) (λL=>(zR (n:=2) (λh=>Ag rfl h) (fC (ngn dj.nd) (fC (ngn dj.nd) vU (λa b=>fL a b)) (λa b=>fL a b)))) (aU (pI λL=>(dB 11 dj.nd (gO (cs:=[eU,j8,d8,d9]) ⟨⟨t.Must,rfl,T.Lh.cls,T.iC⟩,⟨t.May,rfl,T.i_May.cls,T.jO⟩,⟨t.Shut,rfl,T.Ez.cls,T.iD⟩,⟨t.Torn,rfl,T.EY.cls,T.iG⟩,trivial⟩ (aZ 7 (pv 7) (nv 9)))))
   (cO (yQ (st_w (sw_and (Q6 λL=>(fU (aL (wZ (Ds L) hr (nv 10))))) (sw_and1 (Nu (sE xx hr (bc (bx λL=>(nv 3)) (bc (bx λL=>(gO (cs:=[eU,j8,d8,d9]) ⟨⟨t.Must,rfl,T.Lh.cls,T.iC⟩,⟨t.May,rfl,T.i_May.cls,T.jO⟩,⟨t.Shut,rfl,T.Ez.cls,T.iD⟩,⟨t.Torn,rfl,T.EY.cls,T.iG⟩,trivial⟩ (nv 10))) (bc (bx λL=>(nv 11)) iH)))))))) (cO (U3 (se_meth (pe_methS Ry (hr.mono (by decide)) uZ (bx λL=>(nv 4)) (bc (bx λL=>(eE (ak (gO (cs:=[eU,j8,d8,d9]) ⟨⟨t.Must,rfl,T.Lh.cls,T.iC⟩,⟨t.May,rfl,T.i_May.cls,T.jO⟩,⟨t.Shut,rfl,T.Ez.cls,T.iD⟩,⟨t.Torn,rfl,T.EY.cls,T.iG⟩,trivial⟩ (nv 10)) (ak (nv 11) aJ)))) (bc (bx λL=>(nv 5)) (bc (bx λL=>(nv 9)) iH))))))) mz))))
   (cO (pI λL=>(ds_aug 5 (λh=>ps_aug (i:=5) dj.nd rfl (by walk_at "o") h ip_add) aA)))))))))
   (cO (nR (bx λL=>ji))))))))
abbrev nJ:Stmt:=top 34
theorem Cp:aF ["_law_script","_law_k"] ["_law_script","_law_k"] (aq nJ):=scm
def mX:DSt->Out Fl:=(bB (sIf (o2b ltD (gb 1) (o1 bN (gb 0))) (cz (o2 ixD (gvo 0) (gv 1))) iQ)
 (cz (kc (.int 0))))
def dZ:List D->Out D:=λds=>(dz 2 mX ds).bw
abbrev jg:Inf D:=⟨"_law_cell_at",1,["_law_script","_law_k"],dZ⟩
theorem Ce(F:L2.Fun K "_law_cell_at" "_law_cell_at" nJ f fd)(T:Txt K mg t):OD P w K mg base (Ga t L) jg f fd:=by
 refine okJ 0 mX F Cp λ_ _ _ _ _ _ hr=>?_
 exact(aB (gM (Pk (aN 1 (pv 1)) (aL (cA rfl T.cQ (aN 0 (pv 0))))) (az (bh (aZ 0 (pv 0) (nv 1)))) cF)
   (az (bh aA)))
abbrev tO:Stmt:=top 35
theorem Ie:aF ["_law_found"] ["_law_found"] (aq tO):=scm
def rT:DSt->Out Fl:=(cz (zN (uY pB (gb 0)) (notV (uY kj (gb 0)))))
def cC:List D->Out D:=λds=>(dz 1 rT ds).bw
abbrev lM:Inf D:=⟨"_law_whole",1,["_law_found"],cC⟩
theorem HD(F:L2.Fun K "_law_whole" "_law_whole" tO f fd)(T:Txt K mg t):OD P w K mg base (Ga t L) lM f fd:=by
 refine okJ 0 rT F Ie λ_ _ _ _ _ _ hr=>?_
 exact(az (bh (wU (lA (cv:=.ty "int") (.inr rfl) (T.pB _) rfl T.bR (aN 0 (pv 0)) (ir rfl T.Iv (by decide +kernel) rfl)) (wV (de_not (lA (cv:=.ty "bool") (.inr rfl) (T.kj _) rfl T.bR (aN 0 (pv 0)) (ir rfl T.b_bool (by decide +kernel) rfl)))))))
abbrev tL:Stmt:=top 36
theorem qd:aF ["_law_cell","_law_k","_law_number"] ["_law_cell","_law_k"] (aq tL):=scm
def rR:DSt->Out Fl:=(bB (bD 2 (o2 cX (o2 bZ (o2 bZ (o2 ul (gv 0) (kc (.int 48271))) (o2 ul (gv 1) (kc (.int 7919)))) (kc (.int 104729))) (kc (.int 2147483647))))
 (bB (bD 2 (o2 cX (o2 bZ (o2 bZ (o2 ul (o2 cX (o2 ul (gv 2) (gv 2)) (kc (.int 2147483629))) (kc (.int 16807))) (o2 ul (gv 1) (kc (.int 104729)))) (kc (.int 11))) (kc (.int 2147483587))))
 (cz (o2 cX (o2 ul (gv 2) (gv 2)) (kc (.int 2147483549))))))
def bu:List D->Out D:=λds=>(dz 3 rR ds).bw
abbrev eX:Inf D:=⟨"_law_mixed",1,["_law_cell","_law_k"],bu⟩
theorem Hz(F:L2.Fun K "_law_mixed" "_law_mixed" tL f fd)(T:Txt K mg t):OD P w K mg base (Ga t L) eX f fd:=by
 refine okJ 0 rR F qd λ_ _ _ _ _ _ hr=>?_
 exact(aB (dB 2 qd.nd (cL (bW (bW (pQ (nv 0) aA) (pQ (nv 1) aA)) aA) aA))
   (aB (dB 2 qd.nd (cL (bW (bW (pQ (cL (pQ (nv 2) (nv 2)) aA) aA) (pQ (nv 1) aA)) aA) aA))
   (az (bh (cL (pQ (nv 2) (nv 2)) aA)))))
abbrev nH:Stmt:=top 37
theorem bU:aF ["_law_cell","_law_many","_law_x","_law_size","_law_names","_law_k","_law_letters","_law_j","_law_number"] ["_law_cell","_law_many"] (aq nH):=scm
def cW:DSt->Out Fl:=(bB (bD 8 (o2 bZ (o2 bZ (o2 eV (gv 2) (o2 bZ (gv 7) (kc (.int 2)))) (o2 ul (kc (.int 5)) (gv 7))) (o2 ul (gv 5) (o1 intD (bV (o2b eqD (gb 7) (o2 cX (o2 eV (gv 2) (kc (.int 8))) (gv 3))))))))
 (bD 6 (o2 bZ (gv 6) (o2 ixD (kc (.str "abcdefghijklmnopqrstuvwxyz")) (o2 cX (gv 8) (kc (.int 26)))))))
def eF:DSt->Out Fl:=(bB (bD 6 (kc (.str "")))
 (bB (cM (cY (gv 3)) (gN 7) cW)
 (um 4 (gv 6))))
def jj:DSt->Out Fl:=(bB (bD 2 (oF 2 bu (aj (gv 0) (aj (kc (.int 900)) aD))))
 (bB (bD 3 (o2 bZ (kc (.int 1)) (o2 cX (gv 2) (kc (.int 8)))))
 (bB (gY 4 (uI aD))
 (bB (cM (cY (gv 1)) (gN 5) eF)
 (FW 4)))))
def mJ:List D->Out D:=λds=>(dz 9 jj ds).bw
abbrev mK:Inf D:=⟨"_law_actions",2,["_law_cell","_law_many"],mJ⟩
theorem Cd(F:L2.Fun K "_law_actions" "_law_actions" nH f fd)(T:Txt K mg t)(bj:DD P w K mg base (Ga t L) eX):OD P w K mg base (Ga t L) mK f fd:=by
 refine okJ 1 jj F bU λ_ _ _ _ _ _ hr=>?_
 exact(aB (dB 2 bU.nd (cT bj hr (ak (nv 0) (ak aA aJ))))
   (aB (dB 3 bU.nd (bW aA (cL (nv 2) aA)))
   (aB (yF 4 bU.nd (wW aJ))
   (aB (qy (cg rfl T.du (nv 1)) (ngn bU.nd) (aB (dB 6 bU.nd bO)
   (aB (qy (cg rfl T.du (nv 3)) (ngn bU.nd) (aB (dB 8 bU.nd (bW (bW (ig (nv 2) (bW (nv 7) aA)) (pQ aA (nv 7))) (pQ (nv 5) (Cz rfl T.Iv (wy hr.units (aN 7 (pv 7)) (aL (cL (ig (nv 2) aA) (nv 3))))))))
   (az (dB 6 bU.nd (bW (nv 6) (fW bO (cL (nv 8) aA)))))))
   (az (napp 4 (nv 6))))))
   (az (xY 4 (pv 4)))))))
abbrev vC:Stmt:=top 38
theorem dJ:aF ["_law_script","_law_many","_law_acts","_law_rows_here","_law_room","_law_doors","_law_action","_law_k","_law_x","_law_word"] ["_law_script","_law_many","_law_acts"] (aq vC):=scm
def fQ:DSt->Out Fl:=(bB (bD 7 (o2 bZ (o2 ul (gv 4) (gv 2)) (gv 6)))
 (bB (bD 8 (oF 2 bu (aj (oF 2 dZ (aj (gv 0) (aj (o2 bZ (kc (.int 2)) (gv 7)) aD))) (aj (gv 7) aD))))
 (bB (bD 9 (o2 ixD (fJ (aj (kc (.str "must")) (aj (kc (.str "may")) (aj (kc (.str "shut")) (aj (kc (.str "may")) (aj (kc (.str "must")) (aj (kc (.str "shut")) (aj (kc (.str "may")) aD)))))))) (o2 cX (gv 8) (kc (.int 7)))))
 (um 5 (bL (aj (gv 9) (aj (o2 ixD (fJ (aj (o2 cX (o2 eV (gv 8) (kc (.int 7))) (gv 1)) (aj (kc .non) aD))) (o1 intD (bV (o2b eqD (gb 9) (kc (.str "shut")))))) aD)))))))
def gR:DSt->Out Fl:=(bB (gY 5 (uI aD))
 (bB (cM (cY (gv 2)) (gN 6) fQ)
 (frzd 5 (um 3 (gv 5)))))
def pA:DSt->Out Fl:=(bB (gY 3 (uI aD))
 (bB (cM (cY (gv 1)) (gN 4) gR)
 (FW 3)))
def uy:List D->Out D:=λds=>(dz 10 pA ds).bw
abbrev uC:Inf D:=⟨"_law_rows",2,["_law_script","_law_many","_law_acts"],uy⟩
theorem Mq(F:L2.Fun K "_law_rows" "_law_rows" vC f fd)(T:Txt K mg t)(bj:DD P w K mg base (Ga t L) eX)(cZ:DD P w K mg base (Ga t L) jg):OD P w K mg base (Ga t L) uC f fd:=by
 refine okJ 1 pA F dJ λ_ _ _ _ _ _ hr=>?_
 exact(aB (yF 3 dJ.nd (wW aJ))
   (aB (qy (cg rfl T.du (nv 1)) (ngn dJ.nd) (aB (yF 5 dJ.nd (wW aJ))
   (aB (qy (cg rfl T.du (nv 2)) (ngn dJ.nd) (aB (dB 7 dJ.nd (bW (pQ (nv 4) (nv 2)) (nv 6)))
   (aB (dB 8 dJ.nd (cT bj hr (ak (cT cZ hr (ak (nv 0) (ak (bW aA (nv 7)) aJ))) (ak (nv 7) aJ))))
   (aB (dB 9 dJ.nd (fW (rB (ak bO (ak bO (ak bO (ak bO (ak bO (ak bO (ak bO aJ)))))))) (cL (nv 8) aA)))
   (az (napp 5 (eE (ak (nv 9) (ak (fW (rB (ak (cL (ig (nv 8) aA) (nv 1)) (ak ji aJ))) (Cz rfl T.Iv (wy hr.units (aN 9 (pv 9)) (aL bO)))) aJ)))))))))
   (az (KH 5 (napp 3 (nv 5)))))))
   (az (xY 3 (pv 3)))))
abbrev tH:Stmt:=top 39
theorem dU:aF ["_law_many","_law_cell","_law_kinds_here","_law_k","_law_x","_law_j","_law_at"] ["_law_many","_law_cell"] (aq tH):=scm
def jA:DSt->Out Fl:=(bB (bD 6 (o2 bZ (kc (.int 1)) (o2 cX (o2 eV (gv 4) (o2 bZ (kc (.int 3)) (gv 5))) (o1 bN (gb 2)))))
 (bD 2 (o2 bZ (o2 bZ (oSl (gv 2) noI (soI (gv 6))) (fJ (aj (gv 3) aD))) (oSl (gv 2) (soI (gv 6)) noI))))
def jy:DSt->Out Fl:=(bB (bD 4 (oF 2 bu (aj (gv 1) (aj (o2 bZ (kc (.int 300)) (gv 3)) aD))))
 (cM (cY (o2 bZ (o2 cX (gv 4) (kc (.int 3))) (o1 intD (bV (o2b gtD (gb 3) (kc (.int 0))))))) (gN 5) jA))
def lW:DSt->Out Fl:=(bB (bD 2 (fJ (aj (kc (.int 0)) aD)))
 (bB (cM (cY (gv 0)) (gN 3) jy)
 (cz (gv 2))))
def jc:List D->Out D:=λds=>(dz 7 lW ds).bw
abbrev qQ:Inf D:=⟨"_law_kinds",2,["_law_many","_law_cell"],jc⟩
theorem Hx(F:L2.Fun K "_law_kinds" "_law_kinds" tH f fd)(T:Txt K mg t)(bj:DD P w K mg base (Ga t L) eX):OD P w K mg base (Ga t L) qQ f fd:=by
 refine okJ 1 lW F dU λ_ _ _ _ _ _ hr=>?_
 exact(aB (dB 2 dU.nd (rB (ak aA aJ)))
   (aB (qy (cg rfl T.du (nv 0)) (ngn dU.nd) (aB (dB 4 dU.nd (cT bj hr (ak (nv 1) (ak (bW aA (nv 3)) aJ))))
   (az (qy (cg rfl T.du (bW (cL (nv 4) aA) (Cz rfl T.Iv (de_gt (aN 3 (pv 3)) (aL aA))))) (ngn dU.nd) (aB (dB 6 dU.nd (bW aA (cL (ig (nv 4) (bW aA (nv 5))) (cA rfl T.cQ (aN 2 (pv 2))))))
   (az (dB 2 dU.nd (bW (bW (xW (nv 2) CG (CJ (nv 6))) (rB (ak (nv 3) aJ))) (xW (nv 2) (CJ (nv 6)) CG)))))))))
   (az (bh (nv 2)))))
abbrev tE:Stmt:=top 40
theorem cI:aF ["_law_rows_here","_law_cell","_law_kinds_here","_law_found","_law_i","_law_doors","_law_word","_law_to","_law_some"] ["_law_rows_here","_law_cell"] (aq tE):=scm
def nD:DSt->Out D:=(gv 0)
def dg:DSt->Out Fl:=(bB (bD 8 (su (fX [none,some 7,some 2] (cY (o1 bN (gb 2))) (gN 0) (o2b eqD (o2 ixD (gvo 2) (gv 0)) (gb 1)) nD)))
 (bB (sIf (o2b neD (gb 6) (kc (.str "shut"))) (bD 7 (o2 ixD (gvo 8) (o2 cX (oF 2 bu (aj (gv 1) (aj (o2 bZ (o2 bZ (kc (.int 400)) (o2 ul (kc (.int 9)) (gv 4))) (o1 bN (gb 5))) aD))) (o1 bN (gb 8))))) iQ)
 (um 5 (bL (aj (gv 6) (aj (gv 7) aD))))))
def gm:DSt->Out Fl:=(bB (gY 5 (uI aD))
 (bB (cM (iR (o2 ixD (gvo 0) (o2 ixD (gvo 2) (gv 4)))) (gT 2 (cD (gN 6) (cD (gN 7) lG))) dg)
 (frzd 5 (um 3 (gv 5)))))
def lU:DSt->Out Fl:=(bB (bD 2 (oF 2 jc (aj (o1 bN (gb 0)) (aj (gv 1) aD))))
 (bB (gY 3 (uI aD))
 (bB (cM (cY (o1 bN (gb 2))) (gN 4) gm)
 (FW 3))))
def iZ:List D->Out D:=λds=>(dz 9 lU ds).bw
abbrev qO:Inf D:=⟨"_law_blown",3,["_law_rows_here","_law_cell"],iZ⟩
theorem Hv(F:L2.Fun K "_law_blown" "_law_blown" tE f fd)(T:Txt K mg t)(qJ:DD P w K mg base (Ga t L) qQ)(bj:DD P w K mg base (Ga t L) eX):OD P w K mg base (Ga t L) qO f fd:=by
 refine okJ 2 lU F cI λ_ _ _ _ _ _ hr=>?_
 exact(aB (dB 2 cI.nd (cT qJ hr (ak (cA rfl T.cQ (aN 0 (pv 0))) (ak (nv 1) aJ))))
   (aB (yF 3 cI.nd (wW aJ))
   (aB (qy (cg rfl T.du (cA rfl T.cQ (aN 2 (pv 2)))) (ngn cI.nd) (aB (yF 5 cI.nd (wW aJ))
   (aB (qy (rC (aZ 0 (pv 0) (aZ 2 (pv 2) (nv 4)))) (zR (n:=2) (λh=>Ag rfl h) (fC (ngn cI.nd) (fC (ngn cI.nd) vU (λa b=>fL a b)) (λa b=>fL a b))) (aB (ds_setc 8 (λa b c d=>Td (i:=8) (N':=["_law_number","_law_to","_law_kinds_here"]) (cap:=[none,some 7,some 2]) ⟨rfl,rfl,by decide +kernel,by decide +kernel,by rfl,⟨⟨rfl,by walk_at "o"⟩,⟨rfl,by walk_at "o"⟩,trivial⟩,⟨trivial,⟨rfl,rfl,by walk_at "o"⟩,⟨rfl,rfl,by walk_at "o"⟩,trivial⟩⟩ rfl cI.nd rfl (by walk_at "o") a b c d rfl) (cg rfl T.du (cA rfl T.cQ (aN 2 (pv 2)))) (sh_n 0) (λ_ _ _ _ _=>ngc) (λ_ _ _ _ _=>(dts_one (Ph hr.units (aL (aZ 2 (pv 2) (nv 0))) (aN 1 (pv 1))))) (λ_ _ _ _ _=>(nv 0)))
   (aB (gM (uJ hr.units (aN 6 (pv 6)) (aL bO)) (az (dB 7 cI.nd (aZ 8 (pv 8) (cL (cT bj hr (ak (nv 1) (ak (bW (bW aA (pQ aA (nv 4))) (cA rfl T.cQ (aN 5 (pv 5)))) aJ))) (cA rfl T.cQ (aN 8 (pv 8))))))) cF)
   (az (napp 5 (eE (ak (nv 6) (ak (nv 7) aJ))))))))
   (az (KH 5 (napp 3 (nv 5)))))))
   (az (xY 3 (pv 3))))))
abbrev tK:Stmt:=top 42
theorem qb:aF ["_law_rows_here","_law_room","_law_other","_law_far","_law_turn","_law_one","_law_two"] ["_law_rows_here","_law_room","_law_other","_law_far","_law_turn"] (aq tK):=scm
def m9:DSt->Out Fl:=(sIf (Dy (o2b kI (o2 ixD (gvo 5) (kc (.int 1))) (kc .non)) (o2b ltD (wI 3 (bL (aj (o2 ixD (gvo 5) (kc (.int 1))) (aj (o2 ixD (gvo 6) (kc (.int 1))) aD))) (gv 4)) (gb 4))) (cz (kc (.bl true))) iQ)
def rQ:DSt->Out Fl:=(bB (cM (zipO (o2 ixD (gvo 0) (gv 1)) (o2 ixD (gvo 0) (gv 2))) (gT 2 (cD (gN 5) (cD (gN 6) lG))) m9)
 (cz (kc (.bl false))))
def gG:List D->Out D:=λds=>(dz 7 rQ ds).bw
abbrev qR:Inf D:=⟨"_law_leads",1,["_law_rows_here","_law_room","_law_other","_law_far","_law_turn"],gG⟩
theorem Hy(F:L2.Fun K "_law_leads" "_law_leads" tK f fd)(T:Txt K mg t):OD P w K mg base (Ga t L) qR f fd:=by
 refine okJ 0 rQ F qb λ_ _ _ _ _ _ hr=>?_
 exact(aB (qy (di_zip rfl T.b_zip (aZ 0 (pv 0) (nv 1)) (aZ 0 (pv 0) (nv 2))) (zR (n:=2) (λh=>Ag rfl h) (fC (ngn qb.nd) (fC (ngn qb.nd) vU (λa b=>fL a b)) (λa b=>fL a b))) (az (gM (BW (RX (Pj (aL (aZ 5 (pv 5) aA)) (aL ji)) (KN (Pk (aL (Ec 3 hr.units (pv 3) (eE (ak (aZ 5 (pv 5) aA) (ak (aZ 6 (pv 6) aA) aJ))) (nv 4) ⟨rfl,rfl,rfl,rfl⟩)) (aN 4 (pv 4)))))) (az (bh jE)) cF)))
   (az (bh jE)))
abbrev tD:Stmt:=top 41
theorem bQ:aF ["_law_rows_here","_law_many","_law_far","_law_room","_law_other","_law_size","_law_turn"] ["_law_rows_here"] (aq tD):=scm
def uU:DSt->Out D:=(o2 ixD (gvo 0) (kc (.int 0)))
def uV:DSt->Out D:=(o2 ixD (gvo 0) (kc (.int 0)))
def jz:DSt->Out Fl:=(sIf (o2b neD (su (fX [none] (iR (o2 ixD (gvo 0) (gv 3))) (gN 0) (λ_=>.ok true) uU)) (su (fX [none] (iR (o2 ixD (gvo 0) (gv 4))) (gN 0) (λ_=>.ok true) uV))) (QM 2 (kc (.int 0)) (bL (aj (gv 3) (aj (gv 4) aD)))) iQ)
def m7:DSt->Out Fl:=(cM (cY (gv 1)) (gN 4) jz)
def jB:DSt->Out Fl:=(sIf (Dy (xq 2 (bL (aj (gv 3) (aj (gv 4) aD)))) (tst (Jt 2 (oF 5 gG (aj (gv 0) (aj (gv 3) (aj (gv 4) (aj (gv 2) (aj (gv 6) aD))))))))) (QM 2 (gv 6) (bL (aj (gv 3) (aj (gv 4) aD)))) iQ)
def nq:DSt->Out Fl:=(cM (cY (gv 1)) (gN 4) jB)
def gr:DSt->Out Bool:=(o2b ltD (gb 5) (tLen 2))
def eG:DSt->Out Fl:=(bB (bD 5 (tLen 2))
 (bB (bD 6 (o2 bZ (gv 6) (kc (.int 1))))
 (cM (cY (gv 1)) (gN 3) nq)))
def lR:DSt->Out Fl:=(bB (bD 1 (o1 bN (gb 0)))
 (bB (Tg 2)
 (bB (cM (cY (gv 1)) (gN 3) m7)
 (bB (bD 5 (o1 yD (kc (.int 1))))
 (bB (bD 6 (kc (.int 0)))
 (bB (FZ (λ_=>500) gr eG)
 (frzd 2 (cz (gv 2)))))))))
def lL:List D->Out D:=λds=>(dz 7 lR ds).bw
abbrev qN:Inf D:=⟨"_law_apart",2,["_law_rows_here"],lL⟩
theorem Hu(F:L2.Fun K "_law_apart" "_law_apart" tD f fd)(T:Txt K mg t)(qK:DD P w K mg base (Ga t L) qR):OD P w K mg base (Ga t L) qN f fd:=by
 refine okJ 1 lR F bQ λ_ _ _ _ _ _ hr=>?_
 exact(aB (dB 1 bQ.nd (cA rfl T.cQ (aN 0 (pv 0))))
   (aB (ds_setT0 2 (λh=>MF (i:=2) bQ.nd rfl (by walk_at "o") h))
   (aB (qy (cg rfl T.du (nv 1)) (ngn bQ.nd) (az (qy (cg rfl T.du (nv 1)) (ngn bQ.nd) (az (gM (uJ hr.units (aL (Ea (oR (λa b c d=>jD (N':=["_law_told"]) (cap:=[none]) ⟨rfl,rfl,by decide +kernel,by decide +kernel,by rfl,trivial,⟨trivial,trivial⟩⟩ rfl a b c d) (rC (aZ 0 (pv 0) (nv 3))) (sh_n 0) (λ_ _ _ _ _=>ngc) (λ_ _ _ _ _=>lQ) (λ_ _ _ _ _=>(aZ 0 (pv 0) aA))))) (aL (Ea (oR (λa b c d=>jD (N':=["_law_told"]) (cap:=[none]) ⟨rfl,rfl,by decide +kernel,by decide +kernel,by rfl,trivial,⟨trivial,trivial⟩⟩ rfl a b c d) (rC (aZ 0 (pv 0) (nv 4))) (sh_n 0) (λ_ _ _ _ _=>ngc) (λ_ _ _ _ _=>lQ) (λ_ _ _ _ _=>(aZ 0 (pv 0) aA)))))) (az (Ud 2 hr.units (pv 2) aA (eE (ak (nv 3) (ak (nv 4) aJ))))) cF)))))
   (aB (dB 5 bQ.nd (RW aA))
   (aB (dB 6 bQ.nd aA)
   (aB (nwhile (λ_=>500) (Pk (aN 5 (pv 5)) (aL (Ua 2 rfl T.cQ (pv 2)))) (aB (dB 5 bQ.nd (Ua 2 rfl T.cQ (pv 2)))
   (aB (dB 6 bQ.nd (bW (nv 6) aA))
   (az (qy (cg rfl T.du (nv 1)) (ngn bQ.nd) (az (qy (cg rfl T.du (nv 1)) (ngn bQ.nd) (az (gM (BW (RX (Jd 2 hr.units (pv 2) (eE (ak (nv 3) (ak (nv 4) aJ)))) (KN (fU (aL (de_lent 2 (cT qK hr (ak (nv 0) (ak (nv 3) (ak (nv 4) (ak (nv 2) (ak (nv 6) aJ)))))))))))) (az (Ud 2 hr.units (pv 2) (nv 6) (eE (ak (nv 3) (ak (nv 4) aJ))))) cF)))))))))
   (az (KH 2 (bh (nv 2))))))))))
abbrev nM:Stmt:=top 43
theorem fM:aF ["_law_rows_here","_law_cell","_law_room","_law_action","_law_word","_law_doors"] ["_law_rows_here","_law_cell"] (aq nM):=scm
def jo:DSt->Out Fl:=(bB (bD 2 (o2 cX (gv 1) (o1 bN (gb 0))))
 (bB (bD 3 (o2 cX (o2 eV (gv 1) (kc (.int 64))) (o1 bN (o2 ixD (gvo 0) (gv 2)))))
 (bB (bD 4 (o2 ixD (fJ (aj (kc (.str "must")) (aj (kc (.str "may")) (aj (kc (.str "shut")) aD)))) (o2 cX (o2 eV (gv 1) (kc (.int 512))) (kc (.int 3)))))
 (bB (gY 5 (iR (o2 ixD (gvo 0) (gv 2))))
 (bB (sPut 5 (bL (aj (gv 4) (aj (o2 ixD (fJ (aj (o2 cX (o2 eV (gv 1) (kc (.int 1536))) (o1 bN (gb 0))) (aj (kc .non) aD))) (o1 intD (bV (o2b eqD (gb 4) (kc (.str "shut")))))) aD))) (gv 3))
 (frzd 5 (cz (o2 bZ (o2 bZ (oSl (gv 0) noI (soI (gv 2))) (fJ (aj (gv 5) aD))) (oSl (gv 0) (soI (o2 bZ (gv 2) (kc (.int 1)))) noI)))))))))
def fZ:List D->Out D:=λds=>(dz 6 jo ds).bw
abbrev mL:Inf D:=⟨"_law_changed",1,["_law_rows_here","_law_cell"],fZ⟩
theorem Cg(F:L2.Fun K "_law_changed" "_law_changed" nM f fd)(T:Txt K mg t):OD P w K mg base (Ga t L) mL f fd:=by
 refine okJ 0 jo F fM λ_ _ _ _ _ _ hr=>?_
 exact(aB (dB 2 fM.nd (cL (nv 1) (cA rfl T.cQ (aN 0 (pv 0)))))
   (aB (dB 3 fM.nd (cL (ig (nv 1) aA) (cA rfl T.cQ (aL (aZ 0 (pv 0) (nv 2))))))
   (aB (dB 4 fM.nd (fW (rB (ak bO (ak bO (ak bO aJ)))) (cL (ig (nv 1) aA) aA)))
   (aB (yF 5 fM.nd (df_list rfl T.wQ (aZ 0 (pv 0) (nv 2))))
   (aB (ds_put 5 (pv 5) (eE (ak (nv 4) (ak (fW (rB (ak (cL (ig (nv 1) aA) (cA rfl T.cQ (aN 0 (pv 0)))) (ak ji aJ))) (Cz rfl T.Iv (wy hr.units (aN 4 (pv 4)) (aL bO)))) aJ))) (nv 3) (λa b c=>Fz a (Fx b c set_list)))
   (az (KH 5 (bh (bW (bW (xW (nv 0) CG (CJ (nv 2))) (rB (ak (nv 5) aJ))) (xW (nv 0) (CJ (bW (nv 2) aA)) CG))))))))))
abbrev vB:Stmt:=top 44
theorem mq:aF ["_law_many","_law_acts","_law_cell","_law_rows_here","_law_room","_law_doors"] ["_law_many","_law_acts","_law_cell"] (aq vB):=scm
def fP:DSt->Out Fl:=(bB (gY 5 (repL (fJ (aj (bL (aj (kc (.str "shut")) (aj (kc .non) aD))) aD)) (gv 1)))
 (bB (sPut 5 (bL (aj (kc (.str "may")) (aj (oC minD (aj (o2 bZ (gv 4) (kc (.int 1))) (aj (o2 xn (gv 0) (kc (.int 1))) aD))) aD))) (o2 cX (o2 bZ (gv 2) (gv 4)) (gv 1)))
 (sAppm 3 5)))
def ph:DSt->Out Fl:=(bB (gY 3 (uI aD))
 (bB (cM (cY (gv 0)) (gN 4) fP)
 (bB (FT 3 (bL (aj (o2 ixD (fJ (aj (kc (.str "must")) (aj (kc (.str "may")) (aj (kc (.str "must")) aD)))) (o2 cX (o2 eV (gv 2) (kc (.int 8))) (kc (.int 3)))) (aj (kc (.int 0)) aD))) (o2 xn (gv 0) (kc (.int 1))) (o2 cX (gv 2) (gv 1)))
 (FW 3))))
def jY:List D->Out D:=λds=>(dz 6 ph ds).bw
abbrev uB:Inf D:=⟨"_law_line",1,["_law_many","_law_acts","_law_cell"],jY⟩
theorem Mp(F:L2.Fun K "_law_line" "_law_line" vB f fd)(T:Txt K mg t):OD P w K mg base (Ga t L) uB f fd:=by
 refine okJ 0 ph F mq λ_ _ _ _ _ _ hr=>?_
 exact(aB (yF 3 mq.nd (wW aJ))
   (aB (qy (cg rfl T.du (nv 0)) (ngn mq.nd) (aB (yF 5 mq.nd (df_rep (rB (ak (eE (ak bO (ak ji aJ))) aJ)) (nv 1)))
   (aB (ds_put 5 (pv 5) (eE (ak bO (ak (de_min rfl rfl T.b_min (ak (bW (nv 4) aA) (ak (Eb (nv 0) aA) aJ))) aJ))) (cL (bW (nv 2) (nv 4)) (nv 1)) (λa b c=>Fz a (Fx b c set_list)))
   (az (ds_appm 3 5 (pv 3) (pv 5) (λa b=>mj (pe_bm Yk YT YS v5 a (bM b eO))))))))
   (aB (ds_put2 3 (pv 3) (eE (ak (fW (rB (ak bO (ak bO (ak bO aJ)))) (cL (ig (nv 2) aA) aA)) (ak aA aJ))) (Eb (nv 0) aA) (cL (nv 2) (nv 1)) (λa b c=>Fz a (Fx b c set_list)))
   (az (xY 3 (pv 3))))))
abbrev tG:Stmt:=top 45
theorem wG:aF ["_law_rows_here","_law_room","_law_other","_law_action"] ["_law_rows_here","_law_room","_law_other"] (aq tG):=scm
def jw:DSt->Out Fl:=(sIf (o2b neD (o2 ixD (o2 ixD (o2 ixD (gvo 0) (gv 1)) (gv 3)) (kc (.int 0))) (o2 ixD (o2 ixD (o2 ixD (gvo 0) (gv 2)) (gv 3)) (kc (.int 0)))) (cz (gv 3)) iQ)
def lV:DSt->Out Fl:=(bB (cM (cY (o1 bN (o2 ixD (gvo 0) (gv 1)))) (gN 3) jw)
 (cz (kc .non)))
def jb:List D->Out D:=λds=>(dz 4 lV ds).bw
abbrev qP:Inf D:=⟨"_law_first",1,["_law_rows_here","_law_room","_law_other"],jb⟩
theorem Hw(F:L2.Fun K "_law_first" "_law_first" tG f fd)(T:Txt K mg t):OD P w K mg base (Ga t L) qP f fd:=by
 refine okJ 0 lV F wG λ_ _ _ _ _ _ hr=>?_
 exact(aB (qy (cg rfl T.du (cA rfl T.cQ (aL (aZ 0 (pv 0) (nv 1))))) (ngn wG.nd) (az (gM (uJ hr.units (aL (fW (fW (aZ 0 (pv 0) (nv 1)) (nv 3)) aA)) (aL (fW (fW (aZ 0 (pv 0) (nv 2)) (nv 3)) aA))) (az (bh (nv 3))) cF)))
   (az (bh ji)))
abbrev p8:Stmt:=top 46
theorem cN:aF ["_law_rows_here","_law_room","_law_other","_law_row","_law_far","_law_k","_law_action","_law_pair","_law_due"] ["_law_rows_here","_law_room","_law_other","_law_row","_law_far"] (aq p8):=scm
def fH:DSt->Out Fl:=(bB (bD 7 (bL (aj (o2 ixD (o2 ixD (o2 ixD (gvo 0) (gv 1)) (gv 6)) (kc (.int 1))) (aj (o2 ixD (o2 ixD (o2 ixD (gvo 0) (gv 2)) (gv 6)) (kc (.int 1))) aD))))
 (bB (bD 8 (zN (bV (o2b kI (o2 ixD (gvo 7) (kc (.int 0))) (kc .non))) (bV (o2b eqD (wI 4 (gv 7) (o1 yD (kc (.int 1)))) (o2 xn (o2 xn (o1 bN (gb 3)) (gv 5)) (kc (.int 1)))))))
 (sIf (o2b neD (gb 8) (bV (o2b eqD (gb 6) (o2 ixD (gvo 3) (gv 5))))) (cz (kc .non)) iQ)))
def fG:DSt->Out Fl:=(bB (sIf (orT (lY (tst (oF 1 cC (aj (o2 ixD (gvo 3) (gv 5)) aD)))) (orT (o2b ltD (o2 ixD (gvo 3) (gv 5)) (kc (.int 0))) (o2b geD (o2 ixD (gvo 3) (gv 5)) (o1 bN (o2 ixD (gvo 0) (gv 1)))))) (cz (kc .non)) iQ)
 (bB (sIf (o2b neD (wI 4 (bL (aj (gv 1) (aj (gv 2) aD))) (o1 yD (kc (.int 1)))) (o2 xn (o1 bN (gb 3)) (gv 5))) (cz (kc .non)) iQ)
 (bB (cM (cY (o2 bZ (o2 ixD (gvo 3) (gv 5)) (kc (.int 1)))) (gN 6) fH)
 (bB (bD 7 (bL (aj (o2 ixD (o2 ixD (o2 ixD (gvo 0) (gv 1)) (o2 ixD (gvo 3) (gv 5))) (kc (.int 1))) (aj (o2 ixD (o2 ixD (o2 ixD (gvo 0) (gv 2)) (o2 ixD (gvo 3) (gv 5))) (kc (.int 1))) aD))))
 (bB (bD 1 (o2 ixD (gvo 7) (kc (.int 0))))
 (bD 2 (o2 ixD (gvo 7) (kc (.int 1)))))))))
def jV:DSt->Out Fl:=(bB (cM (cY (o1 bN (gb 3))) (gN 5) fG)
 (cz (oF 3 jb (aj (gv 0) (aj (gv 1) (aj (gv 2) aD))))))
def gP:List D->Out D:=λds=>(dz 9 jV ds).bw
abbrev pP:Inf D:=⟨"_law_walked",2,["_law_rows_here","_law_room","_law_other","_law_row","_law_far"],gP⟩
theorem Fw(F:L2.Fun K "_law_walked" "_law_walked" p8 f fd)(T:Txt K mg t)(gF:DD P w K mg base (Ga t L) lM)(qI:DD P w K mg base (Ga t L) qP):OD P w K mg base (Ga t L) pP f fd:=by
 refine okJ 1 jV F cN λ_ _ _ _ _ _ hr=>?_
 exact(aB (qy (cg rfl T.du (cA rfl T.cQ (aN 3 (pv 3)))) (ngn cN.nd) (aB (gM (BW (uK (iw (fU (aL (cT gF hr (ak (aZ 3 (pv 3) (nv 5)) aJ))))) (uK (Pk (aL (aZ 3 (pv 3) (nv 5))) (aL aA)) (rE (dt_ge (aL (aZ 3 (pv 3) (nv 5))) (aL (cA rfl T.cQ (aL (aZ 0 (pv 0) (nv 1)))))))))) (az (bh ji)) cF)
   (aB (gM (uJ hr.units (aL (Ec 4 hr.units (pv 4) (eE (ak (nv 1) (ak (nv 2) aJ))) (RW aA) ⟨rfl,rfl,rfl,rfl⟩)) (aL (Eb (cA rfl T.cQ (aN 3 (pv 3))) (nv 5)))) (az (bh ji)) cF)
   (aB (qy (cg rfl T.du (bW (aZ 3 (pv 3) (nv 5)) aA)) (ngn cN.nd) (aB (dB 7 cN.nd (eE (ak (fW (fW (aZ 0 (pv 0) (nv 1)) (nv 6)) aA) (ak (fW (fW (aZ 0 (pv 0) (nv 2)) (nv 6)) aA) aJ))))
   (aB (dB 8 cN.nd (wU (de_isnot (aL (aZ 7 (pv 7) aA)) (aL ji)) (wV (wy hr.units (aL (Ec 4 hr.units (pv 4) (nv 7) (RW aA) ⟨rfl,rfl,rfl,rfl⟩)) (aL (Eb (Eb (cA rfl T.cQ (aN 3 (pv 3))) (nv 5)) aA))))))
   (az (gM (uJ hr.units (aN 8 (pv 8)) (aL (wy hr.units (aN 6 (pv 6)) (aL (aZ 3 (pv 3) (nv 5)))))) (az (bh ji)) cF)))))
   (aB (dB 7 cN.nd (eE (ak (fW (fW (aZ 0 (pv 0) (nv 1)) (aZ 3 (pv 3) (nv 5))) aA) (ak (fW (fW (aZ 0 (pv 0) (nv 2)) (aZ 3 (pv 3) (nv 5))) aA) aJ))))
   (aB (dB 1 cN.nd (aZ 7 (pv 7) aA))
   (az (dB 2 cN.nd (aZ 7 (pv 7) aA)))))))))
   (az (bh (cT qI hr (ak (nv 0) (ak (nv 1) (ak (nv 2) aJ)))))))
abbrev tM:Stmt:=top 47
theorem qe:aF ["_law_plan","_law_rows_here","_law_room","_law_other","_law_far","_law_found","_law_good"] ["_law_plan","_law_rows_here","_law_room","_law_other","_law_far"] (aq tM):=scm
def gJ:DSt->Mem->Res Fl:=(dm (tU 5 (gj 3 iJ (aH (fO (gv 0)) (aH (fO (gv 2)) (aH (fO (gv 3)) dW)))))
 (dm (ifS (fO (xq 4 (bL (aj (gv 2) (aj (gv 3) aD))))) (retS (rdS 3 (bV (o2b isND (gb 5) (kc .non))))) wY)
 (dm (ifS (rdT 3 (orT (lY (tst (uY dD (gb 5)))) (orT (o2b neD (o1 bN (gb 5)) (kc (.int 2))) (lY (tst (uY c7 (o2 ixD (gvo 5) (kc (.int 0))))))))) (retS (fO (kc (.bl false)))) wY)
 (dm (ifS (rdT 3 (orT (o2b neD (o1 bN (o2 ixD (gvo 5) (kc (.int 0)))) (tGet 4 (bL (aj (gv 2) (aj (gv 3) aD))))) (lY (tst (oF 1 cC (aj (o2 ixD (gvo 5) (kc (.int 1))) aD)))))) (retS (fO (kc (.bl false)))) wY)
 (dm (tU 6 (rdS 3 (bV (o2b eqD (o2 ixD (gvo 5) (kc (.int 1))) (oF 5 gP (aj (gv 1) (aj (gv 2) (aj (gv 3) (aj (o2 ixD (gvo 5) (kc (.int 0))) (aj (gv 4) aD))))))))))
 (dm (Dz (rdS 1 (o2 ixD (gvo 5) (kc (.int 0)))) (fO (kc (.int 0))))
 (retS (fO (gv 6)))))))))
def cG:Mem->List D->Res D:=λμ ds=>(yK false 7 gJ μ ds).bw
abbrev qT:InfS:=⟨"_law_right",4,["_law_plan","_law_rows_here","_law_room","_law_other","_law_far"],cG⟩
theorem HB(F:L2.Fun K "_law_right" "_law_right" tM f fd)(T:Txt K mg t)(mC:DDs P w K mg base (Ga0 t) vR)(gF:DA' P w K mg base (Ga0 t) lM)(pL:DA' P w K mg base (Ga0 t) pP):ODs P w K mg base (Ga0 t) qT f fd:=by
 refine okJs false 3 gJ F qe λ_ _ _ _ _ _ hr=>?_
 exact(aU (yE 5 qe.nd (sE mC hr (bc (bx λL=>(nv 0)) (bc (bx λL=>(nv 2)) (bc (bx λL=>(nv 3)) iH)))))
   (aU (yQ (Q6 λL=>(Jd 4 hr.units (pv 4) (eE (ak (nv 2) (ak (nv 3) aJ))))) (cO (nR (wH 3 λL=>(de_is (aN 5 (pv 5)) (aL ji))))) mz)
   (aU (yQ (st_rd 3 λL=>(BW (uK (iw (fU (aL (lA (cv:=.ty "tuple") (.inr rfl) (T.dD _) rfl T.bR (aN 5 (pv 5)) (ir rfl T.xQ (by decide +kernel) rfl))))) (uK (uJ hr.units (aL (cA rfl T.cQ (aN 5 (pv 5)))) (aL aA)) (rE (iw (fU (aL (lA (cv:=.ty "list") (.inr rfl) (T.c7 _) rfl T.bR (aL (aZ 5 (pv 5) aA)) (ir rfl T.wQ (by decide +kernel) rfl)))))))))) (cO (nR (bx λL=>jE))) mz)
   (aU (yQ (st_rd 3 λL=>(BW (uK (uJ hr.units (aL (cA rfl T.cQ (aL (aZ 5 (pv 5) aA)))) (aL (de_tget 4 hr.units (pv 4) (eE (ak (nv 2) (ak (nv 3) aJ)))))) (rE (iw (fU (aL (cT (gF.at L) hr (ak (aZ 5 (pv 5) aA) aJ))))))))) (cO (nR (bx λL=>jE))) mz)
   (aU (yE 6 qe.nd (wH 3 λL=>(wy hr.units (aL (aZ 5 (pv 5) aA)) (aL (cT (pL.at L) hr (ak (nv 1) (ak (nv 2) (ak (nv 3) (ak (aZ 5 (pv 5) aA) (ak (nv 4) aJ))))))))))
   (aU (nappS (wH 1 λL=>(aZ 5 (pv 5) aA)) (bx λL=>aA))
   (cO (nR (bx λL=>(nv 6))))))))))
abbrev s_law:Stmt:=top 48
theorem lF:aF ["_law_script","_law_x","_law_cell","_law_acts","_law_rows_here","_law_far","_law_plan","_law_k","_law_room","_law_other"] ["_law_script"] (aq s_law):=scm
def Um:DSt->Out D:=(oC (one1 listD) (aj (gv 0) aD))
def CZ:DSt->Mem->Res Fl:=(dm (fO (bD 8 (o2 cX (oF 2 bu (aj (gv 2) (aj (o2 bZ (kc (.int 801)) (gv 7)) aD))) (o1 bN (gb 4)))))
 (dm (fO (bD 9 (o2 cX (oF 2 bu (aj (gv 2) (aj (o2 bZ (kc (.int 811)) (gv 7)) aD))) (o1 bN (gb 4)))))
 (dm (ifS (orTS (notS (Cu (gj 5 cG (aH (fO (gv 6)) (aH (fO (gv 4)) (aH (fO (gv 8)) (aH (fO (gv 9)) (aH (fO (gv 5)) dW)))))))) (notS (Cu (gj 5 cG (aH (fO (gv 6)) (aH (fO (gv 4)) (aH (fO (gv 9)) (aH (fO (gv 8)) (aH (fO (gv 5)) dW))))))))) (retS (fO (kc (.bl false)))) wY)
 (ifS (orTS (notS (Cu (gj 5 cG (aH (fO (gv 6)) (aH (fO (gv 4)) (aH (fO (gv 8)) (aH (fO (gv 9)) (aH (fO (gv 5)) dW)))))))) (Ql (gj 3 iJ (aH (fO (gv 6)) (aH (fO (gv 8)) (aH (fO (gv 8)) dW)))))) (retS (fO (kc (.bl false)))) wY))))
def g_law:DSt->Mem->Res Fl:=(dm (fO (bD 1 (oF 2 bu (aj (oF 2 dZ (aj (gv 0) (aj (kc (.int 0)) aD))) (aj (kc (.int 0)) aD)))))
 (dm (fO (bD 2 (oF 2 dZ (aj (gv 0) (aj (kc (.int 1)) aD)))))
 (dm (fO (bD 3 (o2 bZ (kc (.int 1)) (o2 cX (o2 eV (gv 1) (kc (.int 5))) (kc (.int 3))))))
 (dm (fO (bD 4 (oF 3 uy (aj (gv 0) (aj (o2 bZ (kc (.int 1)) (o2 cX (gv 1) (kc (.int 5)))) (aj (gv 3) aD))))))
 (dm (ifS (fO (o2b eqD (o2 cX (o2 eV (gv 1) (kc (.int 15))) (kc (.int 2))) (kc (.int 1)))) (fO (bD 4 (oF 2 fZ (aj (oF 2 iZ (aj (gv 4) (aj (gv 2) aD))) (aj (oF 2 bu (aj (gv 2) (aj (kc (.int 800)) aD))) aD))))) wY)
 (dm (ifS (fO (o2b eqD (o2 cX (o2 eV (gv 1) (kc (.int 30))) (kc (.int 8))) (kc (.int 3)))) (fO (bD 4 (oF 3 jY (aj (o2 bZ (kc (.int 2)) (o2 cX (o2 eV (gv 1) (kc (.int 240))) (kc (.int 11)))) (aj (gv 3) (aj (oF 2 bu (aj (gv 2) (aj (kc (.int 800)) aD))) aD)))))) wY)
 (dm (fO (bD 5 (oF 1 lL (aj (gv 4) aD))))
 (dm (fO (bD 6 (oMk fu 2 JR (aj (oF 2 mJ (aj (gv 2) (aj (gv 3) aD))) (aj (su (fX [none] (iR (gv 4)) (gN 0) (λ_=>.ok true) Um)) aD)))))
 (dm (yL (fO (cY (kc (.int 4)))) (gN 7) CZ)
 (retS (fO (bV (o2b eqD (oM "told" 1 (tabDD nT) (gv 6) aD) (gb 4))))))))))))))
def F_law:Mem->List D->Res D:=λμ ds=>(yK false 10 g_law μ ds).bw
abbrev J_law:InfS:=⟨"law",9,["_law_script"],F_law⟩
theorem ok_law(F:L2.Fun K "law" "law" s_law f fd)(T:Txt K mg t)(bj:DA' P w K mg base (Ga0 t) eX)(cZ:DA' P w K mg base (Ga0 t) jg)(ut:DA' P w K mg base (Ga0 t) uC)(mF:DA' P w K mg base (Ga0 t) mL)(qH:DA' P w K mg base (Ga0 t) qO)(ur:DA' P w K mg base (Ga0 t) uB)(qG:DA' P w K mg base (Ga0 t) qN)(RB:IniA P w K mg base t.Plan 7 ["self","actions","rows"] (λL=>spI K (Ga t L) fu 2 JR))(mD:DA' P w K mg base (Ga0 t) mK)(iU:DDs P w K mg base (Ga0 t) qT)(mC:DDs P w K mg base (Ga0 t) vR)(Du:∀L:Plc,mU P w K mg base (Ga t L) "told" (spFF K (Ga t L) 1) 4 nT):ODs P w K mg base (Ga0 t) J_law f fd:=by
 refine okJs false 8 g_law F lF λ_ _ _ _ _ _ hr=>?_
 exact(aU (pI λL=>(dB 1 lF.nd (cT (bj.at L) hr (ak (cT (cZ.at L) hr (ak (nv 0) (ak aA aJ))) (ak aA aJ)))))
   (aU (pI λL=>(dB 2 lF.nd (cT (cZ.at L) hr (ak (nv 0) (ak aA aJ)))))
   (aU (pI λL=>(dB 3 lF.nd (bW aA (cL (ig (nv 1) aA) aA))))
   (aU (pI λL=>(dB 4 lF.nd (cT (ut.at L) hr (ak (nv 0) (ak (bW aA (cL (nv 1) aA)) (ak (nv 3) aJ))))))
   (aU (yQ (Q6 λL=>(Ph hr.units (aL (cL (ig (nv 1) aA) aA)) (aL aA))) (cO (pI λL=>(dB 4 lF.nd (cT (mF.at L) hr (ak (cT (qH.at L) hr (ak (nv 4) (ak (nv 2) aJ))) (ak (cT (bj.at L) hr (ak (nv 2) (ak aA aJ))) aJ)))))) mz)
   (aU (yQ (Q6 λL=>(Ph hr.units (aL (cL (ig (nv 1) aA) aA)) (aL aA))) (cO (pI λL=>(dB 4 lF.nd (cT (ur.at L) hr (ak (bW aA (cL (ig (nv 1) aA) aA)) (ak (nv 3) (ak (cT (bj.at L) hr (ak (nv 2) (ak aA aJ))) aJ))))))) mz)
   (aU (pI λL=>(dB 5 lF.nd (cT (qG.at L) hr (ak (nv 4) aJ))))
   (aU (pI λL=>(dB 6 lF.nd (Qj (RB.at L) hr T.g_Plan (ak (cT (mD.at L) hr (ak (nv 2) (ak (nv 3) aJ))) (ak (Ea (oR (λa b c d=>jD (N':=["_law_doors"]) (cap:=[none]) ⟨rfl,rfl,by decide +kernel,by decide +kernel,by rfl,trivial,⟨trivial,trivial⟩⟩ rfl a b c d) (rC (nv 4)) (sh_n 0) (λ_ _ _ _ _=>ngc) (λ_ _ _ _ _=>lQ) (λ_ _ _ _ _=>(de_list rfl T.wQ (nv 0))))) aJ)))))
   (aU (nforS (si_of λL=>(cg rfl T.du aA)) (λL=>(ngn lF.nd)) (aU (pI λL=>(dB 8 lF.nd (cL (cT (bj.at L) hr (ak (nv 2) (ak (bW aA (nv 7)) aJ))) (cA rfl T.cQ (aN 4 (pv 4))))))
   (aU (pI λL=>(dB 9 lF.nd (cL (cT (bj.at L) hr (ak (nv 2) (ak (bW aA (nv 7)) aJ))) (cA rfl T.cQ (aN 4 (pv 4))))))
   (aU (yQ (st_w (sw_or (Tq (Nu (sE iU hr (bc (bx λL=>(nv 6)) (bc (bx λL=>(nv 4)) (bc (bx λL=>(nv 8)) (bc (bx λL=>(nv 9)) (bc (bx λL=>(nv 5)) iH)))))))) (sw_or1 (Tq (Nu (sE iU hr (bc (bx λL=>(nv 6)) (bc (bx λL=>(nv 4)) (bc (bx λL=>(nv 9)) (bc (bx λL=>(nv 8)) (bc (bx λL=>(nv 5)) iH))))))))))) (cO (nR (bx λL=>jE))) mz)
   (cO (yQ (st_w (sw_or (Tq (Nu (sE iU hr (bc (bx λL=>(nv 6)) (bc (bx λL=>(nv 4)) (bc (bx λL=>(nv 8)) (bc (bx λL=>(nv 9)) (bc (bx λL=>(nv 5)) iH)))))))) (sw_or1 (st_notN (sE mC hr (bc (bx λL=>(nv 6)) (bc (bx λL=>(nv 8)) (bc (bx λL=>(nv 8)) iH)))))))) (cO (nR (bx λL=>jE))) mz))))))
   (cO (nR (bx λL=>(wy hr.units (aL (wZ (mU.dFF (Du L)) hr (nv 6))) (aN 4 (pv 4)))))))))))))))
end
end K10
namespace DL
open PySem MX L2
theorem O5{α β:Type}{fe:DSt->Out β}(g:α->D)(h:α->β):∀(xs:List α)(δ:DSt),(∀x∈xs,fe (δ.set 0 (some (.sh (g x))))=.ok (h x))->xV (gN 0) (λ_=>.ok true) fe (xs.map g) δ=.ok (xs.map h)
 | [],_,_=>rfl
 | x::xs,δ,k=>by
  have e1:=k x WY
  have e2:=O5 g h xs (δ.set 0 (some (.sh (g x)))) (λy hy=>by rw[List.set_set];exact k y (WR _ hy))
  rw[WN,WN]
  unfold xV
  simp only[gN,Out.jC,Out.aQ,Out.sG,e1,e2,if_true]
theorem oN{α β:Type}{cap:List (Option Nat)}{fi:DSt->Out (List D)}{fe:DSt->Out β}{δ:DSt}(g:α->D)(h:α->β)(xs:List α)(e:fi δ=.ok (xs.map g))(hz:xs.length<1000000)(k:∀x∈xs,fe ((capD cap δ).set 0 (some (.sh (g x))))=.ok (h x)):fX cap fi (gN 0) (λ_=>.ok true) fe δ=.ok (xs.map h):=by
 unfold fX
 rw[e]
 simp only[Out.aQ]
 rw[Wu (by rw[Wx];exact WQ hz (by decide)),O5 g h xs _ k]
theorem RN(l:List Bool):uH (l.map D.bl)=some l:=by
 induction l with
 | nil=>rfl
 | cons b l ih=>simp[uH,ih,asB]
theorem Wa(l:List Str):Gi (l.map D.str)=some l:=by
 induction l with
 | nil=>rfl
 | cons b l ih=>simp[Gi,ih]
theorem Oz{α:Type}(f:α->Bool)(l:List α):allD (.lst (l.map λx=>.bl (f x)))=some (.bl (l.all f)):=by
 unfold allD
 have:(l.map λx=>D.bl (f x))=(l.map f).map D.bl:=by simp
 rw[this]
 simp only[Ac,Option.bind_some,RN,Option.map_some]
 congr 2
 induction l with
 | nil=>rfl
 | cons a l ih=>simp
theorem QF(n:Nat):rngL 0 n=(List.range n).map λi=>D.int (i:Nat):=by
 unfold rngL
 congr 1
 funext i
 rw[Int.zero_add]
theorem La{α:Type}{body:DSt->Out Fl}{tg:D->DSt->Option DSt}(g:α->D)(I:List α->DSt->Prop):∀(xs done:List α)(δ:DSt),(∀x done δ,I done δ->x∈xs->∃δ1,tg (g x) δ=some δ1/\nxP (body δ1) (I (done++[x])))->I done δ->∃δ',qu tg body (xs.map g) δ=.ok (.nx δ')/\I (done++xs) δ'
 | [],done,δ,_,i=>⟨δ,rfl,by simpa using i⟩
 | x::xs,done,δ,h,i=>by
  obtain⟨δ1,e1,w⟩:=h x done δ i WY
  obtain⟨δ',e2,i'⟩:=Uu w
  obtain⟨δ2,e3,i2⟩:=La g I xs (done++[x]) δ' (λy dn δ hi hy=>h y dn δ hi (WR _ hy)) i'
  exact⟨δ2,by rw[WN];unfold qu;rw[e1];simp only[Out.jC,Out.aQ,e2];exact e3,by simpa using i2⟩
theorem ym{α:Type}{body:DSt->Out Fl}{tg:D->DSt->Option DSt}(g:α->D)(I:List α->DSt->Prop)(xs:List α)(δ:DSt)(h:∀x done rest δ,xs=done++x::rest->I done δ->∃δ1,tg (g x) δ=some δ1/\nxP (body δ1) (I (done++[x])))(i:I [] δ):∃δ',qu tg body (xs.map g) δ=.ok (.nx δ')/\I xs δ':=by
 have go:∀(ys done:List α)(δ:DSt),xs=done++ys->I done δ->∃δ',qu tg body (ys.map g) δ=.ok (.nx δ')/\I xs δ':=by
  intro ys
  induction ys with
  | nil=>intro done δ e i;exact⟨δ,rfl,by rw[e,Xi];exact i⟩
  | cons x ys ih =>
   intro done δ e i
   obtain⟨δ1,e1,w⟩:=h x done ys δ e i
   obtain⟨δ',e2,i'⟩:=Uu w
   obtain⟨δ2,e3,i2⟩:=ih (done++[x]) δ' (by rw[e];simp) i'
   exact⟨δ2,by rw[WN];unfold qu;rw[e1];simp only[Out.jC,Out.aQ,e2];exact e3,i2⟩
 exact go xs [] δ rfl i
theorem rng_lo(j:Int)(h:0<=j):(-(2 ^ 62):Int)<=j:=by omega
theorem rng_hi(j:Int)(h:j<1000000):j<(2 ^ 62:Int):=by omega
theorem rng1_int{f:DSt->Out D}{δ:DSt}{j:Int}(h:f δ=.ok (.int j))(h0:0<=j)(h1:j<1000000):cY f δ=.ok (rngL 0 j.toNat):=by
 unfold cY
 rw[h]
 simp only[Out.aQ]
 rw[Wu ⟨rng_lo j h0,rng_hi j h1⟩]
theorem vd{f:DSt->Out D}{δ:DSt}{n:Nat}(h:f δ=.ok (.int (n:Nat)))(hn:n<1000000):cY f δ=.ok ((List.range n).map λi=>D.int (i:Nat)):=by
 have a:(n:Int)<1000000:=by omega
 have b:(0:Int)<=(n:Int):=by omega
 generalize hj:(n:Int)=j at h a b
 have e:=rng1_int h b a
 have t:j.toNat=n:=by omega
 rw[e,t,QF]
open PySem.Builtin PySem.Builtin.Str
def ofL(l:List Nat):Str:=⟨l.toArray⟩
theorem Dc(l:List Nat):(ofL l).length=l.length:=by show l.toArray.size=_;simp
theorem ofL_inj{a b:List Nat}(h:ofL a=ofL b):a=b:=by
 have:=Xd (λs:Str=>s.cps.toList) h
 simpa[ofL] using this
theorem ofL_app(a b:List Nat):ofL a++ofL b=ofL (a++b):=by
 show Str.append (ofL a) (ofL b)=_
 unfold Str.append ofL
 simp
theorem abc:(Str.ofString "abcdefghijklmnopqrstuvwxyz")=ofL ((List.range 26).map (97+·)):=by decide +kernel
theorem abc_at{i:Int}(h0:0<=i)(h1:i<26):ixD (.str "abcdefghijklmnopqrstuvwxyz") (.int i)=some (.str (ofL [97+i.toNat])):=by
 obtain⟨k,rfl⟩:=Int.eq_ofNat_of_zero_le h0
 have hk:k<26:=by omega
 have key:∀k:Fin 26,ixD (.str (Str.ofString "abcdefghijklmnopqrstuvwxyz")) (.int ((k.val:Nat):Int))=some (.str (ofL [97+((k.val:Nat):Int).toNat])):=by
  intro k
  have e:(if (Str.ofString "abcdefghijklmnopqrstuvwxyz").length<=sizeLine then (atI (Str.ofString "abcdefghijklmnopqrstuvwxyz").cps.toList ((k.val:Nat):Int)).map λc=>D.str ⟨#[c]⟩ else none)=ixD (.str (Str.ofString "abcdefghijklmnopqrstuvwxyz")) (.int ((k.val:Nat):Int)):=rfl
  rw[←e,abc,Dc,Wu (by simp;decide)]
  show (atI (((List.range 26).map (97+·)).toArray.toList) ((k.val:Nat):Int)).map _=_
  have:atI (((List.range 26).map (97+·)).toArray.toList) ((k.val:Nat):Int)=some (97+k.val):=g8 (by simp)
  rw[this]
  simp[ofL]
 exact key ⟨k,hk⟩
theorem abc_in{c:Nat}(h0:97<=c)(h1:c<123):inD (.str (ofL [c])) (.str "abcdefghijklmnopqrstuvwxyz")=some true:=by
 have key:∀k:Fin 26,(!(occurrences (Str.ofString "abcdefghijklmnopqrstuvwxyz") (ofL [97+k.val]) 0 (Str.ofString "abcdefghijklmnopqrstuvwxyz").length 1).isEmpty)=true:=by decide +kernel
 have:=key ⟨c - 97,by omega⟩
 rw[show 97+(c - 97)=c by omega] at this
 show some _=some true
 rw[this]
end DL
namespace DL
open PySem MX L2
section
variable{δ δ':DSt}{μ μ' μ'':Mem}{d:D}
theorem bz{α:Type}{f:DSt->Out α}{a:α}(h:f δ=.ok a):fO f δ μ=.ok a μ:=by unfold fO;rw[h];rfl
theorem cJ{g g':DSt->Mem->Res Fl}(h:g δ μ=.ok (.nx δ') μ'):dm g g' δ μ=g' δ' μ':=by unfold dm;rw[h];rfl
theorem UV{g g':DSt->Mem->Res Fl}(h:g δ μ=.ok (.rt d) μ'):dm g g' δ μ=.ok (.rt d) μ':=by unfold dm;rw[h];rfl
theorem v7{i:Nat}{f:DSt->Mem->Res D}(h:f δ μ=.ok d μ')(e:δ.set i (some (.sh d))=δ'):tU i f δ μ=.ok (.nx δ') μ':=by unfold tU;rw[h,←e];rfl
theorem MT{f:DSt->Mem->Res D}(h:f δ μ=.ok d μ'):retS f δ μ=.ok (.rt d) μ':=by unfold retS;rw[h];rfl
theorem Pu{f:DSt->Mem->Res D}(h:f δ μ=.ok d μ'):Jg f δ μ=.ok (.nx δ) μ':=by unfold Jg;rw[h];rfl
theorem PX{t:DSt->Mem->Res Bool}{a b:DSt->Mem->Res Fl}(h:t δ μ=.ok true μ'):ifS t a b δ μ=a δ μ':=by unfold ifS;rw[h];rfl
theorem wD{t:DSt->Mem->Res Bool}{a b:DSt->Mem->Res Fl}(h:t δ μ=.ok false μ'):ifS t a b δ μ=b δ μ':=by unfold ifS;rw[h];rfl
theorem MN{n:Nat}{f:DSt->Out D}(h:f (rsv μ n δ)=.ok d)(hd:gk 4 d=true):rdS n f δ μ=.ok d μ:=by
 unfold rdS
 rw[h]
 show (if gk 4 d=true then Res.ok d μ else .stuck)=_
 rw[Wu hd]
theorem Te{n:Nat}{f:DSt->Out Bool}{b:Bool}(h:f (rsv μ n δ)=.ok b):rdT n f δ μ=.ok b μ:=by unfold rdT;rw[h];rfl
theorem rdC_ok{n:Nat}{f:DSt->Out (List D)}{ds:List D}(h:f (rsv μ n δ)=.ok ds)(hd:ds.all (gk 4)=true):rdC n f δ μ=.ok (.loc μ.length) (μ++[.lst ds]):=by
 unfold rdC
 rw[h]
 show (if ds.all (gk 4)=true then Res.ok (D.loc μ.length) (μ++[.lst ds]) else .stuck)=_
 rw[Wu hd]
theorem bf{f:DSt->Mem->Res D}{g:DSt->Mem->Res (List D)}{ds:List D}(h:f δ μ=.ok d μ')(h2:g δ μ'=.ok ds μ''):aH f g δ μ=.ok (d::ds) μ'':=by
 unfold aH
 rw[h]
 show (g δ μ').bind _=_
 rw[h2]
 rfl
theorem mW{n:Nat}{F:Mem->List D->Res D}{fr:DSt->Mem->Res (List D)}{ds:List D}(h:fr δ μ=.ok ds μ')(hl:ds.length=n)(e:F μ' ds=.ok d μ''):gj n F fr δ μ=.ok d μ'':=by
 unfold gj
 rw[h]
 show (if ds.length=n then F μ' ds else .stuck)=_
 rw[Wu hl,e]
theorem methS_ok{m:Str}{n:Nat}{M:List (Nat×(Mem->List D->Res D))}{fo:DSt->Mem->Res D}{fr:DSt->Mem->Res (List D)}{o:D}{c:Nat}{fs:List (Str×D)}{F:Mem->List D->Res D}{ds:List D}{μ3:Mem}(h:fo δ μ=.ok o μ')(ho:objOf μ' o=some (c,fs))(hM:M.lookup c=some F)(hc:(fs.lookup m).isNone=true/\c<1000)(h2:fr δ μ'=.ok ds μ'')(hl:ds.length+1=n)(e:F μ'' (o::ds)=.ok d μ3):methS m n M fo fr δ μ=.ok d μ3:=by
 unfold methS
 rw[h]
 simp only[Res.aQ,ho,hM]
 rw[Wu hc,h2]
 simp only[Res.aQ]
 rw[Wu hl,e]
theorem makeS_ok{c n:Nat}{F:Mem->List D->Res D}{fr:DSt->Mem->Res (List D)}{ds:List D}(h:fr δ μ=.ok ds μ')(hl:ds.length+1=n)(e:F (μ'++[.obj c []]) (.loc μ'.length::ds)=.ok .non μ''):Jv c n F fr δ μ=.ok (.loc μ'.length) μ'':=by
 unfold Jv
 rw[h]
 simp only[Res.aQ]
 rw[Wu hl,e]
 rfl
theorem tupS_ok{fr:DSt->Mem->Res (List D)}{ds:List D}(h:fr δ μ=.ok ds μ')(hl:ds.length<=1000):tupS fr δ μ=.ok (.tup ds) μ':=by
 unfold tupS
 rw[h]
 simp only[Res.aQ]
 rw[Wu (W5 hl (by decide))]
theorem Ju{k:Nat}{ds:List D}(h:μ[k]?=some (.lst ds)):uW μ (.loc k)=some (k,ds):=by
 show (if 1000<=1000+k then _ else _)=_
 rw[Wu (by omega),W7,h]
theorem VM{k c:Nat}{fs:List (Str×D)}(h:μ[k]?=some (.obj c fs)):objOf μ (.loc k)=some (c,fs):=by
 show (if 1000<=1000+k then _ else _)=_
 rw[Wu (by omega),W7,h]
theorem appS_ok{fo fe:DSt->Mem->Res D}{k:Nat}{ds ds':List D}(h:fo δ μ=.ok (.loc k) μ')(h1:μ'[k]?=some (.lst ds'))(h2:fe δ μ'=.ok d μ'')(h3:μ''[k]?=some (.lst ds))(hl:ds.length<=1000):Dz fo fe δ μ=.ok (.nx δ) (μ''.set k (.lst (ds++[d]))):=by
 unfold Dz
 rw[h]
 simp only[Res.aQ,Ju h1,h2,Ju h3]
 rw[Wu (Xa hl (by decide))]
theorem M3{cell:Bool}{n:Nat}{g:DSt->Mem->Res Fl}{ds:List D}(h:g (fV n ds) μ=.ok (.rt d) μ'):(yK cell n g μ ds).bw=.ok d μ':=by unfold yK;rw[h];rfl
theorem Dj(n:Nat)(i:Int):res μ n (.int i)=.int i:=by cases n <;> rfl
theorem QB(n:Nat)(ds:List D):res μ n (.lst ds)=.lst ds:=by cases n <;> rfl
theorem QC(n c:Nat)(fs:List (Str×D)):res μ n (.obj c fs)=.obj c fs:=by cases n <;> rfl
theorem MP{n k:Nat}{ds:List D}(h:μ[k]?=some (.lst ds)):res μ (n+1) (.loc k)=.lst (ds.map (res μ n)):=by
 show (if 1000<=1000+k then _ else _)=_
 rw[Wu (by omega),W7,h]
theorem res_obj{n k c:Nat}{fs:List (Str×D)}(h:μ[k]?=some (.obj c fs)):res μ (n+1) (.loc k)=.obj c (fs.map λp=>(p.1,res μ n p.2)):=by
 show (if 1000<=1000+k then _ else _)=_
 rw[Wu (by omega),W7,h]
theorem PN(l:List Nat):(l.map λi=>D.int (i:Nat)).all (gk 4)=true:=by
 simp[List.all_map,gk]
theorem uG{α:Type}(μ:List α)(l:List α)(k:Nat):(μ++l)[μ.length+k]?=l[k]?:=by
 rw[W6 (by omega),W7]
theorem tV{α:Type}(μ:List α)(l:List α)(k:Nat)(x:α):(μ++l).set (μ.length+k) x=μ++l.set k x:=by
 rw[List.set_append_right _ _ (by omega),W7]
end
def W{α:Type}(o:Out α)(Q:α->Prop):Prop:=match o with
 | .ok a=>Q a
 | _=>False
theorem t8{α:Type}{o:Out α}{Q:α->Prop}(h:W o Q):∃a,o=.ok a/\Q a:=by
 cases o with
 | ok a=>exact⟨a,rfl,h⟩
 | ex x=>exact Wn h
 | stuck=>exact Wn h
theorem W_eq{α:Type}{o:Out α}{a:α}(h:W o (·=a)):o=.ok a:=by
 obtain⟨b,e,q⟩:=t8 h
 rw[e,q]
theorem W.imp{α:Type}{o:Out α}{P Q:α->Prop}(h:W o P)(k:∀a,P a->Q a):W o Q:=by
 obtain⟨a,e,q⟩:=t8 h
 rw[e];exact k a q
theorem qZ{α:Type}{o:Out α}{a:α}{Q:α->Prop}(e:o=.ok a)(q:Q a):W o Q:=by rw[e];exact q
def thn(fl:Fl)(k:DSt->Prop)(Q:Fl->Prop):Prop:=match fl with
 | .nx δ=>k δ
 | fl=>Q fl
def sv(δ:DSt)(i:Nat)(Q:D->Prop):Prop:=match δ[i]? with
 | some (some (.sh d))=>Q d
 | _=>False
def sb(δ:DSt)(i:Nat)(Q:D->Prop):Prop:=match δ[i]? with
 | some (some s)=>Q (slD s)
 | _=>False
def sw(δ:DSt)(i:Nat)(Q:D->Prop):Prop:=match δ[i]? with
 | some (some (.sh d))=>Q d
 | some (some (.ol ds))=>Q (.lst ds)
 | _=>False
section
variable{α β:Type}{δ:DSt}{i n c:Nat}{d:D}{ds:List D}{x:Option Sl}{s:Sl}{Q:α->Prop}{P:D->Prop}{PL:List D->Prop}{R:Fl->Prop}{B:Bool->Prop}{k:DSt->Prop}{f f':DSt->Out D}{t:DSt->Out Bool}{g g':DSt->Out Fl}
theorem W_ok{a:α}:W (.ok a) Q↔Q a:=Xf
theorem dN{o:Out β}{k:β->Out α}:W (o.bind k) Q↔W o λa=>W (k a) Q:=by cases o <;> exact Xf
theorem RM{a:α}:W (Out.opt (some a)) Q↔Q a:=Xf
theorem J9{o:Out α}:W o.bw Q↔W o Q:=by cases o <;> exact Xf
theorem sv_0:sv (some (.sh d)::δ) 0 P↔P d:=Xf
theorem sv_s:sv (x::δ) (i+1) P↔sv δ i P:=Xf
theorem sb_0:sb (some s::δ) 0 P↔P (slD s):=Xf
theorem sb_s:sb (x::δ) (i+1) P↔sb δ i P:=Xf
theorem sw_0:sw (some (.sh d)::δ) 0 P↔P d:=Xf
theorem W_gv:W (gv i δ) P↔sv δ i P:=by
 unfold gv sv
 rcases δ[i]? with _ | _ | s
 .exact Xf
 .exact Xf
 .cases s <;> exact Xf
theorem W_gb:W (gb i δ) P↔sb δ i P:=by
 unfold gb sb
 rcases δ[i]? with _ | _ | s <;> exact Xf
theorem W_gvo:W (gvo i δ) P↔sw δ i P:=by
 unfold gvo sw
 rcases δ[i]? with _ | _ | s
 .exact Xf
 .exact Xf
 .cases s <;> exact Xf
theorem W_o2{h:D->D->Option D}:W (o2 h f f' δ) P↔W (f δ) λx=>W (f' δ) λy=>W (Out.opt (h x y)) P:=by unfold o2;rw[dN];simp only[dN]
theorem W_o2b{h:D->D->Option Bool}:W (o2b h f f' δ) B↔W (f δ) λx=>W (f' δ) λy=>W (Out.opt (h x y)) B:=by unfold o2b;rw[dN];simp only[dN]
theorem W_bV:W (bV t δ) P↔W (t δ) λb=>P (.bl b):=by unfold bV;simp only[dN,W_ok]
def ofl(x:Str)(cs:List Nat)(o:D)(P:D->Prop):Prop:=match o with
 | .obj c fs=>cs.contains c=true/\W (Out.opt (fs.lookup x)) P
 | _=>False
theorem ofl_o{x:Str}{cs:List Nat}{fs:List (Str×D)}:ofl x cs (.obj c fs) P↔cs.contains c=true/\W (Out.opt (fs.lookup x)) P:=Xf
theorem W_fld{x:Str}{cs:List Nat}:W (gC x cs f δ) P↔W (f δ) λo=>ofl x cs o P:=by
 unfold gC
 rw[dN]
 refine YG (Xd _ (funext λo=>?_))
 cases o <;> try rfl
 rename_i c fs
 show W (if cs.contains c=true then _ else _) P=_
 unfold ofl
 cases h:cs.contains c with
 | true=>simp only[if_true,true_and,h]
 | false=>simp only[Bool.false_eq_true,if_false,false_and,h];rfl
theorem as_l:uc (.lst ds)=some ds:=rfl
theorem as_t:uc (.tup ds)=some ds:=rfl
theorem as_r:uc (.rol ds)=some ds:=rfl
def rgP(d:D)(P:List D->Prop):Prop:=match d with
 | .int j=>(-(2 ^ 62)<=j/\j<2 ^ 62)/\P (rngL 0 j.toNat)
 | _=>False
theorem Ir:W (cY f δ) PL↔W (f δ) λd=>rgP d PL:=by
 unfold cY
 rw[dN]
 refine YG (Xd _ (funext λd=>?_))
 cases d <;> try rfl
 rename_i j
 unfold rgP
 dsimp only
 by_cases h:-(2 ^ 62)<=j/\j<2 ^ 62
 .rw[Wu h];exact propext ⟨λw=>⟨h,w⟩,λw=>w.2⟩
 .rw[WD h];exact propext ⟨λw=>Wn w,λw=>absurd w.1 h⟩
theorem rg_n{n:Nat}(h:n<=1000000):rgP (.int (n:Nat)) PL↔PL ((List.range n).map λi=>D.int (i:Nat)):=by
 rw[←QF]
 unfold rgP
 dsimp only
 rw[Xv]
 exact⟨λw=>w.2,λw=>⟨⟨Int.le_trans (b:=0) (by decide) (Int.natCast_nonneg n),Int.lt_of_le_of_lt (b:=1000000) (by omega) (by decide)⟩,w⟩⟩
theorem Ja{lo hi:Option Int}:cutD (.lst ds) lo hi=some (.lst (cutL ds lo hi)):=rfl
theorem W_seq:W (bB g g' δ) R↔W (g δ) λfl=>thn fl (λδ'=>W (g' δ') R) R:=by
 unfold bB
 rw[dN]
 have:∀fl:Fl,W (match fl with | .nx δ'=>g' δ' | fl=>Out.ok fl) R=thn fl (λδ'=>W (g' δ') R) R:=λfl=>by cases fl <;> rfl
 exact YG (Xd _ (funext this))
theorem W_ret:W (cz f δ) R↔W (f δ) λd=>R (.rt d):=by unfold cz;simp only[dN,W_ok]
theorem Ox{fi:DSt->Out (List D)}{tg:D->DSt->Option DSt}:W (cM fi tg g δ) R↔W (fi δ) λds=>W (qu tg g ds δ) R:=by unfold cM;simp only[dN]
theorem W_runF{Q:D->Prop}:W (dz n g ds) Q↔W (g (fV n ds)) λfl=>W (v9 fl) Q:=dN
theorem W_eR:W (v9 (.rt d)) P↔P d:=Xf
theorem iN_0:iy .non=true:=rfl
theorem iN_1{j:Int}:iy (.int j)=false:=rfl
theorem iN_2{j:Bool}:iy (.bl j)=false:=rfl
theorem iN_3{j:Str}:iy (.str j)=false:=rfl
theorem iN_4:iy (.lst ds)=false:=rfl
theorem iN_5:iy (.tup ds)=false:=rfl
theorem iN_6{fs:List (Str×D)}:iy (.obj c fs)=false:=rfl
theorem iN_7:iy (.cls c)=false:=rfl
def trn(fl:Fl)(k:DSt->Prop)(R:Fl->Prop):Prop:=match fl with
 | .nx δ=>k δ
 | .ct δ=>k δ
 | .bk δ=>R (.nx δ)
 | fl=>R fl
theorem J8{tg:D->DSt->Option DSt}{γ:Type}(e:γ->D)(I:List γ->DSt->Prop)(xs:List γ){δ:DSt}{R:Fl->Prop}(h0:I [] δ)(hs:∀x done rest δ,xs=done++x::rest->I done δ->W (Out.opt (tg (e x) δ)) λδ1=>W (g δ1) λfl=>trn fl (I (done++[x])) R)(he:∀δ,I xs δ->R (.nx δ)):W (qu tg g (xs.map e) δ) R:=by
 have go:∀(ys done:List γ)(δ:DSt),xs=done++ys->I done δ->W (qu tg g (ys.map e) δ) R:=by
  intro ys
  induction ys with
  | nil=>intro done δ q i;rw[Xi] at q;subst q;exact he δ i
  | cons y ys ih =>
   intro done δ q i
   rw[WN]
   unfold qu
   rw[dN]
   refine(hs y done ys δ q i).imp λδ1 w=>?_
   rw[dN]
   refine w.imp λfl w=>?_
   cases fl with
   | nx δ2=>exact ih _ δ2 (by rw[q];simp) w
   | ct δ2=>exact ih _ δ2 (by rw[q];simp) w
   | bk δ2=>exact w
   | rt d=>exact w
   | rl d=>exact w
   | rll d=>exact w
 exact go xs [] δ rfl h0
theorem W_wh{t:DSt->Out Bool}(I:Nat->DSt->Prop){R:Fl->Prop}(hs:∀m δ,I m δ->W (t δ) λk=>if k=true then W (g δ) λfl=>trn fl (λδ'=>∃m',m'<m/\I m' δ') R else R (.nx δ)):∀(m n:Nat)(δ:DSt),I m δ->m<n->W (whD t g n δ) R
 | m,0,_,_,h=>absurd h (Y9 _)
 | m,n+1,δ,i,h=>by
  unfold whD
  rw[dN]
  refine(hs m δ i).imp λk w=>?_
  cases k with
  | false=>rw[WD Wv] at w ⊢;exact w
  | true =>
   rw[Wu rfl] at w ⊢
   rw[dN]
   refine w.imp λfl w=>?_
   cases fl with
   | nx δ2=>obtain⟨m',lt,i'⟩:=w;exact W_wh I hs m' n δ2 i' (by omega)
   | ct δ2=>obtain⟨m',lt,i'⟩:=w;exact W_wh I hs m' n δ2 i' (by omega)
   | bk δ2=>exact w
   | rt d=>exact w
   | rl d=>exact w
   | rll d=>exact w
end
def WS{α:Type}(r:Res α)(Q:α->Mem->Prop):Prop:=match r with
 | .ok a μ=>Q a μ
 | _=>False
theorem zL{α:Type}{o:Res α}{Q:α->Mem->Prop}(h:WS o Q):∃a μ,o=.ok a μ/\Q a μ:=by
 cases o with
 | ok a μ=>exact⟨a,μ,rfl,h⟩
 | ex x=>exact Wn h
 | stuck=>exact Wn h
theorem WS_eq{α:Type}{o:Res α}{a:α}{μ:Mem}(h:WS o λb ν=>b=a/\ν=μ):o=.ok a μ:=by
 obtain⟨b,ν,e,rfl,rfl⟩:=zL h
 exact e
theorem WS.imp{α:Type}{o:Res α}{P Q:α->Mem->Prop}(h:WS o P)(k:∀a μ,P a μ->Q a μ):WS o Q:=by
 obtain⟨a,μ,e,q⟩:=zL h
 rw[e];exact k a μ q
def thS(fl:Fl)(μ:Mem)(k:DSt->Mem->Prop)(Q:Fl->Mem->Prop):Prop:=match fl with
 | .nx δ=>k δ μ
 | fl=>Q fl μ
def tnS(fl:Fl)(μ:Mem)(k:DSt->Mem->Prop)(R:Fl->Mem->Prop):Prop:=match fl with
 | .nx δ=>k δ μ
 | .ct δ=>k δ μ
 | .bk δ=>R (.nx δ) μ
 | fl=>R fl μ
def ml(o:Option Cl)(Q:List D->Prop):Prop:=match o with
 | some (.lst ds)=>Q ds
 | _=>False
def mo(o:Option Cl)(Q:Nat->List (Str×D)->Prop):Prop:=match o with
 | some (.obj c fs)=>Q c fs
 | _=>False
def mlD(μ:Mem)(o:D)(Q:Nat->List D->Prop):Prop:=match uW μ o with
 | some (k,ds)=>Q k ds
 | none=>False
def moD(μ:Mem)(o:D)(Q:Nat->Nat->List (Str×D)->Prop):Prop:=match Qm μ o with
 | some (k,c,fs)=>Q k c fs
 | none=>False
section
variable{α β:Type}{δ:DSt}{μ ν:Mem}{i n m c:Nat}{d:D}{ds:List D}{a:α}{Q:α->Mem->Prop}{P:D->Mem->Prop}{PL:List D->Mem->Prop}{R:Fl->Mem->Prop}{B:Bool->Mem->Prop}{k:DSt->Mem->Prop}{f f' f'':DSt->Mem->Res D}{h:DSt->Out D}{t:DSt->Mem->Res Bool}{g g':DSt->Mem->Res Fl}{fr:DSt->Mem->Res (List D)}{F:Mem->List D->Res D}{o:Option Cl}{x:Option Sl}
theorem xO:WS (.ok a μ) Q↔Q a μ:=Xf
theorem dq{r:Res β}{k:β->Mem->Res α}:WS (r.bind k) Q↔WS r λa μ=>WS (k a μ) Q:=by cases r <;> exact Xf
theorem T6{r:Res α}:WS r.bw Q↔WS r Q:=by cases r <;> exact Xf
theorem Ow{o:Out α}:WS (Res.of o μ) Q↔W o λa=>Q a μ:=by cases o <;> exact Xf
theorem Dw{p:Prop}[Decidable p]{a:Res α}:WS (if p then a else .stuck) Q↔p/\WS a Q:=by
 by_cases h:p <;> simp[h,WS]
theorem thS_nx:thS (.nx δ) μ k R↔k δ μ:=Xf
theorem ml_s{Q:List D->Prop}:ml (some (.lst ds)) Q↔Q ds:=Xf
theorem mo_s{Q:Nat->List (Str×D)->Prop}{fs:List (Str×D)}:mo (some (.obj c fs)) Q↔Q c fs:=Xf
theorem mlD_l{Q:Nat->List D->Prop}:mlD μ (.cls (1000+i)) Q↔ml μ[i]? (Q i):=by
 unfold mlD ml
 show (match (if 1000<=1000+i then _ else _) with | some (k,ds)=>Q k ds | none=>False)↔_
 rw[Wu (by omega),W7]
 rcases μ[i]? with _ | c
 .exact Xf
 .cases c <;> exact Xf
theorem moD_l{Q:Nat->Nat->List (Str×D)->Prop}:moD μ (.cls (1000+i)) Q↔mo μ[i]? (Q i):=by
 unfold moD mo
 show (match (if 1000<=1000+i then _ else _) with | some (k,c,ds)=>Q k c ds | none=>False)↔_
 rw[Wu (by omega),W7]
 rcases μ[i]? with _ | c
 .exact Xf
 .cases c <;> exact Xf
theorem WS_fO{f:DSt->Out α}:WS (fO f δ μ) Q↔W (f δ) λa=>Q a μ:=Ow
theorem WS_nilA:WS (dW δ μ) PL↔PL [] μ:=Xf
theorem WS_cons:WS (aH f fr δ μ) PL↔WS (f δ μ) λd μ=>WS (fr δ μ) λds μ=>PL (d::ds) μ:=by unfold aH;simp only[dq,xO]
theorem WS_seq:WS (dm g g' δ μ) R↔WS (g δ μ) λfl μ=>thS fl μ (λδ' μ=>WS (g' δ' μ) R) R:=by
 unfold dm
 rw[dq]
 have:∀(fl:Fl)(μ:Mem),WS (match fl with | .nx δ'=>g' δ' μ | fl=>Res.ok fl μ) R=thS fl μ (λδ' μ=>WS (g' δ' μ) R) R:=λfl μ=>by cases fl <;> rfl
 exact YG (Xd _ (funext λfl=>funext (this fl)))
theorem WS_ret:WS (retS f δ μ) R↔WS (f δ μ) λd μ=>R (.rt d) μ:=by unfold retS;simp only[dq,xO]
theorem WS_set:WS (tU i f δ μ) R↔WS (f δ μ) λd μ=>R (.nx (δ.set i (some (.sh d)))) μ:=by unfold tU;simp only[dq,xO]
theorem RK{fi:DSt->Mem->Res (List D)}{tg:D->DSt->Option DSt}:WS (yL fi tg g δ μ) R↔WS (fi δ μ) λds μ=>WS (forS tg g ds δ μ) R:=by unfold yL;simp only[dq]
theorem WS_rd:WS (rdS n h δ μ) P↔W (h (rsv μ n δ)) λd=>gk 4 d=true/\P d μ:=by unfold rdS;simp only[dq,Ow,J9,Dw,xO]
theorem WS_rdT{h:DSt->Out Bool}:WS (rdT n h δ μ) B↔W (h (rsv μ n δ)) λd=>B d μ:=by unfold rdT;simp only[Ow,J9]
theorem WS_lst:WS (lstC fr δ μ) P↔WS (fr δ μ) λds μ=>ds.length<=sizeLine/\P (.loc μ.length) (μ++[.lst ds]):=by unfold lstC;simp only[dq,Dw,xO]
theorem WS_call:WS (gj n F fr δ μ) P↔WS (fr δ μ) λds μ=>ds.length=n/\WS (F μ ds) P:=by unfold gj;simp only[dq,Dw]
theorem WS_app:WS (Dz f f' δ μ) R↔WS (f δ μ) λo μ=>mlD μ o λ_ _=>WS (f' δ μ) λd μ=>mlD μ o λk ds=>ds.length<sizeLine/\R (.nx δ) (μ.set k (.lst (ds++[d]))):=by
 unfold Dz
 rw[dq]
 refine YG (Xd _ (funext λo=>funext λν=>?_))
 unfold mlD
 rcases uW ν o with _ | ⟨k,ds⟩
 .rfl
 .dsimp only
  rw[dq]
  refine Xd _ (funext λd=>funext λρ=>?_)
  rcases uW ρ o with _ | ⟨k,ds⟩
  .rfl
  .simp only[Dw,xO]
theorem WS_put:WS (putS f f' f'' δ μ) R↔WS (f δ μ) λd μ=>WS (f' δ μ) λo μ=>WS (f'' δ μ) λi μ=>mlD μ o λk ds=>∃z j,i=.int z/\ixN ds.length z=some j/\R (.nx δ) (μ.set k (.lst (ds.set j d))):=by
 unfold putS
 simp only[dq]
 refine YG (Xd _ (funext λd=>funext λν=>Xd _ (funext λo=>funext λν=>Xd _ (funext λi=>funext λν=>?_))))
 unfold mlD
 rcases uW ν o with _ | ⟨k,ds⟩
 .cases i <;> rfl
 .cases i with
  | int z =>
   dsimp only
   cases hz:ixN ds.length z with
   | none=>simp[WS,hz]
   | some j=>simp[xO,hz]
  | _=>simp[WS]
theorem WS_fput{x:Str}{cs:List Nat}:WS (Jk x cs f f' δ μ) R↔WS (f' δ μ) λd μ=>WS (f δ μ) λo μ=>moD μ o λk c fs=>(cs.contains c=true/\c<1000/\fs.length<1000)/\R (.nx δ) (μ.set k (.obj c (putD x d fs))):=by
 unfold Jk
 simp only[dq]
 refine YG (Xd _ (funext λd=>funext λν=>Xd _ (funext λo=>funext λν=>?_)))
 unfold moD
 rcases Qm ν o with _ | ⟨k,c,ds⟩
 .rfl
 .simp only[Dw,xO]
theorem WS_run{cell:Bool}:WS (yK cell n g μ ds) P↔WS (g (fV n ds) μ) λfl μ=>WS (endS cell fl μ) P:=dq
theorem WS_eN{cell:Bool}:WS (endS cell (.nx δ) μ) P↔P .non μ:=Xf
theorem WS_eR{cell:Bool}:WS (endS cell (.rt d) μ) P↔P d μ:=Xf
theorem rsv_n:rsv μ n []=[]:=rfl
theorem rsv_c:rsv μ n (x::δ)=rs1 μ n x::rsv μ n δ:=rfl
theorem rs1_s:rs1 μ n (some (.sh d))=some (.sh (res μ n d)):=rfl
theorem rs1_n:rs1 μ n none=none:=rfl
theorem rs1_o:rs1 μ n (some (.ol ds))=some (.ol ds):=rfl
theorem Ks{l:Mem}:(μ++l)[μ.length]?=l[0]?:=by have:=uG μ l 0;simpa using this
theorem Q3{l:Mem}{x:Cl}:(μ++l).set μ.length x=μ++l.set 0 x:=by have:=tV μ l 0 x;simpa using this
theorem T5{tg:D->DSt->Option DSt}{γ:Type}(e:γ->D)(I:List γ->DSt->Mem->Prop)(xs:List γ){δ:DSt}{R:Fl->Mem->Prop}(h0:I [] δ μ)(hs:∀x done rest δ μ,xs=done++x::rest->I done δ μ->W (Out.opt (tg (e x) δ)) λδ1=>WS (g δ1 μ) λfl μ=>tnS fl μ (I (done++[x])) R)(he:∀δ μ,I xs δ μ->R (.nx δ) μ):WS (forS tg g (xs.map e) δ μ) R:=by
 have go:∀(ys done:List γ)(δ:DSt)(μ:Mem),xs=done++ys->I done δ μ->WS (forS tg g (ys.map e) δ μ) R:=by
  intro ys
  induction ys with
  | nil=>intro done δ μ q i;rw[Xi] at q;subst q;exact he δ μ i
  | cons y ys ih =>
   intro done δ μ q i
   rw[WN]
   unfold forS
   rw[dq,Ow]
   refine(hs y done ys δ μ q i).imp λδ1 w=>?_
   rw[dq]
   refine w.imp λfl μ w=>?_
   cases fl with
   | nx δ2=>exact ih _ δ2 μ (by rw[q];simp) w
   | ct δ2=>exact ih _ δ2 μ (by rw[q];simp) w
   | bk δ2=>exact w
   | rt d=>exact w
   | rl d=>exact w
   | rll d=>exact w
 exact go xs [] δ μ rfl h0
theorem WS_wh{t:DSt->Mem->Res Bool}(I:Nat->DSt->Mem->Prop){R:Fl->Mem->Prop}(hs:∀m δ μ,I m δ μ->WS (t δ μ) λk μ=>if k=true then WS (g δ μ) λfl μ=>tnS fl μ (λδ' μ=>∃m',m'<m/\I m' δ' μ) R else R (.nx δ) μ):∀(m n:Nat)(δ:DSt)(μ:Mem),I m δ μ->m<n->WS (whS t g n δ μ) R
 | m,0,_,_,_,h=>absurd h (Y9 _)
 | m,n+1,δ,μ,i,h=>by
  unfold whS
  rw[dq]
  refine(hs m δ μ i).imp λk μ w=>?_
  cases k with
  | false=>rw[WD Wv] at w ⊢;exact w
  | true =>
   rw[Wu rfl] at w ⊢
   rw[dq]
   refine w.imp λfl μ w=>?_
   cases fl with
   | nx δ2=>obtain⟨m',lt,i'⟩:=w;exact WS_wh I hs m' n δ2 μ i' (by omega)
   | ct δ2=>obtain⟨m',lt,i'⟩:=w;exact WS_wh I hs m' n δ2 μ i' (by omega)
   | bk δ2=>exact w
   | rt d=>exact w
   | rl d=>exact w
   | rll d=>exact w
end
section
variable{δ:DSt}{PL:List D->Prop}{f f':DSt->Out D}
theorem W_zip:W (zipO f f' δ) PL↔W (f δ) λd=>W (f' δ) λe=>∃xs ys,d=.lst xs/\e=.lst ys/\PL (vN xs ys):=by
 unfold zipO
 rw[dN]
 refine YG (Xd _ (funext λd=>?_))
 rw[dN]
 refine Xd _ (funext λe=>?_)
 cases d <;> cases e <;> simp[W]
end
section
variable{δ:DSt}{i:Nat}{f:DSt->Out D}{PL:List D->Prop}
theorem W_cg{α:Type}{o:Out α}{Q Q':α->Prop}(h:∀a,Q a↔Q' a):W o Q↔W o Q':=by
 cases o
 .exact h _
 .exact Xf
 .exact Xf
theorem T7:W (Je f δ) PL↔W (f δ) λd=>W (Out.opt (tupO d)) λds=>PL (oV 0 ds):=by unfold Je;simp only[dN,W_ok]
theorem to_t{ds:List D}:tupO (.tup ds)=some ds:=rfl
def lrP(d:D)(PL:List D->Prop):Prop:=match d with
 | .int j=>(-(2 ^ 62)<=j/\j<2 ^ 62/\j.toNat<=sizeLine)/\PL ((List.range' 0 j.toNat).map λi=>D.int (i:Nat))
 | _=>False
theorem W_lr:W (lrO f δ) PL↔W (f δ) λd=>lrP d PL:=by
 unfold lrO
 rw[dN]
 refine W_cg λd=>?_
 cases d with
 | int j =>
  simp only[lrP]
  by_cases h:-(2 ^ 62)<=j/\j<2 ^ 62/\j.toNat<=sizeLine
  .rw[Wu h];exact⟨λw=>⟨h,w⟩,λw=>w.2⟩
  .rw[WD h];exact⟨λw=>w.elim,λw=>absurd w.1 h⟩
 | _=>exact Xf
theorem lr_n{n:Nat}(h:n<=1000):lrP (.int (n:Nat)) PL↔PL ((List.range n).map λi=>D.int (i:Nat)):=by
 unfold lrP
 dsimp only
 rw[Xv,←List.range_eq_range']
 refine⟨λw=>w.2,λw=>⟨⟨by omega,by omega,W5 h (by decide)⟩,w⟩⟩
end
theorem RL{g:DSt->Out Fl}{tg:D->DSt->Option DSt}{γ:Type}(e:γ->D)(p:γ->Bool)(J:DSt->Prop)(xs:List γ){δ:DSt}{R:Fl->Prop}(h0:J δ)
  (hs:∀x δ,x∈xs->J δ->W (Out.opt (tg (e x) δ)) λδ1=>W (g δ1) λfl=>if p x=true then (∃d,fl=.rt d/\(xs.find? p=some x->R (.rt d))) else ∃δ',fl=.nx δ'/\J δ') (he:xs.find? p=none->∀δ,J δ->R (.nx δ)):W (qu tg g (xs.map e) δ) R:=by
 refine J8 e (λdone δ=>J δ/\done.find? p=none) xs ⟨h0,rfl⟩ (λx done rest δ q ⟨j,n⟩=>?_) λδ ⟨j,n⟩=>he n δ j
 refine(hs x δ (by rw[q];simp) j).imp λδ1 w=>w.imp λfl w=>?_
 by_cases k:p x=true
 .rw[Wu k] at w
  obtain⟨d,rfl,r⟩:=w
  exact r (by rw[q,List.find?_append,n];simp[List.find?_cons,k])
 .rw[WD k] at w
  obtain⟨δ',rfl,j'⟩:=w
  refine⟨j',?_⟩
  rw[List.find?_append,n]
  simp[List.find?_cons,k]
end DL
namespace PT
section
variable{ω:Type}(acts:Nat)(wd:Nat->Nat->ω)(al:ω->Bool)(to:Nat->Nat->Nat)
def same(p q:Nat):Prop:=∀a,a<acts->wd p a=wd q a
def Eqv:List Nat->Nat->Nat->Prop
 | [],p,q=>same acts wd p q
 | a::v,p,q=>same acts wd p q/\(a<acts->al (wd p a)=true->Eqv v (to p a) (to q a))
def Sep:List Nat->Nat->Nat->Prop
 | [],p,q=>¬same acts wd p q
 | a::v,p,q=>same acts wd p q/\a<acts/\al (wd p a)=true/\Sep v (to p a) (to q a)
def Path:List Nat->Nat->Nat->Nat->Nat->Prop
 | [],p,q,p',q'=>p=p'/\q=q'
 | a::w,p,q,p',q'=>same acts wd p q/\a<acts/\al (wd p a)=true/\Path w (to p a) (to q a) p' q'
variable{acts wd al to}
theorem QR(p:Nat):same acts wd p p:=λ_ _=>rfl
theorem same.symm{p q:Nat}(h:same acts wd p q):same acts wd q p:=λa ha=>(h a ha).symm
theorem same.trans{p q r:Nat}(h:same acts wd p q)(k:same acts wd q r):same acts wd p r:=λa ha=>(h a ha).trans (k a ha)
theorem KQ:∀(v:List Nat)(p:Nat),Eqv acts wd al to v p p
 | [],p=>QR p
 | a::v,p=>⟨QR p,λ_ _=>KQ v _⟩
theorem Pr:∀{v:List Nat}{p q:Nat},Eqv acts wd al to v p q->Eqv acts wd al to v q p
 | [],_,_,h=>same.symm h
 | a::v,p,q,h=>⟨h.1.symm,λha hl=>Pr (h.2 ha (by rw[h.1 a ha];exact hl))⟩
theorem Jf:∀{v:List Nat}{p q r:Nat},Eqv acts wd al to v p q->Eqv acts wd al to v q r->Eqv acts wd al to v p r
 | [],_,_,_,h,k=>same.trans h k
 | a::v,p,q,r,h,k=>⟨h.1.trans k.1,λha hl=>Jf (h.2 ha hl) (k.2 ha (by rw[←h.1 a ha];exact hl))⟩
theorem Ur:∀{v:List Nat}{p q:Nat},¬Eqv acts wd al to v p q->∃t,t<=v.length/\Sep acts wd al to (v.take t) p q
 | [],_,_,h=>⟨0,Ww _,h⟩
 | a::v,p,q,h=>by
  by_cases hs:same acts wd p q
  .have:∃(ha:a<acts)(hl:al (wd p a)=true),¬Eqv acts wd al to v (to p a) (to q a):=Xj λn=>h ⟨hs,λha hl=>Xj λm=>n ⟨ha,hl,m⟩⟩
   obtain⟨ha,hl,m⟩:=this
   obtain⟨t,ht,k⟩:=Ur m
   exact⟨t+1,Nat.succ_le_succ ht,hs,ha,hl,k⟩
  .exact⟨0,Xq _,hs⟩
theorem Nk:∀{v:List Nat}{p q:Nat},Sep acts wd al to v p q->¬Eqv acts wd al to v p q
 | [],_,_,h,k=>h k
 | a::v,_,_,h,k=>Nk h.2.2.2 (k.2 h.2.1 h.2.2.1)
end
section
variable{ω:Type}{acts:Nat}{wd:Nat->Nat->ω}{al:ω->Bool}{to:Nat->Nat->Nat}
theorem path_sep:∀{w v:List Nat}{p q p' q':Nat},Path acts wd al to w p q p' q'->Sep acts wd al to v p' q'->Sep acts wd al to (w++v) p q
 | [],_,_,_,_,_,h,k=>by obtain⟨rfl,rfl⟩:=h;exact k
 | a::w,v,_,_,_,_,h,k=>⟨h.1,h.2.1,h.2.2.1,path_sep h.2.2.2 k⟩
theorem QX:∀{w v:List Nat}{p q p' q':Nat},Path acts wd al to w p q p' q'->Sep acts wd al to (w++v) p q->Sep acts wd al to v p' q'
 | [],_,_,_,_,_,h,k=>by obtain⟨rfl,rfl⟩:=h;exact k
 | a::w,v,_,_,_,_,h,k=>QX h.2.2.2 k.2.2.2
theorem Jx{a:Nat}:∀{w:List Nat}{p q p' q':Nat},Path acts wd al to w p q p' q'->same acts wd p' q'->a<acts->al (wd p' a)=true->Path acts wd al to (w++[a]) p q (to p' a) (to q' a)
 | [],_,_,_,_,h,hs,ha,hl=>by obtain⟨rfl,rfl⟩:=h;exact⟨hs,ha,hl,rfl,rfl⟩
 | b::w,_,_,_,_,h,hs,ha,hl=>⟨h.1,h.2.1,h.2.2.1,Jx h.2.2.2 hs ha hl⟩
end
def lx:List Nat->List Nat->Prop
 | a::u,b::v=>a<b∨a=b/\lx u v
 | _,_=>False
def slt(u v:List Nat):Prop:=u.length<v.length∨u.length=v.length/\lx u v
theorem lx_irr:∀u:List Nat,¬lx u u
 | [],h=>h
 | a::u,h=>by
  rcases h with h | h
  .exact Xw _ h
  .exact lx_irr u h.2
theorem Qf:∀{u v w:List Nat},lx u v->lx v w->lx u w
 | a::u,b::v,c::w,h,k=>by
  rcases h with h | ⟨rfl,h⟩
  .rcases k with k | ⟨rfl,k⟩
   .exact .inl (YF h k)
   .exact .inl h
  .rcases k with k | ⟨rfl,k⟩
   .exact .inl k
   .exact .inr ⟨rfl,Qf h k⟩
 | [],_,_,h,_=>h.elim
 | _::_,[],_,h,_=>h.elim
 | _::_,_::_,[],_,k=>k.elim
theorem lx_tri:∀{u v:List Nat},u.length=v.length->lx u v∨u=v∨lx v u
 | [],[],_=>.inr (.inl rfl)
 | a::u,b::v,h=>by
  rcases Nat.lt_trichotomy a b with k | rfl | k
  .exact .inl (.inl k)
  .rcases lx_tri (u:=u) (v:=v) (by simpa using h) with h | rfl | h
   .exact .inl (.inr ⟨rfl,h⟩)
   .exact .inr (.inl rfl)
   .exact .inr (.inr (.inr ⟨rfl,h⟩))
  .exact .inr (.inr (.inl k))
 | [],_::_,h=>by simp at h
 | _::_,[],h=>by simp at h
theorem lx_app(w:List Nat):∀{u v:List Nat},u.length=v.length->lx u v->lx (u++w) (v++w)
 | a::u,b::v,l,h=>by
  rcases h with h | ⟨rfl,h⟩
  .exact .inl h
  .exact .inr ⟨rfl,lx_app w (by simpa using l) h⟩
 | [],_,_,h=>h.elim
 | _::_,[],_,h=>h.elim
theorem lx_pre(w:List Nat){u v:List Nat}(h:lx u v):lx (w++u) (w++v):=by
 induction w with
 | nil=>exact h
 | cons a w ih=>exact .inr ⟨rfl,ih⟩
theorem UW(u:List Nat):¬slt u u:=by
 rintro (h | h)
 .exact Xw _ h
 .exact lx_irr u h.2
theorem JB{u v w:List Nat}(h:slt u v)(k:slt v w):slt u w:=by
 rcases h with h | ⟨l,h⟩
 .rcases k with k | ⟨m,k⟩
  .exact .inl (YF h k)
  .exact .inl (by omega)
 .rcases k with k | ⟨m,k⟩
  .exact .inl (by omega)
  .exact .inr ⟨by omega,Qf h k⟩
theorem slt_tri(u v:List Nat):slt u v∨u=v∨slt v u:=by
 rcases Nat.lt_trichotomy u.length v.length with h | h | h
 .exact .inl (.inl h)
 .rcases lx_tri h with k | k | k
  .exact .inl (.inr ⟨h,k⟩)
  .exact .inr (.inl k)
  .exact .inr (.inr (.inr ⟨h.symm,k⟩))
 .exact .inr (.inr (.inl h))
theorem sle_app{k u v:List Nat}{t:Nat}(h:slt k u∨k=u)(ht:t<=v.length):slt (k++v.take t) (u++v)∨(k=u/\t=v.length):=by
 have lt:(v.take t).length=t:=by simp;omega
 rcases h with (h | ⟨l,h⟩) | rfl
 .exact .inl (.inl (by simp only[List.length_append,lt];omega))
 .by_cases z:t=v.length
  .subst z
   rw[List.take_length]
   exact .inl (.inr ⟨by simp[l],lx_app v l h⟩)
  .exact .inl (.inl (by simp only[List.length_append,lt];omega))
 .by_cases z:t=v.length
  .exact .inr ⟨rfl,z⟩
  .exact .inl (.inl (by simp only[List.length_append,lt];omega))
theorem Qa:∀(n:Nat)(P:List Nat->Prop),(∃w,w.length=n/\P w)->∃w,w.length=n/\P w/\∀w',w'.length=n->P w'->¬lx w' w
 | 0,P,⟨w,l,h⟩=>⟨w,l,h,λw' l' _ k=>by
   obtain rfl:=List.length_eq_zero_iff.mp l
   cases w' <;> exact k⟩
 | n+1,P,⟨w,l,h⟩=>by
  have ex:∃a,∃u,u.length=n/\P (a::u):=by
   cases w with
   | nil=>simp at l
   | cons a u=>exact⟨a,u,by simpa using l,h⟩
  have:∃a,(∃u,u.length=n/\P (a::u))/\∀b,b<a->¬∃u,u.length=n/\P (b::u):=by
   obtain⟨a,ha⟩:=ex
   induction a using Nat.strongRecOn with
   | _ a ih =>
    by_cases z:∃b,b<a/\∃u,u.length=n/\P (b::u)
    .obtain⟨b,hb,k⟩:=z
     exact ih b hb k
    .exact⟨a,ha,λb hb k=>z ⟨b,hb,k⟩⟩
  obtain⟨a,ha,hm⟩:=this
  obtain⟨u,l1,p1,m1⟩:=Qa n (λu=>P (a::u)) ha
  refine⟨a::u,by simp[l1],p1,λw' l' p' k=>?_⟩
  cases w' with
  | nil=>simp at l'
  | cons b v =>
   rcases k with k | ⟨rfl,k⟩
   .exact hm b k ⟨v,by simpa using l',p'⟩
   .exact m1 v (by simpa using l') p' k
theorem Js(P:List Nat->Prop)(h:∃w,P w):∃w,P w/\∀w',P w'->¬slt w' w:=by
 have:∃n,(∃w,w.length=n/\P w)/\∀m,m<n->¬∃w,w.length=m/\P w:=by
  obtain⟨w,hw⟩:=h
  have:∀n,(∃w,w.length=n/\P w)->∃n,(∃w,w.length=n/\P w)/\∀m,m<n->¬∃w,w.length=m/\P w:=λn=>by
   induction n using Nat.strongRecOn with
   | _ n ih =>
    intro hn
    by_cases z:∃m,m<n/\∃w,w.length=m/\P w
    .obtain⟨m,hm,k⟩:=z
     exact ih m hm k
    .exact⟨n,hn,λm hm k=>z ⟨m,hm,k⟩⟩
  exact this _ ⟨w,rfl,hw⟩
 obtain⟨n,h1,h2⟩:=this
 obtain⟨w,l,p,m⟩:=Qa n P h1
 refine⟨w,p,λw' p' k=>?_⟩
 rcases k with k | ⟨k1,k2⟩
 .exact h2 _ (by rw[←l];exact k) ⟨w',rfl,p'⟩
 .exact m w' (by rw[k1,l]) p' k2
theorem Uo{b c:Nat}:∀{u v:List Nat},u.length=v.length->lx u v->lx (u++[b]) (v++[c])
 | x::u,y::v,l,h=>by
  rcases h with h | ⟨rfl,h⟩
  .exact .inl h
  .exact .inr ⟨rfl,Uo (by simpa using l) h⟩
 | [],_,_,h=>h.elim
 | _::_,[],_,h=>h.elim
theorem V8{u v:List Nat}{b c:Nat}(h:slt u v):slt (u++[b]) (v++[c]):=by
 rcases h with h | ⟨l,h⟩
 .exact .inl (by simp;omega)
 .exact .inr ⟨by simp[l],Uo l h⟩
theorem slt_last{u:List Nat}{b c:Nat}(h:b<c):slt (u++[b]) (u++[c]):=.inr ⟨by simp,lx_pre u (.inl h)⟩
theorem Ul(P:Nat->Prop)(h0:P 0):∀N,∃t,t<=N/\P t/\∀t',t<t'->t'<=N->¬P t'
 | 0=>⟨0,Ww _,h0,λt' h1 h2=>by omega⟩
 | N+1=>by
  obtain⟨t,h1,h2,h3⟩:=Ul P h0 N
  by_cases z:P (N+1)
  .exact⟨N+1,Ww _,z,λt' h1 h2=>by omega⟩
  .refine⟨t,by omega,h2,λt' k1 k2=>?_⟩
   by_cases e:t'=N+1
   .rw[e];exact z
   .exact h3 t' k1 (by omega)
section
variable{ω:Type}{acts:Nat}{wd:Nat->Nat->ω}{al:ω->Bool}{to:Nat->Nat->Nat}
structure Tr(acts:Nat)(wd:Nat->Nat->ω)(al:ω->Bool)(to:Nat->Nat->Nat)(room other:Nat)(ps:List (Nat×Nat))(ws:List (List Nat))(at' act:Nat):Prop where
 len:ws.length=ps.length
 p0:ps[0]?=some (room,other)
 w0:ws[0]?=some []
 path:∀(j:Nat)(w:List Nat)(p q:Nat),ws[j]?=some w->ps[j]?=some (p,q)->Path acts wd al to w room other p q
 shape:∀(k:Nat)(w:List Nat),0<k->ws[k]?=some w->∃(i b:Nat)(u:List Nat),(i<at'∨i=at'/\b<act)/\ws[i]?=some u/\w=u++[b]
 sort:∀(i j:Nat)(u v:List Nat),i<j->ws[i]?=some u->ws[j]?=some v->slt u v
 done:∀(j p q:Nat),j<at'->ps[j]?=some (p,q)->same acts wd p q
 full:∀(j a:Nat)(u:List Nat)(p q:Nat),(j<at'∨j=at'/\a<act)->a<acts->ws[j]?=some u->ps[j]?=some (p,q)->al (wd p a)=true->∀S:Nat->Nat->Prop,Equivalence S->(∀(k:Nat)(w:List Nat)(x y:Nat),ws[k]?=some w->ps[k]?=some (x,y)->(slt w (u++[a])∨w=u++[a])->S x y)->S (to p a) (to q a)
variable{room other:Nat}{ps:List (Nat×Nat)}{ws:List (List Nat)}{at' act:Nat}
theorem Tr.start:Tr acts wd al to room other [(room,other)] [[]] 0 0 where
 len:=rfl
 p0:=rfl
 w0:=rfl
 path:=λj w p q h1 h2=>by
  cases j with
  | zero=>cases h1;cases h2;exact⟨rfl,rfl⟩
  | succ j=>simp at h1
 shape:=λk w hk h=>by
  cases k with
  | zero=>omega
  | succ k=>simp at h
 sort:=λi j u v ij h1 h2=>by
  cases j with
  | zero=>omega
  | succ j=>simp at h2
 done:=λj p q h=>by omega
 full:=λj a u p q h=>absurd h (by omega)
theorem Tr.early(T:Tr acts wd al to room other ps ws at' act){u:List Nat}(hu:ws[at']?=some u){k:Nat}{w:List Nat}(hk:ws[k]?=some w):slt w (u++[act]):=by
 cases k with
 | zero =>
  rw[T.w0] at hk
  cases hk
  exact .inl (by simp)
 | succ k =>
  obtain⟨i,b,v,h,hi,rfl⟩:=T.shape (k+1) w (by omega) hk
  rcases h with h | ⟨rfl,h⟩
  .exact V8 (T.sort _ _ _ _ h hi hu)
  .rw[hu] at hi
   cases hi
   exact slt_last h
theorem Tr.skip(T:Tr acts wd al to room other ps ws at' act){u:List Nat}{p q:Nat}(hu:ws[at']?=some u)(hp:ps[at']?=some (p,q))(h:al (wd p act)=true->∀S:Nat->Nat->Prop,Equivalence S->(∀(k x y:Nat),ps[k]?=some (x,y)->S x y)->S (to p act) (to q act)):Tr acts wd al to room other ps ws at' (act+1) where
 len:=T.len
 p0:=T.p0
 w0:=T.w0
 path:=T.path
 shape:=λk w hk hw=>by
  obtain⟨i,b,v,h1,h2,h3⟩:=T.shape k w hk hw
  exact⟨i,b,v,by omega,h2,h3⟩
 sort:=T.sort
 done:=T.done
 full:=λj a v x y hj ha hv hx hl S E k=>by
  by_cases z:j=at'/\a=act
  .obtain⟨rfl,rfl⟩:=z
   rw[hu] at hv;cases hv
   rw[hp] at hx;cases hx
   refine h hl S E λi x y hi=>?_
   have li:i<ws.length:=by rw[T.len];exact(Ws.mp hi).1
   have hw:=Wo li
   exact k i _ x y hw hi (.inl (T.early hu hw))
  .exact T.full j a v x y (by omega) ha hv hx hl S E k
theorem Tr.add(T:Tr acts wd al to room other ps ws at' act){u:List Nat}{p q:Nat}(hu:ws[at']?=some u)(hp:ps[at']?=some (p,q))(hs:same acts wd p q)(ha:act<acts)(hl:al (wd p act)=true):Tr acts wd al to room other (ps++[(to p act,to q act)]) (ws++[u++[act]]) at' (act+1):=by
 have la:at'<ws.length:=(Ws.mp hu).1
 have lp:=T.len
 have old:∀{j:Nat}{w:List Nat},(ws++[u++[act]])[j]?=some w->(j<ws.length/\ws[j]?=some w)∨(j=ws.length/\w=u++[act]):=fun{j w} h=>by
  by_cases lj:j<ws.length
  .rw[Wz lj] at h;exact .inl ⟨lj,h⟩
  .rw[W6 (by omega)] at h
   have:=(Ws.mp h).1
   simp at this
   have e:j=ws.length:=by omega
   subst e
   simp at h
   exact .inr ⟨rfl,h.symm⟩
 have oldp:∀{j:Nat}{x:Nat×Nat},(ps++[(to p act,to q act)])[j]?=some x->(j<ps.length/\ps[j]?=some x)∨(j=ps.length/\x=(to p act,to q act)):=fun{j x} h=>by
  by_cases lj:j<ps.length
  .rw[Wz lj] at h;exact .inl ⟨lj,h⟩
  .rw[W6 (by omega)] at h
   have:=(Ws.mp h).1
   simp at this
   have e:j=ps.length:=by omega
   subst e
   simp at h
   exact .inr ⟨rfl,h.symm⟩
 exact {
  len:=by simp[lp]
  p0:=by rw[Wz (by omega)];exact T.p0
  w0:=by rw[Wz (by omega)];exact T.w0
  path:=λj w x y h1 h2=>by
   rcases old h1 with⟨l1,h1⟩| ⟨e1,rfl⟩
   .rcases oldp h2 with⟨l2,h2⟩| ⟨e2,_⟩
    .exact T.path j w x y h1 h2
    .omega
   .rcases oldp h2 with⟨l2,h2⟩| ⟨e2,e⟩
    .omega
    .cases e
     exact Jx (T.path at' u p q hu hp) hs ha hl
  shape:=λk w hk hw=>by
   rcases old hw with⟨l1,hw⟩| ⟨e1,rfl⟩
   .obtain⟨i,b,v,h1,h2,h3⟩:=T.shape k w hk hw
    have:=(Ws.mp h2).1
    exact⟨i,b,v,by omega,by rw[Wz this];exact h2,h3⟩
   .exact⟨at',act,u,by omega,by rw[Wz la];exact hu,rfl⟩
  sort:=λi j v w ij h1 h2=>by
   rcases old h1 with⟨l1,h1⟩| ⟨e1,rfl⟩
   .rcases old h2 with⟨l2,h2⟩| ⟨e2,rfl⟩
    .exact T.sort i j v w ij h1 h2
    .exact T.early hu h1
   .rcases old h2 with⟨l2,h2⟩| ⟨e2,rfl⟩
    .omega
    .omega
  done:=λj x y hj h=>by
   rcases oldp h with⟨l1,h⟩| ⟨e1,_⟩
   .exact T.done j x y hj h
   .omega
  full:=λj a v x y hj hac hv hx hal S E k=>by
   have la':j<ws.length:=by omega
   rcases old hv with⟨l1,hv1⟩| ⟨e1,_⟩
   .rcases oldp hx with⟨l2,hx1⟩| ⟨e2,_⟩
    .by_cases z:j=at'/\a=act
     .obtain⟨rfl,rfl⟩:=z
      rw[hu] at hv1;cases hv1
      rw[hp] at hx1;cases hx1
      exact k ws.length (u++[a]) _ _ (by simp) (by rw[lp];simp) (.inr rfl)
     .refine T.full j a v x y (by omega) hac hv1 hx1 hal S E λi w x y h1 h2 h3=>?_
      have i1:=(Ws.mp h1).1
      have i2:=(Ws.mp h2).1
      exact k i w x y (by rw[Wz i1];exact h1) (by rw[Wz i2];exact h2) h3
    .omega
   .omega }
theorem Tr.next(T:Tr acts wd al to room other ps ws at' acts){p q:Nat}(hp:ps[at']?=some (p,q))(hs:same acts wd p q):Tr acts wd al to room other ps ws (at'+1) 0 where
 len:=T.len
 p0:=T.p0
 w0:=T.w0
 path:=T.path
 shape:=λk w hk hw=>by
  obtain⟨i,b,v,h1,h2,h3⟩:=T.shape k w hk hw
  exact⟨i,b,v,by omega,h2,h3⟩
 sort:=T.sort
 done:=λj x y hj h=>by
  by_cases z:j=at'
  .subst z
   rw[hp] at h;cases h
   exact hs
  .exact T.done j x y (by omega) h
 full:=λj a v x y hj ha hv hx hl S E k=>T.full j a v x y (by omega) ha hv hx hl S E k
theorem Tr.core(T:Tr acts wd al to room other ps ws at' act){w:List Nat}(hw:Sep acts wd al to w room other)(m:∀w',Sep acts wd al to w' room other->¬slt w' w)(all:∀(j:Nat) (u:List Nat),ws[j]?=some u->(slt u w∨u=w)->j<at'):False:=by
 obtain⟨t,ht,⟨j,hj⟩,mx⟩:=Ul (λt=>∃j:Nat,ws[j]?=some (w.take t)) ⟨0,by rw[T.w0];simp⟩ w.length
 have lj:j<at':=all j _ hj (by
  by_cases z:t=w.length
  .subst z;exact .inr (List.take_length)
  .exact .inl (.inl (by simp;omega)))
 have jl:j<ps.length:=by rw[←T.len];exact(Ws.mp hj).1
 have hp:=Wo jl
 generalize ps[j]=pq at hp
 obtain⟨p,q⟩:=pq
 have hd:=T.done j p q lj hp
 have s1:Sep acts wd al to (w.drop t) p q:=QX (T.path j _ p q hj hp) (by rw[Yq];exact hw)
 cases hv:w.drop t with
 | nil=>rw[hv] at s1;exact s1 hd
 | cons a v =>
  rw[hv] at s1
  obtain⟨_,ha,hl,s2⟩:=s1
  have wt:w=w.take t++[a]++v:=by rw[Xu,List.singleton_append,←hv,Yq]
  have lt:t+1<=w.length:=by
   have:=Xd List.length hv
   simp at this
   omega
  have tk:w.take (t+1)=w.take t++[a]:=by
   have h1:w.take (t+1)=(w.take t++[a]++v).take (t+1):=by rw[←wt]
   rw[h1,List.take_append_of_le_length (by simp;omega),Y6 (by simp;omega)]
  have nk:∃(k:Nat)(u:List Nat)(x y:Nat),ws[k]?=some u/\ps[k]?=some (x,y)/\(slt u (w.take t++[a])∨u=w.take t++[a])/\¬Eqv acts wd al to v x y:=Xj λn=>by
   refine Nk s2 (T.full j a _ p q (.inl lj) ha hj hp hl (Eqv acts wd al to v) ⟨KQ v,Pr,Jf⟩ λk u x y h1 h2 h3=>?_)
   exact Xj λz=>n ⟨k,u,x,y,h1,h2,h3,z⟩
  obtain⟨k,u,x,y,h1,h2,h3,h4⟩:=nk
  obtain⟨t',l',s3⟩:=Ur h4
  have s4:=path_sep (T.path k u x y h1 h2) s3
  rcases sle_app h3 l' with z | ⟨rfl,_⟩
  .exact m _ s4 (by rw[←wt] at z;exact z)
  .exact mx (t+1) (by omega) lt ⟨k,by rw[tk];exact h1⟩
theorem Tr.found(T:Tr acts wd al to room other ps ws at' act){p q:Nat}{w:List Nat}(hp:ps[at']?=some (p,q))(hw:ws[at']?=some w)(hn:¬same acts wd p q):Sep acts wd al to w room other/\∀w',Sep acts wd al to w' room other->¬slt w' w:=by
 have s1:Sep acts wd al to w room other:=by
  have:=path_sep (v:=[]) (T.path at' w p q hw hp) hn
  simpa using this
 refine⟨s1,?_⟩
 obtain⟨w',h1,h2⟩:=Js (λw=>Sep acts wd al to w room other) ⟨w,s1⟩
 rcases slt_tri w w' with z | rfl | z
 .exact absurd z (h2 w s1)
 .exact h2
 .refine(T.core h1 h2 λj u hj hu=>?_).elim
  have uw:slt u w:=by
   rcases hu with hu | rfl
   .exact JB hu z
   .exact z
  rcases Nat.lt_trichotomy j at' with k | rfl | k
  .exact k
  .rw[hw] at hj;cases hj;exact absurd uw (UW _)
  .exact absurd (JB uw (T.sort _ _ _ _ k hw hj)) (UW _)
theorem Tr.none(T:Tr acts wd al to room other ps ws at' act)(h:at'=ps.length)(w:List Nat):¬Sep acts wd al to w room other:=λs=>by
 obtain⟨w',h1,h2⟩:=Js (λw=>Sep acts wd al to w room other) ⟨w,s⟩
 exact T.core h1 h2 λj u hj _=>by rw[h,←T.len];exact(Ws.mp hj).1
end
section
variable{ω:Type}(acts:Nat)(wd:Nat->Nat->ω)(al:ω->Bool)(to:Nat->Nat->Nat)
def Far(t p q:Nat):Prop:=(∃w,w.length=t/\Sep acts wd al to w p q)/\∀w,Sep acts wd al to w p q->t<=w.length
def Im(w:List Nat)(p q:Nat):Prop:=Sep acts wd al to w p q/\∀w',Sep acts wd al to w' p q->¬slt w' w
variable{acts wd al to}
theorem far_of{p q:Nat}{w:List Nat}(h:Sep acts wd al to w p q):∃t,t<=w.length/\Far acts wd al to t p q:=by
 have:∀n,(∃w,w.length=n/\Sep acts wd al to w p q)->∃t,t<=n/\Far acts wd al to t p q:=λn=>by
  induction n using Nat.strongRecOn with
  | _ n ih =>
   intro hn
   by_cases z:∃w,Sep acts wd al to w p q/\w.length<n
   .obtain⟨w,k,l⟩:=z
    obtain⟨t,h1,h2⟩:=ih w.length l ⟨w,rfl,k⟩
    exact⟨t,by omega,h2⟩
   .exact⟨n,Ww _,hn,λw k=>Nat.le_of_not_lt λl=>z ⟨w,k,l⟩⟩
 exact this _ ⟨w,rfl,h⟩
theorem Far.uniq{s t p q:Nat}(h:Far acts wd al to s p q)(k:Far acts wd al to t p q):s=t:=by
 obtain⟨⟨w,l,a⟩,b⟩:=h
 obtain⟨⟨v,m,c⟩,d⟩:=k
 have:=b v c
 have:=d w a
 omega
theorem yl{p q:Nat}:Far acts wd al to 0 p q↔¬same acts wd p q:=by
 constructor
 .rintro⟨⟨w,l,h⟩,_⟩
  obtain rfl:=List.length_eq_zero_iff.mp l
  exact h
 .exact λh=>⟨⟨[],rfl,h⟩,λ_ _=>Xq _⟩
theorem Far.step{t p q:Nat}(h:Far acts wd al to (t+1) p q):same acts wd p q/\∃a,a<acts/\al (wd p a)=true/\Far acts wd al to t (to p a) (to q a):=by
 obtain⟨⟨w,l,s⟩,m⟩:=h
 cases w with
 | nil=>simp at l
 | cons a v =>
  refine⟨s.1,a,s.2.1,s.2.2.1,⟨v,by simpa using l,s.2.2.2⟩,λw' k=>?_⟩
  have:=m (a::w') ⟨s.1,s.2.1,s.2.2.1,k⟩
  simp at this
  omega
theorem PK{t p q:Nat}:Far acts wd al to (t+1) p q↔(¬∃s,s<=t/\Far acts wd al to s p q)/\∃a,a<acts/\al (wd p a)=true/\∃s,s<=t/\Far acts wd al to s (to p a) (to q a):=by
 constructor
 .intro h
  refine⟨λ⟨s,hs,k⟩=>?_,?_⟩
  .have:=h.uniq k
   omega
  .obtain⟨_,a,ha,hl,k⟩:=h.step
   exact⟨a,ha,hl,t,Ww _,k⟩
 .rintro⟨n,a,ha,hl,s,hs,⟨⟨w,l,k⟩,m⟩⟩
  have sm:same acts wd p q:=Xj λz=>n ⟨0,Xq _,yl.mpr z⟩
  obtain⟨r,h1,h2⟩:=far_of (w:=a::w) ⟨sm,ha,hl,k⟩
  by_cases z:r<=t
  .exact(n ⟨r,z,h2⟩).elim
  .have:r=t+1:=by simp[l] at h1;omega
   exact this▸h2
theorem far_end{n t:Nat}(cl:∀p a,p<n->a<acts->al (wd p a)=true->to p a<n)(h:∀p q,p<n->q<n->¬Far acts wd al to (t+1) p q):∀s,t<s->∀p q,p<n->q<n->¬Far acts wd al to s p q:=by
 intro s
 induction s with
 | zero=>intro z;omega
 | succ s ih =>
  intro ts p q hp hq k
  by_cases z:s=t
  .subst z;exact h p q hp hq k
  .obtain⟨sm,a,ha,hl,k⟩:=k.step
   exact ih (by omega) _ _ (cl p a hp ha hl) (cl q a hq ha (by rw[←sm a ha];exact hl)) k
theorem Im.far{w:List Nat}{p q:Nat}(h:Im acts wd al to w p q):Far acts wd al to w.length p q :=
 ⟨⟨w,rfl,h.1⟩,λw' k=>Nat.le_of_not_lt λl=>h.2 w' k (.inl l)⟩
theorem Im.tail{a:Nat}{v:List Nat}{p q:Nat}(h:Im acts wd al to (a::v) p q):same acts wd p q/\a<acts/\al (wd p a)=true/\Im acts wd al to v (to p a) (to q a)/\∀b,b<a->al (wd p b)=true->¬Far acts wd al to v.length (to p b) (to q b):=by
 obtain⟨s,m⟩:=h
 refine⟨s.1,s.2.1,s.2.2.1,⟨s.2.2.2,λw' k z=>?_⟩,λb hb hl ⟨⟨w,l,k⟩,_⟩=>?_⟩
 .refine m (a::w') ⟨s.1,s.2.1,s.2.2.1,k⟩ ?_
  rcases z with z | ⟨z1,z2⟩
  .exact .inl (by simpa using z)
  .exact .inr ⟨by simpa using z1,.inr ⟨rfl,z2⟩⟩
 .exact m (b::w) ⟨s.1,by have:=s.2.1;omega,hl,k⟩ (.inr ⟨by simp[l],.inl hb⟩)
end
def hd(h:List Nat)(x:Nat):Nat:=h.getD x 0
theorem jL{h:List Nat}{x v y:Nat}(hx:x<h.length):hd (h.set x v) y=if y=x then v else hd h y:=by
 unfold hd
 rw[Wq,Wq]
 by_cases z:y=x
 .subst z
  rw[Xb hx,Wu rfl]
  rfl
 .rw[Xe (XH z),WD z]
def roots(n:Nat)(h:List Nat):Nat:=((List.range n).filter λx=>hd h x==x).length
structure UF(n k:Nat)(ps:List (Nat×Nat))(h:List Nat):Prop where
 len:h.length=n
 bd:∀x,x<n->hd h x<n
 dep:∃d:Nat->Nat,(∀x,x<n->hd h x≠x->d (hd h x)<d x)/\∀x,d x<=k
 inn:∀S:Nat->Nat->Prop,Equivalence S->(∀x y,(x,y)∈ps->S x y)->∀x,x<n->S x (hd h x)
theorem QG{n:Nat}{h h':List Nat}(e:∀x,x<n->(hd h' x=x↔hd h x=x)):roots n h'=roots n h:=by
 unfold roots
 rw[List.filter_congr λx hx=>?_]
 have:=e x (W2.mp hx)
 by_cases z:hd h x=x
 .rw[this.mpr z,z]
 .have k:hd h' x≠x:=λq=>z (this.mp q)
  rw[W3.mpr k,W3.mpr z]
theorem UF.halve{n k:Nat}{ps:List (Nat×Nat)}{h:List Nat}(U:UF n k ps h){x:Nat}(hx:x<n)(ne:hd h x≠x):UF n k ps (h.set x (hd h (hd h x)))/\(∀y,y<n->(hd (h.set x (hd h (hd h x))) y=y↔hd h y=y)):=by
 obtain⟨d,d1,d2⟩:=U.dep
 have lx:x<h.length:=by rw[U.len];exact hx
 have b1:=U.bd x hx
 have b2:=U.bd _ b1
 have dx:=d1 x hx ne
 have lt:d (hd h (hd h x))<d x:=by
  by_cases z:hd h (hd h x)=hd h x
  .rw[z];exact dx
  .exact YF (d1 _ b1 z) dx
 refine⟨⟨by rw[Xc];exact U.len,λy hy=>?_,⟨d,λy hy=>?_,d2⟩,λS E k' y hy=>?_⟩,λy hy=>?_⟩
 .rw[jL lx];split
  .exact b2
  .exact U.bd y hy
 .rw[jL lx];split
  .rename_i z;subst z;exact λ_=>lt
  .exact d1 y hy
 .rw[jL lx];split
  .rename_i z;subst z
   exact E.trans (U.inn S E k' y hx) (U.inn S E k' _ b1)
  .exact U.inn S E k' y hy
 .rw[jL lx];split
  .rename_i z;subst z
   constructor
   .intro q;rw[q] at lt;exact absurd lt (Xw _)
   .intro q;exact absurd q ne
  .exact Xf
def find:Nat->List Nat->Nat->List Nat×Nat
 | 0,h,x=>(h,x)
 | f+1,h,x=>if hd h x=x then (h,x) else find f (h.set x (hd h (hd h x))) (hd (h.set x (hd h (hd h x))) x)
theorem Ui{n k:Nat}{ps:List (Nat×Nat)}:∀(f:Nat){h:List Nat}{x:Nat},UF n k ps h->x<n->(∃d:Nat->Nat,(∀x,x<n->hd h x≠x->d (hd h x)<d x)/\d x<f)->UF n k ps (find f h x).1/\(find f h x).2<n/\hd (find f h x).1 (find f h x).2=(find f h x).2/\(∀S:Nat->Nat->Prop,Equivalence S->(∀x y,(x,y)∈ps->S x y)->S x (find f h x).2)/\∀y,y<n->(hd (find f h x).1 y=y↔hd h y=y)
 | 0,h,x,U,hx,⟨d,_,l⟩=>by omega
 | f+1,h,x,U,hx,⟨d,d1,l⟩=>by
  unfold find
  by_cases z:hd h x=x
  .rw[Wu z]
   exact⟨U,hx,z,λS E _=>E.refl x,λ_ _=>Xf⟩
  .rw[WD z]
   obtain⟨U',r'⟩:=U.halve hx z
   have lx:x<h.length:=by rw[U.len];exact hx
   have b1:=U.bd x hx
   have dx:=d1 x hx z
   have lt:d (hd h (hd h x))<d x:=by
    by_cases y:hd h (hd h x)=hd h x
    .rw[y];exact dx
    .exact YF (d1 _ b1 y) dx
   have e:hd (h.set x (hd h (hd h x))) x=hd h (hd h x):=by rw[jL lx,Wu rfl]
   rw[e]
   obtain⟨a1,a2,a3,a4,a5⟩:=Ui f U' (U.bd _ b1) ⟨d,λy hy=>by
    rw[jL lx]
    split
    .rename_i q;subst q;exact λ_=>lt
    .exact d1 y hy,by omega⟩
   refine⟨a1,a2,a3,λS E k'=>E.trans (E.trans (U.inn S E k' x hx) (U.inn S E k' _ b1)) (a4 S E k'),λy hy=>(a5 y hy).trans (r' y hy)⟩
theorem UF.find{n k:Nat}{ps:List (Nat×Nat)}{h:List Nat}(U:UF n k ps h){f x:Nat}(hx:x<n)(hf:k<f):UF n k ps (PT.find f h x).1/\(PT.find f h x).2<n/\hd (PT.find f h x).1 (PT.find f h x).2=(PT.find f h x).2/\(∀S:Nat->Nat->Prop,Equivalence S->(∀x y,(x,y)∈ps->S x y)->S x (PT.find f h x).2)/\∀y,y<n->(hd (PT.find f h x).1 y=y↔hd h y=y):=by
 obtain⟨d,d1,d2⟩:=U.dep
 exact Ui f U hx ⟨d,d1,Xa (d2 x) hf⟩
theorem UF.union{n k:Nat}{ps:List (Nat×Nat)}{h:List Nat}(U:UF n k ps h){a b x y:Nat}(ha:a<n)(hb:b<n)(ra:hd h a=a)(rb:hd h b=b)(ne:a≠b)(jx:∀S:Nat->Nat->Prop,Equivalence S->(∀x y,(x,y)∈ps->S x y)->S x a/\S y b):UF n (k+1) (ps++[(x,y)]) (h.set a b)/\roots n (h.set a b)+1=roots n h:=by
 obtain⟨d,d1,d2⟩:=U.dep
 have la:a<h.length:=by rw[U.len];exact ha
 refine⟨⟨by rw[Xc];exact U.len,λz hz=>?_,⟨λz=>if z=b then 0 else d z+1,λz hz=>?_,λz=>?_⟩,λS E k' z hz=>?_⟩,?_⟩
 .rw[jL la];split
  .exact hb
  .exact U.bd z hz
 .rw[jL la];split
  .rename_i q;subst q
   intro _
   dsimp only
   rw[Wu rfl,WD ne]
   omega
  .intro q
   have zb:z≠b:=λe=>q (by rw[e];exact rb)
   dsimp only
   rw[WD zb]
   split
   .omega
   .have:=d1 z hz q
    omega
 .dsimp only
  split
  .omega
  .have:=d2 z
   omega
 .have k1:∀x y,(x,y)∈ps->S x y:=λx y m=>k' x y (W4.mpr (.inl m))
  rw[jL la];split
  .rename_i q;subst q
   obtain⟨s1,s2⟩:=jx S E k1
   exact E.trans (E.symm s1) (E.trans (k' x y (by simp)) s2)
  .exact U.inn S E k1 z hz
 .have key:∀l:List Nat,l.Nodup->(l.filter λx=>hd (h.set a b) x==x).length+(if a∈l then 1 else 0)=(l.filter λx=>hd h x==x).length:=by
   intro l
   induction l with
   | nil=>intro _;rfl
   | cons z l ih =>
    intro nd
    obtain⟨n1,n2⟩:=Yy.mp nd
    have:=ih n2
    by_cases q:z=a
    .subst q
     rw[WD n1] at this
     have e1:(hd (h.set z b) z==z)=false:=by rw[jL la,Wu rfl];simp[Ne.symm ne]
     have e2:(hd h z==z)=true:=by simp[ra]
     rw[Yt,Yt,e1,e2,Wu (WY)]
     simp only[Bool.false_eq_true,if_false,if_true,List.length_cons]
     omega
    .have e1:(hd (h.set a b) z==z)=(hd h z==z):=by rw[jL la,WD q]
     have m:(a∈z::l)↔a∈l:=by simp[Ne.symm q]
     rw[Yt,Yt,e1]
     by_cases al:a∈l
     .rw[Wu (m.mpr al)]
      rw[Wu al] at this
      split <;> (try simp only[List.length_cons]) <;> omega
     .rw[WD (λq=>al (m.mp q))]
      rw[WD al] at this
      split <;> (try simp only[List.length_cons]) <;> omega
  have:=key (List.range n) List.nodup_range
  rw[Wu (W2.mpr ha)] at this
  exact this
theorem UF.start(n:Nat):UF n 0 [] (List.range n)/\roots n (List.range n)=n:=by
 have e:∀x,x<n->hd (List.range n) x=x:=λx hx=>by
  unfold hd
  rw[Wq,Zi hx]
  rfl
 refine⟨⟨XM,λx hx=>by rw[e x hx];exact hx,⟨λ_=>0,λx hx q=>absurd (e x hx) q,λ_=>Ww _⟩,λS E _ x hx=>by rw[e x hx];exact E.refl x⟩,?_⟩
 unfold roots
 rw[List.filter_eq_self.mpr λx hx=>by simp[e x (List.mem_range.mp hx)],XM]
theorem set_same{h:List Nat}{a:Nat}(la:a<h.length)(r:hd h a=a):h.set a a=h:=by
 have e:h[a]=a:=by
  unfold hd at r
  rw[Wq,Wo la] at r
  exact r
 refine YM λi=>?_
 by_cases z:i=a
 .subst z
  rw[Xb la,Wo la,e]
 .rw[Xe (XH z)]
theorem UF.join{n k f:Nat}{ps:List (Nat×Nat)}{h:List Nat}(U:UF n k ps h){x y:Nat}(hx:x<n)(hy:y<n)(hf:k<f):
  ∃h1 a h2 b,PT.find f h x=(h1,a)/\PT.find f h1 y=(h2,b)/\a<n/\b<n/\h1.length=n/\h2.length=n /\
   (a=b->UF n k ps (h2.set a b)/\roots n (h2.set a b)=roots n h/\∀S:Nat->Nat->Prop,Equivalence S->(∀x y,(x,y)∈ps->S x y)->S x y) /\
   (a≠b->UF n (k+1) (ps++[(x,y)]) (h2.set a b)/\roots n (h2.set a b)+1=roots n h):=by
 obtain⟨a1,a2,a3,a4,a5⟩:=U.find hx hf
 obtain⟨b1,b2,b3,b4,b5⟩:=a1.find hy hf
 have ra:hd (PT.find f (PT.find f h x).1 y).1 (PT.find f h x).2=(PT.find f h x).2:=(b5 _ a2).mpr a3
 have rr:roots n (PT.find f (PT.find f h x).1 y).1=roots n h:=(QG b5).trans (QG a5)
 refine⟨(PT.find f h x).1,(PT.find f h x).2,(PT.find f (PT.find f h x).1 y).1,(PT.find f (PT.find f h x).1 y).2,rfl,rfl,a2,b2,a1.len,b1.len,λe=>?_,λe=>?_⟩
 .have s:=set_same (by rw[b1.len];exact a2) ra
  rw[←e,s]
  exact⟨b1,rr,λS E k'=>E.trans (a4 S E k') (by rw[e];exact E.symm (b4 S E k'))⟩
 .obtain⟨u1,u2⟩:=b1.union (x:=x) (y:=y) a2 b2 ra b3 e λS E k'=>⟨a4 S E k',b4 S E k'⟩
  exact⟨u1,u2.trans rr⟩
end PT
namespace K10
open PySem L2 MX DL
inductive Dr where
 | must (n:Nat) | may (n:Nat) | shut | torn
def Dr.w:Dr->Str
 | .must _=>"must"
 | .may _=>"may"
 | .shut=>"shut"
 | .torn=>"torn"
def Dr.to:Dr->D
 | .must n=>.int n
 | .may n=>.int n
 | .shut=>.non
 | .torn=>.non
def Dr.d(x:Dr):D:=.tup [.str x.w,x.to]
def Dr.ob:Dr->D
 | .must n=>.obj eU [("to",.int n)]
 | .may n=>.obj j8 [("to",.int n)]
 | .shut=>.obj d8 [("to",.non)]
 | .torn=>.obj d9 [("to",.non)]
def Dr.ok(many:Nat)(t:Bool):Dr->Prop
 | .must n=>n<many
 | .may n=>n<many
 | .shut=>True
 | .torn=>t=true
theorem s0:(0:Nat)<=sizeLine:=by decide
theorem s2:(2:Nat)<=sizeLine:=by decide
theorem q11:eqD (.str "must") (.str "must")=some true:=by decide +kernel
theorem q21:eqD (.str "may") (.str "must")=some false:=by decide +kernel
theorem q22:eqD (.str "may") (.str "may")=some true:=by decide +kernel
theorem q31:eqD (.str "shut") (.str "must")=some false:=by decide +kernel
theorem q32:eqD (.str "shut") (.str "may")=some false:=by decide +kernel
theorem q33:eqD (.str "shut") (.str "shut")=some true:=by decide +kernel
theorem q41:eqD (.str "torn") (.str "must")=some false:=by decide +kernel
theorem q42:eqD (.str "torn") (.str "may")=some false:=by decide +kernel
theorem q43:eqD (.str "torn") (.str "shut")=some false:=by decide +kernel
theorem q44:eqD (.str "torn") (.str "torn")=some true:=by decide +kernel
theorem q13:eqD (.str "must") (.str "shut")=some false:=by decide +kernel
theorem q23:eqD (.str "may") (.str "shut")=some false:=by decide +kernel
theorem n1:inD (.str "must") (.tup [.str "must",.str "torn"])=some true:=by decide +kernel
theorem n2:inD (.str "may") (.tup [.str "must",.str "torn"])=some false:=by decide +kernel
theorem n3:inD (.str "shut") (.tup [.str "must",.str "torn"])=some false:=by decide +kernel
theorem n4:inD (.str "torn") (.tup [.str "must",.str "torn"])=some true:=by decide +kernel
theorem m1:inD (.str "must") (.tup [.str "must",.str "may"])=some true:=by decide +kernel
theorem m2:inD (.str "may") (.tup [.str "must",.str "may"])=some true:=by decide +kernel
theorem m3:inD (.str "shut") (.tup [.str "must",.str "may"])=some false:=by decide +kernel
theorem m4:inD (.str "torn") (.tup [.str "must",.str "may"])=some false:=by decide +kernel
theorem Dd:PyData.strOk "must"=true:=by decide +kernel
theorem Mt:PyData.strOk "may"=true:=by decide +kernel
theorem De:PyData.strOk "shut"=true:=by decide +kernel
theorem Dg:PyData.strOk "torn"=true:=by decide +kernel
theorem Do(n many:Nat)(h:n<many):vQ [.int n,.int many]=.ok (.bl true):=by
 unfold vQ zX
 have h1:(n:Int)<(many:Int):=by omega
 have h0:(0:Int)<=(n:Int):=by omega
 walk_at "ev: pB kj uh h0 h1"
theorem Oc(x:Dr)(many:Nat)(t:Bool)(h:x.ok many t):jd [x.d,.int many,.bl t]=.ok (.bl true):=by
 unfold jd mZ Dr.d
 cases x with
 | must n=>(have zv0:=Do n many h;walk_at "ev: dD ju uh Dr.w Dr.to q11 zv0")
 | may n=>(have zv0:=Do n many h;walk_at "ev: dD ju uh Dr.w Dr.to q21 q22 zv0")
 | shut=>walk_at "ev: dD ju uh Dr.w Dr.to q31 q32 q33"
 | torn =>
  obtain rfl:t=true:=h
  walk_at "ev: dD ju uh Dr.w Dr.to q41 q42 q43 q44"
theorem Rq(n a:Bool)(to:D):vP [.bl n,.bl a,to]=.ok (match n,a with | true,true=>.obj eU [("to",to)] | false,true=>.obj j8 [("to",to)] | true,false=>.obj d9 [("to",.non)] | false,false=>.obj d8 [("to",.non)]):=by
 unfold vP zV
 cases n <;> cases a <;> walk_at "ev: uz Il wM uA" <;> rfl
theorem F_made(x:Dr):j0 [x.d]=.ok x.ob:=by
 unfold j0 uM Dr.d
 cases x <;> walk_at "ev: Dr.w Dr.to Dr.ob s2 n1 n2 n3 n4 m1 m2 m3 m4 Rq"
theorem F_told'(x:Dr):fY [x.ob]=.ok x.d:=by
 unfold fY uL
 cases x <;> walk_at "ev: Dr.d Dr.w Dr.to Dr.ob s2 eU j8 d8 d9 gD n6 oW qM rO n8 oX oh oY"
theorem M_told'(x:Dr)(δ:DSt)(fo:DSt->Out D)(h:fo δ=.ok x.ob):oM "told" 1 vJ fo aD δ=.ok x.d:=by
 have e:=F_told' x
 cases x <;> · unfold Dr.ob at e h;simp only[dz,fV,v9,bB,iQ,bD,gY,sIf,cz,cM,um,sClr2,sPut,FT,gv,gb,gvo,slD,o1,o2,o2b,o3,oC,oF,oM,oMk,gC,uY,bV,Dy,orT,lY,tst,zN,orV,notV,aD,aj,bL,fJ,uI,iR,su,kc,one1,frzd,frz,frzS,yD,lO,Dm,pF,kh,lX,Cy,N5,asB_b,dO,Lp,Lq,qw,ixD_r,Jp,Lj,uQ,atI_0,atI_1,Lw,Fi,rF,Ae,Fj,isND,kI,iy,gN,lG,cD,gT,Out.aQ,Out.Kv,Out.wR,Out.jC,Out.Qs,Out.sG,nxP_ok,List.map_cons,List.map_nil,List.length_cons,List.length_nil,List.append_assoc,List.nil_append,List.cons_append,List.getElem?_cons_zero,List.getElem?_cons_succ,List.getElem?_nil,List.set_cons_zero,List.set_cons_succ,Nat.zero_add,Nat.reduceAdd,Nat.reduceSub,List.replicate_succ,List.replicate_zero,List.lookup_cons,List.lookup_nil,Option.some.injEq,Option.bind_some,Option.map_some,Nat.reduceBEq,Nat.reduceEqDiff,Int.reduceLT,Int.reduceLE,Int.reduceNeg,Int.reduceAdd,Int.reduceMul,Int.reduceSub,Nat.reduceLeDiff,reduceIte,ite_true,decide_true,decide_false,Bool.not_true,Bool.not_false,Nat.reduceEqDiff,Bool.false_eq_true,Option.isNone_none,Option.isNone_some,lZ,String.reduceBEq,String.reduceEq,beq_self_eq_true,List.contains_cons,List.contains_nil,Bool.or_false,Bool.or_true,Bool.true_or,Bool.false_or,Bool.and_true,Bool.and_false,Bool.true_and,Bool.false_and,Bool.not_eq_true,eq_self_iff_true,Int.cast_ofNat_Int,Int.reduceBEq,Int.natCast_zero,h,vJ,eU,j8,d8,d9] at e ⊢;exact e
theorem T4(x:Dr)(δ:DSt)(fo:DSt->Out D)(h:fo δ=.ok x.ob):oM "word" 1 gD fo aD δ=.ok (.str x.w):=by
 cases x <;> · unfold Dr.ob at h;walk_at "ev: h Dr.w gD eU j8 d8 d9 n6 oW qM rO n8 oX oh oY"
def alw:Dr->Bool
 | .must _=>true
 | .may _=>true
 | _=>false
theorem Vb(x:Dr)(δ:DSt)(fo:DSt->Out D)(h:fo δ=.ok x.ob):oM "allows" 1 iI fo aD δ=.ok (.bl (alw x)):=by
 cases x <;> · unfold Dr.ob at h;walk_at "ev: h alw iI eU j8 d8 d9 pM pR qL rN pN pU pO pW"
theorem R5(x:Dr)(δ:DSt)(fo:DSt->Out D)(h:fo δ=.ok x.ob):gC "to" [eU,j8,d8,d9] fo δ=.ok x.to:=by
 cases x <;> · unfold Dr.ob at h;walk_at "ev: h Dr.to eU j8 d8 d9"
theorem JN(r:List Dr)(h:r.length<=100):j5 [.lst (r.map Dr.d)]=.ok (.tup (r.map Dr.ob)):=by
 unfold j5 uN
 have e:=oN (cap:=[none]) (fi:=iR (gv 0)) (fe:=pX) (δ:=[some (.sh (.lst (r.map Dr.d)))]) Dr.d Dr.ob r rfl (by omega) (λx _=>by
  unfold pX
  show (oF 1 j0 (aj (gv 0) aD) [some (.sh x.d)])=_
  (have zv0:=F_made x;walk_at "ev: zv0"))
 walk_at "ev: e xr"
def aM(rows:List (List Dr)):D:=.lst (rows.map λr=>.lst (r.map Dr.d))
def yJ(rows:List (List Dr)):D:=.tup (rows.map λr=>.tup (r.map Dr.ob))
structure Rows(many acts:Nat)(t:Bool)(rows:List (List Dr)):Prop where
 n:rows.length=many
 row:∀r∈rows,r.length=acts/\∀x∈r,x.ok many t
theorem Eg{α:Type}(g:α->D):∀(xs:List α)(k:Nat),oV k (xs.map g)=(List.zipIdx xs k).map λp=>D.tup [.int p.2,g p.1]
 | [],_=>rfl
 | x::xs,k=>by rw[WN,List.zipIdx_cons,WN,←Eg g xs (k+1)];rfl
theorem F_rows(many acts:Nat)(t:Bool)(rows:List (List Dr))(R:Rows many acts t rows)(h1:1<=many)(h2:many<=2000)(h3:acts<=8):gH [aM rows,.int acts,.bl t]=.ok .non:=by
 unfold gH rW aM
 have hn:=R.n
 have a1:(1:Int)<=(rows.length:Int):=by omega
 have a2:(rows.length:Int)<=2000:=by omega
 walk_at "ev: c7 uh List.length_map a1 a2 enum Ac Eg"
 have step:∀(p:List Dr×Nat)(done:List (List Dr×Nat))(δ:DSt),(∃a b c d:Option Sl,δ=[some (.sh (aM rows)),some (.sh (.int acts)),some (.sh (.bl t)),a,b,c,d])->p∈rows.zipIdx ->
   ∃δ1,gT 2 (cD (gN 3) (cD (gN 4) lG)) (D.tup [.int p.2,.lst (p.1.map Dr.d)]) δ=some δ1/\nxP (ni δ1) λδ=>∃a b c d:Option Sl,δ=[some (.sh (aM rows)),some (.sh (.int acts)),some (.sh (.bl t)),a,b,c,d]:=by
  rintro⟨r,i⟩ done δ ⟨a,b,c,d,rfl⟩ hp
  refine⟨_,rfl,?_⟩
  have hr:=R.row r (List.fst_mem_of_mem_zipIdx hp)
  have hl:(r.length:Int)=(acts:Int):=by rw[hr.1]
  have step2:∀(p:Dr×Nat)(done:List (Dr×Nat))(δ:DSt),(∃a b:Option Sl,δ=[some (.sh (aM rows)),some (.sh (.int acts)),some (.sh (.bl t)),some (.sh (.int i)),some (.sh (.lst (r.map Dr.d))),a,b])->p∈r.zipIdx ->
    ∃δ1,gT 2 (cD (gN 5) (cD (gN 6) lG)) (D.tup [.int p.2,p.1.d]) δ=some δ1/\nxP (nj δ1) λδ=>∃a b:Option Sl,δ=[some (.sh (aM rows)),some (.sh (.int acts)),some (.sh (.bl t)),some (.sh (.int i)),some (.sh (.lst (r.map Dr.d))),a,b]:=by
   rintro⟨x,j⟩ done δ ⟨a,b,rfl⟩ hq
   refine⟨_,rfl,?_⟩
   have e:=Oc x many t (hr.2 x (List.fst_mem_of_mem_zipIdx hq))
   unfold nj
   unfold aM
   walk_at "ev: List.length_map hn e"
   exact⟨_,_,rfl⟩
  obtain⟨δ',e1,i1⟩:=La (λp:Dr×Nat=>D.tup [.int p.2,p.1.d]) (λ_ δ=>∃a b:Option Sl,δ=[some (.sh (aM rows)),some (.sh (.int acts)),some (.sh (.bl t)),some (.sh (.int i)),some (.sh (.lst (r.map Dr.d))),a,b]) r.zipIdx [] [some (.sh (aM rows)),some (.sh (.int acts)),some (.sh (.bl t)),some (.sh (.int i)),some (.sh (.lst (r.map Dr.d))),c,d] step2 ⟨_,_,rfl⟩
  unfold ni
  walk_at "ev: c7 uh List.length_map hl enum Ac Eg e1"
  obtain⟨a,b,rfl⟩:=i1
  exact⟨_,_,_,_,rfl⟩
 obtain⟨δ',e1,i1⟩:=La (λp:List Dr×Nat=>D.tup [.int p.2,.lst (p.1.map Dr.d)]) (λ_ δ=>∃a b c d:Option Sl,δ=[some (.sh (aM rows)),some (.sh (.int acts)),some (.sh (.bl t)),a,b,c,d]) rows.zipIdx [] [some (.sh (aM rows)),some (.sh (.int acts)),some (.sh (.bl t)),none,none,none,none] step ⟨_,_,_,_,rfl⟩
 unfold aM at e1
 walk_at "ev: e1"
def NameL(l:List Nat):Prop:=1<=l.length/\l.length<=8/\∀c∈l,97<=c/\c<123
theorem F_name(l:List Nat)(h:NameL l):ql [.str (ofL l)]=.ok (.bl true):=by
 unfold ql zW
 have a1:(1:Int)<=(l.length:Int):=by have:=h.1;omega
 have a2:(l.length:Int)<=8:=by have:=h.2.1;omega
 have a3:l.length<=sizeLine:=W5 h.2.1 (by decide)
 have e:=oN (cap:=[none]) (fi:=strO (gv 0)) (fe:=uT) (δ:=[some (.sh (.str (ofL l)))]) (λc=>D.str (ofL [c])) (λ_=>D.bl true) l rfl (by have:=h.2.1;omega) (λc hc=>by
  unfold uT
  have e:=abc_in (h.2.2 c hc).1 (h.2.2 c hc).2
  show bV (o2b inD (gb 0) (kc (.str "abcdefghijklmnopqrstuvwxyz"))) [some (.sh (.str (ofL [c])))]=_
  walk_at "ev: e")
 have e2:=Oz (λ_:Nat=>true) l
 walk_at "ev: ju uh bN Dc a1 a2 a3 e e2"
 simp
def cB(ns:List (List Nat)):List D:=ns.map λl=>.str (ofL l)
structure Names(ns:List (List Nat)):Prop where
 ok:∀l∈ns,NameL l
 lo:1<=ns.length
 hi:ns.length<=8
 nd:ns.Nodup
theorem F_acts(ns:List (List Nat))(N:Names ns):je [.lst (cB ns)]=.ok .non:=by
 unfold je m6 jG jK
 have h1:=N.lo
 have h2:=N.hi
 have a1:(1:Int)<=(ns.length:Int):=by omega
 have a2:(ns.length:Int)<=8:=by omega
 have e:=oN (cap:=[none]) (fi:=iR (gv 0)) (fe:=iB) (δ:=[some (.sh (.lst (cB ns)))]) (λl=>D.str (ofL l)) (λ_=>D.bl true) ns rfl (by omega) (λl hl=>by
  unfold iB
  have e:=F_name l (N.ok l hl)
  show oF 1 ql (aj (gv 0) aD) [some (.sh (.str (ofL l)))]=_
  walk_at "ev: e")
 have e2:=Oz (λ_:List Nat=>true) ns
 have e3:ns.all (λ_=>true)=true:=by simp
 have e4:Ff (.lst (cB ns))=some (.int ns.length):=by
  unfold Ff
  have q:cB ns=(ns.map ofL).map D.str:=by unfold cB;simp
  simp only[Ac,Option.bind_some,q,Wa]
  rw[Wu (by rw[Wx];omega),Fp _ _ (by
   simp only[List.nil_append]
   exact List.pairwise_map.mpr (N.nd.imp λh q=>h (ofL_inj q)))]
  simp
 have e5:(cB ns).length=ns.length:=by simp[cB]
 walk_at "ev: c7 uh e5 a1 a2 e e2 e3 e4"
def plan(c:Nat)(ns:List (List Nat))(rows:List (List Dr)):D:=.obj c [("actions",.tup (cB ns)),("rooms",yJ rows)]
theorem F_init(t:Bool)(many:Nat)(ns:List (List Nat))(rows:List (List Dr))(N:Names ns)(R:Rows many ns.length t rows)(h1:1<=many)(h2:many<=60):Jm t [.lst (cB ns),aM rows]=.ok [("actions",.tup (cB ns)),("rooms",yJ rows)]:=by
 have e5:(cB ns).length=ns.length:=by simp[cB]
 have e1:=F_acts ns N
 have e2:=F_rows many ns.length t rows R h1 (by omega) N.hi
 have hn:=R.n
 have e3:=oN (cap:=[none]) (fi:=iR (gv 2)) (fe:=nu) (δ:=[none,some (.sh (.lst (cB ns))),some (.sh (aM rows))]) (λr:List Dr=>D.lst (r.map Dr.d)) (λr=>D.tup (r.map Dr.ob)) rows rfl (by omega) (λr hr=>by
  unfold nu
  have h8:=N.hi
  have e:=JN r (by rw[(R.row r hr).1];omega)
  show oF 1 j5 (aj (gv 0) aD) [some (.sh (.lst (r.map Dr.d)))]=_
  walk_at "ev: e")
 unfold Jm CK CN CP CQ
 walk_at "ev: e1 e2 e5 e3 xr yJ"
structure Pl(c many:Nat)(t:Bool)(ns:List (List Nat))(rows:List (List Dr)):Prop where
 c:c=d7∨c=fu
 N:Names ns
 R:Rows many ns.length t rows
 lo:1<=many
 hi:many<=60
def toN:Dr->Option Nat
 | .must n=>some n
 | .may n=>some n
 | _=>none
section
variable{c many:Nat}{t:Bool}{ns:List (List Nat)}{rows:List (List Dr)}{δ:DSt}{fo:DSt->Out D}
theorem Jj(P:Pl c many t ns rows)(h:fo δ=.ok (plan c ns rows)):gC "rooms" [d7,fu] fo δ=.ok (yJ rows):=by
 unfold plan at h
 rcases P.c with rfl | rfl <;> walk_at "ev: h d7 fu"
end
theorem v4{α:Type}(n:Nat)(f:α->D):∀xs:List α,(∀x∈xs,eZ n (f x)=true)->pC n (xs.map f)=true
 | [],_=>by simp[pC]
 | x::xs,h=>by
  rw[WN]
  simp only[pC,Bool.and_eq_true]
  exact⟨h x WY,v4 n f xs λy hy=>h y (WR _ hy)⟩
theorem lay_d(x:Dr)(n:Nat):eZ (n+1) x.d=true:=by
 cases x <;> simp[Dr.d,Dr.w,Dr.to,eZ,pC,Dd,Mt,De,Dg]
theorem lay_rows(rows:List (List Dr)):eZ 50 (aM rows)=true:=by
 show pC 49 _=true
 exact v4 49 _ _ λr _=>by
  show pC 48 _=true
  exact v4 48 _ _ λx _=>lay_d x 47
theorem cV(x:Int){m:Nat}(h:1<=m):∃n:Nat,x % (m:Int)=(n:Int)/\n<m:=by
 have h1:=XD x (show (m:Int)≠0 by omega)
 have h2:=X4 x (show (0:Int)<m by omega)
 exact⟨(x % (m:Int)).toNat,by omega,by omega⟩
theorem yx{n j:Nat}(h:j<n):ixN n (j:Int)=some j:=by
 unfold ixN
 rw[Wu (by omega),Wu (by omega)]
 simp
theorem aV{A B:DSt->Out Fl}{δ δ':DSt}(h:A δ=.ok (.nx δ')):bB A B δ=B δ':=by
 unfold bB
 rw[h]
 rfl
theorem zO{f:DSt->Out D}{i:Nat}{δ δ':DSt}{ds:List D}{d:D}(h1:δ[i]?=some (some (.ol ds)))(h2:f δ=.ok d)(h3:ds.length<sizeLine)(h4:δ.set i (some (.ol (ds++[d])))=δ'):um i f δ=.ok (.nx δ'):=by
 unfold um
 rw[h1]
 simp only[h2,Out.aQ]
 rw[Wu h3,h4]
theorem run_rt{A B:DSt->Out Fl}{δ:DSt}{d:D}(h:A δ=.ok (.rt d)):((bB A B δ).bind v9).bw=.ok d:=by
 unfold bB
 rw[h]
 rfl
theorem UT{f:DSt->Out D}{δ:DSt}{d:D}(h:f δ=.ok d):cz f δ=.ok (.rt d):=by
 unfold cz
 rw[h]
 rfl
theorem Lr{f:DSt->Out (List D)}{δ:DSt}{l:List D}(h:f δ=.ok l):su f δ=.ok (.lst l):=by
 unfold su
 rw[h]
 rfl
theorem nodup_range{f:Nat->List Nat}{n:Nat}(h:∀i j,i<j->j<n->f i≠f j):((List.range n).map f).Nodup:=by
 refine List.pairwise_map.mpr (List.Pairwise.imp_of_mem (fun{a b} ha hb hab=>h a b hab (W2.mp hb)) List.pairwise_lt_range)
theorem bF{i:Nat}{f:DSt->Out D}{δ δ':DSt}{d:D}(h:f δ=.ok d)(e:δ.set i (some (.sh d))=δ'):bD i f δ=.ok (.nx δ'):=by
 unfold bD
 rw[h]
 simp only[Out.aQ]
 rw[e]
theorem pH{i:Nat}{f:DSt->Out (List D)}{δ δ':DSt}{d:List D}(h:f δ=.ok d)(e:δ.set i (some (.ol d))=δ'):gY i f δ=.ok (.nx δ'):=by
 unfold gY
 rw[h]
 simp only[Out.aQ]
 rw[e]
theorem mk_ok{c n:Nat}{F:List D->Out (List (Str×D))}{fr:DSt->Out (List D)}{δ:DSt}{ds:List D}{fds:List (Str×D)}(h:fr δ=.ok ds)(hl:ds.length=n)(e:F ds=.ok fds):oMk c n F fr δ=.ok (.obj c fds):=by
 unfold oMk
 rw[h]
 simp only[Out.aQ]
 rw[Wu hl,e]
 rfl
theorem aG{f:DSt->Out D}{r:DSt->Out (List D)}{δ:DSt}{d:D}{ds:List D}(h:f δ=.ok d)(h2:r δ=.ok ds):aj f r δ=.ok (d::ds):=by
 unfold aj
 rw[h]
 simp only[Out.aQ]
 rw[h2]
 rfl
theorem lent_ok{i:Nat}{f:DSt->Out D}{δ δ':DSt}{s:Sl}{d:D}(h:δ[i]?=some (some s))(hs:lends s=true)(e:frz i δ=δ')(hf:f δ'=.ok d)(hd:noL d=true):Jt i f δ=.ok d:=by
 unfold Jt
 rw[h]
 simp only[]
 rw[Wu hs,e,hf]
 simp only[Out.sG,Out.aQ]
 rw[Wu hd]
theorem gB{n:Nat}{F:List D->Out D}{fr:DSt->Out (List D)}{δ:DSt}{ds:List D}{d:D}(h:fr δ=.ok ds)(hl:ds.length=n)(e:F ds=.ok d):oF n F fr δ=.ok d:=by
 unfold oF
 rw[h]
 simp only[Out.aQ]
 rw[Wu hl,e]
theorem O4{α β:Type}{t:DSt->Out Bool}{fe:DSt->Out β}(g:α->D)(h:α->Option β):∀(xs:List α)(δ:DSt),(∀x∈xs,t (δ.set 0 (some (.sh (g x))))=.ok (h x).isSome/\∀y,h x=some y->fe (δ.set 0 (some (.sh (g x))))=.ok y)->xV (gN 0) t fe (xs.map g) δ=.ok (xs.filterMap h)
 | [],_,_=>rfl
 | x::xs,δ,k=>by
  have e1:=k x WY
  have e2:=O4 g h xs (δ.set 0 (some (.sh (g x)))) (λy hy=>by rw[List.set_set];exact k y (WR _ hy))
  rw[WN]
  unfold xV
  cases hx:h x with
  | none =>
   rw[hx] at e1
   simp only[gN,Out.jC,Out.aQ,Out.sG,e1.1,e2,Option.isSome_none,Bool.false_eq_true,if_false,List.filterMap_cons,hx]
  | some y =>
   have e3:=e1.2 y hx
   rw[hx] at e1
   simp only[gN,Out.jC,Out.aQ,Out.sG,e1.1,e2,e3,Option.isSome_some,if_true,List.filterMap_cons,hx]
theorem comp_fm{α β:Type}{cap:List (Option Nat)}{fi:DSt->Out (List D)}{t:DSt->Out Bool}{fe:DSt->Out β}{δ:DSt}(g:α->D)(h:α->Option β)(xs:List α)(e:fi δ=.ok (xs.map g))(hz:xs.length<1000000)(k:∀x∈xs,t ((capD cap δ).set 0 (some (.sh (g x))))=.ok (h x).isSome/\∀y,h x=some y->fe ((capD cap δ).set 0 (some (.sh (g x))))=.ok y):fX cap fi (gN 0) t fe δ=.ok (xs.filterMap h):=by
 unfold fX
 rw[e]
 simp only[Out.aQ]
 rw[Wu (by rw[Wx];exact WQ hz (by decide)),O4 g h xs _ k]
theorem add_str{a b:List Nat}(h:a.length+b.length<=100):bZ (.str (ofL a)) (.str (ofL b))=some (.str (ofL (a++b))):=by
 show (if (ofL a).length+(ofL b).length<=sizeLine then some (D.str (ofL a++ofL b)) else none)=_
 rw[Dc,Dc,Wu (W5 h (by decide)),ofL_app]
theorem aW{g:D->D->Option D}{fa fb:DSt->Out D}{δ:DSt}{x y z:D}(h1:fa δ=.ok x)(h2:fb δ=.ok y)(e:g x y=some z):o2 g fa fb δ=.ok z:=by
 unfold o2
 rw[h1,Out.aQ,h2,Out.aQ,e]
 rfl
theorem gU{g:D->Option D}{fa:DSt->Out D}{δ:DSt}{x z:D}(h1:fa δ=.ok x)(e:g x=some z):o1 g fa δ=.ok z:=by
 unfold o1
 rw[h1,Out.aQ,e]
 rfl
theorem fj{g:D->D->Option Bool}{fa fb:DSt->Out D}{δ:DSt}{x y:D}{z:Bool}(h1:fa δ=.ok x)(h2:fb δ=.ok y)(e:g x y=some z):o2b g fa fb δ=.ok z:=by
 unfold o2b
 rw[h1,Out.aQ,h2,Out.aQ,e]
 rfl
theorem xP{f:DSt->Out Bool}{δ:DSt}{b:Bool}(h:f δ=.ok b):bV f δ=.ok (.bl b):=by
 unfold bV
 rw[h]
 rfl
theorem km(d:D)(δ:DSt):kc d δ=.ok d:=rfl
theorem vK{fa fb:DSt->Out D}{δ:DSt}{a b:D}(h1:fa δ=.ok a)(h2:fb δ=.ok b):bL (aj fa (aj fb aD)) δ=.ok (.tup [a,b]):=by
 unfold bL
 rw[aG h1 (aG h2 rfl)]
 show (if 2<=sizeLine then Out.ok (D.tup [a,b]) else .stuck)=_
 rw[Wu s2]
theorem lst2{fa fb:DSt->Out D}{δ:DSt}{a b:D}(h1:fa δ=.ok a)(h2:fb δ=.ok b):fJ (aj fa (aj fb aD)) δ=.ok (.lst [a,b]):=by
 unfold fJ
 rw[aG h1 (aG h2 rfl)]
 show (if 2<=sizeLine then Out.ok (D.lst [a,b]) else .stuck)=_
 rw[Wu s2]
def gW(f:List (List Dr)):List D:=f.map λr=>D.lst (r.map Dr.d)
theorem put_ok{i:Nat}{fe fk:DSt->Out D}{δ δ':DSt}{ds:List D}{d:D}{k:Nat}(h1:fe δ=.ok d)(h2:δ[i]?=some (some (.ol ds)))(h3:fk δ=.ok (.int (k:Nat)))(hk:k<ds.length)(e:δ.set i (some (.ol (ds.set k d)))=δ'):sPut i fe fk δ=.ok (.nx δ'):=by
 unfold sPut
 rw[h1,Out.aQ,h2]
 simp only[h3,Out.aQ,yx hk]
 rw[e]
theorem nG{t:DSt->Out Bool}{A:DSt->Out Fl}{δ:DSt}{b:Bool}(h:t δ=.ok b):sIf t A iQ δ=if b=true then A δ else .ok (.nx δ):=by
 unfold sIf
 rw[h,Out.aQ]
 rfl
theorem iu{fa fb:DSt->Out D}{δ:DSt}{i j:Int}(h1:fa δ=.ok (.int i))(h2:fb δ=.ok (.int j)):o2 bZ fa fb δ=.ok (.int (i+j)):=aW h1 h2 rfl
theorem Gj{fa fb:DSt->Out D}{δ:DSt}{i j:Int}(h1:fa δ=.ok (.int i))(h2:fb δ=.ok (.int j)):o2 xn fa fb δ=.ok (.int (i - j)):=aW h1 h2 rfl
theorem mul_ok{fa fb:DSt->Out D}{δ:DSt}{i j:Int}(h1:fa δ=.ok (.int i))(h2:fb δ=.ok (.int j))(h:qi i j):o2 ul fa fb δ=.ok (.int (i*j)):=aW h1 h2 (pF h)
theorem gw{fa fb:DSt->Out D}{δ:DSt}{i j:Int}(h1:fa δ=.ok (.int i))(h2:fb δ=.ok (.int j))(h:0<j):o2 cX fa fb δ=.ok (.int (i % j)):=aW h1 h2 (lX h)
theorem rD{fa fb:DSt->Out D}{δ:DSt}{i j:Int}(h1:fa δ=.ok (.int i))(h2:fb δ=.ok (.int j))(h:CDiv i j):o2 eV fa fb δ=.ok (.int (i / j)):=aW h1 h2 (kh h)
theorem eq_ok{fa fb:DSt->Out D}{δ:DSt}{i j:Int}(h1:fa δ=.ok (.int i))(h2:fb δ=.ok (.int j)):o2b eqD fa fb δ=.ok (i==j):=fj h1 h2 (rF i j)
theorem Qe{fa fb:DSt->Out D}{δ:DSt}{i j:Int}(h1:fa δ=.ok (.int i))(h2:fb δ=.ok (.int j)):o2b ltD fa fb δ=.ok (decide (i<j)):=fj h1 h2 rfl
theorem ge_ok{fa fb:DSt->Out D}{δ:DSt}{i j:Int}(h1:fa δ=.ok (.int i))(h2:fb δ=.ok (.int j)):o2b geD fa fb δ=.ok (decide (i≥j)):=fj h1 h2 rfl
theorem gt_ok{fa fb:DSt->Out D}{δ:DSt}{i j:Int}(h1:fa δ=.ok (.int i))(h2:fb δ=.ok (.int j)):o2b gtD fa fb δ=.ok (decide (i>j)):=fj h1 h2 rfl
theorem int_ok{fa:DSt->Out Bool}{δ:DSt}{b:Bool}(h:fa δ=.ok b):o1 intD (bV fa) δ=.ok (.int (if b then 1 else 0)):=gU (xP h) (uQ b)
theorem ix_ok{fa fb:DSt->Out D}{δ:DSt}{ds:List D}{n:Nat}{d:D}(h1:fa δ=.ok (.lst ds))(h2:fb δ=.ok (.int (n:Nat)))(h:ds[n]?=some d):o2 ixD fa fb δ=.ok d:=aW h1 h2 (by rw[qw,g8 h])
theorem O9{α:Type}(g:α->D)(xs:List α)(a:Nat):cutL (xs.map g) none (some (a:Int))=(xs.take a).map g:=by
 unfold cutL
 rw[Wx,HT.UL,HT.QL,Nat.sub_zero,List.drop_zero,←List.map_take]
 congr 1
 rw[Nat.min_comm,←List.take_take,Y6 (by rw[List.length_take];omega)]
theorem O8{α:Type}(g:α->D)(xs:List α)(b:Nat):cutL (xs.map g) (some (b:Int)) none=(xs.drop b).map g:=by
 unfold cutL
 rw[Wx,HT.UL,HT.QL,←List.map_drop,←List.map_take]
 congr 1
 by_cases h:b<=xs.length
 .rw[Nat.min_eq_left h,Y6 (by rw[List.length_drop];omega)]
 .rw[Nat.min_eq_right (by omega),List.drop_of_length_le (Ww _),List.drop_of_length_le (by omega)]
  simp
theorem Kz{fa fb:DSt->Out D}{δ:DSt}{a b:List D}(h1:fa δ=.ok (.lst a))(h2:fb δ=.ok (.lst b))(h:a.length+b.length<=5000):o2 bZ fa fb δ=.ok (.lst (a++b)):=aW h1 h2 (by
 show (if _ then _ else _)=_
 rw[Wu (W5 h (by decide))])
theorem lst1{fa:DSt->Out D}{δ:DSt}{a:D}(h1:fa δ=.ok a):fJ (aj fa aD) δ=.ok (.lst [a]):=by
 unfold fJ
 rw[aG h1 rfl]
 rfl
theorem cd(x:Int){j:Int}(h:0<j)(h2:j<1073741824):CDiv x j:=⟨h,h2⟩
def hL(h:List Nat):List D:=h.map λi=>D.int (i:Nat)
theorem res_hL(μ:Mem)(n:Nat)(h:List Nat):(hL h).map (res μ n)=hL h:=by
 unfold hL
 rw[List.map_map]
 refine List.map_congr_left λi _=>?_
 cases n <;> rfl
theorem Dk{μ:Mem}{k n:Nat}{h:List Nat}(e:μ[k]?=some (.lst (hL h))):res μ (n+1) (.loc k)=.lst (hL h):=by
 have e':μ[1000+k - 1000]?=some (.lst (hL h)):=by rw[W7];exact e
 show res μ (n+1) (.cls (1000+k))=_
 simp only[res,e',res_hL]
 rw[Wu (by omega)]
theorem ix_hL{h:List Nat}{x:Nat}(hx:x<h.length):ixD (.lst (hL h)) (.int (x:Nat))=some (.int (PT.hd h x:Nat)):=by
 rw[qw]
 unfold hL
 refine g8 ?_
 rw[WL,Wo hx]
 show some (D.int (h[x]:Nat))=_
 unfold PT.hd
 rw[Wq,Wo hx]
 rfl
theorem hL_set(h:List Nat)(x v:Nat):(hL h).set x (.int (v:Nat))=hL (h.set x v):=by
 unfold hL
 rw[Y7]
theorem jq(h:List Nat):(hL h).length=h.length:=Wx _
theorem set_set{μ:Mem}{k:Nat}{a b:Cl}:(μ.set k a).set k b=μ.set k b:=List.set_set ..
theorem F_head{n k:Nat}{ps:List (Nat×Nat)}:∀(f:Nat){h:List Nat}{x:Nat}{μ:Mem}{loc:Nat},PT.UF n k ps h->x<n->(∃d:Nat->Nat,(∀x,x<n->PT.hd h x≠x->d (PT.hd h x)<d x)/\d x<f)->μ[loc]?=some (.lst (hL h)) ->
  whS iM gq f [some (.sh (.loc loc)),some (.sh (.int (x:Nat)))] μ=.ok (.nx [some (.sh (.loc loc)),some (.sh (.int ((PT.find f h x).2:Nat)))]) (μ.set loc (.lst (hL (PT.find f h x).1)))
 | 0,h,x,μ,loc,U,hx,⟨d,_,l⟩,e=>by omega
 | f+1,h,x,μ,loc,U,hx,⟨d,d1,l⟩,e=>by
  have lx:x<h.length:=by rw[U.len];exact hx
  have i1:=ix_hL lx
  have r:=Dk (n:=2) e
  have b1:=U.bd x hx
  have i2:=ix_hL (h:=h) (x:=PT.hd h x) (by rw[U.len];exact b1)
  have ll:loc<μ.length:=(Ws.mp e).1
  have ixn:ixN (hL h).length (x:Nat)=some x:=by rw[jq];exact yx lx
  have t:iM [some (.sh (.loc loc)),some (.sh (.int (x:Nat)))] μ=.ok (!((PT.hd h x:Int)==(x:Int))) μ:=by
   apply WS_eq
   unfold iM
   walk_at "vs-qw: r i1"
  have e':(μ.set loc (.lst (hL (h.set x (PT.hd h (PT.hd h x))))))[loc]?=some (.lst (hL (h.set x (PT.hd h (PT.hd h x))))):=Xb ll
  have r':=Dk (n:=2) e'
  have i3:=ix_hL (h:=h.set x (PT.hd h (PT.hd h x))) (x:=x) (by rw[Xc];exact lx)
  have st:WS (gq [some (.sh (.loc loc)),some (.sh (.int (x:Nat)))] μ) λfl ν=>fl=.nx [some (.sh (.loc loc)),some (.sh (.int (PT.hd (h.set x (PT.hd h (PT.hd h x))) x:Nat)))]/\ν=μ.set loc (.lst (hL (h.set x (PT.hd h (PT.hd h x))))):=by
   unfold gq
   walk_at "vs-qw: r i1 i2 e ixn hL_set r' i3"
   refine⟨rfl,x,x,rfl,ixn,?_⟩
   rw[r',i3]
   exact⟨rfl,rfl,rfl⟩
  obtain⟨fl,ν,es,rfl,rfl⟩:=zL st
  unfold whS PT.find
  rw[t]
  by_cases z:PT.hd h x=x
  .rw[Wu z]
   have zi:(!((PT.hd h x:Int)==(x:Int)))=false:=by rw[z];simp
   rw[zi]
   have es:μ.set loc (.lst (hL h))=μ:=YM λi=>by
    by_cases q:i=loc
    .subst q;rw[Xb ll,e]
    .rw[Xe (XH q)]
   show Res.ok (Fl.nx [some (.sh (.loc loc)),some (.sh (.int (x:Nat)))]) μ=_
   rw[es]
  .rw[WD z]
   have zi:(!((PT.hd h x:Int)==(x:Int)))=true:=by
    have:((PT.hd h x:Int)==(x:Int))=false:=by simp;omega
    rw[this];rfl
   rw[zi]
   obtain⟨U',_⟩:=U.halve hx z
   have dx:=d1 x hx z
   have lt:d (PT.hd h (PT.hd h x))<d x:=by
    by_cases y:PT.hd h (PT.hd h x)=PT.hd h x
    .rw[y];exact dx
    .exact YF (d1 _ b1 y) dx
   have eh:PT.hd (h.set x (PT.hd h (PT.hd h x))) x=PT.hd h (PT.hd h x):=by rw[PT.jL lx,Wu rfl]
   have ih:=F_head f (μ:=μ.set loc (.lst (hL (h.set x (PT.hd h (PT.hd h x)))))) (loc:=loc) (x:=PT.hd h (PT.hd h x)) U' (U.bd _ b1) ⟨d,λy hy=>by
    rw[PT.jL lx]
    split
    .rename_i q;subst q;exact λ_=>lt
    .exact d1 y hy,by omega⟩ e'
   show (gq [some (.sh (.loc loc)),some (.sh (.int (x:Nat)))] μ).bind _=_
   rw[es,eh]
   show whS iM gq f [some (.sh (.loc loc)),some (.sh (.int (PT.hd h (PT.hd h x):Nat)))] _=_
   rw[ih,set_set]
theorem Ik{n k:Nat}{ps:List (Nat×Nat)}{h:List Nat}{x:Nat}{μ:Mem}{loc:Nat}(U:PT.UF n k ps h)(hx:x<n)(hk:k<300)(e:μ[loc]?=some (.lst (hL h))):qj μ [.loc loc,.int (x:Nat)]=.ok (.int ((PT.find 300 h x).2:Nat)) (μ.set loc (.lst (hL (PT.find 300 h x).1))):=by
 obtain⟨d,d1,d2⟩:=U.dep
 have w:=F_head 300 U hx ⟨d,d1,Xa (d2 x) hk⟩ e
 unfold qj
 show ((yK false 2 vX μ [.loc loc,.int (x:Nat)])).bw=_
 unfold yK vX dm
 show (((whS iM gq 300 [some (.sh (.loc loc)),some (.sh (.int (x:Nat)))] μ).bind _).bind _).bw=_
 rw[w]
 rfl
theorem F_join{n k:Nat}{ps:List (Nat×Nat)}{h:List Nat}{x y:Nat}{μ:Mem}{loc:Nat}(U:PT.UF n k ps h)(hx:x<n)(hy:y<n)(hk:k<300)(e:μ[loc]?=some (.lst (hL h))):
  ∃(h':List Nat)(j:Bool),jZ μ [.loc loc,.int (x:Nat),.int (y:Nat)]=.ok (.bl j) (μ.set loc (.lst (hL h'))) /\
   (j=false->PT.UF n k ps h'/\PT.roots n h'=PT.roots n h/\∀S:Nat->Nat->Prop,Equivalence S->(∀x y,(x,y)∈ps->S x y)->S x y) /\
   (j=true->PT.UF n (k+1) (ps++[(x,y)]) h'/\PT.roots n h'+1=PT.roots n h):=by
 obtain⟨h1,a,h2,b,f1,f2,la,lb,l1,l2,c1,c2⟩:=U.join (f:=300) hx hy hk
 have ll:loc<μ.length:=(Ws.mp e).1
 have w1:=Ik U hx hk e
 rw[f1] at w1
 have U1:PT.UF n k ps h1:=by have:=(U.find (f:=300) hx hk).1;rw[f1] at this;exact this
 have e1:(μ.set loc (.lst (hL h1)))[loc]?=some (.lst (hL h1)):=Xb ll
 have w2:=Ik U1 hy hk e1
 rw[f2,set_set] at w2
 have e2:(μ.set loc (.lst (hL h2)))[loc]?=some (.lst (hL h2)):=Xb ll
 have ixn:ixN (hL h2).length (a:Nat)=some a:=by rw[jq,l2];exact yx la
 refine⟨h2.set a b,!((a:Int)==(b:Int)),?_,λz=>?_,λz=>?_⟩
 .apply WS_eq
  unfold jZ Ex
  walk_at "vs: w1 w2 e2"
  refine⟨a,a,rfl,ixn,?_⟩
  rw[hL_set,set_set]
 .refine c1 ?_
  simp at z
  omega
 .refine c2 ?_
  simp at z
  omega
def trF(k:Nat):List (Str×D):=[("pairs",.loc (k+2)),("places",.loc (k+3)),("steps",.loc (k+4))]
def m5(μ:Mem)(h:List Nat)(ps qs rs:List D):Mem:=μ++[.lst (hL h),.obj aO (trF μ.length),.lst ps,.lst qs,.lst rs]
section
variable{μ:Mem}{h:List Nat}{ps qs rs:List D}{p q r:D}
theorem m5_0:(m5 μ h ps qs rs)[μ.length]?=some (.lst (hL h)):=by unfold m5;have:=uG μ [.lst (hL h),.obj aO (trF μ.length),.lst ps,.lst qs,.lst rs] 0;simpa using this
theorem m5_1:(m5 μ h ps qs rs)[μ.length+1]?=some (.obj aO (trF μ.length)):=by unfold m5;rw[uG];rfl
theorem m5_2:(m5 μ h ps qs rs)[μ.length+2]?=some (.lst ps):=by unfold m5;rw[uG];rfl
theorem m5_3:(m5 μ h ps qs rs)[μ.length+3]?=some (.lst qs):=by unfold m5;rw[uG];rfl
theorem m5_4:(m5 μ h ps qs rs)[μ.length+4]?=some (.lst rs):=by unfold m5;rw[uG];rfl
theorem m5_s0{h':List Nat}:(m5 μ h ps qs rs).set μ.length (.lst (hL h'))=m5 μ h' ps qs rs:=by unfold m5;have:=tV μ [.lst (hL h),.obj aO (trF μ.length),.lst ps,.lst qs,.lst rs] 0 (.lst (hL h'));simpa using this
theorem m5_s2{l:List D}:(m5 μ h ps qs rs).set (μ.length+2) (.lst l)=m5 μ h l qs rs:=by unfold m5;rw[tV];rfl
theorem m5_s3{l:List D}:(m5 μ h ps qs rs).set (μ.length+3) (.lst l)=m5 μ h ps l rs:=by unfold m5;rw[tV];rfl
theorem m5_s4{l:List D}:(m5 μ h ps qs rs).set (μ.length+4) (.lst l)=m5 μ h ps qs l:=by unfold m5;rw[tV];rfl
theorem res1:res (m5 μ h ps qs rs) 1 (.loc (μ.length+1))=.obj aO (trF μ.length):=by
 have e:(m5 μ h ps qs rs)[1000+(μ.length+1) - 1000]?=some (.obj aO (trF μ.length)):=by rw[W7];exact m5_1
 show res (m5 μ h ps qs rs) 1 (.cls (1000+(μ.length+1)))=_
 simp only[res,e]
 rw[Wu (by omega)]
 rfl
theorem F_come(hp:ps.length<=900)(hq:qs.length<=900)(hr:rs.length<=900):lK (m5 μ h ps qs rs) [.loc (μ.length+1),p,q,r]=.ok .non (m5 μ h (ps++[p]) (qs++[q]) (rs++[r])):=by
 apply WS_eq
 unfold lK rP
 walk_at "vs: res1 trF mlD_l m5_2 m5_3 m5_4 m5_s2 m5_s3 m5_s4"
 exact⟨rfl,by omega,rfl,by omega,rfl,by omega⟩
theorem F_trail:bY (μ++[.lst (hL h),.obj aO []]) [.loc (μ.length+1),p]=.ok .non (m5 μ h [p] [.int 0] [.int 0]):=by
 apply WS_eq
 unfold bY jJ
 have n1:¬Str.ofString "pairs"=Str.ofString "places":=by decide +kernel
 have n2:¬Str.ofString "pairs"=Str.ofString "steps":=by decide +kernel
 have n3:¬Str.ofString "places"=Str.ofString "steps":=by decide +kernel
 walk_at "vs: moD_l uG tV putD"
 simp only[if_neg n1]
 refine⟨⟨by decide,by decide⟩,⟨by decide,by decide⟩,⟨by decide,by simp⟩,?_⟩
 unfold m5 trF
 simp only[putD,if_neg n2,if_neg n3]
end
theorem R4{f:Str}{cs:List Nat}{fo:DSt->Out D}{δ:DSt}{c:Nat}{fs:List (Str×D)}{d:D}(h:fo δ=.ok (.obj c fs))(hc:cs.contains c=true)(e:fs.lookup f=some d):gC f cs fo δ=.ok d:=by
 unfold gC
 rw[h]
 show (if cs.contains c=true then Out.opt (fs.lookup f) else .stuck)=_
 rw[Wu hc,e]
 rfl
structure Bk(pl st:List Nat)(ws:List (List Nat)):Prop where
 w0:ws[0]?=some []
 bk:∀k:Nat,0<k->k<ws.length->∃j s:Nat,pl[k]?=some j/\st[k]?=some s/\j<k/\ws[k]?=some (ws.getD j []++[s])
section
variable{P:List D}{pl st:List Nat}{ws:List (List Nat)}
def TO(P:List D)(pl st:List Nat):List (Str×D):=[("pairs",.lst P),("places",.lst (hL pl)),("steps",.lst (hL st))]
theorem QH(T:Bk pl st ws):∀(n k:Nat)(acc:List Nat),k<ws.length->k<n->acc.length+k<=900 ->
  whD jW gQ n [some (.sh (.obj aO (TO P pl st))),some (.sh (.int (k:Nat))),some (.ol (hL acc))]=.ok (.nx [some (.sh (.obj aO (TO P pl st))),some (.sh (.int 0)),some (.ol (hL (acc++(ws.getD k []).reverse)))])
 | 0,k,acc,_,h,_=>absurd h (Y9 _)
 | n+1,k,acc,hk,hn,ha=>by
  have tt:jW [some (.sh (.obj aO (TO P pl st))),some (.sh (.int (k:Nat))),some (.ol (hL acc))]=.ok (decide (((k:Nat):Int)>0)):=gt_ok rfl rfl
  unfold whD
  rw[tt]
  simp only[Out.aQ]
  by_cases z:k=0
  .subst z
   rw[Xk (by omega),WD Wv]
   have:ws.getD 0 []=[]:=by rw[Wq,T.w0];rfl
   rw[this]
   simp
  .rw[Ym (by omega),Wu rfl]
   obtain⟨j,s,e1,e2,e3,e4⟩:=T.bk k (by omega) hk
   have fs:gC "steps" [aO] (gv 0) [some (.sh (.obj aO (TO P pl st))),some (.sh (.int (k:Nat))),some (.ol (hL acc))]=.ok (.lst (hL st)):=R4 (c:=aO) (fs:=TO P pl st) rfl rfl (by simp[TO,List.lookup_cons,lZ])
   have s1:um 2 (o2 ixD (gC "steps" [aO] (gv 0)) (gv 1)) [some (.sh (.obj aO (TO P pl st))),some (.sh (.int (k:Nat))),some (.ol (hL acc))]=.ok (.nx [some (.sh (.obj aO (TO P pl st))),some (.sh (.int (k:Nat))),some (.ol (hL (acc++[s])))]) :=
    zO (ds:=hL acc) (d:=.int (s:Nat)) rfl (ix_ok fs rfl (by simp[hL,e2])) (by
     rw[show (hL acc).length=acc.length by simp[hL]]
     exact Xa (show acc.length<=900 by omega) (by decide)) (by simp[hL])
   have fp:gC "places" [aO] (gv 0) [some (.sh (.obj aO (TO P pl st))),some (.sh (.int (k:Nat))),some (.ol (hL (acc++[s])))]=.ok (.lst (hL pl)):=R4 (c:=aO) (fs:=TO P pl st) rfl rfl (by simp[TO,List.lookup_cons,lZ])
   have s2:bD 1 (o2 ixD (gC "places" [aO] (gv 0)) (gv 1)) [some (.sh (.obj aO (TO P pl st))),some (.sh (.int (k:Nat))),some (.ol (hL (acc++[s])))]=.ok (.nx [some (.sh (.obj aO (TO P pl st))),some (.sh (.int (j:Nat))),some (.ol (hL (acc++[s])))]):=bF (ix_ok fp rfl (by simp[hL,e1])) rfl
   have bd:gQ [some (.sh (.obj aO (TO P pl st))),some (.sh (.int (k:Nat))),some (.ol (hL acc))]=.ok (.nx [some (.sh (.obj aO (TO P pl st))),some (.sh (.int (j:Nat))),some (.ol (hL (acc++[s])))]):=by
    unfold gQ
    rw[aV s1,s2]
   rw[bd]
   simp only[Out.aQ]
   rw[QH T n j (acc++[s]) (by omega) (by omega) (by simp;omega)]
   have:ws.getD k []=ws.getD j []++[s]:=by rw[Wq (l:=ws) (i:=k),e4];rfl
   rw[this,List.reverse_append]
   simp
theorem Om(T:Bk pl st ws)(hm:ws.length<=299){k:Nat}(hk:k<ws.length){δ:DSt}{fo fa:DSt->Out D}(ho:fo δ=.ok (.obj aO (TO P pl st)))(ha:fa δ=.ok (.int (k:Nat))):oMFa "row" 2 tW fo (aj fa aD) δ=.ok (hL (ws.getD k [])):=by
 have key:ou [.obj aO (TO P pl st),.int (k:Nat)]=.ok (hL (ws.getD k [])):=by
  show ((oZ [some (.sh (.obj aO (TO P pl st))),some (.sh (.int (k:Nat))),none]).bind endF).bw=_
  unfold oZ
  have s1:gY 2 (uI aD) [some (.sh (.obj aO (TO P pl st))),some (.sh (.int (k:Nat))),none]=.ok (.nx [some (.sh (.obj aO (TO P pl st))),some (.sh (.int (k:Nat))),some (.ol (hL []))]):=rfl
  have s2:FZ (λ_=>300) jW gQ [some (.sh (.obj aO (TO P pl st))),some (.sh (.int (k:Nat))),some (.ol (hL []))]=_:=QH T 300 k [] hk (by omega) (by simp;omega)
  rw[aV s1,aV s2]
  have s3:sRev 2 [some (.sh (.obj aO (TO P pl st))),some (.sh (.int 0)),some (.ol (hL ([]++(ws.getD k []).reverse)))]=.ok (.nx [some (.sh (.obj aO (TO P pl st))),some (.sh (.int 0)),some (.ol (hL (ws.getD k [])))]):=by
   show Out.ok (Fl.nx [_,_,some (Sl.ol (hL ([]++(ws.getD k []).reverse)).reverse)])=_
   rw[Zt]
   unfold hL
   rw[←List.map_reverse,List.reverse_reverse]
  rw[aV s3]
  rfl
 unfold oMFa
 rw[ho]
 have nl:((TO P pl st).lookup ("row":Str)).isNone=true:=by simp[TO,List.lookup_cons,lZ]
 have tb:tW.lookup aO=some ou:=rfl
 simp only[Out.aQ,tb]
 rw[Wu nl,aG ha rfl]
 exact key
end
abbrev si(k:Nat):Option Sl:=some (.sh (.int (k:Nat)))
abbrev ss(d:D):Option Sl:=some (.sh d)
theorem my{A B:DSt->Mem->Res Fl}{δ δ':DSt}{μ μ':Mem}{r:Res Fl}(h:A δ μ=.ok (.nx δ') μ')(k:B δ' μ'=r):dm A B δ μ=r:=(cJ h).trans k
def wS:Dr->Nat
 | .must _=>0
 | .may _=>1
 | .shut=>2
 | .torn=>3
def wN:Nat->Str
 | 0=>"must"
 | 1=>"may"
 | 2=>"shut"
 | _=>"torn"
theorem ne_wN:∀i,i<4->∀j,j<4->neD (.str (wN i)) (.str (wN j))=some (decide (i≠j)):=by decide +kernel
theorem w_wN(x:Dr):x.w=wN (wS x):=by cases x <;> rfl
theorem wS_lt(x:Dr):wS x<4:=by cases x <;> simp[wS]
theorem ne_w(x y:Dr):neD (.str x.w) (.str y.w)=some (decide (wS x≠wS y)):=by rw[w_wN,w_wN];exact ne_wN _ (wS_lt x) _ (wS_lt y)
def nW(r s:List Dr):Option Nat:=(List.range r.length).find? λa=>decide (wS (r.getD a .shut)≠wS (s.getD a .shut))
def onD:Option Nat->D
 | some a=>.int (a:Nat)
 | none=>.non
theorem Pn{α:Type}(z:α)(f:α->D)(r:List α):oV 0 (r.map f)=(List.range r.length).map λa=>D.tup [.int (a:Nat),f (r.getD a z)]:=YM λi=>by
 rw[vV,WL,WL]
 by_cases h:i<r.length
 .rw[Wo h,Zi h,Nat.zero_add]
  simp[List.getD_eq_getElem?_getD,List.getElem?_eq_getElem h]
 .rw[Yr (by omega),Yr (by simp;omega)]
  rfl
theorem ix_ob{s:List Dr}{a:Nat}(h:a<s.length):ixD (.tup (s.map Dr.ob)) (.int (a:Nat))=some (s.getD a .shut).ob:=by
 rw[Jp]
 refine g8 ?_
 rw[WL,Wo h,Wq,Wo h]
 rfl
theorem Rr(r s:List Dr)(h:s.length=r.length):f9 [.tup (r.map Dr.ob),.tup (s.map Dr.ob)]=.ok (onD (nW r s)):=by
 apply W_eq
 unfold f9 mY
 (have zv0:=Pn Dr.shut;walk_at "vc: T7 to_t zv0")
 refine RL _ (λa=>decide (wS (r.getD a .shut)≠wS (s.getD a .shut))) (λδ=>∃a b,δ=[some (.sh (.tup (r.map Dr.ob))),some (.sh (.tup (s.map Dr.ob))),a,b]) (List.range r.length) ⟨_,_,rfl⟩ ?_ ?_
 .rintro a δ ha ⟨u,v,rfl⟩
  have ha:=W2.mp ha
  show W (jM [some (.sh (.tup (r.map Dr.ob))),some (.sh (.tup (s.map Dr.ob))),some (.sh (.int (a:Nat))),some (.sh (r.getD a .shut).ob)]) _
  have e:o2b neD (oM "word" 1 gD (gv 3) aD) (oM "word" 1 gD (o2 ixD (gvo 1) (gv 2)) aD) [some (.sh (.tup (r.map Dr.ob))),some (.sh (.tup (s.map Dr.ob))),some (.sh (.int (a:Nat))),some (.sh (r.getD a .shut).ob)]=.ok (decide (wS (r.getD a .shut)≠wS (s.getD a .shut))) :=
   fj (T4 _ _ _ rfl) (T4 _ _ _ (aW rfl rfl (ix_ob (by omega)))) (ne_w _ _)
  unfold jM
  rw[nG e]
  by_cases hp:decide (wS (r.getD a .shut)≠wS (s.getD a .shut))=true
  .rw[Wu hp]
   refine qZ (a:=.rt (.int (a:Nat))) rfl ?_
   rw[Wu hp]
   refine⟨_,rfl,λhf=>?_⟩
   show _=_
   unfold nW
   rw[hf]
   rfl
  .rw[WD hp]
   refine qZ rfl ?_
   rw[WD hp]
   exact⟨_,rfl,_,_,rfl⟩
 .rintro hn δ ⟨u,v,rfl⟩
  unfold nW
  rw[hn]
  rfl
theorem fst_some{r s:List Dr}{a:Nat}(h:nW r s=some a):a<r.length/\wS (r.getD a .shut)≠wS (s.getD a .shut):=by
 unfold nW at h
 exact⟨W2.mp (YK h),by simpa using List.find?_some h⟩
theorem fst_none{r s:List Dr}(h:nW r s=none){a:Nat}(ha:a<r.length):wS (r.getD a .shut)=wS (s.getD a .shut):=by
 unfold nW at h
 have:=Yj.mp h a (W2.mpr ha)
 simpa using this
def cl(rows:List (List Dr))(p a:Nat):Dr:=(rows.getD p []).getD a .shut
def wdR(rows:List (List Dr))(p a:Nat):Nat:=wS (cl rows p a)
def alR(w:Nat):Bool:=decide (w<2)
def toR(rows:List (List Dr))(p a:Nat):Nat:=(toN (cl rows p a)).getD 0
abbrev FR(acts:Nat)(rows:List (List Dr)):Nat->Nat->Nat->Prop:=PT.Far acts (wdR rows) alR (toR rows)
abbrev LE(acts:Nat)(rows:List (List Dr)):List Nat->Nat->Nat->Prop:=PT.Im acts (wdR rows) alR (toR rows)
abbrev PA'(acts:Nat)(rows:List (List Dr)):List Nat->Nat->Nat->Nat->Nat->Prop:=PT.Path acts (wdR rows) alR (toR rows)
theorem al_w(x:Dr):alw x=alR (wS x):=by cases x <;> rfl
theorem Bu{x:Dr}(h:alR (wS x)=true):x.to=.int ((toN x).getD 0:Nat):=by
 cases x <;> first | rfl | (exact absurd h (by decide))
section
variable{n acts:Nat}{t:Bool}{rows:List (List Dr)}{p q a:Nat}
theorem cH(R:Rows n acts t rows)(hp:p<n):(rows.getD p []).length=acts:=by
 have h1:p<rows.length:=by rw[R.n];exact hp
 rw[Wq,Wo h1]
 exact(R.row _ (Xy h1)).1
theorem cl_ok(R:Rows n acts t rows)(hp:p<n)(ha:a<acts):(cl rows p a).ok n t:=by
 have h1:p<rows.length:=by rw[R.n];exact hp
 have h2:=R.row _ (Xy h1)
 have h3:a<(rows[p]).length:=by rw[h2.1];exact ha
 unfold cl
 rw[Wq (l:=rows),Wo h1]
 show (List.getD rows[p] a .shut).ok n t
 rw[Wq,Wo h3]
 exact h2.2 _ (Xy h3)
theorem yR(R:Rows n acts t rows)(hp:p<n)(ha:a<acts)(hl:alR (wdR rows p a)=true):toR rows p a<n:=by
 have h:=cl_ok R hp ha
 unfold toR
 unfold wdR at hl
 cases e:cl rows p a with
 | must m=>rw[e] at h;exact h
 | may m=>rw[e] at h;exact h
 | shut=>rw[e] at hl;exact absurd hl (by decide)
 | torn=>rw[e] at hl;exact absurd hl (by decide)
theorem fst_same(R:Rows n acts t rows)(hp:p<n)(h:nW (rows.getD p []) (rows.getD q [])=none):PT.same acts (wdR rows) p q:=λa ha=>fst_none h (by rw[cH R hp];exact ha)
theorem fst_not(R:Rows n acts t rows)(hp:p<n)(h:nW (rows.getD p []) (rows.getD q [])=some a):¬PT.same acts (wdR rows) p q:=λs=>by
 obtain⟨h1,h2⟩:=fst_some h
 exact h2 (s a (by rw[cH R hp] at h1;exact h1))
end
structure Sx(n acts:Nat)(rows:List (List Dr))(x y:Nat)(ps:List (Nat×Nat))(ws:List (List Nat))(pl st h:List Nat)(at' act:Nat):Prop where
 T:PT.Tr acts (wdR rows) alR (toR rows) x y ps ws at' act
 U:∃k,k<=ps.length/\PT.UF n k ps h
 c:ps.length+PT.roots n h<=n+1
 b:Bk pl st ws
 l1:pl.length=ps.length
 l2:st.length=ps.length
 bd:∀p q,(p,q)∈ps->p<n/\q<n
section
variable{n acts:Nat}{rows:List (List Dr)}{x y:Nat}{ps:List (Nat×Nat)}{ws:List (List Nat)}{pl st h h':List Nat}{at' act p q:Nat}
theorem UF_more{k k':Nat}{ps':List (Nat×Nat)}(U:PT.UF n k ps h)(hk:k<=k')(hs:∀z∈ps,z∈ps'):PT.UF n k' ps' h:=by
 obtain⟨d,d1,d2⟩:=U.dep
 exact⟨U.len,U.bd,⟨d,d1,λx=>W5 (d2 x) hk⟩,λS E k=>U.inn S E λx y m=>k x y (hs _ m)⟩
theorem Sx.len(S:Sx n acts rows x y ps ws pl st h at' act):ps.length<=n+1:=by have:=S.c;omega
theorem Sx.start(hx:x<n)(hy:y<n){k:Nat}(hk:k<=1)(U:PT.UF n k [(x,y)] h)(c:PT.roots n h<=n):Sx n acts rows x y [(x,y)] [[]] [0] [0] h 0 0 where
 T:=PT.Tr.start
 U:=⟨k,hk,U⟩
 c:=by simp;omega
 b:=⟨rfl,λk h0 h1=>by simp at h1;omega⟩
 l1:=rfl
 l2:=rfl
 bd:=λp q m=>by simp at m;obtain⟨rfl,rfl⟩:=m;exact⟨hx,hy⟩
theorem Sx.skip(S:Sx n acts rows x y ps ws pl st h at' act){k:Nat}(hp:ps[at']?=some (p,q))(hk:k<=ps.length)(U':PT.UF n k ps h')(r:PT.roots n h'=PT.roots n h)
  (j:alR (wdR rows p act)=true->∀T:Nat->Nat->Prop,Equivalence T->(∀x y,(x,y)∈ps->T x y)->T (toR rows p act) (toR rows q act)):Sx n acts rows x y ps ws pl st h' at' (act+1) where
 T:=by
  have la:at'<ws.length:=by rw[S.T.len];exact(Ws.mp hp).1
  refine S.T.skip (Wo la) hp λhl T E k=>j hl T E λx y m=>?_
  obtain⟨i,hi,e⟩:=List.getElem_of_mem m
  exact k i x y (by rw[Wo hi,e])
 U:=⟨k,hk,U'⟩
 c:=by rw[r];exact S.c
 b:=S.b
 l1:=S.l1
 l2:=S.l2
 bd:=S.bd
theorem Sx.add(S:Sx n acts rows x y ps ws pl st h at' act){k:Nat}(hp:ps[at']?=some (p,q))(hs:PT.same acts (wdR rows) p q)(ha:act<acts)(hl:alR (wdR rows p act)=true)(h1:toR rows p act<n)(h2:toR rows q act<n)(hk:k<=ps.length)(U':PT.UF n (k+1) (ps++[(toR rows p act,toR rows q act)]) h')(r:PT.roots n h'+1=PT.roots n h):
  Sx n acts rows x y (ps++[(toR rows p act,toR rows q act)]) (ws++[ws.getD at' []++[act]]) (pl++[at']) (st++[act]) h' at' (act+1):=by
 have lp:at'<ps.length:=(Ws.mp hp).1
 have lw:=S.T.len
 have la:at'<ws.length:=by rw[lw];exact lp
 have hw:ws[at']?=some (ws.getD at' []):=by rw[Wq,Wo la];rfl
 have l1:=S.l1
 have l2:=S.l2
 refine⟨S.T.add hw hp hs ha hl,⟨k+1,by simp;omega,U'⟩,?_,⟨?_,?_⟩,by simp[l1],by simp[l2],?_⟩
 .have:=S.c
  simp
  omega
 .rw[Wz (by omega)]
  exact S.b.w0
 .intro i i0 il
  simp at il
  by_cases z:i<ws.length
  .obtain⟨j,s,e1,e2,e3,e4⟩:=S.b.bk i i0 z
   refine⟨j,s,?_,?_,e3,?_⟩
   .rw[Wz (by omega)];exact e1
   .rw[Wz (by omega)];exact e2
   .rw[Wz z,e4]
    congr 2
    rw[Wq,Wq,Wz (by omega)]
  .have z:i=ws.length:=by omega
   subst z
   refine⟨at',act,?_,?_,la,?_⟩
   .rw[W6 (by omega)];simp[l1,lw]
   .rw[W6 (by omega)];simp[l2,lw]
   .rw[W6 (Ww _)]
    have:(ws++[ws.getD at' []++[act]]).getD at' []=ws.getD at' []:=by rw[Wq,Wq,Wz la]
    rw[this]
    simp
 .intro p' q' m
  rcases W4.mp m with m | m
  .exact S.bd _ _ m
  .simp at m
   obtain⟨rfl,rfl⟩:=m
   exact⟨h1,h2⟩
theorem Sx.next(S:Sx n acts rows x y ps ws pl st h at' acts)(hp:ps[at']?=some (p,q))(hs:PT.same acts (wdR rows) p q):Sx n acts rows x y ps ws pl st h (at'+1) 0 :=
 ⟨S.T.next hp hs,S.U,S.c,S.b,S.l1,S.l2,S.bd⟩
end
abbrev oo(rows:List (List Dr))(p:Nat):Option Sl:=some (.sh (.tup ((rows.getD p []).map Dr.ob)))
def prD(ps:List (Nat×Nat)):List D:=ps.map λp=>D.tup [.int (p.1:Nat),.int (p.2:Nat)]
theorem prD_app(ps:List (Nat×Nat))(p q:Nat):prD (ps++[(p,q)])=prD ps++[.tup [.int (p:Nat),.int (q:Nat)]]:=by simp[prD]
theorem hL_app(l:List Nat)(p:Nat):hL (l++[p])=hL l++[.int (p:Nat)]:=by simp[hL]
theorem Dn{f:DSt->Mem->Res D}{δ:DSt}{μ μ':Mem}{d:D}{b:Bool}(h:f δ μ=.ok d μ')(e:truD d=some b):Cu f δ μ=.ok b μ':=by
 unfold Cu
 rw[h,Res.aQ,e]
 rfl
theorem andTS_f{f g:DSt->Mem->Res Bool}{δ:DSt}{μ μ':Mem}(h:f δ μ=.ok false μ'):Iu f g δ μ=.ok false μ':=by
 unfold Iu
 rw[h]
 rfl
theorem o2S_ok{g:D->D->Option D}{fa fb:DSt->Mem->Res D}{δ:DSt}{μ μ1 μ2:Mem}{x y z:D}(h1:fa δ μ=.ok x μ1)(h2:fb δ μ1=.ok y μ2)(e:g x y=some z):o2S g fa fb δ μ=.ok z μ2:=by
 unfold o2S
 rw[h1,Res.aQ,h2,Res.aQ,e]
 rfl
section
variable{μ:Mem}{h:List Nat}{ps:List (Nat×Nat)}{pl st:List Nat}{ns:List (List Nat)}{rows:List (List Dr)}{n c:Nat}{t:Bool}
theorem res_pr(μ:Mem)(n:Nat)(ps:List (Nat×Nat)):(prD ps).map (res μ (n+1))=prD ps:=by
 unfold prD
 rw[List.map_map]
 refine List.map_congr_left λi _=>?_
 cases n <;> rfl
theorem m5_len{a b c:List D}:(m5 μ h a b c).length=μ.length+5:=by unfold m5;simp
theorem res3:res (m5 μ h (prD ps) (hL pl) (hL st)) 3 (.loc (μ.length+1))=.obj aO (TO (prD ps) pl st):=by
 rw[res_obj m5_1]
 unfold trF TO
 simp only[List.map_cons,List.map_nil,MP m5_2,MP m5_3,MP m5_4,res_pr,res_hL]
def stP(c:Nat)(ns:List (List Nat))(rows:List (List Dr))(k x y at':Nat)(r:DSt):DSt:=(ss (plan c ns rows))::si x::si y::ss (.loc k)::ss (.loc (k+1))::si at'::r
theorem rsvP{x y at':Nat}(r:DSt):rsv (m5 μ h (prD ps) (hL pl) (hL st)) 3 (stP c ns rows μ.length x y at' r) =
  (ss (plan c ns rows))::si x::si y::ss (.lst (hL h))::ss (.obj aO (TO (prD ps) pl st))::si at'::rsv (m5 μ h (prD ps) (hL pl) (hL st)) 3 r:=by
 unfold stP
 simp only[rsv_c,rs1_s,Dj,res3]
 rw[Dk (n:=2) m5_0]
 rfl
theorem Ug{P:List D}{δ:DSt}{fo:DSt->Out D}(e:fo δ=.ok (.obj aO (TO P pl st))):gC "pairs" [aO] fo δ=.ok (.lst P):=R4 (c:=aO) (fs:=TO P pl st) e rfl (by simp[TO,List.lookup_cons,lZ])
theorem t_ok{x y at':Nat}(r:DSt):uX (stP c ns rows μ.length x y at' r) (m5 μ h (prD ps) (hL pl) (hL st))=.ok (decide ((at':Int)<(ps.length:Int))) (m5 μ h (prD ps) (hL pl) (hL st)):=by
 unfold uX
 refine Te ?_
 rw[rsvP]
 exact Qe rfl (gU (Ug rfl) (by rw[dO];simp[prD]))
theorem pr_ix{at' p q:Nat}(hp:ps[at']?=some (p,q)):ixD (.lst (prD ps)) (.int (at':Nat))=some (.tup [.int (p:Nat),.int (q:Nat)]):=by
 rw[qw]
 refine g8 ?_
 unfold prD
 rw[WL,hp]
 rfl
theorem row_ix(R:Rows n ns.length t rows){p:Nat}(hp:p<n):ixD (yJ rows) (.int (p:Nat))=some (.tup ((rows.getD p []).map Dr.ob)):=by
 have h1:p<rows.length:=by rw[R.n];exact hp
 unfold yJ
 rw[Jp]
 refine g8 ?_
 rw[WL,Wo h1,Wq,Wo h1]
 rfl
theorem M_many'(P:Pl c n t ns rows){δ:DSt}{fo:DSt->Out D}(h:fo δ=.ok (plan c ns rows)):oM "many" 1 qD fo aD δ=.ok (.int (n:Nat)):=by
 have hn:=P.R.n
 unfold plan yJ at h
 rcases P.c with rfl | rfl <;> walk_at "ev: h qD d7 fu lJ rK List.length_map hn"
theorem door_ok(P:Pl c n t ns rows){x y at' act p q:Nat}{ws:List (List Nat)}(S:Sx n ns.length rows x y ps ws pl st h at' act)(hp:ps[at']?=some (p,q))(hs:PT.same ns.length (wdR rows) p q)(ha:act<ns.length)(u w:Option Sl):
  ∃ps' ws' pl' st' h',(ps'[at']?=some (p,q)/\Sx n ns.length rows x y ps' ws' pl' st' h' at' (act+1))/\∃w',kE (stP c ns rows μ.length x y at' [oo rows p,oo rows q,u,si act,ss (cl rows p act).ob,w]) (m5 μ h (prD ps) (hL pl) (hL st)) =
   .ok (.nx (stP c ns rows μ.length x y at' [oo rows p,oo rows q,u,si act,ss (cl rows p act).ob,w'])) (m5 μ h' (prD ps') (hL pl') (hL st')):=by
 obtain⟨bp,bq⟩:=S.bd p q (XJ hp)
 have hi:=P.hi
 have lp:=S.len
 have l1:=S.l1
 have l2:=S.l2
 have lat:at'<ps.length:=(Ws.mp hp).1
 obtain⟨k,hk,U⟩:=S.U
 unfold kE
 rw[cJ (bz (bF (R5 (cl rows q act) _ _ (aW rfl rfl (ix_ob (by rw[cH P.R bq];exact ha)))) rfl))]
 have ta:tst (oM "allows" 1 iI (gv 10) aD) (stP c ns rows μ.length x y at' [oo rows p,oo rows q,u,si act,ss (cl rows p act).ob,ss (cl rows q act).to])=.ok (alw (cl rows p act)):=by
  unfold tst
  rw[Vb (cl rows p act) _ _ rfl]
  rfl
 by_cases hl:alR (wdR rows p act)=true
 .have hl2:alR (wdR rows q act)=true:=by rw[←hs act ha];exact hl
  have t1:=yR P.R bp ha hl
  have t2:=yR P.R bq ha hl2
  have e1:(cl rows p act).to=.int (toR rows p act:Nat):=Bu hl
  have e2:(cl rows q act).to=.int (toR rows q act:Nat):=Bu hl2
  have aw:alw (cl rows p act)=true:=by rw[al_w];exact hl
  obtain⟨h',j,ej,jf,jt⟩:=F_join (loc:=μ.length) U t1 t2 (by omega) (m5_0 (μ:=μ) (h:=h) (ps:=prD ps) (qs:=hL pl) (rs:=hL st))
  rw[m5_s0] at ej
  rw[aw] at ta
  have cj:Cu (gj 3 jZ (aH (fO (gv 3)) (aH (fO (gC "to" [eU,j8,d8,d9] (gv 10))) (aH (fO (gv 11)) dW)))) (stP c ns rows μ.length x y at' [oo rows p,oo rows q,u,si act,ss (cl rows p act).ob,ss (cl rows q act).to]) (m5 μ h (prD ps) (hL pl) (hL st))=.ok j (m5 μ h' (prD ps) (hL pl) (hL st)):=by
   exact Dn (mW (bf (bz rfl) (bf (bz ((R5 (cl rows p act) _ _ rfl).trans (by rw[e1]))) (bf (bz (show gv 11 _=.ok (.int (toR rows q act:Nat)) by rw[←e2];rfl)) rfl))) rfl ej) rfl
  have tt:Iu (fO (tst (oM "allows" 1 iI (gv 10) aD))) (Cu (gj 3 jZ (aH (fO (gv 3)) (aH (fO (gC "to" [eU,j8,d8,d9] (gv 10))) (aH (fO (gv 11)) dW))))) (stP c ns rows μ.length x y at' [oo rows p,oo rows q,u,si act,ss (cl rows p act).ob,ss (cl rows q act).to]) (m5 μ h (prD ps) (hL pl) (hL st))=.ok j (m5 μ h' (prD ps) (hL pl) (hL st)):=by
   unfold Iu
   rw[bz ta]
   exact cj
  cases j with
  | false =>
   obtain⟨U',r',jn⟩:=jf rfl
   refine⟨ps,ws,pl,st,h',⟨hp,S.skip hp hk U' r' λ_=>jn⟩,ss (cl rows q act).to,?_⟩
   exact wD tt
  | true =>
   obtain⟨U',r'⟩:=jt rfl
   refine⟨_,_,_,_,h',⟨by rw[Wz lat];exact hp,S.add hp hs ha hl t1 t2 hk U' r'⟩,ss (cl rows q act).to,?_⟩
   refine(PX tt).trans (Pu (d:=.non) (methS_ok (bz rfl) (VM m5_1) rfl ⟨by simp[trF,List.lookup_cons,lZ],by decide⟩ (bf (bz (vK ((R5 (cl rows p act) _ _ rfl).trans (by rw[e1])) (show gv 11 _=.ok (.int (toR rows q act:Nat)) by rw[←e2];rfl))) (bf (bz rfl) (bf (bz rfl) rfl))) rfl ?_))
   rw[prD_app,hL_app,hL_app]
   exact F_come (by simp[prD];omega) (by rw[jq];omega) (by rw[jq];omega)
 .have aw:alw (cl rows p act)=false:=by rw[al_w];exact XQ.mpr hl
  rw[aw] at ta
  refine⟨ps,ws,pl,st,h,⟨hp,S.skip hp hk U rfl λz=>absurd z hl⟩,ss (cl rows q act).to,?_⟩
  exact wD (andTS_f (bz ta))
theorem FN{n a:Nat}{done rest:List Nat}(h:List.range n=done++a::rest):a=done.length/\a<n:=by
 have h1:(List.range n)[done.length]?=some a:=by rw[h];simp
 have h2:=(Ws.mp h1).1
 rw[XM] at h2
 rw[Zi h2] at h1
 cases h1
 exact⟨rfl,h2⟩
theorem pair_ok(P:Pl c n t ns rows){x y at' p q:Nat}{ws:List (List Nat)}(S:Sx n ns.length rows x y ps ws pl st h at' 0)(hp:ps[at']?=some (p,q))(u v w a b d:Option Sl):
  (∃z,nW (rows.getD p []) (rows.getD q [])=some z/\pD (stP c ns rows μ.length x y at' [u,v,w,a,b,d]) (m5 μ h (prD ps) (hL pl) (hL st))=.ok (.rt (.tup [.loc (μ.length+5),.int (z:Nat)])) (m5 μ h (prD ps) (hL pl) (hL st)++[.lst (hL (ws.getD at' []))])) ∨
  (PT.same ns.length (wdR rows) p q/\∃ps' ws' pl' st' h' u' v' w' a' b' d',(at'<ps'.length/\Sx n ns.length rows x y ps' ws' pl' st' h' (at'+1) 0)/\pD (stP c ns rows μ.length x y at' [u,v,w,a,b,d]) (m5 μ h (prD ps) (hL pl) (hL st))=.ok (.nx (stP c ns rows μ.length x y (at'+1) [u',v',w',a',b',d'])) (m5 μ h' (prD ps') (hL pl') (hL st'))):=by
 obtain⟨bp,bq⟩:=S.bd p q (XJ hp)
 have hi:=P.hi
 have lp:=S.len
 have la:at'<ws.length:=by rw[S.T.len];exact(Ws.mp hp).1
 have r0:∀(k:Int)(z:Nat),ixD (.tup [.int (p:Nat),.int (q:Nat)]) (.int k)=some (.int (z:Nat))->∀r:DSt,rdS 3 (o2 ixD (o2 ixD (gC "pairs" [aO] (gv 4)) (gv 5)) (kc (.int k))) (stP c ns rows μ.length x y at' r) (m5 μ h (prD ps) (hL pl) (hL st))=.ok (.int (z:Nat)) (m5 μ h (prD ps) (hL pl) (hL st)):=λk z e r=>by
  refine MN ?_ rfl
  rw[rsvP]
  exact aW (aW (Ug rfl) rfl (pr_ix hp)) rfl e
 unfold pD
 rw[cJ (v7 (δ':=stP c ns rows μ.length x y at' [oo rows p,v,w,a,b,d]) (o2S_ok (bz (Jj P rfl)) (r0 0 p rfl _) (row_ix P.R bp)) rfl)]
 rw[cJ (v7 (δ':=stP c ns rows μ.length x y at' [oo rows p,oo rows q,w,a,b,d]) (o2S_ok (bz (Jj P rfl)) (r0 1 q rfl _) (row_ix P.R bq)) rfl)]
 have s3:bD 8 (oF 2 f9 (aj (gv 6) (aj (gv 7) aD))) (stP c ns rows μ.length x y at' [oo rows p,oo rows q,w,a,b,d])=.ok (.nx (stP c ns rows μ.length x y at' [oo rows p,oo rows q,ss (onD (nW (rows.getD p []) (rows.getD q []))),a,b,d])):=bF (gB (aG rfl (aG rfl rfl)) rfl (Rr _ _ (by rw[cH P.R bp,cH P.R bq]))) rfl
 rw[cJ (bz s3)]
 cases hf:nW (rows.getD p []) (rows.getD q []) with
 | some z =>
  refine .inl ⟨z,rfl,?_⟩
  have r1:=rdC_ok (n:=3) (f:=oMFa "row" 2 tW (gv 4) (aj (gv 5) aD)) (δ:=stP c ns rows μ.length x y at' [oo rows p,oo rows q,ss (onD (some z)),a,b,d]) (μ:=m5 μ h (prD ps) (hL pl) (hL st)) (ds:=hL (ws.getD at' [])) (by
   rw[rsvP]
   exact Om S.b (by rw[S.T.len];omega) la rfl rfl) (PN _)
  rw[m5_len] at r1
  exact UV ((PX (bz rfl)).trans (MT (tupS_ok (bf r1 (bf (bz rfl) rfl)) (by simp))))
 | none =>
  have hs:=fst_same P.R bp hf
  refine .inr ⟨hs,?_⟩
  have n1:ifS (fO (o2b kI (gb 8) (kc .non))) (retS (tupS (aH (rdC 3 (oMFa "row" 2 tW (gv 4) (aj (gv 5) aD))) (aH (fO (gv 8)) dW)))) wY (stP c ns rows μ.length x y at' [oo rows p,oo rows q,ss (onD none),a,b,d]) (m5 μ h (prD ps) (hL pl) (hL st))=.ok (.nx (stP c ns rows μ.length x y at' [oo rows p,oo rows q,ss (onD none),a,b,d])) (m5 μ h (prD ps) (hL pl) (hL st)):=wD (bz rfl)
  rw[cJ n1]
  have lp:WS (yL (fO (Je (gv 6))) (gT 2 (cD (gN 9) (cD (gN 10) lG))) kE (stP c ns rows μ.length x y at' [oo rows p,oo rows q,ss (onD none),a,b,d]) (m5 μ h (prD ps) (hL pl) (hL st)))
    λfl μ'=>∃ps' ws' pl' st' h' a' b' d',(ps'[at']?=some (p,q)/\Sx n ns.length rows x y ps' ws' pl' st' h' at' ns.length)/\fl=.nx (stP c ns rows μ.length x y at' [oo rows p,oo rows q,ss (onD none),a',b',d'])/\μ'=m5 μ h' (prD ps') (hL pl') (hL st'):=by
   rw[RK,WS_fO,T7]
   refine qZ (a:=.tup ((rows.getD p []).map Dr.ob)) rfl ?_
   rw[to_t,RM,Pn Dr.shut,cH P.R bp]
   refine T5 (γ:=Nat) _ (λdone δ μ'=>∃ps' ws' pl' st' h' a' b' d',(ps'[at']?=some (p,q)/\Sx n ns.length rows x y ps' ws' pl' st' h' at' done.length)/\δ=stP c ns rows μ.length x y at' [oo rows p,oo rows q,ss (onD none),a',b',d']/\μ'=m5 μ h' (prD ps') (hL pl') (hL st')) (List.range ns.length) ⟨ps,ws,pl,st,h,a,b,d,⟨hp,S⟩,rfl,rfl⟩ ?_ ?_
   .rintro z done rest δ μ' hz ⟨ps',ws',pl',st',h',a',b',d',⟨hp',S'⟩,rfl,rfl⟩
    obtain⟨rfl,lz⟩:=FN hz
    obtain⟨ps2,ws2,pl2,st2,h2,⟨hp2,S2⟩,w2,e⟩:=door_ok (μ:=μ) P S' hp' hs lz (ss (onD none)) d'
    show WS (kE (stP c ns rows μ.length x y at' [oo rows p,oo rows q,ss (onD none),si (done.length),ss (cl rows p done.length).ob,d']) _) _
    rw[e]
    exact⟨ps2,ws2,pl2,st2,h2,_,_,_,⟨hp2,by rw[W0];exact S2⟩,rfl,rfl⟩
   .rintro δ μ' ⟨ps',ws',pl',st',h',a',b',d',⟨hp',S'⟩,rfl,rfl⟩
    rw[XM] at S'
    exact⟨ps',ws',pl',st',h',a',b',d',⟨hp',S'⟩,rfl,rfl⟩
  obtain⟨fl,μ',el,ps',ws',pl',st',h',a',b',d',⟨hp',S'⟩,rfl,rfl⟩:=zL lp
  rw[cJ el]
  refine⟨ps',ws',pl',st',h',oo rows p,oo rows q,ss (onD none),a',b',d',⟨(Ws.mp hp').1,S'.next hp' hs⟩,?_⟩
  exact bz rfl
theorem bk_short{ws:List (List Nat)}(T:Bk pl st ws):∀k,k<ws.length->(ws.getD k []).length<=k:=λk=>by
 induction k using Nat.strongRecOn with
 | _ k ih =>
  intro hk
  by_cases z:k=0
  .subst z
   rw[Wq,T.w0]
   exact Ww _
  .obtain⟨j,s,_,_,e3,e4⟩:=T.bk k (by omega) hk
   have:=ih j e3 (by omega)
   rw[Wq,e4]
   show (ws.getD j []++[s]).length<=k
   rw[W0,Xz]
   omega
def Told(rows:List (List Dr))(acts x y:Nat)(μ:Mem)(d:D)(μ':Mem):Prop:=(∃ν,μ'=μ++ν) /\
 ((d=.non/\∀w,¬PT.Sep acts (wdR rows) alR (toR rows) w x y) ∨
  ∃w z p q k,d=.tup [.loc k,.int (z:Nat)]/\μ.length<=k/\μ'[k]?=some (.lst (hL w))/\w.length<=61/\LE acts rows w x y/\PA' acts rows w x y p q/\nW (rows.getD p []) (rows.getD q [])=some z)
theorem xF(P:Pl c n t ns rows){x y:Nat}(hx:x<n)(hy:y<n):∃d μ',iJ μ [plan c ns rows,.int (x:Nat),.int (y:Nat)]=.ok d μ'/\Told rows ns.length x y μ d μ':=by
 have hi:=P.hi
 have hn:n<=sizeLine:=W5 hi (by decide)
 refine zL ?_
 unfold iJ
 rw[T6,WS_run]
 show WS (vY (ss (plan c ns rows)::si x::si y::[none,none,none,none,none,none,none,none,none]) μ) _
 unfold vY
 have s1:tU 3 (rdC 0 (lrO (oM "many" 1 qD (gv 0) aD))) (ss (plan c ns rows)::si x::si y::[none,none,none,none,none,none,none,none,none]) μ=.ok (.nx (ss (plan c ns rows)::si x::si y::[ss (.loc μ.length),none,none,none,none,none,none,none,none])) (μ++[.lst (hL (List.range n))]):=by
  refine v7 (rdC_ok (ds:=hL (List.range n)) ?_ (PN _)) rfl
  apply W_eq
  rw[W_lr]
  refine qZ (M_many' P rfl) ?_
  rw[lr_n (by omega)]
  rfl
 rw[cJ s1]
 obtain⟨U0,r0⟩:=PT.UF.start n
 have e0:(μ++[Cl.lst (hL (List.range n))])[μ.length]?=some (.lst (hL (List.range n))):=by rw[Ks];rfl
 obtain⟨h',j,ej,jf,jt⟩:=F_join U0 hx hy (by omega) e0
 have em:(μ++[Cl.lst (hL (List.range n))]).set μ.length (.lst (hL h'))=μ++[.lst (hL h')]:=by rw[Q3];rfl
 rw[em] at ej
 have S0:Sx n ns.length rows x y [(x,y)] [[]] [0] [0] h' 0 0:=by
  cases j with
  | false =>
   obtain⟨U',r',_⟩:=jf rfl
   exact Sx.start hx hy (Xq _) (UF_more U' (Ww _) (by simp)) (by omega)
  | true =>
   obtain⟨U',r'⟩:=jt rfl
   exact Sx.start hx hy (Ww _) U' (by omega)
 have s2:Jg (gj 3 jZ (aH (fO (gv 3)) (aH (fO (gv 1)) (aH (fO (gv 2)) dW)))) (ss (plan c ns rows)::si x::si y::[ss (.loc μ.length),none,none,none,none,none,none,none,none]) (μ++[.lst (hL (List.range n))])=.ok (.nx (ss (plan c ns rows)::si x::si y::[ss (.loc μ.length),none,none,none,none,none,none,none,none])) (μ++[.lst (hL h')]) :=
  Pu (mW (bf (bz rfl) (bf (bz rfl) (bf (bz rfl) rfl))) rfl ej)
 rw[cJ s2]
 have ml:(μ++[Cl.lst (hL h')]).length=μ.length+1:=by simp
 have s3:tU 4 (Jv aO 2 bY (aH (fO (bL (aj (gv 1) (aj (gv 2) aD)))) dW)) (ss (plan c ns rows)::si x::si y::[ss (.loc μ.length),none,none,none,none,none,none,none,none]) (μ++[.lst (hL h')])=.ok (.nx (ss (plan c ns rows)::si x::si y::[ss (.loc μ.length),ss (.loc (μ.length+1)),none,none,none,none,none,none,none])) (m5 μ h' (prD [(x,y)]) (hL [0]) (hL [0])):=by
  have mk:=makeS_ok (c:=aO) (n:=2) (F:=bY) (fr:=aH (fO (bL (aj (gv 1) (aj (gv 2) aD)))) dW) (δ:=(ss (plan c ns rows))::si x::si y::[ss (.loc μ.length),none,none,none,none,none,none,none,none]) (μ:=μ++[.lst (hL h')]) (μ':=μ++[.lst (hL h')]) (μ'':=m5 μ h' (prD [(x,y)]) (hL [0]) (hL [0])) (ds:=[.tup [.int (x:Nat),.int (y:Nat)]]) (bf (bz (vK rfl rfl)) rfl) rfl (by
   rw[ml,Xu]
   exact F_trail)
  rw[ml] at mk
  exact v7 mk rfl
 rw[cJ s3]
 have s4:fO (bD 5 (kc (.int 0))) (ss (plan c ns rows)::si x::si y::[ss (.loc μ.length),ss (.loc (μ.length+1)),none,none,none,none,none,none,none]) (m5 μ h' (prD [(x,y)]) (hL [0]) (hL [0]))=.ok (.nx (stP c ns rows μ.length x y 0 [none,none,none,none,none,none])) (m5 μ h' (prD [(x,y)]) (hL [0]) (hL [0])):=rfl
 rw[cJ s4,WS_seq]
 refine WS_wh (λm δ μ'=>∃ps ws pl st h at' u v w a b d,Sx n ns.length rows x y ps ws pl st h at' 0/\at'<=ps.length/\m+at'=n+2/\δ=stP c ns rows μ.length x y at' [u,v,w,a,b,d]/\μ'=m5 μ h (prD ps) (hL pl) (hL st)) ?_ (n+2) 300 _ _ ⟨_,_,_,_,_,0,_,_,_,_,_,_,S0,Xq _,rfl,rfl,rfl⟩ (by omega)
 rintro m δ μ' ⟨ps,ws,pl,st,h,at',u,v,w,a,b,d,S,la,hm,rfl,rfl⟩
 rw[t_ok]
 show if _ then _ else _
 have ln:=S.len
 by_cases z:at'<ps.length
 .rw[Wu (by simp;omega)]
  have hp:=Wo z
  generalize ps[at']=pq at hp
  obtain⟨p,q⟩:=pq
  rcases pair_ok (μ:=μ) P S hp u v w a b d with⟨k,hf,e⟩| ⟨hs,ps',ws',pl',st',h',u',v',w',a',b',d',⟨l',S'⟩,e⟩
  .rw[e]
   have lw:at'<ws.length:=by rw[S.T.len];exact z
   have hw:ws[at']?=some (ws.getD at' []):=by rw[Wq,Wo lw];rfl
   obtain⟨bp,bq⟩:=S.bd p q (XJ hp)
   refine⟨⟨_,by unfold m5;rw[Xu]⟩,.inr ⟨ws.getD at' [],k,p,q,μ.length+5,rfl,by omega,?_,?_,S.T.found hp hw (fst_not P.R bp hf),S.T.path at' _ p q hw hp,hf⟩⟩
   .rw[←m5_len (μ:=μ) (h:=h) (a:=prD ps) (b:=hL pl) (c:=hL st),Ks]
    rfl
   .have:=bk_short S.b at' lw
    omega
  .rw[e]
   exact⟨n+1 - at',by omega,ps',ws',pl',st',h',at'+1,u',v',w',a',b',d',S',by omega,by omega,rfl,rfl⟩
 .rw[WD (by simp;omega)]
  refine⟨⟨_,rfl⟩,.inl ⟨rfl,λw'=>S.T.none (by omega) w'⟩⟩
end
theorem toPyL_w:∀r:List Dr,toPyL (r.map λx=>D.str x.w)=some (r.map λx=>PyData.str x.w)
 | []=>rfl
 | x::r=>by rw[WN,WN];simp[toPyL,toPy,toPyL_w r]
theorem w_inj(x y:Dr):(x.w==y.w)=decide (wS x=wS y):=by
 have h:=ne_w x y
 unfold neD at h
 have hx:PyData.strOk x.w=true:=by cases x <;> simp[Dr.w,Dd,Mt,De,Dg]
 have hy:PyData.strOk y.w=true:=by cases y <;> simp[Dr.w,Dd,Mt,De,Dg]
 rw[eqD_ss hx hy] at h
 have h:(!(x.w==y.w))=decide (wS x≠wS y):=by simpa using h
 cases e:(x.w==y.w) <;> rw[e] at h <;> simp at h <;> simp[h]
theorem eqv_w:∀r s:List Dr,PyData.eqvAll (r.map λx=>PyData.str x.w) (s.map λx=>PyData.str x.w)=decide (r.map wS=s.map wS)
 | [],[]=>by simp[PyData.eqvAll]
 | [],_::_=>by simp[PyData.eqvAll]
 | _::_,[]=>by simp[PyData.eqvAll]
 | x::r,y::s=>by
  simp only[List.map_cons,PyData.eqvAll,PyData.eqv,eqv_w r s,w_inj,List.cons.injEq]
  by_cases h1:wS x=wS y <;> by_cases h2:r.map wS=s.map wS <;> simp[h1,h2]
theorem lay_ws(r:List Dr):eZ 50 (.lst (r.map λx=>D.str x.w))=true:=by
 show pC 49 _=true
 exact v4 49 _ _ λx _=>by cases x <;> simp[eZ,Dr.w,Dd,Mt,De,Dg]
theorem ne_ws(r s:List Dr):neD (.lst (r.map λx=>D.str x.w)) (.lst (s.map λx=>D.str x.w))=some (decide (r.map wS≠s.map wS)):=by
 rw[Lx (lay_ws r) (lay_ws s)]
 unfold eqB
 simp only[toPy,toPyL_w,Option.map_some,Option.bind_some,PyData.eqv,eqv_w]
 by_cases h:r.map wS=s.map wS <;> simp[h]
section
variable{n acts:Nat}{t:Bool}{rows:List (List Dr)}{p q a:Nat}
theorem QQ(R:Rows n acts t rows)(hp:p<n)(hq:q<n):(rows.getD p []).map wS=(rows.getD q []).map wS↔PT.same acts (wdR rows) p q:=by
 have lp:=cH R hp
 have lq:=cH R hq
 constructor
 .intro h a ha
  have:=Xd (λl:List Nat=>l[a]?) h
  simp only[List.getElem?_map] at this
  rw[Wo (by omega),Wo (by omega)] at this
  unfold wdR cl
  rw[Wq (l:=rows.getD p []),Wq (l:=rows.getD q []),Wo (by omega),Wo (by omega)]
  simpa using this
 .intro h
  refine YM λa=>?_
  simp only[List.getElem?_map]
  by_cases ha:a<acts
  .have:=h a ha
   unfold wdR cl at this
   rw[Wq (l:=rows.getD p []),Wq (l:=rows.getD q []),Wo (by omega),Wo (by omega)] at this
   rw[Wo (by omega),Wo (by omega)]
   simpa using this
  .rw[Yr (by omega),Yr (by omega)]
end
def fk(l:List (Nat×Nat×Nat)):List (List Key×D):=l.map λz=>([.inl (z.1:Int),.inl (z.2.1:Int)],.int (z.2.2:Nat))
def FOk(n:Nat)(l:List (Nat×Nat×Nat)):Prop:=(l.map λz=>z.1*n+z.2.1).Nodup/\∀z∈l,z.1<n/\z.2.1<n
theorem key_eq{p q p' q':Nat}:(([.inl (p:Int),.inl (q:Int)]:List Key)=[.inl (p':Int),.inl (q':Int)])↔p=p'/\q=q':=by
 simp
 omega
theorem Lb:∀(l:List (Nat×Nat×Nat))(p q:Nat),uP (fk l) [.inl (p:Int),.inl (q:Int)]=(l.find? λz=>decide (z.1=p/\z.2.1=q)).map λz=>.int (z.2.2:Nat)
 | [],p,q=>rfl
 | z::l,p,q=>by
  have ih:=Lb l p q
  unfold uP fk at ih ⊢
  rw[WN,Zu,Zu]
  have e:decide (([.inl (z.1:Int),.inl (z.2.1:Int)]:List Key)=[.inl (p:Int),.inl (q:Int)])=decide (z.1=p/\z.2.1=q):=by rw[decide_eq_decide];exact key_eq
  rw[e]
  by_cases h:z.1=p/\z.2.1=q
  .rw[Ym h];rfl
  .rw[Xk h];exact ih
theorem R8:∀(l:List (Nat×Nat×Nat))(p q:Nat),yu (fk l) [.inl (p:Int),.inl (q:Int)]=l.any λz=>decide (z.1=p/\z.2.1=q)
 | [],p,q=>rfl
 | z::l,p,q=>by
  have ih:=R8 l p q
  unfold yu fk at ih ⊢
  rw[WN,XS,XS,ih]
  have e:decide (([.inl (z.1:Int),.inl (z.2.1:Int)]:List Key)=[.inl (p:Int),.inl (q:Int)])=decide (z.1=p/\z.2.1=q):=by rw[decide_eq_decide];exact key_eq
  rw[e]
section
variable{n p q s:Nat}{l:List (Nat×Nat×Nat)}
theorem has_of(h:(p,q,s)∈l):yu (fk l) [.inl (p:Int),.inl (q:Int)]=true:=by
 rw[R8,Yv]
 exact⟨_,h,by simp⟩
theorem Lg(h:∀s,(p,q,s)∉l):yu (fk l) [.inl (p:Int),.inl (q:Int)]=false:=by
 rw[R8]
 refine XQ.mpr λk=>?_
 obtain⟨z,hz,e⟩:=Yv.mp k
 have e:=WT e
 exact h z.2.2 (by rw[←e.1,←e.2];exact hz)
theorem get_not(h:∀s,(p,q,s)∉l):uP (fk l) [.inl (p:Int),.inl (q:Int)]=none:=by
 rw[Lb]
 have:(l.find? λz=>decide (z.1=p/\z.2.1=q))=none:=Yj.mpr λz hz k=>by
  have e:=WT k
  exact h z.2.2 (by rw[←e.1,←e.2];exact hz)
 rw[this]
 rfl
theorem get_of(u:∀s',(p,q,s')∈l->s'=s)(h:(p,q,s)∈l):uP (fk l) [.inl (p:Int),.inl (q:Int)]=some (.int (s:Nat)):=by
 rw[Lb]
 cases e:(l.find? λz=>decide (z.1=p/\z.2.1=q)) with
 | none=>exact absurd (Yj.mp e _ h) (by simp)
 | some z =>
  have k:=List.find?_some e
  have k:=WT k
  have m:=YK e
  rw[show z=(p,q,z.2.2) by rw[←k.1,←k.2]] at m
  rw[Option.map_some,u _ m]
theorem put_fk(h:∀s,(p,q,s)∉l):Jz (fk l) [.inl (p:Int),.inl (q:Int)] (.int (s:Nat))=fk (l++[(p,q,s)]):=by
 have k:=Lg h
 unfold yu at k
 unfold Jz
 rw[k,WD Wv]
 unfold fk
 rw[X6]
 rfl
theorem FOk.add(F:FOk n l)(hp:p<n)(hq:q<n)(h:∀s,(p,q,s)∉l):FOk n (l++[(p,q,s)]):=by
 refine⟨?_,λz hz=>?_⟩
 .rw[X6,List.nodup_append]
  refine⟨F.1,by simp,λa ha b hb e=>?_⟩
  subst e
  obtain⟨z,hz,rfl⟩:=Yd.mp ha
  have hb:z.1*n+z.2.1=p*n+q:=by simpa using hb
  have b2:=(F.2 z hz).2
  have h1:z.1=p:=by
   have a1:(z.1*n+z.2.1) / n=z.1:=by rw[Nat.mul_comm,Nat.mul_add_div (by omega),Nat.div_eq_of_lt b2,Nat.add_zero]
   have a2:(p*n+q) / n=p:=by rw[Nat.mul_comm,Nat.mul_add_div (by omega),Nat.div_eq_of_lt hq,Nat.add_zero]
   rw[←a1,hb,a2]
  have h2:z.2.1=q:=by rw[h1] at hb;omega
  exact h z.2.2 (by rw[←h1,←h2];exact hz)
 .rcases W4.mp hz with hz | hz
  .exact F.2 z hz
  .simp at hz;subst hz;exact⟨hp,hq⟩
theorem Jw:∀(many:Nat)(o:List Nat),o.Nodup->(∀x∈o,x<many)->o.length<=many
 | 0,o,_,h=>by
  cases o with
  | nil=>exact Ww _
  | cons x o=>exact absurd (h x WY) (Y9 _)
 | m+1,o,nd,h=>by
  have e:=Jw m (o.erase m) (nd.erase m) λx hx=>by
   have:=(nd.mem_erase_iff).mp hx
   have:=h x this.2
   omega
  have:=List.length_erase (a:=m) (l:=o)
  split at this <;> omega
theorem FOk.len(F:FOk n l):l.length<=n*n:=by
 have:=Jw (n*n) _ F.1 λx hx=>by
  obtain⟨z,hz,rfl⟩:=Yd.mp hx
  obtain⟨h1,h2⟩:=F.2 z hz
  calc z.1*n+z.2.1<z.1*n+n:=by omega
   _=(z.1+1)*n:=by rw[Nat.succ_mul]
   _<=n*n:=Nat.mul_le_mul_right _ h1
 simpa using this
theorem K9:(fk l).length=l.length:=by simp[fk]
end
theorem zip_rng{α:Type}(z:α)(f:α->D)(r s:List α)(h:s.length=r.length):vN (r.map f) (s.map f)=(List.range r.length).map λa=>D.tup [f (r.getD a z),f (s.getD a z)]:=by
 induction r generalizing s with
 | nil=>cases s with
  | nil=>rfl
  | cons _ _=>simp at h
 | cons x r ih=>cases s with
  | nil=>simp at h
  | cons y s =>
   rw[WN,WN]
   unfold vN
   rw[ih s (by simpa using h),WP,List.range_succ_eq_map,WN,List.map_map]
   rfl
def ldB(l:List (Nat×Nat×Nat))(t x y:Nat):Bool:=((l.find? λz=>decide (z.1=x/\z.2.1=y)).map λz=>decide (z.2.2<t)).getD false
theorem ld_iff{l:List (Nat×Nat×Nat)}{t x y:Nat}(u:∀s s',(x,y,s)∈l->(x,y,s')∈l->s=s'):ldB l t x y=true↔∃s,s<t/\(x,y,s)∈l:=by
 unfold ldB
 cases e:(l.find? λz=>decide (z.1=x/\z.2.1=y)) with
 | none =>
  simp only[Option.map_none,Option.getD_none]
  refine⟨λh=>absurd h Wv,λ⟨s,_,m⟩=>?_⟩
  exact absurd (Yj.mp e _ m) (by simp)
 | some z =>
  have k:=List.find?_some e
  have k:=WT k
  have m:=YK e
  rw[show z=(x,y,z.2.2) by rw[←k.1,←k.2]] at m
  simp only[Option.map_some,Option.getD_some,decide_eq_true_eq]
  exact⟨λh=>⟨_,h,m⟩,λ⟨s,h,m'⟩=>by rw[u _ _ m m'];exact h⟩
theorem Gx{i:Nat}{f f':DSt->Out D}{δ:DSt}{kvs:List (List Key×D)}{d x:D}{key:List Key}(h1:dtOf i δ=some kvs)(h2:f δ=.ok d)(h3:f' δ=.ok x)(h4:Ca d=some key):wI i f f' δ=.ok ((uP kvs key).getD x):=by
 unfold wI
 rw[h1]
 simp only[h2,h3,h4,Out.aQ]
theorem andT_t{f g:DSt->Out Bool}{δ:DSt}(h:f δ=.ok true):Dy f g δ=g δ:=by
 unfold Dy
 rw[h]
 rfl
theorem andT_f{f g:DSt->Out Bool}{δ:DSt}(h:f δ=.ok false):Dy f g δ=.ok false:=by
 unfold Dy
 rw[h]
 rfl
theorem Gy(x:Dr):ixD x.d (.int 1)=some x.to:=rfl
theorem Us(x:Dr):kI x.to .non=some (alR (wS x)):=by cases x <;> rfl
def qx(rows:List (List Dr))(l:List (Nat×Nat×Nat))(t p q a:Nat):Bool:=alR (wdR rows p a) && ldB l t (toR rows p a) (toR rows q a)
theorem gK{n acts:Nat}{t:Bool}{rows:List (List Dr)}(R:Rows n acts t rows){p:Nat}(hp:p<n):ixD (aM rows) (.int (p:Nat))=some (.lst ((rows.getD p []).map Dr.d)):=by
 have h1:p<rows.length:=by rw[R.n];exact hp
 unfold aM
 rw[qw]
 refine g8 ?_
 rw[WL,Wo h1,Wq,Wo h1]
 rfl
section
variable{n acts:Nat}{t0:Bool}{rows:List (List Dr)}{p q:Nat}
theorem leads_ok(R:Rows n acts t0 rows)(hp:p<n)(hq:q<n)(hs:PT.same acts (wdR rows) p q)(l:List (Nat×Nat×Nat))(t:Nat):gG [aM rows,.int (p:Nat),.int (q:Nat),.dT (fk l),.int (t:Nat)]=.ok (.bl ((List.range acts).any (qx rows l t p q))):=by
 apply W_eq
 unfold gG rQ
 have z:=zip_rng Dr.shut Dr.d (rows.getD p []) (rows.getD q []) (by rw[cH R hp,cH R hq])
 rw[cH R hp] at z
 (have zv0:=gK R hp;have zv1:=gK R hq;walk_at "vc-qw: zv0 zv1 W_zip")
 refine⟨_,_,rfl,rfl,?_⟩
 rw[z]
 refine RL _ (qx rows l t p q) (λδ=>∃a b,δ=[ss (aM rows),si p,si q,ss (.dT (fk l)),si t,a,b]) (List.range acts) ⟨_,_,rfl⟩ ?_ ?_
 .rintro a δ ha ⟨u,v,rfl⟩
  have ha:=W2.mp ha
  show W (m9 [ss (aM rows),si p,si q,ss (.dT (fk l)),si t,ss (cl rows p a).d,ss (cl rows q a).d]) _
  have e:Dy (o2b kI (o2 ixD (gvo 5) (kc (.int 1))) (kc .non)) (o2b ltD (wI 3 (bL (aj (o2 ixD (gvo 5) (kc (.int 1))) (aj (o2 ixD (gvo 6) (kc (.int 1))) aD))) (gv 4)) (gb 4)) [ss (aM rows),si p,si q,ss (.dT (fk l)),si t,ss (cl rows p a).d,ss (cl rows q a).d]=.ok (qx rows l t p q a):=by
   have e1:o2b kI (o2 ixD (gvo 5) (kc (.int 1))) (kc .non) [ss (aM rows),si p,si q,ss (.dT (fk l)),si t,ss (cl rows p a).d,ss (cl rows q a).d]=.ok (alR (wdR rows p a)):=fj (aW rfl rfl (Gy _)) rfl (Us _)
   unfold qx
   by_cases hl:alR (wdR rows p a)=true
   .rw[hl] at e1
    have hl2:alR (wdR rows q a)=true:=by rw[←hs a ha];exact hl
    have t1:(cl rows p a).to=.int (toR rows p a:Nat):=Bu hl
    have t2:(cl rows q a).to=.int (toR rows q a:Nat):=Bu hl2
    rw[andT_t e1,hl,Bool.true_and]
    have g:=Gx (i:=3) (f:=bL (aj (o2 ixD (gvo 5) (kc (.int 1))) (aj (o2 ixD (gvo 6) (kc (.int 1))) aD))) (f':=gv 4) (δ:=[ss (aM rows),si p,si q,ss (.dT (fk l)),si t,ss (cl rows p a).d,ss (cl rows q a).d]) rfl (vK (aW rfl rfl ((Gy _).trans (by rw[t1]))) (aW rfl rfl ((Gy _).trans (by rw[t2])))) rfl rfl
    rw[Lb] at g
    unfold ldB
    cases ef:(l.find? λz=>decide (z.1=toR rows p a/\z.2.1=toR rows q a)) with
    | none =>
     rw[ef] at g
     refine(Qe g rfl).trans ?_
     simp
    | some z =>
     rw[ef] at g
     refine(Qe g rfl).trans ?_
     simp
   .have hl:=XQ.mpr hl
    rw[hl] at e1
    rw[andT_f e1,hl]
    rfl
  unfold m9
  rw[nG e]
  by_cases hb:qx rows l t p q a=true
  .rw[Wu hb]
   refine qZ (a:=.rt (.bl true)) rfl ?_
   rw[Wu hb]
   refine⟨_,rfl,λhf=>?_⟩
   show _=_
   rw[show ((List.range acts).any (qx rows l t p q))=true from Yv.mpr ⟨a,W2.mpr ha,hb⟩]
  .rw[WD hb]
   refine qZ rfl ?_
   rw[WD hb]
   exact⟨_,rfl,_,_,rfl⟩
 .rintro hn δ ⟨u,v,rfl⟩
  show _=_
  rw[show ((List.range acts).any (qx rows l t p q))=false from XQ.mpr λk=>by
   obtain⟨a,ha,hb⟩:=Yv.mp k
   exact absurd hb (Yj.mp hn a ha)]
end
def Cm(n acts:Nat)(rows:List (List Dr))(t i j:Nat)(l:List (Nat×Nat×Nat)):Prop:=FOk n l/\∀p q s,(p,q,s)∈l↔(p<n/\q<n)/\FR acts rows s p q/\(s<t∨s=t/\(p<i∨p=i/\q<j))
section
variable{n acts:Nat}{t0:Bool}{rows:List (List Dr)}{t i j:Nat}{l:List (Nat×Nat×Nat)}
theorem Cm.start:Cm n acts rows 0 0 0 []:=⟨⟨by simp,by simp⟩,λp q s=>by simp⟩
theorem Cm.uq(C:Cm n acts rows t i j l){p q s s':Nat}(h:(p,q,s)∈l)(h':(p,q,s')∈l):s=s':=((C.2 p q s).mp h).2.1.uniq ((C.2 p q s').mp h').2.1
theorem Cm.skip(C:Cm n acts rows t i j l)(h:¬FR acts rows t i j):Cm n acts rows t i (j+1) l:=⟨C.1,λp q s=>by
 rw[C.2]
 refine⟨λ⟨a,b,c⟩=>⟨a,b,by omega⟩,λ⟨a,b,c⟩=>⟨a,b,?_⟩⟩
 by_cases z:s=t/\p=i/\q=j
 .obtain⟨rfl,rfl,rfl⟩:=z
  exact absurd b h
 .omega⟩
theorem Cm.new(C:Cm n acts rows t i j l)(h:FR acts rows t i j):∀s,(i,j,s)∉l:=λs m=>by
 obtain⟨_,b,c⟩:=(C.2 i j s).mp m
 have:=b.uniq h
 omega
theorem Cm.add(C:Cm n acts rows t i j l)(hi:i<n)(hj:j<n)(h:FR acts rows t i j):Cm n acts rows t i (j+1) (l++[(i,j,t)]):=⟨C.1.add hi hj (C.new h),λp q s=>by
 rw[W4,C.2]
 constructor
 .rintro (⟨a,b,c⟩| m)
  .exact⟨a,b,by omega⟩
  .simp at m
   obtain⟨rfl,rfl,rfl⟩:=m
   exact⟨⟨hi,hj⟩,h,by omega⟩
 .rintro⟨a,b,c⟩
  by_cases z:s=t/\p=i/\q=j
  .obtain⟨rfl,rfl,rfl⟩:=z
   exact .inr (by simp)
  .exact .inl ⟨a,b,by omega⟩⟩
theorem Cm.row(C:Cm n acts rows t i n l):Cm n acts rows t (i+1) 0 l:=⟨C.1,λp q s=>by
 rw[C.2]
 exact⟨λ⟨a,b,c⟩=>⟨a,b,by omega⟩,λ⟨a,b,c⟩=>⟨a,b,by omega⟩⟩⟩
theorem Cm.round(C:Cm n acts rows t n 0 l):Cm n acts rows (t+1) 0 0 l:=⟨C.1,λp q s=>by
 rw[C.2]
 exact⟨λ⟨a,b,c⟩=>⟨a,b,by omega⟩,λ⟨a,b,c⟩=>⟨a,b,by omega⟩⟩⟩
theorem Cm.has(C:Cm n acts rows t i j l)(hi:i<n)(hj:j<n):yu (fk l) [.inl (i:Int),.inl (j:Int)]=true↔∃s,s<t/\FR acts rows s i j:=by
 constructor
 .intro h
  refine Xj λk=>?_
  rw[Lg λs m=>?_] at h
  .exact Wv h
  .obtain⟨_,b,c⟩:=(C.2 i j s).mp m
   exact k ⟨s,by omega,b⟩
 .rintro⟨s,h1,h2⟩
  exact has_of ((C.2 i j s).mpr ⟨⟨hi,hj⟩,h2,.inl h1⟩)
theorem Cm.lead(R:Rows n acts t0 rows)(C:Cm n acts rows t i j l){p q:Nat}(hp:p<n)(hq:q<n)(hs:PT.same acts (wdR rows) p q):(List.range acts).any (qx rows l t p q)=true↔∃a,a<acts/\alR (wdR rows p a)=true/\∃s,s<t/\FR acts rows s (toR rows p a) (toR rows q a):=by
 rw[Yv]
 constructor
 .rintro⟨a,ha,hb⟩
  unfold qx at hb
  rw[X3] at hb
  obtain⟨s,h1,h2⟩:=(ld_iff λs s'=>C.uq).mp hb.2
  exact⟨a,W2.mp ha,hb.1,s,h1,((C.2 _ _ _).mp h2).2.1⟩
 .rintro⟨a,ha,hl,s,h1,h2⟩
  refine⟨a,W2.mpr ha,?_⟩
  unfold qx
  rw[X3]
  refine⟨hl,(ld_iff λs s'=>C.uq).mpr ⟨s,h1,(C.2 _ _ _).mpr ⟨⟨yR R hp ha hl,yR R hq ha (by rw[←hs a ha];exact hl)⟩,h2,.inl h1⟩⟩⟩
end
section
variable{n acts:Nat}{t0:Bool}{rows:List (List Dr)}{t i j:Nat}{l:List (Nat×Nat×Nat)}
def stA(rows:List (List Dr))(n:Nat)(l:List (Nat×Nat×Nat))(r:DSt):DSt:=(ss (aM rows))::si n::some (.odT (fk l))::r
theorem W_for1{k x y:Nat}{G body:DSt->Out Fl}{δ:DSt}(hG:G=cM (cY (gv x)) (gN y) body)(hk:k<=1000)(hx:δ[x]?=some (si k))(I:Nat->DSt->Prop){R:Fl->Prop}(h0:I 0 δ)
  (hs:∀a δ,a<k->I a δ->W (body (δ.set y (si a))) λfl=>trn fl (I (a+1)) R) (he:∀δ,I k δ->R (.nx δ)):W (G δ) R:=by
 rw[hG,Ox,Ir]
 refine qZ (a:=.int (k:Nat)) (by unfold gv;rw[hx]) ?_
 rw[rg_n (by omega)]
 refine J8 (γ:=Nat) _ (λdone δ=>I done.length δ) (List.range k) h0 (λa done rest δ hz i=>?_) λδ i=>he δ (by rw[XM] at i;exact i)
 obtain⟨rfl,lt⟩:=FN hz
 rw[W0]
 exact hs _ δ lt i
theorem dbl{G1 G2 body:DSt->Out Fl}(g1:G1=cM (cY (gv 1)) (gN 3) G2)(g2:G2=cM (cY (gv 1)) (gN 4) body)(hn:n<=1000)(sz tt:Option Sl)(hb:∀l i j,i<n->j<n->Cm n acts rows t i j l->∃l',body (stA rows n l [si i,si j,sz,tt])=.ok (.nx (stA rows n l' [si i,si j,sz,tt]))/\Cm n acts rows t i (j+1) l'/\∃e,l'=l++e)(a b:Option Sl)(C:Cm n acts rows t 0 0 l):
  ∃l' a' b',G1 (stA rows n l [a,b,sz,tt])=.ok (.nx (stA rows n l' [a',b',sz,tt]))/\Cm n acts rows t n 0 l'/\∃e,l'=l++e:=by
 have w:W (G1 (stA rows n l [a,b,sz,tt])) λfl=>∃l' a' b',fl=.nx (stA rows n l' [a',b',sz,tt])/\Cm n acts rows t n 0 l'/\∃e,l'=l++e:=by
  refine W_for1 g1 hn rfl (λi δ=>∃l' a' b',δ=stA rows n l' [a',b',sz,tt]/\Cm n acts rows t i 0 l'/\∃e,l'=l++e) ⟨l,a,b,rfl,C,[],by simp⟩ ?_ ?_
  .rintro i δ hi ⟨l1,a1,b1,rfl,C1,e1,h1⟩
   show W (G2 (stA rows n l1 [si i,b1,sz,tt])) _
   refine W_for1 g2 hn rfl (λj δ=>∃l' b',δ=stA rows n l' [si i,b',sz,tt]/\Cm n acts rows t i j l'/\∃e,l'=l++e) ⟨l1,b1,rfl,C1,e1,h1⟩ ?_ ?_
   .rintro j δ hj ⟨l2,b2,rfl,C2,e2,h2⟩
    obtain⟨l3,e,C3,e3,h3⟩:=hb l2 i j hi hj C2
    exact qZ e ⟨l3,_,rfl,C3,e2++e3,by rw[h3,h2,Xu]⟩
   .rintro δ ⟨l2,b2,rfl,C2,e2,h2⟩
    exact⟨l2,_,b2,rfl,C2.row,e2,h2⟩
  .rintro δ ⟨l2,a2,b2,rfl,C2,e2,h2⟩
   exact⟨l2,a2,b2,rfl,C2,e2,h2⟩
 obtain⟨fl,e,l',a',b',rfl,C',h'⟩:=t8 w
 exact⟨l',a',b',e,C',h'⟩
theorem Rh(R:Rows n acts t0 rows)(ha:acts<=8){p x:Nat}(hp:p<n){δ:DSt}{fe:DSt->Out D}(hfe:fe=o2 ixD (gvo 0) (kc (.int 0)))(h0:δ[0]?=some (ss (aM rows)))(hx:δ[x]?=some (si p)):su (fX [none] (iR (o2 ixD (gvo 0) (gv x))) (gN 0) (λ_=>.ok true) fe) δ=.ok (.lst ((rows.getD p []).map λx=>D.str x.w)):=by
 refine Lr (oN (cap:=[none]) Dr.d (λx=>D.str x.w) (rows.getD p []) ?_ (by rw[cH R hp];omega) λy _=>?_)
 .unfold iR
  rw[aW (show gvo 0 δ=.ok (aM rows) by unfold gvo;rw[h0]) (show gv x δ=.ok (.int (p:Nat)) by unfold gv;rw[hx]) (gK R hp)]
  rfl
 .rw[hfe]
  rfl
theorem U5{i:Nat}{fv fk:DSt->Out D}{δ δ':DSt}{kvs:List (List Key×D)}{v d:D}{key:List Key}(h1:fv δ=.ok v)(h2:δ[i]?=some (some (.odT kvs)))(h3:fk δ=.ok d)(hk:Ca d=some key)(hl:kvs.length<sizeLine)(e:δ.set i (some (.odT (Jz kvs key v)))=δ'):QM i fv fk δ=.ok (.nx δ'):=by
 unfold QM
 rw[h1,Out.aQ,h2]
 simp only[h3,Out.aQ,hk]
 rw[Wu hl,e]
theorem cell0(R:Rows n acts t0 rows)(hn:n<=16)(ha:acts<=8)(sz tt:Option Sl)(l:List (Nat×Nat×Nat))(i j:Nat)(hi:i<n)(hj:j<n)(C:Cm n acts rows 0 i j l):∃l',jz (stA rows n l [si i,si j,sz,tt])=.ok (.nx (stA rows n l' [si i,si j,sz,tt]))/\Cm n acts rows 0 i (j+1) l'/\∃e,l'=l++e:=by
 have nn:n*n<=256:=Zf hn hn
 have ln:(fk l).length<sizeLine:=by rw[K9];have:=C.1.len;exact Xa (show l.length<=256 by omega) (by decide)
 have e:o2b neD (su (fX [none] (iR (o2 ixD (gvo 0) (gv 3))) (gN 0) (λ_=>.ok true) uU)) (su (fX [none] (iR (o2 ixD (gvo 0) (gv 4))) (gN 0) (λ_=>.ok true) uV)) (stA rows n l [si i,si j,sz,tt])=.ok (decide ((rows.getD i []).map wS≠(rows.getD j []).map wS)):=fj (Rh R ha hi rfl rfl rfl) (Rh R ha hj rfl rfl rfl) (ne_ws _ _)
 unfold jz
 rw[nG e]
 by_cases h:PT.same acts (wdR rows) i j
 .rw[WD (by simp only[decide_eq_true_eq,ne_eq];exact λk=>k ((QQ R hi hj).mpr h))]
  exact⟨l,rfl,C.skip λk=>PT.yl.mp k h,[],by simp⟩
 .rw[Wu (by simp only[decide_eq_true_eq,ne_eq];exact λk=>h ((QQ R hi hj).mp k))]
  have F:FR acts rows 0 i j:=PT.yl.mpr h
  refine⟨l++[(i,j,0)],?_,C.add hi hj F,_,rfl⟩
  refine U5 (v:=.int (0:Nat)) rfl rfl (vK rfl rfl) rfl ln ?_
  rw[put_fk (s:=0) (C.new F)]
  rfl
theorem cell1(R:Rows n acts t0 rows)(hn:n<=16)(ha:acts<=8)(sz:Option Sl)(l:List (Nat×Nat×Nat))(i j:Nat)(hi:i<n)(hj:j<n)(C:Cm n acts rows (t+1) i j l):∃l',jB (stA rows n l [si i,si j,sz,si (t+1)])=.ok (.nx (stA rows n l' [si i,si j,sz,si (t+1)]))/\Cm n acts rows (t+1) i (j+1) l'/\∃e,l'=l++e:=by
 have nn:n*n<=256:=Zf hn hn
 have ln:(fk l).length<sizeLine:=by rw[K9];have:=C.1.len;exact Xa (show l.length<=256 by omega) (by decide)
 have e1:xq 2 (bL (aj (gv 3) (aj (gv 4) aD))) (stA rows n l [si i,si j,sz,si (t+1)])=.ok (!yu (fk l) [.inl (i:Int),.inl (j:Int)]):=by
  unfold xq
  rw[vK (a:=.int (i:Nat)) (b:=.int (j:Nat)) rfl rfl]
  rfl
 unfold jB
 by_cases h:∃s,s<t+1/\FR acts rows s i j
 .rw[(C.has hi hj).mpr h] at e1
  rw[nG (andT_f e1)]
  obtain⟨s,h1,h2⟩:=h
  exact⟨l,rfl,C.skip λk=>by have:=h2.uniq k;omega,[],by simp⟩
 .have hf:yu (fk l) [.inl (i:Int),.inl (j:Int)]=false:=XQ.mpr λk=>h ((C.has hi hj).mp k)
  rw[hf] at e1
  have hs:PT.same acts (wdR rows) i j:=Xj λk=>h ⟨0,by omega,PT.yl.mpr k⟩
  have e2:tst (Jt 2 (oF 5 gG (aj (gv 0) (aj (gv 3) (aj (gv 4) (aj (gv 2) (aj (gv 6) aD))))))) (stA rows n l [si i,si j,sz,si (t+1)])=.ok ((List.range acts).any (qx rows l (t+1) i j)):=by
   have g:=lent_ok (i:=2) (f:=oF 5 gG (aj (gv 0) (aj (gv 3) (aj (gv 4) (aj (gv 2) (aj (gv 6) aD)))))) (δ:=stA rows n l [si i,si j,sz,si (t+1)]) (δ':=(ss (aM rows))::si n::ss (.dT (fk l))::[si i,si j,sz,si (t+1)]) (s:=.odT (fk l)) (d:=.bl ((List.range acts).any (qx rows l (t+1) i j))) rfl rfl rfl (gB (aG rfl (aG rfl (aG rfl (aG rfl (aG rfl rfl))))) rfl (leads_ok R hi hj hs l (t+1))) (by simp[noL])
   unfold tst
   rw[g]
   rfl
  rw[nG ((andT_t e1).trans e2)]
  by_cases k:(List.range acts).any (qx rows l (t+1) i j)=true
  .rw[Wu k]
   obtain⟨a,ka,kl,s,k1,k2⟩:=(C.lead R hi hj hs).mp k
   have F:FR acts rows (t+1) i j:=PT.PK.mpr ⟨λ⟨s,h1,h2⟩=>h ⟨s,by omega,h2⟩,a,ka,kl,s,by omega,k2⟩
   refine⟨l++[(i,j,t+1)],?_,C.add hi hj F,_,rfl⟩
   refine U5 rfl rfl (vK rfl rfl) rfl ln ?_
   rw[put_fk (s:=t+1) (C.new F)]
   rfl
  .rw[WD k]
   refine⟨l,rfl,C.skip λF=>k ?_,[],by simp⟩
   obtain⟨_,a,ka,kl,s,k1,k2⟩:=PT.PK.mp F
   exact(C.lead R hi hj hs).mpr ⟨a,ka,kl,s,by omega,k2⟩
def kW(n acts:Nat)(rows:List (List Dr))(l:List (Nat×Nat×Nat)):Prop:=FOk n l/\∀p q s,(p,q,s)∈l↔(p<n/\q<n)/\FR acts rows s p q
theorem lb5_ok(R:Rows n acts t0 rows)(hn:n<=16)(ha:acts<=8)(C:Cm n acts rows t n 0 l)(a b sz:Option Sl):∃l' a' b',eG (stA rows n l [a,b,sz,si t])=.ok (.nx (stA rows n l' [a',b',si (l.length),si (t+1)]))/\Cm n acts rows (t+1) n 0 l'/\∃e,l'=l++e:=by
 obtain⟨l',a',b',e',C',x⟩:=dbl (G1:=cM (cY (gv 1)) (gN 3) nq) (G2:=nq) (body:=jB) rfl rfl (by omega) (si (l.length)) (si (t+1)) (λl i j hi hj C=>cell1 R hn ha _ l i j hi hj C) a b C.round
 refine⟨l',a',b',?_,C',x⟩
 unfold eG
 have s6:bD 5 (tLen 2) (stA rows n l [a,b,sz,si t])=.ok (.nx (stA rows n l [a,b,si (l.length),si t])):=bF (d:=.int (l.length:Nat)) (by show Out.ok (D.int ((fk l).length:Nat))=_;rw[K9]) rfl
 have s7:bD 6 (o2 bZ (gv 6) (kc (.int 1))) (stA rows n l [a,b,si (l.length),si t])=.ok (.nx (stA rows n l [a,b,si (l.length),si (t+1)])):=rfl
 rw[aV s6,aV s7,e']
theorem wh_ok(R:Rows n acts t0 rows)(hn:n<=16)(ha:acts<=8)(C0:Cm n acts rows 0 n 0 l)(a b:Option Sl):∃δ l',whD gr eG 500 (stA rows n l [a,b,ss (.int (-1)),si 0])=.ok (.nx (stA rows n l' δ))/\kW n acts rows l':=by
 have nn:n*n<=256:=Zf hn hn
 have key:∀(B:DSt->Out Fl)(T:DSt->Out Bool),B=eG->T=gr->∃δ l',whD T B 500 (stA rows n l [a,b,ss (.int (-1)),si 0])=.ok (.nx (stA rows n l' δ))/\kW n acts rows l':=by
  intro B T hB hT
  suffices w:W (whD T B 500 (stA rows n l [a,b,ss (.int (-1)),si 0])) λfl=>∃δ l',fl=.nx (stA rows n l' δ)/\kW n acts rows l' by
   obtain⟨fl,e,δ,l',rfl,A⟩:=t8 w
   exact⟨δ,l',e,A⟩
  refine W_wh (λm δ=>∃l a b t,∃sz:Int,δ=stA rows n l [a,b,ss (.int sz),si t]/\Cm n acts rows t n 0 l/\((sz<l.length/\m=n*n - l.length+1)∨(sz=l.length/\m=0/\0<t/\∀p q,p<n->q<n->¬FR acts rows t p q))) ?_ (n*n - l.length+1) 500 _ ⟨l,a,b,0,-1,rfl,C0,.inl ⟨by omega,rfl⟩⟩ (by omega)
  rintro m δ ⟨l,a,b,t,sz,rfl,C,h⟩
  have tt:T (stA rows n l [a,b,ss (.int sz),si t])=.ok (decide (sz<(l.length:Int))):=by
   rw[hT]
   unfold gr
   refine Qe rfl ?_
   show Out.ok (D.int ((fk l).length:Nat))=_
   rw[K9]
  rw[tt]
  show if _ then _ else _
  rcases h with⟨h1,h2⟩| ⟨h1,h2,h3,h4⟩
  .rw[Wu (by simpa using h1)]
   obtain⟨l',a',b',e',C',x,hx⟩:=lb5_ok R hn ha C a b (ss (.int sz))
   rw[hB,e']
   have le:=C'.1.len
   by_cases z:x=[]
   .subst z
    rw[Xi] at hx
    subst hx
    refine⟨0,by omega,l',a',b',t+1,(l'.length:Nat),rfl,C',.inr ⟨rfl,rfl,by omega,λp q hp hq F=>?_⟩⟩
    have m:=(C'.2 p q (t+1)).mpr ⟨⟨hp,hq⟩,F,.inr ⟨rfl,.inl hp⟩⟩
    have:=((C.2 p q (t+1)).mp m).2.2
    omega
   .have xl:0<x.length:=List.length_pos_iff.mpr z
    have ll:l'.length=l.length+x.length:=by rw[hx,W0]
    exact⟨n*n - l'.length+1,by omega,l',a',b',t+1,(l.length:Nat),rfl,C',.inl ⟨by omega,rfl⟩⟩
  .rw[WD (by simp;omega)]
   refine⟨_,l,rfl,C.1,λp q s=>?_⟩
   rw[C.2]
   refine⟨λ⟨x,y,_⟩=>⟨x,y⟩,λ⟨x,y⟩=>⟨x,y,?_⟩⟩
   by_cases z:t<=s
   .exfalso
    obtain⟨u,rfl⟩:∃u,t=u+1:=⟨t - 1,by omega⟩
    exact PT.far_end (n:=n) (λp a hp ha hl=>yR R hp ha hl) (λp q hp hq=>h4 p q hp hq) s (by omega) p q x.1 x.2 y
   .omega
 exact key _ _ rfl rfl
theorem apart_ok(R:Rows n acts t0 rows)(hn:n<=16)(ha:acts<=8):∃l,lL [aM rows]=.ok (.dT (fk l))/\kW n acts rows l:=by
 obtain⟨l0,a0,b0,e0,C0,_⟩:=dbl (t:=0) (G1:=cM (cY (gv 1)) (gN 3) m7) (G2:=m7) (body:=jz) rfl rfl (by omega) none none (λl i j hi hj C=>cell0 R hn ha none none l i j hi hj C) none none Cm.start
 obtain⟨δ,l,e1,A⟩:=wh_ok R hn ha C0 a0 b0
 refine⟨l,?_,A⟩
 unfold lL
 show ((lR [ss (aM rows),none,none,none,none,none,none]).bind v9).bw=_
 unfold lR
 have s1:bD 1 (o1 bN (gb 0)) [ss (aM rows),none,none,none,none,none,none]=.ok (.nx [ss (aM rows),si n,none,none,none,none,none]):=bF (gU (x:=aM rows) rfl (by unfold aM;rw[dO,Wx,R.n])) rfl
 have s2:Tg 2 [ss (aM rows),si n,none,none,none,none,none]=.ok (.nx (stA rows n [] [none,none,none,none])):=rfl
 have s4:bD 5 (o1 yD (kc (.int 1))) (stA rows n l0 [a0,b0,none,none])=.ok (.nx (stA rows n l0 [a0,b0,ss (.int (-1)),none])):=rfl
 have s5:bD 6 (kc (.int 0)) (stA rows n l0 [a0,b0,ss (.int (-1)),none])=.ok (.nx (stA rows n l0 [a0,b0,ss (.int (-1)),si 0])):=rfl
 have s6:FZ (λ_=>500) gr eG (stA rows n l0 [a0,b0,ss (.int (-1)),si 0])=.ok (.nx (stA rows n l δ)):=e1
 rw[aV s1,aV s2,aV e0,aV s4,aV s5,aV s6]
 rfl
end
theorem zM{k y:Nat}{f:DSt->Out D}{G body:DSt->Out Fl}{δ:DSt}(hG:G=cM (cY f) (gN y) body)(hk:k<=1000)(hf:f δ=.ok (.int (k:Nat)))(I:Nat->DSt->Prop){R:Fl->Prop}(h0:I 0 δ)
  (hs:∀a δ,a<k->I a δ->W (body (δ.set y (si a))) λfl=>trn fl (I (a+1)) R) (he:∀δ,I k δ->R (.nx δ)):W (G δ) R:=by
 rw[hG,Ox,Ir]
 refine qZ hf ?_
 rw[rg_n (by omega)]
 refine J8 (γ:=Nat) _ (λdone δ=>I done.length δ) (List.range k) h0 (λa done rest δ hz i=>?_) λδ i=>he δ (by rw[XM] at i;exact i)
 obtain⟨rfl,lt⟩:=FN hz
 rw[W0]
 exact hs _ δ lt i
theorem W_find2{k y:Nat}{f:DSt->Out D}{G body:DSt->Out Fl}{δ:DSt}(hG:G=cM (cY f) (gN y) body)(hk:k<=1000)(hf:f δ=.ok (.int (k:Nat)))(p:Nat->Bool)(J:DSt->Prop){R:Fl->Prop}(h0:J δ)
  (hs:∀a δ,a<k->J δ->W (body (δ.set y (si a))) λfl=>if p a=true then (∃d,fl=.rt d/\((List.range k).find? p=some a->R (.rt d))) else ∃δ',fl=.nx δ'/\J δ') (he:(List.range k).find? p=none->∀δ,J δ->R (.nx δ)):W (G δ) R:=by
 rw[hG,Ox,Ir]
 refine qZ hf ?_
 rw[rg_n (by omega)]
 exact RL _ p J (List.range k) h0 (λa δ ha j=>hs a δ (W2.mp ha) j) he
theorem dix{r:List Dr}{a:Nat}(h:a<r.length):ixD (.lst (r.map Dr.d)) (.int (a:Nat))=some (r.getD a .shut).d:=by
 rw[qw]
 refine g8 ?_
 rw[WL,Wo h,Wq,Wo h]
 rfl
theorem w_ix(x:Dr):ixD x.d (.int 0)=some (.str x.w):=rfl
section
variable{n acts:Nat}{t0:Bool}{rows:List (List Dr)}{l:List (Nat×Nat×Nat)}{p q:Nat}
theorem VF(R:Rows n acts t0 rows)(ha:acts<=8)(hp:p<n)(hq:q<n):jb [aM rows,.int (p:Nat),.int (q:Nat)]=.ok (onD (nW (rows.getD p []) (rows.getD q []))):=by
 have lp:=cH R hp
 have lq:=cH R hq
 have key:∀G B:DSt->Out Fl,G=cM (cY (o1 bN (o2 ixD (gvo 0) (gv 1)))) (gN 3) B->B=jw->W (G [ss (aM rows),si p,si q,none]) λfl=>(∃a,nW (rows.getD p []) (rows.getD q [])=some a/\fl=.rt (.int (a:Nat)))∨(nW (rows.getD p []) (rows.getD q [])=none/\∃δ,fl=.nx δ):=by
  intro G B hG hB
  refine W_find2 (k:=acts) hG (by omega) (gU (aW rfl rfl (gK R hp)) (by rw[dO,Wx,lp])) (λa=>decide (wS ((rows.getD p []).getD a .shut)≠wS ((rows.getD q []).getD a .shut))) (λδ=>∃a,δ=[ss (aM rows),si p,si q,a]) ⟨_,rfl⟩ ?_ ?_
  .rintro a δ la ⟨u,rfl⟩
   show W (B [ss (aM rows),si p,si q,si a]) _
   have e:o2b neD (o2 ixD (o2 ixD (o2 ixD (gvo 0) (gv 1)) (gv 3)) (kc (.int 0))) (o2 ixD (o2 ixD (o2 ixD (gvo 0) (gv 2)) (gv 3)) (kc (.int 0))) [ss (aM rows),si p,si q,si a]=.ok (decide (wS ((rows.getD p []).getD a .shut)≠wS ((rows.getD q []).getD a .shut))) :=
    fj (aW (aW (aW rfl rfl (gK R hp)) rfl (dix (by omega))) rfl (w_ix _)) (aW (aW (aW rfl rfl (gK R hq)) rfl (dix (by omega))) rfl (w_ix _)) (ne_w _ _)
   rw[hB]
   unfold jw
   rw[nG e]
   by_cases hc:decide (wS ((rows.getD p []).getD a .shut)≠wS ((rows.getD q []).getD a .shut))=true
   .rw[Wu hc]
    refine qZ (a:=.rt (.int (a:Nat))) rfl ?_
    rw[Wu hc]
    refine⟨_,rfl,λhf=>.inl ⟨a,?_,rfl⟩⟩
    unfold nW
    rw[lp,hf]
   .rw[WD hc]
    refine qZ rfl ?_
    rw[WD hc]
    exact⟨_,rfl,_,rfl⟩
  .rintro hn δ ⟨u,rfl⟩
   refine .inr ⟨?_,_,rfl⟩
   unfold nW
   rw[lp,hn]
 obtain⟨fl,e,h⟩:∃fl,cM (cY (o1 bN (o2 ixD (gvo 0) (gv 1)))) (gN 3) jw [ss (aM rows),si p,si q,none]=.ok fl/\((∃a,nW (rows.getD p []) (rows.getD q [])=some a/\fl=.rt (.int (a:Nat)))∨(nW (rows.getD p []) (rows.getD q [])=none/\∃δ,fl=.nx δ)):=t8 (key _ _ rfl rfl)
 unfold jb
 show ((lV [ss (aM rows),si p,si q,none]).bind v9).bw=_
 unfold lV
 rcases h with⟨a,hf,rfl⟩| ⟨hf,δ,rfl⟩
 .rw[hf]
  exact run_rt e
 .rw[hf,aV e]
  rfl
theorem Rg(a:Int):cC [.int a]=.ok (.bl true):=by
 unfold cC rT
 walk_at "ev: pB kj uh"
theorem K7(A:kW n acts rows l)(hp:p<n)(hq:q<n){s:Nat}(h:FR acts rows s p q):uP (fk l) [.inl (p:Int),.inl (q:Int)]=some (.int (s:Nat)) :=
 get_of (λs' m=>((A.2 _ _ _).mp m).2.uniq h) ((A.2 _ _ _).mpr ⟨⟨hp,hq⟩,h⟩)
theorem far_no(A:kW n acts rows l)(h:∀s,¬FR acts rows s p q):uP (fk l) [.inl (p:Int),.inl (q:Int)]=none:=get_not λs m=>h s ((A.2 _ _ _).mp m).2
theorem far_is(A:kW n acts rows l)(hp:p<n)(hq:q<n)(m:Nat):∃z:Int,(uP (fk l) [.inl (p:Int),.inl (q:Int)]).getD (.int (-1))=.int z/\(z=(m:Int)↔FR acts rows m p q):=by
 by_cases h:∃s,FR acts rows s p q
 .obtain⟨s,h⟩:=h
  refine⟨(s:Nat),by rw[K7 A hp hq h];rfl,λe=>?_,λk=>by rw[h.uniq k]⟩
  have:s=m:=by omega
  rw[←this]
  exact h
 .refine⟨-1,by rw[far_no A λs k=>h ⟨s,k⟩];rfl,λe=>by omega,λk=>absurd ⟨_,k⟩ h⟩
end
theorem T8{f g:DSt->Out Bool}{δ:DSt}{b:Bool}(h:f δ=.ok b):zN (bV f) (bV g) δ=if b=true then bV g δ else .ok (.bl false):=by
 unfold zN
 rw[xP h,Out.aQ]
 cases b <;> rfl
section
variable{n acts:Nat}{t0:Bool}{rows:List (List Dr)}{l:List (Nat×Nat×Nat)}{p q:Nat}{w:List Nat}
def stW(rows:List (List Dr))(l:List (Nat×Nat×Nat))(w:List Nat)(p q:Nat)(r:DSt):DSt:=(ss (aM rows))::si p::si q::ss (.lst (hL w))::ss (.dT (fk l))::r
theorem Bp{w:List Nat}{k a:Nat}(h:w[k]?=some a):ixD (.lst (hL w)) (.int (k:Nat))=some (.int (a:Nat)):=by
 rw[qw]
 refine g8 ?_
 unfold hL
 rw[WL,h]
 rfl
theorem act_ok(R:Rows n acts t0 rows)(A:kW n acts rows l)(hp:p<n)(hq:q<n)(hs:PT.same acts (wdR rows) p q){k a b m:Nat}(hk:w[k]?=some a)(hm:w.length=k+1+m)(hb:b<acts)(hw:w.length<=1000)
  (h:(alR (wdR rows p b)=true/\FR acts rows m (toR rows p b) (toR rows q b))↔b=a) (u v:Option Sl):∃u' v',fH (stW rows l w p q [si k,si b,u,v])=.ok (.nx (stW rows l w p q [si k,si b,u',v'])):=by
 have lp:=cH R hp
 have lq:=cH R hq
 have s1:bD 7 (bL (aj (o2 ixD (o2 ixD (o2 ixD (gvo 0) (gv 1)) (gv 6)) (kc (.int 1))) (aj (o2 ixD (o2 ixD (o2 ixD (gvo 0) (gv 2)) (gv 6)) (kc (.int 1))) aD))) (stW rows l w p q [si k,si b,u,v])=.ok (.nx (stW rows l w p q [si k,si b,ss (.tup [(cl rows p b).to,(cl rows q b).to]),v])) :=
  bF (vK (aW (aW (aW rfl rfl (gK R hp)) rfl (dix (by omega))) rfl (Gy _)) (aW (aW (aW rfl rfl (gK R hq)) rfl (dix (by omega))) rfl (Gy _))) rfl
 have n1:o2b kI (o2 ixD (gvo 7) (kc (.int 0))) (kc .non) (stW rows l w p q [si k,si b,ss (.tup [(cl rows p b).to,(cl rows q b).to]),v])=.ok (alR (wdR rows p b)):=fj (aW rfl rfl rfl) rfl (Us _)
 have s2:∃d:Bool,bD 8 (zN (bV (o2b kI (o2 ixD (gvo 7) (kc (.int 0))) (kc .non))) (bV (o2b eqD (wI 4 (gv 7) (o1 yD (kc (.int 1)))) (o2 xn (o2 xn (o1 bN (gb 3)) (gv 5)) (kc (.int 1)))))) (stW rows l w p q [si k,si b,ss (.tup [(cl rows p b).to,(cl rows q b).to]),v])=.ok (.nx (stW rows l w p q [si k,si b,ss (.tup [(cl rows p b).to,(cl rows q b).to]),ss (.bl d)]))/\(d=true↔b=a):=by
  by_cases hl:alR (wdR rows p b)=true
  .have hl2:alR (wdR rows q b)=true:=by rw[←hs b hb];exact hl
   have t1:(cl rows p b).to=.int (toR rows p b:Nat):=Bu hl
   have t2:(cl rows q b).to=.int (toR rows q b:Nat):=Bu hl2
   obtain⟨z,ez,iz⟩:=far_is A (yR R hp hb hl) (yR R hq hb hl2) m
   refine⟨z==((w.length:Int) - (k:Int) - 1),bF ((T8 n1).trans ?_) rfl,?_⟩
   .rw[Wu hl]
    have g:=Gx (i:=4) (f:=gv 7) (f':=o1 yD (kc (.int 1))) (δ:=stW rows l w p q [si k,si b,ss (.tup [(cl rows p b).to,(cl rows q b).to]),v]) (kvs:=fk l) (d:=.tup [.int (toR rows p b:Nat),.int (toR rows q b:Nat)]) (x:=.int (-1)) rfl (by rw[t1,t2];rfl) rfl rfl
    rw[ez] at g
    refine xP (eq_ok g (Gj (Gj (gU (x:=.lst (hL w)) rfl (by rw[dO,jq])) rfl) rfl))
   .rw[←h]
    have e2:((w.length:Int) - (k:Int) - 1)=(m:Int):=by omega
    rw[e2]
    simp only[beq_iff_eq,hl,true_and]
    exact iz
  .have hl':=XQ.mpr hl
   refine⟨false,bF ((T8 n1).trans ?_) rfl,?_⟩
   .rw[hl',WD Wv]
   .rw[←h]
    simp[hl]
 obtain⟨d,s2,hd⟩:=s2
 have s3:o2b neD (gb 8) (bV (o2b eqD (gb 6) (o2 ixD (gvo 3) (gv 5)))) (stW rows l w p q [si k,si b,ss (.tup [(cl rows p b).to,(cl rows q b).to]),ss (.bl d)])=.ok false:=by
  refine fj (x:=.bl d) rfl (xP (eq_ok rfl (aW rfl rfl (Bp hk)))) ?_
  rw[Fj]
  have:d=((b:Int)==(a:Int)):=by
   rw[Bool.eq_iff_iff,hd,Ys]
   omega
  rw[this]
  simp
 unfold fH
 rw[aV s1,aV s2,nG s3,WD Wv]
 exact⟨_,_,rfl⟩
theorem step_ok(R:Rows n acts t0 rows)(ha:acts<=8)(A:kW n acts rows l)(hp:p<n)(hq:q<n){k a:Nat}{v:List Nat}(hd:w.drop k=a::v)(hw:w.length<=1000)(L:LE acts rows (a::v) p q)(u1 u2 u3:Option Sl):
  ∃u1' u2' u3',fG (stW rows l w p q [si k,u1,u2,u3])=.ok (.nx (stW rows l w (toR rows p a) (toR rows q a) [si k,u1',u2',u3'])):=by
 obtain⟨hs,la,hl,L',nb⟩:=L.tail
 have lp:=cH R hp
 have lq:=cH R hq
 have hl2:alR (wdR rows q a)=true:=by rw[←hs a la];exact hl
 have lk:k<w.length:=Nat.lt_of_not_le λz=>by rw[List.drop_eq_nil_of_le z] at hd;cases hd
 have hk:w[k]?=some a:=by
  have:=Xd (λx:List Nat=>x[0]?) hd
  simpa using this
 have lv:w.length=k+1+v.length:=by
  have:=Xd List.length hd
  simp at this
  omega
 have key:∀G B:DSt->Out Fl,G=cM (cY (o2 bZ (o2 ixD (gvo 3) (gv 5)) (kc (.int 1)))) (gN 6) B->B=fH->∃fl,G (stW rows l w p q [si k,u1,u2,u3])=.ok fl/\∃x y z,fl=.nx (stW rows l w p q [si k,x,y,z]):=by
  intro G B hG hB
  refine t8 ?_
  refine zM (k:=a+1) hG (by omega) (by rw[show ((a+1:Nat):Int)=(a:Int)+1 by omega];exact iu (aW rfl rfl (Bp hk)) rfl) (λ_ δ=>∃x y z,δ=stW rows l w p q [si k,x,y,z]) ⟨_,_,_,rfl⟩ ?_ λδ h=>by
   obtain⟨x,y,z,rfl⟩:=h
   exact⟨_,_,_,rfl⟩
  rintro b δ lb ⟨x,y,z,rfl⟩
  obtain⟨y',z',e⟩:=act_ok R A hp hq hs (m:=v.length) hk lv (show b<acts by omega) hw (by
   constructor
   .rintro⟨h1,h2⟩
    refine Xj λne=>nb b (by omega) h1 h2
   .rintro rfl
    exact⟨hl,L'.far⟩) y z
  rw[hB]
  exact qZ e ⟨_,_,_,rfl⟩
 obtain⟨fl,e3,x,y,z,rfl⟩:∃fl,cM (cY (o2 bZ (o2 ixD (gvo 3) (gv 5)) (kc (.int 1)))) (gN 6) fH (stW rows l w p q [si k,u1,u2,u3])=.ok fl/\∃x y z,fl=.nx (stW rows l w p q [si k,x,y,z]):=key _ _ rfl rfl
 have a1:tst (oF 1 cC (aj (o2 ixD (gvo 3) (gv 5)) aD)) (stW rows l w p q [si k,u1,u2,u3])=.ok true:=by
  unfold tst
  rw[show oF 1 cC (aj (o2 ixD (gvo 3) (gv 5)) aD) (stW rows l w p q [si k,u1,u2,u3])=.ok (.bl true) from gB (aG (aW rfl rfl (Bp hk)) rfl) rfl (Rg _)]
  rfl
 have a2:o2b ltD (o2 ixD (gvo 3) (gv 5)) (kc (.int 0)) (stW rows l w p q [si k,u1,u2,u3])=.ok false:=(Qe (aW rfl rfl (Bp hk)) rfl).trans (by simp)
 have a3:o2b geD (o2 ixD (gvo 3) (gv 5)) (o1 bN (o2 ixD (gvo 0) (gv 1))) (stW rows l w p q [si k,u1,u2,u3])=.ok false:=(ge_ok (aW rfl rfl (Bp hk)) (gU (aW rfl rfl (gK R hp)) (by rw[dO,Wx,lp]))).trans (by simp;omega)
 have s1:sIf (orT (lY (tst (oF 1 cC (aj (o2 ixD (gvo 3) (gv 5)) aD)))) (orT (o2b ltD (o2 ixD (gvo 3) (gv 5)) (kc (.int 0))) (o2b geD (o2 ixD (gvo 3) (gv 5)) (o1 bN (o2 ixD (gvo 0) (gv 1)))))) (cz (kc .non)) iQ (stW rows l w p q [si k,u1,u2,u3])=.ok (.nx (stW rows l w p q [si k,u1,u2,u3])):=by
  rw[nG (b:=false)]
  .rfl
  .unfold orT lY
   rw[a1,a2,a3]
   rfl
 have g:=Gx (i:=4) (f:=bL (aj (gv 1) (aj (gv 2) aD))) (f':=o1 yD (kc (.int 1))) (δ:=stW rows l w p q [si k,u1,u2,u3]) (kvs:=fk l) (d:=.tup [.int (p:Nat),.int (q:Nat)]) (x:=.int (-1)) rfl (vK rfl rfl) rfl rfl
 rw[K7 A hp hq L.far] at g
 have s2:sIf (o2b neD (wI 4 (bL (aj (gv 1) (aj (gv 2) aD))) (o1 yD (kc (.int 1)))) (o2 xn (o1 bN (gb 3)) (gv 5))) (cz (kc .non)) iQ (stW rows l w p q [si k,u1,u2,u3])=.ok (.nx (stW rows l w p q [si k,u1,u2,u3])):=by
  rw[nG (b:=false)]
  .rfl
  .refine fj g (Gj (gU (x:=.lst (hL w)) rfl (by rw[dO,jq])) rfl) ?_
   show neD (.int _) (.int _)=_
   rw[Ae]
   simp
   omega
 have s4:bD 7 (bL (aj (o2 ixD (o2 ixD (o2 ixD (gvo 0) (gv 1)) (o2 ixD (gvo 3) (gv 5))) (kc (.int 1))) (aj (o2 ixD (o2 ixD (o2 ixD (gvo 0) (gv 2)) (o2 ixD (gvo 3) (gv 5))) (kc (.int 1))) aD))) (stW rows l w p q [si k,x,y,z])=.ok (.nx (stW rows l w p q [si k,x,ss (.tup [.int (toR rows p a:Nat),.int (toR rows q a:Nat)]),z])) :=
  bF (vK (aW (aW (aW rfl rfl (gK R hp)) (aW rfl rfl (Bp hk)) (dix (by omega))) rfl ((Gy _).trans (by rw[show ((rows.getD p []).getD a Dr.shut).to=.int (toR rows p a:Nat) from Bu hl]))) (aW (aW (aW rfl rfl (gK R hq)) (aW rfl rfl (Bp hk)) (dix (by omega))) rfl ((Gy _).trans (by rw[show ((rows.getD q []).getD a Dr.shut).to=.int (toR rows q a:Nat) from Bu hl2])))) rfl
 unfold fG
 rw[aV s1,aV s2,aV e3,aV s4]
 exact⟨_,_,_,rfl⟩
theorem Wj(R:Rows n acts t0 rows)(ha:acts<=8)(A:kW n acts rows l)(hp:p<n)(hq:q<n)(hw:w.length<=61){p' q':Nat}(L:LE acts rows w p q)(Pa:PA' acts rows w p q p' q'):
  gP [aM rows,.int (p:Nat),.int (q:Nat),.lst (hL w),.dT (fk l)]=.ok (onD (nW (rows.getD p' []) (rows.getD q' []))):=by
 have key:∀G B:DSt->Out Fl,G=cM (cY (o1 bN (gb 3))) (gN 5) B->B=fG->∃fl,G (stW rows l w p q [none,none,none,none])=.ok fl/\(p'<n/\q'<n)/\∃u v x y,fl=.nx (stW rows l w p' q' [u,v,x,y]):=by
  intro G B hG hB
  refine t8 ?_
  refine zM (k:=w.length) hG (by omega) (gU (x:=.lst (hL w)) rfl (by rw[dO,jq])) (λk δ=>∃p q u v x y,(LE acts rows (w.drop k) p q/\PA' acts rows (w.drop k) p q p' q'/\p<n/\q<n)/\δ=stW rows l w p q [u,v,x,y]) ⟨p,q,_,_,_,_,⟨by simpa using L,by simpa using Pa,hp,hq⟩,rfl⟩ ?_ ?_
  .rintro k δ lk ⟨p,q,u,v,x,y,⟨L,Pa,hp,hq⟩,rfl⟩
   have hd:w.drop k=w[k]::w.drop (k+1):=XC lk
   rw[hd] at L Pa
   obtain⟨hs,la,hl,L',nb⟩:=L.tail
   obtain⟨_,_,_,Pa'⟩:=Pa
   obtain⟨u1,u2,u3,e⟩:=step_ok R ha A hp hq hd (by omega) L v x y
   rw[hB]
   exact qZ e ⟨_,_,_,_,_,_,⟨L',Pa',yR R hp la hl,yR R hq la (by rw[←hs _ la];exact hl)⟩,rfl⟩
  .rintro δ ⟨p,q,u,v,x,y,⟨L,Pa,hp,hq⟩,rfl⟩
   rw[Yu] at Pa
   obtain⟨rfl,rfl⟩:=Pa
   exact⟨⟨hp,hq⟩,_,_,_,_,rfl⟩
 obtain⟨fl,e,⟨bp,bq⟩,u,v,x,y,rfl⟩:∃fl,cM (cY (o1 bN (gb 3))) (gN 5) fG (stW rows l w p q [none,none,none,none])=.ok fl/\(p'<n/\q'<n)/\∃u v x y,fl=.nx (stW rows l w p' q' [u,v,x,y]):=key _ _ rfl rfl
 unfold gP
 show ((jV (stW rows l w p q [none,none,none,none])).bind v9).bw=_
 unfold jV
 rw[aV e]
 have s:cz (oF 3 jb (aj (gv 0) (aj (gv 1) (aj (gv 2) aD)))) (stW rows l w p' q' [u,v,x,y])=.ok (.rt (onD (nW (rows.getD p' []) (rows.getD q' [])))):=UT (gB (aG rfl (aG rfl (aG rfl rfl))) rfl (VF R ha bp bq))
 rw[s]
 rfl
end
section
variable{n c:Nat}{t:Bool}{ns:List (List Nat)}{rows:List (List Dr)}{l:List (Nat×Nat×Nat)}{x y:Nat}{μ:Mem}
def stR(c:Nat)(ns:List (List Nat))(rows:List (List Dr))(l:List (Nat×Nat×Nat))(x y:Nat)(r:DSt):DSt:=(ss (plan c ns rows))::ss (aM rows)::si x::si y::ss (.dT (fk l))::r
theorem rsvR(m:Nat)(r:DSt):rsv μ m (stR c ns rows l x y r)=stR c ns rows l x y (rsv μ m r):=by
 unfold stR
 simp only[rsv_c,rs1_s,Dj]
 unfold plan aM
 rw[QC,QB]
 cases m <;> rfl
theorem has_r{u v:Option Sl}:xq 4 (bL (aj (gv 2) (aj (gv 3) aD))) (stR c ns rows l x y [u,v])=.ok (!yu (fk l) [.inl (x:Int),.inl (y:Int)]):=by
 unfold xq
 rw[vK (a:=.int (x:Nat)) (b:=.int (y:Nat)) rfl rfl]
 rfl
theorem FP(P:Pl c n t ns rows)(A:kW n ns.length rows l)(hx:x<n)(hy:y<n):∃μ',cG μ [plan c ns rows,aM rows,.int (x:Nat),.int (y:Nat),.dT (fk l)]=.ok (.bl true) μ':=by
 obtain⟨d,μ1,e,⟨ν,hν⟩,h⟩:=xF (μ:=μ) P hx hy
 have s1:tU 5 (gj 3 iJ (aH (fO (gv 0)) (aH (fO (gv 2)) (aH (fO (gv 3)) dW)))) (stR c ns rows l x y [none,none]) μ=.ok (.nx (stR c ns rows l x y [ss d,none])) μ1:=v7 (mW (bf (bz rfl) (bf (bz rfl) (bf (bz rfl) rfl))) rfl e) rfl
 rcases h with⟨rfl,no⟩| ⟨w,z,p,q,k,rfl,lk,ek,lw,L,Pa,hf⟩
 .refine⟨μ1,?_⟩
  unfold cG
  refine M3 ?_
  show gJ (stR c ns rows l x y [none,none]) μ=_
  unfold gJ
  have nh:yu (fk l) [.inl (x:Int),.inl (y:Int)]=false:=Lg λs m=>by
   obtain⟨⟨w,_,sp⟩,_⟩:=((A.2 _ _ _).mp m).2
   exact no w sp
  have i1:=has_r (c:=c) (ns:=ns) (rows:=rows) (l:=l) (x:=x) (y:=y) (u:=(ss .non)) (v:=none)
  rw[nh] at i1
  rw[cJ s1]
  refine UV ((PX (bz i1)).trans (MT (MN ?_ rfl)))
  rw[rsvR]
  rfl
 .have hh:yu (fk l) [.inl (x:Int),.inl (y:Int)]=true:=has_of ((A.2 _ _ _).mpr ⟨⟨hx,hy⟩,L.far⟩)
  have i1:=has_r (c:=c) (ns:=ns) (rows:=rows) (l:=l) (x:=x) (y:=y) (u:=(ss (.tup [.loc k,.int (z:Nat)]))) (v:=none)
  rw[hh] at i1
  have rs:∀r:DSt,rsv μ1 3 (ss (.tup [.loc k,.int (z:Nat)])::r)=(ss (.tup [.lst (hL w),.int (z:Nat)]))::rsv μ1 3 r:=λr=>by
   rw[rsv_c,rs1_s]
   show some (Sl.sh (.tup [res μ1 2 (.loc k),res μ1 2 (.int (z:Nat))]))::_=_
   rw[Dk (n:=1) ek,Dj]
  have n2:ifS (rdT 3 (orT (lY (tst (uY dD (gb 5)))) (orT (o2b neD (o1 bN (gb 5)) (kc (.int 2))) (lY (tst (uY c7 (o2 ixD (gvo 5) (kc (.int 0))))))))) (retS (fO (kc (.bl false)))) wY (stR c ns rows l x y [ss (.tup [.loc k,.int (z:Nat)]),none]) μ1=.ok (.nx (stR c ns rows l x y [ss (.tup [.loc k,.int (z:Nat)]),none])) μ1:=by
   refine wD (Te ?_)
   rw[rsvR,rs]
   unfold stR
   walk_at "ev: dD c7 uh"
  have n3:ifS (rdT 3 (orT (o2b neD (o1 bN (o2 ixD (gvo 5) (kc (.int 0)))) (tGet 4 (bL (aj (gv 2) (aj (gv 3) aD))))) (lY (tst (oF 1 cC (aj (o2 ixD (gvo 5) (kc (.int 1))) aD)))))) (retS (fO (kc (.bl false)))) wY (stR c ns rows l x y [ss (.tup [.loc k,.int (z:Nat)]),none]) μ1=.ok (.nx (stR c ns rows l x y [ss (.tup [.loc k,.int (z:Nat)]),none])) μ1:=by
   refine wD (Te ?_)
   rw[rsvR,rs]
   have g:tGet 4 (bL (aj (gv 2) (aj (gv 3) aD))) (stR c ns rows l x y (ss (.tup [.lst (hL w),.int (z:Nat)])::rsv μ1 3 [none]))=.ok (.int (w.length:Nat)):=by
    unfold tGet
    show ((bL (aj (gv 2) (aj (gv 3) aD)) _).bind _)=_
    rw[vK (a:=.int (x:Nat)) (b:=.int (y:Nat)) rfl rfl]
    show Out.opt (uP (fk l) [.inl (x:Int),.inl (y:Int)])=_
    rw[K7 A hx hy L.far]
    rfl
   have a1:o2b neD (o1 bN (o2 ixD (gvo 5) (kc (.int 0)))) (tGet 4 (bL (aj (gv 2) (aj (gv 3) aD)))) (stR c ns rows l x y (ss (.tup [.lst (hL w),.int (z:Nat)])::rsv μ1 3 [none]))=.ok false:=by
    refine fj (gU (x:=.lst (hL w)) (aW rfl rfl rfl) (by rw[dO,jq])) g ?_
    rw[Ae]
    simp
   have a2:tst (oF 1 cC (aj (o2 ixD (gvo 5) (kc (.int 1))) aD)) (stR c ns rows l x y (ss (.tup [.lst (hL w),.int (z:Nat)])::rsv μ1 3 [none]))=.ok true:=by
    unfold tst
    rw[show oF 1 cC (aj (o2 ixD (gvo 5) (kc (.int 1))) aD) (stR c ns rows l x y (ss (.tup [.lst (hL w),.int (z:Nat)])::rsv μ1 3 [none]))=.ok (.bl true) from gB (aG (aW (z:=.int (z:Nat)) rfl rfl rfl) rfl) rfl (Rg _)]
    rfl
   unfold orT lY
   rw[a1,a2]
   rfl
  have n4:tU 6 (rdS 3 (bV (o2b eqD (o2 ixD (gvo 5) (kc (.int 1))) (oF 5 gP (aj (gv 1) (aj (gv 2) (aj (gv 3) (aj (o2 ixD (gvo 5) (kc (.int 0))) (aj (gv 4) aD))))))))) (stR c ns rows l x y [ss (.tup [.loc k,.int (z:Nat)]),none]) μ1=.ok (.nx (stR c ns rows l x y [ss (.tup [.loc k,.int (z:Nat)]),ss (.bl true)])) μ1:=by
   refine v7 (MN ?_ rfl) rfl
   rw[rsvR,rs]
   have wk:=Wj P.R P.N.hi A hx hy lw L Pa
   rw[hf] at wk
   refine xP (fj (aW (z:=.int (z:Nat)) rfl rfl rfl) (gB (aG rfl (aG rfl (aG rfl (aG (aW (z:=.lst (hL w)) rfl rfl rfl) (aG rfl rfl))))) rfl wk) ?_)
   show eqD (.int _) (.int _)=_
   rw[rF]
   simp
  have n5:Dz (rdS 1 (o2 ixD (gvo 5) (kc (.int 0)))) (fO (kc (.int 0))) (stR c ns rows l x y [ss (.tup [.loc k,.int (z:Nat)]),ss (.bl true)]) μ1=.ok (.nx (stR c ns rows l x y [ss (.tup [.loc k,.int (z:Nat)]),ss (.bl true)])) (μ1.set k (.lst (hL w++[.int 0]))):=by
   refine appS_ok (MN ?_ rfl) ek (bz rfl) ek (by rw[jq];omega)
   rw[rsvR]
   rfl
  refine⟨μ1.set k (.lst (hL w++[.int 0])),?_⟩
  unfold cG
  refine M3 ?_
  show gJ (stR c ns rows l x y [none,none]) μ=_
  unfold gJ
  rw[cJ s1]
  refine my (δ':=(stR c ns rows l x y [ss (.tup [.loc k,.int (z:Nat)]),none])) (wD (bz i1)) ?_
  rw[cJ n2,cJ n3,cJ n4,cJ n5]
  rfl
theorem self_ok(P:Pl c n t ns rows)(hx:x<n):∃μ',iJ μ [plan c ns rows,.int (x:Nat),.int (x:Nat)]=.ok .non μ':=by
 obtain⟨d,μ1,e,_,h⟩:=xF (μ:=μ) P hx hx
 rcases h with⟨rfl,no⟩| ⟨w,z,p,q,k,rfl,lk,ek,lw,L,Pa,hf⟩
 .exact⟨μ1,e⟩
 .exact absurd (PT.KQ w x) (PT.Nk L.1)
end
def wg(c k:Int):Int :=
 let n:=(c*48271+k*7919+104729) % 2147483647
 let n:=(n*n % 2147483629*16807+k*104729+11) % 2147483587
 n*n % 2147483549
theorem Up(c k:Int):0<=wg c k:=by unfold wg;exact XD _ (by decide)
theorem oA(c k:Int)(h0:0<=k)(h1:k<=1000000):bu [.int c,.int k]=.ok (.int (wg c k)):=by
 unfold bu rR
 have m1:∀a b:Int,qi (a % 2147483647) b:=λa b=>modb a b (by decide) (by decide)
 have m2:∀a b:Int,qi (a % 2147483629) b:=λa b=>modb a b (by decide) (by decide)
 have m3:∀a b:Int,qi (a % 2147483587) b:=λa b=>modb a b (by decide) (by decide)
 have mk:∀b:Int,qi k b:=λb=>xU (by omega) (by omega)
 have mc:qi c 48271:=Or.inr ⟨by decide,by decide⟩
 walk_at "ev: m1 m2 m3 mk mc"
 rfl
theorem Rp(ns:List Int)(k:Nat):dZ [.rol (ns.map .int),.int k]=.ok (.int (ns.getD k 0)):=by
 unfold dZ mX
 walk_at "ev: List.length_map"
 by_cases h:k<ns.length
 .have h':(k:Int)<(ns.length:Int):=by omega
  have e:atI (ns.map D.int) (k:Int)=some (.int ns[k]):=g8 (by simp[h])
  walk_at "ev: h' e"
  simp[h]
 .have h':¬(k:Int)<(ns.length:Int):=by omega
  walk_at "ev: h'"
  simp[h]
theorem mixI_lt(c k:Int):wg c k<2147483549:=by unfold wg;exact X4 _ (by decide)
def num(x:Int)(sz k j:Nat):Int:=x / ((j:Int)+2)+5*(j:Int)+(k:Int)*(if ((j:Int)==x / 8 % (sz:Int))=true then 1 else 0)
def ch(x:Int)(sz k j:Nat):Nat:=97+(num x sz k j % 26).toNat
def nm(x:Int)(sz k:Nat):List Nat:=(List.range sz).map (ch x sz k)
def stN(cell:Int)(many:Nat)(x:Int)(sz:Nat)(f:List D)(x5 x6 x7 x8:Option Sl):DSt:=[ss (.int cell),ss (.int many),ss (.int x),ss (.int sz),some (.ol f),x5,x6,x7,x8]
theorem Qd(cell:Int)(many:Nat){x:Int}(h0:0<=x)(hx:x<2147483549){sz:Nat}(hz1:1<=sz)(hz:sz<=8)(f:List D){k j:Nat}(hk:k<8)(hj:j<sz)(l:List Nat)(hl:l.length<=8)(x8:Option Sl):
  cW (stN cell many x sz f (ss (.int k)) (ss (.str (ofL l))) (ss (.int j)) x8)=.ok (.nx (stN cell many x sz f (ss (.int k)) (ss (.str (ofL (l++[ch x sz k j])))) (ss (.int j)) (ss (.int (num x sz k j))))):=by
 have d1:CDiv x ((j:Int)+2):=⟨by omega,by omega⟩
 have d2:CDiv x 8:=⟨by decide,by decide⟩
 have m1:qi 5 (j:Int):=xU (by decide) (by decide)
 have m2:∀b:Int,qi (k:Int) b:=λb=>xU (by omega) (by omega)
 have z1:(0:Int)<(sz:Int):=by omega
 have n0:0<=num x sz k j % 26:=XD _ (by decide)
 have n1:num x sz k j % 26<26:=X4 _ (by decide)
 unfold cW
 rw[aV (δ':=stN cell many x sz f (ss (.int k)) (ss (.str (ofL l))) (ss (.int j)) (ss (.int (num x sz k j)))) (bF (d:=.int (num x sz k j)) (aW (aW (aW (x:=.int x) rfl (aW (x:=.int j) rfl (km _ _) (lO _ _)) (kh d1)) (aW (km _ _) (y:=.int j) rfl (pF m1)) (lO _ _)) (aW (x:=.int k) rfl (gU (xP (fj (x:=.int j) rfl (aW (aW (x:=.int x) rfl (km _ _) (kh d2)) (y:=.int sz) rfl (lX z1)) (rF _ _))) (uQ _)) (pF (m2 _))) (lO _ _)) rfl)]
 refine bF (d:=.str (ofL (l++[ch x sz k j]))) ?_ rfl
 have e1:=abc_at n0 n1
 have e2:=add_str (a:=l) (b:=[97+(num x sz k j % 26).toNat]) (by simp;omega)
 exact aW (x:=.str (ofL l)) rfl (aW (km _ _) (aW (x:=.int (num x sz k j)) rfl (km _ _) (lX (by decide))) e1) e2
theorem Wk(cell:Int)(many:Nat){x:Int}(h0:0<=x)(hx:x<2147483549){sz:Nat}(hz1:1<=sz)(hz:sz<=8)(f:List D){k:Nat}(hk:k<8)(x7 x8:Option Sl):
  ∃y7 y8,qu (gN 7) cW ((List.range sz).map λj:Nat=>D.int j) (stN cell many x sz f (ss (.int k)) (ss (.str (ofL []))) x7 x8)=.ok (.nx (stN cell many x sz f (ss (.int k)) (ss (.str (ofL (nm x sz k)))) y7 y8)):=by
 have hh:=ym (body:=cW) (tg:=gN 7) (λj:Nat=>D.int j) (λdone δ=>∃y7 y8,δ=stN cell many x sz f (ss (.int k)) (ss (.str (ofL (done.map (ch x sz k))))) y7 y8) (List.range sz) (stN cell many x sz f (ss (.int k)) (ss (.str (ofL []))) x7 x8) (by
  rintro j done rest δ e ⟨y7,y8,rfl⟩
  have hj:j<sz:=W2.mp (by rw[e];simp)
  have hd:done.length<=8:=by
   have:=Xd List.length e
   simp at this
   omega
  refine⟨_,rfl,?_⟩
  have q:=Qd cell many h0 hx hz1 hz f hk hj (done.map (ch x sz k)) (by rw[Wx];exact hd) y8
  show nxP (cW (stN cell many x sz f (ss (.int k)) (ss (.str (ofL (done.map (ch x sz k))))) (ss (.int j)) y8)) _
  rw[q]
  exact⟨(ss (.int j)),ss (.int (num x sz k j)),by rw[X6];rfl⟩) ⟨x7,x8,rfl⟩
 obtain⟨δ',e,y7,y8,rfl⟩:=hh
 exact⟨y7,y8,e⟩
theorem Sw(cell:Int)(many:Nat)(hm:many<=8){x:Int}(h0:0<=x)(hx:x<2147483549){sz:Nat}(hz1:1<=sz)(hz:sz<=8):
  ∃y5 y6 y7 y8,qu (gN 5) eF ((List.range many).map λk:Nat=>D.int k) (stN cell many x sz [] none none none none)=.ok (.nx (stN cell many x sz (cB ((List.range many).map (nm x sz))) y5 y6 y7 y8)):=by
 have hh:=ym (body:=eF) (tg:=gN 5) (λk:Nat=>D.int k) (λdone δ=>∃y5 y6 y7 y8,δ=stN cell many x sz (cB (done.map (nm x sz))) y5 y6 y7 y8) (List.range many) (stN cell many x sz [] none none none none) (by
  rintro k done rest δ e ⟨y5,y6,y7,y8,rfl⟩
  have hk:k<many:=W2.mp (by rw[e];simp)
  have hd:done.length<=8:=by
   have:=Xd List.length e
   simp at this
   omega
  obtain⟨z7,z8,q⟩:=Wk cell many h0 hx hz1 hz (cB (done.map (nm x sz))) (k:=k) (by omega) y7 y8
  refine⟨_,rfl,?_⟩
  show nxP (eF (stN cell many x sz (cB (done.map (nm x sz))) (ss (.int k)) y6 y7 y8)) _
  unfold eF
  have e0:Str.ofString ""=ofL []:=by decide +kernel
  rw[aV (δ':=stN cell many x sz (cB (done.map (nm x sz))) (ss (.int k)) (ss (.str (ofL []))) y7 y8) (bF (d:=.str (ofL [])) (by show Out.ok (D.str (Str.ofString ""))=_;rw[e0]) rfl)]
  have rg:=vd (f:=gv 3) (δ:=stN cell many x sz (cB (done.map (nm x sz))) (ss (.int k)) (ss (.str (ofL []))) y7 y8) (n:=sz) rfl (by omega)
  rw[aV (δ':=stN cell many x sz (cB (done.map (nm x sz))) (ss (.int k)) (ss (.str (ofL (nm x sz k)))) z7 z8) (by unfold cM;rw[rg];exact q)]
  rw[zO (ds:=cB (done.map (nm x sz))) (d:=.str (ofL (nm x sz k))) (δ':=stN cell many x sz (cB ((done++[k]).map (nm x sz))) (ss (.int k)) (ss (.str (ofL (nm x sz k)))) z7 z8) rfl rfl (by unfold cB;rw[Wx,Wx];exact Xa hd (by decide)) (by
   have en:cB ((done++[k]).map (nm x sz))=cB (done.map (nm x sz))++[.str (ofL (nm x sz k))]:=by simp[cB]
   rw[en]
   rfl)]
  exact⟨_,_,_,_,rfl⟩) ⟨none,none,none,none,rfl⟩
 obtain⟨δ',e,y5,y6,y7,y8,rfl⟩:=hh
 exact⟨y5,y6,y7,y8,e⟩
theorem names_ok{x:Int}(h0:0<=x){sz many:Nat}(hz1:1<=sz)(hz:sz<=8)(h1:1<=many)(h2:many<=8):Names ((List.range many).map (nm x sz)):=by
 refine⟨λl hl=>?_,by simpa using h1,by simpa using h2,nodup_range λi j ij hj e=>?_⟩
 .obtain⟨k,_,rfl⟩:=Yd.mp hl
  refine⟨by simp[nm];omega,by simp[nm];omega,λc hc=>?_⟩
  obtain⟨j,_,rfl⟩:=Yd.mp hc
  unfold ch
  have n0:0<=num x sz k j % 26:=XD _ (by decide)
  have n1:num x sz k j % 26<26:=X4 _ (by decide)
  omega
 .obtain⟨a,ea,ha⟩:=cV (x / 8) (m:=sz) hz1
  have e1:=Xd (λl=>l[a]?) e
  simp only[nm,List.getElem?_map,List.getElem?_range ha,Option.map_some,Option.some.injEq] at e1
  unfold ch at e1
  have n0:0<=num x sz i a % 26:=XD _ (by decide)
  have n1:0<=num x sz j a % 26:=XD _ (by decide)
  have q:num x sz i a % 26=num x sz j a % 26:=by omega
  unfold num at q
  have t:((a:Int)==x / 8 % (sz:Int))=true:=by rw[ea];simp
  rw[t] at q
  simp only[if_true,Int.mul_one] at q
  generalize x / ((a:Int)+2)=y at q
  omega
theorem U9(cell:Int)(many:Nat)(h1:1<=many)(h2:many<=8):∃ns,mJ [.int cell,.int many]=.ok (.lst (cB ns))/\Names ns/\ns.length=many:=by
 have h0:=Up cell 900
 have hx:=mixI_lt cell 900
 have m:=oA cell 900 (by decide) (by decide)
 generalize wg cell 900=x at h0 hx m
 obtain⟨s,es,hs⟩:=cV x (m:=8) (by decide)
 simp only[Int.cast_ofNat_Int] at es
 obtain⟨y5,y6,y7,y8,e⟩:=Sw cell many h2 h0 hx (sz:=1+s) (by omega) (by omega)
 refine⟨_,?_,names_ok h0 (sz:=1+s) (by omega) (by omega) h1 h2,by simp⟩
 show ((jj [ss (.int cell),ss (.int many),none,none,none,none,none,none,none]).bind v9).bw=_
 unfold jj
 have cs:(1:Int)+(s:Int)=((1+s:Nat):Int):=by omega
 rw[aV (δ':=[ss (.int cell),ss (.int many),ss (.int x),none,none,none,none,none,none]) (bF (d:=.int x) (by walk_at "ev: m") rfl)]
 rw[aV (δ':=[ss (.int cell),ss (.int many),ss (.int x),ss (.int ((1+s:Nat):Int)),none,none,none,none,none]) (bF (d:=.int ((1+s:Nat):Int)) (by walk_at "ev: es cs") rfl)]
 rw[aV (δ':=stN cell many x (1+s) [] none none none none) (pH (d:=[]) (by unfold uI;walk_at "ev: s0") rfl)]
 have rg:=vd (f:=gv 1) (δ:=stN cell many x (1+s) [] none none none none) (n:=many) rfl (by omega)
 rw[aV (δ':=stN cell many x (1+s) (cB ((List.range many).map (nm x (1+s)))) y5 y6 y7 y8) (by unfold cM;rw[rg];exact e)]
 rfl
def dw(m n:Nat):Dr:=match m with
 | 0=>.must n
 | 1=>.may n
 | 2=>.shut
 | 3=>.may n
 | 4=>.must n
 | 5=>.shut
 | _=>.may n
theorem dw_ok(m n many:Nat)(h:n<many):(dw m n).ok many false:=by
 unfold dw
 split <;> first | exact h | exact trivial
theorem seven{m:Nat}(h:m<7):m=0∨m=1∨m=2∨m=3∨m=4∨m=5∨m=6:=by omega
def TQ:List D:=[.str "must",.str "may",.str "shut",.str "may",.str "must",.str "shut",.str "may"]
theorem dw_word(m n:Nat)(h:m<7):ixD (.lst TQ) (.int (m:Nat))=some (.str (dw m n).w):=by
 rcases seven h with rfl | rfl | rfl | rfl | rfl | rfl | rfl <;> rfl
theorem s7:(7:Nat)<=sizeLine:=by decide
def shutB:Dr->Bool
 | .shut=>true
 | _=>false
theorem shut_eq(m n:Nat):eqD (.str (dw m n).w) (.str "shut")=some (shutB (dw m n)):=by
 unfold dw
 split <;> first | exact q13 | exact q23 | exact q33
theorem pick_to(m n:Nat):ixD (.lst [.int (n:Nat),.non]) (.int (if shutB (dw m n)=true then 1 else 0))=some (dw m n).to:=by
 unfold dw
 split <;> rfl
def stV(ns:List Int)(many acts:Nat)(f:List (List Dr))(x4 x5 x6 x7 x8 x9:Option Sl):DSt:=[ss (.rol (ns.map .int)),ss (.int many),ss (.int acts),some (.ol (gW f)),x4,x5,x6,x7,x8,x9]
def dk(ns:List Int)(many acts i a:Nat):Dr :=
 let k:=i*acts+a
 let x:=wg (ns.getD (2+k) 0) (k:Int)
 dw (x % 7).toNat (x / 7 % (many:Int)).toNat
theorem Vl(ns:List Int){many acts:Nat}(hm1:1<=many)(hm:many<=60)(ha:acts<=8)(f:List (List Dr)){i a:Nat}(hi:i<60)(haa:a<8)(r:List Dr)(hr:r.length<=8)(x7 x8 x9:Option Sl):
  ∃y7 y8 y9,fQ (stV ns many acts f (ss (.int i)) (some (.ol (r.map Dr.d))) (ss (.int a)) x7 x8 x9)=.ok (.nx (stV ns many acts f (ss (.int i)) (some (.ol ((r++[dk ns many acts i a]).map Dr.d))) (ss (.int a)) y7 y8 y9)):=by
 have ck:(i:Int)*(acts:Int)+(a:Int)=((i*acts+a:Nat):Int):=by rw[Int.natCast_add,Int.natCast_mul]
 have mi:qi (i:Int) (acts:Int):=xU (by omega) (by omega)
 have kb:i*acts+a<=1000:=by
  have:i*acts<=60*8:=Zf (by omega) ha
  omega
 unfold dk
 generalize hk:i*acts+a=k at ck kb
 have c0:=Rp ns (2+k)
 have m0:=oA (ns.getD (2+k) 0) (k:Int) (by omega) (by omega)
 have x0:=Up (ns.getD (2+k) 0) (k:Int)
 simp only
 generalize wg (ns.getD (2+k) 0) (k:Int)=x at m0 x0
 obtain⟨m,em,hm7⟩:=cV x (m:=7) (by decide)
 obtain⟨n,en,hn⟩:=cV (x / 7) (m:=many) hm1
 simp only[Int.cast_ofNat_Int] at em
 have c2:(2:Int)+(k:Int)=((2+k:Nat):Int):=by omega
 have zm:(0:Int)<(many:Int):=by omega
 rw[em,en,Xv,Xv]
 refine⟨(ss (.int k)),ss (.int x),ss (.str (dw m n).w),?_⟩
 unfold fQ
 rw[aV (δ':=stV ns many acts f (ss (.int i)) (some (.ol (r.map Dr.d))) (ss (.int a)) (ss (.int k)) x8 x9) (bF (d:=.int k) (by rw[←ck];exact aW (aW (x:=.int i) (y:=.int acts) rfl rfl (pF mi)) (y:=.int a) rfl (lO _ _)) rfl)]
 rw[aV (δ':=stV ns many acts f (ss (.int i)) (some (.ol (r.map Dr.d))) (ss (.int a)) (ss (.int k)) (ss (.int x)) x9) (bF (d:=.int x) (gB (n:=2) (aG (gB (n:=2) (aG (d:=.rol (ns.map .int)) rfl (aG (d:=.int ((2+k:Nat):Int)) (by rw[←c2];exact aW (km _ _) (y:=.int k) rfl (lO _ _)) rfl)) rfl c0) (aG (d:=.int k) rfl rfl)) rfl m0) rfl)]
 rw[aV (δ':=stV ns many acts f (ss (.int i)) (some (.ol (r.map Dr.d))) (ss (.int a)) (ss (.int k)) (ss (.int x)) (ss (.str (dw m n).w))) (bF (d:=.str (dw m n).w) (aW (x:=.lst TQ) (y:=.int (m:Nat)) (by
   unfold fJ
   rw[aG (km _ _) (aG (km _ _) (aG (km _ _) (aG (km _ _) (aG (km _ _) (aG (km _ _) (aG (km _ _) rfl))))))]
   show (if 7<=sizeLine then Out.ok (D.lst TQ) else .stuck)=_
   rw[Wu s7]) (by rw[←em];exact aW (x:=.int x) rfl (km _ _) (lX (by decide))) (dw_word m n hm7)) rfl)]
 refine zO (ds:=r.map Dr.d) (d:=(dw m n).d) rfl ?_ (by rw[Wx];exact Xa hr (by decide)) (by rw[X6];rfl)
 exact vK (a:=.str (dw m n).w) rfl (aW (lst2 (a:=.int (n:Nat)) (by rw[←en];exact aW (aW (x:=.int x) rfl (km _ _) (kh ⟨by decide,by decide⟩)) (y:=.int many) rfl (lX zm)) (km _ _)) (gU (xP (fj (x:=.str (dw m n).w) rfl (km _ _) (shut_eq m n))) (uQ _)) (pick_to m n))
theorem row_made(ns:List Int){many acts:Nat}(hm1:1<=many)(hm:many<=60)(ha:acts<=8)(f:List (List Dr)){i:Nat}(hi:i<60)(x6 x7 x8 x9:Option Sl):
  ∃y6 y7 y8 y9,qu (gN 6) fQ ((List.range acts).map λa:Nat=>D.int a) (stV ns many acts f (ss (.int i)) (some (.ol (([]:List Dr).map Dr.d))) x6 x7 x8 x9)=.ok (.nx (stV ns many acts f (ss (.int i)) (some (.ol (((List.range acts).map (dk ns many acts i)).map Dr.d))) y6 y7 y8 y9)):=by
 have hh:=ym (body:=fQ) (tg:=gN 6) (λa:Nat=>D.int a) (λdone δ=>∃y6 y7 y8 y9,δ=stV ns many acts f (ss (.int i)) (some (.ol ((done.map (dk ns many acts i)).map Dr.d))) y6 y7 y8 y9) (List.range acts) (stV ns many acts f (ss (.int i)) (some (.ol (([]:List Dr).map Dr.d))) x6 x7 x8 x9) (by
  rintro a done rest δ e ⟨y6,y7,y8,y9,rfl⟩
  have haa:a<acts:=W2.mp (by rw[e];simp)
  have hd:done.length<=8:=by
   have:=Xd List.length e
   simp at this
   omega
  obtain⟨z7,z8,z9,q⟩:=Vl ns hm1 hm ha f hi (show a<8 by omega) (done.map (dk ns many acts i)) (by rw[Wx];exact hd) y7 y8 y9
  refine⟨_,rfl,?_⟩
  show nxP (fQ (stV ns many acts f (ss (.int i)) (some (.ol ((done.map (dk ns many acts i)).map Dr.d))) (ss (.int a)) y7 y8 y9)) _
  rw[q]
  exact⟨(ss (.int a)),z7,z8,z9,by rw[X6 (f:=dk ns many acts i)];rfl⟩) ⟨x6,x7,x8,x9,rfl⟩
 obtain⟨δ',e,y6,y7,y8,y9,rfl⟩:=hh
 exact⟨y6,y7,y8,y9,e⟩
def nY(ns:List Int)(many acts i:Nat):List Dr:=(List.range acts).map (dk ns many acts i)
theorem V6(ns:List Int){many acts:Nat}(hm1:1<=many)(hm:many<=60)(ha:acts<=8):
  ∃y4 y5 y6 y7 y8 y9,qu (gN 4) gR ((List.range many).map λi:Nat=>D.int i) (stV ns many acts [] none none none none none none)=.ok (.nx (stV ns many acts ((List.range many).map (nY ns many acts)) y4 y5 y6 y7 y8 y9)):=by
 have hh:=ym (body:=gR) (tg:=gN 4) (λi:Nat=>D.int i) (λdone δ=>∃y4 y5 y6 y7 y8 y9,δ=stV ns many acts (done.map (nY ns many acts)) y4 y5 y6 y7 y8 y9) (List.range many) (stV ns many acts [] none none none none none none) (by
  rintro i done rest δ e ⟨y4,y5,y6,y7,y8,y9,rfl⟩
  have hi:i<many:=W2.mp (by rw[e];simp)
  have hd:done.length<=60:=by
   have:=Xd List.length e
   simp at this
   omega
  obtain⟨z6,z7,z8,z9,q⟩:=row_made ns hm1 hm ha (done.map (nY ns many acts)) (show i<60 by omega) y6 y7 y8 y9
  refine⟨_,rfl,?_⟩
  show nxP (gR (stV ns many acts (done.map (nY ns many acts)) (ss (.int i)) y5 y6 y7 y8 y9)) _
  unfold gR
  rw[aV (δ':=stV ns many acts (done.map (nY ns many acts)) (ss (.int i)) (some (.ol (([]:List Dr).map Dr.d))) y6 y7 y8 y9) (pH (d:=[]) (by unfold uI;rw[show aD _=Out.ok [] from rfl];rfl) rfl)]
  have rg:=vd (f:=gv 2) (δ:=stV ns many acts (done.map (nY ns many acts)) (ss (.int i)) (some (.ol (([]:List Dr).map Dr.d))) y6 y7 y8 y9) (n:=acts) rfl (by omega)
  rw[aV (δ':=stV ns many acts (done.map (nY ns many acts)) (ss (.int i)) (some (.ol ((nY ns many acts i).map Dr.d))) z6 z7 z8 z9) (by unfold cM;rw[rg];exact q)]
  have fz:frzd 5 (um 3 (gv 5)) (stV ns many acts (done.map (nY ns many acts)) (ss (.int i)) (some (.ol ((nY ns many acts i).map Dr.d))) z6 z7 z8 z9)=.ok (.nx (stV ns many acts ((done++[i]).map (nY ns many acts)) (ss (.int i)) (ss (.lst ((nY ns many acts i).map Dr.d))) z6 z7 z8 z9)):=by
   show um 3 (gv 5) (stV ns many acts (done.map (nY ns many acts)) (ss (.int i)) (ss (.lst ((nY ns many acts i).map Dr.d))) z6 z7 z8 z9)=_
   refine zO (ds:=gW (done.map (nY ns many acts))) (d:=.lst ((nY ns many acts i).map Dr.d)) rfl rfl (by unfold gW;rw[Wx,Wx];exact Xa hd (by decide)) ?_
   have en:gW ((done++[i]).map (nY ns many acts))=gW (done.map (nY ns many acts))++[.lst ((nY ns many acts i).map Dr.d)]:=by simp[gW]
   unfold stV
   rw[en]
   rfl
  rw[fz]
  exact⟨_,_,_,_,_,_,rfl⟩) ⟨none,none,none,none,none,none,rfl⟩
 obtain⟨δ',e,y4,y5,y6,y7,y8,y9,rfl⟩:=hh
 exact⟨y4,y5,y6,y7,y8,y9,e⟩
theorem F_rows1(ns:List Int){many acts:Nat}(hm1:1<=many)(hm:many<=60)(ha:acts<=8):∃rows,uy [.rol (ns.map .int),.int many,.int acts]=.ok (aM rows)/\Rows many acts false rows:=by
 obtain⟨y4,y5,y6,y7,y8,y9,e⟩:=V6 ns hm1 hm ha
 refine⟨(List.range many).map (nY ns many acts),?_,by simp,λr hr=>?_⟩
 .show ((pA [ss (.rol (ns.map .int)),ss (.int many),ss (.int acts),none,none,none,none,none,none,none]).bind v9).bw=_
  unfold pA
  rw[aV (δ':=stV ns many acts [] none none none none none none) (pH (d:=[]) (by unfold uI;rw[show aD _=Out.ok [] from rfl];rfl) rfl)]
  have rg:=vd (f:=gv 1) (δ:=stV ns many acts [] none none none none none none) (n:=many) rfl (by omega)
  rw[aV (δ':=stV ns many acts ((List.range many).map (nY ns many acts)) y4 y5 y6 y7 y8 y9) (by unfold cM;rw[rg];exact e)]
  rfl
 .obtain⟨i,_,rfl⟩:=Yd.mp hr
  refine⟨by simp[nY],λx hx=>?_⟩
  obtain⟨a,_,rfl⟩:=Yd.mp hx
  unfold dk
  refine dw_ok _ _ _ ?_
  have z:=X4 (wg (ns.getD (2+(i*acts+a)) 0) ((i*acts+a:Nat):Int) / 7) (show (0:Int)<(many:Int) by omega)
  have z0:=XD (wg (ns.getD (2+(i*acts+a)) 0) ((i*acts+a:Nat):Int) / 7) (show (many:Int)≠0 by omega)
  omega
structure Kd(m k:Nat)(ks:List Nat):Prop where
 all:∀x∈ks,x<m
 has:∀i,i<k->i∈ks
 len:ks.length<=1+3*k
 pos:1<=ks.length
theorem sl_take{ks:List Nat}{a:Nat}:cutD (.lst (hL ks)) none (some (a:Int))=some (.lst (hL (ks.take a))):=by
 rw[Ja]
 unfold hL
 rw[O9]
theorem sl_drop{ks:List Nat}{a:Nat}:cutD (.lst (hL ks)) (some (a:Int)) none=some (.lst (hL (ks.drop a))):=by
 rw[Ja]
 unfold hL
 rw[O8]
theorem LC{f:DSt->Out D}{fl fh:DSt->Out (Option Int)}{δ:DSt}{x d:D}{lo hi:Option Int}(h1:f δ=.ok x)(h2:fl δ=.ok lo)(h3:fh δ=.ok hi)(e:cutD x lo hi=some d):oSl f fl fh δ=.ok d:=by
 unfold oSl
 rw[h1,Out.aQ,h2,Out.aQ,h3,Out.aQ,e]
 rfl
theorem Np{f:DSt->Out D}{δ:DSt}{i:Int}(h:f δ=.ok (.int i)):soI f δ=.ok (some i):=by
 unfold soI
 rw[h]
 rfl
def stK(m:Nat)(cell:Int)(ks:List Nat)(r:DSt):DSt:=(si m)::ss (.int cell)::ss (.lst (hL ks))::r
section
variable{m:Nat}{cell x:Int}
theorem ins_ok{ks:List Nat}(hl:1<=ks.length)(hl2:ks.length<=100){k j:Nat}(hj:j<=10)(u:Option Sl):
  ∃a u',jA (stK m cell ks [si k,ss (.int x),si j,u])=.ok (.nx (stK m cell (ks.take a++[k]++ks.drop a) [si k,ss (.int x),si j,u'])):=by
 obtain⟨a,ea,la⟩:=cV (x / (3+(j:Int))) (m:=ks.length) hl
 have s1:bD 6 (o2 bZ (kc (.int 1)) (o2 cX (o2 eV (gv 4) (o2 bZ (kc (.int 3)) (gv 5))) (o1 bN (gb 2)))) (stK m cell ks [si k,ss (.int x),si j,u])=.ok (.nx (stK m cell ks [si k,ss (.int x),si j,si (1+a)])):=by
  refine bF (d:=.int (1+a:Nat)) ?_ rfl
  rw[show ((1+a:Nat):Int)=1+x / (3+(j:Int)) % (ks.length:Int) by rw[ea];omega]
  exact iu rfl (gw (rD rfl (iu rfl rfl) ⟨by omega,by omega⟩) (gU (x:=.lst (hL ks)) rfl (by rw[dO,jq])) (by omega))
 refine⟨1+a,si (1+a),?_⟩
 unfold jA
 rw[aV s1]
 refine bF (d:=.lst (hL (ks.take (1+a)++[k]++ks.drop (1+a)))) ?_ rfl
 rw[show hL (ks.take (1+a)++[k]++ks.drop (1+a))=hL (ks.take (1+a))++[.int (k:Nat)]++hL (ks.drop (1+a)) by simp[hL]]
 exact Kz (Kz (LC rfl rfl (Np rfl) sl_take) (lst1 rfl) (by rw[jq];simp;omega)) (LC rfl (Np rfl) rfl sl_drop) (by simp[hL];omega)
theorem kinds_ok(cell:Int)(h1:1<=m)(h5:m<=5):∃ks,jc [.int (m:Nat),.int cell]=.ok (.lst (hL ks))/\Kd m m ks:=by
 have key:∀G B B2:DSt->Out Fl,G=cM (cY (gv 0)) (gN 3) B->B=jy->B2=jA->∃fl,G (stK m cell [0] [none,none,none,none])=.ok fl/\∃ks r,fl=.nx (stK m cell ks r)/\Kd m m ks:=by
  intro G B B2 hG hB hB2
  refine t8 ?_
  refine zM (k:=m) hG (by omega) rfl (λk δ=>∃ks a b c d,δ=stK m cell ks [a,b,c,d]/\Kd m k ks/\0∈ks) ⟨[0],_,_,_,_,rfl,⟨λx hx=>by simp at hx;omega,λi hi=>by omega,by simp,by simp⟩,by simp⟩ ?_ ?_
  .rintro k δ lk ⟨ks,a,b,c,d,rfl,K,z⟩
   show W (B (stK m cell ks [si k,b,c,d])) _
   have m0:=oA cell (300+(k:Int)) (by omega) (by omega)
   generalize wg cell (300+(k:Int))=x at m0
   have s1:bD 4 (oF 2 bu (aj (gv 1) (aj (o2 bZ (kc (.int 300)) (gv 3)) aD))) (stK m cell ks [si k,b,c,d])=.ok (.nx (stK m cell ks [si k,ss (.int x),c,d])):=bF (gB (aG rfl (aG (iu rfl rfl) rfl)) rfl m0) rfl
   obtain⟨r,er,lr⟩:=cV x (m:=3) (by decide)
   simp only[Int.cast_ofNat_Int] at er
   have nk:o2 bZ (o2 cX (gv 4) (kc (.int 3))) (o1 intD (bV (o2b gtD (gb 3) (kc (.int 0))))) (stK m cell ks [si k,ss (.int x),c,d])=.ok (.int (r+(if 0<k then 1 else 0):Nat)):=by
    have e:=iu (gw (fa:=gv 4) (fb:=kc (.int 3)) (δ:=stK m cell ks [si k,ss (.int x),c,d]) rfl rfl (by decide)) (int_ok (gt_ok (fa:=gb 3) (fb:=kc (.int 0)) (δ:=stK m cell ks [si k,ss (.int x),c,d]) rfl rfl))
    rw[er] at e
    rw[e]
    congr 2
    by_cases z:0<k
    .rw[Wu z,Ym (by omega)]
     simp
    .rw[WD z,Xk (by omega)]
     simp
   rw[hB]
   unfold jy
   rw[aV s1]
   have inner:∀G2:DSt->Out Fl,G2=cM (cY (o2 bZ (o2 cX (gv 4) (kc (.int 3))) (o1 intD (bV (o2b gtD (gb 3) (kc (.int 0))))))) (gN 5) B2->∃ks' c' d',G2 (stK m cell ks [si k,ss (.int x),c,d])=.ok (.nx (stK m cell ks' [si k,ss (.int x),c',d']))/\Kd m (k+1) ks'/\0∈ks':=by
    intro G2 hG2
    suffices w:W (G2 (stK m cell ks [si k,ss (.int x),c,d])) λfl=>∃ks' c' d',fl=.nx (stK m cell ks' [si k,ss (.int x),c',d'])/\Kd m (k+1) ks'/\0∈ks' by
     obtain⟨fl,e,ks',c',d',rfl,h⟩:=t8 w
     exact⟨ks',c',d',e,h⟩
    refine zM (k:=r+(if 0<k then 1 else 0)) hG2 (by split <;> omega) nk (λj δ=>∃ks' c' d',δ=stK m cell ks' [si k,ss (.int x),c',d']/\(∀x∈ks',x<m)/\(∀x∈ks,x∈ks')/\(0<j->k∈ks')/\ks'.length=ks.length+j) ⟨ks,_,_,rfl,K.all,λ_ h=>h,λh=>absurd h (Xw _),rfl⟩ ?_ ?_
    .rintro j δ lj ⟨ks',c',d',rfl,q1,q2,q3,q4⟩
     have kl:=K.len
     have kp:=K.pos
     have j4:j<4:=by
      split at lj <;> omega
     obtain⟨a,u',e⟩:=ins_ok (m:=m) (cell:=cell) (x:=x) (ks:=ks') (by omega) (by omega) (k:=k) (j:=j) (by omega) d'
     rw[hB2]
     refine qZ e ⟨_,_,_,rfl,λy hy=>?_,λy hy=>?_,λ_=>by simp,?_⟩
     .rw[Xu,W4,W4] at hy
      rcases hy with hy | hy | hy
      .exact q1 y (List.mem_of_mem_take hy)
      .simp at hy;omega
      .exact q1 y (List.mem_of_mem_drop hy)
     .have:=q2 y hy
      rw[←Yq a ks'] at this
      rw[Xu,W4,W4]
      rcases W4.mp this with h | h
      .exact .inl h
      .exact .inr (.inr h)
     .have:=Xd List.length (Yq a ks')
      rw[W0] at this
      rw[W0,W0,Xz]
      omega
    .rintro δ ⟨ks',c',d',rfl,q1,q2,q3,q4⟩
     have kl:=K.len
     have kp:=K.pos
     refine⟨ks',c',d',rfl,⟨q1,λi hi=>?_,by split at q4 <;> omega,by omega⟩,q2 0 z⟩
     by_cases e:i=k
     .subst e
      by_cases w:0<i
      .exact q3 (by rw[Wu w];omega)
      .have:i=0:=by omega
       subst this
       exact q2 0 z
     .exact q2 i (K.has i (by omega))
   obtain⟨ks',c',d',e,h⟩:=inner _ rfl
   rw[←hB2,e]
   exact⟨ks',_,_,_,_,rfl,h⟩
  .rintro δ ⟨ks,a,b,c,d,rfl,K,z⟩
   exact⟨ks,_,rfl,K⟩
 obtain⟨fl,e,ks,r,rfl,K⟩:∃fl,cM (cY (gv 0)) (gN 3) jy (stK m cell [0] [none,none,none,none])=.ok fl/\∃ks r,fl=.nx (stK m cell ks r)/\Kd m m ks:=key _ _ _ rfl rfl rfl
 refine⟨ks,?_,K⟩
 unfold jc
 show ((lW [si m,ss (.int cell),none,none,none,none,none]).bind v9).bw=_
 unfold lW
 have s0:bD 2 (fJ (aj (kc (.int 0)) aD)) [si m,ss (.int cell),none,none,none,none,none]=.ok (.nx (stK m cell [0] [none,none,none,none])):=bF (lst1 rfl) rfl
 rw[aV s0,aV e]
 rfl
end
abbrev od'(ds:List Dr):Option Sl:=some (.ol (ds.map Dr.d))
def hit(x:Dr)(ks:List Nat)(i:Nat):Bool:=match toN x with
 | some t=>ks.getD i 0==t
 | none=>false
def Dr.re(u:Nat):Dr->Dr
 | .must _=>.must u
 | .may _=>.may u
 | x=>x
theorem fm_hL(p:Nat->Bool):∀xs:List Nat,(xs.filterMap λi=>if p i=true then some (D.int (i:Nat)) else none)=hL (xs.filter p)
 | []=>rfl
 | x::xs=>by
  rw[YB,Yt]
  by_cases h:p x=true
  .rw[Wu h,Wu h,fm_hL p xs];rfl
  .rw[WD h,WD h,fm_hL p xs]
theorem eqD_in(i:Int):eqD (.int i) .non=some false:=by
 rw[xZ (by simp[eZ]) (by simp[eZ])]
 simp[eqB,toPy,PyData.eqv]
theorem eq_hit(x:Dr)(ks:List Nat)(i:Nat):eqD (.int (ks.getD i 0:Nat)) x.to=some (hit x ks i):=by
 unfold hit
 cases x with
 | must n =>
  show eqD (.int _) (.int _)=some (ks.getD i 0==n)
  rw[rF]
  congr 1
  rw[Bool.eq_iff_iff]
  simp
  omega
 | may n =>
  show eqD (.int _) (.int _)=some (ks.getD i 0==n)
  rw[rF]
  congr 1
  rw[Bool.eq_iff_iff]
  simp
  omega
 | shut=>exact eqD_in _
 | torn=>exact eqD_in _
theorem R7{w:List Nat}{k:Nat}(h:k<w.length):ixD (.lst (hL w)) (.int (k:Nat))=some (.int (w.getD k 0:Nat)):=Bp (by rw[Wq,Wo h];rfl)
def stB(rows:List (List Dr))(cell:Int)(ks:List Nat)(f:List (List Dr))(r:DSt):DSt:=(ss (aM rows))::ss (.int cell)::ss (.lst (hL ks))::some (.ol (gW f))::r
section
variable{m acts:Nat}{cell:Int}{rows:List (List Dr)}{ks:List Nat}{f:List (List Dr)}
theorem Vd(K:Kd m m ks)(hm:m<=5){i:Nat}(hi:i<ks.length){x:Dr}(hx:x.ok m false)(ds:List Dr)(hd:ds.length<=8)(u:Option Sl):
  ∃x' u' v',x'.ok ks.length false/\dg (stB rows cell ks f [si i,od' ds,ss (.str x.w),ss x.to,u])=.ok (.nx (stB rows cell ks f [si i,some (.ol ((ds++[x']).map Dr.d)),ss (.str x.w),v',u'])):=by
 have kl:=K.len
 have e1:bD 8 (su (fX [none,some 7,some 2] (cY (o1 bN (gb 2))) (gN 0) (o2b eqD (o2 ixD (gvo 2) (gv 0)) (gb 1)) nD)) (stB rows cell ks f [si i,od' ds,ss (.str x.w),ss x.to,u])=.ok (.nx (stB rows cell ks f [si i,od' ds,ss (.str x.w),ss x.to,ss (.lst (hL ((List.range ks.length).filter (hit x ks))))])):=by
  refine bF (Lr ?_) rfl
  have c:=comp_fm (cap:=[none,some 7,some 2]) (fi:=cY (o1 bN (gb 2))) (t:=o2b eqD (o2 ixD (gvo 2) (gv 0)) (gb 1)) (fe:=nD) (δ:=stB rows cell ks f [si i,od' ds,ss (.str x.w),ss x.to,u]) (λi:Nat=>D.int (i:Nat)) (λi=>if hit x ks i=true then some (D.int (i:Nat)) else none) (List.range ks.length) (vd (gU (x:=.lst (hL ks)) rfl (by rw[dO,jq])) (by omega)) (by rw[XM];omega) (λj hj=>by
   have hj:=W2.mp hj
   show (o2b eqD (o2 ixD (gvo 2) (gv 0)) (gb 1)) [si j,ss x.to,ss (.lst (hL ks))]=_/\_
   refine⟨(fj (aW rfl rfl (R7 hj)) rfl (eq_hit x ks j)).trans ?_,λy hy=>?_⟩
   .cases hit x ks j <;> rfl
   .split at hy
    .cases hy;rfl
    .cases hy)
  rw[c,fm_hL]
 have ne:∀v8:Option Sl,o2b neD (gb 6) (kc (.str "shut")) (stB rows cell ks f [si i,od' ds,ss (.str x.w),ss x.to,v8])=.ok (decide (wS x≠2)):=λv8=>fj (x:=.str x.w) rfl rfl (ne_w x .shut)
 have fin:∀(x':Dr)(v8:Option Sl),x'.w=x.w->um 5 (bL (aj (gv 6) (aj (gv 7) aD))) (stB rows cell ks f [si i,od' ds,ss (.str x.w),ss x'.to,v8])=.ok (.nx (stB rows cell ks f [si i,some (.ol ((ds++[x']).map Dr.d)),ss (.str x.w),ss x'.to,v8])):=λx' v8 hw=>by
  refine zO (ds:=ds.map Dr.d) (d:=x'.d) rfl (by unfold Dr.d;rw[hw];exact vK rfl rfl) (by rw[Wx];exact Xa hd (by decide)) ?_
  rw[X6]
  rfl
 have al:∀t,toN x=some t->t<m->wS x≠2->∃x' u' v',x'.ok ks.length false/\dg (stB rows cell ks f [si i,od' ds,ss (.str x.w),ss x.to,u])=.ok (.nx (stB rows cell ks f [si i,some (.ol ((ds++[x']).map Dr.d)),ss (.str x.w),v',u'])):=by
  intro t ht htm h2
  have mem:=K.has t htm
  obtain⟨j,hj,ej⟩:=List.getElem_of_mem mem
  have jm:j∈(List.range ks.length).filter (hit x ks):=Za.mpr ⟨W2.mpr hj,by
   unfold hit
   rw[ht]
   simp[List.getD_eq_getElem?_getD,List.getElem?_eq_getElem hj,ej]⟩
  have sp:∀z∈(List.range ks.length).filter (hit x ks),z<ks.length:=λz hz=>W2.mp (Za.mp hz).1
  generalize (List.range ks.length).filter (hit x ks)=S at e1 jm sp
  have sl:1<=S.length:=List.length_pos_of_mem jm
  have m0:=oA cell (400+9*(i:Int)+(ds.length:Int)) (by omega) (by omega)
  generalize wg cell (400+9*(i:Int)+(ds.length:Int))=y at m0
  obtain⟨r,er,lr⟩:=cV y (m:=S.length) sl
  have us:S.getD r 0<ks.length:=by
   refine sp _ ?_
   rw[Wq,Wo lr]
   exact Xy lr
  have tox:(x.re (S.getD r 0)).to=.int (S.getD r 0:Nat):=by
   cases x with
   | must n=>rfl
   | may n=>rfl
   | shut=>cases ht
   | torn=>cases ht
  have wx:(x.re (S.getD r 0)).w=x.w:=by cases x <;> rfl
  have e2:bD 7 (o2 ixD (gvo 8) (o2 cX (oF 2 bu (aj (gv 1) (aj (o2 bZ (o2 bZ (kc (.int 400)) (o2 ul (kc (.int 9)) (gv 4))) (o1 bN (gb 5))) aD))) (o1 bN (gb 8)))) (stB rows cell ks f [si i,od' ds,ss (.str x.w),ss x.to,ss (.lst (hL S))])=.ok (.nx (stB rows cell ks f [si i,od' ds,ss (.str x.w),ss (x.re (S.getD r 0)).to,ss (.lst (hL S))])):=by
   refine bF ?_ rfl
   rw[tox]
   refine aW (x:=.lst (hL S)) (y:=.int (r:Nat)) rfl ?_ (R7 lr)
   rw[←er]
   exact gw (gB (aG rfl (aG (iu (iu rfl (mul_ok rfl rfl (xU (by decide) (by decide)))) (gU (x:=.lst (ds.map Dr.d)) rfl (by rw[dO,Wx]))) rfl)) rfl m0) (gU (x:=.lst (hL S)) rfl (by rw[dO,jq])) (by omega)
  refine⟨x.re (S.getD r 0),ss (.lst (hL S)),ss (x.re (S.getD r 0)).to,?_,?_⟩
  .cases x with
   | must n=>exact us
   | may n=>exact us
   | shut=>cases ht
   | torn=>cases ht
  .unfold dg
   rw[aV e1]
   have e3:sIf (o2b neD (gb 6) (kc (.str "shut"))) (bD 7 (o2 ixD (gvo 8) (o2 cX (oF 2 bu (aj (gv 1) (aj (o2 bZ (o2 bZ (kc (.int 400)) (o2 ul (kc (.int 9)) (gv 4))) (o1 bN (gb 5))) aD))) (o1 bN (gb 8))))) iQ (stB rows cell ks f [si i,od' ds,ss (.str x.w),ss x.to,ss (.lst (hL S))])=.ok (.nx (stB rows cell ks f [si i,od' ds,ss (.str x.w),ss (x.re (S.getD r 0)).to,ss (.lst (hL S))])):=by
    rw[nG (ne _),Wu (by simp[h2])]
    exact e2
   rw[aV e3]
   exact fin _ _ wx
 cases x with
 | must t=>exact al t rfl hx (by simp[wS])
 | may t=>exact al t rfl hx (by simp[wS])
 | torn=>exact absurd hx (by simp[Dr.ok])
 | shut =>
  refine⟨.shut,ss (.lst (hL ((List.range ks.length).filter (hit .shut ks)))),ss Dr.shut.to,trivial,?_⟩
  unfold dg
  rw[aV e1]
  have e3:sIf (o2b neD (gb 6) (kc (.str "shut"))) (bD 7 (o2 ixD (gvo 8) (o2 cX (oF 2 bu (aj (gv 1) (aj (o2 bZ (o2 bZ (kc (.int 400)) (o2 ul (kc (.int 9)) (gv 4))) (o1 bN (gb 5))) aD))) (o1 bN (gb 8))))) iQ (stB rows cell ks f [si i,od' ds,ss (.str Dr.shut.w),ss Dr.shut.to,ss (.lst (hL ((List.range ks.length).filter (hit .shut ks))))])=.ok (.nx (stB rows cell ks f [si i,od' ds,ss (.str Dr.shut.w),ss Dr.shut.to,ss (.lst (hL ((List.range ks.length).filter (hit .shut ks))))])):=by
   rw[nG (ne _),WD (by simp[wS])]
  rw[aV e3]
  exact fin .shut _ rfl
theorem blow_row(R:Rows m acts false rows)(K:Kd m m ks)(hm:m<=5)(ha:acts<=8){i:Nat}(hi:i<ks.length)(hf:f.length<=100)(r0:DSt)(a b c d:Option Sl):
  ∃r' b' c' d' e',(r'.length=acts/\∀x∈r',x.ok ks.length false)/\gm (stB rows cell ks f [si i,a,b,c,d])=.ok (.nx (stB rows cell ks (f++[r']) [si i,b',c',d',e'])):=by
 have kp:ks.getD i 0<m:=by
  refine K.all _ ?_
  rw[Wq,Wo hi]
  exact Xy hi
 have lr:=cH R kp
 have ro:∀x∈rows.getD (ks.getD i 0) [],x.ok m false:=λx hx=>by
  have h1:ks.getD i 0<rows.length:=by rw[R.n];exact kp
  rw[Wq (l:=rows),Wo h1] at hx
  exact(R.row _ (Xy h1)).2 x hx
 have ix:=gK R kp
 generalize rows.getD (ks.getD i 0) []=row at lr ro ix
 have key:∀B:DSt->Out Fl,B=dg->∃fl,qu (gT 2 (cD (gN 6) (cD (gN 7) lG))) B (row.map Dr.d) (stB rows cell ks f [si i,some (.ol (([]:List Dr).map Dr.d)),b,c,d])=.ok fl/\∃(r':List Dr)(b' c' d':Option Sl),fl=.nx (stB rows cell ks f [si i,od' r',b',c',d'])/\r'.length=acts/\∀x∈r',x.ok ks.length false:=by
  intro B hB
  refine t8 ?_
  refine J8 Dr.d (λdone δ=>∃(r':List Dr)(b' c' d':Option Sl),δ=stB rows cell ks f [si i,od' r',b',c',d']/\r'.length=done.length/\∀x∈r',x.ok ks.length false) row ⟨[],b,c,d,rfl,rfl,by simp⟩ ?_ ?_
  .rintro x done rest δ hz ⟨r',b',c',d',rfl,l',o'⟩
   have dl:done.length<acts:=by
    have:=Xd List.length hz
    simp at this
    omega
   obtain⟨x',u',v',ox,e⟩:=Vd (rows:=rows) (cell:=cell) (f:=f) K hm hi (ro x (by rw[hz];simp)) r' (by omega) d'
   show W (B (stB rows cell ks f [si i,od' r',ss (.str x.w),ss x.to,d'])) _
   rw[←hB] at e
   refine qZ e ⟨_,_,_,_,rfl,by simp[l'],λy hy=>?_⟩
   rcases W4.mp hy with hy | hy
   .exact o' y hy
   .simp at hy;subst hy;exact ox
  .rintro δ ⟨r',b',c',d',rfl,l',o'⟩
   exact⟨r',b',c',d',rfl,by rw[l',lr],o'⟩
 obtain⟨fl,e,r',b',c',d',rfl,l',o'⟩:=key _ rfl
 refine⟨r',ss (.lst (r'.map Dr.d)),b',c',d',⟨l',o'⟩,?_⟩
 unfold gm
 have s1:gY 5 (uI aD) (stB rows cell ks f [si i,a,b,c,d])=.ok (.nx (stB rows cell ks f [si i,some (.ol (([]:List Dr).map Dr.d)),b,c,d])):=pH (d:=[]) rfl rfl
 have s2:cM (iR (o2 ixD (gvo 0) (o2 ixD (gvo 2) (gv 4)))) (gT 2 (cD (gN 6) (cD (gN 7) lG))) dg (stB rows cell ks f [si i,some (.ol (([]:List Dr).map Dr.d)),b,c,d])=.ok (.nx (stB rows cell ks f [si i,od' r',b',c',d'])):=by
  unfold cM iR
  rw[aW (δ:=stB rows cell ks f [si i,some (.ol (([]:List Dr).map Dr.d)),b,c,d]) (fa:=gvo 0) (fb:=o2 ixD (gvo 2) (gv 4)) rfl (aW rfl rfl (R7 hi)) ix]
  exact e
 rw[aV s1,aV s2]
 show um 3 (gv 5) (stB rows cell ks f [si i,ss (.lst (r'.map Dr.d)),b',c',d'])=_
 refine zO (ds:=gW f) (d:=.lst (r'.map Dr.d)) rfl rfl (by unfold gW;rw[Wx];exact Xa hf (by decide)) ?_
 unfold stB
 rw[show gW (f++[r'])=gW f++[.lst (r'.map Dr.d)] by simp[gW]]
 rfl
theorem blown_ok(R:Rows m acts false rows)(h1:1<=m)(hm:m<=5)(ha:acts<=8):∃n QJ,iZ [aM rows,.int cell]=.ok (aM QJ)/\Rows n acts false QJ/\1<=n/\n<=16:=by
 obtain⟨ks,ek,K⟩:=kinds_ok cell h1 hm
 have kl:=K.len
 have key:∀G B:DSt->Out Fl,G=cM (cY (o1 bN (gb 2))) (gN 4) B->B=gm->∃fl,G (stB rows cell ks [] [none,none,none,none,none])=.ok fl/\∃f r,fl=.nx (stB rows cell ks f r)/\f.length=ks.length/\∀r∈f,r.length=acts/\∀x∈r,x.ok ks.length false:=by
  intro G B hG hB
  refine t8 ?_
  refine zM (k:=ks.length) hG (by omega) (gU (x:=.lst (hL ks)) rfl (by rw[dO,jq])) (λk δ=>∃f a b c d e,δ=stB rows cell ks f [a,b,c,d,e]/\f.length=k/\∀r∈f,r.length=acts/\∀x∈r,x.ok ks.length false) ⟨[],_,_,_,_,_,rfl,rfl,by simp⟩ ?_ ?_
  .rintro k δ lk ⟨f,a,b,c,d,e,rfl,fl,fo⟩
   obtain⟨r',b',c',d',e',ro,er⟩:=blow_row (cell:=cell) (f:=f) R K hm ha lk (by omega) [] b c d e
   show W (B (stB rows cell ks f [si k,b,c,d,e])) _
   rw[←hB] at er
   refine qZ er ⟨_,_,_,_,_,_,rfl,by simp[fl],λr hr=>?_⟩
   rcases W4.mp hr with hr | hr
   .exact fo r hr
   .simp at hr;subst hr;exact ro
  .rintro δ ⟨f,a,b,c,d,e,rfl,fl,fo⟩
   exact⟨f,_,rfl,fl,fo⟩
 obtain⟨fl,e,f,r,rfl,fl,fo⟩:∃fl,cM (cY (o1 bN (gb 2))) (gN 4) gm (stB rows cell ks [] [none,none,none,none,none])=.ok fl/\∃f r,fl=.nx (stB rows cell ks f r)/\f.length=ks.length/\∀r∈f,r.length=acts/\∀x∈r,x.ok ks.length false:=key _ _ rfl rfl
 refine⟨ks.length,f,?_,⟨fl,fo⟩,K.pos,by omega⟩
 unfold iZ
 show ((lU [ss (aM rows),ss (.int cell),none,none,none,none,none,none,none]).bind v9).bw=_
 unfold lU
 have s1:bD 2 (oF 2 jc (aj (o1 bN (gb 0)) (aj (gv 1) aD))) [ss (aM rows),ss (.int cell),none,none,none,none,none,none,none]=.ok (.nx [ss (aM rows),ss (.int cell),ss (.lst (hL ks)),none,none,none,none,none,none]):=bF (gB (aG (gU (x:=aM rows) rfl (by unfold aM;rw[dO,Wx,R.n])) (aG rfl rfl)) rfl ek) rfl
 have s2:gY 3 (uI aD) [ss (aM rows),ss (.int cell),ss (.lst (hL ks)),none,none,none,none,none,none]=.ok (.nx (stB rows cell ks [] [none,none,none,none,none])):=pH (d:=[]) rfl rfl
 rw[aV s1,aV s2,aV e]
 rfl
def dw3(m n:Nat):Dr:=match m with
 | 0=>.must n
 | 1=>.may n
 | _=>.shut
def words3:List D:=[.str "must",.str "may",.str "shut"]
theorem three{m:Nat}(h:m<3):m=0∨m=1∨m=2:=by omega
theorem dw3_word(m n:Nat)(h:m<3):ixD (.lst words3) (.int (m:Nat))=some (.str (dw3 m n).w):=by
 rcases three h with rfl | rfl | rfl <;> rfl
theorem shut3(m n:Nat):eqD (.str (dw3 m n).w) (.str "shut")=some (shutB (dw3 m n)):=by
 unfold dw3
 split <;> first | exact q13 | exact q23 | exact q33
theorem pick3(m n:Nat):ixD (.lst [.int (n:Nat),.non]) (.int (if shutB (dw3 m n)=true then 1 else 0))=some (dw3 m n).to:=by
 unfold dw3
 split <;> rfl
theorem Wl(δ:DSt):fJ (aj (kc (.str "must")) (aj (kc (.str "may")) (aj (kc (.str "shut")) aD))) δ=.ok (.lst words3):=rfl
theorem RV{n:Nat}(R:Rows n acts false rows)(h1:1<=n)(hn:n<=100)(ha1:1<=acts)(ha:acts<=8):∃QJ,fZ [aM rows,.int cell]=.ok (aM QJ)/\Rows n acts false QJ:=by
 obtain⟨i,ei,li⟩:=cV cell (m:=n) h1
 obtain⟨a,ea,la⟩:=cV (cell / 64) (m:=acts) ha1
 obtain⟨m,em,lm⟩:=cV (cell / 512) (m:=3) (by decide)
 obtain⟨t,et,lt⟩:=cV (cell / 1536) (m:=n) h1
 simp only[Int.cast_ofNat_Int] at em
 have lr:=cH R li
 have ix:=gK R li
 have rn:=R.n
 have lenR:∀{δ:DSt},gb 0 δ=.ok (aM rows)->o1 bN (gb 0) δ=.ok (.int (n:Nat)):=λh=>gU h (by unfold aM;rw[dO,Wx,rn])
 refine⟨rows.take i++[(rows.getD i []).set a (dw3 m t)]++rows.drop (i+1),?_,?_,λr hr=>?_⟩
 .unfold fZ
  show ((jo [ss (aM rows),ss (.int cell),none,none,none,none]).bind v9).bw=_
  unfold jo
  have s1:bD 2 (o2 cX (gv 1) (o1 bN (gb 0))) [ss (aM rows),ss (.int cell),none,none,none,none]=.ok (.nx [ss (aM rows),ss (.int cell),si i,none,none,none]):=bF (by rw[←ei];exact gw rfl (lenR rfl) (by omega)) rfl
  have s2:bD 3 (o2 cX (o2 eV (gv 1) (kc (.int 64))) (o1 bN (o2 ixD (gvo 0) (gv 2)))) [ss (aM rows),ss (.int cell),si i,none,none,none]=.ok (.nx [ss (aM rows),ss (.int cell),si i,si a,none,none]):=bF (by rw[←ea];exact gw (rD rfl rfl (cd _ (by decide) (by decide))) (gU (aW rfl rfl ix) (by rw[dO,Wx,lr])) (by omega)) rfl
  have s3:bD 4 (o2 ixD (fJ (aj (kc (.str "must")) (aj (kc (.str "may")) (aj (kc (.str "shut")) aD)))) (o2 cX (o2 eV (gv 1) (kc (.int 512))) (kc (.int 3)))) [ss (aM rows),ss (.int cell),si i,si a,none,none]=.ok (.nx [ss (aM rows),ss (.int cell),si i,si a,ss (.str (dw3 m t).w),none]):=bF (aW (Wl _) (by rw[←em];exact gw (rD rfl rfl (cd _ (by decide) (by decide))) rfl (by decide)) (dw3_word m t lm)) rfl
  have s4:gY 5 (iR (o2 ixD (gvo 0) (gv 2))) [ss (aM rows),ss (.int cell),si i,si a,ss (.str (dw3 m t).w),none]=.ok (.nx [ss (aM rows),ss (.int cell),si i,si a,ss (.str (dw3 m t).w),some (.ol ((rows.getD i []).map Dr.d))]):=pH (by
   unfold iR
   rw[aW (δ:=[ss (aM rows),ss (.int cell),si i,si a,ss (.str (dw3 m t).w),none]) (fa:=gvo 0) (fb:=gv 2) rfl rfl ix]
   rfl) rfl
  have s5:sPut 5 (bL (aj (gv 4) (aj (o2 ixD (fJ (aj (o2 cX (o2 eV (gv 1) (kc (.int 1536))) (o1 bN (gb 0))) (aj (kc .non) aD))) (o1 intD (bV (o2b eqD (gb 4) (kc (.str "shut")))))) aD))) (gv 3) [ss (aM rows),ss (.int cell),si i,si a,ss (.str (dw3 m t).w),some (.ol ((rows.getD i []).map Dr.d))]=.ok (.nx [ss (aM rows),ss (.int cell),si i,si a,ss (.str (dw3 m t).w),some (.ol (((rows.getD i []).set a (dw3 m t)).map Dr.d))]):=by
   refine put_ok (d:=(dw3 m t).d) (vK (a:=.str (dw3 m t).w) rfl (aW (lst2 (a:=.int (t:Nat)) (by rw[←et];exact gw (rD rfl rfl (cd _ (by decide) (by decide))) (lenR rfl) (by omega)) rfl) (gU (xP (fj (x:=.str (dw3 m t).w) rfl rfl (shut3 m t))) (uQ _)) (pick3 m t))) rfl rfl (by rw[Wx];omega) ?_
   rw[Y7]
   rfl
  rw[aV s1,aV s2,aV s3,aV s4,aV s5]
  have i1:((i:Int)+1)=((i+1:Nat):Int):=by omega
  have tk:cutD (aM rows) none (some (i:Int))=some (.lst (gW (rows.take i))):=by unfold aM gW;rw[Ja,O9]
  have dp:cutD (aM rows) (some ((i+1:Nat):Int)) none=some (.lst (gW (rows.drop (i+1)))):=by unfold aM gW;rw[Ja,O8]
  have s6:cz (o2 bZ (o2 bZ (oSl (gv 0) noI (soI (gv 2))) (fJ (aj (gv 5) aD))) (oSl (gv 0) (soI (o2 bZ (gv 2) (kc (.int 1)))) noI)) [ss (aM rows),ss (.int cell),si i,si a,ss (.str (dw3 m t).w),ss (.lst (((rows.getD i []).set a (dw3 m t)).map Dr.d))]=.ok (.rt (aM (rows.take i++[(rows.getD i []).set a (dw3 m t)]++rows.drop (i+1)))):=by
   refine UT ?_
   rw[show aM (rows.take i++[(rows.getD i []).set a (dw3 m t)]++rows.drop (i+1))=.lst (gW (rows.take i)++[.lst (((rows.getD i []).set a (dw3 m t)).map Dr.d)]++gW (rows.drop (i+1))) by unfold aM gW;simp]
   exact Kz (Kz (LC rfl rfl (Np rfl) tk) (lst1 rfl) (by simp[gW];omega)) (LC rfl (Np (by rw[←i1];exact iu rfl rfl)) rfl dp) (by simp[gW];omega)
  show ((cz (o2 bZ (o2 bZ (oSl (gv 0) noI (soI (gv 2))) (fJ (aj (gv 5) aD))) (oSl (gv 0) (soI (o2 bZ (gv 2) (kc (.int 1)))) noI)) [ss (aM rows),ss (.int cell),si i,si a,ss (.str (dw3 m t).w),ss (.lst (((rows.getD i []).set a (dw3 m t)).map Dr.d))]).bind v9).bw=_
  rw[s6]
  rfl
 .simp
  omega
 .rw[Xu,W4,W4] at hr
  rcases hr with hr | hr | hr
  .exact R.row r (List.mem_of_mem_take hr)
  .simp only[List.mem_singleton] at hr
   subst hr
   refine⟨by rw[Xc,lr],λx hx=>?_⟩
   rcases Ye hx with hx | rfl
   .have h1:i<rows.length:=by omega
    rw[Wq,Wo h1] at hx
    exact(R.row _ (Xy h1)).2 x hx
   .rcases three lm with rfl | rfl | rfl
    .exact lt
    .exact lt
    .exact trivial
  .exact R.row r (List.mem_of_mem_drop hr)
end
def nst:List (List Dr)->Sl
 | []=>.ol []
 | r::f=>.oll ((r::f).map λr=>r.map Dr.d)
def stL(n acts:Nat)(cell:Int)(f:List (List Dr))(r:DSt):DSt:=(si n)::si acts::ss (.int cell)::some (nst f)::r
theorem Qx{α:Type}(x:α):∀n,(List.replicate n [x]).flatten=List.replicate n x
 | 0=>rfl
 | n+1=>by rw[Xm,Xm,XN,Qx x n];rfl
theorem rep_ok{fa fb:DSt->Out D}{δ:DSt}{x:D}{n:Nat}(h1:fa δ=.ok (.lst [x]))(h2:fb δ=.ok (.int (n:Nat)))(hn:n<=100):repL fa fb δ=.ok (List.replicate n x):=by
 unfold repL
 rw[h1,Out.aQ,h2,Out.aQ]
 show (if _ then _ else _)=_
 rw[Wu ⟨by omega,by omega,by rw[Xv,Xz,Nat.one_mul];exact W5 hn (by decide)⟩,Xv,Qx]
theorem appm_ok{f:List (List Dr)}{r:List Dr}{n acts:Nat}{cell:Int}{a:Option Sl}(hf:f.length<=100):sAppm 3 5 (stL n acts cell f [a,some (.ol (r.map Dr.d))])=.ok (.nx (stL n acts cell (f++[r]) [a,none])):=by
 cases f with
 | nil=>rfl
 | cons x f =>
  show (if _ then _ else _)=_
  rw[Wu ⟨by decide,by rw[Wx];exact Xa hf (by decide)⟩]
  show Out.ok (Fl.nx (si n::si acts::ss (.int cell)::some (Sl.oll (((x::f).map λr=>r.map Dr.d)++[r.map Dr.d]))::[a,none]))=_
  unfold stL nst
  simp
def yI(n acts:Nat)(cell:Int)(i:Nat):List Dr:=(List.replicate acts Dr.shut).set ((cell+(i:Int)) % (acts:Int)).toNat (.may (min (i+1) (n - 1)))
section
variable{n acts:Nat}{cell:Int}
theorem line_row(h2:2<=n)(hn:n<=12)(ha1:1<=acts)(ha:acts<=8){f:List (List Dr)}(hf:f.length<=100){i:Nat}(hi:i<n)(a:Option Sl):fP (stL n acts cell f [si i,a])=.ok (.nx (stL n acts cell (f++[yI n acts cell i]) [si i,none])):=by
 obtain⟨k,ek,lk⟩:=cV (cell+(i:Int)) (m:=acts) ha1
 have s1:gY 5 (repL (fJ (aj (bL (aj (kc (.str "shut")) (aj (kc .non) aD))) aD)) (gv 1)) (stL n acts cell f [si i,a])=.ok (.nx (stL n acts cell f [si i,some (.ol ((List.replicate acts Dr.shut).map Dr.d))])):=by
  refine pH (d:=(List.replicate acts Dr.shut).map Dr.d) ?_ rfl
  rw[List.map_replicate]
  exact rep_ok (lst1 (vK rfl rfl)) rfl (by omega)
 have mn:oC minD (aj (o2 bZ (gv 4) (kc (.int 1))) (aj (o2 xn (gv 0) (kc (.int 1))) aD)) (stL n acts cell f [si i,some (.ol ((List.replicate acts Dr.shut).map Dr.d))])=.ok (.int (min (i+1) (n - 1):Nat)):=by
  have em:(if (n:Int) - 1<(i:Int)+1 then (n:Int) - 1 else (i:Int)+1)=((min (i+1) (n - 1):Nat):Int):=by split <;> omega
  unfold oC
  rw[aG (δ:=stL n acts cell f [si i,some (.ol ((List.replicate acts Dr.shut).map Dr.d))]) (iu (fa:=gv 4) (fb:=kc (.int 1)) rfl rfl) (aG (Gj (fa:=gv 0) (fb:=kc (.int 1)) rfl rfl) rfl),Out.aQ,Fi]
  rw[em]
  rfl
 have s2:sPut 5 (bL (aj (kc (.str "may")) (aj (oC minD (aj (o2 bZ (gv 4) (kc (.int 1))) (aj (o2 xn (gv 0) (kc (.int 1))) aD))) aD))) (o2 cX (o2 bZ (gv 2) (gv 4)) (gv 1)) (stL n acts cell f [si i,some (.ol ((List.replicate acts Dr.shut).map Dr.d))])=.ok (.nx (stL n acts cell f [si i,some (.ol ((yI n acts cell i).map Dr.d))])):=by
  refine put_ok (d:=(Dr.may (min (i+1) (n - 1))).d) (k:=k) (vK rfl mn) rfl (by rw[←ek];exact gw (iu rfl rfl) rfl (by omega)) (by simp;exact lk) ?_
  unfold yI
  rw[ek,Xv,Y7]
  rfl
 unfold fP
 rw[aV s1,aV s2]
 exact appm_ok hf
theorem VG(h2:2<=n)(hn:n<=12)(ha1:1<=acts)(ha:acts<=8):∃r,cM (cY (gv 0)) (gN 4) fP (stL n acts cell [] [none,none])=.ok (.nx (stL n acts cell ((List.range n).map (yI n acts cell)) r)):=by
 have key:∀G B:DSt->Out Fl,G=cM (cY (gv 0)) (gN 4) B->B=fP->∃fl,G (stL n acts cell [] [none,none])=.ok fl/\∃r,fl=.nx (stL n acts cell ((List.range n).map (yI n acts cell)) r):=by
  intro G B hG hB
  refine t8 ?_
  refine zM (k:=n) hG (by omega) rfl (λk δ=>∃a b,δ=stL n acts cell ((List.range k).map (yI n acts cell)) [a,b]) ⟨_,_,rfl⟩ ?_ ?_
  .rintro k δ lk ⟨a,b,rfl⟩
   have e:=line_row (cell:=cell) h2 hn ha1 ha (f:=(List.range k).map (yI n acts cell)) (by simp;omega) lk b
   rw[←hB] at e
   refine qZ e ⟨(si k),none,?_⟩
   rw[List.range_succ,X6]
   rfl
  .rintro δ ⟨a,b,rfl⟩
   exact⟨_,rfl⟩
 obtain⟨fl,e,r,rfl⟩:∃fl,cM (cY (gv 0)) (gN 4) fP (stL n acts cell [] [none,none])=.ok fl/\∃r,fl=.nx (stL n acts cell ((List.range n).map (yI n acts cell)) r):=key _ _ rfl rfl
 exact⟨r,e⟩
def dwl(m:Nat):Dr:=match m with
 | 0=>.must 0
 | 1=>.may 0
 | _=>.must 0
def wordsl:List D:=[.str "must",.str "may",.str "must"]
theorem dwl_word(m:Nat)(h:m<3):ixD (.lst wordsl) (.int (m:Nat))=some (.str (dwl m).w):=by
 rcases three h with rfl | rfl | rfl <;> rfl
theorem dwl_d(m:Nat):(dwl m).d=.tup [.str (dwl m).w,.int 0]:=by
 unfold dwl
 split <;> rfl
theorem put2_ok{i:Nat}{fe fk fl:DSt->Out D}{δ δ':DSt}{dss:List (List D)}{d:D}{j l:Nat}(h1:fe δ=.ok d)(h2:δ[i]?=some (some (.oll dss)))(h3:fk δ=.ok (.int (j:Nat)))(hj:j<dss.length)(h4:fl δ=.ok (.int (l:Nat)))(hl:l<(dss.getD j []).length)(e:δ.set i (some (.oll (dss.set j ((dss.getD j []).set l d))))=δ'):FT i fe fk fl δ=.ok (.nx δ'):=by
 unfold FT
 rw[h1,Out.aQ,h2]
 simp only[h3,Out.aQ,yx hj,h4,yx hl]
 rw[e]
theorem line_ok(cell:Int)(h2:2<=n)(hn:n<=12)(ha1:1<=acts)(ha:acts<=8):∃rows,jY [.int (n:Nat),.int (acts:Nat),.int cell]=.ok (aM rows)/\Rows n acts false rows:=by
 obtain⟨r,e⟩:=VG (cell:=cell) h2 hn ha1 ha
 obtain⟨k,ek,lk⟩:=cV cell (m:=acts) ha1
 obtain⟨m,em,lm⟩:=cV (cell / 8) (m:=3) (by decide)
 simp only[Int.cast_ofNat_Int] at em
 have rl:∀i,(yI n acts cell i).length=acts:=λi=>by simp[yI]
 have ro:∀i,i<n->∀x∈yI n acts cell i,x.ok n false:=λi hi x hx=>by
  unfold yI at hx
  rcases Ye hx with hx | rfl
  .rw[List.eq_of_mem_replicate hx];trivial
  .show min (i+1) (n - 1)<n
   omega
 have R0:Rows n acts false ((List.range n).map (yI n acts cell)):=⟨by simp,λr hr=>by
  obtain⟨i,hi,rfl⟩:=Yd.mp hr
  exact⟨rl i,ro i (W2.mp hi)⟩⟩
 generalize (List.range n).map (yI n acts cell)=f at e R0
 have fl:=R0.n
 have lr:=cH R0 (p:=n - 1) (by omega)
 refine⟨f.set (n - 1) ((f.getD (n - 1) []).set k (dwl m)),?_,by simp[fl],λr hr=>?_⟩
 .unfold jY
  show ((ph [si n,si acts,ss (.int cell),none,none,none]).bind v9).bw=_
  unfold ph
  have s1:gY 3 (uI aD) [si n,si acts,ss (.int cell),none,none,none]=.ok (.nx (stL n acts cell [] [none,none])):=pH (d:=[]) rfl rfl
  rw[aV s1,aV e]
  have ns:nst f=.oll (f.map λr=>r.map Dr.d):=by
   cases f with
   | nil=>simp at fl;omega
   | cons _ _=>rfl
  have s2:FT 3 (bL (aj (o2 ixD (fJ (aj (kc (.str "must")) (aj (kc (.str "may")) (aj (kc (.str "must")) aD)))) (o2 cX (o2 eV (gv 2) (kc (.int 8))) (kc (.int 3)))) (aj (kc (.int 0)) aD))) (o2 xn (gv 0) (kc (.int 1))) (o2 cX (gv 2) (gv 1)) (stL n acts cell f r)=.ok (.nx (si n::si acts::ss (.int cell)::some (.oll ((f.set (n - 1) ((f.getD (n - 1) []).set k (dwl m))).map λr=>r.map Dr.d))::r)):=by
   have gd:(f.map λr=>r.map Dr.d).getD (n - 1) []=(f.getD (n - 1) []).map Dr.d:=by
    have h1:n - 1<f.length:=by omega
    rw[Wq,WL,Wq,Wo h1]
    rfl
   refine put2_ok (dss:=f.map λr=>r.map Dr.d) (d:=(dwl m).d) (j:=n - 1) (l:=k) ?_ (by unfold stL;rw[ns];rfl) ?_ (by rw[Wx];omega) (by rw[←ek];exact gw rfl rfl (by omega)) (by rw[gd,Wx,lr];exact lk) ?_
   .rw[dwl_d]
    exact vK (aW (x:=.lst wordsl) rfl (by rw[←em];exact gw (rD rfl rfl (cd _ (by decide) (by decide))) rfl (by decide)) (dwl_word m lm)) rfl
   .rw[show ((n - 1:Nat):Int)=(n:Int) - 1 by omega]
    exact Gj rfl rfl
   .rw[gd,Y7,←Y7]
    rfl
  rw[aV s2]
  show Out.ok (D.lst (((f.set (n - 1) ((f.getD (n - 1) []).set k (dwl m))).map λr=>r.map Dr.d).map D.lst))=_
  unfold aM
  rw[List.map_map]
  rfl
 .rcases Ye hr with hr | rfl
  .exact R0.row r hr
  .refine⟨by rw[Xc,lr],λx hx=>?_⟩
   rcases Ye hx with hx | rfl
   .have h1:n - 1<f.length:=by omega
    rw[Wq,Wo h1] at hx
    exact(R0.row _ (Xy h1)).2 x hx
   .rcases three lm with rfl | rfl | rfl <;> (show 0<n;omega)
end
theorem JP(r:List Dr)(h:r.length<=100):j6 [.tup (r.map Dr.ob)]=.ok (r.map Dr.d):=by
 unfold j6 uO runL sRetf
 have e:=oN (cap:=[none]) (fi:=iR (gv 0)) (fe:=pY) (δ:=[ss (.tup (r.map Dr.ob))]) Dr.ob Dr.d r rfl (by omega) (λx _=>by
  unfold pY
  exact M_told' x _ _ rfl)
 walk_at "ev: e endF"
section
variable{c many:Nat}{t:Bool}{ns:List (List Nat)}{rows:List (List Dr)}{δ:DSt}{fo:DSt->Out D}
theorem F_told_p(P:Pl c many t ns rows):iY [plan c ns rows]=.ok (rows.map λr=>r.map Dr.d):=by
 have hn:=P.R.n
 have h8:=P.N.hi
 have h60:=P.hi
 have f:(gC "rooms" [d7,fu] (gv 0)) [ss (plan c ns rows)]=.ok (yJ rows):=by
  unfold plan
  rcases P.c with rfl | rfl <;> walk_at "ev: d7 fu"
 have e:=oN (cap:=[none]) (fi:=iR (gC "rooms" [d7,fu] (gv 0))) (fe:=nA) (δ:=[ss (plan c ns rows)]) (λr:List Dr=>D.tup (r.map Dr.ob)) (λr=>r.map Dr.d) rows (by
   unfold iR;rw[f];rfl) (by omega) (λr hr=>by
  unfold nA
  have e:=JP r (by rw[(P.R.row r hr).1];omega)
  show oFl 1 j6 (aj (gv 0) aD) [ss (.tup (r.map Dr.ob))]=_
  walk_at "ev: e oFl")
 unfold iY rM runLL Tf
 walk_at "ev: e endFF"
theorem Dt(P:Pl c many t ns rows)(h:fo δ=.ok (plan c ns rows)):oM "told" 1 (tabDD nT) fo aD δ=.ok (aM rows):=by
 have e:=F_told_p P
 unfold plan at h e
 have m:∀l:List (List Dr),List.map D.lst (l.map λr=>r.map Dr.d)=l.map λr=>D.lst (r.map Dr.d):=λl=>by simp
 rcases P.c with rfl | rfl <;> · simp only[d7,fu] at h e;walk_at "ev: h tabDD dOff nT d7 fu e aM m"
end
theorem orTS_f{f g:DSt->Mem->Res Bool}{δ:DSt}{μ μ1:Mem}(h:f δ μ=.ok false μ1):orTS f g δ μ=g δ μ1:=by
 unfold orTS
 rw[h]
 rfl
theorem Lz{f:DSt->Mem->Res Bool}{δ:DSt}{μ μ1:Mem}{b:Bool}(h:f δ μ=.ok b μ1):notS f δ μ=.ok (!b) μ1:=by
 unfold notS
 rw[h]
 rfl
theorem notNT_ok{f:DSt->Mem->Res D}{δ:DSt}{μ μ1:Mem}{d:D}(h:f δ μ=.ok d μ1):Ql f δ μ=.ok (!iy d) μ1:=by
 unfold Ql
 rw[h]
 rfl
theorem forS_n{k y:Nat}{f:DSt->Out D}{B:DSt->Mem->Res Fl}{δ:DSt}{μ:Mem}(hk:k<=1000)(I:DSt->Prop)(h0:I δ)(hf:f δ=.ok (.int (k:Nat)))(hs:∀a δ μ,a<k->I δ->∃δ' μ',B (δ.set y (si a)) μ=.ok (.nx δ') μ'/\I δ'):∃δ' μ',yL (fO (cY f)) (gN y) B δ μ=.ok (.nx δ') μ'/\I δ':=by
 have w:WS (yL (fO (cY f)) (gN y) B δ μ) λfl _=>∃δ',fl=.nx δ'/\I δ':=by
  rw[RK,WS_fO,Ir]
  refine qZ hf ?_
  rw[rg_n (by omega)]
  refine T5 (γ:=Nat) _ (λ_ δ _=>I δ) (List.range k) h0 (λa done rest δ μ hz i=>?_) λδ μ i=>⟨δ,rfl,i⟩
  obtain⟨δ',μ',e,i'⟩:=hs a δ μ (W2.mp (by rw[hz];simp)) i
  show WS (B (δ.set y (si a)) μ) _
  rw[e]
  exact i'
 obtain⟨fl,μ',e,δ',rfl,i⟩:=zL w
 exact⟨δ',μ',e,i⟩
section
variable{n:Nat}{ns:List (List Nat)}{rows:List (List Dr)}{l:List (Nat×Nat×Nat)}{script:D}{x acts:D}{cell:Int}
def stZ(script x acts:D)(cell:Int)(rows:List (List Dr))(l:List (Nat×Nat×Nat))(ns:List (List Nat))(r:DSt):DSt:=(ss script)::ss x::ss (.int cell)::ss acts::ss (aM rows)::ss (.dT (fk l))::ss (plan fu ns rows)::r
theorem round_ok(P:Pl fu n false ns rows)(A:kW n ns.length rows l){k:Nat}(hk:k<4)(a b:Option Sl)(μ:Mem):∃a' b' μ',CZ (stZ script x acts cell rows l ns [si k,a,b]) μ=.ok (.nx (stZ script x acts cell rows l ns [si k,a',b'])) μ':=by
 have lo:=P.lo
 have lenR:∀{δ:DSt},gb 4 δ=.ok (aM rows)->o1 bN (gb 4) δ=.ok (.int (n:Nat)):=λh=>gU h (by unfold aM;rw[dO,Wx,P.R.n])
 have m1:=oA cell (801+(k:Int)) (by omega) (by omega)
 have m2:=oA cell (811+(k:Int)) (by omega) (by omega)
 generalize wg cell (801+(k:Int))=y1 at m1
 generalize wg cell (811+(k:Int))=y2 at m2
 obtain⟨p,ep,lp⟩:=cV y1 (m:=n) lo
 obtain⟨q,eq,lq⟩:=cV y2 (m:=n) lo
 obtain⟨μ1,r1⟩:=FP (μ:=μ) P A lp lq
 obtain⟨μ2,r2⟩:=FP (μ:=μ1) P A lq lp
 obtain⟨μ3,r3⟩:=FP (μ:=μ2) P A lp lq
 obtain⟨μ4,r4⟩:=self_ok (μ:=μ3) P lp
 refine⟨(si p),si q,μ4,?_⟩
 unfold CZ
 refine my (δ':=(stZ script x acts cell rows l ns [si k,si p,b])) (bz (bF (by rw[←ep];exact gw (gB (aG rfl (aG (iu rfl rfl) rfl)) rfl m1) (lenR rfl) (by omega)) rfl)) ?_
 refine my (δ':=(stZ script x acts cell rows l ns [si k,si p,si q])) (bz (bF (by rw[←eq];exact gw (gB (aG rfl (aG (iu rfl rfl) rfl)) rfl m2) (lenR rfl) (by omega)) rfl)) ?_
 have c1:notS (Cu (gj 5 cG (aH (fO (gv 6)) (aH (fO (gv 4)) (aH (fO (gv 8)) (aH (fO (gv 9)) (aH (fO (gv 5)) dW))))))) (stZ script x acts cell rows l ns [si k,si p,si q]) μ=.ok false μ1:=Lz (Dn (mW (bf (bz rfl) (bf (bz rfl) (bf (bz rfl) (bf (bz rfl) (bf (bz rfl) rfl))))) rfl r1) rfl)
 have c2:notS (Cu (gj 5 cG (aH (fO (gv 6)) (aH (fO (gv 4)) (aH (fO (gv 9)) (aH (fO (gv 8)) (aH (fO (gv 5)) dW))))))) (stZ script x acts cell rows l ns [si k,si p,si q]) μ1=.ok false μ2:=Lz (Dn (mW (bf (bz rfl) (bf (bz rfl) (bf (bz rfl) (bf (bz rfl) (bf (bz rfl) rfl))))) rfl r2) rfl)
 have c3:notS (Cu (gj 5 cG (aH (fO (gv 6)) (aH (fO (gv 4)) (aH (fO (gv 8)) (aH (fO (gv 9)) (aH (fO (gv 5)) dW))))))) (stZ script x acts cell rows l ns [si k,si p,si q]) μ2=.ok false μ3:=Lz (Dn (mW (bf (bz rfl) (bf (bz rfl) (bf (bz rfl) (bf (bz rfl) (bf (bz rfl) rfl))))) rfl r3) rfl)
 have c4:Ql (gj 3 iJ (aH (fO (gv 6)) (aH (fO (gv 8)) (aH (fO (gv 8)) dW)))) (stZ script x acts cell rows l ns [si k,si p,si q]) μ3=.ok false μ4:=notNT_ok (mW (bf (bz rfl) (bf (bz rfl) (bf (bz rfl) rfl))) rfl r4)
 rw[cJ (wD ((orTS_f c1).trans c2))]
 exact wD ((orTS_f c3).trans c4)
abbrev stY(ns:List Int)(x cell:Int)(a:Nat)(rows:List (List Dr)):DSt:=[ss (.rol (ns.map .int)),ss (.int x),ss (.int cell),si (1+a),ss (aM rows),none,none,none,none,none]
theorem Rt(ns:List Int)(hl:ns.length<=63):∃μ,F_law [] [.rol (ns.map .int)]=.ok (.bl true) μ:=by
 have c0:=Rp ns 0
 have c1:=Rp ns 1
 have m0:=oA (ns.getD 0 0) 0 (by decide) (by decide)
 generalize wg (ns.getD 0 0) 0=x at m0
 generalize ns.getD 0 0=z0 at c0 m0
 generalize ns.getD 1 0=cell at c1
 have m8:=oA cell 800 (by decide) (by decide)
 generalize wg cell 800=y8 at m8
 obtain⟨a,ea,la⟩:=cV (x / 5) (m:=3) (by decide)
 obtain⟨m,em,lm⟩:=cV x (m:=5) (by decide)
 obtain⟨v,ev,lv⟩:=cV (x / 240) (m:=11) (by decide)
 simp only[Int.cast_ofNat_Int] at ea em ev
 obtain⟨rows0,er,R0⟩:=F_rows1 ns (many:=1+m) (acts:=1+a) (by omega) (by omega) (by omega)
 have e1a:(1:Int)+(a:Int)=((1+a:Nat):Int):=by omega
 have e1m:(1:Int)+(m:Int)=((1+m:Nat):Int):=by omega
 have e2v:(2:Int)+(v:Int)=((2+v:Nat):Int):=by omega
 have mx8:∀r:DSt,oF 2 bu (aj (gv 2) (aj (kc (.int 800)) aD)) (ss (.rol (ns.map .int))::ss (.int x)::ss (.int cell)::r)=.ok (.int y8):=λr=>gB (aG rfl (aG rfl rfl)) rfl m8
 have s5:∃n1 FQ,(Rows n1 (1+a) false FQ/\1<=n1/\n1<=16)/\ifS (fO (o2b eqD (o2 cX (o2 eV (gv 1) (kc (.int 15))) (kc (.int 2))) (kc (.int 1)))) (fO (bD 4 (oF 2 fZ (aj (oF 2 iZ (aj (gv 4) (aj (gv 2) aD))) (aj (oF 2 bu (aj (gv 2) (aj (kc (.int 800)) aD))) aD))))) wY (stY ns x cell a rows0) []=.ok (.nx (stY ns x cell a FQ)) []:=by
  have t:o2b eqD (o2 cX (o2 eV (gv 1) (kc (.int 15))) (kc (.int 2))) (kc (.int 1)) (stY ns x cell a rows0)=.ok (x / 15 % 2==1):=eq_ok (gw (rD rfl rfl (cd _ (by decide) (by decide))) rfl (by decide)) rfl
  cases hb:(x / 15 % 2==1) with
  | false =>
   rw[hb] at t
   exact⟨1+m,rows0,⟨R0,by omega,by omega⟩,wD (bz t)⟩
  | true =>
   rw[hb] at t
   obtain⟨n1,FQ,eb,R1,l1,l2⟩:=blown_ok (cell:=cell) R0 (by omega) (by omega) (by omega)
   obtain⟨rows2,ec,R2⟩:=RV (cell:=y8) R1 l1 (by omega) (by omega) (by omega)
   exact⟨n1,rows2,⟨R2,l1,l2⟩,(PX (bz t)).trans (bz (bF (gB (aG (gB (aG rfl (aG rfl rfl)) rfl eb) (aG (mx8 _) rfl)) rfl ec) rfl))⟩
 obtain⟨n1,FQ,⟨R1,l1,l2⟩,s5⟩:=s5
 have s6:∃n rows,(Rows n (1+a) false rows/\1<=n/\n<=16)/\ifS (fO (o2b eqD (o2 cX (o2 eV (gv 1) (kc (.int 30))) (kc (.int 8))) (kc (.int 3)))) (fO (bD 4 (oF 3 jY (aj (o2 bZ (kc (.int 2)) (o2 cX (o2 eV (gv 1) (kc (.int 240))) (kc (.int 11)))) (aj (gv 3) (aj (oF 2 bu (aj (gv 2) (aj (kc (.int 800)) aD))) aD)))))) wY (stY ns x cell a FQ) []=.ok (.nx (stY ns x cell a rows)) []:=by
  have t:o2b eqD (o2 cX (o2 eV (gv 1) (kc (.int 30))) (kc (.int 8))) (kc (.int 3)) (stY ns x cell a FQ)=.ok (x / 30 % 8==3):=eq_ok (gw (rD rfl rfl (cd _ (by decide) (by decide))) rfl (by decide)) rfl
  cases hb:(x / 30 % 8==3) with
  | false =>
   rw[hb] at t
   exact⟨n1,FQ,⟨R1,l1,l2⟩,wD (bz t)⟩
  | true =>
   rw[hb] at t
   obtain⟨rows2,ec,R2⟩:=line_ok (n:=2+v) (acts:=1+a) y8 (by omega) (by omega) (by omega) (by omega)
   exact⟨2+v,rows2,⟨R2,by omega,by omega⟩,(PX (bz t)).trans (bz (bF (gB (aG (d:=.int (2+v:Nat)) (by rw[←e2v,←ev];exact iu rfl (gw (rD rfl rfl (cd _ (by decide) (by decide))) rfl (by decide))) (aG rfl (aG (mx8 _) rfl))) rfl ec) rfl))⟩
 obtain⟨n,rows,⟨R,k1,k2⟩,s6⟩:=s6
 obtain⟨l,ef,A⟩:=apart_ok R k2 (by omega)
 obtain⟨names,en,N,nl⟩:=U9 cell (1+a) (by omega) (by omega)
 rw[←nl] at R A
 have P:Pl fu n false names rows:=⟨.inr rfl,N,R,k1,by omega⟩
 have ip:JR [.lst (cB names),aM rows]=.ok [("actions",.tup (cB names)),("rooms",yJ rows)]:=F_init false n names rows N R k1 (by omega)
 have cp:su (fX [none] (iR (gv 4)) (gN 0) (λ_=>.ok true) Um) [ss (.rol (ns.map .int)),ss (.int x),ss (.int cell),si (1+a),ss (aM rows),ss (.dT (fk l)),none,none,none,none]=.ok (aM rows):=Lr (oN (cap:=[none]) (λr:List Dr=>D.lst (r.map Dr.d)) (λr=>D.lst (r.map Dr.d)) rows rfl (by rw[R.n];omega) (λr _=>rfl))
 obtain⟨δ',μ',s9,b1,b2,b3,rfl⟩:=forS_n (k:=4) (y:=7) (f:=kc (.int 4)) (B:=CZ) (δ:=stZ (.rol (ns.map .int)) (.int x) (.int (1+a:Nat)) cell rows l names [none,none,none]) (μ:=[]) (by decide) (λδ=>∃b1 b2 b3,δ=stZ (.rol (ns.map .int)) (.int x) (.int (1+a:Nat)) cell rows l names [b1,b2,b3]) ⟨_,_,_,rfl⟩ rfl (by
  rintro k δ μ hk ⟨b1,b2,b3,rfl⟩
  obtain⟨a',b',μ',e⟩:=round_ok (script:=.rol (ns.map .int)) (x:=.int x) (acts:=.int (1+a:Nat)) (cell:=cell) P A hk b2 b3 μ
  exact⟨_,μ',e,_,_,_,rfl⟩)
 refine⟨μ',?_⟩
 unfold F_law
 refine M3 ?_
 show g_law [ss (.rol (ns.map .int)),none,none,none,none,none,none,none,none,none] []=_
 unfold g_law
 refine my (δ':=[ss (.rol (ns.map .int)),ss (.int x),none,none,none,none,none,none,none,none]) (bz (bF (gB (aG (gB (aG rfl (aG (d:=.int (0:Nat)) rfl rfl)) rfl c0) (aG rfl rfl)) rfl m0) rfl)) ?_
 refine my (δ':=[ss (.rol (ns.map .int)),ss (.int x),ss (.int cell),none,none,none,none,none,none,none]) (bz (bF (gB (aG rfl (aG (d:=.int (1:Nat)) rfl rfl)) rfl c1) rfl)) ?_
 refine my (δ':=[ss (.rol (ns.map .int)),ss (.int x),ss (.int cell),si (1+a),none,none,none,none,none,none]) (bz (bF (by rw[←e1a,←ea];exact iu rfl (gw (rD rfl rfl (cd _ (by decide) (by decide))) rfl (by decide))) rfl)) ?_
 refine my (δ':=(stY ns x cell a rows0)) (bz (bF (gB (aG rfl (aG (d:=.int (1+m:Nat)) (by rw[←e1m,←em];exact iu rfl (gw rfl rfl (by decide))) (aG rfl rfl))) rfl er) rfl)) ?_
 rw[cJ s5,cJ s6]
 refine my (δ':=[ss (.rol (ns.map .int)),ss (.int x),ss (.int cell),si (1+a),ss (aM rows),ss (.dT (fk l)),none,none,none,none]) (bz (bF (gB (aG rfl rfl) rfl ef) rfl)) ?_
 refine my (δ':=(stZ (.rol (ns.map .int)) (.int x) (.int (1+a:Nat)) cell rows l names [none,none,none])) (bz (bF (mk_ok (aG (gB (aG rfl (aG rfl rfl)) rfl en) (aG cp rfl)) rfl ip) rfl)) ?_
 rw[cJ s9]
 exact MT (bz (xP (fj (Dt P rfl) rfl (eqD_refl (lay_rows rows)))))
end
def Q5(K:Frag):Sp:=λvs H Q _=>∃(a:Addr)(ns:List Int),vs=[.ref a]/\SqL K H a (ns.map V.int)/\ns.length<=63/\∀H',Q (.bl true) H'
theorem Qz{K:Frag}{Γ:Nat->Option Addr}{G:Hp}:∀ns:List Int,au K Γ G (ns.map V.int) (ns.map D.int)
 | []=>.nil
 | n::r=>.cons (.int n) (Qz r)
theorem law_sp{P:Program}{w:World}{K:Frag}{mg:Str->Option Value}{base:Heap}{t:Ad}{f:Addr}{fd:FuncData}(F:ODs P w K mg base (Ga0 t) J_law f fd):cP P w K mg base CX0 9 f fd ["_law_script"] (Q5 K):=F.imp λvs H Q E ⟨a,ns,e,hS,hl,k⟩=>by
 subst e
 obtain⟨μ,e⟩:=Rt ns hl
 refine V9 (ds:=[.rol (ns.map .int)]) rfl (.cons (.rol hS (Qz ns)) .nil) e λv L' G' H' r=>?_
 cases r
 exact k H'
set_option maxHeartbeats 8000000 in
theorem all_mk{l:PySem.W.OpenLaw}{w:World}{K:Frag}{h:Heap}{mg:Str->Option Value}{fa:Addr}(X:K.In h)(G:h.Ns mainGlobals mg)(hfa:mg "law"=some (.ref fa))
(gf:GetF K){za:Addr}(c_Door:zc K "Door" za){kY:Addr}(zQ:zc K "Must" kY){t7:Addr}(IW:zc K "May" t7){kZ:Addr}(DR:zc K "Shut" kZ){lg:Addr}(DX:zc K "Torn" lg){jT:Addr}(xR:zc K "Draft" jT){pK:Addr}(DQ:zc K "Plan" pK){jU:Addr}(Cw:zc K "Trail" jU)
(jN:bH K jT "actions")(dh:bH K jT "rooms")(jO:bH K t7 "to")(iC:bH K kY "to")(lB:bH K pK "actions")(dR:bH K pK "rooms")(iD:bH K kZ "to")(iG:bH K lg "to")(di:bH K jU "pairs")
(fK:bH K jU "places")(gA:bH K jU "steps")(z_all:nsIn K mainGlobals "all"=some none)(z_bool:nsIn K mainGlobals "bool"=some none)(Rk:nsIn K mainGlobals "enumerate"=some none)(z_int:nsIn K mainGlobals "int"=some none)(Oa:nsIn K mainGlobals "isinstance"=some none)
(z_len:nsIn K mainGlobals "len"=some none)(z_list:nsIn K mainGlobals "list"=some none)(z_min:nsIn K mainGlobals "min"=some none)(z_range:nsIn K mainGlobals "range"=some none)(z_set:nsIn K mainGlobals "set"=some none)(z_str:nsIn K mainGlobals "str"=some none)(z_tuple:nsIn K mainGlobals "tuple"=some none)
(z_zip:nsIn K mainGlobals "zip"=some none){iK:Addr}(k_Must:MkF K kY iK)(vM:FX K "__init__" "Door.__init__" vf iK)(k_May:MkF K t7 iK){Bg:Addr}(k_Shut:MkF K kZ Bg)(Bx:FX K "__init__" "Shut.__init__" vp Bg){Bj:Addr}(k_Torn:MkF K lg Bj)
(BJ:FX K "__init__" "Torn.__init__" vy Bj){rG:Addr}(k_Draft:MkF K jT rG)(tY:FX K "__init__" "Draft.__init__" sJ rG)(k_Plan:MkF K pK rG){qt:Addr}(k_Trail:MkF K jU qt)(qF:FX K "__init__" "Trail.__init__" jQ qt)
{Be:Addr}(Kf:findIn K (.ref kY) "word"=some (some (.ref Be)))(Bv:FX K "word" "Must.word" vm Be){Eh:Addr}(O1:findIn K (.ref t7) "word"=some (some (.ref Eh)))(GK:FX K "word" "May.word" xf Eh){Bh:Addr}
(Ko:findIn K (.ref kZ) "word"=some (some (.ref Bh)))(By:FX K "word" "Shut.word" vq Bh){Bl:Addr}(Kq:findIn K (.ref lg) "word"=some (some (.ref Bl)))(BK:FX K "word" "Torn.word" vz Bl){ye:Addr}
(at_Must_needs:findIn K (.ref kY) "needs"=some (some (.ref ye)))(N6:FX K "needs" "Must.needs" sW ye){Bd:Addr}(at_May_needs:findIn K (.ref t7) "needs"=some (some (.ref Bd)))(Ri:FX K "needs" "May.needs" vh Bd){yf:Addr}
(at_Shut_needs:findIn K (.ref kZ) "needs"=some (some (.ref yf)))(N7:FX K "needs" "Shut.needs" sX yf){yg:Addr}(at_Torn_needs:findIn K (.ref lg) "needs"=some (some (.ref yg)))(N8:FX K "needs" "Torn.needs" sY yg){wz:Addr}
(DK:findIn K (.ref kY) "allows"=some (some (.ref wz)))(wJ:FX K "allows" "Must.allows" pZ wz){yd:Addr}(Hf:findIn K (.ref t7) "allows"=some (some (.ref yd)))(yX:FX K "allows" "May.allows" sV yd){wA:Addr}
(DN:findIn K (.ref kZ) "allows"=some (some (.ref wA)))(wK:FX K "allows" "Shut.allows" p6 wA){wB:Addr}(DP:findIn K (.ref lg) "allows"=some (some (.ref wB)))(wL:FX K "allows" "Torn.allows" p7 wB){Ei:Addr}
(at_Must_led:findIn K (.ref kY) "led"=some (some (.ref Ei)))(TV:FX K "led" "Must.led" xg Ei){Jh:Addr}(at_May_led:findIn K (.ref t7) "led"=some (some (.ref Jh)))(Wm:FX K "led" "May.led" Ai Jh){Ej:Addr}(at_Shut_led:findIn K (.ref kZ) "led"=some (some (.ref Ej)))
(TY:FX K "led" "Shut.led" xj Ej){Ek:Addr}(at_Torn_led:findIn K (.ref lg) "led"=some (some (.ref Ek)))(T3:FX K "led" "Torn.led" xm Ek){j9:Addr}(Ke:findIn K (.ref kY) "told"=some (some (.ref j9)))(kO:FX K "told" "Door.told" vg j9)
(OJ:findIn K (.ref t7) "told"=some (some (.ref j9)))(Km:findIn K (.ref kZ) "told"=some (some (.ref j9)))(Kp:findIn K (.ref lg) "told"=some (some (.ref j9))){rH:Addr}(Hc:findIn K (.ref jT) "many"=some (some (.ref rH)))
(tZ:FX K "many" "Draft.many" sS rH)(Kh:findIn K (.ref pK) "many"=some (some (.ref rH))){rJ:Addr}(Hd:findIn K (.ref jT) "told"=some (some (.ref rJ)))(t6:FX K "told" "Draft.told" sU rJ)
(Kl:findIn K (.ref pK) "told"=some (some (.ref rJ))){yh:Addr}(Hg:findIn K (.ref jU) "come"=some (some (.ref yh)))(yZ:FX K "come" "Trail.come" sZ yh){Bm:Addr}(Kr:findIn K (.ref jU) "row"=some (some (.ref Bm)))
(BL:FX K "row" "Trail.row" vA Bm){yc:Addr}(Hb:findIn K (.ref jT) "lets_torn"=some (some (.ref yc)))(yW:FX K "lets_torn" "Draft.lets_torn" sO yc){Bf:Addr}(Kg:findIn K (.ref pK) "lets_torn"=some (some (.ref Bf)))
(Bw:FX K "lets_torn" "Plan.lets_torn" vo Bf)(inD:findIn K (.ref za) "__init__"=some (some (.ref iK)))(ca1:PySem.W.specialIn K (.ref za) "__getattribute__"=some (some (.builtin "type.__getattribute__")))(ca2:PySem.W.readsIn K za (.type "type")=true)
(ca3:PySem.W.findCls K (.ref za) (.type "type") "__init__"=some (.val (.ref iK))){Tv:Tok}(zP:nsIn K mainGlobals "LETTERS"=some (some (.str "abcdefghijklmnopqrstuvwxyz" Tv))){tk_MS:Tok}(rA:nsIn K mainGlobals "MOST_SIGNS"=some (some (.int 8 tk_MS))){tk_MA:Tok}
(mV:nsIn K mainGlobals "MOST_ACTIONS"=some (some (.int 8 tk_MA))){tk_MR:Tok}(rm:nsIn K mainGlobals "MOST_ROOMS"=some (some (.int 2000 tk_MR))){Vn:Addr}(Wb:TX K "door_of" Aj Vn){Vp:Addr}(Wd:TX K "is_name" Al Vp){zT:Addr}
(Aq:TX K "is_action_list" jR zT){Er:Addr}(Gv:TX K "need_actions" nQ Er){Vq:Addr}(We:TX K "is_room" Am Vq){Ep:Addr}(Gu:TX K "is_told_door" nP Ep){yj:Addr}
(NZ:TX K "need_rooms" tQ yj){Pz:Addr}(Ra:TX K "made_door" vD Pz){PB:Addr}(Rb:TX K "made_room" vG PB){PJ:Addr}(Rc:TX K "told_room" vH PJ){Vo:Addr}(Wc:TX K "head_of" Ak Vo){f_joined:Addr}
(t_joined:TX K "joined" Gb f_joined){Eo:Addr}(Gs:TX K "first_unlike" nO Eo){Vr:Addr}(Wf:TX K "parting" An Vr){Em:Addr}(Gq:TX K "_law_cell_at" nJ Em){K6:Addr}(NT:TX K "_law_whole" tO K6){K4:Addr}
(NP:TX K "_law_mixed" tL K4){El:Addr}(Gp:TX K "_law_actions" nH El){Py:Addr}(Q9:TX K "_law_rows" vC Py){K1:Addr}(NB:TX K "_law_kinds" tH K1){KY:Addr}(Ny:TX K "_law_blown" tE KY)
{K3:Addr}(NK:TX K "_law_leads" tK K3){KR:Addr}(Nx:TX K "_law_apart" tD KR){En:Addr}(Gr:TX K "_law_changed" nM En){Px:Addr}(Q8:TX K "_law_line" vB Px){KZ:Addr}
(Nz:TX K "_law_first" tG KZ){Hj:Addr}(Ih:TX K "_law_walked" p8 Hj){K5:Addr}(NQ:TX K "_law_right" tM K5){f_law:Addr}(t_law:TX K "law" s_law f_law)
:∃fd:FuncData,(∀(s:Shared)(v:Value),BindsTo s fd ⟨[v],[]⟩ [("_law_script",v)])/\∀base:Heap,K.In base->base.Ns mainGlobals mg->cP l.prog w K mg base CX0 9 fa fd ["_law_script"] (Q5 K):=by
 have e:=hfa.symm.trans (mg_of X G t_law.m)
 cases e
 let t:Ad:=⟨za,kY,t7,kZ,lg,jT,pK,jU⟩
 have T:Txt K mg t:=⟨mg_of X G c_Door.a,c_Door.i gf,mg_of X G zQ.a,zQ.i gf,mg_of X G IW.a,IW.i gf,mg_of X G DR.a,DR.i gf,mg_of X G DX.a,DX.i gf,mg_of X G xR.a,xR.i gf,mg_of X G DQ.a,DQ.i gf,mg_of X G Cw.a,Cw.i gf,jN,dh,jO,iC,lB,dR,iD,iG,di,fK,gA,XR X G z_all,XR X G z_bool,XR X G Rk,XR X G z_int,XR X G Oa,XR X G z_len,XR X G z_list,XR X G z_min,XR X G z_range,XR X G z_set,XR X G z_str,XR X G z_tuple,XR X G z_zip,(λL=>yw tt_bool trivial),(λL=>yw tt_int trivial),(λL=>yw tt_list trivial),(λL=>yw tt_str trivial),(λL=>yw tt_tuple trivial),⟨_,mg_of X G zP,⟨_,rfl⟩⟩,⟨_,mg_of X G mV,⟨_,rfl⟩⟩,⟨_,mg_of X G rm,⟨_,rfl⟩⟩,⟨_,mg_of X G rA,⟨_,rfl⟩⟩⟩
 obtain⟨fd_Door_init,oH⟩:=vM.ex
 obtain⟨fd_Shut_init,Ax⟩:=Bx.ex
 obtain⟨fd_Torn_init,Az⟩:=BJ.ex
 obtain⟨fd_Draft_init,lN⟩:=tY.ex
 obtain⟨Uh,qm⟩:=qF.ex
 obtain⟨fd_Must_word,Av⟩:=Bv.ex
 obtain⟨fd_May_word,Dv⟩:=GK.ex
 obtain⟨fd_Shut_word,Ay⟩:=By.ex
 obtain⟨fd_Torn_word,Ba⟩:=BK.ex
 obtain⟨fd_Must_needs,J5⟩:=N6.ex
 obtain⟨fd_May_needs,Ov⟩:=Ri.ex
 obtain⟨fd_Shut_needs,J6⟩:=N7.ex
 obtain⟨fd_Torn_needs,J7⟩:=N8.ex
 obtain⟨fd_Must_allows,wj⟩:=wJ.ex
 obtain⟨fd_May_allows,xM⟩:=yX.ex
 obtain⟨fd_Shut_allows,wu⟩:=wK.ex
 obtain⟨fd_Torn_allows,ww⟩:=wL.ex
 obtain⟨fd_Must_led,RD⟩:=TV.ex
 obtain⟨fd_May_led,Vc⟩:=Wm.ex
 obtain⟨fd_Shut_led,RG⟩:=TY.ex
 obtain⟨fd_Torn_led,RJ⟩:=T3.ex
 obtain⟨fd_Door_told,j7⟩:=kO.ex
 obtain⟨fd_Draft_many,qX⟩:=tZ.ex
 obtain⟨fd_Draft_told,qY⟩:=t6.ex
 obtain⟨fd_Trail_come,xN⟩:=yZ.ex
 obtain⟨fd_Trail_row,Bb⟩:=BL.ex
 obtain⟨fd_Draft_lets,xK⟩:=yW.ex
 obtain⟨fd_Plan_lets,Aw⟩:=Bw.ex
 obtain⟨fd,U_law⟩:=t_law.x.ex
 refine⟨fd,λs v=>?_,λbase _ _=>law_sp (t:=t) ?_⟩
 .obtain⟨oc,od,kV,doc,pm,an,cdv,ct,osl,e,_⟩:=U_law.ex
  subst e
  exact .of_eq rfl
 have oE:=LQ (P:=l.prog) (w:=w) (mg:=mg) (base:=base) oH
 have oJ:=bd2 (ps:=["self","to"]) oH
 have ca:Cv K t.Door "__init__" (.ref iK):=⟨ca1,ca2,ca3⟩
 have zF:IniA l.prog w K mg base t.Must 1 ["self","to"] (λL=>spI K (Ga t L) eU 1 uz):=⟨_,_,k_Must.k vM,λL=>ok_to (L:=L) (t:=t) oE rfl (zQ.i gf).cls iC,oJ⟩
 have Ip:IniA l.prog w K mg base t.May 1 ["self","to"] (λL=>spI K (Ga t L) j8 1 Il):=⟨_,_,k_May.k vM,λL=>ok_to (L:=L) (t:=t) oE rfl (IW.i gf).cls jO,oJ⟩
 have zG:IniA l.prog w K mg base t.Shut 2 ["self"] (λL=>spI K (Ga t L) d8 0 uA):=⟨_,_,k_Shut.k Bx,λL=>Mh (L:=L) (P:=l.prog) (w:=w) (base:=base) Ax T oE ca oH.kp oJ,bd1 Ax⟩
 have zH:IniA l.prog w K mg base t.Torn 2 ["self"] (λL=>spI K (Ga t L) d9 0 wM):=⟨_,_,k_Torn.k BJ,λL=>Mj (L:=L) (P:=l.prog) (w:=w) (base:=base) Az T oE ca oH.kp oJ,bd1 Az⟩
 have Oo:=λL:Plc=>Mf (L:=L) (P:=l.prog) (w:=w) (base:=base) (t:=t) Av T
 have RC:=λL:Plc=>Qn (L:=L) (P:=l.prog) (w:=w) (base:=base) (t:=t) Dv T
 have Oq:=λL:Plc=>Mi (L:=L) (P:=l.prog) (w:=w) (base:=base) (t:=t) Ay T
 have Ot:=λL:Plc=>Ml (L:=L) (P:=l.prog) (w:=w) (base:=base) (t:=t) Ba T
 have O_Must_needs:=λL:Plc=>Ho (L:=L) (P:=l.prog) (w:=w) (base:=base) (t:=t) J5 T
 have O_May_needs:=λL:Plc=>Ma (L:=L) (P:=l.prog) (w:=w) (base:=base) (t:=t) Ov T
 have O_Shut_needs:=λL:Plc=>Hr (L:=L) (P:=l.prog) (w:=w) (base:=base) (t:=t) J6 T
 have O_Torn_needs:=λL:Plc=>Hs (L:=L) (P:=l.prog) (w:=w) (base:=base) (t:=t) J7 T
 have G7:=λL:Plc=>Fq (L:=L) (P:=l.prog) (w:=w) (base:=base) (t:=t) wj T
 have J3:=λL:Plc=>Hn (L:=L) (P:=l.prog) (w:=w) (base:=base) (t:=t) xM T
 have G8:=λL:Plc=>Ft (L:=L) (P:=l.prog) (w:=w) (base:=base) (t:=t) wu T
 have G9:=λL:Plc=>Fv (L:=L) (P:=l.prog) (w:=w) (base:=base) (t:=t) ww T
 have O_Must_led:=λL:Plc=>Qo (L:=L) (P:=l.prog) (w:=w) (base:=base) (t:=t) RD T (zF.at L)
 have O_May_led:=λL:Plc=>SM (L:=L) (P:=l.prog) (w:=w) (base:=base) (t:=t) Vc T (Ip.at L)
 have O_Shut_led:=λL:Plc=>Qp (L:=L) (P:=l.prog) (w:=w) (base:=base) (t:=t) RG T (zG.at L)
 have O_Torn_led:=λL:Plc=>Qq (L:=L) (P:=l.prog) (w:=w) (base:=base) (t:=t) RJ T (zH.at L)
 have wO:∀L:Plc,mU l.prog w K mg base (Ga t L) "word" (spD K (Ga t L) 1) 1 gD:=λL=>⟨⟨kY,_,_,_,rfl,(zQ.i gf).cls,Bv.me Kf,(Oo L).mono (by decide),bd1 Av⟩,⟨t7,_,_,_,rfl,(IW.i gf).cls,GK.me O1,(RC L).mono (by decide),bd1 Dv⟩,⟨kZ,_,_,_,rfl,(DR.i gf).cls,By.me Ko,(Oq L).mono (by decide),bd1 Ay⟩,⟨lg,_,_,_,rfl,(DX.i gf).cls,BK.me Kq,(Ot L).mono (by decide),bd1 Ba⟩,trivial⟩
 have oG:=λL:Plc=>LR (L:=L) (P:=l.prog) (w:=w) (base:=base) (t:=t) j7 T (wO L)
 walk_at "d zg DA' zy SN U_door_of Wb bd3 zF.at Ip.at zH.at zG.at"
 walk_at "d zj DA' zA SX U_is_name Wd bd1 "
 walk_at "d jF DA' jH yH U_is_action_list Aq bd1 zj.at"
 walk_at "d iV DA' mR Ck U_need_actions Gv bd1 jF.at"
 walk_at "d zq DA' zB S7 U_is_room We bd2 "
 walk_at "d mH DA' mQ Cj U_is_told_door Gu bd3 zq.at"
 walk_at "d lH DA' qU HH U_need_rooms NZ bd3 mH.at"
 walk_at "d uv DA' uD Mr U_made_door Ra bd1 zg.at"
 walk_at "d nZ DA' uE Ms U_made_room Rb bd1 uv.at"
 have Dt:∀L:Plc,mU l.prog w K mg base (Ga t L) "told" (spD K (Ga t L) 1) 2 vJ:=λL=>⟨⟨kY,_,_,_,rfl,(zQ.i gf).cls,kO.me Ke,(oG L).mono (by decide),bd1 j7⟩,⟨t7,_,_,_,rfl,(IW.i gf).cls,kO.me OJ,(oG L).mono (by decide),bd1 j7⟩,⟨kZ,_,_,_,rfl,(DR.i gf).cls,kO.me Km,(oG L).mono (by decide),bd1 j7⟩,⟨lg,_,_,_,rfl,(DX.i gf).cls,kO.me Kp,(oG L).mono (by decide),bd1 j7⟩,trivial⟩
 walk_at "d ux DAf uF Mu U_told_room Rc bd1 Dt"
 have N_Draft:IniA l.prog w K mg base t.Draft 7 ["self","actions","rows"] (λL=>spI K (Ga t L) d7 2 I_Draft):=⟨_,_,k_Draft.k tY,λL=>wF (L:=L) (t:=t) lN T (iV.at L) (lH.at L) (nZ.at L) rfl (xR.i gf).cls jN dh (yW.me Hb) (Hk xK) (bd1 xK),bd3 lN⟩
 have RB:IniA l.prog w K mg base t.Plan 7 ["self","actions","rows"] (λL=>spI K (Ga t L) fu 2 JR):=⟨_,_,k_Plan.k tY,λL=>wF (L:=L) (t:=t) lN T (iV.at L) (lH.at L) (nZ.at L) rfl (DQ.i gf).cls lB dR (Bw.me Kg) (Mg Aw) (bd1 Aw),bd3 lN⟩
 have xG:=λL:Plc=>Hl (L:=L) (P:=l.prog) (w:=w) (base:=base) (t:=t) qX T
 have xH:=λL:Plc=>Hm (L:=L) (P:=l.prog) (w:=w) (base:=base) (t:=t) qY T (ux.at L)
 have zJ:=yG (P:=l.prog) (w:=w) (base:=base) (t:=t) qm T
 have J2:Ini l.prog w K mg base t.Trail 1 ["self","first"] (spS K (Ga0 t) 2 bY):=⟨_,_,k_Trail.k qF,zJ,bd2 qm⟩
 have J4:=Ht (P:=l.prog) (w:=w) (base:=base) (t:=t) xN T
 have Ou:=λL:Plc=>Mm (L:=L) (P:=l.prog) (w:=w) (base:=base) (t:=t) Bb T
 walk_at "e vO zz SQ U_head_of Wc bd2 "
 walk_at "e xx Dq VR U_joined t_joined bd3 vO"
 walk_at "d mG DA' mO Ci U_first_unlike Gs bd2 wO"
 have Rz:∀L:Plc,mU l.prog w K mg base (Ga t L) "many" (spD K (Ga t L) 1) 1 qD:=λL=>⟨⟨jT,_,_,_,rfl,(xR.i gf).cls,tZ.me Hc,(xG L).mono (by decide),bd1 qX⟩,⟨pK,_,_,_,rfl,(DQ.i gf).cls,tZ.me Kh,(xG L).mono (by decide),bd1 qX⟩,trivial⟩
 have Om:∀L:Plc,mU l.prog w K mg base (Ga t L) "row" (spF K (Ga t L) 2) 1 tW:=λL=>⟨⟨jU,_,_,_,rfl,(Cw.i gf).cls,BL.me Kr,(Ou L).mono (by decide),bd2 Bb⟩,trivial⟩
 have Ds:∀L:Plc,mU l.prog w K mg base (Ga t L) "allows" (spD K (Ga t L) 1) 1 iI:=λL=>⟨⟨kY,_,_,_,rfl,(zQ.i gf).cls,wJ.me DK,(G7 L).mono (by decide),bd1 wj⟩,⟨t7,_,_,_,rfl,(IW.i gf).cls,yX.me Hf,(J3 L).mono (by decide),bd1 xM⟩,⟨kZ,_,_,_,rfl,(DR.i gf).cls,wK.me DN,(G8 L).mono (by decide),bd1 wu⟩,⟨lg,_,_,_,rfl,(DX.i gf).cls,wL.me DP,(G9 L).mono (by decide),bd1 ww⟩,trivial⟩
 have Ry:Io l.prog w K mg base (Ga0 t) "come" (spS K (Ga0 t) 4) 1 Gw:=⟨⟨jU,_,_,_,rfl,(Cw.i gf).cls,yZ.me Hg,J4.mono (by decide),bd4 xN⟩,trivial⟩
 walk_at "e mC vR S8 U_parting Wf bd3 Rz xx J2 mG Om Ds Ry"
 walk_at "d cZ DA' jg Ce U__law_cell_at Gq bd2 "
 walk_at "d gF DA' lM HD U__law_whole NT bd1 "
 walk_at "d bj DA' eX Hz U__law_mixed NP bd2 "
 walk_at "d mD DA' mK Cd U__law_actions Gp bd2 bj.at"
 walk_at "d ut DA' uC Mq U__law_rows Q9 bd3 bj.at cZ.at"
 walk_at "d qJ DA' qQ Hx U__law_kinds NB bd2 bj.at"
 walk_at "d qH DA' qO Hv U__law_blown Ny bd2 qJ.at bj.at"
 walk_at "d qK DA' qR Hy U__law_leads NK bd5 "
 walk_at "d qG DA' qN Hu U__law_apart Nx bd1 qK.at"
 walk_at "d mF DA' mL Cg U__law_changed Gr bd2 "
 walk_at "d ur DA' uB Mp U__law_line Q8 bd3 "
 walk_at "d qI DA' qP Hw U__law_first Nz bd3 "
 walk_at "d pL DA' pP Fw U__law_walked Ih bd5 gF.at qI.at"
 walk_at "e iU qT HB U__law_right NQ bd5 mC gF pL"
 have Du:∀L:Plc,mU l.prog w K mg base (Ga t L) "told" (spFF K (Ga t L) 1) 4 nT:=λL=>⟨⟨jT,_,_,_,rfl,(xR.i gf).cls,t6.me Hd,(xH L).mono (by decide),bd1 qY⟩,⟨pK,_,_,_,rfl,(DQ.i gf).cls,t6.me Kl,(xH L).mono (by decide),bd1 qY⟩,trivial⟩
 exact ok_law U_law T bj cZ ut mF qH ur qG RB mD iU mC Du
theorem walk{l:PySem.W.OpenLaw}{q:Program}{loose:List Str}{XP:(Str->Option Value)->Heap->Prop}{YP:World->Heap->Prop}{d:DefRec}{K:Params->Frag}(hn:l.most=some 63)(hdf:d.params.defaults=[])
  (hY:∀(w:World)(h:Heap),YP w h->(K w.params).In h)
  (F:∀(w:World)(mg:Str->Option Value)(fa:Addr)(h:Heap),(K w.params).In h->h.Ns mainGlobals mg->mg d.name=some (.ref fa) ->
   ∃fd:FuncData,(∀(s:Shared)(u:Value),BindsTo s fd ⟨[u],[]⟩ [("_law_script",u)])/\∀base:Heap,(K w.params).In base->base.Ns mainGlobals mg->cP l.prog w (K w.params) mg base CX0 9 fa fd ["_law_script"] (Q5 (K w.params))) :
  PySem.W.WalkO q loose XP YP l.row.toRowW d [] (λf vs=>PySem.call f vs) :=
 L2.walk_of (n:=63) (k:=9) (x:="_law_script") (CX:=λ_=>CX0) (sp:=λw=>Q5 (K w.params)) hn (by decide) hdf ⟨rfl,by decide,by decide⟩ hY F (λ_ _ a ns hl _ hS=>⟨a,ns,rfl,hS,hl,λ_=>rfl⟩) λ_ _ _ _ _ z=>z
end K10
namespace K10
open PySem PySem.W L2
noncomputable abbrev pw:Program:=PySem.Challenge.pw_mustmay_k23_rooms_parted
noncomputable section
noncomputable abbrev hI(i:Int):Value:=.int i 0
noncomputable abbrev hS(x:Str)(t:Nat):Value:=.str x t
noncomputable abbrev hR(a:Addr):Value:=.ref a
noncomputable abbrev hE(P:Params)(x:Str)(t:Nat)(v:Value):DictEntry:=⟨PyData.keyHash P x,.str x t,v⟩
noncomputable abbrev hT(xs:List Value):Obj:=⟨.type "tuple",none,.seq (Array.mk xs) 0,Array.mk []⟩
noncomputable abbrev hN(xs:List Value):Obj:=⟨.none,none,.fields (Array.mk xs),Array.mk []⟩
noncomputable abbrev hK(xs:List Value):Obj:=⟨.type "code",none,.fields (Array.mk xs),Array.mk []⟩
noncomputable abbrev hDn(n:Nat)(es:List DictEntry):Obj:=⟨.type "dict",none,.dict (Array.mk es) n,Array.mk []⟩
noncomputable abbrev hC(n q:Str)(s:Stmt):Obj:=⟨.none,none,.func ⟨n,q,oO s,.stmts (eY s),aq s,0,[],.none,.none,.none,.none,none,.none,.none,0⟩,Array.mk []⟩
noncomputable abbrev hF(n q:Str)(s:Stmt)(pm cd:Value):Obj:=⟨.type "function",none,.func ⟨n,q,oO s,.stmts (eY s),aq s,3,[],.none,.none,.none,pm,none,cd,.none,0⟩,Array.mk []⟩
noncomputable abbrev nn(o:Obj)(a b:BT):BT:=.node o a b
noncomputable abbrev lf(o:Obj):BT:=.node o .nil .nil
noncomputable abbrev hQ(n q:Str)(t:Nat)(l a:Int)(r:Nat)(u v w:Value)(x:Nat):Obj:=hK [hS n t,hS q (t+1),hS "/claim/cut.py" (t+2),hI l,hI a,hI 0,hI 0,hI 3,hR r,.bool true,hI 181,hR (r+1),.none,u,v,w,hI x,hI l,hS "/claim/cut.py" (x+1)]
noncomputable abbrev hW(a b:Addr)(m:Value):Obj:=⟨.type "frame",none,.plain,Array.mk [some (hR a),some (hR 3),some (hR b),none,some m,none,some (hR 0)]⟩
noncomputable abbrev hG(n:Nat)(a:Addr):Obj:=⟨.type "getset_descriptor",none,.fields (Array.mk [hS "__dict__" n,hR a,.builtin "function.__dict__",.builtin "function.__dict__#set"]),Array.mk []⟩
noncomputable abbrev hV(n:Nat)(a:Addr):Obj:=⟨.type "getset_descriptor",none,.fields (Array.mk [hS "__weakref__" n,hR a,.builtin "ExceptionGroup.__weakref__",.none]),Array.mk []⟩
def ev2:Bool->List Obj->List Obj
 | _,[]=>[]
 | true,x::r=>x::ev2 false r
 | false,_::r=>ev2 true r
def bt:Nat->List Obj->BT
 | 0,_=>.nil
 | _,[]=>.nil
 | n+1,x::r=>.node x (bt n (ev2 true r)) (bt n (ev2 false r))
variable(P:Params)
def o0:=hK [hS "<module>" 182,hS "<module>" 183,hS "/claim/cut.py" 184,hI 1,hI 0,hI 0,hI 0,hI 0,hR 11,.bool false,hI 181,hR 12,.none,.none,.none,.none,hI 185,hI 1,hS "/claim/cut.py" 186]
def o1:=hW 13 3 (hS "__main__" 164)
def o2:=hDn 53 [hE P "__name__" 165 (hS "law_mustmay_k23_rooms_parted" 764),hE P "__doc__" 166 .none,hE P "__package__" 167 .none,hE P "__loader__" 168 (.builtin "__main__.__loader__#opaque"),hE P "__spec__" 169 .none,hE P "__annotations__" 170 (hR 6),hE P "__builtins__" 171 (hR 4),hE P "__file__" 173 (hS "/claim/cut.py" 172),hE P "__cached__" 174 .none,hE P "_wall" 193 (hR 21),hE P "Door" 231 (hR 45),hE P "Must" 276 (hR 87),hE P "May" 321 (hR 127),hE P "Shut" 373 (hR 174),hE P "Torn" 425 (hR 221),hE P "door_of" 434 (hR 230),hE P "HallError" 454 (hR 240),hE P "BadPlan" 481 (hR 260),hE P "LETTERS" 485 (hS "abcdefghijklmnopqrstuvwxyz" 484),hE P "MOST_SIGNS" 487 (.int (8) 486),hE P "MOST_ACTIONS" 489 (.int (8) 488),hE P "MOST_ROOMS" 491 (.int (2000) 490),hE P "is_name" 497 (hR 267),hE P "is_action_list" 503 (hR 272),hE P "need_actions" 510 (hR 279),hE P "is_room" 518 (hR 286),hE P "is_told_door" 528 (hR 293),hE P "need_rooms" 541 (hR 300),hE P "made_door" 549 (hR 307),hE P "made_room" 555 (hR 312),hE P "told_room" 561 (hR 317),hE P "Draft" 641 (hR 379),hE P "Plan" 664 (hR 400),hE P "Trail" 716 (hR 433),hE P "head_of" 724 (hR 444),hE P "joined" 735 (hR 451),hE P "first_unlike" 745 (hR 458),hE P "parting" 763 (hR 465),hE P "_law_cell_at" 773 (hR 472),hE P "_law_whole" 780 (hR 479),hE P "_law_mixed" 789 (hR 486),hE P "_law_actions" 804 (hR 493),hE P "_law_rows" 820 (hR 500),hE P "_law_kinds" 833 (hR 507),hE P "_law_blown" 839 (hR 512),hE P "_law_apart" 845 (hR 517),hE P "_law_leads" 858 (hR 524),hE P "_law_changed" 870 (hR 531),hE P "_law_line" 882 (hR 538),hE P "_law_first" 892 (hR 545),hE P "_law_walked" 907 (hR 552),hE P "_law_right" 920 (hR 559),hE P "law" 926 (hR 564)]
def o3:=hN [hI 1,hI 0,hR 20,hI 5,hI 0,hR 27,hI 12,hI 0,hR 55,hI 25,hI 0,hR 95,hI 38,hI 0,hR 135,hI 54,hI 0,hR 182,hI 70,hI 0,hR 229,hI 79,hI 0,hR 236,hI 81,hI 0,hR 249,hI 92,hI 0,hR 266,hI 96,hI 0,hR 271,hI 100,hI 0,hR 278,hI 103,hI 0,hR 285,hI 105,hI 0,hR 292,hI 114,hI 0,hR 299,hI 123,hI 0,hR 306,hI 126,hI 0,hR 311,hI 128,hI 0,hR 316,hI 130,hI 0,hR 323,hI 159,hI 0,hR 389,hI 164,hI 0,hR 408,hI 183,hI 0,hR 443,hI 188,hI 0,hR 450,hI 193,hI 0,hR 457,hI 198,hI 0,hR 464,hI 216,hI 0,hR 471,hI 220,hI 0,hR 478,hI 222,hI 0,hR 485,hI 226,hI 0,hR 492,hI 237,hI 0,hR 499,hI 248,hI 0,hR 506,hI 256,hI 0,hR 511,hI 268,hI 0,hR 516,hI 285,hI 0,hR 523,hI 290,hI 0,hR 530,hI 297,hI 0,hR 537,hI 305,hI 0,hR 544,hI 310,hI 0,hR 551,hI 325,hI 0,hR 558,hI 336,hI 0,hR 563]
def o4:=hT [hS "k" 190]
def o5:=hC "_wall" "_wall" (top 0)
def o6:=hQ "_wall" "_wall" 187 1 1 15 (hR 17) (hR 18) (hR 19) 191
def o7:=hF "_wall" "_wall" (top 0) (hS "__main__" 164) (hR 20)
def o8:Obj:=⟨(.type "builtin_function_or_method"),none,(.fields (Array.mk [.builtin "type.__prepare__",.type "type"])),Array.mk []⟩
def o9:=hDn 6 [hE P "__module__" 203 (hS "mustmay.doors" 194),hE P "__qualname__" 205 (hS "Door" 204),hE P "__firstlineno__" 207 (.int (5) 206),hE P "__init__" 215 (hR 35),hE P "told" 222 (hR 42),hE P "__static_attributes__" 224 (hR 43)]
def o10:=hN [hI 7,hI 4,hR 34,hI 10,hI 4,hR 41]
def o11:=hK [hS "Door" 198,hS "Door" 199,hS "/claim/cut.py" 200,hI 5,hI 0,hI 0,hI 0,hI 0,hR 25,.bool false,hI 181,hR 26,.none,.none,.none,.none,hI 201,hI 5,hS "/claim/cut.py" 202]
def o12:=hW 27 24 (hS "mustmay.doors" 194)
def o13:=hT [hS "self" 211,hS "to" 212]
def o14:=hC "__init__" "Door.__init__" (inClass (top 2) 0)
def o15:=hQ "__init__" "Door.__init__" 208 7 2 29 (hR 31) (hR 32) (hR 33) 213
def o16:=hF "__init__" "Door.__init__" (inClass (top 2) 0) (hS "mustmay.doors" 194) (hR 34)
def o17:=hT [hS "self" 219]
def o18:=hC "told" "Door.told" (inClass (top 2) 1)
def o19:=hQ "told" "Door.told" 216 10 1 36 (hR 38) (hR 39) (hR 40) 220
def o20:=hF "told" "Door.told" (inClass (top 2) 1) (hS "mustmay.doors" 194) (hR 41)
def o21:=hT [hS "to" 223]
def o22:=hDn 4 [hE P "__module__" 203 (hS "mustmay.doors" 194),hE P "__firstlineno__" 207 (.int (5) 206),hE P "__init__" 215 (hR 35),hE P "told" 222 (hR 42),hE P "__static_attributes__" 224 (hR 43),hE P "__dict__" 226 (hR 46),hE P "__weakref__" 228 (hR 47),hE P "__doc__" 229 .none]
def o23:Obj:=⟨(.type "type"),none,(.cls ⟨"Door",[.type "object"],[hR 45,.type "object"],44,"Door",true,[],[hR 87,hR 127,hR 174,hR 221],false,none,false⟩),Array.mk [none,none,some (hS "Door" 196),some (hS "Door" 204),some (.builtin "object.__new__"),some (.bool true)]⟩
def o24:=hG 225 45
def o25:=hV 227 45
def o26:Obj:=⟨(.type "super"),none,(.fields (Array.mk [hR 45,hR 45,hR 45])),Array.mk []⟩
def o27:Obj:=⟨(.type "builtin_function_or_method"),none,(.fields (Array.mk [.builtin "object.__init_subclass__",hR 45])),Array.mk []⟩
def o28:=hDn 8 [hE P "__module__" 239 (hS "mustmay.doors" 194),hE P "__qualname__" 241 (hS "Must" 240),hE P "__firstlineno__" 243 (.int (12) 242),hE P "word" 250 (hR 63),hE P "needs" 257 (hR 70),hE P "allows" 264 (hR 77),hE P "led" 272 (hR 84),hE P "__static_attributes__" 273 (hR 85)]
def o29:=hN [hI 14,hI 4,hR 62,hI 17,hI 4,hR 69,hI 20,hI 4,hR 76,hI 23,hI 4,hR 83]
def o30:=hK [hS "Must" 234,hS "Must" 235,hS "/claim/cut.py" 236,hI 12,hI 0,hI 0,hI 0,hI 0,hR 53,.bool false,hI 181,hR 54,.none,.none,.none,.none,hI 237,hI 12,hS "/claim/cut.py" 238]
def o31:=hW 55 52 (hS "mustmay.doors" 194)
def o32:=hT [hS "self" 247]
def o33:=hC "word" "Must.word" (inClass (top 3) 0)
def o34:=hQ "word" "Must.word" 244 14 1 57 (hR 59) (hR 60) (hR 61) 248
def o35:=hF "word" "Must.word" (inClass (top 3) 0) (hS "mustmay.doors" 194) (hR 62)
def o36:=hT [hS "self" 254]
def o37:=hC "needs" "Must.needs" (inClass (top 3) 1)
def o38:=hQ "needs" "Must.needs" 251 17 1 64 (hR 66) (hR 67) (hR 68) 255
def o39:=hF "needs" "Must.needs" (inClass (top 3) 1) (hS "mustmay.doors" 194) (hR 69)
def o40:=hT [hS "self" 261]
def o41:=hC "allows" "Must.allows" (inClass (top 3) 2)
def o42:=hQ "allows" "Must.allows" 258 20 1 71 (hR 73) (hR 74) (hR 75) 262
def o43:=hF "allows" "Must.allows" (inClass (top 3) 2) (hS "mustmay.doors" 194) (hR 76)
def o44:=hT [hS "self" 268,hS "to" 269]
def o45:=hC "led" "Must.led" (inClass (top 3) 3)
def o46:=hQ "led" "Must.led" 265 23 2 78 (hR 80) (hR 81) (hR 82) 270
def o47:=hF "led" "Must.led" (inClass (top 3) 3) (hS "mustmay.doors" 194) (hR 83)
def o48:=hDn 2 [hE P "__module__" 239 (hS "mustmay.doors" 194),hE P "__firstlineno__" 243 (.int (12) 242),hE P "word" 250 (hR 63),hE P "needs" 257 (hR 70),hE P "allows" 264 (hR 77),hE P "led" 272 (hR 84),hE P "__static_attributes__" 273 (hR 85),hE P "__doc__" 274 .none]
def o49:Obj:=⟨(.type "type"),none,(.cls ⟨"Must",[hR 45],[hR 87,hR 45,.type "object"],86,"Must",true,[],[],false,none,false⟩),Array.mk [some (hR 50),none,some (hS "Must" 232),some (hS "Must" 240),some (.builtin "object.__new__"),some (.bool true)]⟩
def o50:Obj:=⟨(.type "super"),none,(.fields (Array.mk [hR 87,hR 87,hR 87])),Array.mk []⟩
def o51:Obj:=⟨(.type "builtin_function_or_method"),none,(.fields (Array.mk [.builtin "object.__init_subclass__",hR 87])),Array.mk []⟩
def o52:=hDn 8 [hE P "__module__" 284 (hS "mustmay.doors" 194),hE P "__qualname__" 286 (hS "May" 285),hE P "__firstlineno__" 288 (.int (25) 287),hE P "word" 295 (hR 103),hE P "needs" 302 (hR 110),hE P "allows" 309 (hR 117),hE P "led" 317 (hR 124),hE P "__static_attributes__" 318 (hR 125)]
def o53:=hN [hI 27,hI 4,hR 102,hI 30,hI 4,hR 109,hI 33,hI 4,hR 116,hI 36,hI 4,hR 123]
def o54:=hK [hS "May" 279,hS "May" 280,hS "/claim/cut.py" 281,hI 25,hI 0,hI 0,hI 0,hI 0,hR 93,.bool false,hI 181,hR 94,.none,.none,.none,.none,hI 282,hI 25,hS "/claim/cut.py" 283]
def o55:=hW 95 92 (hS "mustmay.doors" 194)
def o56:=hT [hS "self" 292]
def o57:=hC "word" "May.word" (inClass (top 4) 0)
def o58:=hQ "word" "May.word" 289 27 1 97 (hR 99) (hR 100) (hR 101) 293
def o59:=hF "word" "May.word" (inClass (top 4) 0) (hS "mustmay.doors" 194) (hR 102)
def o60:=hT [hS "self" 299]
def o61:=hC "needs" "May.needs" (inClass (top 4) 1)
def o62:=hQ "needs" "May.needs" 296 30 1 104 (hR 106) (hR 107) (hR 108) 300
def o63:=hF "needs" "May.needs" (inClass (top 4) 1) (hS "mustmay.doors" 194) (hR 109)
def o64:=hT [hS "self" 306]
def o65:=hC "allows" "May.allows" (inClass (top 4) 2)
def o66:=hQ "allows" "May.allows" 303 33 1 111 (hR 113) (hR 114) (hR 115) 307
def o67:=hF "allows" "May.allows" (inClass (top 4) 2) (hS "mustmay.doors" 194) (hR 116)
def o68:=hT [hS "self" 313,hS "to" 314]
def o69:=hC "led" "May.led" (inClass (top 4) 3)
def o70:=hQ "led" "May.led" 310 36 2 118 (hR 120) (hR 121) (hR 122) 315
def o71:=hF "led" "May.led" (inClass (top 4) 3) (hS "mustmay.doors" 194) (hR 123)
def o72:=hDn 2 [hE P "__module__" 284 (hS "mustmay.doors" 194),hE P "__firstlineno__" 288 (.int (25) 287),hE P "word" 295 (hR 103),hE P "needs" 302 (hR 110),hE P "allows" 309 (hR 117),hE P "led" 317 (hR 124),hE P "__static_attributes__" 318 (hR 125),hE P "__doc__" 319 .none]
def o73:Obj:=⟨(.type "type"),none,(.cls ⟨"May",[hR 45],[hR 127,hR 45,.type "object"],126,"May",true,[],[],false,none,false⟩),Array.mk [some (hR 90),none,some (hS "May" 277),some (hS "May" 285),some (.builtin "object.__new__"),some (.bool true)]⟩
def o74:Obj:=⟨(.type "super"),none,(.fields (Array.mk [hR 127,hR 127,hR 127])),Array.mk []⟩
def o75:Obj:=⟨(.type "builtin_function_or_method"),none,(.fields (Array.mk [.builtin "object.__init_subclass__",hR 127])),Array.mk []⟩
def o76:=hDn 9 [hE P "__module__" 329 (hS "mustmay.doors" 194),hE P "__qualname__" 331 (hS "Shut" 330),hE P "__firstlineno__" 333 (.int (38) 332),hE P "__init__" 340 (hR 143),hE P "word" 347 (hR 150),hE P "needs" 354 (hR 157),hE P "allows" 361 (hR 164),hE P "led" 369 (hR 171),hE P "__static_attributes__" 370 (hR 172)]
def o77:=hN [hI 40,hI 4,hR 142,hI 43,hI 4,hR 149,hI 46,hI 4,hR 156,hI 49,hI 4,hR 163,hI 52,hI 4,hR 170]
def o78:=hK [hS "Shut" 324,hS "Shut" 325,hS "/claim/cut.py" 326,hI 38,hI 0,hI 0,hI 0,hI 0,hR 133,.bool false,hI 181,hR 134,.none,.none,.none,.none,hI 327,hI 38,hS "/claim/cut.py" 328]
def o79:=hW 135 132 (hS "mustmay.doors" 194)
def o80:=hT [hS "self" 337]
def o81:=hC "__init__" "Shut.__init__" (inClass (top 5) 0)
def o82:=hQ "__init__" "Shut.__init__" 334 40 1 137 (hR 139) (hR 140) (hR 141) 338
def o83:=hF "__init__" "Shut.__init__" (inClass (top 5) 0) (hS "mustmay.doors" 194) (hR 142)
def o84:=hT [hS "self" 344]
def o85:=hC "word" "Shut.word" (inClass (top 5) 1)
def o86:=hQ "word" "Shut.word" 341 43 1 144 (hR 146) (hR 147) (hR 148) 345
def o87:=hF "word" "Shut.word" (inClass (top 5) 1) (hS "mustmay.doors" 194) (hR 149)
def o88:=hT [hS "self" 351]
def o89:=hC "needs" "Shut.needs" (inClass (top 5) 2)
def o90:=hQ "needs" "Shut.needs" 348 46 1 151 (hR 153) (hR 154) (hR 155) 352
def o91:=hF "needs" "Shut.needs" (inClass (top 5) 2) (hS "mustmay.doors" 194) (hR 156)
def o92:=hT [hS "self" 358]
def o93:=hC "allows" "Shut.allows" (inClass (top 5) 3)
def o94:=hQ "allows" "Shut.allows" 355 49 1 158 (hR 160) (hR 161) (hR 162) 359
def o95:=hF "allows" "Shut.allows" (inClass (top 5) 3) (hS "mustmay.doors" 194) (hR 163)
def o96:=hT [hS "self" 365,hS "to" 366]
def o97:=hC "led" "Shut.led" (inClass (top 5) 4)
def o98:=hQ "led" "Shut.led" 362 52 2 165 (hR 167) (hR 168) (hR 169) 367
def o99:=hF "led" "Shut.led" (inClass (top 5) 4) (hS "mustmay.doors" 194) (hR 170)
def o100:=hDn 2 [hE P "__module__" 329 (hS "mustmay.doors" 194),hE P "__firstlineno__" 333 (.int (38) 332),hE P "__init__" 340 (hR 143),hE P "word" 347 (hR 150),hE P "needs" 354 (hR 157),hE P "allows" 361 (hR 164),hE P "led" 369 (hR 171),hE P "__static_attributes__" 370 (hR 172),hE P "__doc__" 371 .none]
def o101:Obj:=⟨(.type "type"),none,(.cls ⟨"Shut",[hR 45],[hR 174,hR 45,.type "object"],173,"Shut",true,[],[],false,none,false⟩),Array.mk [some (hR 130),none,some (hS "Shut" 322),some (hS "Shut" 330),some (.builtin "object.__new__"),some (.bool true)]⟩
def o102:Obj:=⟨(.type "super"),none,(.fields (Array.mk [hR 174,hR 174,hR 174])),Array.mk []⟩
def o103:Obj:=⟨(.type "builtin_function_or_method"),none,(.fields (Array.mk [.builtin "object.__init_subclass__",hR 174])),Array.mk []⟩
def o104:=hDn 9 [hE P "__module__" 381 (hS "mustmay.doors" 194),hE P "__qualname__" 383 (hS "Torn" 382),hE P "__firstlineno__" 385 (.int (54) 384),hE P "__init__" 392 (hR 190),hE P "word" 399 (hR 197),hE P "needs" 406 (hR 204),hE P "allows" 413 (hR 211),hE P "led" 421 (hR 218),hE P "__static_attributes__" 422 (hR 219)]
def o105:=hN [hI 56,hI 4,hR 189,hI 59,hI 4,hR 196,hI 62,hI 4,hR 203,hI 65,hI 4,hR 210,hI 68,hI 4,hR 217]
def o106:=hK [hS "Torn" 376,hS "Torn" 377,hS "/claim/cut.py" 378,hI 54,hI 0,hI 0,hI 0,hI 0,hR 180,.bool false,hI 181,hR 181,.none,.none,.none,.none,hI 379,hI 54,hS "/claim/cut.py" 380]
def o107:=hW 182 179 (hS "mustmay.doors" 194)
def o108:=hT [hS "self" 389]
def o109:=hC "__init__" "Torn.__init__" (inClass (top 6) 0)
def o110:=hQ "__init__" "Torn.__init__" 386 56 1 184 (hR 186) (hR 187) (hR 188) 390
def o111:=hF "__init__" "Torn.__init__" (inClass (top 6) 0) (hS "mustmay.doors" 194) (hR 189)
def o112:=hT [hS "self" 396]
def o113:=hC "word" "Torn.word" (inClass (top 6) 1)
def o114:=hQ "word" "Torn.word" 393 59 1 191 (hR 193) (hR 194) (hR 195) 397
def o115:=hF "word" "Torn.word" (inClass (top 6) 1) (hS "mustmay.doors" 194) (hR 196)
def o116:=hT [hS "self" 403]
def o117:=hC "needs" "Torn.needs" (inClass (top 6) 2)
def o118:=hQ "needs" "Torn.needs" 400 62 1 198 (hR 200) (hR 201) (hR 202) 404
def o119:=hF "needs" "Torn.needs" (inClass (top 6) 2) (hS "mustmay.doors" 194) (hR 203)
def o120:=hT [hS "self" 410]
def o121:=hC "allows" "Torn.allows" (inClass (top 6) 3)
def o122:=hQ "allows" "Torn.allows" 407 65 1 205 (hR 207) (hR 208) (hR 209) 411
def o123:=hF "allows" "Torn.allows" (inClass (top 6) 3) (hS "mustmay.doors" 194) (hR 210)
def o124:=hT [hS "self" 417,hS "to" 418]
def o125:=hC "led" "Torn.led" (inClass (top 6) 4)
def o126:=hQ "led" "Torn.led" 414 68 2 212 (hR 214) (hR 215) (hR 216) 419
def o127:=hF "led" "Torn.led" (inClass (top 6) 4) (hS "mustmay.doors" 194) (hR 217)
def o128:=hDn 2 [hE P "__module__" 381 (hS "mustmay.doors" 194),hE P "__firstlineno__" 385 (.int (54) 384),hE P "__init__" 392 (hR 190),hE P "word" 399 (hR 197),hE P "needs" 406 (hR 204),hE P "allows" 413 (hR 211),hE P "led" 421 (hR 218),hE P "__static_attributes__" 422 (hR 219),hE P "__doc__" 423 .none]
def o129:Obj:=⟨(.type "type"),none,(.cls ⟨"Torn",[hR 45],[hR 221,hR 45,.type "object"],220,"Torn",true,[],[],false,none,false⟩),Array.mk [some (hR 177),none,some (hS "Torn" 374),some (hS "Torn" 382),some (.builtin "object.__new__"),some (.bool true)]⟩
def o130:Obj:=⟨(.type "super"),none,(.fields (Array.mk [hR 221,hR 221,hR 221])),Array.mk []⟩
def o131:Obj:=⟨(.type "builtin_function_or_method"),none,(.fields (Array.mk [.builtin "object.__init_subclass__",hR 221])),Array.mk []⟩
def o132:=hT [hS "needs" 429,hS "allows" 430,hS "to" 431]
def o133:=hC "door_of" "door_of" (top 7)
def o134:=hQ "door_of" "door_of" 426 70 3 224 (hR 226) (hR 227) (hR 228) 432
def o135:=hF "door_of" "door_of" (top 7) (hS "mustmay.doors" 194) (hR 229)
def o136:=hT [.type "ValueError"]
def o137:=hDn 4 [hE P "__module__" 444 (hS "mustmay.errors" 435),hE P "__qualname__" 446 (hS "HallError" 445),hE P "__firstlineno__" 448 (.int (79) 447),hE P "__static_attributes__" 449 (hR 238)]
def o138:=hK [hS "HallError" 439,hS "HallError" 440,hS "/claim/cut.py" 441,hI 79,hI 0,hI 0,hI 0,hI 0,hR 234,.bool false,hI 181,hR 235,.none,.none,.none,.none,hI 442,hI 79,hS "/claim/cut.py" 443]
def o139:=hW 236 233 (hS "mustmay.errors" 435)
def o140:=hDn 3 [hE P "__module__" 444 (hS "mustmay.errors" 435),hE P "__firstlineno__" 448 (.int (79) 447),hE P "__static_attributes__" 449 (hR 238),hE P "__weakref__" 451 (hR 241),hE P "__doc__" 452 .none]
def o141:Obj:=⟨(.type "type"),none,(.cls ⟨"HallError",[.type "ValueError"],[hR 240,.type "ValueError",.type "Exception",.type "BaseException",.type "object"],239,"HallError",true,[],[hR 260],false,none,false⟩),Array.mk [some (hR 231),none,some (hS "HallError" 437),some (hS "HallError" 445),some (.builtin "ValueError.__new__"),some (.bool true)]⟩
def o142:=hV 450 240
def o143:Obj:=⟨(.type "super"),none,(.fields (Array.mk [hR 240,hR 240,hR 240])),Array.mk []⟩
def o144:Obj:=⟨(.type "builtin_function_or_method"),none,(.fields (Array.mk [.builtin "object.__init_subclass__",hR 240])),Array.mk []⟩
def o145:=hDn 5 [hE P "__module__" 462 (hS "mustmay.errors" 435),hE P "__qualname__" 464 (hS "BadPlan" 463),hE P "__firstlineno__" 466 (.int (81) 465),hE P "__init__" 475 (hR 257),hE P "__static_attributes__" 478 (hR 258)]
def o146:=hN [hI 83,hI 4,hR 256]
def o147:=hK [hS "BadPlan" 457,hS "BadPlan" 458,hS "/claim/cut.py" 459,hI 81,hI 0,hI 0,hI 0,hI 0,hR 247,.bool false,hI 181,hR 248,.none,.none,.none,.none,hI 460,hI 81,hS "/claim/cut.py" 461]
def o148:=hW 249 246 (hS "mustmay.errors" 435)
def o149:=hT [hS "self" 470,hS "room" 471,hS "action" 472]
def o150:=hC "__init__" "BadPlan.__init__" (inClass (top 10) 0)
def o151:=hQ "__init__" "BadPlan.__init__" 467 83 3 251 (hR 253) (hR 254) (hR 255) 473
def o152:=hF "__init__" "BadPlan.__init__" (inClass (top 10) 0) (hS "mustmay.errors" 435) (hR 256)
def o153:=hT [hS "action" 476,hS "room" 477]
def o154:=hDn 2 [hE P "__module__" 462 (hS "mustmay.errors" 435),hE P "__firstlineno__" 466 (.int (81) 465),hE P "__init__" 475 (hR 257),hE P "__static_attributes__" 478 (hR 258),hE P "__doc__" 479 .none]
def o155:Obj:=⟨(.type "type"),none,(.cls ⟨"BadPlan",[hR 240],[hR 260,hR 240,.type "ValueError",.type "Exception",.type "BaseException",.type "object"],259,"BadPlan",true,[],[],false,none,false⟩),Array.mk [some (hR 244),none,some (hS "BadPlan" 455),some (hS "BadPlan" 463),some (.builtin "ValueError.__new__"),some (.bool true)]⟩
def o156:Obj:=⟨(.type "super"),none,(.fields (Array.mk [hR 260,hR 260,hR 260])),Array.mk []⟩
def o157:Obj:=⟨(.type "builtin_function_or_method"),none,(.fields (Array.mk [.builtin "object.__init_subclass__",hR 260])),Array.mk []⟩
def o158:=hC "is_name" "is_name" (top 16)
def o159:=hQ "is_name" "is_name" 492 92 1 263 .none .none (hR 265) 495
def o160:=hF "is_name" "is_name" (top 16) (hS "mustmay.plans" 482) (hR 266)
def o161:=hC "is_action_list" "is_action_list" (top 17)
def o162:=hQ "is_action_list" "is_action_list" 498 96 1 268 .none .none (hR 270) 501
def o163:=hF "is_action_list" "is_action_list" (top 17) (hS "mustmay.plans" 482) (hR 271)
def o164:=hT [hS "actions" 507]
def o165:=hC "need_actions" "need_actions" (top 18)
def o166:=hQ "need_actions" "need_actions" 504 100 1 273 (hR 275) (hR 276) (hR 277) 508
def o167:=hF "need_actions" "need_actions" (top 18) (hS "mustmay.plans" 482) (hR 278)
def o168:=hT [hS "thing" 514,hS "many" 515]
def o169:=hC "is_room" "is_room" (top 19)
def o170:=hQ "is_room" "is_room" 511 103 2 280 (hR 282) (hR 283) (hR 284) 516
def o171:=hF "is_room" "is_room" (top 19) (hS "mustmay.plans" 482) (hR 285)
def o172:=hT [hS "thing" 522,hS "many" 523,hS "torn_too" 524,hS "word" 525]
def o173:=hC "is_told_door" "is_told_door" (top 20)
def o174:=hQ "is_told_door" "is_told_door" 519 105 3 287 (hR 289) (hR 290) (hR 291) 526
def o175:=hF "is_told_door" "is_told_door" (top 20) (hS "mustmay.plans" 482) (hR 292)
def o176:=hT [hS "rows" 532,hS "many_actions" 533,hS "torn_too" 534,hS "room" 535,hS "row" 536,hS "action" 537,hS "thing" 538]
def o177:=hC "need_rooms" "need_rooms" (top 21)
def o178:=hQ "need_rooms" "need_rooms" 529 114 3 294 (hR 296) (hR 297) (hR 298) 539
def o179:=hF "need_rooms" "need_rooms" (top 21) (hS "mustmay.plans" 482) (hR 299)
def o180:=hT [hS "told" 545,hS "word" 546]
def o181:=hC "made_door" "made_door" (top 22)
def o182:=hQ "made_door" "made_door" 542 123 1 301 (hR 303) (hR 304) (hR 305) 547
def o183:=hF "made_door" "made_door" (top 22) (hS "mustmay.plans" 482) (hR 306)
def o184:=hC "made_room" "made_room" (top 23)
def o185:=hQ "made_room" "made_room" 550 126 1 308 .none .none (hR 310) 553
def o186:=hF "made_room" "made_room" (top 23) (hS "mustmay.plans" 482) (hR 311)
def o187:=hC "told_room" "told_room" (top 24)
def o188:=hQ "told_room" "told_room" 556 128 1 313 .none .none (hR 315) 559
def o189:=hF "told_room" "told_room" (top 24) (hS "mustmay.plans" 482) (hR 316)
def o190:=hDn 12 [hE P "__module__" 569 (hS "mustmay.plans" 482),hE P "__qualname__" 571 (hS "Draft" 570),hE P "__firstlineno__" 573 (.int (130) 572),hE P "__init__" 579 (hR 329),hE P "lets_torn" 586 (hR 336),hE P "action_list" 593 (hR 343),hE P "many" 600 (hR 350),hE P "door" 610 (hR 357),hE P "told" 616 (hR 362),hE P "after" 624 (hR 369),hE P "is_finished" 631 (hR 376),hE P "__static_attributes__" 634 (hR 377)]
def o191:=hN [hI 132,hI 4,hR 328,hI 138,hI 4,hR 335,hI 141,hI 4,hR 342,hI 144,hI 4,hR 349,hI 147,hI 4,hR 356,hI 151,hI 4,hR 361,hI 154,hI 4,hR 368,hI 157,hI 4,hR 375]
def o192:=hK [hS "Draft" 564,hS "Draft" 565,hS "/claim/cut.py" 566,hI 130,hI 0,hI 0,hI 0,hI 0,hR 321,.bool false,hI 181,hR 322,.none,.none,.none,.none,hI 567,hI 130,hS "/claim/cut.py" 568]
def o193:=hW 323 320 (hS "mustmay.plans" 482)
def o194:=hC "__init__" "Draft.__init__" (inClass (top 25) 0)
def o195:=hQ "__init__" "Draft.__init__" 574 132 3 325 .none .none (hR 327) 577
def o196:=hF "__init__" "Draft.__init__" (inClass (top 25) 0) (hS "mustmay.plans" 482) (hR 328)
def o197:=hT [hS "self" 583]
def o198:=hC "lets_torn" "Draft.lets_torn" (inClass (top 25) 1)
def o199:=hQ "lets_torn" "Draft.lets_torn" 580 138 1 330 (hR 332) (hR 333) (hR 334) 584
def o200:=hF "lets_torn" "Draft.lets_torn" (inClass (top 25) 1) (hS "mustmay.plans" 482) (hR 335)
def o201:=hT [hS "self" 590]
def o202:=hC "action_list" "Draft.action_list" (inClass (top 25) 2)
def o203:=hQ "action_list" "Draft.action_list" 587 141 1 337 (hR 339) (hR 340) (hR 341) 591
def o204:=hF "action_list" "Draft.action_list" (inClass (top 25) 2) (hS "mustmay.plans" 482) (hR 342)
def o205:=hT [hS "self" 597]
def o206:=hC "many" "Draft.many" (inClass (top 25) 3)
def o207:=hQ "many" "Draft.many" 594 144 1 344 (hR 346) (hR 347) (hR 348) 598
def o208:=hF "many" "Draft.many" (inClass (top 25) 3) (hS "mustmay.plans" 482) (hR 349)
def o209:=hT [hS "self" 604,hS "room" 605,hS "action" 606,hS "kept" 607]
def o210:=hC "door" "Draft.door" (inClass (top 25) 4)
def o211:=hQ "door" "Draft.door" 601 147 3 351 (hR 353) (hR 354) (hR 355) 608
def o212:=hF "door" "Draft.door" (inClass (top 25) 4) (hS "mustmay.plans" 482) (hR 356)
def o213:=hC "told" "Draft.told" (inClass (top 25) 5)
def o214:=hQ "told" "Draft.told" 611 151 1 358 .none .none (hR 360) 614
def o215:=hF "told" "Draft.told" (inClass (top 25) 5) (hS "mustmay.plans" 482) (hR 361)
def o216:=hT [hS "self" 620,hS "row" 621]
def o217:=hC "after" "Draft.after" (inClass (top 25) 6)
def o218:=hQ "after" "Draft.after" 617 154 2 363 (hR 365) (hR 366) (hR 367) 622
def o219:=hF "after" "Draft.after" (inClass (top 25) 6) (hS "mustmay.plans" 482) (hR 368)
def o220:=hT [hS "self" 628]
def o221:=hC "is_finished" "Draft.is_finished" (inClass (top 25) 7)
def o222:=hQ "is_finished" "Draft.is_finished" 625 157 1 370 (hR 372) (hR 373) (hR 374) 629
def o223:=hF "is_finished" "Draft.is_finished" (inClass (top 25) 7) (hS "mustmay.plans" 482) (hR 375)
def o224:=hT [hS "actions" 632,hS "rooms" 633]
def o225:=hDn 4 [hE P "__module__" 569 (hS "mustmay.plans" 482),hE P "__firstlineno__" 573 (.int (130) 572),hE P "__init__" 579 (hR 329),hE P "lets_torn" 586 (hR 336),hE P "action_list" 593 (hR 343),hE P "many" 600 (hR 350),hE P "door" 610 (hR 357),hE P "told" 616 (hR 362),hE P "after" 624 (hR 369),hE P "is_finished" 631 (hR 376),hE P "__static_attributes__" 634 (hR 377),hE P "__dict__" 636 (hR 380),hE P "__weakref__" 638 (hR 381),hE P "__doc__" 639 .none]
def o226:Obj:=⟨(.type "type"),none,(.cls ⟨"Draft",[.type "object"],[hR 379,.type "object"],378,"Draft",true,[],[hR 400],false,none,false⟩),Array.mk [none,none,some (hS "Draft" 562),some (hS "Draft" 570),some (.builtin "object.__new__"),some (.bool true)]⟩
def o227:=hG 635 379
def o228:=hV 637 379
def o229:Obj:=⟨(.type "super"),none,(.fields (Array.mk [hR 379,hR 379,hR 379])),Array.mk []⟩
def o230:Obj:=⟨(.type "builtin_function_or_method"),none,(.fields (Array.mk [.builtin "object.__init_subclass__",hR 379])),Array.mk []⟩
def o231:=hDn 5 [hE P "__module__" 649 (hS "mustmay.plans" 482),hE P "__qualname__" 651 (hS "Plan" 650),hE P "__firstlineno__" 653 (.int (159) 652),hE P "lets_torn" 660 (hR 397),hE P "__static_attributes__" 661 (hR 398)]
def o232:=hN [hI 161,hI 4,hR 396]
def o233:=hK [hS "Plan" 644,hS "Plan" 645,hS "/claim/cut.py" 646,hI 159,hI 0,hI 0,hI 0,hI 0,hR 387,.bool false,hI 181,hR 388,.none,.none,.none,.none,hI 647,hI 159,hS "/claim/cut.py" 648]
def o234:=hW 389 386 (hS "mustmay.plans" 482)
def o235:=hT [hS "self" 657]
def o236:=hC "lets_torn" "Plan.lets_torn" (inClass (top 26) 0)
def o237:=hQ "lets_torn" "Plan.lets_torn" 654 161 1 391 (hR 393) (hR 394) (hR 395) 658
def o238:=hF "lets_torn" "Plan.lets_torn" (inClass (top 26) 0) (hS "mustmay.plans" 482) (hR 396)
def o239:=hDn 2 [hE P "__module__" 649 (hS "mustmay.plans" 482),hE P "__firstlineno__" 653 (.int (159) 652),hE P "lets_torn" 660 (hR 397),hE P "__static_attributes__" 661 (hR 398),hE P "__doc__" 662 .none]
def o240:Obj:=⟨(.type "type"),none,(.cls ⟨"Plan",[hR 379],[hR 400,hR 379,.type "object"],399,"Plan",true,[],[],false,none,false⟩),Array.mk [some (hR 384),none,some (hS "Plan" 642),some (hS "Plan" 650),some (.builtin "object.__new__"),some (.bool true)]⟩
def o241:Obj:=⟨(.type "super"),none,(.fields (Array.mk [hR 400,hR 400,hR 400])),Array.mk []⟩
def o242:Obj:=⟨(.type "builtin_function_or_method"),none,(.fields (Array.mk [.builtin "object.__init_subclass__",hR 400])),Array.mk []⟩
def o243:=hDn 7 [hE P "__module__" 674 (hS "mustmay.least" 665),hE P "__qualname__" 676 (hS "Trail" 675),hE P "__firstlineno__" 678 (.int (164) 677),hE P "__init__" 686 (hR 416),hE P "come" 696 (hR 423),hE P "row" 705 (hR 430),hE P "__static_attributes__" 709 (hR 431)]
def o244:=hN [hI 166,hI 4,hR 415,hI 171,hI 4,hR 422,hI 176,hI 4,hR 429]
def o245:=hK [hS "Trail" 669,hS "Trail" 670,hS "/claim/cut.py" 671,hI 164,hI 0,hI 0,hI 0,hI 0,hR 406,.bool false,hI 181,hR 407,.none,.none,.none,.none,hI 672,hI 164,hS "/claim/cut.py" 673]
def o246:=hW 408 405 (hS "mustmay.least" 665)
def o247:=hT [hS "self" 682,hS "first" 683]
def o248:=hC "__init__" "Trail.__init__" (inClass (top 28) 0)
def o249:=hQ "__init__" "Trail.__init__" 679 166 2 410 (hR 412) (hR 413) (hR 414) 684
def o250:=hF "__init__" "Trail.__init__" (inClass (top 28) 0) (hS "mustmay.least" 665) (hR 415)
def o251:=hT [hS "self" 690,hS "pair" 691,hS "place" 692,hS "action" 693]
def o252:=hC "come" "Trail.come" (inClass (top 28) 1)
def o253:=hQ "come" "Trail.come" 687 171 4 417 (hR 419) (hR 420) (hR 421) 694
def o254:=hF "come" "Trail.come" (inClass (top 28) 1) (hS "mustmay.least" 665) (hR 422)
def o255:=hT [hS "self" 700,hS "place" 701,hS "row" 702]
def o256:=hC "row" "Trail.row" (inClass (top 28) 2)
def o257:=hQ "row" "Trail.row" 697 176 2 424 (hR 426) (hR 427) (hR 428) 703
def o258:=hF "row" "Trail.row" (inClass (top 28) 2) (hS "mustmay.least" 665) (hR 429)
def o259:=hT [hS "pairs" 706,hS "places" 707,hS "steps" 708]
def o260:=hDn 4 [hE P "__module__" 674 (hS "mustmay.least" 665),hE P "__firstlineno__" 678 (.int (164) 677),hE P "__init__" 686 (hR 416),hE P "come" 696 (hR 423),hE P "row" 705 (hR 430),hE P "__static_attributes__" 709 (hR 431),hE P "__dict__" 711 (hR 434),hE P "__weakref__" 713 (hR 435),hE P "__doc__" 714 .none]
def o261:Obj:=⟨(.type "type"),none,(.cls ⟨"Trail",[.type "object"],[hR 433,.type "object"],432,"Trail",true,[],[],false,none,false⟩),Array.mk [none,none,some (hS "Trail" 667),some (hS "Trail" 675),some (.builtin "object.__new__"),some (.bool true)]⟩
def o262:=hG 710 433
def o263:=hV 712 433
def o264:Obj:=⟨(.type "super"),none,(.fields (Array.mk [hR 433,hR 433,hR 433])),Array.mk []⟩
def o265:Obj:=⟨(.type "builtin_function_or_method"),none,(.fields (Array.mk [.builtin "object.__init_subclass__",hR 433])),Array.mk []⟩
def o266:=hT [hS "heads" 720,hS "room" 721]
def o267:=hC "head_of" "head_of" (top 29)
def o268:=hQ "head_of" "head_of" 717 183 2 438 (hR 440) (hR 441) (hR 442) 722
def o269:=hF "head_of" "head_of" (top 29) (hS "mustmay.least" 665) (hR 443)
def o270:=hT [hS "heads" 728,hS "one" 729,hS "other" 730,hS "head" 731,hS "last" 732]
def o271:=hC "joined" "joined" (top 30)
def o272:=hQ "joined" "joined" 725 188 3 445 (hR 447) (hR 448) (hR 449) 733
def o273:=hF "joined" "joined" (top 30) (hS "mustmay.least" 665) (hR 450)
def o274:=hT [hS "doors" 739,hS "others" 740,hS "action" 741,hS "door" 742]
def o275:=hC "first_unlike" "first_unlike" (top 31)
def o276:=hQ "first_unlike" "first_unlike" 736 193 2 452 (hR 454) (hR 455) (hR 456) 743
def o277:=hF "first_unlike" "first_unlike" (top 31) (hS "mustmay.least" 665) (hR 457)
def o278:=hT [hS "plan" 749,hS "room" 750,hS "other" 751,hS "heads" 752,hS "trail" 753,hS "at" 754,hS "doors" 755,hS "others" 756,hS "unlike" 757,hS "action" 758,hS "door" 759,hS "to" 760]
def o279:=hC "parting" "parting" (top 32)
def o280:=hQ "parting" "parting" 746 198 3 459 (hR 461) (hR 462) (hR 463) 761
def o281:=hF "parting" "parting" (top 32) (hS "mustmay.least" 665) (hR 464)
def o282:=hT [hS "_law_script" 769,hS "_law_k" 770]
def o283:=hC "_law_cell_at" "_law_cell_at" (top 34)
def o284:=hQ "_law_cell_at" "_law_cell_at" 766 216 2 466 (hR 468) (hR 469) (hR 470) 771
def o285:=hF "_law_cell_at" "_law_cell_at" (top 34) (hS "law_mustmay_k23_rooms_parted" 764) (hR 471)
def o286:=hT [hS "_law_found" 777]
def o287:=hC "_law_whole" "_law_whole" (top 35)
def o288:=hQ "_law_whole" "_law_whole" 774 220 1 473 (hR 475) (hR 476) (hR 477) 778
def o289:=hF "_law_whole" "_law_whole" (top 35) (hS "law_mustmay_k23_rooms_parted" 764) (hR 478)
def o290:=hT [hS "_law_cell" 784,hS "_law_k" 785,hS "_law_number" 786]
def o291:=hC "_law_mixed" "_law_mixed" (top 36)
def o292:=hQ "_law_mixed" "_law_mixed" 781 222 2 480 (hR 482) (hR 483) (hR 484) 787
def o293:=hF "_law_mixed" "_law_mixed" (top 36) (hS "law_mustmay_k23_rooms_parted" 764) (hR 485)
def o294:=hT [hS "_law_cell" 793,hS "_law_many" 794,hS "_law_x" 795,hS "_law_size" 796,hS "_law_names" 797,hS "_law_k" 798,hS "_law_letters" 799,hS "_law_j" 800,hS "_law_number" 801]
def o295:=hC "_law_actions" "_law_actions" (top 37)
def o296:=hQ "_law_actions" "_law_actions" 790 226 2 487 (hR 489) (hR 490) (hR 491) 802
def o297:=hF "_law_actions" "_law_actions" (top 37) (hS "law_mustmay_k23_rooms_parted" 764) (hR 492)
def o298:=hT [hS "_law_script" 808,hS "_law_many" 809,hS "_law_acts" 810,hS "_law_rows_here" 811,hS "_law_room" 812,hS "_law_doors" 813,hS "_law_action" 814,hS "_law_k" 815,hS "_law_x" 816,hS "_law_word" 817]
def o299:=hC "_law_rows" "_law_rows" (top 38)
def o300:=hQ "_law_rows" "_law_rows" 805 237 3 494 (hR 496) (hR 497) (hR 498) 818
def o301:=hF "_law_rows" "_law_rows" (top 38) (hS "law_mustmay_k23_rooms_parted" 764) (hR 499)
def o302:=hT [hS "_law_many" 824,hS "_law_cell" 825,hS "_law_kinds_here" 826,hS "_law_k" 827,hS "_law_x" 828,hS "_law_j" 829,hS "_law_at" 830]
def o303:=hC "_law_kinds" "_law_kinds" (top 39)
def o304:=hQ "_law_kinds" "_law_kinds" 821 248 2 501 (hR 503) (hR 504) (hR 505) 831
def o305:=hF "_law_kinds" "_law_kinds" (top 39) (hS "law_mustmay_k23_rooms_parted" 764) (hR 506)
def o306:=hC "_law_blown" "_law_blown" (top 40)
def o307:=hQ "_law_blown" "_law_blown" 834 256 2 508 .none .none (hR 510) 837
def o308:=hF "_law_blown" "_law_blown" (top 40) (hS "law_mustmay_k23_rooms_parted" 764) (hR 511)
def o309:=hC "_law_apart" "_law_apart" (top 41)
def o310:=hQ "_law_apart" "_law_apart" 840 268 1 513 .none .none (hR 515) 843
def o311:=hF "_law_apart" "_law_apart" (top 41) (hS "law_mustmay_k23_rooms_parted" 764) (hR 516)
def o312:=hT [hS "_law_rows_here" 849,hS "_law_room" 850,hS "_law_other" 851,hS "_law_far" 852,hS "_law_turn" 853,hS "_law_one" 854,hS "_law_two" 855]
def o313:=hC "_law_leads" "_law_leads" (top 42)
def o314:=hQ "_law_leads" "_law_leads" 846 285 5 518 (hR 520) (hR 521) (hR 522) 856
def o315:=hF "_law_leads" "_law_leads" (top 42) (hS "law_mustmay_k23_rooms_parted" 764) (hR 523)
def o316:=hT [hS "_law_rows_here" 862,hS "_law_cell" 863,hS "_law_room" 864,hS "_law_action" 865,hS "_law_word" 866,hS "_law_doors" 867]
def o317:=hC "_law_changed" "_law_changed" (top 43)
def o318:=hQ "_law_changed" "_law_changed" 859 290 2 525 (hR 527) (hR 528) (hR 529) 868
def o319:=hF "_law_changed" "_law_changed" (top 43) (hS "law_mustmay_k23_rooms_parted" 764) (hR 530)
def o320:=hT [hS "_law_many" 874,hS "_law_acts" 875,hS "_law_cell" 876,hS "_law_rows_here" 877,hS "_law_room" 878,hS "_law_doors" 879]
def o321:=hC "_law_line" "_law_line" (top 44)
def o322:=hQ "_law_line" "_law_line" 871 297 3 532 (hR 534) (hR 535) (hR 536) 880
def o323:=hF "_law_line" "_law_line" (top 44) (hS "law_mustmay_k23_rooms_parted" 764) (hR 537)
def o324:=hT [hS "_law_rows_here" 886,hS "_law_room" 887,hS "_law_other" 888,hS "_law_action" 889]
def o325:=hC "_law_first" "_law_first" (top 45)
def o326:=hQ "_law_first" "_law_first" 883 305 3 539 (hR 541) (hR 542) (hR 543) 890
def o327:=hF "_law_first" "_law_first" (top 45) (hS "law_mustmay_k23_rooms_parted" 764) (hR 544)
def o328:=hT [hS "_law_rows_here" 896,hS "_law_room" 897,hS "_law_other" 898,hS "_law_row" 899,hS "_law_far" 900,hS "_law_k" 901,hS "_law_action" 902,hS "_law_pair" 903,hS "_law_due" 904]
def o329:=hC "_law_walked" "_law_walked" (top 46)
def o330:=hQ "_law_walked" "_law_walked" 893 310 5 546 (hR 548) (hR 549) (hR 550) 905
def o331:=hF "_law_walked" "_law_walked" (top 46) (hS "law_mustmay_k23_rooms_parted" 764) (hR 551)
def o332:=hT [hS "_law_plan" 911,hS "_law_rows_here" 912,hS "_law_room" 913,hS "_law_other" 914,hS "_law_far" 915,hS "_law_found" 916,hS "_law_good" 917]
def o333:=hC "_law_right" "_law_right" (top 47)
def o334:=hQ "_law_right" "_law_right" 908 325 5 553 (hR 555) (hR 556) (hR 557) 918
def o335:=hF "_law_right" "_law_right" (top 47) (hS "law_mustmay_k23_rooms_parted" 764) (hR 558)
def o336:=hC "law" "law" (top 48)
def o337:=hQ "law" "law" 921 336 1 560 .none .none (hR 562) 924
def o338:=hF "law" "law" (top 48) (hS "law_mustmay_k23_rooms_parted" 764) (hR 563)
def o339:=hDn 15 [hE P "__name__" 165 (hS "mustmay.doors" 194),hE P "__doc__" 166 .none,hE P "__package__" 167 .none,hE P "__loader__" 168 (.builtin "__main__.__loader__#opaque"),hE P "__spec__" 169 .none,hE P "__annotations__" 170 (hR 6),hE P "__builtins__" 171 (hR 4),hE P "__file__" 173 (hS "/claim/cut.py" 172),hE P "__cached__" 174 .none,hE P "_wall" 193 (hR 21),hE P "Door" 231 (hR 45),hE P "Must" 276 (hR 87),hE P "May" 321 (hR 127),hE P "Shut" 373 (hR 174),hE P "Torn" 425 (hR 221)]
def o340:=hN [hI 1,hI 0,hR 20,hI 5,hI 0,hR 27,hI 12,hI 0,hR 55,hI 25,hI 0,hR 95,hI 38,hI 0,hR 135,hI 54,hI 0,hR 182]
def o341:=hDn 32 [hE P "__name__" 165 (hS "mustmay.plans" 482),hE P "__doc__" 166 .none,hE P "__package__" 167 .none,hE P "__loader__" 168 (.builtin "__main__.__loader__#opaque"),hE P "__spec__" 169 .none,hE P "__annotations__" 170 (hR 6),hE P "__builtins__" 171 (hR 4),hE P "__file__" 173 (hS "/claim/cut.py" 172),hE P "__cached__" 174 .none,hE P "_wall" 193 (hR 21),hE P "Door" 231 (hR 45),hE P "Must" 276 (hR 87),hE P "May" 321 (hR 127),hE P "Shut" 373 (hR 174),hE P "Torn" 425 (hR 221),hE P "door_of" 434 (hR 230),hE P "HallError" 454 (hR 240),hE P "BadPlan" 481 (hR 260),hE P "LETTERS" 485 (hS "abcdefghijklmnopqrstuvwxyz" 484),hE P "MOST_SIGNS" 487 (.int (8) 486),hE P "MOST_ACTIONS" 489 (.int (8) 488),hE P "MOST_ROOMS" 491 (.int (2000) 490),hE P "is_name" 497 (hR 267),hE P "is_action_list" 503 (hR 272),hE P "need_actions" 510 (hR 279),hE P "is_room" 518 (hR 286),hE P "is_told_door" 528 (hR 293),hE P "need_rooms" 541 (hR 300),hE P "made_door" 549 (hR 307),hE P "made_room" 555 (hR 312),hE P "told_room" 561 (hR 317),hE P "Draft" 641 (hR 379)]
def o342:=hN [hI 1,hI 0,hR 20,hI 5,hI 0,hR 27,hI 12,hI 0,hR 55,hI 25,hI 0,hR 95,hI 38,hI 0,hR 135,hI 54,hI 0,hR 182,hI 70,hI 0,hR 229,hI 79,hI 0,hR 236,hI 81,hI 0,hR 249,hI 92,hI 0,hR 266,hI 96,hI 0,hR 271,hI 100,hI 0,hR 278,hI 103,hI 0,hR 285,hI 105,hI 0,hR 292,hI 114,hI 0,hR 299,hI 123,hI 0,hR 306,hI 126,hI 0,hR 311,hI 128,hI 0,hR 316,hI 130,hI 0,hR 323]
def o343:Obj:=⟨(.type "type"),none,(.cls ⟨"Draft",[.type "object"],[hR 379,.type "object"],378,"Draft",true,[],[],false,none,false⟩),Array.mk [none,none,some (hS "Draft" 562),some (hS "Draft" 570),some (.builtin "object.__new__"),some (.bool true)]⟩
def HA:Heap:=⟨Array.mk [boot_o_0 P,boot_o_1 P,boot_o_2 P,boot_o_3 P,boot_o_4 P,boot_o_5 P,boot_o_6 P,boot_o_7 P,boot_o_8 P,boot_o_9 P,boot_o_10 P,hT [],hN [],o0,o1],{}⟩
def TB:BT:=(nn (boot_o_0 P) (nn (boot_o_1 P) (nn (boot_o_3 P) (lf (boot_o_7 P)) (lf (hT []))) (nn (boot_o_5 P) (lf (boot_o_9 P)) (lf o0))) (nn (boot_o_2 P) (nn (boot_o_4 P) (lf (boot_o_8 P)) (lf (hN []))) (nn (boot_o_6 P) (lf (boot_o_10 P)) (lf o1))))
def LF:List Obj:=boot_o_0 P::boot_o_1 P::boot_o_2 P::o2 P::boot_o_4 P::boot_o_5 P::boot_o_6 P::boot_o_7 P::boot_o_8 P::boot_o_9 P::boot_o_10 P::hT []::o3::o0::o1::hT []::hN []::o4::hT []::o5::o6::o7::hT []::o8::o9 P::hT []::o10::o11::o12::hT []::hN []::o13::hT []::o14::o15::o16::hT []::hN []::o17::hT []::o18::o19::o20::o21::o22 P::o23::o24::o25::o26::o27::hT [(hR 45)]::o8::o28 P::hT []::o29::o30::o31::hT []::hN []::o32::hT []::o33::o34::o35::hT []::hN []::o36::hT []::o37::o38::o39::hT []::hN []::o40::hT []::o41::o42::o43::hT []::hN []::o44::hT []::o45::o46::o47::hT []::o48 P::o49::o50::o51::hT [(hR 45)]::o8::o52 P::hT []::o53::o54::o55::hT []::hN []::o56::hT []::o57::o58::o59::hT []::hN []::o60::hT []::o61::o62::o63::hT []::hN []::o64::hT []::o65::o66::o67::hT []::hN []::o68::hT []::o69::o70::o71::hT []::o72 P::o73::o74::o75::hT [(hR 45)]::o8::o76 P::hT []::o77::o78::o79::hT []::hN []::o80::hT []::o81::o82::o83::hT []::hN []::o84::hT []::o85::o86::o87::hT []::hN []::o88::hT []::o89::o90::o91::hT []::hN []::o92::hT []::o93::o94::o95::hT []::hN []::o96::hT []::o97::o98::o99::hT []::o100 P::o101::o102::o103::hT [(hR 45)]::o8::o104 P::hT []::o105::o106::o107::hT []::hN []::o108::hT []::o109::o110::o111::hT []::hN []::o112::hT []::o113::o114::o115::hT []::hN []::o116::hT []::o117::o118::o119::hT []::hN []::o120::hT []::o121::o122::o123::hT []::hN []::o124::hT []::o125::o126::o127::hT []::o128 P::o129::o130::o131::hT []::hN []::o132::hT []::o133::o134::o135::o136::o8::o137 P::hT []::hN []::o138::o139::hT []::o140 P::o141::o142::o143::o144::hT [(hR 240)]::o8::o145 P::hT []::o146::o147::o148::hT []::hN []::o149::hT []::o150::o151::o152::o153::o154 P::o155::o156::o157::hT []::hN []::o158::o159::o160::hT []::hN []::o161::o162::o163::hT []::hN []::o164::hT []::o165::o166::o167::hT []::hN []::o168::hT []::o169::o170::o171::hT []::hN []::o172::hT []::o173::o174::o175::hT []::hN []::o176::hT []::o177::o178::o179::hT []::hN []::o180::hT []::o181::o182::o183::hT []::hN []::o184::o185::o186::hT []::hN []::o187::o188::o189::hT []::o8::o190 P::hT []::o191::o192::o193::hT []::hN []::o194::o195::o196::hT []::hN []::o197::hT []::o198::o199::o200::hT []::hN []::o201::hT []::o202::o203::o204::hT []::hN []::o205::hT []::o206::o207::o208::hT []::hN []::o209::hT []::o210::o211::o212::hT []::hN []::o213::o214::o215::hT []::hN []::o216::hT []::o217::o218::o219::hT []::hN []::o220::hT []::o221::o222::o223::o224::o225 P::o226::o227::o228::o229::o230::hT [(hR 379)]::o8::o231 P::hT []::o232::o233::o234::hT []::hN []::o235::hT []::o236::o237::o238::hT []::o239 P::o240::o241::o242::hT []::o8::o243 P::hT []::o244::o245::o246::hT []::hN []::o247::hT []::o248::o249::o250::hT []::hN []::o251::hT []::o252::o253::o254::hT []::hN []::o255::hT []::o256::o257::o258::o259::o260 P::o261::o262::o263::o264::o265::hT []::hN []::o266::hT []::o267::o268::o269::hT []::hN []::o270::hT []::o271::o272::o273::hT []::hN []::o274::hT []::o275::o276::o277::hT []::hN []::o278::hT []::o279::o280::o281::hT []::hN []::o282::hT []::o283::o284::o285::hT []::hN []::o286::hT []::o287::o288::o289::hT []::hN []::o290::hT []::o291::o292::o293::hT []::hN []::o294::hT []::o295::o296::o297::hT []::hN []::o298::hT []::o299::o300::o301::hT []::hN []::o302::hT []::o303::o304::o305::hT []::hN []::o306::o307::o308::hT []::hN []::o309::o310::o311::hT []::hN []::o312::hT []::o313::o314::o315::hT []::hN []::o316::hT []::o317::o318::o319::hT []::hN []::o320::hT []::o321::o322::o323::hT []::hN []::o324::hT []::o325::o326::o327::hT []::hN []::o328::hT []::o329::o330::o331::hT []::hN []::o332::hT []::o333::o334::o335::hT []::hN []::o336::o337::o338::[]
def TF:BT:=bt 12 (LF P)
def TM0:BT:=bt 12 ((((LF P).take 224).set 3 (o339 P)).set 12 o340)
def TM1:BT:=bt 12 (((((LF P).take 384).set 3 (o341 P)).set 12 o342).set 379 o343)
def HF:Heap:=⟨Array.mk (LF P),{}⟩
def KK:Params->Frag:=λP=>(nat_lit 2,boot_o_2 P)::(nat_lit 3,o2 P)::(nat_lit 15,hT [])::(nat_lit 17,o4)::(nat_lit 18,hT [])::(nat_lit 20,o6)::(nat_lit 21,o7)::(nat_lit 29,hT [])::(nat_lit 31,o13)::(nat_lit 32,hT [])::(nat_lit 34,o15)::(nat_lit 35,o16)::(nat_lit 36,hT [])::(nat_lit 38,o17)::(nat_lit 39,hT [])::(nat_lit 41,o19)::(nat_lit 42,o20)::(nat_lit 43,o21)::(nat_lit 44,o22 P)::(nat_lit 45,o23)::(nat_lit 46,o24)::(nat_lit 47,o25)::(nat_lit 50,hT [(hR 45)])::(nat_lit 57,hT [])::(nat_lit 59,o32)::(nat_lit 60,hT [])::(nat_lit 62,o34)::(nat_lit 63,o35)::(nat_lit 64,hT [])::(nat_lit 66,o36)::(nat_lit 67,hT [])::(nat_lit 69,o38)::(nat_lit 70,o39)::(nat_lit 71,hT [])::(nat_lit 73,o40)::(nat_lit 74,hT [])::(nat_lit 76,o42)::(nat_lit 77,o43)::(nat_lit 78,hT [])::(nat_lit 80,o44)::(nat_lit 81,hT [])::(nat_lit 83,o46)::(nat_lit 84,o47)::(nat_lit 85,hT [])::(nat_lit 86,o48 P)::(nat_lit 87,o49)::(nat_lit 90,hT [(hR 45)])::(nat_lit 97,hT [])::(nat_lit 99,o56)::(nat_lit 100,hT [])::(nat_lit 102,o58)::(nat_lit 103,o59)::(nat_lit 104,hT [])::(nat_lit 106,o60)::(nat_lit 107,hT [])::(nat_lit 109,o62)::(nat_lit 110,o63)::(nat_lit 111,hT [])::(nat_lit 113,o64)::(nat_lit 114,hT [])::(nat_lit 116,o66)::(nat_lit 117,o67)::(nat_lit 118,hT [])::(nat_lit 120,o68)::(nat_lit 121,hT [])::(nat_lit 123,o70)::(nat_lit 124,o71)::(nat_lit 125,hT [])::(nat_lit 126,o72 P)::(nat_lit 127,o73)::(nat_lit 130,hT [(hR 45)])::(nat_lit 137,hT [])::(nat_lit 139,o80)::(nat_lit 140,hT [])::(nat_lit 142,o82)::(nat_lit 143,o83)::(nat_lit 144,hT [])::(nat_lit 146,o84)::(nat_lit 147,hT [])::(nat_lit 149,o86)::(nat_lit 150,o87)::(nat_lit 151,hT [])::(nat_lit 153,o88)::(nat_lit 154,hT [])::(nat_lit 156,o90)::(nat_lit 157,o91)::(nat_lit 158,hT [])::(nat_lit 160,o92)::(nat_lit 161,hT [])::(nat_lit 163,o94)::(nat_lit 164,o95)::(nat_lit 165,hT [])::(nat_lit 167,o96)::(nat_lit 168,hT [])::(nat_lit 170,o98)::(nat_lit 171,o99)::(nat_lit 172,hT [])::(nat_lit 173,o100 P)::(nat_lit 174,o101)::(nat_lit 177,hT [(hR 45)])::(nat_lit 184,hT [])::(nat_lit 186,o108)::(nat_lit 187,hT [])::(nat_lit 189,o110)::(nat_lit 190,o111)::(nat_lit 191,hT [])::(nat_lit 193,o112)::(nat_lit 194,hT [])::(nat_lit 196,o114)::(nat_lit 197,o115)::(nat_lit 198,hT [])::(nat_lit 200,o116)::(nat_lit 201,hT [])::(nat_lit 203,o118)::(nat_lit 204,o119)::(nat_lit 205,hT [])::(nat_lit 207,o120)::(nat_lit 208,hT [])::(nat_lit 210,o122)::(nat_lit 211,o123)::(nat_lit 212,hT [])::(nat_lit 214,o124)::(nat_lit 215,hT [])::(nat_lit 217,o126)::(nat_lit 218,o127)::(nat_lit 219,hT [])::(nat_lit 220,o128 P)::(nat_lit 221,o129)::(nat_lit 224,hT [])::(nat_lit 226,o132)::(nat_lit 227,hT [])::(nat_lit 229,o134)::(nat_lit 230,o135)::(nat_lit 231,o136)::(nat_lit 238,hT [])::(nat_lit 239,o140 P)::(nat_lit 240,o141)::(nat_lit 241,o142)::(nat_lit 244,hT [(hR 240)])::(nat_lit 251,hT [])::(nat_lit 253,o149)::(nat_lit 254,hT [])::(nat_lit 256,o151)::(nat_lit 257,o152)::(nat_lit 258,o153)::(nat_lit 259,o154 P)::(nat_lit 260,o155)::(nat_lit 263,hT [])::(nat_lit 266,o159)::(nat_lit 267,o160)::(nat_lit 268,hT [])::(nat_lit 271,o162)::(nat_lit 272,o163)::(nat_lit 273,hT [])::(nat_lit 275,o164)::(nat_lit 276,hT [])::(nat_lit 278,o166)::(nat_lit 279,o167)::(nat_lit 280,hT [])::(nat_lit 282,o168)::(nat_lit 283,hT [])::(nat_lit 285,o170)::(nat_lit 286,o171)::(nat_lit 287,hT [])::(nat_lit 289,o172)::(nat_lit 290,hT [])::(nat_lit 292,o174)::(nat_lit 293,o175)::(nat_lit 294,hT [])::(nat_lit 296,o176)::(nat_lit 297,hT [])::(nat_lit 299,o178)::(nat_lit 300,o179)::(nat_lit 301,hT [])::(nat_lit 303,o180)::(nat_lit 304,hT [])::(nat_lit 306,o182)::(nat_lit 307,o183)::(nat_lit 308,hT [])::(nat_lit 311,o185)::(nat_lit 312,o186)::(nat_lit 313,hT [])::(nat_lit 316,o188)::(nat_lit 317,o189)::(nat_lit 325,hT [])::(nat_lit 328,o195)::(nat_lit 329,o196)::(nat_lit 330,hT [])::(nat_lit 332,o197)::(nat_lit 333,hT [])::(nat_lit 335,o199)::(nat_lit 336,o200)::(nat_lit 337,hT [])::(nat_lit 339,o201)::(nat_lit 340,hT [])::(nat_lit 342,o203)::(nat_lit 343,o204)::(nat_lit 344,hT [])::(nat_lit 346,o205)::(nat_lit 347,hT [])::(nat_lit 349,o207)::(nat_lit 350,o208)::(nat_lit 351,hT [])::(nat_lit 353,o209)::(nat_lit 354,hT [])::(nat_lit 356,o211)::(nat_lit 357,o212)::(nat_lit 358,hT [])::(nat_lit 361,o214)::(nat_lit 362,o215)::(nat_lit 363,hT [])::(nat_lit 365,o216)::(nat_lit 366,hT [])::(nat_lit 368,o218)::(nat_lit 369,o219)::(nat_lit 370,hT [])::(nat_lit 372,o220)::(nat_lit 373,hT [])::(nat_lit 375,o222)::(nat_lit 376,o223)::(nat_lit 377,o224)::(nat_lit 378,o225 P)::(nat_lit 379,o226)::(nat_lit 380,o227)::(nat_lit 381,o228)::(nat_lit 384,hT [(hR 379)])::(nat_lit 391,hT [])::(nat_lit 393,o235)::(nat_lit 394,hT [])::(nat_lit 396,o237)::(nat_lit 397,o238)::(nat_lit 398,hT [])::(nat_lit 399,o239 P)::(nat_lit 400,o240)::(nat_lit 410,hT [])::(nat_lit 412,o247)::(nat_lit 413,hT [])::(nat_lit 415,o249)::(nat_lit 416,o250)::(nat_lit 417,hT [])::(nat_lit 419,o251)::(nat_lit 420,hT [])::(nat_lit 422,o253)::(nat_lit 423,o254)::(nat_lit 424,hT [])::(nat_lit 426,o255)::(nat_lit 427,hT [])::(nat_lit 429,o257)::(nat_lit 430,o258)::(nat_lit 431,o259)::(nat_lit 432,o260 P)::(nat_lit 433,o261)::(nat_lit 434,o262)::(nat_lit 435,o263)::(nat_lit 438,hT [])::(nat_lit 440,o266)::(nat_lit 441,hT [])::(nat_lit 443,o268)::(nat_lit 444,o269)::(nat_lit 445,hT [])::(nat_lit 447,o270)::(nat_lit 448,hT [])::(nat_lit 450,o272)::(nat_lit 451,o273)::(nat_lit 452,hT [])::(nat_lit 454,o274)::(nat_lit 455,hT [])::(nat_lit 457,o276)::(nat_lit 458,o277)::(nat_lit 459,hT [])::(nat_lit 461,o278)::(nat_lit 462,hT [])::(nat_lit 464,o280)::(nat_lit 465,o281)::(nat_lit 466,hT [])::(nat_lit 468,o282)::(nat_lit 469,hT [])::(nat_lit 471,o284)::(nat_lit 472,o285)::(nat_lit 473,hT [])::(nat_lit 475,o286)::(nat_lit 476,hT [])::(nat_lit 478,o288)::(nat_lit 479,o289)::(nat_lit 480,hT [])::(nat_lit 482,o290)::(nat_lit 483,hT [])::(nat_lit 485,o292)::(nat_lit 486,o293)::(nat_lit 487,hT [])::(nat_lit 489,o294)::(nat_lit 490,hT [])::(nat_lit 492,o296)::(nat_lit 493,o297)::(nat_lit 494,hT [])::(nat_lit 496,o298)::(nat_lit 497,hT [])::(nat_lit 499,o300)::(nat_lit 500,o301)::(nat_lit 501,hT [])::(nat_lit 503,o302)::(nat_lit 504,hT [])::(nat_lit 506,o304)::(nat_lit 507,o305)::(nat_lit 508,hT [])::(nat_lit 511,o307)::(nat_lit 512,o308)::(nat_lit 513,hT [])::(nat_lit 516,o310)::(nat_lit 517,o311)::(nat_lit 518,hT [])::(nat_lit 520,o312)::(nat_lit 521,hT [])::(nat_lit 523,o314)::(nat_lit 524,o315)::(nat_lit 525,hT [])::(nat_lit 527,o316)::(nat_lit 528,hT [])::(nat_lit 530,o318)::(nat_lit 531,o319)::(nat_lit 532,hT [])::(nat_lit 534,o320)::(nat_lit 535,hT [])::(nat_lit 537,o322)::(nat_lit 538,o323)::(nat_lit 539,hT [])::(nat_lit 541,o324)::(nat_lit 542,hT [])::(nat_lit 544,o326)::(nat_lit 545,o327)::(nat_lit 546,hT [])::(nat_lit 548,o328)::(nat_lit 549,hT [])::(nat_lit 551,o330)::(nat_lit 552,o331)::(nat_lit 553,hT [])::(nat_lit 555,o332)::(nat_lit 556,hT [])::(nat_lit 558,o334)::(nat_lit 559,o335)::(nat_lit 560,hT [])::(nat_lit 563,o337)::(nat_lit 564,o338)::[]
def as:List Addr:=[2,3,15,17,18,20,21,29,31,32,34,35,36,38,39,41,42,43,44,45,46,47,50,57,59,60,62,63,64,66,67,69,70,71,73,74,76,77,78,80,81,83,84,85,86,87,90,97,99,100,102,103,104,106,107,109,110,111,113,114,116,117,118,120,121,123,124,125,126,127,130,137,139,140,142,143,144,146,147,149,150,151,153,154,156,157,158,160,161,163,164,165,167,168,170,171,172,173,174,177,184,186,187,189,190,191,193,194,196,197,198,200,201,203,204,205,207,208,210,211,212,214,215,217,218,219,220,221,224,226,227,229,230,231,238,239,240,241,244,251,253,254,256,257,258,259,260,263,266,267,268,271,272,273,275,276,278,279,280,282,283,285,286,287,289,290,292,293,294,296,297,299,300,301,303,304,306,307,308,311,312,313,316,317,325,328,329,330,332,333,335,336,337,339,340,342,343,344,346,347,349,350,351,353,354,356,357,358,361,362,363,365,366,368,369,370,372,373,375,376,377,378,379,380,381,384,391,393,394,396,397,398,399,400,410,412,413,415,416,417,419,420,422,423,424,426,427,429,430,431,432,433,434,435,438,440,441,443,444,445,447,448,450,451,452,454,455,457,458,459,461,462,464,465,466,468,469,471,472,473,475,476,478,479,480,482,483,485,486,487,489,490,492,493,494,496,497,499,500,501,503,504,506,507,508,511,512,513,516,517,518,520,521,523,524,525,527,528,530,531,532,534,535,537,538,539,541,542,544,545,546,548,549,551,552,553,555,556,558,559,560,563,564]
def vw:Program:=PySem.W.view pw [0,2,3,4,5,6,7,9,10,12,13,14,15,16,17,18,19,20,21,22,23,24,25,26,28,29,30,31,32,34,35,36,37,38,39,40,41,42,43,44,45,46,47,48]
def en:Env:={ scope:=pw.main.scope,locals:=mainNs,globals:=mainNs,cells:=[],code:=(hR 13),frame:=some 14 }
theorem hk:∀P,as=(KK P).map (·.1):=λ_=>by kernel_rfl
noncomputable abbrev cE:Code:=.body (behindTheImports pw) en
noncomputable abbrev fB:List Frame:=[topFrame ⟨0,0,0,0⟩]
theorem t_pre(w:World)(os:OsState):topGo treeTable pw w 11 (some (.ref 6)) 12 ⟨boot_heap w.params,Array.mk [],boot_drawn,boot_toks,os⟩ (topStub pw)=some (⟨HA w.params,Array.mk [],{},187,os⟩,⟨denote treeTable cE,cE,⟨0,0,0,0⟩,fB⟩):=by kernel_rfl
theorem t_block(w:World)(os:OsState):segRun treeTable pw w 11 (some (.ref 6)) 1 1 ⟨HA w.params,Array.mk [],{},187,os⟩ (blockOf (behindTheImports pw) en cE ⟨0,0,0,0⟩ fB)=some (.next,(SharedT.mk (TB w.params) 15 {} (Array.mk []) {} 187 os).abs,cE,⟨0,0,0,0⟩):=by kernel_rfl
theorem t_body0(w:World)(os:OsState):segRunT treeTable pw w 11 (some (.ref 6)) 1 1703 (SharedT.mk (TB w.params) 15 {} (Array.mk []) {} 187 os) (piecesOf ((behindTheImports pw).take 7) en cE ⟨0,0,0,0⟩ fB)=some (.next,(SharedT.mk (TM0 w.params) 224 {} (Array.mk []) {} 426 os),cE,⟨54,0,69,21⟩):=by kernel_rfl
theorem t_body1(w:World)(os:OsState):segRunT treeTable pw w 11 (some (.ref 6)) 1 1217 (SharedT.mk (TM0 w.params) 224 {} (Array.mk []) {} 426 os) (piecesOf (((behindTheImports pw).drop 7).take 19) en cE ⟨54,0,69,21⟩ fB)=some (.next,(SharedT.mk (TM1 w.params) 384 {} (Array.mk []) {} 642 os),cE,⟨130,0,158,16⟩):=by kernel_rfl
theorem t_body2(w:World)(os:OsState):segRunT treeTable pw w 11 (some (.ref 6)) 1 1174 (SharedT.mk (TM1 w.params) 384 {} (Array.mk []) {} 642 os) (piecesOf ((behindTheImports pw).drop 26) en cE ⟨130,0,158,16⟩ fB)=some (.next,(SharedT.mk (TF w.params) 565 {} (Array.mk []) {} 927 os),cE,⟨336,0,354,45⟩):=by kernel_rfl
theorem t_split:(behindTheImports pw)=((behindTheImports pw).take 7)++((((behindTheImports pw).drop 7).take 19)++(((behindTheImports pw).drop 26)++([]))):=by kernel_rfl
theorem t_fin(w:World)(os:OsState):topRun treeTable pw w 11 (some (.ref 6)) 2 (SharedT.mk (TF w.params) 565 {} (Array.mk []) {} 927 os).abs ⟨doneF .next,cE,⟨336,0,354,45⟩,fB⟩=some ⟨HF w.params,Array.mk [],{},927,os⟩:=by kernel_rfl
theorem t_run(w:World)(os:OsState):topRun treeTable pw w 11 (some (.ref 6)) (12+(1+(1703+(1217+(1174+2))))) ⟨boot_heap w.params,Array.mk [],boot_drawn,boot_toks,os⟩ (topStub pw)=some ⟨HF w.params,Array.mk [],{},927,os⟩:=
 go_top (t_pre w os) (piece_block (q:=⟨0,0,0,0⟩) (t_block w os) (by
  have h:=piece_app (q:=⟨0,0,0,0⟩) (segRun_of (t_body0 w os)) (piece_app (q:=⟨0,0,0,0⟩) (segRun_of (t_body1 w os)) (piece_app (q:=⟨0,0,0,0⟩) (segRun_of (t_body2 w os)) (piece_nil (t_fin w os))))
  rw[←t_split] at h
  exact h))
theorem t_op(w:World):(fencedOpening treeTable pw w 8302).map (λs=>(s.heap,s.gens,s.drawn,s.toks))=some (boot_heap w.params,Array.mk [],boot_drawn,boot_toks):=boot_open (by kernel_rfl) (by decide) (λs=>by kernel_rfl) w
theorem t_size(w:World):((boot_heap w.params).isNs mainGlobals && (Array.mk []:Array GenState).size==0,(boot_heap w.params).objs.size,(boot_heap w.params).nsMap mainGlobals "__annotations__")=(true,11,(some (.ref 6))):=by kernel_rfl
theorem tk1(w:World):staticsOk (importedModules pw.main.body) (boot_heap w.params) (HF w.params)=true:=by kernel_rfl
theorem tk2(w:World):namesBound pw (HF w.params)=true:=by kernel_rfl
theorem tk3(w:World)(os:OsState):gensDone ⟨HF w.params,Array.mk [],{},927,os⟩=true:=by kernel_rfl
theorem tk4(w:World):laidKept (boot_heap w.params) (HF w.params)=true:=by kernel_rfl
open PySem.Calls PyProof.Rows in
theorem tkc0(w:World)(os:OsState):seen ((recsOf vw).map (·.name)) (ownsOf vw) [] (Shared.mk (HF w.params) #[] {} 927 os)=expectedOf vw:=by kernel_rfl
open PySem.Calls PyProof.Rows in
theorem tkc1(w:World)(os:OsState):Heap.bltView (HF w.params)=bltViewBooted:=by kernel_rfl
open PySem.Calls PyProof.Rows in
theorem tkc2a(w:World)(os:OsState):Heap.keysOk (HF w.params) (looseW vw []) ((recsOf vw).map (·.name)) ((litsOf vw).map (·.1)) ((clssOf vw (looseW vw [])).map (·.name))=true:=by kernel_rfl
open PySem.Calls PyProof.Rows in
theorem tkc2b(w:World)(os:OsState):Heap.accountedOkI (HF w.params) (importedModules pw.main.body)=true:=by kernel_rfl
open PySem.Calls PyProof.Rows in
theorem tkc2c(w:World)(os:OsState):Heap.isNs (HF w.params) mainGlobals=true:=by kernel_rfl
open PySem.Calls PyProof.Rows in
theorem tkc2d(w:World)(os:OsState):Heap.isNs (HF w.params) builtinsNs=true:=by kernel_rfl
open PySem.Calls PyProof.Rows in
theorem tkc2e(w:World)(os:OsState):tablesOk vw (HF w.params)=true:=by kernel_rfl
open PySem.Calls PyProof.Rows in
theorem tkc2f(w:World)(os:OsState):(λs=>xlAt vw [] s && recOk (RowW.records PySem.Challenge.rw_mustmay_k23_rooms_parted.row.toRowW) s) ⟨HF w.params,Array.mk [],{},927,os⟩=true:=by kernel_rfl
open PySem.Calls PyProof.Rows in
theorem tkc3(w:World)(os:OsState):tabsOk vw ⟨HF w.params,Array.mk [],{},927,os⟩=true:=by kernel_rfl
open PySem.Calls PyProof.Rows in
theorem tkc4(w:World)(os:OsState):pinSeenD vw (drecsOf vw) ⟨HF w.params,Array.mk [],{},927,os⟩=pinGoodD (drecsOf vw):=by kernel_rfl
open PySem.Calls PyProof.Rows in
theorem tkc5(w:World)(os:OsState):plainSeenE vw (looseW vw []) ⟨HF w.params,Array.mk [],{},927,os⟩=plainGoodE vw (looseW vw []):=by kernel_rfl
open PySem.Calls PyProof.Rows in
theorem tkc6(w:World)(os:OsState):plainSeenD vw [] ⟨HF w.params,Array.mk [],{},927,os⟩=plainGoodD vw []:=by kernel_rfl
open PySem.Calls PyProof.Rows in
theorem tkc7(w:World)(os:OsState):wideSeen vw ⟨HF w.params,Array.mk [],{},927,os⟩=wideGood vw:=by kernel_rfl
open PySem.Calls PyProof.Rows in
theorem tkc8(w:World)(os:OsState):clsSeenW vw [] ⟨HF w.params,Array.mk [],{},927,os⟩=clsGoodW vw []:=by kernel_rfl
theorem and7{a b c d e f g:Bool}(h1:a=true)(h2:b=true)(h3:c=true)(h4:d=true)(h5:e=true)(h6:f=true)(h7:g=true):(a && b && c && d && e && f && g)=true:=by rw[h1,h2,h3,h4,h5,h6,h7];rfl
theorem ext9{A0 A1 A2 A3 A4 A5 A6 A7 A8:Type}{a0 b0:A0}{a1 b1:A1}{a2 b2:A2}{a3 b3:A3}{a4 b4:A4}{a5 b5:A5}{a6 b6:A6}{a7 b7:A7}{a8 b8:A8}(h0:a0=b0)(h1:a1=b1)(h2:a2=b2)(h3:a3=b3)(h4:a4=b4)(h5:a5=b5)(h6:a6=b6)(h7:a7=b7)(h8:a8=b8):(a0,a1,a2,a3,a4,a5,a6,a7,a8)=(b0,b1,b2,b3,b4,b5,b6,b7,b8):=by rw[h0,h1,h2,h3,h4,h5,h6,h7,h8]
theorem tk5(w:World)(os:OsState):(openSeen vw [] (importedModules pw.main.body) (λs=>xlAt vw [] s && recOk (RowW.records PySem.Challenge.rw_mustmay_k23_rooms_parted.row.toRowW) s) true ⟨HF w.params,Array.mk [],{},927,os⟩)=openGood vw []:=by
 unfold openSeen openGood
 exact ext9 (tkc0 w os) (tkc1 w os) (and7 (tkc2a w os) (tkc2b w os) (tkc2c w os) (tkc2d w os) (tkc2e w os) (tkc2f w os) rfl) (tkc3 w os) (tkc4 w os) (tkc5 w os) (tkc6 w os) (tkc7 w os) (tkc8 w os)
theorem tk6(w:World)(os:OsState):Hook.obs (kHook KK as hk) ⟨HF w.params,Array.mk [],{},927,os⟩=Hook.val (kHook KK as hk) w:=by kernel_rfl
theorem t_left:LeftO pw vw [] (λs=>xlAt vw [] s && recOk (RowW.records PySem.Challenge.rw_mustmay_k23_rooms_parted.row.toRowW) s) (Hook.obs (kHook KK as hk)) (Hook.val (kHook KK as hk)) 8302 true :=
 LeftO.of_pieces (H₀:=boot_heap) (H₁:=HF) (m₀:=11) (ann:=(some (.ref 6))) (M:=(12+(1+(1703+(1217+(1174+2)))))) t_op t_size t_run (by decide) λw=>funext λos=>Prod.ext (by dsimp only;rw[tk1,tk2,tk3,tk4];rfl) (Prod.ext (tk5 w os) (tk6 w os))
end
end K10
local macro_rules
 | `(tactic| walk_at $s:str)=>do
  unless s.getString=="f" do Lean.Macro.throwUnsupported
  `(tactic| first
  | (refine' DL.zc.of ?_ ?_ ?_ ?_ ?_ ?_ ?_ ?_ ?_ <;> first | k_is | skip)
  | (refine' DL.TX.mk ?_ (DL.FX.of ?_ ?_ ?_ ?_) <;> first | k_is | skip)
  | (refine' DL.FX.of ?_ ?_ ?_ ?_ <;> first | k_is | skip)
  | (refine' DL.MkF.mk ?_ ?_ ?_ <;> first | k_is | skip)
  | (refine' DL.GetF.mk ?_ ?_ <;> first | k_is | skip)
  | (show findIn _ _ _=_;k_is)
  | k_is
  | decide
  | skip)
namespace K10
open PySem PySem.W PyProof.Rows L2 MX DL
set_option maxRecDepth 100000 in
set_option maxHeartbeats 0 in
theorem Vs(w:World)(mg:Str->Option Value)(fa:Addr)(h:Heap)(KX:(KK w.params).In h)(G:h.Ns mainGlobals mg)(hmg:mg "law"=some (.ref fa)):∃fd:FuncData,(∀(s:Shared)(u:Value),BindsTo s fd ⟨[u],[]⟩ [("_law_script",u)])/\∀base:Heap,(KK w.params).In base->base.Ns mainGlobals mg->cP PySem.Challenge.rw_mustmay_k23_rooms_parted.prog w (KK w.params) mg base CX0 9 fa fd ["_law_script"] (Q5 (KK w.params)):=by
 k_fill
 refine' all_mk (l:=PySem.Challenge.rw_mustmay_k23_rooms_parted) KX G hmg ?_ ?_ ?_ ?_ ?_ ?_ ?_ ?_ ?_ ?_ ?_ ?_ ?_ ?_ ?_ ?_ ?_ ?_ ?_ ?_ ?_ ?_ ?_ ?_ ?_ ?_ ?_ ?_ ?_ ?_ ?_ ?_ ?_ ?_ ?_ ?_ ?_ ?_ ?_ ?_ ?_ ?_ ?_ ?_ ?_ ?_ ?_ ?_ ?_ ?_ ?_ ?_ ?_ ?_ ?_ ?_ ?_ ?_ ?_ ?_ ?_ ?_ ?_ ?_ ?_ ?_ ?_ ?_ ?_ ?_ ?_ ?_ ?_ ?_ ?_ ?_ ?_ ?_ ?_ ?_ ?_ ?_ ?_ ?_ ?_ ?_ ?_ ?_ ?_ ?_ ?_ ?_ ?_ ?_ ?_ ?_ ?_ ?_ ?_ ?_ ?_ ?_ ?_ ?_ ?_ ?_ ?_ ?_ ?_ ?_ ?_ ?_ ?_ ?_ ?_ ?_ ?_ ?_ ?_ ?_ ?_ ?_ ?_ ?_ ?_ ?_ ?_ ?_ ?_ ?_ ?_ ?_ ?_ <;> walk_at "f"
end K10
open PySem PySem.W PyProof.Rows
set_option maxRecDepth 100000 in
set_option maxHeartbeats 0 in
theorem PySem.Challenge.cw_mustmay_k23_rooms_parted_holds : PySem.Challenge.rw_mustmay_k23_rooms_parted.Holds := by
 w_on
 refine PySem.W.holds_law h_said λsaid=>?_
 refine holds_open (q:=K10.vw) (loose:=[]) (Xt:=λs=>xlAt K10.vw [] s && recOk (RowW.records PySem.Challenge.rw_mustmay_k23_rooms_parted.row.toRowW) s) (XP:=XL K10.vw []) (Yf:=Hook.obs (kHook K10.KK K10.as K10.hk)) (Ya:=Hook.val (kHook K10.KK K10.as K10.hk)) (YP:=Hook.says (kHook K10.KK K10.as K10.hk)) (N:=8302) K10.t_left (Hook.of (kHook K10.KK K10.as K10.hk)) (Hook.keeps (kHook K10.KK K10.as K10.hk)) (λs e=>xl_of s (Bool.and_eq_true_iff.mp e).1) XL.keeps (by rfl) (by rfl) (by rfl) (λs e=>recFacts_of (Bool.and_eq_true_iff.mp e).2) (by rfl) said (by decide +kernel) h_bare ?hw ?hc
 (case hw=>w_witness2)
 k_fill
 refine K10.walk (l:=PySem.Challenge.rw_mustmay_k23_rooms_parted) rfl rfl (λw h Y=>PySem.W.kIn_of Y) ?F
 case F =>
  intro w mg fa h KX G hmg
  exact K10.Vs w mg fa h KX G hmg
