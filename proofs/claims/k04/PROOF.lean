import PyProof.Rows.All
import Wide.All
import OpenK.AllK
import Wide.FinOn
import Lean
import PyProof.EqAt
import PyProof.EqKinds
import PyProof.TupleCall
import PyProof.ExcClass2
import PyProof.NsCount
import PyProof.StationsW
import PyProof.PassesOwn
import PyProof.Commute
import PyProof.RulesAs
import PyProof.NsDelKeeps
import KE.KTryMore
import PyProof.AttrMissHeap
import PyProof.Walks
import PyProof.ListNew
import KE.KDictOf
import PyProof.FactsAll.NoneType_1
import PyProof.FactsAll.list_3
import PySem.Challenge.RW_mustmay_k04_begun_and_free
set_option Elab.async false
set_option linter.all false
set_option maxRecDepth 100000
namespace L2
open PySem PySem.Spec PyProof.Rows
abbrev Key:=Sum Int Str
def M4:Key→Value→Bool
 | .inl k,v=>Value.isInt k v
 | .inr x,v=>Value.isStrOf x v
def keyH (w:World):Key→Int
 | .inl k=>hashInt k
 | .inr x=>hashStr w x
theorem bW:∀ {k:Key} {v:Value},M4 k v = true→(∃ i t,k = Sum.inl i∧v = Value.int i t) ∨ (∃ x t,k = Sum.inr x∧v = Value.str x t)
 | .inl i,v,h=>by
   obtain ⟨t,e⟩:=Value.isInt_shape (k:=i) (v:=v) h
   exact .inl ⟨i,t,rfl,e⟩
 | .inr x,v,h=>by
   obtain ⟨t,e⟩:=Value.isStrOf_shape (x:=x) (v:=v) h
   exact .inr ⟨x,t,rfl,e⟩
theorem ai0 (i:Int) (t:Tok):M4 (.inl i) (.int i t) = true:=by simp [M4,Value.isInt]
theorem ai1 (x:Str) (t:Tok):M4 (.inr x) (.str x t) = true:=by simp [M4,Value.isStrOf]
theorem key_ll (a b:Int):decide ((Sum.inl a:Key) = Sum.inl b) = (a == b):=by
 by_cases e:a = b
 · subst e; simp
 · have h:¬ (Sum.inl a:Key) = Sum.inl b:=fun q=>e (Sum.inl.inj q)
   rw [decide_eq_false h]
   exact (beq_eq_false_iff_ne.mpr e).symm
theorem key_rr (a b:Str):decide ((Sum.inr a:Key) = Sum.inr b) = decide (a = b):=by
 by_cases e:a = b
 · subst e; simp
 · have h:¬ (Sum.inr a:Key) = Sum.inr b:=fun q=>e (Sum.inr.inj q)
   rw [decide_eq_false h,decide_eq_false e]
theorem key_lr (a:Int) (b:Str):decide ((Sum.inl a:Key) = Sum.inr b) = false:=decide_eq_false (fun q=>nomatch q)
theorem key_rl (a:Str) (b:Int):decide ((Sum.inr a:Key) = Sum.inl b) = false:=decide_eq_false (fun q=>nomatch q)
def cj (prog:Program) (w:World):PySem.KeyKind prog w Key where
 is:=M4
 hash:=keyH w
 inj:=fun v a b ha hb=>by
   rcases bW ha with ⟨i,t,rfl,rfl⟩ | ⟨x,t,rfl,rfl⟩
   · rcases bW hb with ⟨j,u,rfl,e⟩ | ⟨y,u,rfl,e⟩
     · injection e with e1 _; rw [e1]
     · exact nomatch e
   · rcases bW hb with ⟨j,u,rfl,e⟩ | ⟨y,u,rfl,e⟩
     · exact nomatch e
     · injection e with e1 _; rw [e1]
 byValue:=fun k v h=>by
   rcases bW h with ⟨i,t,rfl,rfl⟩ | ⟨x,t,rfl,rfl⟩ <;> rfl
 pyHash:=fun hv h=>by
   rcases bW hv with ⟨i,t,rfl,rfl⟩ | ⟨x,t,rfl,rfl⟩
   · exact wpAny_pyHash_int h
   · exact wpAny_pyHash_str h
 eqBool:=fun hu hv h=>by
   rcases bW hu with ⟨i,t,rfl,rfl⟩ | ⟨x,t,rfl,rfl⟩
   · rcases bW hv with ⟨j,u,rfl,rfl⟩ | ⟨y,u,rfl,rfl⟩
     · rw [key_ll] at h; exact wpAny_eqBool_int h
     · rw [key_lr] at h; exact SeqAt.EqAt.int_str i t y u _ _ _ _ h
   · rcases bW hv with ⟨j,u,rfl,rfl⟩ | ⟨y,u,rfl,rfl⟩
     · rw [key_rl] at h; exact SeqAt.EqAt.str_int x t j u _ _ _ _ h
     · rw [key_rr] at h; exact wpAny_eqBool_str h
 «strs»:=fun k x t v h=>by
   rcases bW h with ⟨i,u,rfl,e⟩ | ⟨y,u,rfl,e⟩
   · exact nomatch e
   · injection e with e1 _
     subst e1
     cases v <;> rfl
theorem aeL (prog:Program) (w:World) (i:Int) (t:Tok):(cj prog w).is (.inl i) (.int i t) = true:=ai0 i t
theorem aeM (prog:Program) (w:World) (x:Str) (t:Tok):(cj prog w).is (.inr x) (.str x t) = true:=ai1 x t
end L2
namespace L2
open PySem PySem.Spec PyProof.Rows
inductive V where
 | non | bl (b:Bool) | int (i:Int) | str (x:Str) | byt (b:Array UInt8) | flt (b:UInt64) | ref (a:Addr) | ty (n:String)
 deriving DecidableEq
def RelV:V→Value→Prop
 | .non,u=>u = Value.none
 | .bl b,u=>u = Value.bool b
 | .int i,u=>∃ t,u = Value.int i t
 | .str x,u=>∃ t,u = Value.str x t
 | .byt b,u=>∃ t,u = Value.bytes b t
 | .flt b,u=>∃ t,u = Value.float b t
 | .ref a,u=>u = Value.ref a
 | .ty n,u=>u = Value.type n
abbrev Vals:List V→List Value→Prop:=Paired RelV
theorem Vals.length {xs:List V} {us:List Value} (r:Vals xs us):xs.length = us.length:=Paired.length r
theorem Vals.get:∀ {xs:List V} {us:List Value} {i:Nat} {x:V},Vals xs us→xs[i]? = some x→∃ u,us[i]? = some u∧RelV x u
 | _,_,_,_,.nil,e=>by simp at e
 | _,_,0,_,.cons r _,e=>by simp at e; subst e; exact ⟨_,rfl,r⟩
 | _,_,i + 1,x,.cons _ t,e=>by
   obtain ⟨u,h1,h2⟩:=Vals.get (i:=i) (x:=x) t (by simpa using e)
   exact ⟨u,by simpa using h1,h2⟩
theorem Vals.set {x:V} {u:Value} (r:RelV x u):∀ {xs:List V} {us:List Value} (i:Nat),Vals xs us→Vals (xs.set i x) (us.set i u)
 | _,_,_,.nil=>.nil
 | _,_,0,.cons _ t=>.cons r t
 | _,_,i + 1,.cons q t=>.cons q (Vals.set r i t)
theorem Vals.append:∀ {xs ys:List V} {us ws:List Value},Vals xs us→Vals ys ws→Vals (xs ++ ys) (us ++ ws)
 | _,_,_,_,.nil,s=>s
 | _,_,_,_,.cons r t,s=>.cons r (Vals.append t s)
theorem Vals.take:∀ {xs:List V} {us:List Value} (n:Nat),Vals xs us→Vals (xs.take n) (us.take n)
 | _,_,0,_=>.nil
 | _,_,_ + 1,.nil=>.nil
 | _,_,n + 1,.cons r t=>.cons r (Vals.take n t)
theorem Vals.drop:∀ {xs:List V} {us:List Value} (n:Nat),Vals xs us→Vals (xs.drop n) (us.drop n)
 | _,_,0,r=>r
 | _,_,_ + 1,.nil=>.nil
 | _,_,n + 1,.cons _ t=>Vals.drop n t
theorem Vals.none_of:∀ {xs:List V} {us:List Value} {i:Nat},Vals xs us→xs[i]? = none→us[i]? = none:=fun {xs us i} r e=>by
 have h1:=r.length
 have h2:xs.length ≤ i:=List.getElem?_eq_none_iff.mp e
 exact List.getElem?_eq_none_iff.mpr (by omega)
def v9:Option V→Option Value→Prop
 | some v,some u=>RelV v u
 | none,none=>True
 | _,_=>False
def KV {κ:Type}:List (κ × V)→List (κ × Value)→Prop:=Paired fun (p:κ × V) (q:κ × Value)=>p.1 = q.1∧RelV p.2 q.2
def kV:Key→V
 | .inl i=>.int i
 | .inr x=>.str x
inductive HO where
 | lst (xs:List V)
 | tup (xs:List V)
 | dK (kvs:List (Key × V)) | dT (kvs:List (List Key × V))
 | set (S:Int→Bool) (n:Nat)
 | ins (C dx:Addr) (fs:List (Str × V))
 | own (x:Addr)
 | xd (fs:List (Str × V))
 | met (f x:Addr)
 | rng (lo hi:Int)
 | frz (o:Obj) (u:HO)
 | tbl (ps:Array Value)
 | ext (φ:Heap→Prop)
abbrev Hp:=Addr→Option HO
def upd (H:Hp) (a:Addr) (o:HO):Hp:=fun b=>if b = a then some o else H b
theorem aG {H:Hp} {a:Addr} {o:HO}:upd H a o a = some o:=by unfold upd; rw [if_pos rfl]
theorem az {H:Hp} {a b:Addr} {o:HO} (h:b ≠ a):upd H a o b = H b:=by unfold upd; rw [if_neg h]
theorem aK {H:Hp} {a b:Addr} {o:HO} (h:H a = some o) (h':H b = none):a ≠ b:=by
 intro e; subst e; rw [h] at h'; cases h'
section
variable (P:Program) (w:World)
def c7 (H:Hp) (h:Heap) (a:Addr):HO→Prop
 | .lst xs=>xs.length ≤ sizeLine∧∃ (its:List Value) (n:Nat),Vals xs its∧h.get? a = some { cls:=.type "list",data:=.seq its.toArray n }
 | .tup xs=>xs.length ≤ sizeLine∧∃ its:List Value,Vals xs its∧IsTup h a its.toArray
 | .dK kvs=>kvs.length ≤ sizeLine∧(a == sysModules) = false∧∃ vs,KV kvs vs∧h.DictOf (cj P w) a vs
 | .dT kvs=>kvs.length ≤ sizeLine∧(a == sysModules) = false∧∃ xs:List (List Key × Addr × Value),
     Paired (fun (p:List Key × V) (q:List Key × Addr × Value)=>p.1 = q.1∧H q.2.1 = some (.tup (p.1.map kV))∧RelV p.2 q.2.2) kvs xs ∧
     ∃ o es ep,h.get? a = some o∧o.ExactDict∧o.data = .dict es ep∧es.toList = xs.map (entryOfKey (tupleKind (cj P w)))∧(xs.map (·.1)).Nodup
 | .set S n=>h.SetOf (intKind P w) a S n
 | .ins C dx fs=>H dx = some (.own a)∧fs.length ≤ 1000∧dx ≠ a∧h.get? a = some (PySem.W.instObj C dx) ∧
     ∃ mA,h.Ns1 dx mA∧(∀ f,v9 (fs.lookup f) (mA f))∧PySem.Within mA (fs.map (·.1))
 | .own _=>∃ o,h.get? a = some o
 | .xd fs=>∃ mA,h.Ns1 a mA∧∀ f,v9 (fs.lookup f) (mA f)
 | .rng lo hi=>∃ t u v,h.get? a = some { cls:=.type "range",data:=.fields #[.int lo t,.int hi u,.int 1 v] }
 | .frz o u=>h.get? a = some o∧c7 H h a u
 | .tbl ps=>h.get? a = some { cls:=.none,data:=.fields ps }
 | .met f x=>h.get? a = some (PySem.W.methodObj (.ref f) (.ref x))
 | .ext φ=>φ h∧(∃ o,h.get? a = some o)∧∀ h1 h2:Heap,φ h1→(∀ o,h1.get? a = some o→h2.get? a = some o)→φ h2
def HOk (H:Hp) (h:Heap):Prop:=∀ a o,H a = some o→c7 P w H h a o
end
section
variable {P:Program} {w:World} {H H':Hp} {h h':Heap} {a:Addr} {o:HO}
theorem c7.lt (x:c7 P w H h a o):a < h.objs.size:=by
 cases o with
 | lst xs=>obtain ⟨_,_,_,_,e⟩:=x; exact Heap.lt_size e
 | tup xs=>obtain ⟨_,_,_,p⟩:=x; exact p.lt
 | dK kvs=>obtain ⟨_,_,_,_,o,_,_,e,_⟩:=x; exact Heap.lt_size e
 | dT kvs=>obtain ⟨_,_,_,_,o,_,_,e,_⟩:=x; exact Heap.lt_size e
 | set S n=>obtain ⟨o,_,_,_,e,_⟩:=x; exact Heap.lt_size e
 | ins C dx fs=>obtain ⟨_,_,_,e,_⟩:=x; exact Heap.lt_size e
 | own y=>obtain ⟨_,e⟩:=x; exact Heap.lt_size e
 | xd fs=>obtain ⟨_,⟨_,_,_,e,_⟩,_⟩:=x; exact Heap.lt_size e
 | rng lo hi=>obtain ⟨_,_,_,e⟩:=x; exact Heap.lt_size e
 | frz ob u=>obtain ⟨e,_⟩:=x; exact Heap.lt_size e
 | tbl ps=>exact Heap.lt_size (show h.get? a = some _ from x)
 | met f y=>exact Heap.lt_size (show h.get? a = some _ from x)
 | ext φ=>obtain ⟨_,⟨_,e⟩,_⟩:=x; exact Heap.lt_size e
theorem Paired.mapP {α β:Type} {F G:α→β→Prop}:∀ {l₁:List α} {l₂:List β},Paired F l₁ l₂→(∀ a b,F a b→G a b)→Paired G l₁ l₂
 | _,_,.nil,_=>.nil
 | _,_,.cons r t,f=>.cons (f _ _ r) (Paired.mapP t f)
theorem c7.stay (x:c7 P w H h a o) (k:∀ b u,(b = a ∨ H b = some (.own a))→h.get? b = some u→h'.get? b = some u)
   (ho:∀ b,H b = some (.own a)→H' b = some (.own a)) (ht:∀ b xs,H b = some (.tup xs)→H' b = some (.tup xs)):c7 P w H' h' a o:=by
 induction o with
 | lst xs=>obtain ⟨z,its,n,r,e⟩:=x; exact ⟨z,its,n,r,k _ _ (.inl rfl) e⟩
 | tup xs=>obtain ⟨z,its,r,ob,e,c⟩:=x; exact ⟨z,its,r,ob,k _ _ (.inl rfl) e,c⟩
 | dK kvs=>obtain ⟨z,y,vs,r,ob,es,ep,e,c⟩:=x; exact ⟨z,y,vs,r,ob,es,ep,k _ _ (.inl rfl) e,c⟩
 | dT kvs =>
   obtain ⟨z,y,xs,r,ob,es,ep,e,c⟩:=x
   exact ⟨z,y,xs,Paired.mapP r fun p q z=>⟨z.1,ht _ _ z.2.1,z.2.2⟩,ob,es,ep,k _ _ (.inl rfl) e,c⟩
 | set S n=>obtain ⟨ob,es,ep,t,e,c⟩:=x; exact ⟨ob,es,ep,t,k _ _ (.inl rfl) e,c⟩
 | ins C dx fs =>
   obtain ⟨d,z,ne,e,mA,⟨od,es,ep,e2,c⟩,r⟩:=x
   exact ⟨ho _ d,z,ne,k _ _ (.inl rfl) e,mA,⟨od,es,ep,k _ _ (.inr d) e2,c⟩,r⟩
 | own y=>obtain ⟨ob,e⟩:=x; exact ⟨ob,k _ _ (.inl rfl) e⟩
 | xd fs=>obtain ⟨mA,⟨od,es,ep,e,c⟩,r⟩:=x; exact ⟨mA,⟨od,es,ep,k _ _ (.inl rfl) e,c⟩,r⟩
 | rng lo hi=>obtain ⟨t,u,v,e⟩:=x; exact ⟨t,u,v,k _ _ (.inl rfl) e⟩
 | frz ob u ih=>obtain ⟨e,q⟩:=x; exact ⟨k _ _ (.inl rfl) e,ih q⟩
 | tbl ps =>
   have e:h.get? a = some { cls:=.none,data:=.fields ps }:=x
   show h'.get? a = some { cls:=.none,data:=.fields ps }
   exact k a _ (.inl rfl) e
 | met f y =>
   have e:h.get? a = some (PySem.W.methodObj (.ref f) (.ref y)):=x
   show h'.get? a = some (PySem.W.methodObj (.ref f) (.ref y))
   exact k a _ (.inl rfl) e
 | ext φ=>obtain ⟨p,⟨o,e⟩,st⟩:=x; exact ⟨st _ _ p fun o q=>k _ _ (.inl rfl) q,⟨o,k _ _ (.inl rfl) e⟩,st⟩
theorem HOk.lt (x:HOk P w H h) (e:H a = some o):a < h.objs.size:=(x a o e).lt
theorem HOk.fresh (x:HOk P w H h) (e:h.objs.size ≤ a):H a = none:=by
 cases q:H a with
 | none=>rfl
 | some u=>exact absurd (Nat.lt_of_lt_of_le (x.lt q) e) (Nat.lt_irrefl _)
theorem HOk.kept (x:HOk P w H h) (k:∀ b u,h.get? b = some u→h'.get? b = some u):HOk P w H h':=fun a o e =>
 (x a o e).stay (fun b u _ q=>k b u q) (fun _ q=>q) fun _ _ q=>q
theorem HOk.laid (x:HOk P w H h) (k:∀ b u,h.get? b = some u→h'.get? b = some u) (hp:h.objs.size ≤ a) (new:c7 P w (upd H a o) h' a o):HOk P w (upd H a o) h':=fun b u e=>by
 have hn:=x.fresh hp
 by_cases hb:b = a
 · subst hb; rw [aG] at e; cases e; exact new
 · rw [az hb] at e
   exact (x b u e).stay (fun c v _ q=>k c v q) (fun c q=>by rw [az (aK q hn)]; exact q) fun c xs q=>by rw [az (aK q hn)]; exact q
end
def Rd (H:Hp) (a:Addr) (u:HO):Prop:=H a = some u ∨ ∃ o,H a = some (.frz o u)
theorem Rd.of {H:Hp} {a:Addr} {u:HO} (h:H a = some u):Rd H a u:=.inl h
theorem Rd.ok {P:Program} {w:World} {H:Hp} {h:Heap} {a:Addr} {u:HO} (r:Rd H a u) (x:HOk P w H h):c7 P w H h a u:=by
 rcases r with r | ⟨o,r⟩
 · exact x a u r
 · obtain ⟨_,q⟩:=x a _ r
   exact q
def Mut:Option HO→Prop
 | some (.lst _)=>True
 | some (.dK _)=>True
 | some (.dT _)=>True
 | some (.set _ _)=>True
 | some (.ins _ _ _)=>True
 | some (.ext _)=>True
 | _=>False
section
variable {P:Program} {w:World} {H:Hp} {h h':Heap} {x e:Addr} {o':HO}
theorem HOk.write (ok:HOk P w H h) (mu:Mut (H x)) (he:e = x ∨ H e = some (.own x)) (k:∀ b u,b ≠ e→h.get? b = some u→h'.get? b = some u) (heo:∃ u,h'.get? e = some u)
   (new:c7 P w (upd H x o') h' x o'):HOk P w (upd H x o') h':=fun b u q=>by
 have nown:∀ c y,H c = some (.own y)→c ≠ x:=fun c y r z=>by subst z; rw [r] at mu; exact mu
 have ntup:∀ c xs,H c = some (.tup xs)→c ≠ x:=fun c xs r z=>by subst z; rw [r] at mu; exact mu
 by_cases hb:b = x
 · subst hb; rw [aG] at q; cases q; exact new
 · rw [az hb] at q
   by_cases hbe:b = e
   · have q':H b = some (.own x):=by
       rcases he with z | z
       · exact absurd (hbe.trans z) hb
       · rw [hbe]; exact z
     rw [q] at q'; cases q'
     obtain ⟨v,hv⟩:=heo
     exact ⟨v,by rw [hbe]; exact hv⟩
   · refine (ok b u q).stay (fun c v hc r=>k c v ?_ r) (fun c r=>by rw [az (nown c b r)]; exact r) fun c xs r=>by rw [az (ntup c xs r)]; exact r
     rcases hc with rfl | hc
     · exact hbe
     · rintro rfl
       rcases he with z | z
       · exact nown c b hc z
       · rw [hc] at z; cases z; exact hb rfl
end
structure Un (fs ex:List Addr) (H H':Hp) (h h':Heap):Prop where
 keep:∀ b o,h.get? b = some o→H b = none→b ∉ fs→b ∉ ex→h'.get? b = some o
 slot:∀ b o,h.get? b = some o→H b = none→b ∈ fs→b ∉ ex→∃ sl,h'.get? b = some { o with slots:=sl }
 free:∀ b o,h.get? b = some o→H b = none→b ∉ ex→H' b = none
 there:∀ b o,h.get? b = some o→b ∉ ex→∃ o',h'.get? b = some o'
 tups:∀ b xs,H b = some (.tup xs)→H' b = some (.tup xs)
 DK:∀ b o u,H b = some (.frz o u)→H' b = some (.frz o u)
 Hd:∀ b ps,H b = some (.tbl ps)→∃ more,H' b = some (.tbl (ps ++ more))
section
variable {fs fs' ex ex':List Addr} {H H1 H2:Hp} {h h1 h2 h':Heap} {a x e:Addr} {o:HO}
theorem Un.any (u:Un fs ex H H1 h h1) {b:Addr} {ob:Obj} (q:h.get? b = some ob) (n:H b = none) (hx:b ∉ ex):∃ sl,h1.get? b = some { ob with slots:=sl }:=by
 by_cases hb:b ∈ fs
 · exact u.slot b ob q n hb hx
 · exact ⟨ob.slots,u.keep b ob q n hb hx⟩
theorem Un.trans (a:Un fs ex H H1 h h1) (b:Un fs ex H1 H2 h1 h2):Un fs ex H H2 h h2 where
 keep:=fun c ob q n hc hx=>b.keep c ob (a.keep c ob q n hc hx) (a.free c ob q n hx) hc hx
 slot:=fun c ob q n hc hx=>by
   obtain ⟨sl,e1⟩:=a.slot c ob q n hc hx
   obtain ⟨sl',e2⟩:=b.slot c _ e1 (a.free c ob q n hx) hc hx
   exact ⟨sl',e2⟩
 free:=fun c ob q n hx=>by
   obtain ⟨o',e1⟩:=a.there c ob q hx
   exact b.free c o' e1 (a.free c ob q n hx) hx
 there:=fun c ob q hx=>by
   obtain ⟨o',e1⟩:=a.there c ob q hx
   exact b.there c o' e1 hx
 tups:=fun c xs q=>b.tups c xs (a.tups c xs q)
 DK:=fun c ob xs q=>b.DK c ob xs (a.DK c ob xs q)
 Hd:=fun c ps q=>by
   obtain ⟨m1,e1⟩:=a.Hd c ps q
   obtain ⟨m2,e2⟩:=b.Hd c _ e1
   exact ⟨m1 ++ m2,by rw [e2,Array.append_assoc]⟩
theorem Un.kept (k:∀ b u,h.get? b = some u→h'.get? b = some u):Un fs ex H H h h' :=
 ⟨fun b ob q _ _ _=>k b ob q,fun b ob q _ _ _=>⟨ob.slots,k b ob q⟩,fun _ _ _ n _=>n,fun b ob q _=>⟨ob,k b ob q⟩,fun _ _ q=>q,fun _ _ _ q=>q,fun _ ps q=>⟨#[],by rw [q]; simp⟩⟩
theorem Un.refl:Un fs ex H H h h:=Un.kept fun _ _ q=>q
theorem Un.laid (k:∀ b u,h.get? b = some u→h'.get? b = some u) (hp:h.objs.size ≤ a) (hn:H a = none):Un fs ex H (upd H a o) h h' where
 keep:=fun b u q _ _ _=>k b u q
 slot:=fun b u q _ _ _=>⟨u.slots,k b u q⟩
 free:=fun b u q n _=>by rw [az (Nat.ne_of_lt (Nat.lt_of_lt_of_le (Heap.lt_size q) hp))]; exact n
 there:=fun b u q _=>⟨u,k b u q⟩
 tups:=fun b xs q=>by rw [az (aK q hn)]; exact q
 DK:=fun b u xs q=>by rw [az (aK q hn)]; exact q
 Hd:=fun b ps q=>⟨#[],by rw [az (aK q hn),q]; simp⟩
theorem Un.write (mu:Mut (H x)) (he:e = x ∨ H e = some (.own x)) (k:∀ b u,b ≠ e→h.get? b = some u→h'.get? b = some u) (heo:∃ u,h'.get? e = some u):Un fs ex H (upd H x o) h h':=by
 have hx:∀ b,H b = none→b ≠ x:=fun b n z=>by subst z; rw [n] at mu; exact mu
 have hb:∀ b,H b = none→b ≠ e:=fun b n z=>by
   subst z
   rcases he with r | r
   · exact hx b n r
   · rw [n] at r; cases r
 have hm:∀ b u,H b = some u→¬ Mut (some u)→b ≠ x:=fun b u q nm z=>by subst z; rw [q] at mu; exact nm mu
 refine ⟨fun b u q n _ _=>k b u (hb b n) q,fun b u q n _ _=>⟨u.slots,k b u (hb b n) q⟩,fun b u q n _=>by rw [az (hx b n)]; exact n,fun b u q _=>?_,
   fun b xs q=>by rw [az (hm b _ q fun z=>z)]; exact q,fun b u xs q=>by rw [az (hm b _ q fun z=>z)]; exact q,fun b ps q=>⟨#[],by rw [az (hm b _ q fun z=>z),q]; simp⟩⟩
 by_cases hbe:b = e
 · subst hbe; exact heo
 · exact ⟨u,k b u hbe q⟩
theorem Un.mono (u:Un fs ex H H1 h h1) (hs:∀ b ∈ fs,b ∈ fs') (hx:∀ b ∈ ex,b ∈ ex'):Un fs' ex' H H1 h h1 :=
 ⟨fun b ob q n hb he=>u.keep b ob q n (fun z=>hb (hs b z)) fun z=>he (hx b z),fun _ _ q n _ he=>u.any q n fun z=>he (hx _ z),fun b ob q n he=>u.free b ob q n fun z=>he (hx b z),fun b ob q he=>u.there b ob q fun z=>he (hx b z),u.tups,u.DK,u.Hd⟩
end
def trk (h:Heap) (H:Hp):List Addr:=(List.range h.objs.size).filter fun a=>(H a).isSome
def hidT (h:Heap) (H:Hp):Heap:=PySem.W.hideAll h (trk h H)
theorem aiP (h:Heap) (H:Hp):(hidT h H).objs.size = h.objs.size:=PySem.W.hideAll_size _ _
theorem hidT_get {h:Heap} {H:Hp} {b:Addr} {o:Obj} (e:h.get? b = some o) (n:H b = none):(hidT h H).get? b = some o :=
 PySem.W.hideAll_get _ e fun hm=>by
   have q:(H b).isSome = true:=(List.mem_filter.mp hm).2
   rw [n] at q; simp at q
theorem of_hidT {h:Heap} {H:Hp} {b:Addr} {o:Obj} (e:(hidT h H).get? b = some o):h.get? b = some o∧H b = none:=by
 have e':h.get? b = some o:=PySem.W.of_hideAll (trk h H) e
 refine ⟨e',?_⟩
 cases q:H b with
 | none=>rfl
 | some x =>
   have hm:b ∈ trk h H:=List.mem_filter.mpr ⟨List.mem_range.mpr (Heap.lt_size e'),by simp [q]⟩
   have z:(hidT h H).get? b = none:=PySem.W.hideAll_none (trk h H) hm
   rw [z] at e; cases e
def allNews (g h:Heap) (L:Addr):List (Addr × Obj):=(List.range h.objs.size).filterMap fun a=>if a = L ∨ (g.get? a).isSome = true then none else (h.get? a).map fun o=>(a,o)
def rest (g h:Heap) (L d:Addr):List (Addr × Obj):=(allNews g h L).filter fun p=>decide (p.1 ≠ d)
end L2
namespace L2
open PySem PySem.Spec PyProof.Rows
structure Mod (K:PySem.W.Frag) (mg:Str→Option Value) (base:Heap):Prop where
 kin:K.In base
 glob:base.Ns mainGlobals mg
 blt:∃ mb,base.Ns builtinsNs mb∧∀ x:Str,x ≠ "__name__"→mb x = bootBuiltins x
 nolimit:base.NoLimit
structure Cx where
 prog:Program
 w:World
 K:PySem.W.Frag
 mg:Str→Option Value
 base:Heap
 A:Around
 N:List Str
 s₀:Shared
 H₀:Hp
 env:Env
 outer:List Env
 stack:List Env
 ex:List Addr
 fn:Str→Bool
 calm:Bool
 pn:List (Addr × Obj)
 xe:Value→Shared→Prop
def frs (l:List Env):List Addr:=l.filterMap (·.frame)
abbrev Cx.fs (X:Cx):List Addr:=frs X.outer
def Vis (sc:Scope) (x:Str):Prop:=sc.names.lookup x = some .local ∨ sc.names.lookup x = some .cell ∨ sc.names.lookup x = some .free
def Loc (sc:Scope) (x:Str):Prop:=sc.names.lookup x = some .local ∨ sc.names.lookup x = some .cell
def Look (env:Env) (h:Heap) (m:Str→Option Value) (x:Str) (u:Value):Prop :=
 (env.kindOf x = some .local∧m x = some u) ∨ ((env.kindOf x = some .cell ∨ env.kindOf x = some .free)∧∃ c,env.cells.lookup x = some c∧h.IsCell c (some u))
structure Cx.Ok (X:Cx):Prop where
 mod:Mod X.K X.mg X.base
 kind:X.env.scope.kind = .function
 glob:X.env.globals = mainGlobals
 blt:X.env.builtins = builtinsNs
 above:X.s₀.heap.objs.size ≤ X.env.locals
 inj:∀ x y c,X.env.cells.lookup x = some c→X.env.cells.lookup y = some c→x = y
 has:∀ x,(X.env.kindOf x = some .cell ∨ X.env.kindOf x = some .free)→∃ c,X.env.cells.lookup x = some c
 cab:∀ x c,X.fn x = true→X.env.cells.lookup x = some c→X.s₀.heap.objs.size ≤ c
 hd:X.calm = true→X.A.handled = none
 frames:X.A.frames = some X.stack
 stk:X.stack = X.outer ∨ (X.stack = X.env :: X.outer∧X.env.frame = some X.env.locals)
 exf:∀ b ∈ X.ex,b ≠ X.env.locals∧∀ x c,X.env.cells.lookup x = some c→c ≠ b
 bs:∀ b o,X.base.get? b = some o→X.s₀.heap.get? b = some o∧X.H₀ b = none
 bsz:X.base.objs.size ≤ X.s₀.heap.objs.size
 bD:∀ b o,X.base.get? b = some o→b ∉ X.ex
 exfs:∀ b ∈ X.ex,b ∉ X.fs
 DN:X.s₀.heap.FunFrames X.base X.outer
 frf:∀ b ∈ X.fs,X.H₀ b = none
structure Inv (X:Cx) (pins:List (Addr × Obj)) (σ:List (Option V)) (H:Hp) (s:Shared):Prop where
 ok:X.Ok
 os:s.os = X.s₀.os
 bare:AllBare s.gens
 base:Un X.fs X.ex X.H₀ H X.s₀.heap s.heap
 loc:∃ m,s.heap.Ns X.env.locals m∧∀ (i:Nat) (x:Str) (v:V),X.N[i]? = some x→σ[i]? = some (some v)→Vis X.env.scope x→∃ u,RelV v u∧Look X.env s.heap m x u
 cell:∀ x c,X.env.cells.lookup x = some c→∃ v,s.heap.IsCell c v
 free:H X.env.locals = none
 qF:∀ x c,X.env.cells.lookup x = some c→H c = none
 pin:∀ p ∈ X.pn ++ pins,s.heap.get? p.1 = some p.2∧H p.1 = none∧p.1 ≠ X.env.locals∧p.1 ∉ X.fs∧∀ v,p.2.data ≠ .cell v
 hok:HOk X.prog X.w H s.heap
 len:σ.length = X.N.length
section
variable {X:Cx} {pins:List (Addr × Obj)} {σ:List (Option V)} {H H':Hp} {s:Shared} {h':Heap}
theorem Cx.Ok.nofr (ok:X.Ok) {b:Addr} {o:Obj} (e:X.base.get? b = some o):b ∉ X.fs:=fun hb=>by
 have:=(ok.DN.mem hb).1
 rw [e] at this; cases this
theorem Inv.bs (I:Inv X pins σ H s):∀ b o,X.base.get? b = some o→s.heap.get? b = some o∧H b = none:=fun b o e =>
 ⟨I.base.keep b o (I.ok.bs b o e).1 (I.ok.bs b o e).2 (I.ok.nofr e) (I.ok.bD b o e),I.base.free b o (I.ok.bs b o e).1 (I.ok.bs b o e).2 (I.ok.bD b o e)⟩
theorem Inv.bk (I:Inv X pins σ H s):∀ b o,X.base.get? b = some o→s.heap.get? b = some o:=fun b o e=>(I.bs b o e).1
theorem Inv.mod (I:Inv X pins σ H s):Mod X.K X.mg X.base:=I.ok.mod
theorem Inv.kIn (I:Inv X pins σ H s):X.K.In s.heap:=I.ok.mod.kin.keeps I.bk
theorem Inv.nolimit (I:Inv X pins σ H s):s.heap.NoLimit:=I.ok.mod.nolimit.keeps I.bk
theorem Inv.fr (I:Inv X pins σ H s):∃ m,Fr X.base X.env.locals s.heap m :=
 let ⟨m,hn,_⟩:=I.loc
 ⟨m,hn,I.bk,Nat.le_trans I.ok.bsz I.ok.above⟩
theorem Inv.lt (I:Inv X pins σ H s):X.env.locals < s.heap.objs.size:=let ⟨_,hn,_⟩:=I.loc; hn.lt
theorem Inv.sz (I:Inv X pins σ H s):X.s₀.heap.objs.size ≤ s.heap.objs.size:=Nat.le_trans I.ok.above (Nat.le_of_lt I.lt)
theorem Inv.nofs (I:Inv X pins σ H s) {a:Addr} (h:s.heap.objs.size ≤ a):a ∉ X.fs:=fun hb=>by
 obtain ⟨_,o,ho,_⟩:=I.ok.DN.mem hb
 exact absurd (Nat.lt_of_lt_of_le (Heap.lt_size ho) (Nat.le_trans I.sz h)) (Nat.lt_irrefl _)
theorem Inv.cne (I:Inv X pins σ H s):∀ x c,X.env.cells.lookup x = some c→c ≠ X.env.locals:=fun x c e z=>by
 obtain ⟨v,o,ho,hd⟩:=I.cell x c e
 obtain ⟨m,⟨o',es,ep,ho',hd',_⟩,_⟩:=I.loc
 rw [z,ho'] at ho; cases ho; rw [hd'] at hd; cases hd
theorem Inv.DN (I:Inv X pins σ H s):s.heap.FunFrames X.base X.outer:=by
 have all:∀ (l:List Env),(∀ b ∈ frs l,b ∈ X.fs)→X.s₀.heap.FunFrames X.base l→s.heap.FunFrames X.base l:=by
   intro l
   induction l with
   | nil=>intro _ _; trivial
   | cons env r ih =>
     intro hs hl
     obtain ⟨hk,⟨L,o,hf,hn,ho,hd⟩,hr⟩:=hl
     have hL:L ∈ X.fs:=hs L (by unfold frs; rw [List.filterMap_cons,hf]; exact List.mem_cons_self)
     obtain ⟨sl,e⟩:=I.base.slot L o ho (I.ok.frf L hL) hL fun z=>I.ok.exfs L z hL
     exact ⟨hk,⟨L,_,hf,hn,e,hd⟩,ih (fun b hb=>hs b (by unfold frs; rw [List.filterMap_cons,hf]; exact List.mem_cons_of_mem _ hb)) hr⟩
 exact all X.outer (fun _ hb=>hb) I.ok.DN
theorem Inv.stack (I:Inv X pins σ H s):s.heap.FunFrames X.base X.stack:=by
 rcases I.ok.stk with e | ⟨e,hf⟩
 · rw [e]; exact I.DN
 · rw [e]
   obtain ⟨m,hn,_⟩:=I.loc
   refine .cons (by rw [I.ok.kind]; decide) hf hn ?_ I.DN
   exact Heap.get?_none_of_le (Nat.le_trans I.ok.bsz I.ok.above)
theorem Inv.ahB (I:Inv X pins σ H s):∀ b ∈ frs X.stack,b ∈ X.env.locals :: X.fs:=fun b hb=>by
 rcases I.ok.stk with e | ⟨e,hf⟩
 · rw [e] at hb; exact List.mem_cons_of_mem _ hb
 · rw [e] at hb
   unfold frs at hb
   rw [List.filterMap_cons,hf] at hb
   exact hb
theorem Inv.adh (I:Inv X pins σ H s):∀ b ∈ frs X.stack,H b = none:=fun b hb=>by
 rcases List.mem_cons.mp (I.ahB b hb) with e | hb
 · rw [e]; exact I.free
 · obtain ⟨_,o,ho,_⟩:=I.ok.DN.mem hb
   exact I.base.free b o ho (I.ok.frf b hb) fun z=>I.ok.exfs b z hb
theorem Inv.step {g':Array GenState} {t':Nat} {d':Drawn} {ch:List Addr} (I:Inv X pins σ H s)
   (hch:∀ b ∈ ch,(b ∈ X.ex ∨ X.s₀.heap.objs.size ≤ b)∧b ≠ X.env.locals∧(∀ x c,X.env.cells.lookup x = some c→c ≠ b)∧∀ p ∈ X.pn ++ pins,p.1 ≠ b)
   (keep:∀ b o,b ≠ X.env.locals→b ∉ X.fs→b ∉ ch→s.heap.get? b = some o→H b = none→h'.get? b = some o)
   (slot:∀ b o,b ≠ X.env.locals→b ∈ X.fs→b ∉ ch→s.heap.get? b = some o→H b = none→∃ sl,h'.get? b = some { o with slots:=sl }) (free:∀ b o,b ∉ ch→s.heap.get? b = some o→H b = none→H' b = none)
   (there:∀ b o,b ∉ ch→s.heap.get? b = some o→∃ o',h'.get? b = some o')
   (tups:∀ b xs,H b = some (.tup xs)→H' b = some (.tup xs)) (DK:∀ b o u,H b = some (.frz o u)→H' b = some (.frz o u)) (Hd:∀ b ps,H b = some (.tbl ps)→∃ more,H' b = some (.tbl (ps ++ more)))
   (ns:∀ m,s.heap.Ns X.env.locals m→h'.Ns X.env.locals m) (hok:HOk X.prog X.w H' h') (hg:AllBare g') :
   Inv X pins σ H' { s with heap:=h',gens:=g',drawn:=d',toks:=t' }:=by
 have neL:∀ b o,X.s₀.heap.get? b = some o→b ≠ X.env.locals:=fun b o e=>Nat.ne_of_lt (Nat.lt_of_lt_of_le (Heap.lt_size e) I.ok.above)
 have neC:∀ b o,X.s₀.heap.get? b = some o→b ∉ X.ex→b ∉ ch:=fun b o e hx hb=>by
   rcases (hch b hb).1 with z | z
   · exact hx z
   · exact absurd (Nat.lt_of_lt_of_le (Heap.lt_size e) z) (Nat.lt_irrefl _)
 have cellK:∀ x c,X.env.cells.lookup x = some c→∀ v,s.heap.IsCell c v→h'.IsCell c v:=fun x c e v ⟨o,ho,hd⟩=>by
   have nch:c ∉ ch:=fun z=>(hch c z).2.2.1 x c e rfl
   by_cases hc:c ∈ X.fs
   · obtain ⟨sl,q⟩:=slot c o (I.cne x c e) hc nch ho (I.qF x c e)
     exact ⟨_,q,hd⟩
   · exact ⟨o,keep c o (I.cne x c e) hc nch ho (I.qF x c e),hd⟩
 refine ⟨I.ok,I.os,hg,⟨fun b o e n hb hx=>?_,fun b o e n hb hx=>?_,fun b o e n hx=>?_,fun b o e hx=>?_,fun b xs e=>tups b xs (I.base.tups b xs e),fun b o xs e=>DK b o xs (I.base.DK b o xs e),fun b ps e=>?_⟩,?_,fun x c e=>?_,?_,fun x c e=>?_,fun p hp=>?_,hok,I.len⟩
 · exact keep b o (neL b o e) hb (neC b o e hx) (I.base.keep b o e n hb hx) (I.base.free b o e n hx)
 · obtain ⟨sl,e1⟩:=I.base.slot b o e n hb hx
   obtain ⟨sl',e2⟩:=slot b _ (neL b o e) hb (neC b o e hx) e1 (I.base.free b o e n hx)
   exact ⟨sl',e2⟩
 · obtain ⟨o',e1⟩:=I.base.there b o e hx
   exact free b o' (neC b o e hx) e1 (I.base.free b o e n hx)
 · obtain ⟨o',e1⟩:=I.base.there b o e hx
   exact there b o' (neC b o e hx) e1
 · obtain ⟨m1,e1⟩:=I.base.Hd b ps e
   obtain ⟨m2,e2⟩:=Hd b _ e1
   exact ⟨m1 ++ m2,by rw [e2,Array.append_assoc]⟩
 · obtain ⟨m,hn,hl⟩:=I.loc
   refine ⟨m,ns m hn,fun i x v e1 e2 e3=>?_⟩
   obtain ⟨u,r,l⟩:=hl i x v e1 e2 e3
   refine ⟨u,r,?_⟩
   rcases l with l | ⟨k,c,e,z⟩
   · exact .inl l
   · exact .inr ⟨k,c,e,cellK x c e _ z⟩
 · obtain ⟨v,z⟩:=I.cell x c e
   exact ⟨v,cellK x c e v z⟩
 · obtain ⟨m,⟨o,_,_,ho,_⟩,_⟩:=I.loc
   exact free _ o (fun z=>(hch _ z).2.1 rfl) ho I.free
 · obtain ⟨v,o,ho,hd⟩:=I.cell x c e
   exact free c o (fun z=>(hch c z).2.2.1 x c e rfl) ho (I.qF x c e)
 · obtain ⟨e,n,ne,nf,d⟩:=I.pin p hp
   have nch:p.1 ∉ ch:=fun z=>(hch p.1 z).2.2.2 p hp rfl
   exact ⟨keep p.1 p.2 ne nf nch e n,free p.1 p.2 nch e n,ne,nf,d⟩
theorem Inv.un {t':Nat} (I:Inv X pins σ H s) (u:Un X.fs [] H H' s.heap h') (hok:HOk X.prog X.w H' h'):Inv X pins σ H' { s with heap:=h',toks:=t' }:=by
 obtain ⟨m,⟨o,es,ep,ho,r⟩,_⟩:=id I.loc
 obtain ⟨sl,hL⟩:=u.any ho I.free (by simp)
 exact I.step (g':=s.gens) (d':=s.drawn) (ch:=[]) (fun _ z=>nomatch z) (fun b o _ hb _ e n=>u.keep b o e n hb (by simp)) (fun b o _ hb _ e n=>u.slot b o e n hb (by simp)) (fun b o _ e n=>u.free b o e n (by simp)) (fun b o _ e=>u.there b o e (by simp)) u.tups u.DK u.Hd (fun m' hm=>by
   obtain ⟨o',es',ep',ho',r'⟩:=hm
   rw [ho] at ho'; cases ho'
   exact ⟨_,es',ep',hL,r'⟩) hok I.bare
theorem Inv.call {g':Array GenState} {t':Nat} {d':Drawn} {ch:List Addr} (I:Inv X pins σ H s) (u:Un (frs X.stack) ch H H' s.heap h') (hok:HOk X.prog X.w H' h') (hg:AllBare g')
   (hch:∀ b ∈ ch,(b ∈ X.ex ∨ X.s₀.heap.objs.size ≤ b)∧b ≠ X.env.locals∧(∀ x c,X.env.cells.lookup x = some c→c ≠ b)∧∀ p ∈ X.pn ++ pins,p.1 ≠ b) :
   Inv X pins σ H' { s with heap:=h',gens:=g',drawn:=d',toks:=t' }:=by
 obtain ⟨m,⟨o,es,ep,ho,r⟩,_⟩:=id I.loc
 obtain ⟨sl,hL⟩:=u.any ho I.free fun z=>(hch _ z).2.1 rfl
 exact I.step (ch:=ch) hch (fun b o hL hb hc e n=>u.keep b o e n (fun z=>(List.mem_cons.mp (I.ahB b z)).elim hL hb) hc) (fun b o _ _ hc e n=>u.any e n hc) (fun b o hc e n=>u.free b o e n hc) (fun b o hc e=>u.there b o e hc) u.tups u.DK u.Hd (fun m' hm=>by
   obtain ⟨o',es',ep',ho',r'⟩:=hm
   rw [ho] at ho'; cases ho'
   exact ⟨_,es',ep',hL,r'⟩) hok hg
theorem Inv.turned {t':Nat} {it:Addr} (I:Inv X pins σ H s) (k:∀ b o,b ≠ it→s.heap.get? b = some o→h'.get? b = some o) (hn:H it = none) (hL:it ≠ X.env.locals)
   (h1:it ∈ X.ex ∨ X.s₀.heap.objs.size ≤ it) (h2:∀ x c,X.env.cells.lookup x = some c→c ≠ it) (h3:∀ p ∈ X.pn ++ pins,p.1 ≠ it):Inv X pins σ H { s with heap:=h',toks:=t' }:=by
 have nit:∀ b u,H b = some u→b ≠ it:=fun b u e z=>by rw [z,hn] at e; cases e
 refine I.step (g':=s.gens) (d':=s.drawn) (ch:=[it]) (fun b hb=>?_) (fun b o _ _ hc e _=>k b o (fun z=>hc (by simp [z])) e) (fun b o _ _ hc e _=>⟨o.slots,k b o (fun z=>hc (by simp [z])) e⟩) (fun _ _ _ _ n=>n)
   (fun b o hc e=>⟨o,k b o (fun z=>hc (by simp [z])) e⟩) (fun _ _ e=>e) (fun _ _ _ e=>e) (fun b ps e=>⟨#[],by rw [e]; simp⟩) (fun m hm=>?_) (fun b u e=>?_) I.bare
 · have e:b = it:=by simpa using hb
   subst e
   exact ⟨h1,hL,h2,h3⟩
 · obtain ⟨o,es,ep,ho,r⟩:=hm
   exact ⟨o,es,ep,k _ o (Ne.symm hL) ho,r⟩
 · refine (I.hok b u e).stay (fun c v hc q=>k c v ?_ q) (fun _ q=>q) fun _ _ q=>q
   rcases hc with z | z
   · rw [z]; exact nit b u e
   · exact nit c _ z
theorem Inv.tok (I:Inv X pins σ H s) (t:Nat):Inv X pins σ H { s with toks:=t }:=I.un (h':=s.heap) (t':=t) Un.refl I.hok
theorem Inv.kept {t':Nat} (I:Inv X pins σ H s) (k:∀ b u,s.heap.get? b = some u→h'.get? b = some u):Inv X pins σ H { s with heap:=h',toks:=t' }:=I.un (Un.kept k) (I.hok.kept k)
theorem Inv.laid {a:Addr} {o:HO} {t':Nat} (I:Inv X pins σ H s) (k:∀ b u,s.heap.get? b = some u→h'.get? b = some u) (hp:s.heap.objs.size ≤ a) (new:c7 X.prog X.w (upd H a o) h' a o) :
   Inv X pins σ (upd H a o) { s with heap:=h',toks:=t' }:=I.un (Un.laid k hp (I.hok.fresh hp)) (I.hok.laid k hp new)
theorem Inv.write {x e:Addr} {o:HO} {t':Nat} (I:Inv X pins σ H s) (mu:Mut (H x)) (he:e = x ∨ H e = some (.own x)) (k:∀ b u,b ≠ e→s.heap.get? b = some u→h'.get? b = some u) (heo:∃ u,h'.get? e = some u)
   (new:c7 X.prog X.w (upd H x o) h' x o):Inv X pins σ (upd H x o) { s with heap:=h',toks:=t' }:=I.un (Un.write mu he k heo) (I.hok.write mu he k heo new)
theorem Inv.weak {σ':List (Option V)} (I:Inv X pins σ H s) (hl:σ'.length = σ.length) (w:∀ (i:Nat) v,σ'[i]? = some (some v)→σ[i]? = some (some v)):Inv X pins σ' H s :=
 ⟨I.ok,I.os,I.bare,I.base,let ⟨m,hn,hl'⟩:=I.loc; ⟨m,hn,fun i x v e1 e2 e3=>hl' i x v e1 (w i v e2) e3⟩,I.cell,I.free,I.qF,I.pin,I.hok,hl.trans I.len⟩
theorem Inv.aid {pins':List (Addr × Obj)} (I:Inv X pins σ H s) (h:∀ p ∈ pins',s.heap.get? p.1 = some p.2∧H p.1 = none∧p.1 ≠ X.env.locals∧p.1 ∉ X.fs∧∀ v,p.2.data ≠ .cell v):Inv X pins' σ H s :=
 ⟨I.ok,I.os,I.bare,I.base,I.loc,I.cell,I.free,I.qF,fun p hp=>(List.mem_append.mp hp).elim (fun z=>I.pin p (List.mem_append_left _ z)) (h p),I.hok,I.len⟩
theorem R7 {N:List Str} (hN:N.Nodup) {i j:Nat} {x:Str} (a:N[i]? = some x) (b:N[j]? = some x):i = j:=by
 obtain ⟨h1,e1⟩:=List.getElem?_eq_some_iff.mp a
 obtain ⟨h2,e2⟩:=List.getElem?_eq_some_iff.mp b
 exact (List.getElem_inj hN).mp (e1.trans e2.symm)
theorem ajn {M:Model} {A:Around} {E:Value→Shared→Prop} {i:Nat} {x:Str} {v:V} {u:Value} {Q:Unit→Shared→Prop} (I:Inv X pins σ H s) (hN:X.N.Nodup) (hi:X.N[i]? = some x) (hx:Loc X.env.scope x) (r:RelV v u)
   (h:∀ s',Inv X pins (σ.set i (some v)) H s'→(∃ a,Heap.SameBut a s.heap s'.heap∧(a = X.env.locals ∨ X.env.cells.lookup x = some a))→Q () s') (hf:X.fn x = true ∨ X.env.scope.names.lookup x = some .local:=by first | exact .inl rfl | exact .inr rfl | assumption):wpAny M A (storeName X.env x u) Q E s:=by
 obtain ⟨m,hn,hl⟩:=id I.loc
 have hcls:(X.env.scope.kind == .class || (X.env.scope.kind == .module && X.env.locals != X.env.globals)) = false:=by rw [I.ok.kind]; rfl
 have hiσ:i < σ.length:=by rw [I.len]; exact (List.getElem?_eq_some_iff.mp hi).1
 have cne:=I.cne
 have tracked:∀ {a:Addr} {h':Heap},(∃ o,s.heap.get? a = some o∧H a = none)→Heap.SameBut a s.heap h'→HOk X.prog X.w H h':=fun {a h'} ha hs b ob e=>by
   obtain ⟨_,_,hfree⟩:=ha
   refine (I.hok b ob e).stay (fun c w' hc q=>(hs.2 c ?_).trans q) (fun _ q=>q) fun _ _ q=>q
   rintro rfl
   rcases hc with rfl | hc
   · rw [hfree] at e; cases e
   · rw [hfree] at hc; cases hc
 rcases hx with hk | hk
 · refine wpAny_storeName_local hk hn (fun h' hn' hs=>?_) hcls
   obtain ⟨oL,_,_,hoL,_⟩:=id hn
   refine h _ ⟨I.ok,I.os,I.bare,⟨fun b o e n hb hx=>?_,fun b o e n hb hx=>?_,I.base.free,fun b o e hx=>?_,I.base.tups,I.base.DK,I.base.Hd⟩,⟨_,hn',fun j y v' e1 e2 e3=>?_⟩,fun y c e=>?_,I.free,I.qF,fun p hp=>?_,tracked ⟨oL,hoL,I.free⟩ hs,by simpa using I.len⟩ ⟨_,hs,.inl rfl⟩
   · exact (hs.2 b (Nat.ne_of_lt (Nat.lt_of_lt_of_le (Heap.lt_size e) I.ok.above))).trans (I.base.keep b o e n hb hx)
   · obtain ⟨sl,e1⟩:=I.base.slot b o e n hb hx
     exact ⟨sl,(hs.2 b (Nat.ne_of_lt (Nat.lt_of_lt_of_le (Heap.lt_size e) I.ok.above))).trans e1⟩
   · obtain ⟨o',e1⟩:=I.base.there b o e hx
     exact ⟨o',(hs.2 b (Nat.ne_of_lt (Nat.lt_of_lt_of_le (Heap.lt_size e) I.ok.above))).trans e1⟩
   · by_cases hj:j = i
     · subst hj
       rw [hi] at e1; cases e1
       rw [List.getElem?_set_self hiσ] at e2
       cases e2
       exact ⟨u,r,.inl ⟨hk,by simp⟩⟩
     · rw [List.getElem?_set_ne (Ne.symm hj)] at e2
       obtain ⟨u',r',q⟩:=hl j y v' e1 e2 e3
       refine ⟨u',r',?_⟩
       rcases q with ⟨k,e⟩ | ⟨k,c,e,z⟩
       · refine .inl ⟨k,?_⟩
         have:y ≠ x:=fun e=>hj (R7 hN e1 (e ▸ hi))
         simp [this,e]
       · exact .inr ⟨k,c,e,z.sameBut hs (cne y c e)⟩
   · obtain ⟨w',z⟩:=I.cell y c e
     exact ⟨w',z.sameBut hs (cne y c e)⟩
   · obtain ⟨e,n,ne,nf,d⟩:=I.pin p hp
     exact ⟨(hs.2 p.1 ne).trans e,n,ne,nf,d⟩
 · have hfn:X.fn x = true:=by
     rcases hf with z | z
     · exact z
     · rw [z] at hk; cases hk
   obtain ⟨c,hc⟩:=I.ok.has x (.inl hk)
   obtain ⟨w',z⟩:=I.cell x c hc
   refine wpAny_storeName_cell I.ok.kind hk hc z (fun h' hc' hs=>?_)
   obtain ⟨oc,hoc,hocd⟩:=id z
   refine h { s with heap:=h' } ⟨I.ok,I.os,I.bare,⟨fun b o e n hb hx=>?_,fun b o e n hb hx=>?_,I.base.free,fun b o e hx=>?_,I.base.tups,I.base.DK,I.base.Hd⟩,⟨m,hn.sameBut hs (Ne.symm (cne x c hc)),fun j y v' e1 e2 e3=>?_⟩,fun y c' e=>?_,I.free,I.qF,fun p hp=>?_,tracked ⟨oc,hoc,I.qF x c hc⟩ hs,by simpa using I.len⟩ ⟨c,hs,.inr hc⟩
   · exact (hs.2 b (Nat.ne_of_lt (Nat.lt_of_lt_of_le (Heap.lt_size e) (I.ok.cab x c hfn hc)))).trans (I.base.keep b o e n hb hx)
   · obtain ⟨sl,e1⟩:=I.base.slot b o e n hb hx
     exact ⟨sl,(hs.2 b (Nat.ne_of_lt (Nat.lt_of_lt_of_le (Heap.lt_size e) (I.ok.cab x c hfn hc)))).trans e1⟩
   · obtain ⟨o',e1⟩:=I.base.there b o e hx
     exact ⟨o',(hs.2 b (Nat.ne_of_lt (Nat.lt_of_lt_of_le (Heap.lt_size e) (I.ok.cab x c hfn hc)))).trans e1⟩
   · by_cases hj:j = i
     · subst hj
       rw [hi] at e1; cases e1
       rw [List.getElem?_set_self hiσ] at e2
       cases e2
       exact ⟨u,r,.inr ⟨.inl hk,c,hc,hc'⟩⟩
     · rw [List.getElem?_set_ne (Ne.symm hj)] at e2
       obtain ⟨u',r',q⟩:=hl j y v' e1 e2 e3
       refine ⟨u',r',?_⟩
       rcases q with q | ⟨k,c',e,z'⟩
       · exact .inl q
       · refine .inr ⟨k,c',e,z'.sameBut hs ?_⟩
         rintro rfl
         exact hj (R7 hN e1 (I.ok.inj _ _ _ e hc ▸ hi))
   · by_cases hcc:c' = c
     · subst hcc; exact ⟨_,hc'⟩
     · obtain ⟨w2,z2⟩:=I.cell y c' e
       exact ⟨w2,z2.sameBut hs hcc⟩
   · obtain ⟨e,n,ne,nf,d⟩:=I.pin p hp
     refine ⟨(hs.2 p.1 ?_).trans e,n,ne,nf,d⟩
     intro q
     rw [q,hoc] at e
     have q':oc = p.2:=Option.some.inj e
     exact d w' (by rw [← q']; exact hocd)
theorem JH {M:Model} {A:Around} {E:Value→Shared→Prop} {i:Nat} {x:Str} {v:V} {u:Value} {Q:Unit→Shared→Prop} (I:Inv X pins σ H s) (hN:X.N.Nodup) (hi:X.N[i]? = some x) (hx:Loc X.env.scope x) (r:RelV v u)
   (h:∀ s',Inv X pins (σ.set i (some v)) H s'→Q () s') (hf:X.fn x = true ∨ X.env.scope.names.lookup x = some .local:=by first | exact .inl rfl | exact .inr rfl | assumption):wpAny M A (storeName X.env x u) Q E s :=
 ajn I hN hi hx r (fun s' I' _=>h s' I') hf
theorem Inv.call' {s':Shared} {ch:List Addr} (I:Inv X pins σ H s) (ho:s'.os = s.os) (u:Un (frs X.stack) ch H H' s.heap s'.heap) (hok:HOk X.prog X.w H' s'.heap) (hg:AllBare s'.gens)
   (hch:∀ b ∈ ch,(b ∈ X.ex ∨ X.s₀.heap.objs.size ≤ b)∧b ≠ X.env.locals∧(∀ x c,X.env.cells.lookup x = some c→c ≠ b)∧∀ p ∈ X.pn ++ pins,p.1 ≠ b):Inv X pins σ H' s':=by
 obtain ⟨h',g',d',t',o'⟩:=s'
 have e:o' = s.os:=ho
 subst e
 exact I.call (g':=g') (t':=t') (d':=d') u hok hg hch
end
abbrev XK:=Value→Option Addr→Hp→Prop
abbrev St:=List (Option V)
abbrev VK:=V→Hp→Prop
abbrev TE:=St→Hp→VK→Prop
abbrev TT:=St→Hp→(Bool→Hp→Prop)→Prop
abbrev TA:=St→Hp→(List V→Hp→Prop)→Prop
structure Ends where
 nx:St→Hp→Prop
 rt:VK
 bk:St→Hp→Prop:=fun _ _=>False
 ct:St→Hp→Prop:=fun _ _=>False
abbrev TS:=Ends→St→Hp→Prop
def EP (X:Cx) (pins:List (Addr × Obj)) (σ:St) (Q:VK) (u:Value) (s':Shared):Prop:=∃ v H',Inv X pins σ H' s'∧RelV v u∧Q v H'
def TP (X:Cx) (pins:List (Addr × Obj)) (σ:St) (Q:Bool→Hp→Prop) (b:Bool) (s':Shared):Prop:=∃ H',Inv X pins σ H' s'∧Q b H'
def AP (X:Cx) (pins:List (Addr × Obj)) (σ:St) (Q:List V→Hp→Prop) (us:List Value) (s':Shared):Prop:=∃ vs H',Inv X pins σ H' s'∧Vals vs us∧Q vs H'
def SP (X:Cx) (pins:List (Addr × Obj)) (D:Ends) (f:Flow) (s':Shared):Prop :=
 match f with
 | .next=>∃ σ' H',Inv X pins σ' H' s'∧D.nx σ' H'
 | .brk=>∃ σ' H',Inv X pins σ' H' s'∧D.bk σ' H'
 | .cont=>∃ σ' H',Inv X pins σ' H' s'∧D.ct σ' H'
 | .ret u=>∃ v σ' H',Inv X pins σ' H' s'∧RelV v u∧D.rt v H'
def PE (X:Cx) (e:Expr) (t:TE):Prop :=
 ∀ (pins:List (Addr × Obj)) (s:Shared) (σ:St) (H:Hp) (Q:VK),Inv X pins σ H s→t σ H Q→wpAny (model X.prog X.w) X.A (eval e X.env) (EP X pins σ Q) X.xe s
def PT (X:Cx) (e:Expr) (t:TT):Prop :=
 ∀ (pins:List (Addr × Obj)) (s:Shared) (σ:St) (H:Hp) (Q:Bool→Hp→Prop),Inv X pins σ H s→t σ H Q→wpAny (model X.prog X.w) X.A (isTrue e X.env (eval e X.env)) (TP X pins σ Q) X.xe s
def PW (X:Cx) (e:Expr) (t:TT):Prop :=
 ∀ (whole:Sem Value) (pins:List (Addr × Obj)) (s:Shared) (σ:St) (H:Hp) (Q:Bool→Hp→Prop),Inv X pins σ H s→t σ H Q→wpAny (model X.prog X.w) X.A (isTrue e X.env whole) (TP X pins σ Q) X.xe s
theorem PW.pt {X:Cx} {e:Expr} {t:TT} (h:PW X e t):PT X e t:=h _
def PA (X:Cx) (es:List Expr) (t:TA):Prop :=
 ∀ (pos:Pos) (pins:List (Addr × Obj)) (s:Shared) (σ:St) (H:Hp) (Q:List V→Hp→Prop),Inv X pins σ H s→t σ H Q→wpAny (model X.prog X.w) X.A (spliced (backTo pos (starEach es X.env))) (AP X pins σ Q) X.xe s
def PS (X:Cx) (st:Stmt) (t:TS):Prop :=
 ∀ (pins:List (Addr × Obj)) (s:Shared) (σ:St) (H:Hp) (D:Ends),Inv X pins σ H s→t D σ H→wpAny (model X.prog X.w) X.A (exec st X.env) (SP X pins D) X.xe s
def PSs (X:Cx) (st:List Stmt) (t:TS):Prop :=
 ∀ (pins:List (Addr × Obj)) (s:Shared) (σ:St) (H:Hp) (D:Ends),Inv X pins σ H s→t D σ H→wpAny (model X.prog X.w) X.A (execs st X.env) (SP X pins D) X.xe s
theorem thn {α:Type} {t:Sem α} {Q Q':α→Shared→Prop} {M:Model} {A:Around} {E:Value→Shared→Prop} {s:Shared} (h:wpAny M A t Q E s) (hQ:∀ a s,Q a s→Q' a s):wpAny M A t Q' E s:=wpAny_mono h hQ fun _ _ x=>x
end L2
namespace L2
open PySem PySem.Spec PyProof.Rows
section
variable {X:Cx}
def CT (i:Nat):TE:=fun σ H Q=>∃ v,σ[i]? = some (some v)∧Q v H
def tC (v:V):TE:=fun _ H Q=>Q v H
theorem pe_var {i:Nat} {x:Str} {pos:Pos} (hN:X.N[i]? = some x) (hv:Vis X.env.scope x) (hd:(x == ("__debug__":Str)) = false:=by decide) (hcd:(x == ("__classdict__":Str)) = false:=by decide):PE X (.Name x pos) (CT i):=by
 intro pins s σ H Q I h
 obtain ⟨v,e,h⟩:=h
 obtain ⟨m,hn,hl⟩:=I.loc
 obtain ⟨u,r,l⟩:=hl i x v hN e hv
 have fin:EP X pins σ Q u s:=⟨v,H,I,r,h⟩
 rcases l with ⟨hk,hm⟩ | ⟨hk,c,hc,hcell⟩
 · exact wpAny_Name (wpAny_loadName_local I.ok.kind hk hn hm fin) hd
 · rcases hk with hk | hk
   · exact wpAny_Name (wpAny_loadName_cell I.ok.kind hk hc hcell fin) hd
   · exact wpAny_Name (wpAny_loadName_free I.ok.kind hk hc hcell fin hcd) hd
theorem pe_int {i j pos}:PE X (.Constant (.int i) j pos) (tC (.int i)):=fun _ _ _ H _ I h=>wpAny_Constant_int ⟨.int i,H,I.tok _,⟨_,rfl⟩,h⟩
theorem pe_bl {b j pos}:PE X (.Constant (.bool b) j pos) (tC (.bl b)):=fun _ _ _ H _ I h=>Constant_bool ⟨.bl b,H,I,rfl,h⟩
theorem ahd {j pos}:PE X (.Constant .none j pos) (tC .non):=fun _ _ _ H _ I h=>Constant_none ⟨.non,H,I,rfl,h⟩
theorem pe_str {x j pos}:PE X (.Constant (.str x) j pos) (tC (.str x)):=fun _ _ _ H _ I h=>Calls.Constant_str ⟨.str x,H,I.tok _,⟨_,rfl⟩,h⟩
def Gl (X:Cx) (x:Str):Prop:=X.env.kindOf x = some .globalImplicit
theorem pK {E:Value→Shared→Prop} {pins:List (Addr × Obj)} {s:Shared} {σ:St} {H:Hp} {x:Str} {u:Value} {pos:Pos} {Q:Value→Shared→Prop} (I:Inv X pins σ H s) (hg:Gl X x) (hm:X.mg x = some u) (h:Q u s)
   (hd:(x == ("__debug__":Str)) = false:=by decide):wpAny (model X.prog X.w) X.A (eval (.Name x pos) X.env) Q E s :=
 Calls.Name_function_global I.ok.kind hg (Calls.loadGlobal_global (by rw [I.ok.glob]; exact I.mod.glob.keeps I.bk) hm h) hd
theorem R3 {E:Value→Shared→Prop} {pins:List (Addr × Obj)} {s:Shared} {σ:St} {H:Hp} {x:Str} {u:Value} {pos:Pos} {Q:Value→Shared→Prop} (I:Inv X pins σ H s) (hg:Gl X x) (hm:X.mg x = none) (hv:bootBuiltins x = some u) (h:Q u s)
   (hn:x ≠ "__name__":=by decide) (hd:(x == ("__debug__":Str)) = false:=by decide):wpAny (model X.prog X.w) X.A (eval (.Name x pos) X.env) Q E s:=by
 obtain ⟨mb,h1,h2⟩:=I.mod.blt
 exact Calls.Name_function_global I.ok.kind hg (Calls.loadGlobal_builtin (by rw [I.ok.glob]; exact I.mod.glob.keeps I.bk) hm (by rw [I.ok.blt]; exact h1.keeps I.bk) ((h2 x hn).trans hv) h) hd
theorem Jx {x:Str} {v:V} {u:Value} {pos:Pos} (hg:Gl X x) (hm:X.mg x = some u) (r:RelV v u) (hd:(x == ("__debug__":Str)) = false:=by decide):PE X (.Name x pos) (tC v) :=
 fun _ _ _ H _ I h=>pK I hg hm ⟨v,H,I,r,h⟩ hd
theorem rz {x:Str} {v:V} {u:Value} {pos:Pos} (hg:Gl X x) (hm:X.mg x = none) (hv:bootBuiltins x = some u) (r:RelV v u) (hn:x ≠ "__name__":=by decide) (hd:(x == ("__debug__":Str)) = false:=by decide):PE X (.Name x pos) (tC v) :=
 fun _ _ _ H _ I h=>R3 I hg hm hv ⟨v,H,I,r,h⟩ hn hd
variable {a b:Expr} {ta tb:TE} {pos:Pos}
def tB (t:TE):TT:=fun σ H Q=>t σ H fun x H1=>∃ c,x = .bl c∧Q c H1
variable {tA tB':TT} {rest:List Expr}
def tAnd (t u:TT):TT:=fun σ H Q=>t σ H fun c H1=>if c = true then u σ H1 Q else Q false H1
def tOr (t u:TT):TT:=fun σ H Q=>t σ H fun c H1=>if c = true then Q true H1 else u σ H1 Q
def tNot (t:TT):TT:=fun σ H Q=>t σ H fun c H1=>Q (!c) H1
theorem pw_and1 (ha:PT X a tA):PW X (.BoolOp .And [a] pos) tA:=by
 intro wh pins s σ H Q I h
 refine isTrue_and (thn (ha pins s σ H Q I h) fun c s1 e=>?_)
 cases c with
 | true=>exact isTrue_and_nil e
 | false=>exact e
theorem pw_or1 (ha:PT X a tA):PW X (.BoolOp .Or [a] pos) tA:=by
 intro wh pins s σ H Q I h
 refine isTrue_or (thn (ha pins s σ H Q I h) fun c s1 e=>?_)
 cases c with
 | false=>exact isTrue_or_nil e
 | true=>exact e
theorem pw_and (ha:PT X a tA) (hb:PW X (.BoolOp .And (b :: rest) pos) tB'):PW X (.BoolOp .And (a :: b :: rest) pos) (tAnd tA tB'):=by
 intro wh pins s σ H Q I h
 refine isTrue_and (thn (ha pins s σ H _ I h) fun c s1 ⟨H1,I1,q1⟩=>?_)
 cases c with
 | true=>exact hb wh pins s1 σ H1 Q I1 q1
 | false=>exact ⟨H1,I1,q1⟩
theorem pw_or (ha:PT X a tA) (hb:PW X (.BoolOp .Or (b :: rest) pos) tB'):PW X (.BoolOp .Or (a :: b :: rest) pos) (tOr tA tB'):=by
 intro wh pins s σ H Q I h
 refine isTrue_or (thn (ha pins s σ H _ I h) fun c s1 ⟨H1,I1,q1⟩=>?_)
 cases c with
 | true=>exact ⟨H1,I1,q1⟩
 | false=>exact hb wh pins s1 σ H1 Q I1 q1
theorem pt_not (ha:PT X a tA):PT X (.UnaryOp .Not a pos) (tNot tA):=by
 intro pins s σ H Q I h
 exact isTrue_not (ha pins s σ H (fun c H1=>Q (!c) H1) I h)
def tAndV (ta tb:TE):TE:=fun σ H Q=>ta σ H fun x H1=>∃ c,x = .bl c∧if c = true then tb σ H1 Q else Q (.bl false) H1
def tOrV (ta tb:TE):TE:=fun σ H Q=>ta σ H fun x H1=>∃ c,x = .bl c∧if c = true then Q (.bl true) H1 else tb σ H1 Q
def tNotV (ta:TE):TE:=fun σ H Q=>ta σ H fun x H1=>∃ c,x = .bl c∧Q (.bl (!c)) H1
theorem pe_one {op} {t:TE} (h:PE X a t):PE X (.BoolOp op [a] pos) t:=fun pins s σ H Q I hw=>BoolOp_one (h pins s σ H Q I hw)
theorem pe_and (ha:PE X a ta) (hb:PE X (.BoolOp .And (b :: rest) pos) tb):PE X (.BoolOp .And (a :: b :: rest) pos) (tAndV ta tb):=by
 intro pins s σ H Q I h
 refine BoolOp_and (thn (ha pins s σ H _ I h) fun v s1 ⟨x,H1,I1,r1,q1⟩=>?_)
 obtain ⟨c,rfl,q1⟩:=q1
 cases r1
 refine wpAny_truthy_bool ?_
 cases c with
 | true=>exact hb pins s1 σ H1 Q I1 q1
 | false=>exact ⟨.bl false,H1,I1,rfl,q1⟩
theorem pe_or (ha:PE X a ta) (hb:PE X (.BoolOp .Or (b :: rest) pos) tb):PE X (.BoolOp .Or (a :: b :: rest) pos) (tOrV ta tb):=by
 intro pins s σ H Q I h
 refine BoolOp_or (thn (ha pins s σ H _ I h) fun v s1 ⟨x,H1,I1,r1,q1⟩=>?_)
 obtain ⟨c,rfl,q1⟩:=q1
 cases r1
 refine wpAny_truthy_bool ?_
 cases c with
 | false=>exact hb pins s1 σ H1 Q I1 q1
 | true=>exact ⟨.bl true,H1,I1,rfl,q1⟩
theorem pe_not (ha:PE X a ta):PE X (.UnaryOp .Not a pos) (tNotV ta):=by
 intro pins s σ H Q I h
 refine UnaryOp_ (thn (ha pins s σ H _ I h) fun v s1 ⟨x,H1,I1,r1,q1⟩=>?_)
 obtain ⟨c,rfl,q1⟩:=q1
 cases r1
 exact not_of (wpAny_truthy_bool ⟨.bl (!c),H1,I1,rfl,q1⟩)
end
end L2
namespace L2
open PySem PySem.Spec PyProof.Rows
def SqL (K:PySem.W.Frag) (H:Hp) (a:Addr) (xs:List V):Prop :=
 Rd H a (.lst xs) ∨
   ∃ (o:Obj) (its:Array Value) (n:Nat),K.lookup a = some o∧o.cls = .type "list"∧o.dict = none∧o.data = .seq its n∧its.size ≤ sizeLine∧Vals xs its.toList
def SqT (K:PySem.W.Frag) (H:Hp) (a:Addr) (xs:List V):Prop :=
 Rd H a (.tup xs) ∨
   ∃ (o:Obj) (its:Array Value) (n:Nat),K.lookup a = some o∧o.cls = .type "tuple"∧o.data = .seq its n∧its.size ≤ sizeLine∧Vals xs its.toList
def absV:Value→Option V
 | .none=>some .non
 | .bool b=>some (.bl b)
 | .int i _=>some (.int i)
 | .str x _=>some (.str x)
 | .bytes b _=>some (.byt b)
 | .float b _=>some (.flt b)
 | .ref a=>some (.ref a)
 | .type n=>some (.ty n)
 | _=>none
theorem RelV.abs {x:V} {u:Value} (r:RelV x u):absV u = some x:=by
 cases x with
 | non=>cases r; rfl
 | bl _=>cases r; rfl
 | int _=>obtain ⟨t,rfl⟩:=r; rfl
 | str _=>obtain ⟨t,rfl⟩:=r; rfl
 | byt _=>obtain ⟨t,rfl⟩:=r; rfl
 | flt _=>obtain ⟨t,rfl⟩:=r; rfl
 | ref _=>cases r; rfl
 | ty _=>cases r; rfl
theorem RelV.inj {x y:V} {u:Value} (r:RelV x u) (q:RelV y u):x = y:=Option.some.inj (r.abs.symm.trans q.abs)
theorem Vals.inj:∀ {xs ys:List V} {us:List Value},Vals xs us→Vals ys us→xs = ys
 | _,_,_,.nil,.nil=>rfl
 | _,_,_,.cons r t,.cons r' t'=>by rw [r.inj r',Vals.inj t t']
section
variable {X:Cx} {pins:List (Addr × Obj)} {σ:St} {H:Hp} {s:Shared} {a:Addr} {xs ys:List V}
theorem SqL.of {K:PySem.W.Frag} (h:H a = some (.lst xs)):SqL K H a xs:=.inl (.inl h)
theorem SqT.of {K:PySem.W.Frag} (h:H a = some (.tup xs)):SqT K H a xs:=.inl (.inl h)
theorem Inv.list (I:Inv X pins σ H s) (h:SqL X.K H a xs):∃ its:List Value,Vals xs its∧PlainL s.heap a its.toArray∧xs.length ≤ sizeLine:=by
 rcases h with h | ⟨o,its,n,hk,hc,hd,hs,hz,r⟩
 · obtain ⟨z,its,n,r,e⟩:=h.ok I.hok
   exact ⟨its,r,⟨_,n,e,rfl,rfl,rfl⟩,z⟩
 · refine ⟨its.toList,r,⟨o,n,I.kIn a o hk,hc,hd,by simpa using hs⟩,?_⟩
   have e:=r.length
   simp only [Array.length_toList] at e
   omega
theorem Inv.tuple (I:Inv X pins σ H s) (h:SqT X.K H a xs):∃ its:List Value,Vals xs its∧IsTup s.heap a its.toArray∧xs.length ≤ sizeLine:=by
 rcases h with h | ⟨o,its,n,hk,hc,hs,hz,r⟩
 · obtain ⟨z,its,r,p⟩:=h.ok I.hok
   exact ⟨its,r,p,z⟩
 · refine ⟨its.toList,r,⟨o,I.kIn a o hk,hc,n,by simpa using hs⟩,?_⟩
   have e:=r.length
   simp only [Array.length_toList] at e
   omega
theorem Inv.aeK (I:Inv X pins σ H s) (h:SqL X.K H a xs) (h':SqL X.K H a ys):xs = ys:=by
 obtain ⟨its,r,⟨o,n,e,_,_,d⟩,_⟩:=I.list h
 obtain ⟨its',r',⟨o',n',e',_,_,d'⟩,_⟩:=I.list h'
 rw [e] at e'; cases e'
 rw [d] at d'
 injection d' with d1 _
 have:its = its':=by simpa using congrArg Array.toList d1
 subst this
 exact r.inj r'
theorem Inv.ajq (I:Inv X pins σ H s) (h:SqT X.K H a xs) (h':SqT X.K H a ys):xs = ys:=by
 obtain ⟨its,r,⟨o,e,_,n,d⟩,_⟩:=I.tuple h
 obtain ⟨its',r',⟨o',e',_,n',d'⟩,_⟩:=I.tuple h'
 rw [e] at e'; cases e'
 rw [d] at d'
 injection d' with d1 _
 have:its = its':=by simpa using congrArg Array.toList d1
 subst this
 exact r.inj r'
end
abbrev Cx.wish (X:Cx) (E:Value→Shared→Prop):Cx:={ X with xe:=E }
abbrev Cx.nox (X:Cx):Cx:=X.wish fun _ _=>False
theorem Cx.Ok.wish {X:Cx} (ok:X.Ok) (E:Value→Shared→Prop):(X.wish E).Ok :=
 ⟨ok.mod,ok.kind,ok.glob,ok.blt,ok.above,ok.inj,ok.has,ok.cab,ok.hd,ok.frames,ok.stk,ok.exf,ok.bs,ok.bsz,ok.bD,ok.exfs,ok.DN,ok.frf⟩
theorem Cx.Ok.v6 {X:Cx} {E:Value→Shared→Prop} (ok:(X.wish E).Ok):X.Ok :=
 ⟨ok.mod,ok.kind,ok.glob,ok.blt,ok.above,ok.inj,ok.has,ok.cab,ok.hd,ok.frames,ok.stk,ok.exf,ok.bs,ok.bsz,ok.bD,ok.exfs,ok.DN,ok.frf⟩
section
variable {X:Cx} {pins:List (Addr × Obj)} {σ:St} {H:Hp} {s:Shared} {E:Value→Shared→Prop}
theorem Inv.wish (I:Inv X pins σ H s) (E:Value→Shared→Prop):Inv (X.wish E) pins σ H s:=⟨I.ok.wish E,I.os,I.bare,I.base,I.loc,I.cell,I.free,I.qF,I.pin,I.hok,I.len⟩
theorem Inv.v6 (I:Inv (X.wish E) pins σ H s):Inv X pins σ H s:=⟨I.ok.v6,I.os,I.bare,I.base,I.loc,I.cell,I.free,I.qF,I.pin,I.hok,I.len⟩
theorem SP.v6 {D:Ends} {f:Flow} {s':Shared} (h:SP (X.wish E) pins D f s'):SP X pins D f s':=by
 cases f with
 | next=>obtain ⟨σ',H',I,q⟩:=h; exact ⟨σ',H',I.v6,q⟩
 | brk=>obtain ⟨σ',H',I,q⟩:=h; exact ⟨σ',H',I.v6,q⟩
 | cont=>obtain ⟨σ',H',I,q⟩:=h; exact ⟨σ',H',I.v6,q⟩
 | ret u=>obtain ⟨v,σ',H',I,r,q⟩:=h; exact ⟨v,σ',H',I.v6,r,q⟩
theorem PE.nox {e:Expr} {t:TE} (h:PE X.nox e t):PE X e t:=fun pins s σ H Q I hw =>
 wpAny_mono (h pins s σ H Q (I.wish _) hw) (fun _ _ ⟨v,H',I',r,q⟩=>⟨v,H',I'.v6,r,q⟩) fun _ _ z=>False.elim z
theorem PT.nox {e:Expr} {t:TT} (h:PT X.nox e t):PT X e t:=fun pins s σ H Q I hw =>
 wpAny_mono (h pins s σ H Q (I.wish _) hw) (fun _ _ ⟨H',I',q⟩=>⟨H',I'.v6,q⟩) fun _ _ z=>False.elim z
theorem PSs.nox {st:List Stmt} {t:TS} (h:PSs X.nox st t):PSs X st t:=fun pins s σ H D I hw =>
 wpAny_mono (h pins s σ H D (I.wish _) hw) (fun _ _ q=>q.v6) fun _ _ z=>False.elim z
end
section
variable {X:Cx} {st:Stmt} {rest:List Stmt} {t u:TS} {e:Expr} {te:TE} {pos:Pos}
def tNext:TS:=fun D σ H=>D.nx σ H
def tSeq (t u:TS):TS:=fun D σ H=>t { D with nx:=u D } σ H
theorem pss_nil:PSs X [] tNext:=fun _ _ σ H _ I h=>wpAny_execs_nil ⟨σ,H,I,h⟩
theorem wL (h1:PS X st t) (h2:PSs X rest u):PSs X (st :: rest) (tSeq t u):=by
 intro pins s σ H D I h
 refine wpAny_execs_cons (thn (h1 pins s σ H { D with nx:=u D } I h) fun f s1 q=>?_)
 cases f with
 | next =>
   obtain ⟨σ',H',I',q⟩:=q
   exact h2 pins s1 σ' H' D I' q
 | ret v=>exact q
 | brk=>exact q
 | cont=>exact q
theorem pM (h1:PS X st t):PSs X [st] t:=by
 intro pins s σ H D I h
 refine wpAny_execs_cons (thn (h1 pins s σ H D I h) fun f s1 q=>?_)
 cases f with
 | next=>exact wpAny_execs_nil q
 | ret v=>exact q
 | brk=>exact q
 | cont=>exact q
theorem Inv.quiet {pins:List (Addr × Obj)} {σ:St} {H:Hp} {s:Shared} (I:Inv X pins σ H s):interactive X.env = false:=by simp [interactive,I.ok.kind]
def M9 (te:TE):TS:=fun D σ H=>te σ H fun _ H1=>D.nx σ H1
theorem iJ (he:PE X e te) (hs:swapsWith e none pos.line X.env = pure false:=by rfl):PS X (.Expr e pos) (M9 te):=by
 intro pins s σ H D I h
 exact wpAny_Expr_any (thn (he pins s σ H _ I h) fun v s1 ⟨x,H1,I1,r1,q1⟩=>⟨σ,H1,I1,q1⟩) I.quiet hs
def tRet (te:TE):TS:=fun D σ H=>te σ H D.rt
theorem Lg (he:PE X e te):PS X (.Return (some e) pos) (tRet te):=by
 intro pins s σ H D I h
 exact wpAny_Return_some (thn (he pins s σ H _ I h) fun v s1 ⟨x,H1,I1,r1,q1⟩=>⟨x,σ,H1,I1,r1,q1⟩)
def tIfS (c:TT) (t u:TS):TS:=fun D σ H=>c σ H fun b H1=>if b = true then t D σ H1 else u D σ H1
theorem ps_if {c:Expr} {a b:List Stmt} {tc:TT} (hc:PT X c tc) (ha:PSs X a t) (hb:PSs X b u):PS X (.If c a b pos) (tIfS tc t u):=by
 intro pins s σ H D I h
 refine wpAny_If (thn (hc pins s σ H _ I h) fun d s1 ⟨H1,I1,q1⟩=>?_)
 cases d with
 | true=>exact ha pins s1 σ H1 D I1 q1
 | false=>exact hb pins s1 σ H1 D I1 q1
end
abbrev TG:=V→St→Hp→(St→Hp→Prop)→Prop
abbrev TGs:=List V→St→Hp→(St→Hp→Prop)→Prop
def PG (X:Cx) (target:Expr) (t:TG):Prop :=
 ∀ (pins:List (Addr × Obj)) (s:Shared) (σ:St) (H:Hp) (v:V) (u:Value) (Q:St→Hp→Prop),Inv X pins σ H s→RelV v u→t v σ H Q →
   wpAny (model X.prog X.w) X.A (assign target X.env u) (fun _ s'=>∃ σ' H',Inv X pins σ' H' s'∧Q σ' H') X.xe s
def PGs (X:Cx) (ts:List Expr) (t:TGs):Prop :=
 ∀ (pins:List (Addr × Obj)) (s:Shared) (σ:St) (H:Hp) (vs:List V) (us:List Value) (Q:St→Hp→Prop),Inv X pins σ H s→Vals vs us→t vs σ H Q →
   wpAny (model X.prog X.w) X.A (assignInOrder ((assignEach ts X.env).map (·.2)) us) (fun _ s'=>∃ σ' H',Inv X pins σ' H' s'∧Q σ' H') X.xe s
abbrev TSet:=V→V→V→Hp→(Hp→Prop)→Prop
def PSet (X:Cx) (t:TSet):Prop :=
 ∀ (pins:List (Addr × Obj)) (s:Shared) (σ:St) (H:Hp) (o i v:V) (ov iv u:Value) (Q:Hp→Prop),Inv X pins σ H s→RelV o ov→RelV i iv→RelV v u→t o i v H Q →
   wpAny (model X.prog X.w) X.A (setItem ov iv u) (fun _ s'=>∃ H',Inv X pins σ H' s'∧Q H') X.xe s
section
variable {X:Cx} {pos:Pos}
def aey (i:Nat):TG:=fun v σ H Q=>Q (σ.set i (some v)) H
theorem bH {i:Nat} {x:Str} (hN:X.N.Nodup) (hi:X.N[i]? = some x) (hx:Loc X.env.scope x) (hf:X.fn x = true ∨ X.env.scope.names.lookup x = some .local:=by first | exact .inl rfl | exact .inr rfl | assumption):PG X (.Name x pos) (aey i):=by
 intro pins s σ H v u Q I r h
 exact wpAny_assign_Name (JH I hN hi hx r (fun s' I'=>⟨_,H,I',h⟩) hf)
def gNil:TGs:=fun vs σ H Q=>vs = []∧Q σ H
def gCons (t:TG) (u:TGs):TGs:=fun vs σ H Q=>∃ v r,vs = v :: r∧t v σ H fun σ' H'=>u r σ' H' Q
theorem pgs_nil:PGs X [] gNil:=by
 intro pins s σ H vs us Q I r h
 obtain ⟨e,h⟩:=h
 subst e
 cases r
 exact assignInOrder_nil ⟨σ,H,I,h⟩
theorem j7 {e:Expr} {es:List Expr} {t:TG} {u:TGs} (h1:PG X e t) (h2:PGs X es u)
   (hs:(assignEach (e :: es) X.env).map (·.2) = assign e X.env :: (assignEach es X.env).map (·.2):=by rfl):PGs X (e :: es) (gCons t u):=by
 intro pins s σ H vs us Q I r h
 obtain ⟨v,vr,e1,h⟩:=h
 subst e1
 cases r with
 | cons r rr =>
   rw [hs]
   refine assignInOrder_cons (thn (h1 pins s σ H _ _ _ I r h) fun _ s1 ⟨σ1,H1,I1,q1⟩=>?_)
   exact h2 pins s1 σ1 H1 _ _ Q I1 rr q1
def gTup (K:PySem.W.Frag) (n:Nat) (t:TGs):TG:=fun v σ H Q=>∃ a xs,v = .ref a∧SqT K H a xs∧xs.length = n∧t xs σ H Q
theorem S8 {es:List Expr} {k:Nat} {t:TGs} {n:Nat} (hc:X.calm = true) (h:PGs X es t)
   (hn:(assignEach es X.env).length = n:=by rfl) (hst:(assignEach es X.env).findIdx? (·.1) = none:=by rfl):PG X (.Tuple es k pos) (gTup X.K n t):=by
 intro pins s σ H v u Q I r hw
 obtain ⟨a,xs,e1,hq,hl,hw⟩:=hw
 subst e1
 cases r
 obtain ⟨its,rv,ht,hz⟩:=I.tuple hq
 refine assign_Tuple_tuple (I.ok.hd hc) ht (by simp [hn,← hl,rv.length]) hst fun h' hx=>?_
 have I1:Inv X pins σ H { s with heap:=h' }:=I.kept (t':=s.toks) fun b o e=>hx b o (Nat.ne_of_lt (Heap.lt_size e)) e
 exact h pins _ σ H xs _ Q I1 (by simpa using rv) hw
def gSub (to ti:TE) (t:TSet):TG:=fun v σ H Q=>to σ H fun o H1=>ti σ H1 fun i H2=>t o i v H2 fun H3=>Q σ H3
theorem pg_sub {o i:Expr} {to ti:TE} {t:TSet} (ho:PE X o to) (hi:PE X i ti) (hs:PSet X t)
   (ha:∀ v,assign (.Subscript o i pos) X.env v = (do
     let ov ← holding [v] (eval o X.env)
     let iv ← holding [v,ov] (eval i X.env)
     standAt pos
     holding [v,ov,iv] (setItem ov iv v)
     release [v,ov,iv] []):=by intro _; rfl):PG X (.Subscript o i pos) (gSub to ti t):=by
 intro pins s σ H v u Q I r h
 rw [ha]
 refine wpAny_bind (wpAny_holding (thn (ho pins s σ H _ I h) fun ov s1 ⟨x,H1,I1,r1,q1⟩=>?_))
 refine wpAny_bind (wpAny_holding (thn (hi pins s1 σ H1 _ I1 q1) fun iv s2 ⟨y,H2,I2,r2,q2⟩=>?_))
 refine wpAny_bind (wpAny_standAt (wpAny_bind (wpAny_holding (thn (hs pins s2 σ H2 x y v ov iv u _ I2 r1 r2 r q2) fun _ s3 ⟨H3,I3,q3⟩=>?_))))
 exact wpAny_release ⟨σ,H3,I3,q3⟩
def tAsg (te:TE) (g:TG):TS:=fun D σ H=>te σ H fun x H1=>g x σ H1 D.nx
theorem ps_asg {tg e:Expr} {te:TE} {g:TG} (he:PE X e te) (hg:PG X tg g) (hs:swapsWithSole [tg] e pos.line X.env = pure false:=by rfl) (hw:swappedStores [tg] e X.env = pure none:=by rfl)
   (h1:(assignEach [tg] X.env).map (·.2) = [assign tg X.env]:=by rfl):PS X (.Assign [tg] e pos) (tAsg te g):=by
 intro pins s σ H D I h
 refine wpAny_Assign_stores (thn (he pins s σ H _ I h) fun v s1 ⟨x,H1,I1,r1,q1⟩=>?_) hs hw
 rw [h1]
 exact thn (hg pins s1 σ H1 x v _ I1 r1 q1) fun _ s2 q=>q
theorem cg {i:Nat} {x:Str} {e:Expr} {te:TE} {pos':Pos} (hN:X.N.Nodup) (hi:X.N[i]? = some x) (hx:Loc X.env.scope x) (he:PE X e te) (hs:swapsWith e (some (.Name x pos')) pos.line X.env = pure false:=by rfl) (hf:X.fn x = true ∨ X.env.scope.names.lookup x = some .local:=by first | exact .inl rfl | exact .inr rfl | assumption) :
   PS X (.Assign [.Name x pos'] e pos) (tAsg te (aey i)):=by
 intro pins s σ H D I h
 refine wpAny_Assign_Name (thn (he pins s σ H _ I h) fun v s1 ⟨y,H1,I1,r1,q1⟩=>?_) hs
 exact JH I1 hN hi hx r1 (fun s2 I2=>⟨_,H1,I2,q1⟩) hf
end
section
variable {X:Cx} {pos:Pos}
end
structure It where
 go:Nat→Hp→Prop
 yld:Nat→Hp→V→Hp→Prop
 stop:Nat→Hp→Prop
def Nb (X:Cx) (pins:List (Addr × Obj)) (H:Hp) (b:Addr):Prop :=
 H b = none∧b ≠ X.env.locals∧b ∉ X.fs∧(b ∈ X.ex ∨ X.s₀.heap.objs.size ≤ b)∧(∀ x c,X.env.cells.lookup x = some c→c ≠ b)∧∀ p ∈ X.pn ++ pins,p.1 ≠ b
theorem Inv.fpOk {X:Cx} {pins:List (Addr × Obj)} {σ:St} {H H':Hp} {s:Shared} {b:Addr} (I:Inv X pins σ H s) (hb:s.heap.objs.size ≤ b) (hn:H' b = none):Nb X pins H' b:=by
 refine ⟨hn,Nat.ne_of_gt (Nat.lt_of_lt_of_le I.lt hb),I.nofs hb,.inr (Nat.le_trans I.sz hb),fun x c e z=>?_,fun p hp z=>?_⟩
 · obtain ⟨v,q⟩:=I.cell x c e
   exact absurd (Nat.lt_of_lt_of_le q.lt (by rw [z]; exact hb)) (Nat.lt_irrefl _)
 · exact absurd (Nat.lt_of_lt_of_le (Heap.lt_size (I.pin p hp).1) (by rw [z]; exact hb)) (Nat.lt_irrefl _)
structure Turn (P:Program) (w:World) (K:PySem.W.Frag) (tg:Expr) (J:It) (fp:List Addr) (it:Addr) (tn:Nat→Heap→Prop):Prop where
 mem:it ∈ fp
 obj:∀ i h,tn i h→∀ b ∈ fp,∃ o,h.get? b = some o∧∀ v,o.data ≠ .cell v
 keep:∀ i h h',tn i h→(∀ b ∈ fp,∀ o,h.get? b = some o→h'.get? b = some o)→tn i h'
 item:∀ (X:Cx),X.prog = P→X.w = w→X.K = K→X.calm = true→∀ (i:Nat) (pins:List (Addr × Obj)) (s:Shared) (σ:St) (H:Hp) (E:Value→Shared→Prop),Inv X pins σ H s→(∀ b ∈ fp,Nb X pins H b)→tn i s.heap→J.go i H →
   wpAny (model P w) X.A (pyNext (.ref it)) (fun r s1=>∃ u,r = some u ∧
     wpAny (model P w) X.A (letOwnedTupleGo tg (.ref it) u) (fun _ s2=>∃ x H',Inv X pins σ H' s2∧RelV x u∧J.yld i H x H'∧tn (i + 1) s2.heap∧∀ b ∈ fp,H' b = none) E s1) E s
 done:∀ (X:Cx),X.prog = P→X.w = w→X.K = K→X.calm = true→∀ (i:Nat) (pins:List (Addr × Obj)) (s:Shared) (σ:St) (H:Hp) (E:Value→Shared→Prop),Inv X pins σ H s→(∀ b ∈ fp,Nb X pins H b)→tn i s.heap→J.stop i H →
   wpAny (model P w) X.A (pyNext (.ref it)) (fun r s1=>r = none∧Inv X pins σ H s1) E s
 self:∀ (A:Around) (i:Nat) (s:Shared) (Q:Value→Shared→Prop) (E:Value→Shared→Prop),tn i s.heap→Q (.ref it) s→wpAny (model P w) A (pyIter (.ref it)) Q E s
abbrev TI:=St→Hp→(It→Hp→Prop)→Prop
def PIE (X:Cx) (pins:List (Addr × Obj)) (σ:St) (tg:Expr) (R:It→Hp→Prop) (itv:Value) (s2:Shared):Prop :=
 ∃ (it:Addr) (fp:List Addr) (tn:Nat→Heap→Prop) (J:It) (H':Hp),itv = .ref it∧Inv X pins σ H' s2∧Turn X.prog X.w X.K tg J fp it tn∧tn 0 s2.heap∧(∀ b ∈ fp,Nb X pins H' b)∧R J H'
def PI (X:Cx) (tg iter:Expr) (wi:TI):Prop :=
 ∀ (pins:List (Addr × Obj)) (s:Shared) (σ:St) (H:Hp) (R:It→Hp→Prop),Inv X pins σ H s→wi σ H R →
   wpAny (model X.prog X.w) X.A (eval iter X.env) (fun v s1=>wpAny (model X.prog X.w) X.A (pyIter v) (PIE X pins σ tg R) X.xe s1) X.xe s
theorem aeB {M:Model} {A:Around} {E:Value→Shared→Prop} {s:Shared} {tg:Expr} {it:Addr} {u:Value} {o:Obj} {n:String} {vs:Array Value} {Q:Unit→Shared→Prop} (ho:s.heap.get? it = some o) (hc:o.cls = .type n) (hd:o.data = .fields vs)
   (hn:["enumerate","zip","dict_itemiterator","dict_reverseitemiterator","odict_iterator","itertools.zip_longest","itertools.pairwise"].contains n = false) (hQ:Q () s):wpAny M A (letOwnedTupleGo tg (.ref it) u) Q E s:=by
 unfold letOwnedTupleGo
 cases tg <;> first
   | exact wpAny_pure hQ
   | (cases u <;> first
       | exact wpAny_pure hQ
       | (refine wpAny_bind (wpAny_load ho ?_)
          rw [hc,hd]
          show wpAny M A (if (["enumerate","zip","dict_itemiterator","dict_reverseitemiterator","odict_iterator","itertools.zip_longest","itertools.pairwise"].contains n && vs[0]? == some (rawInt _)) = true then _ else _) Q E s
          rw [if_neg (by intro h; rw [hn,Bool.false_and] at h; cases h)]
          exact wpAny_pure hQ))
def Itl (K:PySem.W.Frag) (a:Addr):It :=
 ⟨fun i H=>∃ xs x,SqL K H a xs∧xs[i]? = some x,fun i H x H'=>H' = H∧∀ xs,SqL K H a xs→xs[i]? = some x,fun i H=>∃ xs,SqL K H a xs∧xs.length ≤ i⟩
def Itt (K:PySem.W.Frag) (a:Addr):It :=
 ⟨fun i H=>∃ xs x,SqT K H a xs∧xs[i]? = some x,fun i H x H'=>H' = H∧∀ xs,SqT K H a xs→xs[i]? = some x,fun i H=>∃ xs,SqT K H a xs∧xs.length ≤ i⟩
def Itr (lo:Int) (n:Nat):It:=⟨fun i _=>i < n,fun i H x H'=>H' = H∧x = .int (lo + i),fun i _=>n ≤ i⟩
theorem ajs {P:Program} {w:World} {K:PySem.W.Frag} {tg:Expr} (a it:Addr):Turn P w K tg (Itl K a) [it] it (fun i h=>h.IsListIter it a i) where
 mem:=by simp
 obj:=fun i h st b hb=>by
   have e:b = it:=by simpa using hb
   subst e
   obtain ⟨o,e,c,d⟩:=st
   exact ⟨o,e,fun v z=>by rw [d] at z; cases z⟩
 keep:=fun i h h' st k=>st.at fun o e=>k it (by simp) o e
 item:=by
   intro X hP hw hK hc i pins s σ H E I hf st hg
   subst hP hw hK
   obtain ⟨xs,x,hq,hx⟩:=hg
   obtain ⟨its,rv,p,hz⟩:=I.list hq
   obtain ⟨u,hu,ru⟩:=rv.get hx
   obtain ⟨f0,f1,f2,f3,f4,f5⟩:=hf it (by simp)
   refine wpAny_pyNext_list_item st p.isList (x:=u) (by simpa using hu) fun h' st' sb=>?_
   have I1:Inv X pins σ H { s with heap:=h' }:=I.turned (t':=s.toks) (fun b o hb e=>(sb.2 b hb).trans e) f0 f1 f3 f4 f5
   obtain ⟨o,e,c,d⟩:=id st'
   exact ⟨u,rfl,aeB (s:={ s with heap:=h' }) e c d (by decide) ⟨x,H,I1,ru,⟨rfl,fun ys hy=>by rw [I.aeK hy hq]; exact hx⟩,st',fun b hb=>(hf b hb).1⟩⟩
 done:=by
   intro X hP hw hK hc i pins s σ H E I hf st hg
   subst hP hw hK
   obtain ⟨xs,hq,hx⟩:=hg
   obtain ⟨its,rv,p,hz⟩:=I.list hq
   obtain ⟨f0,f1,f2,f3,f4,f5⟩:=hf it (by simp)
   have hl:=rv.length
   exact wpAny_pyNext_list_end (I.ok.hd hc) st p.isList (by simp; omega) fun h' eb=>⟨rfl,I.turned (t':=s.toks) (fun b o hb e=>eb b o hb e) f0 f1 f3 f4 f5⟩
 self:=fun _ _ _ _ _ st h=>wpAny_pyIter_listiter st h
theorem ahG {P:Program} {w:World} {K:PySem.W.Frag} {tg:Expr} (a it:Addr):Turn P w K tg (Itt K a) [it] it (fun i h=>h.IsTupleIter it a i) where
 mem:=by simp
 obj:=fun i h st b hb=>by
   have e:b = it:=by simpa using hb
   subst e
   obtain ⟨o,e,c,d⟩:=st
   exact ⟨o,e,fun v z=>by rw [d] at z; cases z⟩
 keep:=fun i h h' st k=>st.at fun o e=>k it (by simp) o e
 item:=by
   intro X hP hw hK hc i pins s σ H E I hf st hg
   subst hP hw hK
   obtain ⟨xs,x,hq,hx⟩:=hg
   obtain ⟨its,rv,p,hz⟩:=I.tuple hq
   obtain ⟨u,hu,ru⟩:=rv.get hx
   obtain ⟨f0,f1,f2,f3,f4,f5⟩:=hf it (by simp)
   refine wpAny_pyNext_tuple_item st (show s.heap.IsTuple a its.toArray from p) (x:=u) (by simpa using hu) fun h' st' sb=>?_
   have I1:Inv X pins σ H { s with heap:=h' }:=I.turned (t':=s.toks) (fun b o hb e=>(sb.2 b hb).trans e) f0 f1 f3 f4 f5
   obtain ⟨o,e,c,d⟩:=id st'
   exact ⟨u,rfl,aeB (s:={ s with heap:=h' }) e c d (by decide) ⟨x,H,I1,ru,⟨rfl,fun ys hy=>by rw [I.ajq hy hq]; exact hx⟩,st',fun b hb=>(hf b hb).1⟩⟩
 done:=by
   intro X hP hw hK hc i pins s σ H E I hf st hg
   subst hP hw hK
   obtain ⟨xs,hq,hx⟩:=hg
   obtain ⟨its,rv,p,hz⟩:=I.tuple hq
   obtain ⟨f0,f1,f2,f3,f4,f5⟩:=hf it (by simp)
   have hl:=rv.length
   exact wpAny_pyNext_tuple_end (I.ok.hd hc) st (show s.heap.IsTuple a its.toArray from p) (by simp; omega) fun h' eb=>⟨rfl,I.turned (t':=s.toks) (fun b o hb e=>eb b o hb e) f0 f1 f3 f4 f5⟩
 self:=fun _ _ _ _ _ st h=>wpAny_pyIter_tupleiter st h
theorem ahF {P:Program} {w:World} {K:PySem.W.Frag} {tg:Expr} (it:Addr) (lo:Int) (n:Nat):Turn P w K tg (Itr lo n) [it] it (fun i h=>IsRangeIter h it (lo + (i:Nat) * 1) ((n:Int) - (i:Nat)) 1) where
 mem:=by simp
 obj:=fun i h st b hb=>by
   have e:b = it:=by simpa using hb
   subst e
   exact ⟨_,st,fun v z=>by
     have z':Data.fields _ = Data.cell v:=z
     cases z'⟩
 keep:=fun i h h' st k=>k it (by simp) _ st
 item:=by
   intro X hP hw hK hc i pins s σ H E I hf st hg
   subst hP hw hK
   obtain ⟨f0,f1,f2,f3,f4,f5⟩:=hf it (by simp)
   have W:=Walks.range (prog:=X.prog) (w:=X.w) (I.ok.hd hc) it lo 1 n
   refine W.item i s _ _ hg st fun v h' tk hv st' kk=>?_
   obtain ⟨t,rfl⟩:=hv
   have I1:Inv X pins σ H { s with heap:=h',toks:=tk }:=I.turned (fun b o hb e=>kk b o (by simpa using hb) e) f0 f1 f3 f4 f5
   refine ⟨_,rfl,aeB (s:={ s with heap:=h',toks:=tk }) (n:="range_iterator") st' rfl rfl (by decide) ⟨.int (lo + i),H,I1,⟨t,?_⟩,⟨rfl,rfl⟩,st',fun b hb=>(hf b hb).1⟩⟩
   rw [Int.mul_one]
 done:=by
   intro X hP hw hK hc i pins s σ H E I hf st hg
   subst hP hw hK
   obtain ⟨f0,f1,f2,f3,f4,f5⟩:=hf it (by simp)
   exact wpAny_pyNext_range_end (I.ok.hd hc) st (by have:n ≤ i:=hg; omega) fun h' eb=>⟨rfl,I.turned (t':=s.toks) (fun b o hb e=>eb b o hb e) f0 f1 f3 f4 f5⟩
 self:=fun _ _ _ _ _ st h=>wpAny_pyIter_rangeiter st h
end L2
namespace L2
open PySem PySem.Spec PyProof.Rows
section
variable {X:Cx} {tg:Expr}
def iList (K:PySem.W.Frag) (tl:TE):TI:=fun σ H R=>tl σ H fun x H1=>∃ a,x = .ref a∧(∃ xs,SqL K H1 a xs)∧R (Itl K a) H1
def iTup (K:PySem.W.Frag) (tl:TE):TI:=fun σ H R=>tl σ H fun x H1=>∃ a,x = .ref a∧(∃ xs,SqT K H1 a xs)∧R (Itt K a) H1
theorem pi_list {l:Expr} {tl:TE} (hl:PE X l tl):PI X tg l (iList X.K tl):=by
 intro pins s σ H R I h
 refine thn (hl pins s σ H _ I h) fun v s1 ⟨x,H1,I1,r1,q1⟩=>?_
 obtain ⟨a,e,⟨xs,hq⟩,q⟩:=q1
 subst e
 cases r1
 obtain ⟨its,rv,p,hz⟩:=I1.list hq
 refine wpAny_pyIter_list p.isList ?_
 refine ⟨s1.heap.objs.size,[s1.heap.objs.size],_,_,H1,rfl,I1.kept (t':=s1.toks) fun b o e=>Heap.get?_push_of_some _ e,ajs a _,⟨_,Heap.get?_push_size _ rfl,rfl,rfl⟩,fun b hb=>?_,q⟩
 have e:b = s1.heap.objs.size:=by simpa using hb
 subst e
 exact I1.fpOk (Nat.le_refl _) (I1.hok.fresh (Nat.le_refl _))
theorem pi_tup {l:Expr} {tl:TE} (hl:PE X l tl):PI X tg l (iTup X.K tl):=by
 intro pins s σ H R I h
 refine thn (hl pins s σ H _ I h) fun v s1 ⟨x,H1,I1,r1,q1⟩=>?_
 obtain ⟨a,e,⟨xs,hq⟩,q⟩:=q1
 subst e
 cases r1
 obtain ⟨its,rv,p,hz⟩:=I1.tuple hq
 refine wpAny_pyIter_tuple (show s1.heap.IsTuple a its.toArray from p) ?_
 refine ⟨s1.heap.objs.size,[s1.heap.objs.size],_,_,H1,rfl,I1.kept (t':=s1.toks) fun b o e=>Heap.get?_push_of_some _ e,ahG a _,⟨_,Heap.get?_push_size _ rfl,rfl,rfl⟩,fun b hb=>?_,q⟩
 have e:b = s1.heap.objs.size:=by simpa using hb
 subst e
 exact I1.fpOk (Nat.le_refl _) (I1.hok.fresh (Nat.le_refl _))
theorem range_it {pins:List (Addr × Obj)} {σ:St} {H:Hp} {s:Shared} {R:It→Hp→Prop} {E:Value→Shared→Prop} {lo hi:Int} {t u v:Tok} {tk:Nat} (I:Inv X pins σ H s) (h1:-(2 ^ 62) ≤ lo) (h2:lo < 2 ^ 62) (h3:-(2 ^ 62) ≤ hi) (h4:hi < 2 ^ 62)
   (q:R (Itr lo (hi - lo).toNat) H):wpAny (model X.prog X.w) X.A (pyIter (.ref s.heap.objs.size)) (PIE X pins σ tg R) E { s with heap:=s.heap.push { cls:=.type "range",data:=.fields #[.int lo t,.int hi u,.int 1 v] },toks:=tk }:=by
 refine wpAny_pyIter_range (IsRange.new ..) (small_one h1 h2 h3 h4) ?_
 have I1:Inv X pins σ H { s with heap:=s.heap.push { cls:=.type "range",data:=.fields #[.int lo t,.int hi u,.int 1 v] },toks:=tk }:=I.kept fun b o e=>Heap.get?_push_of_some _ e
 refine ⟨(s.heap.push { cls:=.type "range",data:=.fields #[.int lo t,.int hi u,.int 1 v] }).objs.size,[(s.heap.push { cls:=.type "range",data:=.fields #[.int lo t,.int hi u,.int 1 v] }).objs.size],_,_,H,rfl,
   I1.kept (t':=tk) fun b o e=>Heap.get?_push_of_some _ e,ahF _ lo (hi - lo).toNat,?_,fun b hb=>?_,q⟩
 · have e1:lo + ((0:Nat):Int) * 1 = lo:=by simp
   have e2:(((hi - lo).toNat:Nat):Int) - ((0:Nat):Int) = Builtin.Range.rangeSize lo hi 1:=by rw [rangeSize_one]; split <;> omega
   show IsRangeIter _ _ (lo + ((0:Nat):Int) * 1) ((((hi - lo).toNat:Nat):Int) - ((0:Nat):Int)) 1
   rw [e1,e2]
   exact Heap.get?_push_size _ rfl
 · have e:b = (s.heap.push { cls:=.type "range",data:=.fields #[.int lo t,.int hi u,.int 1 v] }).objs.size:=by simpa using hb
   subst e
   exact I1.fpOk (Nat.le_refl _) (I1.hok.fresh (Nat.le_refl _))
def iRng1 (ta:TA):TI:=fun σ H R=>ta σ H fun vs H1=>∃ j:Int,vs = [.int j]∧-(2 ^ 62) ≤ j∧j < 2 ^ 62∧R (Itr 0 j.toNat) H1
theorem ajc {a:Expr} {ta:TA} {p pos:Pos} (hg:Gl X "range") (hm:X.mg "range" = none) (ha:PA X [a] ta) (hs:starEach [a] X.env = [(false,eval a X.env)]:=by rfl):PI X tg (.Call (.Name "range" p) [a] [] pos) (iRng1 ta):=by
 intro pins s σ H R I h
 refine Call_ (R3 I hg hm boot_range (PyProof.Rows.callWith_type1 (thn (ha pos pins s σ H _ I h) fun us s1 ⟨vs,H1,I1,r1,q1⟩=>?_) hs rfl))
 obtain ⟨j,e,q1,q2,q⟩:=q1
 subst e
 cases r1 with
 | cons r rr =>
   cases rr
   obtain ⟨t,rfl⟩:=r
   exact call_range_1 (range_it I1 (by omega) (by omega) q1 q2 (by simpa using q))
def tFor (wi:TI) (g:TG) (tb:TS):TS:=fun D σ H=>wi σ H fun J H1=>∃ W:Nat→Nat→St→Hp→Prop,(∃ m,W 0 m σ H1)∧∀ i m σ H,W i m σ H →
 (J.stop i H∧D.nx σ H) ∨ (J.go i H∧∃ N:St→Hp→Prop,(∀ σ' H',N σ' H'→∃ m',m' < m∧W (i + 1) m' σ' H')∧∀ x H',J.yld i H x H'→g x σ H' fun σ2 H2=>tb { D with nx:=N,ct:=N,bk:=D.nx } σ2 H2)
def S9 (fp:List Addr) (h:Heap):List (Addr × Obj):=fp.filterMap fun b=>(h.get? b).map fun o=>(b,o)
theorem yV {fp:List Addr} {h:Heap} {b:Addr} {o:Obj} (hb:b ∈ fp) (e:h.get? b = some o):(b,o) ∈ S9 fp h:=List.mem_filterMap.mpr ⟨b,hb,by rw [e]; rfl⟩
theorem ai8 {fp:List Addr} {h:Heap} {p:Addr × Obj} (hp:p ∈ S9 fp h):p.1 ∈ fp∧h.get? p.1 = some p.2:=by
 obtain ⟨b,hb,e⟩:=List.mem_filterMap.mp hp
 cases q:h.get? b with
 | none=>rw [q] at e; cases e
 | some o =>
   rw [q] at e
   have e':(b,o) = p:=Option.some.inj e
   subst e'
   exact ⟨hb,q⟩
theorem Inv.pinned {pins:List (Addr × Obj)} {σ:St} {H:Hp} {s:Shared} {fp:List Addr} (I:Inv X pins σ H s) (hf:∀ b ∈ fp,Nb X pins H b) (ho:∀ b ∈ fp,∃ o,s.heap.get? b = some o∧∀ v,o.data ≠ .cell v):Inv X (pins ++ S9 fp s.heap) σ H s :=
 I.aid fun p hp=>(List.mem_append.mp hp).elim (fun z=>I.pin p (List.mem_append_right _ z)) fun z=>by
   obtain ⟨hb,e⟩:=ai8 z
   obtain ⟨f0,f1,f2,_⟩:=hf p.1 hb
   obtain ⟨o,e',d⟩:=ho p.1 hb
   rw [e] at e'; cases e'
   exact ⟨e,f0,f1,f2,d⟩
theorem Inv.JM {pins pl:List (Addr × Obj)} {σ:St} {H:Hp} {s:Shared} (I:Inv X (pins ++ pl) σ H s):Inv X pins σ H s:=I.aid fun p hp=>I.pin p (List.mem_append_right _ (List.mem_append_left _ hp))
theorem za {iter:Expr} {body:List Stmt} {wi:TI} {g:TG} {tb:TS} {pos:Pos} (hp:PassesOwn (model X.prog X.w) X.A X.env X.xe) (hc:X.calm = true) (hi:PI X tg iter wi) (hg:PG X tg g) (hb:PSs X body tb)
   (hs:∀ x,foldedSetIterable iter X.env x = pure x:=by intro _; rfl):PS X (.For tg iter body [] pos) (tFor wi g tb):=by
 intro pins s σ H D I h
 refine wpAny_For (thn (hi pins s σ H _ I h) fun v s1 h1=>thn h1 fun itv s2 h2=>?_) hs
 obtain ⟨it,fp,tn,J,H2,e,I2,T,st2,f2,W,⟨m0,w0⟩,turn⟩:=h2
 subst e
 have stat:∀ {H':Hp},(∀ b ∈ fp,H' b = none)→∀ b ∈ fp,Nb X pins H' b:=fun hn b hb=>⟨hn b hb,(f2 b hb).2⟩
 refine codeAny_forLoop_any (fun n s'=>∃ i σ' H',Inv X pins σ' H' s'∧tn i s'.heap∧(∀ b ∈ fp,H' b = none)∧W i n σ' H') ?_ m0 ⟨0,σ,H2,I2,st2,fun b hb=>(f2 b hb).1,w0⟩
 rintro n s3 ⟨i,σ3,H3,I3,st3,fr3,w3⟩
 rcases turn i n σ3 H3 w3 with ⟨stop,qn⟩ | ⟨go,N,hN,step⟩
 · refine wpAny_passesOwn hp (thn (T.done X rfl rfl rfl hc i pins s3 σ3 H3 X.xe I3 (stat fr3) st3 stop) fun r s4 ⟨hr,I4⟩=>?_)
   subst hr
   exact wpAny_execs_nil ⟨σ3,H3,I4,qn⟩
 · refine wpAny_passesOwn hp (thn (T.item X rfl rfl rfl hc i pins s3 σ3 H3 X.xe I3 (stat fr3) st3 go) fun r s4 ⟨u,hr,h4⟩=>?_)
   subst hr
   refine wpAny_passesOwn hp (thn h4 fun _ s5 ⟨x,H5,I5,r5,y5,st5,fr5⟩=>?_)
   have I5':=I5.pinned (stat fr5) (T.obj _ _ st5)
   refine wpAny_passesOwn hp (thn (hg _ s5 σ3 H5 x u _ I5' r5 (step x H5 y5)) fun _ s6 ⟨σ6,H6,I6,q6⟩=>?_)
   refine wpAny_passesOwn hp (thn (hb _ s6 σ6 H6 _ I6 q6) fun f s7 q7=>?_)
   have again:∀ {σ7:St} {H7:Hp},Inv X (pins ++ S9 fp s5.heap) σ7 H7 s7→N σ7 H7→∃ m,m < n∧∃ i σ' H',Inv X pins σ' H' s7∧tn i s7.heap∧(∀ b ∈ fp,H' b = none)∧W i m σ' H':=fun {σ7 H7} I7 n7=>by
     obtain ⟨m',hm,w7⟩:=hN σ7 H7 n7
     refine ⟨m',hm,i + 1,σ7,H7,I7.JM,T.keep _ _ _ st5 fun b hb o e=>(I7.pin (b,o) (List.mem_append_right _ (List.mem_append_right _ (yV hb e)))).1,fun b hb=>?_,w7⟩
     obtain ⟨o,e,d⟩:=T.obj _ _ st5 b hb
     exact (I7.pin (b,o) (List.mem_append_right _ (List.mem_append_right _ (yV hb e)))).2.1
   cases f with
   | next=>obtain ⟨σ7,H7,I7,n7⟩:=q7; exact again I7 n7
   | cont=>obtain ⟨σ7,H7,I7,n7⟩:=q7; exact again I7 n7
   | brk=>obtain ⟨σ7,H7,I7,q7⟩:=q7; exact ⟨σ7,H7,I7.JM,q7⟩
   | ret v=>obtain ⟨x7,σ7,H7,I7,r7,q7⟩:=q7; exact ⟨x7,σ7,H7,I7.JM,r7,q7⟩
end
end L2
namespace L2
open PySem PySem.Spec PyProof.Rows
abbrev R2:=V→V→Hp→VK→Prop
def OpR (X:Cx) (f:Value→Value→Sem Value) (r:R2):Prop :=
 ∀ (pins:List (Addr × Obj)) (s:Shared) (σ:St) (H:Hp) (x y:V) (v u:Value) (Q:VK),Inv X pins σ H s→RelV x v→RelV y u→r x y H Q →
   wpAny (model X.prog X.w) X.A (f v u) (EP X pins σ Q) X.xe s
def UnR (X:Cx) (f:Value→Sem Value) (r:V→Hp→VK→Prop):Prop :=
 ∀ (pins:List (Addr × Obj)) (s:Shared) (σ:St) (H:Hp) (x:V) (v:Value) (Q:VK),Inv X pins σ H s→RelV x v→r x H Q →
   wpAny (model X.prog X.w) X.A (f v) (EP X pins σ Q) X.xe s
def rK (X:Cx) (f:Value) (r:List V→Hp→VK→Prop):Prop :=
 ∀ (pins:List (Addr × Obj)) (s:Shared) (σ:St) (H:Hp) (xs:List V) (us:List Value) (Q:VK),Inv X pins σ H s→Vals xs us→r xs H Q →
   wpAny (model X.prog X.w) X.A (call f us) (EP X pins σ Q) X.xe s
def TruR (X:Cx) (r:V→Hp→(Bool→Hp→Prop)→Prop):Prop :=
 ∀ (pins:List (Addr × Obj)) (s:Shared) (σ:St) (H:Hp) (x:V) (v:Value) (Q:Bool→Hp→Prop),Inv X pins σ H s→RelV x v→r x H Q →
   wpAny (model X.prog X.w) X.A (truthy v) (TP X pins σ Q) X.xe s
def tOp (r:R2) (ta tb:TE):TE:=fun σ H Q=>ta σ H fun x H1=>tb σ H1 fun y H2=>r x y H2 Q
def tUn (r:V→Hp→VK→Prop) (ta:TE):TE:=fun σ H Q=>ta σ H fun x H1=>r x H1 Q
def rI (C:Int→Int→Prop) (g:Int→Int→V):R2:=fun x y H Q=>∃ i j,x = .int i∧y = .int j∧C i j∧Q (g i j) H
def rI0 (g:Int→Int→V):R2:=fun x y H Q=>∃ i j,x = .int i∧y = .int j∧Q (g i j) H
def rU (g:Int→V):V→Hp→VK→Prop:=fun x H Q=>∃ i,x = .int i∧Q (g i) H
section
variable {X:Cx} {a b c:Expr} {ta tb tc:TE} {pos:Pos}
theorem binT (ha:PE X a ta) (hb:PE X b tb) {pins:List (Addr × Obj)} {s:Shared} {σ:St} {H:Hp} {R:V→V→Hp→Prop} (I:Inv X pins σ H s)
   (h:ta σ H fun x H1=>tb σ H1 fun y H2=>R x y H2) {Q:Value→Shared→Prop} {f:Value→Value→Sem Value}
   (hf:∀ v u s2 x y H2,Inv X pins σ H2 s2→RelV x v→RelV y u→R x y H2→wpAny (model X.prog X.w) X.A (f v u) Q X.xe s2) :
   wpAny (model X.prog X.w) X.A (eval a X.env) (fun v s₁=>wpAny (model X.prog X.w) X.A (eval b X.env) (fun u s₂=>wpAny (model X.prog X.w) X.A (f v u) Q X.xe s₂) X.xe s₁) X.xe s:=by
 refine thn (ha pins s σ H _ I h) fun v s1 ⟨x,H1,I1,r1,q1⟩=>?_
 refine thn (hb pins s1 σ H1 _ I1 q1) fun u s2 ⟨y,H2,I2,r2,q2⟩=>?_
 exact hf v u s2 x y H2 I2 r1 r2 q2
theorem ae2 {op:Operator} {r:R2} (ho:OpR X (binaryOp op) r) (ha:PE X a ta) (hb:PE X b tb):PE X (.BinOp a op b pos) (tOp r ta tb):=by
 intro pins s σ H Q I h
 exact wpAny_BinOp (binT ha hb I h fun v u s2 x y H2 I2 rx ry q=>ho pins s2 σ H2 x y v u Q I2 rx ry q)
theorem pe_un {op:UnaryOp} {r:V→Hp→VK→Prop} (ho:UnR X (unaryOp op) r) (ha:PE X a ta):PE X (.UnaryOp op a pos) (tUn r ta):=by
 intro pins s σ H Q I h
 exact UnaryOp_ (thn (ha pins s σ H _ I h) fun v s1 ⟨x,H1,I1,r1,q1⟩=>ho pins s1 σ H1 x v Q I1 r1 q1)
theorem opI {f:Value→Value→Sem Value} {C:Int→Int→Prop} {g:Int→Int→Int}
   (rule:∀ (i j:Int) (t u:Tok) (s:Shared) (Q:Value→Shared→Prop) (E:Value→Shared→Prop),C i j→Q (.int (g i j) s.toks) { s with toks:=s.toks + 1 }→wpAny (model X.prog X.w) X.A (f (.int i t) (.int j u)) Q E s) :
   OpR X f (rI C fun i j=>.int (g i j)):=by
 intro pins s σ H x y v u Q I rx ry h
 obtain ⟨i,j,rfl,rfl,hc,q⟩:=h
 obtain ⟨t,rfl⟩:=rx
 obtain ⟨t',rfl⟩:=ry
 exact rule i j t t' s _ _ hc ⟨.int (g i j),H,I.tok _,⟨_,rfl⟩,q⟩
theorem opI0 {f:Value→Value→Sem Value} {g:Int→Int→Int}
   (rule:∀ (i j:Int) (t u:Tok) (s:Shared) (Q:Value→Shared→Prop) (E:Value→Shared→Prop),Q (.int (g i j) s.toks) { s with toks:=s.toks + 1 }→wpAny (model X.prog X.w) X.A (f (.int i t) (.int j u)) Q E s) :
   OpR X f (rI0 fun i j=>.int (g i j)):=by
 intro pins s σ H x y v u Q I rx ry h
 obtain ⟨i,j,rfl,rfl,q⟩:=h
 obtain ⟨t,rfl⟩:=rx
 obtain ⟨t',rfl⟩:=ry
 exact rule i j t t' s _ _ ⟨.int (g i j),H,I.tok _,⟨_,rfl⟩,q⟩
theorem opB0 {f:Value→Value→Sem Value} {g:Int→Int→Bool}
   (rule:∀ (i j:Int) (t u:Tok) (s:Shared) (Q:Value→Shared→Prop) (E:Value→Shared→Prop),Q (.bool (g i j)) s→wpAny (model X.prog X.w) X.A (f (.int i t) (.int j u)) Q E s) :
   OpR X f (rI0 fun i j=>.bl (g i j)):=by
 intro pins s σ H x y v u Q I rx ry h
 obtain ⟨i,j,rfl,rfl,q⟩:=h
 obtain ⟨t,rfl⟩:=rx
 obtain ⟨t',rfl⟩:=ry
 exact rule i j t t' s _ _ ⟨.bl (g i j),H,I,rfl,q⟩
def CDiv (i j:Int):Prop:=0 < j∧j < 1073741824
def Dz (i j:Int):Prop:=(-(2 ^ 64) < i∧i < 2 ^ 64) ∨ (-(2 ^ 64) < j∧j < 2 ^ 64)
theorem Dz.ok {i j:Int} (h:Dz i j):IntMulOk i j:=by
 rcases h with ⟨h1,h2⟩ | ⟨h1,h2⟩
 · exact .of_left (intBits_le_64 h1 h2)
 · exact .of_right (intBits_le_64 h1 h2)
theorem op_add:OpR X (binaryOp .Add) (rI0 fun i j=>.int (i + j)):=opI0 fun _ _ _ _ _ _ _ q=>add_int q
theorem op_mul:OpR X (binaryOp .Mult) (rI Dz fun i j=>.int (i * j)):=opI fun _ _ _ _ _ _ _ hc q=>mul_int q hc.ok
theorem op_fdiv:OpR X (binaryOp .FloorDiv) (rI CDiv fun i j=>.int (i / j)):=opI fun i j _ _ _ _ _ hc q=>by
 have h1:(0:Int) < j:=hc.1
 have h2:j < 1073741824:=hc.2
 exact floordiv_int (by omega) (by rw [Int.fdiv_eq_ediv_of_nonneg i (by omega)]; exact q) (.inl (PyProof.noPylong_small (by omega)))
theorem op_mod:OpR X (binaryOp .Mod) (rI (fun _ j=>0 < j) fun i j=>.int (i % j)):=opI fun i j _ _ _ _ _ hc q=>by
 have h1:(0:Int) < j:=hc
 exact mod_int' (by omega) (by rw [Int.fmod_eq_emod_of_nonneg i (by omega)]; exact q)
theorem unI {f:Value→Sem Value} {g:Int→Int}
   (rule:∀ (i:Int) (t:Tok) (s:Shared) (Q:Value→Shared→Prop) (E:Value→Shared→Prop),Q (.int (g i) s.toks) { s with toks:=s.toks + 1 }→wpAny (model X.prog X.w) X.A (f (.int i t)) Q E s) :
   UnR X f (rU fun i=>.int (g i)):=by
 intro pins s σ H x v Q I rx h
 obtain ⟨i,rfl,q⟩:=h
 obtain ⟨t,rfl⟩:=rx
 exact rule i t s _ _ ⟨.int (g i),H,I.tok _,⟨_,rfl⟩,q⟩
theorem un_neg:UnR X (unaryOp .USub) (rU fun i=>.int (-i)):=unI fun _ _ _ _ _ q=>neg_int q
end
section
variable {X:Cx} {a b c:Expr} {ta tb tc:TE} {pos:Pos}
theorem aay {pins:List (Addr × Obj)} {σ:St} {H:Hp} {s:Shared} {Q:VK} {k k':Bool} (I:Inv X pins σ H s) (q:Q (.bl k) H) (e:k = k'):EP X pins σ Q (.bool k') s:=by
 subst e
 exact ⟨.bl k,H,I,rfl,q⟩
theorem op_lt:OpR X (compareOp .Lt) (rI0 fun i j=>.bl (decide (i < j))):=opB0 fun _ _ _ _ _ _ _ q=>lt_int q
theorem op_le:OpR X (compareOp .LtE) (rI0 fun i j=>.bl (decide (i ≤ j))):=opB0 fun _ _ _ _ _ _ _ q=>le_int q
theorem op_gt:OpR X (compareOp .Gt) (rI0 fun i j=>.bl (decide (j < i))):=opB0 fun _ _ _ _ _ _ _ q=>gt_int q
theorem aja:OpR X (compareOp .In) (fun x y H Q=>∃ i j,x = .str i∧y = .str j∧Q (.bl (!(Builtin.Str.occurrences j i 0 j.length 1).isEmpty)) H):=by
 intro pins s σ H x y v u Q I rx ry h
 obtain ⟨i,j,rfl,rfl,q⟩:=h
 obtain ⟨t,rfl⟩:=rx
 obtain ⟨t',rfl⟩:=ry
 exact in_str (aay I q rfl)
theorem op_isN:OpR X (compareOp .Is) (fun x y H Q=>y = .non∧Q (.bl (decide (x = .non))) H):=by
 intro pins s σ H x y v u Q I rx ry h
 obtain ⟨rfl,q⟩:=h
 cases ry
 refine is_none_gen (aay I q ?_)
 cases x <;> first
   | (cases rx; rfl)
   | (obtain ⟨t,rfl⟩:=rx; rfl)
theorem op_notN:OpR X (compareOp .IsNot) (fun x y H Q=>y = .non∧Q (.bl (!decide (x = .non))) H):=by
 intro pins s σ H x y v u Q I rx ry h
 obtain ⟨rfl,q⟩:=h
 cases ry
 refine isnot_none_gen (aay I q ?_)
 cases x <;> first
   | (cases rx; rfl)
   | (obtain ⟨t,rfl⟩:=rx; rfl)
theorem ab6:OpR X (compareOp .NotIn) (fun x y H Q=>∃ i j,x = .str i∧y = .str j∧Q (.bl (!(!(Builtin.Str.occurrences j i 0 j.length 1).isEmpty))) H):=by
 intro pins s σ H x y v u Q I rx ry h
 obtain ⟨i,j,rfl,rfl,q⟩:=h
 obtain ⟨t,rfl⟩:=rx
 obtain ⟨t',rfl⟩:=ry
 exact notIn_str (aay I q rfl)
theorem OpR.or {f:Value→Value→Sem Value} {r r':R2} (h:OpR X f r) (h':OpR X f r'):OpR X f (fun x y H Q=>r x y H Q ∨ r' x y H Q):=by
 intro pins s σ H x y v u Q I rx ry q
 rcases q with q | q
 · exact h pins s σ H x y v u Q I rx ry q
 · exact h' pins s σ H x y v u Q I rx ry q
theorem GF (b:Expr) {op:CmpOp} (h:op ≠ .In:=by decide) (h2:op ≠ .NotIn:=by decide):behindInMarks op b = false:=by
 have e1:(op == CmpOp.In) = false:=by cases op <;> first | rfl | exact absurd rfl h
 have e2:(op == CmpOp.NotIn) = false:=by cases op <;> first | rfl | exact absurd rfl h2
 cases b <;> simp [behindInMarks,e1,e2]
theorem ab7 {op:CmpOp} {r:R2} (ho:OpR X (compareOp op) r) (ha:PE X a ta) (hb:PE X b tb) (hm:behindInMarks op b = false):PE X (.Compare a [op] [b] pos) (tOp r ta tb):=by
 intro pins s σ H Q I h
 exact wpAny_Compare1 (binT ha hb I h fun v u s2 x y H2 I2 rx ry q=>ho pins s2 σ H2 x y v u Q I2 rx ry q) hm
def tTest (t:TE):TT:=fun σ H Q=>t σ H fun x H'=>∃ k,x = .bl k∧Q k H'
theorem Du {op:CmpOp} {r:R2} (ho:OpR X (compareOp op) r) (ha:PE X a ta) (hb:PE X b tb) (hm:behindInMarks op b = false):PT X (.Compare a [op] [b] pos) (tTest (tOp r ta tb)):=by
 intro pins s σ H Q I h
 refine wpAny_isTrue_Compare1 (thn (ha pins s σ H _ I h) fun v s1 ⟨x,H1,I1,r1,q1⟩=>thn (hb pins s1 σ H1 _ I1 q1) fun u s2 ⟨y,H2,I2,r2,q2⟩ =>
   thn (ho pins s2 σ H2 x y v u _ I2 r1 r2 q2) fun c s3 ⟨z,H3,I3,r3,k,e,q3⟩=>?_) hm
 subst e
 cases r3
 exact wpAny_truthy_bool ⟨H3,I3,q3⟩
def Ua (r r':R2) (ta tb tc:TE):TE:=fun σ H Q=>ta σ H fun x H1=>tb σ H1 fun y H2=>r x y H2 fun z H3=>∃ k,z = .bl k ∧
 (if k = true then tc σ H3 fun w' H4=>r' y w' H4 Q else Q (.bl false) H3)
theorem pe_chain {op op':CmpOp} {r r':R2} (ho:OpR X (compareOp op) r) (ho':OpR X (compareOp op') r') (ha:PE X a ta) (hb:PE X b tb) (hc:PE X c tc)
   (hm:lastMarks [op,op'] [b,c] = false:=by with_unfolding_all rfl):PE X (.Compare a [op,op'] [b,c] pos) (Ua r r' ta tb tc):=by
 intro pins s σ H Q I h
 refine Compare_chain (thn (ha pins s σ H _ I h) fun v s1 ⟨x,H1,I1,r1,q1⟩=>chain_link (thn (hb pins s1 σ H1 _ I1 q1) fun u s2 ⟨y,H2,I2,r2,q2⟩ =>
   thn (ho pins s2 σ H2 x y v u _ I2 r1 r2 q2) fun d s3 ⟨z,H3,I3,r3,k,e,q3⟩=>?_)) hm
 subst e
 cases r3
 refine wpAny_truthy_bool ?_
 cases k with
 | false=>exact ite_ff ⟨.bl false,H3,I3,rfl,q3⟩
 | true=>exact ite_tt (chain_last (thn (hc pins s3 σ H3 _ I3 q3) fun w' s4 ⟨z',H4,I4,r4,q4⟩=>ho' pins s4 σ H4 y z' u w' Q I4 r2 r4 q4))
theorem pt_chain {op op':CmpOp} {r r':R2} (ho:OpR X (compareOp op) r) (ho':OpR X (compareOp op') r') (ha:PE X a ta) (hb:PE X b tb) (hc:PE X c tc)
   (hm:lastMarks [op,op'] [b,c] = false:=by with_unfolding_all rfl):PT X (.Compare a [op,op'] [b,c] pos) (tTest (Ua r r' ta tb tc)):=by
 intro pins s σ H Q I h
 refine isTrue_chain (thn (ha pins s σ H _ I h) fun v s1 ⟨x,H1,I1,r1,q1⟩=>test_link (thn (hb pins s1 σ H1 _ I1 q1) fun u s2 ⟨y,H2,I2,r2,q2⟩ =>
   thn (ho pins s2 σ H2 x y v u _ I2 r1 r2 q2) fun d s3 ⟨z,H3,I3,r3,k,e,q3⟩=>?_)) hm
 subst e
 cases r3
 refine wpAny_truthy_bool ?_
 cases k with
 | false =>
   obtain ⟨k',e',q'⟩:=q3
   cases e'
   exact ite_ff ⟨H3,I3,q'⟩
 | true =>
   refine ite_tt (test_last (thn (hc pins s3 σ H3 _ I3 q3) fun w' s4 ⟨z',H4,I4,r4,q4⟩=>thn (ho' pins s4 σ H4 y z' u w' _ I4 r2 r4 q4) fun d' s5 ⟨z2,H5,I5,r5,k2,e2,q5⟩=>?_))
   subst e2
   cases r5
   exact wpAny_truthy_bool ⟨H5,I5,q5⟩
def TruV (K:PySem.W.Frag) (x:V) (H:Hp) (k:Bool):Prop :=
 match x with
 | .non=>k = false
 | .bl b=>k = b
 | .int i=>k = (i != 0)
 | .str y=>y.length ≤ sizeLine∧k = ((y.length:Int) != 0)
 | .byt y=>y.size ≤ sizeLine∧k = ((y.size:Int) != 0)
 | .ref p=>(∃ xs,SqL K H p xs∧k = !xs.isEmpty) ∨ (∃ xs,SqT K H p xs∧k = !xs.isEmpty) ∨ ∃ kvs,H p = some (.dK kvs)∧k = !kvs.isEmpty
 | _=>False
theorem agJ {κ:Type} {kvs:List (κ × V)} {vs:List (κ × Value)} (r:KV kvs vs):(!vs.isEmpty) = !kvs.isEmpty:=by
 cases r <;> rfl
theorem RL {xs:List V} {its:List Value} (r:Vals xs its):(!its.toArray.isEmpty) = !xs.isEmpty:=by
 cases r <;> simp
theorem Gy:(sizeLine:Nat) < 2 ^ 63:=by rw [sizeLine_eq]; decide
theorem tru_ok:TruR X (fun x H Q=>∃ k,TruV X.K x H k∧Q k H):=by
 intro pins s σ H x v Q I rx h
 obtain ⟨k,e,q⟩:=h
 have hl:=Gy
 have hs:sizeLine = 16777216:=sizeLine_eq
 cases x with
 | non =>
   cases rx
   have e':k = false:=e
   subst e'
   exact truthy_none ⟨H,I,q⟩
 | bl b =>
   cases rx
   have e':k = b:=e
   subst e'
   exact wpAny_truthy_bool ⟨H,I,q⟩
 | int i =>
   obtain ⟨t,rfl⟩:=rx
   have e':k = (i != 0):=e
   subst e'
   exact PySem.P.truthy_int ⟨H,I,q⟩
 | str y =>
   obtain ⟨t,rfl⟩:=rx
   obtain ⟨hy,e'⟩:y.length ≤ sizeLine∧k = ((y.length:Int) != 0):=e
   subst e'
   exact PySem.P.truthy_str (by omega) ⟨H,I.tok _,q⟩
 | byt y =>
   obtain ⟨t,rfl⟩:=rx
   obtain ⟨hy,e'⟩:y.size ≤ sizeLine∧k = ((y.size:Int) != 0):=e
   subst e'
   exact PySem.W.truthy_bytes (by omega) ⟨H,I.tok _,q⟩
 | ref p =>
   cases rx
   have e':(∃ xs,SqL X.K H p xs∧k = !xs.isEmpty) ∨ (∃ xs,SqT X.K H p xs∧k = !xs.isEmpty) ∨ ∃ kvs,H p = some (.dK kvs)∧k = !kvs.isEmpty:=e
   rcases e' with ⟨xs,hx,e'⟩ | ⟨xs,hx,e'⟩ | ⟨kvs,hx,e'⟩
   · subst e'
     obtain ⟨its,r,pl,hz⟩:=I.list hx
     have hlen:=r.length
     exact wpAny_truthy_list pl.isList (by simp only [List.size_toArray]; omega) ⟨H,I.tok _,by rw [RL r]; exact q⟩
   · subst e'
     obtain ⟨its,r,pl,hz⟩:=I.tuple hx
     have hlen:=r.length
     exact truthy_tuple pl (by simp only [List.size_toArray]; omega) ⟨H,I.tok _,by rw [RL r]; exact q⟩
   · subst e'
     obtain ⟨hz,hS,vs,r,m⟩:kvs.length ≤ sizeLine∧(p == sysModules) = false∧∃ vs,KV kvs vs∧s.heap.DictOf (cj X.prog X.w) p vs:=I.hok p _ hx
     have hlen:kvs.length = vs.length:=Paired.length r
     exact wpAny_truthy_dict hS m (by omega) ⟨H,I.tok _,by rw [agJ r]; exact q⟩
 | _=>exact (show False from e).elim
theorem pt_truth (ha:PE X a ta) (he:∀ whole,isTrue a X.env whole = (do let v ← whole; standAt a.pos; holding [v] (truthy v))) :
   PT X a (fun σ H Q=>ta σ H fun x H'=>∃ k,TruV X.K x H' k∧Q k H'):=by
 intro pins s σ H Q I h
 exact isTrue_plain (thn (ha pins s σ H _ I h) fun v s1 ⟨x,H1,I1,r1,q1⟩=>tru_ok pins s1 σ H1 x v Q I1 r1 q1) (he _)
theorem ahc:OpR X (binaryOp .Add) (fun x y H Q=>∃ i j,x = .str i∧y = .str j∧i.length + j.length ≤ sizeLine∧Q (.str (i ++ j)) H):=by
 intro pins s σ H x y v u Q I rx ry h
 obtain ⟨i,j,rfl,rfl,hz,q⟩:=h
 obtain ⟨t,rfl⟩:=rx
 obtain ⟨t',rfl⟩:=ry
 exact add_str (fun t' tk=>⟨.str (i ++ j),H,I.tok _,⟨_,rfl⟩,q⟩) hz
theorem vals1 {x:V} {us:List Value} (r:Vals [x] us):∃ u,us = [u]∧RelV x u:=by
 cases r with
 | cons r1 r2=>cases r2; exact ⟨_,rfl,r1⟩
end
end L2
namespace L2
open PySem PySem.Spec PyProof.Rows
structure ObjM (h:Heap) (x dx C:Addr) (mA:Str→Option Value):Prop where
 obj:h.get? x = some (PySem.W.instObj C dx)
 ns:h.Ns1 dx mA
 ne:dx ≠ x
theorem Yh {h:Heap} {dx:Addr} {mA:Str→Option Value} (n:h.Ns1 dx mA):∃ od,h.get? dx = some od∧∀ name,PySem.W.lookIn name od = some (mA name):=by
 obtain ⟨o,es,ep,ho,hd,hk,_,hm⟩:=n
 refine ⟨o,ho,fun name=>?_⟩
 have e:=hm name
 unfold nsFind findBy at e
 rw [← Array.find?_toList] at e
 unfold PySem.W.lookIn
 rw [hd]
 dsimp only
 split
 · rename_i y q
   rw [q] at e
   exact congrArg some e
 · rename_i q
   rw [q] at e
   have a:es.toList.any (·.refKey) = false:=by
     rw [List.any_eq_false]
     intro y hy
     obtain ⟨z,t,hkey⟩:=hk y (Array.mem_toList_iff.mp hy)
     simp [DictEntry.refKey,hkey]
   have a':¬ es.toList.any (·.refKey) = true:=by rw [a]; exact Bool.false_ne_true
   rw [if_neg a']
   exact congrArg some e
theorem ObjM.look {h:Heap} {x dx C:Addr} {mA:Str→Option Value} (I:ObjM h x dx C mA):∃ od,PySem.W.InstAt h x (PySem.W.instObj C dx) C (some od)∧∀ name,PySem.W.lookIn name od = some (mA name) :=
 let ⟨od,ho,hl⟩:=Yh I.ns
 ⟨od,⟨I.obj,rfl,rfl,ho⟩,hl⟩
section
variable {prog:Program} {w:World} {A:Around} {E:Value→Shared→Prop} {s:Shared} {K:PySem.W.Frag} {x dx C f:Addr} {mA:Str→Option Value} {name:Str} {v:Value}
theorem get_map {expr:Bool} {Q:Value→Shared→Prop} (X:K.In s.heap) (I:ObjM s.heap x dx C mA) (hg:PySem.W.plainGet K C name = true) (hh:PySem.W.hasDictIn K C = true)
   (ha:PySem.W.findIn K (.ref C) name = some none) (hv:mA name = some v) (hv':PySem.W.handedIn v = true) (h:Q v { s with toks:=s.toks + 1 }) :
   wpAny (model prog w) A (getAttr (.ref x) name expr) Q E s:=by
 obtain ⟨od,J,hl⟩:=I.look
 exact PySem.W.get_value X J (PySem.W.plainGet_of hg).1 (PySem.W.findObj_own hh ha rfl (by rw [hl,hv])) hv' h
theorem get_meth {pl:Sem Bool} {Q:Value × List Value→Shared→Prop} (X:K.In s.heap) (I:ObjM s.heap x dx C mA) (hg:PySem.W.plainGet K C name = true)
   (hf:PySem.W.findIn K (.ref C) name = some (some (.ref f))) (ht:PySem.W.isFn K (.ref f) = true) (hv:mA name = none) (h:Q (.ref f,[.ref x]) s) :
   wpAny (model prog w) A (getMethod (.ref x) name pl) Q E s:=by
 obtain ⟨od,J,hl⟩:=I.look
 exact PySem.W.method_fn X J (PySem.W.plainGet_of hg).1 (PySem.W.plainGet_of hg).2 hf (beq_iff_eq.mp ht) (by show (PySem.W.lookIn name od).map (·.isSome) = some false; rw [hl,hv]; rfl) h
theorem set_map {ns:List Str} {Q:Unit→Shared→Prop} (X:K.In s.heap) (I:ObjM s.heap x dx C mA)
   (hs:PySem.W.findIn K (.ref C) "__setattr__" = some (some (.builtin "object.__setattr__"))) (hp:PySem.W.plainOver K C = true) (ht:PySem.W.takerIn K C name = some none) (hh:PySem.W.hasDictIn K C = true)
   (hw:PySem.Within mA ns) (hsz:ns.length ≤ sizeLine)
   (h:∀ h',ObjM h' x dx C (fun y=>if y = name then some v else mA y)→Heap.SameBut dx s.heap h'→Q () { s with heap:=h',toks:=s.toks + 2 }) :
   wpAny (model prog w) A (setAttr (.ref x) name v) Q E s:=by
 obtain ⟨od,J,hl⟩:=I.look
 refine PySem.W.set_plain X J hs (PySem.W.osa_open (s:={ s with toks:=s.toks + 1 }) (r:=none) X J hp ht fun b=>?_)
 obtain ⟨cd,hc,hd'⟩:=PySem.W.any_some hh
 have hx:s.heap.get? x = some ⟨.ref C,some dx,.plain,#[]⟩:=I.obj
 refine wpAny_bind (wpAny_pure (wpAny_bind (wpAny_bind (wpAny_loadPart hx (wpAny_bind (PySem.W.Looks.here (s:={ s with toks:=s.toks + 1 }) (PySem.W.looks_clsIn X hc) ?_))))))
 rw [hd']
 refine wpAny_pure (a:=some dx) (wpAny_bind (wpAny_pure (wpAny_bind ?_)))
 refine wpAny_nsSet1 (s:={ s with toks:=s.toks + 1 }) I.ns fun h' hn2 hs2=>?_
 obtain ⟨oD,esD,epD,hoD,hdD,hcD⟩:=hn2.count (PySem.Within.cons name v hw)
 refine wpAny_bind (wpAny_lookBehind hoD (by rw [hdD]; exact pastItsLine_dict (Nat.le_trans hcD (by rw [List.length_cons]; omega))) ?_)
 exact wpAny_pure (h _ ⟨(hs2.2 _ (Ne.symm I.ne)).trans I.obj,hn2,I.ne⟩ hs2)
theorem make_map {R:Result→Shared→Prop} {vs:List Value} {kw:List (Str × Value)} (X:K.In s.heap) (hm:PySem.W.makesIn K C = true)
   (hi:PySem.W.findIn K (.ref C) "__init__" = some (some (.ref f))) (hf:PySem.W.typeIn K (.ref f) = some (.type "function"))
   (h:codeAny (model prog w) (A.under (.builtin "type.__call__" ⟨.ref C :: vs,kw⟩)) (.call (.ref f) ⟨.ref (s.heap.objs.size + 1) :: vs,kw⟩) (PySem.W.InitBack (s.heap.objs.size + 1) R)
     { s with heap:=(s.heap.push PySem.W.emptyDict).push (PySem.W.instObj C s.heap.objs.size) }) :
   codeAny (model prog w) A (.call (.ref C) ⟨vs,kw⟩) R s:=by
 obtain ⟨hh,g,d,t,os⟩:=s
 exact PySem.W.make_core (PySem.W.makes_of X hm) (PySem.W.looks_findIn X hi) (fun self=>PySem.W.bind_fn X self hf) (.inl rfl) h
end
def j8 (f:Str) (v:V):List (Str × V)→List (Str × V)
 | []=>[(f,v)]
 | (g,x) :: r=>if g = f then (g,v) :: r else (g,x) :: j8 f v r
theorem Cq (f g:Str) (v:V):∀ fs:List (Str × V),(j8 f v fs).lookup g = if g = f then some v else fs.lookup g
 | []=>by
   show List.lookup g [(f,v)] = _
   by_cases h:g = f
   · have hb:(g == f) = true:=beq_iff_eq.mpr h
     simp only [List.lookup,hb,if_pos h]
   · have hb:(g == f) = false:=beq_eq_false_iff_ne.mpr h
     simp only [List.lookup,hb,if_neg h]
 | (k,x) :: r=>by
   have ih:=Cq f g v r
   rw [show j8 f v ((k,x) :: r) = (if k = f then (k,v) :: r else (k,x) :: j8 f v r) from rfl]
   by_cases hk:k = f
   · rw [if_pos hk]
     by_cases h:g = k
     · have hb:(g == k) = true:=beq_iff_eq.mpr h
       simp only [List.lookup,hb,if_pos (h.trans hk)]
     · have hb:(g == k) = false:=beq_eq_false_iff_ne.mpr h
       simp only [List.lookup,hb,if_neg (fun e:g = f=>h (e.trans hk.symm))]
   · rw [if_neg hk]
     by_cases h:g = k
     · have hb:(g == k) = true:=beq_iff_eq.mpr h
       simp only [List.lookup,hb,if_neg (fun e:g = f=>hk (h.symm.trans e))]
     · have hb:(g == k) = false:=beq_eq_false_iff_ne.mpr h
       simp only [List.lookup,hb]
       exact ih
theorem wG (f:Str) (v:V):∀ fs:List (Str × V),f ∈ (j8 f v fs).map (·.1)∧∀ g,g ∈ fs.map (·.1)→g ∈ (j8 f v fs).map (·.1)
 | []=>⟨by simp [j8],fun g h=>by simp at h⟩
 | (k,x) :: r=>by
   obtain ⟨i1,i2⟩:=wG f v r
   rw [show j8 f v ((k,x) :: r) = (if k = f then (k,v) :: r else (k,x) :: j8 f v r) from rfl]
   by_cases hk:k = f
   · rw [if_pos hk]
     subst hk
     exact ⟨by simp,fun g h=>by simpa using h⟩
   · rw [if_neg hk]
     refine ⟨?_,fun g h=>?_⟩
     · rw [List.map_cons]
       exact List.mem_cons_of_mem _ i1
     · rw [List.map_cons] at h ⊢
       rcases List.mem_cons.mp h with e | e
       · exact List.mem_cons.mpr (.inl e)
       · exact List.mem_cons_of_mem _ (i2 g e)
theorem M5 (f:Str) (v:V):∀ fs:List (Str × V),(j8 f v fs).length ≤ fs.length + 1
 | []=>by simp [j8]
 | (k,x) :: r=>by
   have ih:=M5 f v r
   rw [show j8 f v ((k,x) :: r) = (if k = f then (k,v) :: r else (k,x) :: j8 f v r) from rfl]
   by_cases hk:k = f
   · rw [if_pos hk,List.length_cons,List.length_cons]; omega
   · rw [if_neg hk,List.length_cons,List.length_cons]; omega
theorem v9.some_of {v:V} {o:Option Value} (r:v9 (some v) o):∃ u,o = some u∧RelV v u:=by
 cases o with
 | none=>exact (show False from r).elim
 | some u=>exact ⟨u,rfl,r⟩
theorem v9.none_of {o:Option Value} (r:v9 none o):o = none:=by
 cases o with
 | none=>rfl
 | some u=>exact (show False from r).elim
theorem Yb {v:V} {u:Value} (r:RelV v u):PySem.W.handedIn u = true:=by
 cases v with
 | non=>cases (show u = Value.none from r); rfl
 | bl b=>cases (show u = Value.bool b from r); rfl
 | int i=>obtain ⟨t,e⟩:=(show ∃ t,u = Value.int i t from r); cases e; rfl
 | str x=>obtain ⟨t,e⟩:=(show ∃ t,u = Value.str x t from r); cases e; rfl
 | byt b=>obtain ⟨t,e⟩:=(show ∃ t,u = Value.bytes b t from r); cases e; rfl
 | flt b=>obtain ⟨t,e⟩:=(show ∃ t,u = Value.float b t from r); cases e; rfl
 | ref a=>cases (show u = Value.ref a from r); rfl
 | ty n=>cases (show u = Value.type n from r); rfl
section
variable {P:Program} {w:World} {H H':Hp} {h h':Heap} {a C dx:Addr} {fs fs':List (Str × V)}
theorem PP (hok:HOk P w H h) (e:H a = some (.ins C dx fs)):∃ mA,ObjM h a dx C mA∧(∀ f,v9 (fs.lookup f) (mA f))∧PySem.Within mA (fs.map (·.1))∧fs.length ≤ 1000∧H dx = some (.own a):=by
 obtain ⟨d,z,ne,ob,mA,n,r,q⟩:=(show c7 P w H h a (.ins C dx fs) from hok a _ e)
 exact ⟨mA,⟨ob,n,ne⟩,r,q,z,d⟩
end
structure Cls (K:PySem.W.Frag) (C:Addr):Prop where
 pg:PySem.W.plainGet K C Str.empty = true
 hd:PySem.W.hasDictIn K C = true
 po:PySem.W.plainOver K C = true
 sa:PySem.W.findIn K (.ref C) "__setattr__" = some (some (.builtin "object.__setattr__"))
theorem Cls.get {K:PySem.W.Frag} {C:Addr} (c:Cls K C) (f:Str):PySem.W.plainGet K C f = true:=c.pg
def cM (K:PySem.W.Frag) (C:Addr) (f:Str):Prop:=PySem.W.findIn K (.ref C) f = some none
theorem cM.taker {K:PySem.W.Frag} {C:Addr} {f:Str} (n:cM K C f):PySem.W.takerIn K C f = some none:=by
 unfold PySem.W.takerIn
 rw [show PySem.W.findIn K (.ref C) f = some none from n]
 rfl
structure Con (K:PySem.W.Frag) (C:Addr) (f:Str) (v:V) (u:Value):Prop where
 at_:PySem.W.findIn K (.ref C) f = some (some u)
 rel:RelV v u
 get:PySem.W.specialIn K u "__get__" = some none
 cp:PySem.W.copiedNames.contains f = false
structure Meth (K:PySem.W.Frag) (C:Addr) (m:Str) (f:Addr):Prop where
 at_:PySem.W.findIn K (.ref C) m = some (some (.ref f))
 fn:PySem.W.isFn K (.ref f) = true
 kp:PySem.W.keepIn K (.ref f) = true
section
variable {X:Cx} {pins:List (Addr × Obj)} {σ:St} {H:Hp} {s:Shared} {a C dx:Addr} {fs:List (Str × V)} {f:Str} {v:V} {A:Around} {E:Value→Shared→Prop}
theorem agB {b:Bool} {Q:Value→Shared→Prop} (I:Inv X pins σ H s) (e:H a = some (.ins C dx fs)) (c:Cls X.K C) (n:cM X.K C f) (l:fs.lookup f = some v)
   (h:∀ u s',Inv X pins σ H s'→RelV v u→Q u s'):wpAny (model X.prog X.w) A (getAttr (.ref a) f b) Q E s:=by
 obtain ⟨mA,O,r,_,_,_⟩:=PP I.hok e
 obtain ⟨u,hu,ru⟩:=v9.some_of (v:=v) (o:=mA f) (by rw [← l]; exact r f)
 exact get_map I.kIn O (c.get f) c.hd n hu (Yb ru) (h u _ (I.tok _) ru)
theorem Gm {m:Str} {g:Addr} {pl:Sem Bool} {Q:Value × List Value→Shared→Prop} (I:Inv X pins σ H s) (e:H a = some (.ins C dx fs)) (c:Cls X.K C) (k:Meth X.K C m g) (l:fs.lookup m = none)
   (h:Q (.ref g,[.ref a]) s):wpAny (model X.prog X.w) A (getMethod (.ref a) m pl) Q E s:=by
 obtain ⟨mA,O,r,_,_,_⟩:=PP I.hok e
 have hn:mA m = none:=v9.none_of (by rw [← l]; exact r m)
 exact get_meth I.kIn O (c.get m) k.at_ k.fn hn h
theorem aht {y:V} {u:Value} {Q:Unit→Shared→Prop} (I:Inv X pins σ H s) (e:H a = some (.ins C dx fs)) (c:Cls X.K C) (n:cM X.K C f) (hl:fs.length < 1000) (ry:RelV y u)
   (h:∀ s',Inv X pins σ (upd H a (.ins C dx (j8 f y fs))) s'→Q () s'):wpAny (model X.prog X.w) A (setAttr (.ref a) f u) Q E s:=by
 obtain ⟨mA,O,r,wi,_,ho⟩:=PP I.hok e
 have hz:(fs.map (·.1)).length ≤ sizeLine:=by rw [List.length_map,sizeLine_eq]; omega
 refine set_map I.kIn O c.sa c.po n.taker c.hd wi hz fun h' O' sb=>h _ ?_
 have hd:∃ o,h'.get? dx = some o:=let ⟨o,_,_,e',_⟩:=O'.ns; ⟨o,e'⟩
 refine I.write (x:=a) (e:=dx) (by rw [e]; exact True.intro) (.inr ho) (fun b q hb z=>(sb.2 b hb).trans z) hd ?_
 refine ⟨by rw [az O.ne]; exact ho,?_,O.ne,O'.obj,_,O'.ns,fun g=>?_,fun g hg=>?_⟩
 · have:=M5 f y fs; omega
 · show v9 ((j8 f y fs).lookup g) (if g = f then some u else mA g)
   rw [Cq]
   by_cases q:g = f
   · rw [if_pos q,if_pos q]; exact ry
   · rw [if_neg q,if_neg q]; exact r g
 · by_cases q:g = f
   · rw [q]; exact (wG f y fs).1
   · refine (wG f y fs).2 g (wi g fun z=>hg ?_)
     show (if g = f then some u else mA g) = none
     rw [if_neg q]; exact z
theorem Inv.made (I:Inv X pins σ H s):Inv X pins σ (upd (upd H s.heap.objs.size (.own (s.heap.objs.size + 1))) (s.heap.objs.size + 1) (.ins C s.heap.objs.size []))
   { s with heap:=(s.heap.push PySem.W.emptyDict).push (PySem.W.instObj C s.heap.objs.size) }:=by
 have e1:(s.heap.push PySem.W.emptyDict).get? s.heap.objs.size = some PySem.W.emptyDict:=Heap.get?_push_size s.heap rfl
 have e2:((s.heap.push PySem.W.emptyDict).push (PySem.W.instObj C s.heap.objs.size)).get? (s.heap.objs.size + 1) = some (PySem.W.instObj C s.heap.objs.size):=by
   have:=Heap.get?_push_size (s.heap.push PySem.W.emptyDict) (o:=PySem.W.instObj C s.heap.objs.size) rfl
   rwa [Heap.size_push] at this
 have e3:(s.heap.push PySem.W.emptyDict).Ns s.heap.objs.size (fun _=>none):=⟨PySem.W.emptyDict,#[],_,e1,rfl,(fun e he=>absurd he (by simp)),fun _=>rfl⟩
 have I1:=I.laid (a:=s.heap.objs.size) (o:=.own (s.heap.objs.size + 1)) (h':=s.heap.push PySem.W.emptyDict) (t':=s.toks) (fun b u q=>Heap.get?_push_of_some _ q) (Nat.le_refl _) ⟨_,e1⟩
 refine I1.laid (a:=s.heap.objs.size + 1) (o:=.ins C s.heap.objs.size []) (t':=s.toks) (fun b u q=>Heap.get?_push_of_some _ q) (Nat.le_of_eq (Heap.size_push _ _)) ?_
 have ne:s.heap.objs.size ≠ s.heap.objs.size + 1:=Nat.ne_of_lt (Nat.lt_succ_self _)
 refine ⟨by rw [az ne,aG],Nat.zero_le _,ne,e2,fun _=>none,(Heap.Ns1.of_empty e3).at fun o q=>Heap.get?_push_of_some _ q,fun _=>True.intro,fun y hy=>absurd rfl hy⟩
theorem ahO {prog:Program} {w:World} {env:Env} {e:Expr} {f:Str} {pos:Pos} {s:Shared} {Q:Value→Shared→Prop} (hb:attributeBase e f env (eval e env) = eval e env)
   (h:wpAny (model prog w) A (eval e env) (fun o s₁=>wpAny (model prog w) A (getAttr o f true) Q E s₁) E s):wpAny (model prog w) A (eval (.Attribute e f pos) env) Q E s :=
 Attribute_any_ h (by rw [arm_eval_Attribute,hb])
end
def tFld (K:PySem.W.Frag) (ta:TE) (f:Str):TE:=fun σ H Q=>ta σ H fun x H1=>∃ a C dx fs v,x = .ref a∧H1 a = some (.ins C dx fs)∧Cls K C∧cM K C f∧fs.lookup f = some v∧Q v H1
def sFld (K:PySem.W.Frag) (ta tv:TE) (f:Str):TS:=fun D σ H=>tv σ H fun y H1=>ta σ H1 fun x H2=>∃ a C dx fs,x = .ref a∧H2 a = some (.ins C dx fs)∧Cls K C∧cM K C f∧fs.length < 1000 ∧
 D.nx σ (upd H2 a (.ins C dx (j8 f y fs)))
section
variable {X:Cx} {o e value:Expr} {f:Str} {pos pos' tpos:Pos} {ta tv:TE}
theorem pe_fld (he:PE X e ta) (hb:attributeBase e f X.env (eval e X.env) = eval e X.env):PE X (.Attribute e f pos) (tFld X.K ta f):=by
 intro pins s σ H Q I h
 refine ahO hb (thn (he pins s σ H _ I h) fun u s1 ⟨x,H1,I1,rx,a,C,dx,fs,v,ex,ea,c,n,l,q⟩=>?_)
 subst ex
 obtain rfl:u = Value.ref a:=rx
 exact agB I1 ea c n l fun u' s2 I2 ru=>⟨v,H1,I2,ru,q⟩
theorem ahk (ha:PE X o ta) (hv:PE X value tv) (hs:swapsWith value (some (.Attribute o f pos')) pos.line X.env = pure false):PS X (.Assign [.Attribute o f pos'] value pos) (sFld X.K ta tv f):=by
 intro pins s σ H D I h
 refine plainObj_wpAny_Assign_Attribute (thn (hv pins s σ H _ I h) fun u s1 ⟨y,H1,I1,ry,q⟩=>thn (ha pins s1 σ H1 _ I1 q) fun ov s2 ⟨x,H2,I2,rx,a,C,dx,fs,ex,ea,c,n,l,q2⟩=>?_) hs
 subst ex
 obtain rfl:ov = Value.ref a:=rx
 exact aht I2 ea c n l ry fun s3 I3=>⟨σ,_,I3,q2⟩
end
section
variable {X:Cx} {pins:List (Addr × Obj)} {σ:St} {H:Hp} {s:Shared} {A:Around} {E:Value→Shared→Prop} {Q:Value→Shared→Prop} {c:Value} {b:Bool}
inductive J9 (K:PySem.W.Frag) (H:Hp):V→Value→Prop where
 | non:J9 K H .non (.type "NoneType")
 | bl (x:Bool):J9 K H (.bl x) (.type "bool")
 | int (i:Int):J9 K H (.int i) (.type "int")
 | str (x:Str):J9 K H (.str x) (.type "str")
 | flt (x:UInt64):J9 K H (.flt x) (.type "float")
 | lst {a:Addr} {xs:List V} (e:H a = some (.lst xs)):J9 K H (.ref a) (.type "list")
 | frz {a:Addr} {o:Obj} {xs:List V} (e:H a = some (.frz o (.lst xs))):J9 K H (.ref a) (.type "list")
 | tup {a:Addr} {xs:List V} (e:H a = some (.tup xs)):J9 K H (.ref a) (.type "tuple")
 | dK {a:Addr} {kvs:List (Key × V)} (e:H a = some (.dK kvs)):J9 K H (.ref a) (.type "dict")
 | dT {a:Addr} {kvs:List (List Key × V)} (e:H a = some (.dT kvs)):J9 K H (.ref a) (.type "dict")
 | ins {a C dx:Addr} {fs:List (Str × V)} (e:H a = some (.ins C dx fs)) (cl:Cls K C) (ha:PySem.W.findIn K (.ref C) "__class__" = some (some (.builtin "object.__class__")))
     (hn:PySem.W.specialIn K (.builtin "object.__class__") "__get__" = some (some (.builtin "getset_descriptor.__get__"))) (htk:PySem.W.takesIn K (.builtin "object.__class__") = some true)
     (hm:PySem.W.mroIn K C (.type "object") = some true):J9 K H (.ref a) (.ref C)
theorem aiU {x:V} {u t:Value} (I:Inv X pins σ H s) (rx:RelV x u) (ty:J9 X.K H x t) (e:PySem.W.kitOne X.K t c = some b) (h:∀ tk,Q (.bool b) { s with toks:=tk }) :
   wpAny (model X.prog X.w) A (call (.builtin "isinstance") [u,c]) Q E s:=by
 cases ty with
 | non=>cases (show u = Value.none from rx); exact PySem.W.kia_one PySem.W.kitx_none I.kIn True.intro e (fun z=>nomatch z) h
 | bl y=>cases (show u = Value.bool y from rx); exact PySem.W.kia_one PySem.W.kitx_bool I.kIn True.intro e (fun z=>nomatch z) h
 | int i=>obtain ⟨t,q⟩:=(show ∃ t,u = Value.int i t from rx); cases q; exact PySem.W.kia_one PySem.W.kitx_int I.kIn True.intro e (fun z=>nomatch z) h
 | str y=>obtain ⟨t,q⟩:=(show ∃ t,u = Value.str y t from rx); cases q; exact PySem.W.kia_one PySem.W.kitx_str I.kIn True.intro e (fun z=>nomatch z) h
 | flt y=>obtain ⟨t,q⟩:=(show ∃ t,u = Value.float y t from rx); cases q; exact PySem.W.kia_one PySem.W.kitx_float I.kIn True.intro e (fun z=>nomatch z) h
 | @lst a xs ea =>
   cases (show u = Value.ref a from rx)
   obtain ⟨_,_,n,_,h1⟩:=(show c7 X.prog X.w H s.heap a (.lst xs) from I.hok a _ ea)
   exact PySem.W.kia_one PySem.W.kitx_list I.kIn ⟨_,h1,rfl⟩ e (fun z=>nomatch z) h
 | @frz a ob xs ea =>
   cases (show u = Value.ref a from rx)
   obtain ⟨_,_,_,n,_,h1⟩:=(show c7 X.prog X.w H s.heap a (.frz ob (.lst xs)) from I.hok a _ ea)
   exact PySem.W.kia_one PySem.W.kitx_list I.kIn ⟨_,h1,rfl⟩ e (fun z=>nomatch z) h
 | @tup a xs ea =>
   cases (show u = Value.ref a from rx)
   obtain ⟨_,_,_,p⟩:=(show c7 X.prog X.w H s.heap a (.tup xs) from I.hok a _ ea)
   obtain ⟨o,h1,h2,_⟩:=p
   exact PySem.W.kia_one PySem.W.kitx_tuple I.kIn ⟨o,h1,h2⟩ e (fun z=>nomatch z) h
 | @dK a kvs ea =>
   cases (show u = Value.ref a from rx)
   obtain ⟨_,_,vs,_,p⟩:=(show c7 X.prog X.w H s.heap a (.dK kvs) from I.hok a _ ea)
   obtain ⟨o,es,ep,h1,h2,_⟩:=p
   exact PySem.W.kia_one PySem.W.kitx_dict I.kIn ⟨o,h1,h2.1⟩ e (fun z=>nomatch z) h
 | @dT a kvs ea =>
   cases (show u = Value.ref a from rx)
   obtain ⟨_,_,xs,_,o,es,ep,h1,h2,_⟩:=(show c7 X.prog X.w H s.heap a (.dT kvs) from I.hok a _ ea)
   exact PySem.W.kia_one PySem.W.kitx_dict I.kIn ⟨o,h1,h2.1⟩ e (fun z=>nomatch z) h
 | @ins a C dx fs ea cl ha hn htk hm =>
   cases (show u = Value.ref a from rx)
   obtain ⟨mA,O,_⟩:=PP I.hok ea
   obtain ⟨od,J,_⟩:=O.look
   exact PySem.W.kia_one (PySem.W.kitx_own (cl.get _) cl.hd ha hn htk hm) I.kIn J e (fun z=>nomatch z) h
end
end L2
namespace L2
open PySem PySem.Spec PyProof.Rows
structure gM (k:Nat) (A:Around):Prop where
 hd:A.handled = none
 dp:A.depth + 3 * k + 5 < recursionLimit
 un:A.units + 16 * k + 200 < cLine
theorem gM.mono {j k:Nat} {A:Around} (r:gM k A) (h:j ≤ k):gM j A:=⟨r.hd,by have:=r.dp; omega,by have:=r.un; omega⟩
theorem gM.deeper {k:Nat} {A:Around} (r:gM (k + 1) A) (env:Env):gM k (A.deeper env) :=
 ⟨r.hd,by have:=r.dp; show A.depth + 1 + 3 * k + 5 < _; omega,by have:=r.un; show A.units + 3 + 16 * k + 200 < _; omega⟩
theorem gM.in1 {k:Nat} {A:Around} (r:gM (k + 1) A):gM k A.in1 :=
 ⟨r.hd,by have:=r.dp; show A.depth + 3 * k + 5 < _; omega,by have:=r.un; show A.units + 1 + 16 * k + 200 < _; omega⟩
theorem agW {A:Around} {C:Addr} {us:List Value} {kw:List (Str × Value)}:(A.under (.builtin "type.__call__" ⟨.ref C :: us,kw⟩)).depth = A.depth + 1:=by
 first | rfl | simp [Around.under,Code.weight,Code.isCreation,Code.isGuard,Code.isCaller,Code.frames,Code.isFrame,guardIds]
theorem agX {A:Around} {C:Addr} {us:List Value} {kw:List (Str × Value)}:(A.under (.builtin "type.__call__" ⟨.ref C :: us,kw⟩)).units = A.units + 1:=by
 first | rfl | simp [Around.under,Code.cUnits,Code.frames,Code.isFrame]
theorem gM.make {k:Nat} {A:Around} (r:gM (k + 1) A) (C:Addr) (us:List Value) (kw:List (Str × Value)):gM k (A.under (.builtin "type.__call__" ⟨.ref C :: us,kw⟩)) :=
 ⟨r.hd,by have:=r.dp; rw [agW]; omega,by have:=r.un; rw [agX]; omega⟩
theorem gM.depth {k:Nat} {A:Around} (r:gM k A):A.depth < recursionLimit:=by have:=r.dp; omega
theorem gM.units {k:Nat} {A:Around} (r:gM k A):A.units + 64 < cLine:=by have:=r.un; omega
def DR:TA:=fun _ H Q=>Q [] H
def wO (ta:TE) (tr:TA):TA:=fun σ H Q=>ta σ H fun x H1=>tr σ H1 fun xs H2=>Q (x :: xs) H2
section
variable {X:Cx} {e:Expr} {es:List Expr} {te:TE} {t:TA} {pos:Pos}
theorem eG:PA X [] DR:=fun _ _ _ _ H Q I h=>Calls.spliced_nil ⟨[],H,I,.nil,h⟩
theorem bK (ha:PE X e te) (hr:PA X es t) (hs:starEach (e :: es) X.env = (false,eval e X.env) :: starEach es X.env:=by rfl):PA X (e :: es) (wO te t):=by
 intro pos pins s σ H Q I h
 rw [hs]
 show wpAny _ _ (spliced ((false,eval e X.env) :: backTo pos (starEach es X.env))) _ _ s
 refine Calls.spliced_cons (thn (ha pins s σ H _ I h) fun u s1 ⟨x,H1,I1,r1,q1⟩=>?_)
 exact thn (hr pos pins s1 σ H1 _ I1 q1) fun us s2 ⟨xs,H2,I2,r2,q2⟩=>⟨x :: xs,H2,I2,.cons r1 r2,q2⟩
def tTup (t:TA):TE:=fun σ H Q=>t σ H fun xs H1=>xs.length ≤ sizeLine∧∀ p,H1 p = none→Q (.ref p) (upd H1 p (.tup xs))
def tLst (t:TA):TE:=fun σ H Q=>t σ H fun xs H1=>xs.length ≤ sizeLine∧∀ p,H1 p = none→Q (.ref p) (upd H1 p (.lst xs))
theorem pe_tup {x1} (h:PA X es t):PE X (.Tuple es x1 pos) (tTup t):=by
 intro pins s σ H Q I hq
 refine wpAny_Tuple_spliced (thn (h pos pins s σ H _ I hq) fun us s1 ⟨xs,H1,I1,r,z,q⟩=>⟨by rw [← r.length]; exact z,?_⟩)
 have hf:H1 s1.heap.objs.size = none:=I1.hok.fresh (Nat.le_refl _)
 refine ⟨.ref s1.heap.objs.size,upd H1 s1.heap.objs.size (.tup xs),I1.laid (t':=s1.toks) (fun b u e=>Heap.get?_push_of_some _ e) (Nat.le_refl _) ?_,rfl,q _ hf⟩
 exact ⟨z,us,r,⟨_,Heap.get?_push_size _ rfl,rfl,_,rfl⟩⟩
theorem pe_lst (h:PA X es t):PE X (.List es pos) (tLst t):=by
 intro pins s σ H Q I hq
 refine wpAny_List_spliced (thn (h pos pins s σ H _ I hq) fun us s1 ⟨xs,H1,I1,r,z,q⟩=>⟨by rw [← r.length]; exact z,?_⟩)
 have hf:H1 s1.heap.objs.size = none:=I1.hok.fresh (Nat.le_refl _)
 refine ⟨.ref s1.heap.objs.size,upd H1 s1.heap.objs.size (.lst xs),I1.laid (t':=s1.toks) (fun b u e=>Heap.get?_push_of_some _ e) (Nat.le_refl _) ?_,rfl,q _ hf⟩
 exact ⟨z,us,0,r,Heap.get?_push_size _ rfl⟩
end
abbrev Sp:=List V→Hp→VK→XK→Prop
abbrev CXT:=List Env→Hp→Shared→XK→Value→Shared→Prop
structure Env0 (P:Program) (w:World) (K:PySem.W.Frag) (mg:Str→Option Value) (base:Heap) (A:Around) (outer:List Env) (s:Shared) (H:Hp):Prop where
 frames:A.frames = some outer
 mod:Mod K mg base
 bs:∀ b o,base.get? b = some o→s.heap.get? b = some o∧H b = none
 bsz:base.objs.size ≤ s.heap.objs.size
 DN:s.heap.FunFrames base outer
 frf:∀ b ∈ frs outer,H b = none
 hok:HOk P w H s.heap
 bare:AllBare s.gens
def CE (outer:List Env) (P:Program) (w:World) (H:Hp) (s:Shared) (Q:VK) (u:Value) (s':Shared):Prop :=
 ∃ v H',s'.os = s.os∧AllBare s'.gens∧Un (frs outer) [] H H' s.heap s'.heap∧HOk P w H' s'.heap∧RelV v u∧Q v H'
def CR (CX:CXT) (outer:List Env) (P:Program) (w:World) (H:Hp) (s:Shared) (Q:VK) (E:XK) (r:Result) (s':Shared):Prop :=
 match r with
 | .ok (.ret u)=>CE outer P w H s Q u s'
 | .ok _=>False
 | .error e=>CX outer H s E e s'
structure bf (P:Program) (w:World) (K:PySem.W.Frag) (mg:Str→Option Value) (base:Heap) (CX:CXT) (k:Nat) (f:Addr) (fd:FuncData) (ps:List Str) (sp:Sp):Prop where
 len:∀ vs H Q E,sp vs H Q E→vs.length = ps.length
 run:∀ (A:Around) (outer:List Env) (s:Shared) (H:Hp) (args:Args) (us:List Value) (vs:List V) (Q:VK) (E:XK),gM k A→Env0 P w K mg base A outer s H→BindsTo s fd args (ps.zip us)→Vals vs us→sp vs H Q E →
   codeAny (model P w) A (.call (.ref f) args) (CR CX outer P w H s Q E) s
theorem bf.mono {P:Program} {w:World} {K:PySem.W.Frag} {mg:Str→Option Value} {base:Heap} {CX:CXT} {j k:Nat} {f:Addr} {fd:FuncData} {ps:List Str} {sp:Sp} (F:bf P w K mg base CX j f fd ps sp) (h:j ≤ k) :
   bf P w K mg base CX k f fd ps sp:=⟨F.len,fun A outer s H args us vs Q E hr=>F.run A outer s H args us vs Q E (hr.mono h)⟩
theorem bf.imp {P:Program} {w:World} {K:PySem.W.Frag} {mg:Str→Option Value} {base:Heap} {CX:CXT} {k:Nat} {f:Addr} {fd:FuncData} {ps:List Str} {sp sp':Sp} (F:bf P w K mg base CX k f fd ps sp)
   (h:∀ vs H Q E,sp' vs H Q E→sp vs H Q E):bf P w K mg base CX k f fd ps sp' :=
 ⟨fun vs H Q E q=>F.len vs H Q E (h _ _ _ _ q),fun A outer s H args us vs Q E hr he hb hv hs=>F.run A outer s H args us vs Q E hr he hb hv (h _ _ _ _ hs)⟩
theorem Env0.make {P:Program} {w:World} {K:PySem.W.Frag} {mg:Str→Option Value} {base:Heap} {A:Around} {outer:List Env} {s:Shared} {H:Hp} (e:Env0 P w K mg base A outer s H) (C:Addr) (us:List Value) (kw:List (Str × Value)) :
   Env0 P w K mg base (A.under (.builtin "type.__call__" ⟨.ref C :: us,kw⟩)) outer s H:=⟨by first | exact e.frames | (simpa [Around.under,Code.envs,Code.isFrame,pushEnvs] using e.frames),e.mod,e.bs,e.bsz,e.DN,e.frf,e.hok,e.bare⟩
theorem Env0.in1 {P:Program} {w:World} {K:PySem.W.Frag} {mg:Str→Option Value} {base:Heap} {A:Around} {outer:List Env} {s:Shared} {H:Hp} (e:Env0 P w K mg base A outer s H) :
   Env0 P w K mg base A.in1 outer s H:=⟨e.frames,e.mod,e.bs,e.bsz,e.DN,e.frf,e.hok,e.bare⟩
section
variable {X:Cx} {pins:List (Addr × Obj)} {σ:St} {H:Hp} {s s':Shared}
theorem Inv.env0 (I:Inv X pins σ H s):Env0 X.prog X.w X.K X.mg X.base X.A X.stack s H :=
 ⟨I.ok.frames,I.ok.mod,I.bs,Nat.le_trans I.ok.bsz I.sz,I.stack,I.adh,I.hok,I.bare⟩
theorem Inv.after {Q:VK} {u:Value} (I:Inv X pins σ H s) (h:CE X.stack X.prog X.w H s Q u s'):EP X pins σ Q u s':=by
 obtain ⟨v,H',os,bare,un,hok,r,q⟩:=h
 obtain ⟨hh,g,d,t,os'⟩:=s'
 obtain rfl:os' = s.os:=os
 exact ⟨v,H',I.call (h':=hh) (g':=g) (d':=d) (t':=t) (ch:=[]) un hok bare (fun b z=>absurd z (by simp)),r,q⟩
end
def Yt (sp:Sp) (dvs:List V) (E:XK) (t:TA):TE:=fun σ H Q=>t σ H fun vs H1=>sp (vs ++ dvs) H1 Q E
def tMeth (C:Addr) (m:Str) (sp:Sp) (dvs:List V) (E:XK) (ta:TE) (t:TA):TE:=fun σ H Q=>ta σ H fun x H1=>∃ a dx fs,x = .ref a∧H1 a = some (.ins C dx fs)∧fs.lookup m = none ∧
 t σ H1 fun vs H2=>sp (x :: (vs ++ dvs)) H2 Q E
def tMake (C:Addr) (sp:Sp) (dvs:List V) (E:XK) (t:TA):TE:=fun σ H Q=>t σ H fun vs H1=>∀ x dx,H1 x = none→H1 dx = none→dx ≠ x →
 sp (.ref x :: (vs ++ dvs)) (upd (upd H1 dx (.own x)) x (.ins C dx [])) (fun v H2=>v = .non∧Q (.ref x) H2) E
def Binds (K:PySem.W.Frag) (fd:FuncData) (ps:List Str) (ds:List Value):Prop :=
 ∀ (s:Shared) (us:List Value),K.In s.heap→(us ++ ds).length = ps.length→BindsTo s fd ⟨us,[]⟩ (ps.zip (us ++ ds))
theorem Binds.all {K:PySem.W.Frag} {fd:FuncData} {ps:List Str} (h:∀ us:List Value,us.length = ps.length→bindArgs fd ⟨us,[]⟩ = pure (ps.zip us)):Binds K fd ps []:=fun s us _ hl=>by
 rw [List.append_nil] at hl ⊢
 exact .of_eq (h us hl)
def jR (CX:CXT) (X:Cx) (E:XK):Prop:=∀ (pins:List (Addr × Obj)) (σ:St) (H:Hp) (s:Shared) (e:Value) (s':Shared),Inv X pins σ H s→CX X.stack H s E e s'→X.xe e s'
section
variable {X:Cx} {CX:CXT} {k:Nat} {f C:Addr} {fd:FuncData} {ps:List Str} {sp:Sp} {dvs:List V} {ds:List Value} {E:XK} {x m:Str} {p pos apos:Pos} {e o:Expr} {es:List Expr} {ta:TE} {t:TA}
theorem Tr {pins:List (Addr × Obj)} {σ:St} {H:Hp} {s:Shared} {Q:VK} {us:List Value} {vs:List V} (F:bf X.prog X.w X.K X.mg X.base CX k f fd ps sp) (hr:gM k X.A) (hb:Binds X.K fd ps ds) (hd:Vals dvs ds) (hx:jR CX X E)
   (I:Inv X pins σ H s) (r:Vals vs us) (h:sp (vs ++ dvs) H Q E):wpAny (model X.prog X.w) X.A (call (.ref f) us) (EP X pins σ Q) X.xe s:=by
 have r2:Vals (vs ++ dvs) (us ++ ds):=r.append hd
 have hl:(us ++ ds).length = ps.length:=by rw [← r2.length]; exact F.len _ _ _ _ h
 refine wpAny_call (codeAny_mono (F.run X.A X.stack s H ⟨us,[]⟩ (us ++ ds) (vs ++ dvs) Q E hr I.env0 (hb s us I.kIn hl) r2 h) fun r s' hq=>?_)
 cases r with
 | error e=>exact hx pins σ H s e s' I hq
 | ok fl =>
   cases fl with
   | ret u=>exact I.after hq
   | next=>exact False.elim hq
   | brk=>exact False.elim hq
   | cont=>exact False.elim hq
theorem aR (F:bf X.prog X.w X.K X.mg X.base CX k f fd ps sp) (hr:gM k X.A) (hg:Gl X x) (hm:X.mg x = some (.ref f)) (hk:PySem.W.keepIn X.K (.ref f) = true) (hb:Binds X.K fd ps ds) (hd:Vals dvs ds) (hx:jR CX X E)
   (ha:PA X (e :: es) t) (hdb:(x == ("__debug__":Str)) = false:=by decide) (he:starEach (e :: es) X.env = (false,eval e X.env) :: starEach es X.env:=by rfl) (hpl:(backTo pos (starEach es X.env)).any (·.1) = false:=by rfl) :
   PE X (.Call (.Name x p) (e :: es) [] pos) (Yt sp dvs E t):=by
 intro pins s σ H Q I h
 refine wpAny_Call_Name_kw (pK I hg hm ?_ hdb)
 refine PySem.W.callWith_K (h₀:=X.base) I.ok.mod.kin hk (thn (ha pos pins s σ H _ I h) fun us s1 ⟨vs,H1,I1,r,q⟩=>⟨I1.kIn,?_⟩) he hpl
 exact Tr F hr hb hd hx I1 r q
theorem pe_meth0 {pl:Sem Bool} (he:PE X o ta) (c:Cls X.K C) (hm:Meth X.K C m f) (F:bf X.prog X.w X.K X.mg X.base CX k f fd ps sp) (hr:gM k X.A) (hb:Binds X.K fd ps ds) (hd:Vals dvs ds) (hx:jR CX X E)
   (ht:eval (.Call (.Attribute o m apos) [] [] pos) X.env = (do
     let ov ← eval o X.env
     standAt apos.atName
     let (f,first) ← holding [ov] (getMethod ov m pl)
     callWith pos f first (backTo pos (starEach [] X.env)) (backToKw pos (keywordEach [] X.env))):=by rfl) :
   PE X (.Call (.Attribute o m apos) [] [] pos) (tMeth C m sp dvs E ta DR):=by
 intro pins s σ H Q I h
 refine PySem.W.methodCall_KW (pl:=pl) (thn (he pins s σ H _ I h) fun u s1 ⟨x,H1,I1,rx,a,dx,fs,ex,ea,l,q⟩=>?_) ht
 subst ex
 obtain rfl:u = Value.ref a:=rx
 refine Gm I1 ea c hm l ?_
 exact PySem.W.callWith_K0 (first:=[.ref a]) I1.kIn hm.kp (Tr (us:=[.ref a]) (vs:=[.ref a]) F hr hb hd hx I1 (.cons rfl .nil) q)
structure Mk (K:PySem.W.Frag) (C f:Addr):Prop where
 makes:PySem.W.makesIn K C = true
 init:PySem.W.findIn K (.ref C) "__init__" = some (some (.ref f))
 fn:PySem.W.isFn K (.ref f) = true
 kp:PySem.W.keepIn K (.ref C) = true
theorem afa {pins:List (Addr × Obj)} {σ:St} {H:Hp} {s:Shared} {Q:VK} {us:List Value} {vs:List V} (M:Mk X.K C f) (F:bf X.prog X.w X.K X.mg X.base CX k f fd ps sp) (hr:gM (k + 1) X.A) (hb:Binds X.K fd ps ds) (hd:Vals dvs ds)
   (hx:jR CX X E) (I:Inv X pins σ H s) (r:Vals vs us)
   (h:∀ x dx,H x = none→H dx = none→dx ≠ x→sp (.ref x :: (vs ++ dvs)) (upd (upd H dx (.own x)) x (.ins C dx [])) (fun v H2=>v = .non∧Q (.ref x) H2) E) :
   wpAny (model X.prog X.w) X.A (call (.ref C) us) (EP X pins σ Q) X.xe s:=by
 have hq:=h (s.heap.objs.size + 1) s.heap.objs.size (I.hok.fresh (Nat.le_succ _)) (I.hok.fresh (Nat.le_refl _)) (Nat.ne_of_lt (Nat.lt_succ_self _))
 have I2:=Inv.made (C:=C) I
 have r2:Vals (V.ref (s.heap.objs.size + 1) :: (vs ++ dvs)) (Value.ref (s.heap.objs.size + 1) :: (us ++ ds)):=.cons rfl (r.append hd)
 have hl:(Value.ref (s.heap.objs.size + 1) :: us ++ ds).length = ps.length:=by
   have e:=r2.length
   rw [F.len _ _ _ _ hq] at e
   exact e.symm
 refine wpAny_call (make_map (f:=f) I.kIn M.makes M.init (beq_iff_eq.mp M.fn) (codeAny_mono (F.run _ X.stack _ _ ⟨Value.ref (s.heap.objs.size + 1) :: us,[]⟩ (Value.ref (s.heap.objs.size + 1) :: (us ++ ds)) _ _ E (hr.make C us [])
   (I2.env0.make C us []) (hb _ (Value.ref (s.heap.objs.size + 1) :: us) I2.kIn hl) r2 hq) fun r s' hq'=>?_))
 cases r with
 | error e=>exact hx pins σ _ _ e s' I2 hq'
 | ok fl =>
   cases fl with
   | ret u =>
     obtain ⟨v,H',I3,rv,ev,q3⟩:=I2.after hq'
     subst ev
     exact ⟨rv,⟨V.ref (s.heap.objs.size + 1),H',I3,rfl,q3⟩⟩
   | next=>exact False.elim hq'
   | brk=>exact False.elim hq'
   | cont=>exact False.elim hq'
theorem yZ (M:Mk X.K C f) (F:bf X.prog X.w X.K X.mg X.base CX k f fd ps sp) (hr:gM (k + 1) X.A) (hg:Gl X x) (hm:X.mg x = some (.ref C)) (hb:Binds X.K fd ps ds) (hd:Vals dvs ds) (hx:jR CX X E)
   (ha:PA X (e :: es) t) (hdb:(x == ("__debug__":Str)) = false:=by decide) (he:starEach (e :: es) X.env = (false,eval e X.env) :: starEach es X.env:=by rfl) (hpl:(backTo pos (starEach es X.env)).any (·.1) = false:=by rfl) :
   PE X (.Call (.Name x p) (e :: es) [] pos) (tMake C sp dvs E t):=by
 intro pins s σ H Q I h
 refine wpAny_Call_Name_kw (pK I hg hm ?_ hdb)
 refine PySem.W.callWith_K (h₀:=X.base) I.ok.mod.kin M.kp (thn (ha pos pins s σ H _ I h) fun us s1 ⟨vs,H1,I1,r,q⟩=>⟨I1.kIn,?_⟩) he hpl
 exact afa M F hr hb hd hx I1 r q
theorem Jy (M:Mk X.K C f) (F:bf X.prog X.w X.K X.mg X.base CX k f fd ps sp) (hr:gM (k + 1) X.A) (hg:Gl X x) (hm:X.mg x = some (.ref C)) (hb:Binds X.K fd ps ds) (hd:Vals dvs ds) (hx:jR CX X E)
   (hdb:(x == ("__debug__":Str)) = false:=by decide):PE X (.Call (.Name x p) [] [] pos) (tMake C sp dvs E DR):=by
 intro pins s σ H Q I h
 refine wpAny_Call_Name_kw (pK I hg hm ?_ hdb)
 exact PySem.W.callWith_K0 I.kIn M.kp (afa (us:=[]) M F hr hb hd hx I .nil h)
end
section
variable {X:Cx} {CX:CXT} {k:Nat} {f C:Addr} {fd:FuncData} {ps ks:List Str} {sp:Sp} {E:XK} {x m:Str} {p pos apos kpos:Pos} {e o:Expr} {es:List Expr} {kws:List Keyword} {te ta:TE} {t tk:TA} {nm:Option Str}
structure KBinds (K:PySem.W.Frag) (fd:FuncData) (ps ks:List Str) (g:List Value→List Value→List Value) (gV:List V→List V→List V):Prop where
 to:∀ (s:Shared) (us ws:List Value),K.In s.heap→(g us ws).length = ps.length→BindsTo s fd ⟨us,ks.zip ws⟩ (ps.zip (g us ws))
 rel:∀ {vs:List V} {us:List Value} {zs:List V} {ws:List Value},Vals vs us→Vals zs ws→Vals (gV vs zs) (g us ws)
variable {g:List Value→List Value→List Value} {gV:List V→List V→List V}
end
structure aN (N P:List Str) (sc:Scope):Prop where
 kind:sc.kind = .function
 co:sc.isCoroutine = false
 gen:sc.isGenerator = false
 nd:N.Nodup
 pre:N.take P.length = P
 par:∀ x ∈ P,sc.names.lookup x = some .local ∨ sc.names.lookup x = some .cell
 nofree:∀ y ∈ sc.names,y.2 ≠ .free
theorem XF {kindOf:Str→Option NameKind} {x:Str}:∀ {binds:List (Str × Value)} {m:Str→Option Value},(∀ v,(x,v) ∉ binds)→bindL kindOf binds m x = m x
 | [],_,_=>rfl
 | (n,v) :: r,m,h=>by
   unfold bindL
   rw [XF fun w hw=>h w (List.mem_cons_of_mem _ hw)]
   split
   · have:x ≠ n:=by rintro rfl; exact h v List.mem_cons_self
     simp [this]
   · rfl
theorem XC {kindOf:Str→Option NameKind} {x:Str}:∀ {binds:List (Str × Value)} {m:Str→Option Value},(∀ v,(x,v) ∉ binds)→bindC kindOf binds m x = m x
 | [],_,_=>rfl
 | (n,v) :: r,m,h=>by
   unfold bindC
   rw [XC fun w hw=>h w (List.mem_cons_of_mem _ hw)]
   split
   · rfl
   · have:x ≠ n:=by rintro rfl; exact h v List.mem_cons_self
     simp [this]
theorem XD {kindOf:Str→Option NameKind} {x:Str} {v:Value}:∀ {P:List Str} {vs:List Value} {i:Nat} {m:Str→Option Value},P.Nodup→P[i]? = some x→vs[i]? = some v→kindOf x = some .local →
   bindL kindOf (P.zip vs) m x = some v
 | [],_,_,_,_,h,_,_=>by simp at h
 | _ :: _,[],_,_,_,_,h,_=>by simp at h
 | p :: P,w :: vs,0,m,nd,h1,h2,hk=>by
   simp at h1 h2; subst h1; subst h2
   show bindL kindOf ((p,w) :: P.zip vs) m p = _
   unfold bindL
   rw [XF fun v hv=>(List.nodup_cons.mp nd).1 (List.of_mem_zip hv).1,if_pos hk]
   simp
 | p :: P,w :: vs,i + 1,m,nd,h1,h2,hk=>by
   show bindL kindOf ((p,w) :: P.zip vs) m x = _
   unfold bindL
   exact XD (i:=i) (List.nodup_cons.mp nd).2 (by simpa using h1) (by simpa using h2) hk
theorem Xz {kindOf:Str→Option NameKind} {x:Str} {v:Value}:∀ {P:List Str} {vs:List Value} {i:Nat} {m:Str→Option Value},P.Nodup→P[i]? = some x→vs[i]? = some v→kindOf x ≠ some .local →
   bindC kindOf (P.zip vs) m x = some v
 | [],_,_,_,_,h,_,_=>by simp at h
 | _ :: _,[],_,_,_,_,h,_=>by simp at h
 | p :: P,w :: vs,0,m,nd,h1,h2,hk=>by
   simp at h1 h2; subst h1; subst h2
   show bindC kindOf ((p,w) :: P.zip vs) m p = _
   unfold bindC
   rw [XC fun v hv=>(List.nodup_cons.mp nd).1 (List.of_mem_zip hv).1,if_neg hk]
   simp
 | p :: P,w :: vs,i + 1,m,nd,h1,h2,hk=>by
   show bindC kindOf ((p,w) :: P.zip vs) m x = _
   unfold bindC
   exact Xz (i:=i) (List.nodup_cons.mp nd).2 (by simpa using h1) (by simpa using h2) hk
def start (N:List Str) (vs:List V):St:=vs.map some ++ List.replicate (N.length - vs.length) none
def Kh (CX:CXT) (P:Program) (w:World) (K:PySem.W.Frag) (mg:Str→Option Value) (base:Heap) (N:List Str) (qual:Str) (scope:Scope) (f:Addr) (cd:Value) (A:Around) (outer:List Env) (s:Shared) (H:Hp) (E:XK):Cx where
 prog:=P
 w:=w
 K:=K
 mg:=mg
 base:=base
 A:=A.deeper (envOfC qual scope s.heap.objs.size f cd)
 N:=N
 s₀:=s
 H₀:=H
 env:=envOfC qual scope s.heap.objs.size f cd
 outer:=outer
 stack:=envOfC qual scope s.heap.objs.size f cd :: outer
 ex:=[]
 calm:=true
 fn:=fun _=>true
 pn:=[]
 xe:=fun e s'=>wpAny (model P w) (A.deeper (envOfC qual scope s.heap.objs.size f cd)) (leaving (envOfC qual scope s.heap.objs.size f cd) e) (fun _ s''=>CX outer H s E e s'') (fun e' s''=>CX outer H s E e' s'') s'
theorem ad2 {sc:Scope} {n:Nat} {x:Str} (h:sc.names.lookup x = some .cell):∃ c,(cellsFrom n sc.names []).lookup x = some c:=by
 have q:=PySem.W.cellsFrom_some sc.names n [] (.inl h)
 exact Option.isSome_iff_exists.mp q
theorem aiR {CX:CXT} {P:Program} {w:World} {K:PySem.W.Frag} {mg:Str→Option Value} {base:Heap} {N ps:List Str} {qual:Str} {scope:Scope} {f:Addr} {cd:Value} {A:Around} {outer:List Env} {s s1:Shared} {H:Hp} {E:XK} {us:List Value} {vs:List V}
   (S:aN N ps scope) (hd:A.handled = none) (e0:Env0 P w K mg base A outer s H) (hl:vs.length = ps.length) (r:Vals vs us)
   (x:InCallC s s.heap.objs.size (bindL (envOfC qual scope s.heap.objs.size f cd).kindOf (ps.zip us) fun _=>none) (cellsFrom (s.heap.objs.size + 1) scope.names []) (bindC (envOfC qual scope s.heap.objs.size f cd).kindOf (ps.zip us) fun _=>none) s1) :
   Inv (Kh CX P w K mg base N qual scope f cd A outer s H E) [] (start N vs) H s1:=by
 have hpl:ps.length ≤ N.length:=by have:=congrArg List.length S.pre; rw [List.length_take] at this; omega
 obtain ⟨h1,tk,rfl,hk⟩:=x.done
 have noA:∀ b:Addr,b ∉ (Kh CX P w K mg base N qual scope f cd A outer s H E).ex:=fun b z=>absurd (show b ∈ ([]:List Addr) from z) (by simp)
 refine ⟨⟨e0.mod,S.kind,rfl,rfl,Nat.le_refl _,fun y z c h1 h2=>?_,fun y hy=>?_,fun y c _ h=>?_,fun _=>hd,Around.frames_deeper e0.frames,.inr ⟨rfl,rfl⟩,fun b z=>absurd z (noA b),e0.bs,e0.bsz,fun b _ _=>noA b,fun b z=>absurd z (noA b),e0.DN,e0.frf⟩,
   rfl,e0.bare,Un.kept hk,⟨_,x.toInCall.ns,fun i y v h1 h2 h3=>?_⟩,fun y c h=>⟨_,x.cell y c h⟩,e0.hok.fresh (Nat.le_refl _),fun y c h=>?_,fun p hp=>absurd (show p ∈ ([]:List (Addr × Obj)) from hp) (by simp),e0.hok.kept hk,?_⟩
 · exact name_of_addr x.apart (PySem.mem_of_lookup h1) (PySem.mem_of_lookup h2)
 · have hy:scope.names.lookup y = some .cell ∨ scope.names.lookup y = some .free:=hy
   rcases hy with hy | hy
   · exact ad2 hy
   · exact absurd rfl (S.nofree _ (PySem.mem_of_lookup hy))
 · exact Nat.le_of_lt (x.above y c (PySem.mem_of_lookup h))
 · have hi:i < vs.length:=by
     unfold start at h2
     by_cases hi:i < vs.length
     · exact hi
     · rw [List.getElem?_append_right (by simpa using hi)] at h2
       rw [List.getElem?_replicate] at h2
       split at h2 <;> cases h2
   have ha:vs[i]? = some v:=by
     unfold start at h2
     rw [List.getElem?_append_left (by simpa using hi),List.getElem?_map] at h2
     cases e:vs[i]? with
     | none=>rw [e] at h2; cases h2
     | some a=>rw [e] at h2; cases h2; rfl
   obtain ⟨u,hu,rv⟩:=r.get ha
   have hp:ps[i]? = some y:=by
     rw [← S.pre,List.getElem?_take_of_lt (by omega)]; exact h1
   have ndP:ps.Nodup:=by rw [← S.pre]; exact S.nd.sublist (List.take_sublist _ _)
   refine ⟨u,rv,?_⟩
   rcases S.par y (List.mem_of_getElem? hp) with k | k
   · exact .inl ⟨k,XD ndP hp hu k⟩
   · obtain ⟨c,e⟩:=ad2 (n:=s.heap.objs.size + 1) k
     refine .inr ⟨.inl k,c,e,?_⟩
     have q:=x.cell y c e
     rw [Xz ndP hp hu (by show scope.names.lookup y ≠ _; rw [k]; decide)] at q
     exact q
 · exact e0.hok.fresh (Nat.le_of_lt (x.above y c (PySem.mem_of_lookup h)))
 · unfold start
   show _ = N.length
   rw [List.length_append,List.length_map,List.length_replicate]
   omega
theorem fn_of {CX:CXT} {P:Program} {w:World} {K:PySem.W.Frag} {mg:Str→Option Value} {base:Heap} {k:Nat} {f:Addr} {name qual:Str} {params:Arguments} {body:List Stmt} {scope:Scope} {dV kV doc pm cdv ct oc:Value} {an od:Option Addr}
   {osl:Array (Option Value)} {N ps:List Str} {sp:Sp} (lk:K.lookup f = some ⟨oc,od,.func (PySem.W.fnOf name qual params body scope dV kV doc pm an cdv ct),osl⟩) (hcd:PySem.W.codeIn K cdv qual = true) (S:aN N ps scope)
   (len:∀ vs H Q E,sp vs H Q E→vs.length = ps.length)
   (hbody:∀ (A:Around) (outer:List Env) (s:Shared) (H:Hp) (vs:List V) (Q:VK) (E:XK),gM k (A.deeper (envOfC qual scope s.heap.objs.size f cdv))→sp vs H Q E →
     ∃ t,PSs (Kh CX P w K mg base N qual scope f cdv A outer s H E) body t∧t { nx:=fun _ H'=>Q .non H',rt:=Q } (start N vs) H) :
   bf P w K mg base CX (k + 1) f (PySem.W.fnOf name qual params body scope dV kV doc pm an cdv ct) ps sp:=by
 refine ⟨len,fun A outer s H args us vs Q E hr e0 hb r hsp=>?_⟩
 have hl:=len _ _ _ _ hsp
 have KX:K.In s.heap:=e0.mod.kin.keeps fun b o e=>(e0.bs b o e).1
 have lim:s.heap.NoLimit:=e0.mod.nolimit.keeps fun b o e=>(e0.bs b o e).1
 have hkind:∀ y ∈ ps.zip us,scope.names.lookup y.1 = some .local ∨ (scope.names.lookup y.1 = some .cell∧((cellsFrom (s.heap.objs.size + 1) scope.names []).lookup y.1).isSome = true):=fun ⟨n,v⟩ hy=>by
   rcases S.par n (List.of_mem_zip hy).1 with q | q
   · exact .inl q
   · exact .inr ⟨q,PySem.W.cellsFrom_some _ _ _ (.inl q)⟩
 refine codeAny_call_function hr.depth (KX _ _ lk) rfl S.co S.gen rfl (PySem.W.codeRec_of KX hcd) (hb _ _ _ _ ?_)
 refine wpAny_newFunctionEnv_cells S.kind hkind fun env he s1 x=>?_
 subst he
 refine ⟨lim.keeps x.toInCall.keep,codeAny_func ?_⟩
 obtain ⟨t,ht,hq⟩:=hbody A outer s H vs Q E (hr.deeper _) hsp
 have I:Inv (Kh CX P w K mg base N qual scope f cdv A outer s H E) [] (start N vs) H s1:=aiR S hr.hd e0 hl r x
 refine wpAny_mono (ht [] s1 (start N vs) H _ I hq) (fun fl s' hs=>?_) fun e s' hs=>hs
 have fin:∀ {σ':St} {H':Hp} {v:V} {u:Value},Inv (Kh CX P w K mg base N qual scope f cdv A outer s H E) [] σ' H' s'→RelV v u→Q v H'→CE outer P w H s Q u s' :=
   fun {σ' H' v u} J rv q=>⟨v,H',J.os,J.bare,J.base,J.hok,rv,q⟩
 cases fl with
 | ret u =>
   obtain ⟨v,σ',H',J,rv,q⟩:=hs
   exact fin J rv q
 | next =>
   obtain ⟨σ',H',J,q⟩:=hs
   exact fin (v:=V.non) (u:=Value.none) J rfl q
 | brk =>
   obtain ⟨_,_,_,q⟩:=hs
   exact False.elim q
 | cont =>
   obtain ⟨_,_,_,q⟩:=hs
   exact False.elim q
end L2
namespace L2
open PySem PySem.Spec PyProof.Rows
section
variable {X:Cx} {x:Str} {p pos:Pos} {e:Expr} {es:List Expr} {t:TA} {id T:String} {r:List V→Hp→VK→Prop}
def tCB (r:List V→Hp→VK→Prop) (t:TA):TE:=fun σ H Q=>t σ H fun vs H1=>r vs H1 Q
theorem Jw (hc:rK X (.builtin id) r) (hg:Gl X x) (hm:X.mg x = none) (hv:bootBuiltins x = some (.builtin id)) (ha:PA X (e :: es) t) (hn:x ≠ "__name__":=by decide) (hdb:(x == ("__debug__":Str)) = false:=by decide)
   (he:starEach (e :: es) X.env = (false,eval e X.env) :: starEach es X.env:=by rfl) (hpl:(backTo pos (starEach es X.env)).any (·.1) = false:=by rfl):PE X (.Call (.Name x p) (e :: es) [] pos) (tCB r t):=by
 intro pins s σ H Q I h
 refine wpAny_Call_Name_kw (R3 I hg hm hv ?_ hn hdb)
 exact PyProof.Rows.callWith_builtin1 (thn (ha pos pins s σ H _ I h) fun us s1 ⟨vs,H1,I1,r1,q1⟩=>hc pins s1 σ H1 vs us Q I1 r1 q1) he hpl
theorem Dt (hc:rK X (.type T) r) (hg:Gl X x) (hm:X.mg x = none) (hv:bootBuiltins x = some (.type T)) (ha:PA X (e :: es) t) (hn:x ≠ "__name__":=by decide) (hdb:(x == ("__debug__":Str)) = false:=by decide)
   (he:starEach (e :: es) X.env = (false,eval e X.env) :: starEach es X.env:=by rfl) (hpl:(backTo pos (starEach es X.env)).any (·.1) = false:=by rfl):PE X (.Call (.Name x p) (e :: es) [] pos) (tCB r t):=by
 intro pins s σ H Q I h
 refine wpAny_Call_Name_kw (R3 I hg hm hv ?_ hn hdb)
 exact PyProof.Rows.callWith_type1 (thn (ha pos pins s σ H _ I h) fun us s1 ⟨vs,H1,I1,r1,q1⟩=>hc pins s1 σ H1 vs us Q I1 r1 q1) he hpl
end
end L2
namespace HT
open PySem PyProof.Rows
section
open PySem.SeqAt
open PySem.AutoSeq1 (wpAny_loadPart')
open PySem.MeetsSeq PySem.MeetsSeq2 PySem.MeetsSeq3
end
section
variable {prog:Program} {w:World} {A:Around} {E:Value→Shared→Prop} {s:Shared}
def sIx (n d:Nat):Option Int→Nat
 | none=>d
 | some v=>if v < 0 then (v + (n:Int)).toNat else min v.toNat n
theorem Tu (n d:Nat):sIx n d none = d:=rfl
theorem aif (n d k:Nat):sIx n d (some (k:Int)) = min k n:=by
 show (if (k:Int) < 0 then ((k:Int) + (n:Int)).toNat else min (k:Int).toNat n) = min k n
 rw [if_neg (by omega),Int.toNat_natCast]
end
end HT
namespace L2
open PySem PySem.Spec PyProof.Rows
abbrev TO:=St→Hp→(Option Int→Hp→Prop)→Prop
def PO (X:Cx) (e:Option Expr) (t:TO):Prop :=
 ∀ (pins:List (Addr × Obj)) (s:Shared) (σ:St) (H:Hp) (Q:Option Int→Hp→Prop),Inv X pins σ H s→t σ H Q →
   wpAny (model X.prog X.w) X.A (evalPart e X.env) (fun u s'=>∃ o H',Inv X pins σ H' s'∧IsPart u o∧Q o H') X.xe s
def tNoPart:TO:=fun _ H Q=>Q none H
def tPart (t:TE):TO:=fun σ H Q=>t σ H fun x H1=>∃ i,x = .int i∧Q (some i) H1
section
variable {X:Cx} {e:Expr} {te:TE} {lo hi:Option Expr} {tl th:TO} {pos p2:Pos}
theorem po_none:PO X none tNoPart:=by
 intro pins s σ H Q I h
 rw [evalPart_none]
 exact wpAny_pure ⟨none,H,I,.none,h⟩
theorem po_some (h:PE X e te):PO X (some e) (tPart te):=by
 intro pins s σ H Q I hw
 rw [evalPart_some]
 refine thn (h pins s σ H _ I hw) fun u s1 ⟨x,H1,I1,r1,q1⟩=>?_
 obtain ⟨i,rfl,q⟩:=q1
 obtain ⟨t,rfl⟩:=r1
 exact ⟨some i,H1,I1,.int i t,q⟩
def SlR (X:Cx) (r:V→Option Int→Option Int→Hp→VK→Prop):Prop :=
 ∀ (pins:List (Addr × Obj)) (s:Shared) (σ:St) (H:Hp) (x:V) (v vl vu:Value) (lo hi:Option Int) (sl:Addr) (Q:VK),Inv X pins σ H s→RelV x v→s.heap.IsSliceOf sl vl vu .none→IsPart vl lo→IsPart vu hi→r x lo hi H Q →
   ∃ T id,typeLookup (.type T) "__getitem__" = pure (some (.builtin id))∧s.TypeIs v T∧wpAny (model X.prog X.w) X.A (getItem v (.ref sl)) (EP X pins σ Q) X.xe s
theorem SlR.or {r r':V→Option Int→Option Int→Hp→VK→Prop} (h:SlR X r) (h':SlR X r'):SlR X (fun x lo hi H Q=>r x lo hi H Q ∨ r' x lo hi H Q):=by
 intro pins s σ H x v vl vu lo hi sl Q I rx hs pl pu q
 rcases q with q | q
 · exact h pins s σ H x v vl vu lo hi sl Q I rx hs pl pu q
 · exact h' pins s σ H x v vl vu lo hi sl Q I rx hs pl pu q
def tSl (r:V→Option Int→Option Int→Hp→VK→Prop) (te:TE) (tl th:TO):TE:=fun σ H Q=>te σ H fun x H1=>tl σ H1 fun l H2=>th σ H2 fun u H3=>r x l u H3 Q
theorem pe_slice {r:V→Option Int→Option Int→Hp→VK→Prop} (hr:SlR X r) (he:PE X e te) (hl:PO X lo tl) (hu:PO X hi th):PE X (.Subscript e (.Slice lo hi none p2) pos) (tSl r te tl th):=by
 intro pins s σ H Q I h
 refine Subscript_ (thn (he pins s σ H _ I h) fun v s1 ⟨x,H1,I1,r1,q1⟩=>?_)
 refine wpAny_Slice (thn (hl pins s1 σ H1 _ I1 q1) fun vl s2 ⟨l,H2,I2,pl,q2⟩=>thn (hu pins s2 σ H2 _ I2 q2) fun vu s3 ⟨u,H3,I3,pu,q3⟩=>?_)
 rw [evalPart_none]
 refine wpAny_pure ?_
 have I4:Inv X pins σ H3 { s3 with heap:=s3.heap.push { cls:=.type "slice",data:=.fields #[vl,vu,.none] } }:=I3.kept (t':=s3.toks) fun b ob q=>Heap.get?_push_of_some _ q
 obtain ⟨T,id,hT,ht,hg⟩:=hr pins { s3 with heap:=s3.heap.push { cls:=.type "slice",data:=.fields #[vl,vu,.none] } } σ H3 x v vl vu l u s3.heap.objs.size Q I4 r1 (Heap.IsSliceOf.new ..) pl pu q3
 show wpAny (model X.prog X.w) X.A (subscriptTail e (.Slice lo hi none p2) v (.ref s3.heap.objs.size)) (EP X pins σ Q) X.xe { s3 with heap:=s3.heap.push { cls:=.type "slice",data:=.fields #[vl,vu,.none] } }
 exact tail_any (ops:=[.ref s3.heap.objs.size,v]) ht hT hg (by with_unfolding_all rfl)
def cutV (xs:List V) (lo hi:Option Int):List V:=(xs.drop (HT.sIx xs.length 0 lo)).take (HT.sIx xs.length xs.length hi - HT.sIx xs.length 0 lo)
theorem aeb (xs:List V) (lo hi:Option Int):(cutV xs lo hi).length ≤ xs.length:=by
 unfold cutV
 rw [List.length_take,List.length_drop]
 omega
end
end L2
namespace L2
open PySem PySem.Spec PyProof.Rows
def ixN (n:Nat) (i:Int):Option Nat:=if 0 ≤ i then (if i < n then some i.toNat else none) else if -(n:Int) ≤ i then some (i + n).toNat else none
def atI {α:Type} (xs:List α) (i:Int):Option α:=(ixN xs.length i).bind fun j=>xs[j]?
theorem aa1 {n:Nat} {i:Int} {j:Nat} (h:ixN n i = some j):seqIndex? i n = some j∧j < n∧-(n:Int) ≤ i∧i < n:=by
 unfold ixN at h
 by_cases h0:0 ≤ i
 · rw [if_pos h0] at h
   by_cases h1:i < n
   · rw [if_pos h1] at h
     have e:i.toNat = j:=Option.some.inj h
     exact ⟨by rw [seqIndex_of h0 h1,e],by omega,by omega,h1⟩
   · rw [if_neg h1] at h; cases h
 · rw [if_neg h0] at h
   by_cases h1:-(n:Int) ≤ i
   · rw [if_pos h1] at h
     have e:(i + n).toNat = j:=Option.some.inj h
     exact ⟨by rw [seqIndex_neg (by omega) h1,e],by omega,h1,by omega⟩
   · rw [if_neg h1] at h; cases h
theorem Zj {α:Type} {xs:List α} {i:Int} {v:α} (h:atI xs i = some v):∃ j,seqIndex? i xs.length = some j∧xs[j]? = some v∧j < xs.length∧-(xs.length:Int) ≤ i∧i < xs.length:=by
 unfold atI at h
 cases e:ixN xs.length i with
 | none=>rw [e] at h; cases h
 | some j =>
   rw [e] at h
   obtain ⟨h1,h2,h3,h4⟩:=aa1 e
   exact ⟨j,h1,h,h2,h3,h4⟩
theorem fG {α:Type} {xs:List α} {j:Nat} {v:α} (h:xs[j]? = some v):atI xs (j:Int) = some v:=by
 have hj:j < xs.length:=(List.getElem?_eq_some_iff.mp h).1
 have e:ixN xs.length (j:Int) = some j:=by
   unfold ixN
   rw [if_pos (by omega),if_pos (by omega)]; simp
 unfold atI; rw [e]; exact h
def Pq (b:Expr):Prop:=∀ o i,subscripted b false o i = operate [o,i] (getItem o i)
def IxR (X:Cx) (r:R2):Prop :=
 ∀ (value slice:Expr) (pins:List (Addr × Obj)) (s:Shared) (σ:St) (H:Hp) (x y:V) (v u:Value) (Q:VK),Inv X pins σ H s→RelV x v→RelV y u→r x y H Q →
   subscripted slice false v u = operate [v,u] (getItem v u)→wpAny (model X.prog X.w) X.A (subscriptTail value slice v u) (EP X pins σ Q) X.xe s
def MtR (X:Cx) (id:String) (r:V→List V→Hp→VK→Prop):Prop :=
 ∀ (pins:List (Addr × Obj)) (s:Shared) (σ:St) (H:Hp) (x:V) (xs:List V) (v:Value) (us:List Value) (Q:VK),Inv X pins σ H s→RelV x v→Vals xs us→r x xs H Q →
   wpAny (model X.prog X.w) X.A (call (.builtin id) (v :: us)) (EP X pins σ Q) X.xe s
section
variable {X:Cx} {a b:Expr} {ta tb:TE} {pos:Pos}
theorem IxR.or {r r':R2} (h:IxR X r) (h':IxR X r'):IxR X (fun x y H Q=>r x y H Q ∨ r' x y H Q):=by
 intro value slice pins s σ H x y v u Q I rx ry q hs
 rcases q with q | q
 · exact h value slice pins s σ H x y v u Q I rx ry q hs
 · exact h' value slice pins s σ H x y v u Q I rx ry q hs
theorem MtR.or {id:String} {r r':V→List V→Hp→VK→Prop} (h:MtR X id r) (h':MtR X id r'):MtR X id (fun x xs H Q=>r x xs H Q ∨ r' x xs H Q):=by
 intro pins s σ H x xs v us Q I rx rs q
 rcases q with q | q
 · exact h pins s σ H x xs v us Q I rx rs q
 · exact h' pins s σ H x xs v us Q I rx rs q
theorem pe_ix {r:R2} (hr:IxR X r) (ha:PE X a ta) (hb:PE X b tb) (hs:Pq b):PE X (.Subscript a b pos) (tOp r ta tb):=by
 intro pins s σ H Q I h
 exact Subscript_ (binT ha hb I h fun v u s2 x y H2 I2 rx ry q=>hr a b pins s2 σ H2 x y v u Q I2 rx ry q (hs _ _))
def rIxL (K:PySem.W.Frag):R2:=fun x y H Q=>∃ p xs i v,x = .ref p∧y = .int i∧SqL K H p xs∧atI xs i = some v∧Q v H
def rIxT (K:PySem.W.Frag):R2:=fun x y H Q=>∃ p xs i v,x = .ref p∧y = .int i∧SqT K H p xs∧atI xs i = some v∧Q v H
def rIxS:R2:=fun x y H Q=>∃ z i c,x = .str z∧y = .int i∧z.length ≤ sizeLine∧atI z.cps.toList i = some c∧Q (.str ⟨#[c]⟩) H
theorem ah7:IxR X (rIxL X.K):=by
 intro value slice pins s σ H x y v u Q I rx ry h hs
 obtain ⟨p,xs,i,z,rfl,rfl,hq,he,q⟩:=h
 cases rx
 obtain ⟨t,rfl⟩:=ry
 obtain ⟨its,r,pl,hz⟩:=I.list hq
 obtain ⟨j,h1,h2,h3,h4,h5⟩:=Zj he
 obtain ⟨w,ew,rw'⟩:=r.get h2
 have hl:=r.length
 have hn:=Gy
 have fin:EP X pins σ Q w s:=⟨z,H,I,rw',q⟩
 by_cases h0:0 ≤ i
 · have hj:i.toNat = j:=by
     rw [seqIndex_of h0 h5] at h1
     exact Option.some.inj h1
   exact item_listR pl.isList h0 (by omega) (by rw [hj]; simpa using ew) fin hs
 · have hj:(i + (its.toArray.size:Int)).toNat = j:=by
     rw [seqIndex_neg (by omega) h4] at h1
     rw [List.size_toArray,← hl]
     exact Option.some.inj h1
   exact subscriptTail_builtinR (x:=w) pl.isList.typeIs slot_list_getitem.lookup
     (wpAny_getItem_list_neg (Q:=fun r s'=>r = w∧EP X pins σ Q r s') pl.isList (by omega) (by rw [List.size_toArray] <;> omega) (by omega) (by rw [hj]; simpa using ew) ⟨rfl,fin⟩) hs
theorem ix_tup:IxR X (rIxT X.K):=by
 intro value slice pins s σ H x y v u Q I rx ry h hs
 obtain ⟨p,xs,i,z,rfl,rfl,hq,he,q⟩:=h
 cases rx
 obtain ⟨t,rfl⟩:=ry
 obtain ⟨its,r,pl,hz⟩:=I.tuple hq
 obtain ⟨j,h1,h2,h3,h4,h5⟩:=Zj he
 obtain ⟨w,ew,rw'⟩:=r.get h2
 have hl:=r.length
 have hn:=Gy
 have fin:EP X pins σ Q w s:=⟨z,H,I,rw',q⟩
 exact subscriptTail_builtinR (x:=w) pl.typeIs slot_tuple_getitem.lookup
   (getItem_tuple (j:=j) (Q:=fun r s'=>r = w∧EP X pins σ Q r s') pl (by omega) (by omega) (by rw [List.size_toArray,← hl]; exact h1) (by simpa using ew) ⟨rfl,fin⟩) hs
theorem ix_str:IxR X rIxS:=by
 intro value slice pins s σ H x y v u Q I rx ry h hs
 obtain ⟨z,i,c,rfl,rfl,hz,he,q⟩:=h
 obtain ⟨t,rfl⟩:=rx
 obtain ⟨t',rfl⟩:=ry
 obtain ⟨j,h1,h2,h3,h4,h5⟩:=Zj he
 have hl:z.cps.toList.length = z.length:=by simp [Str.length]
 rw [hl] at h1 h4 h5
 have hn:=Gy
 exact tail_any (typeIs_str s z t) slot_str_getitem.lookup (getItem_str (c:=c) (by
   have e1:decide (i < -(2 ^ 63:Int)) = false:=decide_eq_false (by omega)
   have e2:decide (i ≥ 2 ^ 63) = false:=decide_eq_false (by omega)
   rw [e1,e2,Bool.or_false]) (by rw [h1]; simpa using h2) ⟨.str ⟨#[c]⟩,H,I.tok _,⟨_,rfl⟩,q⟩) hs
def rIx (K:PySem.W.Frag):R2:=fun x y H Q=>rIxL K x y H Q ∨ rIxT K x y H Q ∨ rIxS x y H Q
theorem ix_seq:IxR X (rIx X.K):=ah7.or (ix_tup.or ix_str)
theorem agY (its:List Value) (n j:Nat) (u:Value):Obj.mapSeq (·.setIfInBounds j u) { cls:=.type "list",data:=.seq its.toArray n } = { cls:=.type "list",data:=.seq (its.set j u).toArray n }:=by
 simp [Obj.mapSeq]
theorem Inv.lst {pins:List (Addr × Obj)} {σ:St} {H:Hp} {s:Shared} {p:Addr} {xs:List V} (I:Inv X pins σ H s) (h:H p = some (.lst xs)) :
   ∃ (its:List Value) (n:Nat),Vals xs its∧s.heap.get? p = some { cls:=.type "list",data:=.seq its.toArray n }∧xs.length ≤ sizeLine:=by
 obtain ⟨z,its,n,r,e⟩:=I.hok p _ h
 exact ⟨its,n,r,e,z⟩
theorem Inv.lstUpd {pins:List (Addr × Obj)} {σ:St} {H:Hp} {s:Shared} {p:Addr} {xs ys:List V} {its its':List Value} {n n':Nat} {f:Obj→Obj} (I:Inv X pins σ H s) (h:H p = some (.lst xs))
   (ho:s.heap.get? p = some { cls:=.type "list",data:=.seq its.toArray n }) (hf:f { cls:=.type "list",data:=.seq its.toArray n } = { cls:=.type "list",data:=.seq its'.toArray n' }) (r:Vals ys its') (hz:ys.length ≤ sizeLine) (t:Nat) :
   Inv X pins σ (upd H p (.lst ys)) { s with heap:=s.heap.update p f,toks:=t }:=by
 have e:(s.heap.update p f).get? p = some { cls:=.type "list",data:=.seq its'.toArray n' }:=by
   rw [Heap.get?_update_self f ho (by rw [hf] <;> rfl),hf]
 refine I.write (x:=p) (e:=p) (by rw [h]; trivial) (.inl rfl) (fun b u hb q=>(Heap.get?_update_other _ _ (Ne.symm hb)).trans q) ⟨_,e⟩ ?_
 exact ⟨hz,its',n',r,e⟩
def rSetL:V→V→V→Hp→(Hp→Prop)→Prop:=fun o i v H Q=>∃ p xs k j,o = .ref p∧i = .int k∧H p = some (.lst xs)∧ixN xs.length k = some j∧Q (upd H p (.lst (xs.set j v)))
theorem set_list:PSet X rSetL:=by
 intro pins s σ H o i v ov iv u Q I ro ri rv h
 obtain ⟨p,xs,k,j,rfl,rfl,hp,hj,q⟩:=h
 cases ro
 obtain ⟨t,rfl⟩:=ri
 obtain ⟨its,n,r,ho,hz⟩:=I.lst hp
 obtain ⟨h1,h2,h3,h4⟩:=aa1 hj
 have hl:=r.length
 have hn:=Gy
 have I':Inv X pins σ (upd H p (.lst (xs.set j v))) { s with heap:=s.heap.update p (Obj.mapSeq (·.setIfInBounds j u)) } :=
   I.lstUpd hp ho (agY its n j u) (r.set rv j) (by rw [List.length_set]; exact hz) s.toks
 by_cases h0:0 ≤ k
 · have hk:k.toNat = j:=by
     rw [seqIndex_of h0 h4] at h1
     exact Option.some.inj h1
   exact PySem.W.ki_setAt ho h0 (by omega) (by rw [List.size_toArray,← hl]; exact h4) (by rw [hk]; exact ⟨_,I',q⟩)
 · have hk:(k + (its.toArray.size:Int)).toNat = j:=by
     rw [seqIndex_neg (by omega) h3] at h1
     rw [List.size_toArray,← hl]
     exact Option.some.inj h1
   exact PySem.W.ki_setBack ho (by omega) (by rw [List.size_toArray,← hl]; exact h3) (by omega) (by rw [hk]; exact ⟨_,I',q⟩)
theorem ade (lo hi:Option Int) (n:Nat):(sliceBounds lo hi none n).1 = ((HT.sIx n 0 lo:Nat):Int)∧(sliceBounds lo hi none n).2.1 = ((HT.sIx n n hi:Nat):Int)∧(sliceBounds lo hi none n).2.2 = 1:=by
 refine ⟨?_,?_,rfl⟩
 · cases lo with
   | none=>simp [sliceBounds,HT.sIx]
   | some i =>
     simp only [sliceBounds,HT.sIx,Option.getD_none,show (1:Int) > 0 by decide,if_true]
     by_cases h:i < 0
     · simp only [h,if_true] <;> omega
     · simp only [h,if_false] <;> omega
 · cases hi with
   | none=>simp [sliceBounds,HT.sIx]
   | some i =>
     simp only [sliceBounds,HT.sIx,Option.getD_none,show (1:Int) > 0 by decide,if_true]
     by_cases h:i < 0
     · simp only [h,if_true] <;> omega
     · simp only [h,if_false] <;> omega
theorem Xc (its:List Value) (lo hi:Option Int):slicePick its.toArray lo hi none = ((its.drop (HT.sIx its.length 0 lo)).take (HT.sIx its.length its.length hi - HT.sIx its.length 0 lo)).toArray:=by
 obtain ⟨h1,h2,h3⟩:=ade lo hi its.toArray.size
 unfold slicePick
 rw [h1,h2,h3]
 simp only [sliceRange_one,pick_run,List.size_toArray] <;> rfl
def rSlL (K:PySem.W.Frag):V→Option Int→Option Int→Hp→VK→Prop:=fun x lo hi H Q=>∃ a xs,x = .ref a∧SqL K H a xs∧∀ p,H p = none→Q (.ref p) (upd H p (.lst (cutV xs lo hi)))
theorem sl_list:SlR X (rSlL X.K):=by
 intro pins s σ H x v vl vu lo hi sl Q I rx hs pl pu h
 obtain ⟨a,xs,rfl,hx,q⟩:=h
 cases rx
 obtain ⟨its,r,ht,hz⟩:=I.list hx
 have hlen:=r.length
 refine ⟨"list",_,slot_list_getitem.lookup,ht.isList.typeIs,?_⟩
 refine wpAny_getItem_list_slice ht.isList hs pl pu .none (by simp) ?_ (by rw [List.size_toArray] <;> omega)
 rw [Xc,← hlen]
 refine ⟨.ref s.heap.objs.size,_,I.laid (t':=s.toks) (o:=.lst (cutV xs lo hi)) (fun b ob q=>Heap.get?_push_of_some _ q) (Nat.le_refl _) ?_,rfl,q _ (I.hok.fresh (Nat.le_refl _))⟩
 exact ⟨Nat.le_trans (aeb xs lo hi) hz,_,0,(r.drop (HT.sIx xs.length 0 lo)).take (HT.sIx xs.length xs.length hi - HT.sIx xs.length 0 lo),Heap.get?_push_size _ rfl⟩
def zz:V→Bool
 | .non=>true
 | .bl _=>true
 | .int _=>true
 | .str _=>true
 | _=>false
def eqV:V→V→Bool
 | .non,.non=>true
 | .bl a,.bl b=>a == b
 | .bl a,.int b=>(if a then 1 else 0) == b
 | .int a,.bl b=>a == (if b then 1 else 0)
 | .int a,.int b=>a == b
 | .str a,.str b=>a == b
 | _,_=>false
theorem eqAt_V {A:Around} {s:Shared} {y x:V} {u v:Value} (ry:RelV y u) (rx:RelV x v) (fy:zz y = true) (fx:zz x = true):SeqAt.EqAt A s u v (eqV y x):=by
 cases y with
 | non =>
   cases ry
   cases x with
   | non=>cases rx; exact SeqAt.EqAt.same _
   | bl b=>cases rx; exact SeqAt.EqAt.none_bool b
   | int b=>obtain ⟨t,rfl⟩:=rx; exact SeqAt.EqAt.none_int b t
   | str b=>obtain ⟨t,rfl⟩:=rx; exact SeqAt.EqAt.none_str b t
   | _=>exact absurd (show false = true from fx) Bool.false_ne_true
 | bl a =>
   cases ry
   cases x with
   | non=>cases rx; exact SeqAt.EqAt.bool_none a
   | bl b=>cases rx; exact SeqAt.EqAt.bool_bool a b
   | int b=>obtain ⟨t,rfl⟩:=rx; exact SeqAt.EqAt.bool_int a b t
   | str b=>obtain ⟨t,rfl⟩:=rx; exact SeqAt.EqAt.bool_str a b t
   | _=>exact absurd (show false = true from fx) Bool.false_ne_true
 | int a =>
   obtain ⟨t',rfl⟩:=ry
   cases x with
   | non=>cases rx; exact SeqAt.EqAt.int_none a t'
   | bl b=>cases rx; exact SeqAt.EqAt.int_bool a t' b
   | int b=>obtain ⟨t,rfl⟩:=rx; exact SeqAt.EqAt.int_int a t' b t
   | str b=>obtain ⟨t,rfl⟩:=rx; exact SeqAt.EqAt.int_str a t' b t
   | _=>exact absurd (show false = true from fx) Bool.false_ne_true
 | str a =>
   obtain ⟨t',rfl⟩:=ry
   cases x with
   | non=>cases rx; exact SeqAt.EqAt.str_none a t'
   | bl b=>cases rx; exact SeqAt.EqAt.str_bool a t' b
   | int b=>obtain ⟨t,rfl⟩:=rx; exact SeqAt.EqAt.str_int a t' b t
   | str b=>obtain ⟨t,rfl⟩:=rx; exact SeqAt.EqAt.str_str a t' b t
   | _=>exact absurd (show false = true from fx) Bool.false_ne_true
 | _=>exact absurd (show false = true from fy) Bool.false_ne_true
def eqU (x:V) (u:Value):Bool:=match u with
 | .none=>eqV .non x
 | .bool b=>eqV (.bl b) x
 | .int i _=>eqV (.int i) x
 | .str z _=>eqV (.str z) x
 | _=>false
theorem eqU_of {x y:V} {u:Value} (r:RelV y u) (f:zz y = true):eqU x u = eqV y x:=by
 cases y with
 | non=>cases r; rfl
 | bl b=>cases r; rfl
 | int i=>obtain ⟨t,rfl⟩:=r; rfl
 | str z=>obtain ⟨t,rfl⟩:=r; rfl
 | _=>exact absurd (show false = true from f) Bool.false_ne_true
theorem HR {x:V}:∀ {xs:List V} {us:List Value},Vals xs us→xs.all zz = true→us.any (eqU x) = xs.any fun y=>eqV y x
 | _,_,.nil,_=>rfl
 | y :: xs,u :: us,.cons r t,f=>by
   rw [List.all_cons,Bool.and_eq_true] at f
   rw [List.any_cons,List.any_cons,eqU_of r f.1,HR t f.2]
theorem Cr {A:Around} {s:Shared} {x:V} {v:Value} (rx:RelV x v) (fx:zz x = true):∀ {xs:List V} {us:List Value},Vals xs us→xs.all zz = true→∀ u ∈ us,SeqAt.EqAt A s u v (eqU x u)
 | _,_,.nil,_=>fun u hu=>by cases hu
 | y :: xs,u :: us,.cons r t,f=>fun u' hu=>by
   rw [List.all_cons,Bool.and_eq_true] at f
   rcases List.mem_cons.mp hu with rfl | hu
   · rw [eqU_of r f.1]; exact eqAt_V r rx f.1 fx
   · exact Cr rx fx t f.2 u' hu
def inV (x:V) (xs:List V):Bool:=xs.any fun y=>eqV y x
def rIn (K:PySem.W.Frag) (neg:Bool):R2:=fun x y H Q=>∃ p xs,y = .ref p∧(SqL K H p xs ∨ SqT K H p xs)∧zz x = true∧xs.all zz = true∧Q (.bl (if neg then !inV x xs else inV x xs)) H
theorem ai9:OpR X (compareOp .In) (rIn X.K false):=by
 intro pins s σ H x y v u Q I rx ry h
 obtain ⟨p,xs,rfl,hq,fx,fs,q⟩:=h
 cases ry
 rcases hq with hq | hq
 · obtain ⟨its,r,pl,hz⟩:=I.list hq
   refine SeqAt.in_listAt (eqU x) pl.isList (fun w hw=>Cr rx fx r fs w (by simpa using hw)) ⟨.bl _,H,I,rfl,?_⟩
   rw [show its.toArray.any (eqU x) = its.any (eqU x) by simp,HR r fs]
   exact q
 · obtain ⟨its,r,pl,hz⟩:=I.tuple hq
   refine SeqAt.in_tupleAt (eqU x) pl (fun w hw=>Cr rx fx r fs w (by simpa using hw)) ⟨.bl _,H,I,rfl,?_⟩
   rw [show its.toArray.any (eqU x) = its.any (eqU x) by simp,HR r fs]
   exact q
theorem ab5:OpR X (compareOp .NotIn) (rIn X.K true):=by
 intro pins s σ H x y v u Q I rx ry h
 obtain ⟨p,xs,rfl,hq,fx,fs,q⟩:=h
 cases ry
 rcases hq with hq | hq
 · obtain ⟨its,r,pl,hz⟩:=I.list hq
   refine SeqAt.notIn_listAt (eqU x) pl.isList (fun w hw=>Cr rx fx r fs w (by simpa using hw)) ⟨.bl _,H,I,rfl,?_⟩
   rw [show its.toArray.any (eqU x) = its.any (eqU x) by simp,HR r fs]
   exact q
 · obtain ⟨its,r,pl,hz⟩:=I.tuple hq
   refine SeqAt.notIn_tupleAt (eqU x) pl (fun w hw=>Cr rx fx r fs w (by simpa using hw)) ⟨.bl _,H,I,rfl,?_⟩
   rw [show its.toArray.any (eqU x) = its.any (eqU x) by simp,HR r fs]
   exact q
theorem Zq:rK X (.builtin "len") (fun xs H Q=>∃ p ys,xs = [.ref p]∧(SqL X.K H p ys ∨ SqT X.K H p ys)∧Q (.int ys.length) H):=by
 intro pins s σ H xs us Q I r h
 obtain ⟨p,ys,rfl,hq,q⟩:=h
 obtain ⟨u,rfl,rx⟩:=vals1 r
 cases rx
 have hn:=Gy
 rcases hq with hq | hq
 · obtain ⟨its,r',pl,hz⟩:=I.list hq
   have hlen:=r'.length
   exact Calls.call_len_list pl.isList (by simp only [List.size_toArray] <;> omega) ⟨.int ys.length,H,I.tok _,⟨s.toks + 1,by rw [List.size_toArray,hlen]⟩,q⟩
 · obtain ⟨its,r',pl,hz⟩:=I.tuple hq
   have hlen:=r'.length
   exact len_tuple pl (by simp only [List.size_toArray] <;> omega) ⟨.int ys.length,H,I.tok _,⟨s.toks + 1,by rw [List.size_toArray,hlen]⟩,q⟩
theorem Zr:rK X (.builtin "len") (fun xs H Q=>∃ z,xs = [.str z]∧z.length ≤ sizeLine∧Q (.int z.length) H):=by
 intro pins s σ H xs us Q I r h
 obtain ⟨z,rfl,hz,q⟩:=h
 obtain ⟨u,rfl,t,rfl⟩:=vals1 r
 have hn:=Gy
 exact len_str (by omega) ⟨.int z.length,H,I.tok _,⟨_,rfl⟩,q⟩
theorem rK.or {f:Value} {r r':List V→Hp→VK→Prop} (h:rK X f r) (h':rK X f r'):rK X f (fun xs H Q=>r xs H Q ∨ r' xs H Q):=by
 intro pins s σ H xs us Q I rs q
 rcases q with q | q
 · exact h pins s σ H xs us Q I rs q
 · exact h' pins s σ H xs us Q I rs q
theorem Zt:rK X (.type "list") (fun xs H Q=>∃ p ys,xs = [.ref p]∧(SqL X.K H p ys ∨ SqT X.K H p ys)∧∀ l,H l = none→Q (.ref l) (upd H l (.lst ys))):=by
 intro pins s σ H xs us Q I r h
 obtain ⟨p,ys,rfl,hq,q⟩:=h
 obtain ⟨u,rfl,rx⟩:=vals1 r
 cases rx
 have fin:∀ (its:List Value),Vals ys its→ys.length ≤ sizeLine→∀ (h':Heap) (c':Nat),(∀ b o',s.heap.get? b = some o'→h'.get? b = some o') →
     h'.get? s.heap.objs.size = some { cls:=.type "list",dict:=none,data:=.seq its.toArray c',slots:=#[] }→EP X pins σ Q (.ref s.heap.objs.size) { s with heap:=h' }:=fun its r' hz h' c' kp e =>
   ⟨.ref s.heap.objs.size,_,I.laid (t':=s.toks) kp (Nat.le_refl _) (show c7 X.prog X.w _ h' _ (.lst ys) from ⟨hz,its,c',r',e⟩),rfl,q _ (I.hok.fresh (Nat.le_refl _))⟩
 rcases hq with hq | hq
 · obtain ⟨its,r',pl,hz⟩:=I.list hq
   have hlen:=r'.length
   obtain ⟨o,ho,hc,n,hd⟩:=pl.isList
   exact call_list_seq p (.inl rfl) ho hc hd (fun h' c' kp e=>fin its r' hz h' c' kp e) (by simp only [List.size_toArray] <;> omega)
 · obtain ⟨its,r',pl,hz⟩:=I.tuple hq
   have hlen:=r'.length
   obtain ⟨o,ho,hc,n,hd⟩:=pl
   exact call_list_seq p (.inr rfl) ho hc hd (fun h' c' kp e=>fin its r' hz h' c' kp e) (by simp only [List.size_toArray] <;> omega)
theorem UT:rK X (.type "tuple") (fun xs H Q=>∃ p ys,xs = [.ref p]∧((SqL X.K H p ys∧∀ l,H l = none→Q (.ref l) (upd H l (.tup ys))) ∨ (SqT X.K H p ys∧Q (.ref p) H))):=by
 intro pins s σ H xs us Q I r h
 obtain ⟨p,ys,rfl,h⟩:=h
 obtain ⟨u,rfl,rx⟩:=vals1 r
 cases rx
 rcases h with ⟨hq,q⟩ | ⟨hq,q⟩
 · obtain ⟨its,r',pl,hz⟩:=I.list hq
   have hlen:=r'.length
   refine call_tuple_list pl.isList (fun h' kp=>?_) (by simp only [List.size_toArray] <;> omega)
   have I1:Inv X pins σ H { s with heap:=h' }:=I.kept (t':=s.toks) kp
   have I2:Inv X pins σ (upd H h'.objs.size (.tup ys)) { s with heap:=h'.push { cls:=.type "tuple",data:=.seq its.toArray } } :=
     I1.laid (t':=s.toks) (fun b o e=>Heap.get?_push_of_some _ e) (Nat.le_refl _) (show c7 X.prog X.w _ _ _ (.tup ys) from ⟨hz,its,r',IsTup.new _ _⟩)
   exact ⟨.ref h'.objs.size,_,I2,rfl,q _ (I1.hok.fresh (Nat.le_refl _))⟩
 · obtain ⟨its,r',pl,hz⟩:=I.tuple hq
   exact call_tuple_same pl ⟨.ref p,H,I,rfl,q⟩
def tyV (K:PySem.W.Frag) (T:String) (x:V) (H:Hp):Prop:=match x with
 | .str _=>T = "str"
 | .int _=>T = "int"
 | .ref p=>(T = "list"∧∃ xs,SqL K H p xs) ∨ (T = "tuple"∧∃ o,K.lookup p = some o∧o.cls = .type "tuple"∧o.dict = none) ∨
     (T = "dict"∧((∃ kvs,H p = some (.dK kvs)) ∨ ∃ kvs,H p = some (.dT kvs))) ∨ (T = "set"∧∃ S n,H p = some (.set S n))
 | _=>False
theorem tyV_is {pins:List (Addr × Obj)} {σ:St} {H:Hp} {s:Shared} {T:String} {x:V} {v:Value} (I:Inv X pins σ H s) (r:RelV x v) (ty:tyV X.K T x H) :
   s.TypeIs v T∧∀ a,v = .ref a→∃ ob,s.heap.get? a = some ob∧ob.dict = none:=by
 cases x with
 | str z =>
   obtain ⟨t,rfl⟩:=r
   cases (show T = "str" from ty)
   exact ⟨typeIs_str s z t,fun _ e=>nomatch e⟩
 | int i =>
   obtain ⟨t,rfl⟩:=r
   cases (show T = "int" from ty)
   exact ⟨typeIs_int s i t,fun _ e=>nomatch e⟩
 | ref p =>
   cases r
   rcases ty with ⟨rfl,xs,hq⟩ | ⟨rfl,o,hk,hc,hd⟩ | ⟨rfl,hk⟩ | ⟨rfl,S,n,hk⟩
   · obtain ⟨its,_,pl,_⟩:=I.list hq
     refine ⟨pl.isList.typeIs,fun a e=>?_⟩
     cases e
     obtain ⟨o,n,e,c,hd,_⟩:=pl
     exact ⟨o,e,hd⟩
   · refine ⟨⟨o,I.kIn p o hk,hc⟩,fun a e=>?_⟩
     cases e
     exact ⟨o,I.kIn _ o hk,hd⟩
   · have z:∃ o,s.heap.get? p = some o∧o.ExactDict:=by
       rcases hk with ⟨kvs,hk⟩ | ⟨kvs,hk⟩
       · obtain ⟨_,_,_,_,o,_,_,e,ex,_⟩:=I.hok p _ hk
         exact ⟨o,e,ex⟩
       · obtain ⟨_,_,_,_,o,_,_,e,ex,_⟩:=I.hok p _ hk
         exact ⟨o,e,ex⟩
     obtain ⟨o,e,ex⟩:=z
     refine ⟨⟨o,e,ex.1⟩,fun a e2=>?_⟩
     cases e2
     exact ⟨o,e,ex.2.1⟩
   · obtain ⟨o,_,_,_,e,ex,_⟩:=I.hok p _ hk
     refine ⟨⟨o,e,ex.1⟩,fun a e2=>?_⟩
     cases e2
     exact ⟨o,e,ex.2.1⟩
 | _=>exact False.elim ty
def tBM (K:PySem.W.Frag) (T:String) (r:V→List V→Hp→VK→Prop) (to:TE) (t:TA):TE:=fun σ H Q=>to σ H fun x H1=>tyV K T x H1∧t σ H1 fun xs H2=>r x xs H2 Q
variable {o e:Expr} {es:List Expr} {to:TE} {t:TA} {name:Str} {apos cpos:Pos} {T id:String} {r:V→List V→Hp→VK→Prop}
theorem Fj (pa:PlainAttrs T) (slot:Slot T name id) (hty:typeOf (.builtin id) = pure (.type "method_descriptor")) (hm:MtR X id r) (ho:PE X o to) (ha:PA X (e :: es) t)
   (hbase:attributeBase o name X.env (eval o X.env) = eval o X.env:=by rfl)
   (hfew:((backTo cpos (starEach (e :: es) X.env)).all (fun x=>!x.1) && (backToKw cpos (keywordEach [] X.env)).all (fun x=>x.1.isSome)
     && decide ((e :: es).length + ([]:List Keyword).length + (if ([]:List Keyword).isEmpty then 0 else 1) < 30)) = true:=by rfl)
   (hline:(apos.endLine == cpos.line) = true:=by rfl) (hs:starEach (e :: es) X.env = (false,eval e X.env) :: starEach es X.env:=by rfl) (hplain:(backTo cpos (starEach es X.env)).any (·.1) = false:=by rfl) :
   PE X (.Call (.Attribute o name apos) (e :: es) [] cpos) (tBM X.K T r to t):=by
 intro pins s σ H Q I h
 refine wpAny_Call_method_late hbase hfew hline rfl (thn (ho pins s σ H _ I h) fun v s1 ⟨x,H1,I1,r1,ty,q1⟩=>?_)
 obtain ⟨h1,h2⟩:=tyV_is I1 r1 ty
 refine ⟨T,id,pa,slot,hty,h1,h2,?_⟩
 have hA:=ha cpos pins s1 σ H1 _ I1 q1
 rw [hs] at hA ⊢
 refine Calls.callWith_builtin (by show (false || (backTo cpos (starEach es X.env)).any (·.1)) = false; rw [hplain] <;> rfl) (Calls.evalArgs_plain ?_)
 exact thn hA fun us s2 ⟨vs,H2,I2,r2,q2⟩=>hm pins s2 σ H2 x vs v us Q I2 r1 r2 q2
end
end L2
namespace L2
open PySem PySem.Spec PyProof.Rows
def MtM (X:Cx) (id:String) (r:V→List V→Hp→VK→Prop):Prop :=
 ∀ (pins:List (Addr × Obj)) (s:Shared) (σ:St) (H:Hp) (x:V) (xs:List V) (v:Value) (us:List Value) (Q:VK),Inv X pins σ H s→RelV x v→Vals xs us→r x xs H Q →
   wpAny (model X.prog X.w) X.A (call (.builtin id) (v :: us)) (EP X pins σ Q) X.xe s
theorem Vals.one:∀ {x:V} {us:List Value},Vals [x] us→∃ u,us = [u]∧RelV x u
 | _,_,.cons r .nil=>⟨_,rfl,r⟩
theorem Vals.zero:∀ {us:List Value},Vals [] us→us = []
 | _,.nil=>rfl
theorem Vals.reverse {xs:List V} {us:List Value} (h:Vals xs us):Vals xs.reverse us.reverse:=by
 induction h with
 | nil=>exact .nil
 | cons r t ih=>rw [List.reverse_cons,List.reverse_cons]; exact Vals.append ih (.cons r .nil)
theorem Vals.rep {xs:List V} {us:List Value} (h:Vals xs us):∀ k:Nat,Vals (List.replicate k xs).flatten (List.replicate k us).flatten
 | 0=>.nil
 | k + 1=>by
   rw [List.replicate_succ,List.replicate_succ,List.flatten_cons,List.flatten_cons]
   exact Vals.append h (Vals.rep h k)
theorem foldl_rep (its:List Value):∀ (k:Nat) (acc:List Value),
   List.foldl (fun x1 x2=>x1 ++ x2) acc.toArray (List.replicate k its.toArray) = (acc ++ (List.replicate k its).flatten).toArray
 | 0,acc=>by simp
 | k + 1,acc=>by
   have e:acc.toArray ++ its.toArray = (acc ++ its).toArray:=by simp
   have e2:(acc ++ its) ++ (List.replicate k its).flatten = acc ++ (List.replicate (k + 1) its).flatten:=by
     rw [List.replicate_succ,List.flatten_cons,List.append_assoc]
   rw [← e2,← foldl_rep its k (acc ++ its),← e,List.replicate_succ,List.foldl_cons]
section
variable {X:Cx} {pins:List (Addr × Obj)} {σ:St} {H:Hp} {s:Shared} {l b:Addr} {xs ys zs:List V}
theorem Inv.lset {its its':List Value} {n:Nat} {f:Array Value→Array Value} {t':Nat} (I:Inv X pins σ H s) (hH:H l = some (.lst xs))
   (e:s.heap.get? l = some { cls:=.type "list",data:=.seq its.toArray n }) (hf:f its.toArray = its'.toArray) (hv:Vals ys its') (hz:ys.length ≤ sizeLine) :
   Inv X pins σ (upd H l (.lst ys)) { s with heap:=s.heap.update l (Obj.mapSeq f),toks:=t' }:=by
 have q:=PySem.IsL.update e f
 rw [hf] at q
 refine I.write (x:=l) (e:=l) (by rw [hH]; exact trivial) (.inl rfl) (fun b' u hb hu=>(Heap.get?_update_other s.heap (Obj.mapSeq f) (Ne.symm hb)).trans hu) ⟨_,q⟩ ?_
 exact ⟨hz,its',_,hv,q⟩
theorem Inv.lnew {its:List Value} {t':Nat} (I:Inv X pins σ H s) (hv:Vals ys its) (hz:ys.length ≤ sizeLine) :
   Inv X pins σ (upd H s.heap.objs.size (.lst ys)) { s with heap:=s.heap.push { cls:=.type "list",data:=.seq its.toArray },toks:=t' } :=
 I.laid (fun _ _ q=>Heap.get?_push_of_some _ q) (Nat.le_refl _) ⟨hz,its,0,hv,Heap.get?_push_size _ rfl⟩
theorem Inv.fresh (I:Inv X pins σ H s):H s.heap.objs.size = none:=I.hok.fresh (Nat.le_refl _)
theorem Inv.lstM (I:Inv X pins σ H s) (hH:H l = some (.lst xs)):xs.length ≤ sizeLine∧∃ (its:List Value) (n:Nat),Vals xs its∧xs.length = its.length∧s.heap.get? l = some { cls:=.type "list",data:=.seq its.toArray n }:=by
 obtain ⟨z,its,n,r,e⟩:=I.hok l _ hH
 exact ⟨z,its,n,r,r.length,e⟩
theorem notLongL {n:Nat} (h:n ≤ sizeLine):Builtin.List.listTooLong n = false:=by
 unfold Builtin.List.listTooLong
 exact decide_eq_false (by omega)
end
section
variable {X:Cx}
def Qc:V→List V→Hp→VK→Prop:=fun x vs H Q=>∃ l xs y,x = .ref l∧vs = [y]∧H l = some (.lst xs)∧xs.length < sizeLine∧Q .non (upd H l (.lst (xs ++ [y])))
theorem jA:MtM X "list.append" Qc:=by
 intro pins s σ H x vs v us Q I rx rv h
 obtain ⟨l,xs,y,rfl,rfl,hH,hz,q⟩:=h
 cases rx
 obtain ⟨u,rfl,ru⟩:=rv.one
 obtain ⟨z,its,n,r,hl,e⟩:=I.lstM hH
 refine call_meets F.slot_list_append ⟨_,e,rfl⟩ F.entry_list_append (F.args_list_append_2 _ _) (PySem.list_append l its.toArray n u (by rw [List.size_toArray]; omega)) ⟨e,?_⟩
 refine ⟨.non,_,I.lset (its':=its ++ [u]) hH e (by simp) (r.append (.cons ru .nil)) ?_,rfl,q⟩
 rw [List.length_append,List.length_singleton]
 omega
def rCat:R2:=fun x y H Q=>∃ l b xs zs,x = .ref l∧y = .ref b∧H l = some (.lst xs)∧H b = some (.lst zs)∧xs.length + zs.length ≤ sizeLine∧∀ p,H p = none→Q (.ref p) (upd H p (.lst (xs ++ zs)))
theorem op_cat:OpR X (binaryOp .Add) rCat:=by
 intro pins s σ H x y v u Q I rx ry h
 obtain ⟨l,b,xs,zs,rfl,rfl,hH,hB,hz,q⟩:=h
 cases rx
 cases ry
 obtain ⟨z,its,n,r,hl,e⟩:=I.lstM hH
 obtain ⟨z2,its2,n2,r2,hl2,e2⟩:=I.lstM hB
 refine PySem.P.add_list e e2 ?_ (by rw [List.size_toArray,List.size_toArray]; omega)
 have ea:its.toArray ++ its2.toArray = (its ++ its2).toArray:=by simp
 rw [ea]
 exact ⟨.ref _,_,I.lnew (t':=s.toks) (r.append r2) (by rw [List.length_append]; omega),rfl,q _ I.fresh⟩
def rRep:R2:=fun x y H Q=>∃ l k xs,x = .ref l∧y = .int k∧H l = some (.lst xs)∧-(2 ^ 63) ≤ k∧k < 2 ^ 63∧xs.length * k.toNat ≤ sizeLine ∧
 ∀ p,H p = none→Q (.ref p) (upd H p (.lst (List.replicate k.toNat xs).flatten))
theorem len_rep {α:Type} (xs:List α) (k:Nat):(List.replicate k xs).flatten.length = k * xs.length:=by
 induction k with
 | zero=>simp
 | succ k ih=>rw [List.replicate_succ,List.flatten_cons,List.length_append,ih,Nat.succ_mul,Nat.add_comm]
theorem op_rep:OpR X (binaryOp .Mult) rRep:=by
 intro pins s σ H x y v u Q I rx ry h
 obtain ⟨l,k,xs,rfl,rfl,hH,h1,h2,hz,q⟩:=h
 cases rx
 obtain ⟨t,rfl⟩:=ry
 obtain ⟨z,its,n,r,hl,e⟩:=I.lstM hH
 have hlen:its.toArray.size * k.toNat ≤ sizeLine:=by rw [List.size_toArray,← hl]; exact hz
 have hcap:¬ its.toArray.size * k.toNat > (2 ^ 63 - 1) / 8:=by
   have:(sizeLine:Nat) ≤ (2 ^ 63 - 1) / 8:=by decide
   omega
 have hfit:¬ (!Builtin.List.listFitsIndex k) = true:=by
   rw [fitsIndex_both h1 h2]
   exact Bool.false_ne_true
 have hlong:¬ Builtin.List.listTooLong (its.toArray.size * k.toNat) = true:=by
   rw [notLongL hlen]
   exact Bool.false_ne_true
 have hnew:List.foldl (fun x1 x2=>x1 ++ x2) #[] (List.replicate (if its.toArray.isEmpty = true then 0 else k.toNat) its.toArray) = (List.replicate k.toNat its).flatten.toArray:=by
   have f0:∀ m:Nat,List.foldl (fun x1 x2=>x1 ++ x2) #[] (List.replicate m its.toArray) = (List.replicate m its).flatten.toArray:=fun m=>by
     have:=foldl_rep its m []
     rw [List.nil_append] at this
     exact this
   rw [f0]
   cases its with
   | nil=>simp
   | cons a r'=>rw [if_neg (by simp)]
 refine wpAny_binaryOp_repeat_ref (T:="list") (U:="int") (by decide) ⟨_,e,rfl⟩ (fun s'=>typeIs_int s' k t) noFill_list_mul F.fills_int_mul F.slot_int_rmul repeat_list F.slot_int_index.lookup
   (call_meets F.slot_int_rmul (typeIs_int s k t) F.entry_int_rmul (F.args_int_rmul_2 _ _) (int___rmul___int_list k t l its.toArray n)
     ⟨e,rfl,⟨_,e,rfl⟩,call_meets F.slot_list_mul ⟨_,e,rfl⟩ F.entry_list_mul (F.args_list_mul_2 _ _) (AutoListH.list___mul___list_int_3 l its.toArray n k t hfit hcap hlong) ⟨e,?_⟩⟩)
 rw [hnew]
 exact ⟨.ref _,_,I.lnew (t':=s.toks) (r.rep k.toNat) (by rw [len_rep,Nat.mul_comm]; exact hz),rfl,q _ I.fresh⟩
end
section
variable {prog:Program} {w:World} {A:Around} {E:Value→Shared→Prop} {s:Shared}
end
section
variable {X:Cx}
end
end L2
namespace Att
open PySem PySem.W PySem.Calls PyProof.Rows
theorem Oa {P:Params} {h:Heap}:∀ (ns:List Int) (vs:List Value),WellAll P h vs (ns.map WData.int)→IntsAre vs ns:=by
 intro ns
 induction ns with
 | nil =>
   intro vs w
   rw [List.map_nil] at w
   cases w
   exact .nil
 | cons n ns ih =>
   intro vs w
   rw [List.map_cons] at w
   cases w with
   | cons a b =>
     cases a
     exact .cons _ _ (ih _ b)
theorem aji {l:OpenLaw} {n:Nat} (hn:l.most = some n) {P:Params} {h:Heap} {args:List WData} {vals:List Value}
   (hpre:l.row.toRowW.claim.pre args = true) (hwl:WellAll P h vals args) :
   ∃ a vs ns,vals = [Value.ref a]∧args = [WData.list (ns.map WData.int)]∧h.get? a = some { cls:=.type "list",data:=.seq vs.toArray }∧IntsAre vs ns∧ns.length ≤ n:=by
 have hsh:WShape.hasAll [] args [.list .int] = true:=(pre_splitW hpre).1
 have hc:l.pre.holds [] { args:=args } = true:=(pre_splitW hpre).2
 obtain ⟨d,r,rfl,h1,h2⟩:=hasAllW_cons hsh
 obtain rfl:=hasAllW_nil h2
 obtain ⟨xs,rfl,h3⟩:=hasW_list h1
 obtain ⟨ns,rfl⟩:=items_int h3
 have hlen:ns.length ≤ n:=by
   unfold OpenLaw.pre at hc
   have h4:(WTm.not (.lt (.lit (.int (n:Int))) (.len (.arg 0)))).holds [] { args:=[.list (ns.map .int)] } = true:=by
     have h4:=(holds_andW hc).1
     rw [hn] at h4
     exact h4
   have h5:=condW_of h4 (w_not (w_lt w_lit (w_len_list (w_arg rfl))))
   rw [List.length_map] at h5
   refine Nat.le_of_not_lt fun q=>?_
   have q':(n:Int) < ((ns.length:Nat):Int):=by omega
   first
     | (rw [decide_eq_true q'] at h5; exact absurd h5 (by decide))
     | (simp at h5; omega)
 cases hwl with
 | cons w1 w2 =>
   cases w2
   cases w1 with
   | list ho hall=>exact ⟨_,_,ns,rfl,rfl,ho,Oa ns _ hall,hlen⟩
theorem ajd (l:OpenLaw) (args:List WData):l.row.toRowW.claim.post args (.bool true) args = true :=
 postW_of (r:=l.row.toRowW) (X:=(true == true))
   (show WShape.has [] (.bool true) .bool = true by first | rfl | decide | simp [WShape.has,WShape.arms,WShape.armsAll])
   (show (WTm.eq .res (.lit (.bool true))).value [] { args:=args,res:=some (.bool true),after:=args } = some (.bool (true == true)) from w_eq_bool (w_res rfl) w_lit) rfl
theorem adU {l:OpenLaw} {n:Nat} {q:Program} {loose:List Str} {XP:(Str→Option Value)→Heap→Prop} {YP:World→Heap→Prop} {d:DefRec}
   (hn:l.most = some n) (hdf:d.params.defaults = [])
   (call:∀ (w:World) (s₀ s₁:Shared) (mg mb:Str→Option Value) (fa:Addr) (o:Obj) (pm cd doc:Value) (a:Addr) (vs:List Value) (ns:List Int),
     Ground q loose [] XP w s₀ mg mb s₁.heap→YP w s₁.heap →
     s₁.heap.get? fa = some o→o.data = .func (docDef d.name d.params d.body d.scope pm cd doc)→s₁.heap.CodeRec cd d.name→mg d.name = some (.ref fa) →
     s₁.heap.get? a = some { cls:=.type "list",data:=.seq vs.toArray }→IntsAre vs ns→ns.length ≤ n→s₁.gens = #[] →
     codeAny (model l.prog w) callerA (.call (.ref fa) ⟨[.ref a],[]⟩) (fun r s'=>r = .ok (.ret (.bool true))∧OldK s₁.heap s'.heap∧s'.os = s₁.os∧AllBare s'.gens) s₁) :
   WalkO q loose XP YP l.row.toRowW d [] (fun f vs=>PySem.call f vs):=by
 intro w s₀ s₁ mg mb G Y fa o pm cd doc dV kV ho hd hcd hD hmg hg args vals as hpre hlay hrd hwl hlo
 obtain rfl:dV = .none:=Dflts.none hD hdf
 obtain rfl:kV = .none:=Dflts.noKw hD
 obtain ⟨a,vs,ns,rfl,rfl,hobj,hints,hlen⟩:=aji hn hpre hwl
 refine enter_call (codeAny_mono (call w s₀ s₁ mg mb fa o pm cd doc a vs ns G Y ho (fd_plain hd) hcd hmg hobj hints hlen hg) fun r s' hq=>?_)
 obtain ⟨rfl,h2,h3,h4⟩:=hq
 exact ⟨.inl ⟨.bool true,.bool true,[],rfl,fun _=>rfl,.bool true,ajd l _,fun _=>⟨List.Pairwise.nil,fun _ hm=>(nomatch hm)⟩⟩,h2,h3,h4⟩
section
variable {prog:Program} {w:World} {A:Around} {E:Value→Shared→Prop} {s:Shared} {K:Frag}
end
end Att
namespace L2
open PySem PySem.Spec PyProof.Rows
theorem Yv:∀ {vs:List Value} {ns:List Int},IntsAre vs ns→Vals (ns.map V.int) vs
 | _,_,.nil=>.nil
 | _,_,.cons n t h=>.cons ⟨t,rfl⟩ (Yv h)
def Only (H:Hp):Prop:=∀ b,H b = none ∨ ∃ o xs,H b = some (.frz o (.lst xs))
theorem law_call {P:Program} {w:World} {K:PySem.W.Frag} {mg mb:Str→Option Value} {CX:CXT} {k:Nat} {fa a:Addr} {fd:FuncData} {x:Str} {sp:Sp} {s₁:Shared} {vs:List Value} {ns:List Int}
   (KX:K.In s₁.heap) (hns:s₁.heap.Ns mainGlobals mg) (hb:s₁.heap.Ns builtinsNs mb) (hbb:∀ x:Str,x ≠ "__name__"→mb x = bootBuiltins x) (hlim:s₁.heap.NoLimit) (hg:s₁.gens = #[])
   (ha:s₁.heap.get? a = some { cls:=.type "list",data:=.seq vs.toArray }) (hi:IntsAre vs ns) (hl:ns.length ≤ sizeLine) (hr:gM k callerA)
   (F:∀ base:Heap,K.In base→base.Ns mainGlobals mg→bf P w K mg base CX k fa fd [x] sp) (hbind:∀ (s:Shared) (u:Value),BindsTo s fd ⟨[u],[]⟩ [(x,u)])
   (hsp:∀ H:Hp,Only H→SqL K H a (ns.map V.int)→sp [.ref a] H (fun v _=>v = .bl true) fun _ _ _=>False)
   (hCX:∀ H e s',CX [] H s₁ (fun _ _ _=>False) e s'→False) :
   codeAny (model P w) callerA (.call (.ref fa) ⟨[.ref a],[]⟩) (fun r s'=>r = .ok (.ret (.bool true))∧OldK s₁.heap s'.heap∧s'.os = s₁.os∧AllBare s'.gens) s₁:=by
 have rv:=Yv hi
 have lenV:=hi.length
 have core:∀ H:Hp,Only H→SqL K H a (ns.map V.int)→HOk P w H s₁.heap→(∀ b,H b ≠ none→b = a)→(H a ≠ none→K.lookup a = none) →
     codeAny (model P w) callerA (.call (.ref fa) ⟨[.ref a],[]⟩) (fun r s'=>r = .ok (.ret (.bool true))∧OldK s₁.heap s'.heap∧s'.os = s₁.os∧AllBare s'.gens) s₁:=by
   intro H hO hS hok hA hK
   have base_of:∀ {b:Addr} {o:Obj},s₁.heap.get? b = some o→H b = none→(hidT s₁.heap H).get? b = some o:=fun e n=>hidT_get e n
   have noA:∀ {b:Addr} {o:Obj} {es:Array DictEntry} {ep:Nat},s₁.heap.get? b = some o→o.data = .dict es ep→H b = none:=fun {b o es ep} e d=>by
     cases q:H b with
     | none=>rfl
     | some u =>
       have e':b = a:=hA b (by rw [q]; simp)
       subst e'
       rw [ha] at e; cases e
       have d':Data.seq vs.toArray _ = Data.dict es ep:=d
       cases d'
   have nsK:∀ {b:Addr} {m:Str→Option Value},s₁.heap.Ns b m→(hidT s₁.heap H).Ns b m:=fun {b m} ⟨o,es,ep,e,d,r⟩=>⟨o,es,ep,base_of e (noA e d),d,r⟩
   have hKb:K.In (hidT s₁.heap H):=fun b o e=>base_of (KX b o e) (by
     cases q:H b with
     | none=>rfl
     | some u =>
       have e':b = a:=hA b (by rw [q]; simp)
       subst e'
       rw [hK (by rw [q]; simp)] at e; cases e)
   have hM:Mod K mg (hidT s₁.heap H):=⟨hKb,nsK hns,⟨mb,nsK hb,hbb⟩,let ⟨mc,h1,h2⟩:=hlim; ⟨mc,nsK h1,h2⟩⟩
   have e0:Env0 P w K mg (hidT s₁.heap H) callerA [] s₁ H:=⟨rfl,hM,fun b o e=>of_hidT e,Nat.le_of_eq (aiP _ _),trivial,fun b hb=>absurd (show b ∈ ([]:List Addr) from hb) (by simp),hok,.of_eq hg⟩
   refine codeAny_mono ((F _ hKb (nsK hns)).run callerA [] s₁ H ⟨[.ref a],[]⟩ [.ref a] [.ref a] _ _ hr e0 (hbind s₁ (.ref a)) (.cons rfl .nil) (hsp H hO hS)) fun r s' h=>?_
   cases r with
   | error e=>exact (hCX H e s' h).elim
   | ok fl =>
     cases fl with
     | next=>exact False.elim h
     | brk=>exact False.elim h
     | cont=>exact False.elim h
     | ret u =>
       obtain ⟨v,H',os,bare,un,hok',r',q⟩:=h
       have q':v = .bl true:=q
       subst q'
       obtain rfl:u = Value.bool true:=r'
       refine ⟨rfl,OldK.of_keep fun b o e=>?_,os,bare⟩
       cases q:H b with
       | none=>exact un.keep b o e q (by intro z; exact absurd (show b ∈ ([]:List Addr) from z) (by simp)) (by simp)
       | some u =>
         rcases hO b with z | ⟨ob,xs,z⟩
         · rw [q] at z; cases z
         · have z2:=un.DK b ob _ z
           obtain ⟨e1,_⟩:=hok b _ z
           obtain ⟨e2,_⟩:=hok' b _ z2
           rw [e] at e1; cases e1
           exact e2
 cases hk:K.lookup a with
 | some o =>
   have e:=KX a o hk
   rw [ha] at e
   cases e
   refine core (fun _=>none) (fun _=>.inl rfl) (.inr ⟨_,vs.toArray,_,hk,rfl,rfl,rfl,by rw [List.size_toArray,lenV]; exact hl,by simpa using rv⟩) (fun b u z=>by have z':(none:Option HO) = some u:=z; cases z') (fun b z=>absurd rfl z) fun z=>absurd rfl z
 | none =>
   refine core (fun b=>if b = a then some (.frz { cls:=.type "list",data:=.seq vs.toArray } (.lst (ns.map V.int))) else none) (fun b=>?_) (.inl (.inr ⟨{ cls:=.type "list",data:=.seq vs.toArray },if_pos rfl⟩)) (fun b u z=>?_) (fun b z=>?_) fun _=>hk
   · by_cases hb:b = a
     · exact .inr ⟨_,_,if_pos hb⟩
     · exact .inl (if_neg hb)
   · by_cases hb:b = a
     · have z':=(if_pos hb).symm.trans z
       cases z'
       subst hb
       exact ⟨ha,by rw [List.length_map]; exact hl,vs,_,rv,ha⟩
     · have z':=(if_neg hb).symm.trans z
       cases z'
   · by_cases hb:b = a
     · exact hb
     · exact absurd (if_neg hb) z
end L2
namespace L2
open PySem PySem.Spec PyProof.Rows
theorem walk_of {l:PySem.W.OpenLaw} {n k:Nat} {q:Program} {loose:List Str} {XP:(Str→Option Value)→Heap→Prop} {YP:World→Heap→Prop} {d:DefRec} {K:Params→PySem.W.Frag} {CX:World→CXT} {sp:World→Sp} {x:Str}
   (hn:l.most = some n) (hn2:n ≤ sizeLine) (hdf:d.params.defaults = []) (hr:gM k callerA)
   (hY:∀ (w:World) (h:Heap),YP w h→(K w.params).In h)
   (F:∀ (w:World) (mg:Str→Option Value) (fa:Addr) (h:Heap),(K w.params).In h→h.Ns mainGlobals mg→mg d.name = some (.ref fa) →
     ∃ fd:FuncData,(∀ (s:Shared) (u:Value),BindsTo s fd ⟨[u],[]⟩ [(x,u)]) ∧
       ∀ base:Heap,(K w.params).In base→base.Ns mainGlobals mg→bf l.prog w (K w.params) mg base (CX w) k fa fd [x] (sp w))
   (hsp:∀ (w:World) (H:Hp) (a:Addr) (ns:List Int),ns.length ≤ n→Only H→SqL (K w.params) H a (ns.map V.int)→sp w [.ref a] H (fun v _=>v = .bl true) fun _ _ _=>False)
   (hCX:∀ (w:World) (H:Hp) (s:Shared) (e:Value) (s':Shared),CX w [] H s (fun _ _ _=>False) e s'→False) :
   PySem.W.WalkO q loose XP YP l.row.toRowW d [] (fun f vs=>PySem.call f vs):=by
 refine Att.adU hn hdf fun w s₀ s₁ mg mb fa o pm cd doc a vs ns G Y ho hd hcd hmg hobj hints hlen hg=>?_
 have KX:=hY w _ Y
 obtain ⟨fd,hb,hF⟩:=F w mg fa _ KX G.T.g hmg
 exact law_call KX G.T.g G.T.b G.T.builtins G.T.nolimit hg hobj hints (Nat.le_trans hlen hn2) hr hF hb (fun H hO hS=>hsp w H a ns hlen hO hS) fun H e s'=>hCX w H s₁ e s'
end L2
namespace L2
open PySem PySem.Spec PyProof.Rows
def inClass (s:Stmt) (j:Nat):Stmt:=match s with
 | .ClassDef _ _ _ body _ _ _ _ _ _ _=>body.getD j (.Pass ⟨0,0,0,0⟩)
 | _=>.Pass ⟨0,0,0,0⟩
def aO (s:Stmt):Arguments:=match s with
 | .FunctionDef _ a _ _ _ _ _ _ _ _=>a
 | _=>{ posonlyargs:=[],args:=[],vararg:=none,kwonlyargs:=[],kw_defaults:=[],kwarg:=none,defaults:=[] }
def aL (s:Stmt):List Stmt:=match s with
 | .FunctionDef _ _ b _ _ _ _ _ _ _=>b
 | _=>[]
def ak (s:Stmt):Scope:=match s with
 | .FunctionDef _ _ _ _ _ _ sc _ _ _=>sc
 | _=>{ kind:=.function,names:=[],isGenerator:=false,isCoroutine:=false }
abbrev CX0:CXT:=fun _ _ _ _ _ _=>False
abbrev E0:XK:=fun _ _ _=>False
theorem pass0 {X:Cx}:jR CX0 X E0:=fun _ _ _ _ _ _ _ h=>h.elim
structure Fun (K:PySem.W.Frag) (x qual:Str) (st:Stmt) (f:Addr) (fd:FuncData):Prop where
 ex:∃ (oc:Value) (od:Option Addr) (kV doc pm:Value) (an:Option Addr) (cdv ct:Value) (osl:Array (Option Value)),
   fd = PySem.W.fnOf x qual (aO st) (aL st) (ak st) .none kV doc pm an cdv ct∧K.lookup f = some ⟨oc,od,.func fd,osl⟩∧PySem.W.codeIn K cdv qual = true
 kp:PySem.W.keepIn K (.ref f) = true
section
variable {P:Program} {w:World} {K:PySem.W.Frag} {mg:Str→Option Value} {base:Heap}
theorem Fun.ok {x qual:Str} {st:Stmt} {f:Addr} {fd:FuncData} {N ps:List Str} {k:Nat} {sp:Sp} (F:Fun K x qual st f fd) (S:aN N ps (ak st)) (len:∀ vs H Q E,sp vs H Q E→vs.length = ps.length)
   (hbody:∀ (cdv:Value) (A:Around) (outer:List Env) (s:Shared) (H:Hp) (vs:List V) (Q:VK) (E:XK),gM k (A.deeper (envOfC qual (ak st) s.heap.objs.size f cdv))→sp vs H Q E →
     ∃ t,PSs (Kh CX0 P w K mg base N qual (ak st) f cdv A outer s H E).nox (aL st) t∧t { nx:=fun _ H'=>Q .non H',rt:=Q } (start N vs) H):bf P w K mg base CX0 (k + 1) f fd ps sp:=by
 obtain ⟨oc,od,kV,doc,pm,an,cdv,ct,osl,rfl,lk,hcd⟩:=F.ex
 refine fn_of lk hcd S len fun A outer s H vs Q E hr hsp=>?_
 obtain ⟨t,h,q⟩:=hbody cdv A outer s H vs Q E hr hsp
 exact ⟨t,h.nox,q⟩
theorem Fun.binds {x qual:Str} {st:Stmt} {f:Addr} {fd:FuncData} {ps:List Str} (F:Fun K x qual st f fd)
   (h:∀ (kV doc pm:Value) (an:Option Addr) (cdv ct:Value) (us:List Value),us.length = ps.length→bindArgs (PySem.W.fnOf x qual (aO st) (aL st) (ak st) .none kV doc pm an cdv ct) ⟨us,[]⟩ = pure (ps.zip us)):Binds K fd ps []:=by
 obtain ⟨oc,od,kV,doc,pm,an,cdv,ct,osl,rfl,lk,hcd⟩:=F.ex
 exact .all (h kV doc pm an cdv ct)
theorem aX {x qual:Str} {st:Stmt} {f:Addr} {oc:Value} {od an:Option Addr} {osl:Array (Option Value)} {kV doc pm cdv ct:Value} (l:K.lookup f = some ⟨oc,od,.func (PySem.W.fnOf x qual (aO st) (aL st) (ak st) .none kV doc pm an cdv ct),osl⟩)
   (c:PySem.W.codeIn K cdv qual = true) (k:PySem.W.keepIn K (.ref f) = true):Fun K x qual st f (PySem.W.fnOf x qual (aO st) (aL st) (ak st) .none kV doc pm an cdv ct):=⟨⟨oc,od,kV,doc,pm,an,cdv,ct,osl,rfl,l,c⟩,k⟩
end
section
variable {X:Cx}
theorem pv (i:Nat) {x:Str} {pos:Pos} (hN:X.N[i]? = some x:=by rfl) (hv:Vis X.env.scope x:=by first | exact Or.inl rfl | exact Or.inr (Or.inl rfl) | exact Or.inr (Or.inr rfl)) (hd:(x == ("__debug__":Str)) = false:=by decide)
   (hcd:(x == ("__classdict__":Str)) = false:=by decide):PE X (.Name x pos) (CT i):=pe_var hN hv hd hcd
end
def bz (H H':Hp):Prop:=∀ b o,H b = some o→H' b = some o
theorem bz.refl (H:Hp):bz H H:=fun _ _ h=>h
theorem bz.trans {H H1 H2:Hp} (a:bz H H1) (b:bz H1 H2):bz H H2:=fun c o h=>b c o (a c o h)
theorem bz.free {H H':Hp} (e:bz H H') {l:Addr} (h:H' l = Option.none):H l = Option.none:=by
 cases q:H l with
 | none=>rfl
 | some o =>
   rw [e l o q] at h
   cases h
theorem bz.seq {K:PySem.W.Frag} {H H':Hp} {a:Addr} {xs:List V} (e:bz H H') (h:SqL K H a xs):SqL K H' a xs:=by
 rcases h with (h | ⟨o,h⟩) | h
 · exact .inl (.inl (e _ _ h))
 · exact .inl (.inr ⟨o,e _ _ h⟩)
 · exact .inr h
end L2
set_option maxHeartbeats 1000000
namespace MX
open PySem
section
variable {prog:Program} {w:World} {A:Around} {E:Value→Shared→Prop} {h:Heap} {g:Array GenState} {d:Drawn} {t:Nat} {os:OsState}
variable {nm q:Str} {C N:Addr} {bs bm bmB:List Value} {hdct:Bool} {sn:List Str} {sub:List Value} {ab:Bool} {col:Option Bool} {dd:Option Addr} {k0 k1 k2 k3 k5:Option Value} {B newId initId:String}
abbrev acD (C t:Addr):Obj:={ cls:=.ref C,data:=.fields #[.ref t,.none,.none,.none,.bool false,.none] }
abbrev acC (vs:List Value):Obj:={ cls:=.type "tuple",data:=.seq vs.toArray }
abbrev Dv (h:Heap) (C:Addr) (vs:List Value):Heap:=(h.push (acC vs)).push (acD C h.objs.size)
theorem adq (F:ExcBaseFacts B newId initId bmB) (T:OwnTail h bmB bm) {mN:Str→Option Value} {vs:List Value} {fI:Addr} {oI:Obj} {Q:Fin→Shared→Prop}
   (hC:h.get? C = some (excClassObj nm q C N bs bm hdct sn sub ab col dd k0 k1 k2 k3 k5 newId)) (hn:h.Ns N mN) (hi:mN "__init__" = some (.ref fI)) (hf:h.get? fI = some oI) (hfc:oI.cls = .type "function")
   (hz:vs.length ≤ sizeLine)
   (k:wpAny (model prog w) A (call (.ref fI) (.ref (h.objs.size + 1) :: vs)) (fun r s'=>r = .none∧Q (.done (.ret (.ref (h.objs.size + 1)))) s') E ⟨Dv h C vs,g,d,t,os⟩) :
   wpAny (model prog w) A (Builtin.«type.__call__» ⟨.ref C :: vs,[]⟩) Q E ⟨h,g,d,t,os⟩:=by
 repeat (first | with_reducible refine wpAny_loadPart_at hC ?_ | with_reducible refine wpAny_madeBy_exc hC ?_ | wp_step)
 refine codeAny_call_builtin_code (Code.quiet_builtin _ F.quiet) (wpAny_check_new_subT F T hC (codeAny_exc_new_subT F T hC ?_ hz))
 show wpAny _ _ _ _ _ _
 have up:∀ b o,h.get? b = some o→(Dv h C vs).get? b = some o:=fun b o e=>Heap.get?_push_of_some _ (Heap.get?_push_of_some _ e)
 have hC1:=up _ _ hC
 have hf1:=up _ _ hf
 have hx:(Dv h C vs).get? (h.objs.size + 1) = some (acD C h.objs.size):=by heap_get
 have own:(Value.ref C :: bm).contains (.ref C) = true:=by simp
 unfold isInstance
 repeat (first | with_reducible refine wpAny_loadPart_at hx ?_ | (with_reducible refine wpAny_isSubtype_exc hC1 ?_; rw [own]) | wp_step)
 show wpAny _ _ (typeLookup (.ref C) _) _ _ _
 refine wpAny_typeLookup_tail hC1 (hn.keeps up) (T.keeps up) F.mroIs F.init.lookup ?_
 rw [hi]
 refine wpAny_holding (wpAny_bind ?_)
 unfold bindSpecial
 refine wpAny_bind (wpAny_typeOf (T:="function") ⟨_,hf1,hfc⟩ ?_)
 rw [if_pos (by decide)]
 refine wpAny_pure (wpAny_bind (wpAny_mono k (fun r s' z=>?_) fun _ _ z=>z))
 obtain ⟨rfl,z⟩:=z
 wp_walk
 exact z
theorem callInit (F:ExcBaseFacts B newId initId bmB) (T:OwnTail h bmB bm) {mN:Str→Option Value} {vs:List Value} {fI:Addr} {oI:Obj} {Q:Value→Shared→Prop}
   (hC:h.get? C = some (excClassObj nm q C N bs bm hdct sn sub ab col dd k0 k1 k2 k3 k5 newId)) (hn:h.Ns N mN) (hi:mN "__init__" = some (.ref fI)) (hf:h.get? fI = some oI) (hfc:oI.cls = .type "function")
   (hz:vs.length ≤ sizeLine)
   (k:wpAny (model prog w) (A.under (.builtin "type.__call__" ⟨.ref C :: vs,[]⟩)) (call (.ref fI) (.ref (h.objs.size + 1) :: vs)) (fun r s'=>r = .none∧Q (.ref (h.objs.size + 1)) s') E ⟨Dv h C vs,g,d,t,os⟩) :
   wpAny (model prog w) A (call (.ref C) vs) Q E ⟨h,g,d,t,os⟩:=by
 have e1:=tc_lookup
 have e2:=tc_bind (.ref C)
 have ty:(⟨h,g,d,t,os⟩:Shared).TypeIs (.ref C) "type":=⟨_,hC,rfl⟩
 refine wpAny_call (codeAny_of_tree ?_)
 show wpAny _ _ (callAny (.ref C) _) _ _ _
 repeat (any_goals (first | assumption | with_reducible refine wpAny_loadPart_at hC ?_ | wp_step))
 exact ⟨rfl,codeAny_call_builtin_at (Code.quiet_builtin _ (by decide +kernel)) entry_typeCall (wpAny_check_type_call_sub hC (adq F T hC hn hi hf hfc hz k))⟩
theorem aiB (F:ExcBaseFacts B newId initId bmB) (T:OwnTail h bmB bm) {mN:Str→Option Value} {vs:List Value} {Q:Value→Shared→Prop}
   (hC:h.get? C = some (excClassObj nm q C N bs bm hdct sn sub ab col dd k0 k1 k2 k3 k5 newId)) (hn:h.Ns N mN) (hi:mN "__init__" = none) (hz:vs.length ≤ sizeLine)
   (k:∀ h' e,Heap.MadeExcOf h h' e (.ref C) vs→Q (.ref e) ⟨h',g,d,t,os⟩):wpAny (model prog w) A (call (.ref C) vs) Q E ⟨h,g,d,t,os⟩ :=
 wpAny_call_exc_subT (hrest:=hz) F T hC hn hi k
theorem agI (F:ExcBaseFacts B newId initId bmB) (T:OwnTail h bmB bm) {e:Addr} {oe:Obj} {fs:Array Value} {t0:Addr} {vs:List Value} {Q:Value→Shared→Prop}
   (hC:h.get? C = some (excClassObj nm q C N bs bm hdct sn sub ab col dd k0 k1 k2 k3 k5 newId)) (he:h.get? e = some oe) (hc:oe.cls = .ref C) (hd:oe.data = .fields fs) (h0:fs[0]? = some (.ref t0)) (hz:vs.length ≤ sizeLine)
   (k:∀ h',(∀ b o,b ≠ e→h.get? b = some o→h'.get? b = some o)→h'.get? e = some { oe with data:=.fields (fs.setIfInBounds 0 (.ref h.objs.size)) }→Q .none ⟨h',g,d,t,os⟩) :
   wpAny (model prog w) A (call (.builtin initId) (.ref e :: vs)) Q E ⟨h,g,d,t,os⟩:=by
 refine wpAny_call (codeAny_call_builtin F.init.plain F.initEntry (wpAny_check_init_subT F T hC he hc ?_))
 have he1:(h.push (acC vs)).get? e = some oe:=Heap.get?_push_of_some _ he
 have hlt:0 < fs.size:=(Array.getElem?_eq_some_iff.mp h0).1
 unfold Builtin.«BaseException.__init__»
 repeat (first | with_reducible refine wpAny_field he1 hd h0 ?_ | wp_step)
 rw [hd]
 dsimp only
 rw [if_pos hlt]
 refine wpAny_update' he1 (wpAny_letGo (wpAny_pure ?_))
 refine k _ (fun b o hb e1=>(Heap.get?_update_ne _ _ _ _ hb).trans (Heap.get?_push_of_some _ e1)) ?_
 obtain ⟨oc,od,oda,osl⟩:=oe
 dsimp only at hd
 subst hd
 exact Heap.get?_update_self _ he1 rfl
end
section
variable {prog:Program} {w:World} {A:Around} {E:Value→Shared→Prop} {h:Heap} {g:Array GenState} {d:Drawn} {t:Nat} {os:OsState} {x C:Addr} {ox:Obj} {cd:ClassData} {name:Str} {v:Value} {tk:Tok}
open Builtin Builtin.ObjectAttr
theorem ahC {b:Bool} {Q:Fin→Shared→Prop} (hx:h.get? x = some ox) (hc:ox.cls = .ref C) (hn:∀ c,ox.data ≠ .cls c) (hd:ox.dict = none)
   (hcd:∃ oC,h.get? C = some oC∧oC.data = .cls cd) (hh:cd.hasDict = true)
   (k:∀ h' tk',(∀ b o,b ≠ x→h.get? b = some o→h'.get? b = some o)→h'.get? x = some { ox with dict:=some h.objs.size }→h'.Ns1 h.objs.size (fun y=>if y = name then some v else none) →
     Q (.done (.ret .none)) ⟨h',g,d,tk',os⟩) :
   wpAny (model prog w) A (storeInOwnDict (.ref x) (.ref C) (.str name tk) name v b) Q E ⟨h,g,d,t,os⟩:=by
 obtain ⟨oC,hC,hCd⟩:=hcd
 unfold storeInOwnDict
 repeat (first | (with_reducible refine wpAny_loadPart_at hx ?_; rw [hc]) | with_reducible refine wpAny_loadPart_at hC ?_ | wp_step)
 rw [hCd]
 refine wpAny_pure ?_
 rw [hh,hd]
 rw [if_neg (by decide)]
 dsimp only
 rw [if_neg (by simp [typeHasDict])]
 split
 · rename_i c q
   exact absurd q (hn c)
 have hx1:(h.push { cls:=.type "dict",data:=.dict #[] }).get? x = some ox:=Heap.get?_push_of_some _ hx
 have ne:x ≠ h.objs.size:=Nat.ne_of_lt (Heap.lt_size hx)
 refine wpAny_bind (wpAny_alloc' (wpAny_bind (wpAny_update' hx1 (wpAny_pure ?_))))
 have hx2:((h.push { cls:=.type "dict",data:=.dict #[] }).update x fun o=>{ cls:=o.cls,dict:=some h.objs.size,data:=o.data,slots:=o.slots }).get? x = some { ox with dict:=some h.objs.size }:=by
   have fr:=(Heap.get?_some_iff.mp hx).2
   obtain ⟨oc,od,oda,osl⟩:=ox
   refine Heap.get?_update_self _ hx1 ?_
   cases oda <;> first | rfl | exact fr
 have hD:((h.push { cls:=.type "dict",data:=.dict #[] }).update x fun o=>{ cls:=o.cls,dict:=some h.objs.size,data:=o.data,slots:=o.slots }).get? h.objs.size = some { cls:=.type "dict",data:=.dict #[] } :=
   (Heap.get?_update_ne _ _ _ _ ne.symm).trans (Heap.get?_push_at rfl rfl)
 have hN:((h.push { cls:=.type "dict",data:=.dict #[] }).update x fun o=>{ cls:=o.cls,dict:=some h.objs.size,data:=o.data,slots:=o.slots }).Ns h.objs.size (fun _=>none) :=
   ⟨_,#[],_,hD,rfl,fun e z=>absurd z (by simp),fun _=>rfl⟩
 show wpAny _ _ (storeInDict h.objs.size (.str name tk) name v) _ _ _
 unfold storeInDict newKeyGuard
 refine wpAny_bind (wpAny_pure (wpAny_bind (wpAny_nsSet1 (Heap.Ns1.of_empty hN) fun h' n' sb=>?_)))
 obtain ⟨oD,esD,epD,hoD,hdD,hcD⟩:=n'.count (Within.cons name v Within.nil)
 refine wpAny_bind (wpAny_lookBehind hoD (by rw [hdD]; exact pastItsLine_dict (Nat.le_trans hcD (by rw [List.length_cons,List.length_nil,sizeLine_eq]; omega))) (wpAny_pure ?_))
 exact k h' _ (fun b o hb e=>(sb.2 b (Nat.ne_of_lt (Heap.lt_size e))).trans ((Heap.get?_update_ne _ _ _ _ hb).trans (Heap.get?_push_of_some _ e))) ((sb.2 x ne).trans hx2) n'
theorem ajm {b:Bool} {Q:Fin→Shared→Prop} {dx:Addr} {mA:Str→Option Value} {ns:List Str} (hx:h.get? x = some ox) (hc:ox.cls = .ref C) (hd:ox.dict = some dx)
   (hcd:∃ oC,h.get? C = some oC∧oC.data = .cls cd) (hh:cd.hasDict = true) (hN:h.Ns1 dx mA) (hw:Within mA ns) (hz:ns.length < 1000)
   (k:∀ h' tk',Heap.SameBut dx h h'→h'.Ns1 dx (fun y=>if y = name then some v else mA y)→Q (.done (.ret .none)) ⟨h',g,d,tk',os⟩) :
   wpAny (model prog w) A (storeInOwnDict (.ref x) (.ref C) (.str name tk) name v b) Q E ⟨h,g,d,t,os⟩:=by
 obtain ⟨oC,hC,hCd⟩:=hcd
 unfold storeInOwnDict
 repeat (first | (with_reducible refine wpAny_loadPart_at hx ?_; rw [hc]) | with_reducible refine wpAny_loadPart_at hC ?_ | wp_step)
 rw [hCd]
 refine wpAny_pure ?_
 rw [hh,hd]
 rw [if_neg (by decide)]
 refine wpAny_pure ?_
 show wpAny _ _ (storeInDict dx (.str name tk) name v) _ _ _
 unfold storeInDict newKeyGuard
 refine wpAny_bind (wpAny_pure (wpAny_bind (wpAny_nsSet1 hN fun h' n' sb=>?_)))
 obtain ⟨oD,esD,epD,hoD,hdD,hcD⟩:=n'.count (Within.cons name v hw)
 refine wpAny_bind (wpAny_lookBehind hoD (by rw [hdD]; exact pastItsLine_dict (Nat.le_trans hcD (by rw [List.length_cons,sizeLine_eq]; omega))) (wpAny_pure ?_))
 exact k h' _ sb n'
end
end MX
namespace MX
open PySem PySem.W PySem.Calls PyProof.Rows Builtin Builtin.ObjectAttr
abbrev bmV:List Value:=[.type "ValueError",.type "Exception",.type "BaseException",.type "object"]
def onlyRefs:List Value→Bool
 | []=>true
 | .ref _ :: r=>onlyRefs r
 | _=>false
theorem Tq (self:Value):∀ {l:List Value},onlyRefs l = true→refuseLoop self "__setattr__" (l ++ bmV) = pure ()
 | [],_=>PySem.F.store_ValueError.passes self
 | .ref c :: r,e=>by
   rw [List.cons_append,refuseLoop_ref]
   exact Tq self e
 | .none :: _,e=>by cases e
 | .bool _ :: _,e=>by cases e
 | .int _ _ :: _,e=>by cases e
 | .str _ _ :: _,e=>by cases e
 | .type _ :: _,e=>by cases e
 | .builtin _ :: _,e=>by cases e
 | .float _ _ :: _,e=>by cases e
 | .bytes _ _ :: _,e=>by cases e
 | .notImplemented :: _,e=>by cases e
 | .ellipsis :: _,e=>by cases e
structure ExcGet (K:Frag) (C:Addr):Prop where
 ga:findIn K (.ref C) "__getattribute__" = some (some (.builtin "BaseException.__getattribute__"))
 gh:findIn K (.ref C) "__getattr__" = some none
 sa:findIn K (.ref C) "__setattr__" = some (some (.builtin "object.__setattr__"))
 sub:mroIn K C (.type "BaseException") = some true
 top:mroIn K C (.type "object") = some true
 cl:findIn K (.ref C) "__class__" = some (some (.builtin "object.__class__"))
 get:specialIn K (.builtin "object.__class__") "__get__" = some (some (.builtin "getset_descriptor.__get__"))
 tk:takesIn K (.builtin "object.__class__") = some true
 cls:∃ cd l,clsIn K C = some cd∧cd.hasDict = true∧cd.mro = l ++ bmV∧onlyRefs l = true
section
variable {prog:Program} {w:World} {A:Around} {E:Value→Shared→Prop} {s:Shared} {K:Frag} {x C:Addr} {ox:Obj} {od:Option Obj} {name:Str}
theorem excBy {fill expr:Bool} {tk:Tok} {Q:Value→Shared→Prop} {v:Value} (G:ExcGet K C) (X:K.In s.heap) (I:InstAt s.heap x ox C od) (hh:handedIn v = true)
   (hf:wpAny (model prog w) A.in1 (Builtin.«object.__getattribute__» ⟨[.ref x,.str name tk],[]⟩) (fun fin s'=>fin = .done (.ret v)∧Q v s') (fun _ _=>False) s) :
   wpAny (model prog w) A (getAttrBy (.ref x) (.str name tk) fill expr) Q E s:=by
 have L0:=I.type (M:=model prog w)
 have L1:=looks_findIn (M:=model prog w) X G.ga
 have L2:Looks (model prog w) s.heap (hookBefore (.ref C)) none:=looks_findIn (M:=model prog w) X G.gh
 have b:=PySem.F.attr_ValueError.ga.bind (.ref x)
 unfold getAttrBy
 refine wpAny_holding (wpAny_bind (L0.here (wpAny_bind (L1.here ?_))))
 have c1:(onTheHeap (Value.ref C) && Value.builtin "BaseException.__getattribute__" == Value.builtin "object.__getattribute__") = false:=by
   rw [show (Value.builtin "BaseException.__getattribute__" == Value.builtin "object.__getattribute__") = false by decide +kernel]
   simp
 show wpAny _ _ (if (onTheHeap (Value.ref C) && Value.builtin "BaseException.__getattribute__" == Value.builtin "object.__getattribute__") = true then _ else _) _ _ _
 rw [c1,if_neg Bool.false_ne_true]
 unfold getAttrByItsOwn
 refine wpAny_bind (L2.here (wpAny_bind (wpAny_attempt (wpAny_holding ?_))))
 have c2:callGetattribute (.ref x) (.str name tk) (.builtin "BaseException.__getattribute__") expr = boundAndCalled (.builtin "BaseException.__getattribute__") (.ref x) (.str name tk):=by cases expr <;> rfl
 rw [c2]
 unfold boundAndCalled
 rw [b]
 refine wpAny_bind (wpAny_pure ?_)
 have hk:builtinKind "BaseException.__getattribute__" = some .slot:=by decide +kernel
 have hs:splitId "BaseException.__getattribute__" = some ("BaseException","__getattribute__"):=by decide +kernel
 show wpAny (model prog w) A (call (.builtin "BaseException.__getattribute__") [.ref x,.str name tk]) _ _ s
 have sub:Looks (model prog w) s.heap (isInstance (.ref x) (.type "BaseException")) true:=L0.andThen (looks_mroIn X G.sub)
 refine wpAny_call (codeAny_call_builtin PySem.F.attr_ValueError.ga.plain PySem.F.entry_bexc_ga (@check_slot (model prog w) _ _ s "BaseException.__getattribute__" "BaseException" "__getattribute__" (.ref x) [.str name tk] [] _ hk hs sub (PySem.F.args_bexc_ga (.ref x) (.str name tk)) ?_))
 refine wpAny_mono hf (fun fin s' z=>?_) fun _ _ z=>z.elim
 obtain ⟨rfl,z⟩:=z
 show wpAny _ _ (handedOut v) _ _ _
 rw [handedOut_of hh]
 exact wpAny_pure z
theorem aav {tk:Tok} {Q:Fin→Shared→Prop} {v:Value} (X:K.In s.heap) (I:InstAt s.heap x ox C od) (hf:findObj K C od name = some (.value v)) (h:Q (.done (.ret v)) s) :
   wpAny (model prog w) A (Builtin.«object.__getattribute__» ⟨[.ref x,.str name tk],[]⟩) Q E s:=by
 obtain ⟨hp,g,d,t,os⟩:=s
 have L0:=I.type (M:=model prog w)
 have L3:=looks_find (M:=model prog w) X I hf
 unfold Builtin.«object.__getattribute__»
 repeat lk
 exact h
theorem aeu {expr:Bool} {Q:Value→Shared→Prop} {v:Value} (G:ExcGet K C) (X:K.In s.heap) (I:InstAt s.heap x ox C od) (hf:findObj K C od name = some (.value v)) (hh:handedIn v = true)
   (h:Q v { s with toks:=s.toks + 1 }):wpAny (model prog w) A (getAttr (.ref x) name expr) Q E s:=by
 unfold getAttr
 exact wpAny_bind (wpAny_mkText (excBy (s:={ s with toks:=s.toks + 1 }) G X I hh (aav X I hf ⟨rfl,h⟩)))
theorem excClass {Q:Option Value→Shared→Prop} (G:ExcGet K C) (X:K.In s.heap) (I:InstAt s.heap x ox C od) (h:Q (some (.ref C)) { s with toks:=s.toks + 1 }) :
   wpAny (model prog w) A (getAttr? (.ref x) "__class__") Q E s:=by
 obtain ⟨cd,l,hc,hd,hm,hr⟩:=G.cls
 have hf:findObj K C od "__class__" = some (.bind (.builtin "getset_descriptor.__get__") (.builtin "object.__class__")):=by
   unfold findObj
   rw [hc,Option.bind_some,G.cl,Option.bind_some]
   dsimp only
   rw [G.get,Option.bind_some]
   dsimp only
   rw [G.tk,Option.bind_some]
 unfold getAttr? getAttrBy?
 refine wpAny_bind (wpAny_mkText (wpAny_bind (wpAny_attempt (excBy (v:=.ref C) (s:={ s with toks:=s.toks + 1 }) G X I rfl ?_))))
 · obtain ⟨hp,g,d,t,os⟩:=s
   have L0:=I.type (M:=model prog w)
   have L3:=looks_find (M:=model prog w) X I hf
   unfold Builtin.«object.__getattribute__»
   repeat (first | with_reducible refine wpAny_call ?_ | lk)
   refine class_get X I G.top ?_
   exact wpAny_pure ⟨rfl,wpAny_pure h⟩
theorem excSet {v:Value} {Q:Unit→Shared→Prop} (G:ExcGet K C) (X:K.In s.heap) (I:InstAt s.heap x ox C od) (ht:findIn K (.ref C) name = some none)
   (h:∀ b tk A',wpAny (model prog w) A' (storeInOwnDict (.ref x) (.ref C) (.str name tk) name v b) (fun fin s'=>fin = .done (.ret .none)∧Q () s') (fun _ _=>False) { s with toks:=s.toks + 1 }) :
   wpAny (model prog w) A (setAttr (.ref x) name v) Q E s:=by
 obtain ⟨cd,l,hc,hd,hm,hr⟩:=G.cls
 refine set_plain X I G.sa ?_
 have L0:Looks (model prog w) { s with toks:=s.toks + 1 }.heap (typeOf (.ref x)) (.ref C):=I.type
 have SF:=PySem.F.store_object
 have sub:Looks (model prog w) { s with toks:=s.toks + 1 }.heap (isInstance (.ref x) (.type "object")) true:=L0.andThen (looks_mroIn X G.top)
 refine codeAny_call_builtin SF.slot.plain SF.entry (@check_slot (model prog w) _ _ { s with toks:=s.toks + 1 } "object.__setattr__" "object" "__setattr__" (.ref x) [.str name s.toks,v] [] _ SF.kind SF.split sub (SF.args (.ref x) (.str name s.toks) v) ?_)
 have hmro:Looks (model prog w) s.heap (mroOf (.ref C)) cd.mro:=(looks_clsIn X hc).andThen .now
 rw [osa_eq,refuse_eq]
 refine wpAny_bind (wpAny_bind (L0.here (wpAny_bind (Looks.here (s:={ s with toks:=s.toks + 1 }) hmro ?_))))
 rw [hm,Tq _ hr]
 refine wpAny_pure (wpAny_bind (L0.here (wpAny_bind (Looks.here (s:={ s with toks:=s.toks + 1 }) (looks_findIn X ht) (wpAny_bind (wpAny_pure (a:=none) ?_))))))
 exact wpAny_mono (h _ _ _) (fun fin s' z=>by obtain ⟨rfl,z⟩:=z; exact z) fun _ _ z=>z.elim
theorem excKit (G:ExcGet K C):KitX K (.ref x) (.ref C) (fun h=>InstAt h x ox C od) where
 ty:=fun _ _ _ I=>I.type
 it:=fun _ _ X _=>by
   obtain ⟨cd,l,hc,_⟩:=G.cls
   unfold clsIn at hc
   split at hc
   · rename_i ho
     intro A' Q' E' s' k q
     unfold isType loadHead
     exact wpAny_bind (wpAny_loadPart (k _ _ (X _ _ ho)) (wpAny_pure q))
   · cases hc
 ne:=fun h tp dd its n sl X htp=>by
   obtain ⟨cd,l,hc,_⟩:=G.cls
   refine Bool.eq_false_iff.mpr fun q=>?_
   obtain rfl:C = tp:=Value.ref.inj (beq_iff_eq.mp q)
   unfold clsIn at hc
   split at hc
   · rename_i ho
     have z:=(X _ _ ho).symm.trans htp
     cases z
   · cases hc
 ca:=fun X I k=>excClass G X I k
end
end MX
namespace L2
open PySem PySem.Spec PyProof.Rows
section
variable {prog:Program} {w:World} {A:Around} {R:Result→Shared→Prop} {s:Shared}
theorem ad5 {elt tg iter:Expr} {ifs:List Expr} {sc:Scope} {pos:Pos} {it acc:Value} {env:Env} (J:Nat→Shared→Prop)
   (turn:∀ n s,J n s→wpAny (model prog w) A (pyNext it) (fun r s1=>match r with
     | none=>R (.ok .next) s1
     | some v=>wpAny (model prog w) A (letOwnedTupleGo tg it v) (fun _ s2=>wpAny (model prog w) A (assign tg env v) (fun _ s3 =>
         wpAny (model prog w) A (forIn ifs true fun c r=>if r = true then do let ok ← isTrue c env (eval c env); pure (ForInStep.yield ok) else pure (ForInStep.yield r)) (fun ok s4 =>
           if ok = true then wpAny (model prog w) A (eval elt env) (fun x s5=>wpAny (model prog w) A (call (.builtin "list.append") [acc,x]) (fun _ s6=>∃ m,m < n∧J m s6) (fun _ _=>False) s5) (fun _ _=>False) s4
           else ∃ m,m < n∧J m s4) (fun _ _=>False) s3) (fun _ _=>False) s2) (fun _ _=>False) s1) (fun _ _=>False) s)
   (n:Nat) (h:J n s):codeAny (model prog w) A (.compLoop (.ListComp elt [⟨tg,iter,ifs,0⟩] sc pos) 0 it acc env) R s:=by
 refine codeAny_loop rfl J (fun n s hJ=>?_) n h
 show wpAny _ A ((compTurn (.ListComp elt [⟨tg,iter,ifs,0⟩] sc pos) 0 it acc env).onRaise (fun x=>do noteFrame x env; theTreesLotGoes x)) _ _ s
 refine wpAny_noted ?_
 rw [compTurn_list]
 refine wpAny_bind (wpAny_standAt (wpAny_bind (wpAny_mono (turn n s hJ) (fun r s1 h1=>?_) fun _ _ z=>z.elim)))
 cases r with
 | none=>exact wpAny_pure h1
 | some v =>
   refine wpAny_bind (wpAny_mono h1 (fun _ s2 h2=>?_) fun _ _ z=>z.elim)
   refine wpAny_bind (wpAny_mono h2 (fun _ s3 h3=>?_) fun _ _ z=>z.elim)
   refine wpAny_bind (wpAny_mono h3 (fun ok s4 h4=>?_) fun _ _ z=>z.elim)
   cases ok with
   | false=>exact wpAny_pure ⟨rfl,h4⟩
   | true =>
     refine wpAny_bind (wpAny_bind (wpAny_mono h4 (fun x s5 h5=>?_) fun _ _ z=>z.elim))
     exact wpAny_bind (wpAny_mono h5 (fun _ s6 h6=>wpAny_pure (wpAny_pure ⟨rfl,h6⟩)) fun _ _ z=>z.elim)
end
abbrev cN (X:Cx) (N':List Str) (sc:Scope) (cl:List (Str × Addr)) (s₀:Shared) (H₀:Hp) (C:Addr) (fp:List Addr) (pn:List (Addr × Obj)):Cx :=
 { X with N:=N',s₀:=s₀,H₀:=H₀,env:=compEnvC sc cl C X.env,outer:=X.stack,ex:=fp,fn:=fun _=>false,pn:=pn,xe:=fun _ _=>False }
def CellsOk (X:Cx):List (Str × Addr)→Prop
 | []=>True
 | (y,c) :: r=>(X.env.cells.lookup y = some c∧(X.env.kindOf y = some .cell ∨ X.env.kindOf y = some .free))∧CellsOk X r
def Lw (X:Cx) (sc:Scope) (cl:List (Str × Addr)):List Str→List (Option Nat)→Prop
 | [],[]=>True
 | y :: r,o :: q=>(match o with
     | none=>True
     | some j=>X.N[j]? = some y∧(cl.lookup y).isSome = true∧((relabel sc X.env).names.lookup y = some .cell ∨ (relabel sc X.env).names.lookup y = some .free))∧Lw X sc cl r q
 | _,_=>False
def capS (cap:List (Option Nat)) (σ:St):St:=cap.map fun o=>match o with | none=>none | some j=>(σ[j]?).join
structure afs (X:Cx) (sc:Scope) (cl:List (Str × Addr)) (N':List Str) (cap:List (Option Nat)):Prop where
 clos:closureFor sc X.env = pure cl
 kind:sc.kind = .function
 abv:(sc.names.all fun y=>y.2 != .cell) = true
 locals:(sc.names.all fun y=>y.2 != .local || sc.names.lookup y.1 == some .local) = true
 frees:(sc.names.all fun y=>y.2 != .free || (cl.lookup y.1).isSome) = true
 cells:CellsOk X cl
 caps:Lw X sc cl N' cap
theorem CellsOk.get {X:Cx}:∀ {cl:List (Str × Addr)} {y:Str} {c:Addr},CellsOk X cl→cl.lookup y = some c→X.env.cells.lookup y = some c∧(X.env.kindOf y = some .cell ∨ X.env.kindOf y = some .free)
 | [],_,_,_,e=>by simp at e
 | (z,d) :: r,y,c,h,e=>by
   by_cases q:y = z
   · subst q
     simp only [List.lookup_cons,beq_self_eq_true] at e
     cases e
     exact h.1
   · have q':(y == z) = false:=beq_eq_false_iff_ne.mpr q
     simp only [List.lookup_cons,q'] at e
     exact CellsOk.get h.2 e
theorem Lw.get {X:Cx} {sc:Scope} {cl:List (Str × Addr)}:∀ {N':List Str} {cap:List (Option Nat)} {i j:Nat} {y:Str},Lw X sc cl N' cap→N'[i]? = some y→cap[i]? = some (some j) →
   X.N[j]? = some y∧(cl.lookup y).isSome = true∧((relabel sc X.env).names.lookup y = some .cell ∨ (relabel sc X.env).names.lookup y = some .free)
 | [],_,_,_,_,_,e,_=>by simp at e
 | _ :: _,[],_,_,_,_,_,e=>by simp at e
 | z :: r,o :: q,0,j,y,h,e1,e2=>by
   simp at e1 e2
   subst e1 e2
   exact h.1
 | z :: r,o :: q,i + 1,j,y,h,e1,e2=>Lw.get (i:=i) h.2 (by simpa using e1) (by simpa using e2)
theorem Lw.len {X:Cx} {sc:Scope} {cl:List (Str × Addr)}:∀ {N':List Str} {cap:List (Option Nat)},Lw X sc cl N' cap→cap.length = N'.length
 | [],[],_=>rfl
 | [],_ :: _,h=>h.elim
 | _ :: _,[],h=>h.elim
 | _ :: _,_ :: _,h=>by simp [Lw.len h.2]
theorem Un.sameBut {fs ex:List Addr} {H H':Hp} {h h' h'':Heap} {C:Addr} (u:Un fs ex H H' h h') (sb:Heap.SameBut C h' h'') (hC:h.get? C = none):Un fs ex H H' h h'':=by
 have ne:∀ b o,h.get? b = some o→b ≠ C:=fun b o e z=>by rw [z,hC] at e; cases e
 refine ⟨fun b o e n h1 h2=>(sb.2 b (ne b o e)).trans (u.keep b o e n h1 h2),fun b o e n h1 h2=>?_,u.free,fun b o e hx=>?_,u.tups,u.DK,u.Hd⟩
 · obtain ⟨sl,q⟩:=u.slot b o e n h1 h2
   exact ⟨sl,(sb.2 b (ne b o e)).trans q⟩
 · obtain ⟨o',q⟩:=u.there b o e hx
   exact ⟨o',(sb.2 b (ne b o e)).trans q⟩
theorem HOk.sameBut {P:Program} {w:World} {H:Hp} {h h':Heap} {C:Addr} (x:HOk P w H h) (sb:Heap.SameBut C h h') (hC:H C = none):HOk P w H h':=fun b o e=>by
 refine (x b o e).stay (fun c u hc q=>(sb.2 c ?_).trans q) (fun _ q=>q) fun _ _ q=>q
 rintro rfl
 rcases hc with z | z
 · rw [← z,hC] at e; cases e
 · rw [hC] at z; cases z
def PIfs (X:Cx) (ifs:List Expr) (t:TT):Prop :=
 ∀ (pins:List (Addr × Obj)) (s:Shared) (σ:St) (H:Hp) (Q:Bool→Hp→Prop),Inv X pins σ H s→t σ H Q →
   wpAny (model X.prog X.w) X.A (forIn ifs true fun c r=>if r = true then do let ok ← isTrue c X.env (eval c X.env); pure (ForInStep.yield ok) else pure (ForInStep.yield r)) (TP X pins σ Q) X.xe s
def tTrue:TT:=fun _ H Q=>Q true H
theorem pf_nil {X:Cx}:PIfs X [] tTrue:=fun _ _ _ H _ I h=>wpAny_tests_nil ⟨H,I,h⟩
theorem pf_one {X:Cx} {c:Expr} {t:TT} (h:PT X c t):PIfs X [c] t:=fun pins s σ H Q I hw=>wpAny_tests_one (h pins s σ H Q I hw)
def CompGo (J:It) (g:TG) (tt:TT) (te:TE) (acc:Addr) (τ0:St) (H1:Hp) (Q:VK):Prop:=∃ W:Nat→Nat→List V→St→Hp→Prop,
 (∃ m,W 0 m [] τ0 (upd H1 acc (.lst [])))∧∀ i m ys τ H,W i m ys τ H→H acc = some (.lst ys)∧ys.length < sizeLine ∧
   ((J.stop i H∧Q (.ref acc) H) ∨ (J.go i H∧∀ x H',J.yld i H x H'→g x τ H' fun τ2 H2=>tt τ2 H2 fun b H3 =>
     if b = true then te τ2 H3 fun y H4=>H4 acc = some (.lst ys)∧∃ m',m' < m∧W (i + 1) m' (ys ++ [y]) τ2 (upd H4 acc (.lst (ys ++ [y])))
     else ∃ m',m' < m∧W (i + 1) m' ys τ2 H3))
def Yu (cap:List (Option Nat)) (wi:TI) (g:TG) (tt:TT) (te:TE):TE:=fun σ H Q=>wi σ H fun J H1=>∀ acc,H1 acc = none→CompGo J g tt te acc (capS cap σ) H1 Q
section
variable {X:Cx} {tg iter elt:Expr} {ifs:List Expr} {sc:Scope} {pos:Pos} {cl:List (Str × Addr)} {N':List Str} {cap:List (Option Nat)} {wi:TI} {g:TG} {tt:TT} {te:TE}
theorem inv_comp {pins:List (Addr × Obj)} {σ:St} {H:Hp} {s:Shared} {fp:List Addr} {h1:Heap} (S:afs X sc cl N' cap) (I:Inv X pins σ H s) (hf:∀ b ∈ fp,Nb X pins H b) (hlt:∀ b ∈ fp,b < s.heap.objs.size)
   (hns:h1.Ns s.heap.objs.size (fun x=>([]:List (Str × Value)).reverse.lookup x)) (keep:∀ b o,s.heap.get? b = some o→h1.get? b = some o) :
   Inv (cN X N' sc cl s H s.heap.objs.size fp (X.pn ++ pins)) [] (capS cap σ) H { s with heap:=h1 }:=by
 have nC:∀ b o,s.heap.get? b = some o→b ≠ s.heap.objs.size:=fun b o e=>Nat.ne_of_lt (Heap.lt_size e)
 have fsub:∀ b,b ≠ X.env.locals→b ∉ X.fs→b ∉ frs X.stack:=fun b h1 h2 z=>(List.mem_cons.mp (I.ahB b z)).elim h1 h2
 refine ⟨⟨I.ok.mod,?_,I.ok.glob,I.ok.blt,Nat.le_refl _,fun x y c e1 e2=>?_,fun x hx=>?_,fun x c e=>absurd e (by simp),I.ok.hd,I.ok.frames,.inl rfl,fun b hb=>?_,I.bs,Nat.le_trans I.ok.bsz I.sz,fun b o e hb=>?_,fun b hb=>?_,I.stack,I.adh⟩,
   rfl,I.bare,Un.kept keep,⟨_,hns,fun i y v e1 e2 e3=>?_⟩,fun y c e=>?_,I.hok.fresh (Nat.le_refl _),fun y c e=>?_,fun p hp=>?_,I.hok.kept keep,?_⟩
 · show (relabel sc X.env).kind = .function
   exact S.kind
 · exact I.ok.inj _ _ c (S.cells.get e1).1 (S.cells.get e2).1
 ·
   have key:∀ k,(relabel sc X.env).names.lookup x = some k→k ≠ .local→k ≠ .globalImplicit→(x,NameKind.free) ∈ sc.names ∨ (x,k) ∈ sc.names:=fun k hk h1 h2=>by
     obtain ⟨⟨n,k0⟩,hm,e⟩:=List.mem_map.mp (PySem.mem_of_lookup hk)
     dsimp only at e
     split at e
     · rename_i q
       have q1:k0 = NameKind.free:=by
         rw [Bool.and_eq_true,Bool.and_eq_true] at q
         exact beq_iff_eq.mp q.1.1
       cases e
       subst q1
       exact .inl hm
     · cases e
       exact .inr hm
   have fin:(x,NameKind.free) ∈ sc.names→∃ c,cl.lookup x = some c:=fun hm=>by
     have z:=List.all_eq_true.mp S.frees _ hm
     simp only [bne_self_eq_false,Bool.false_or] at z
     exact Option.isSome_iff_exists.mp z
   have hx:(relabel sc X.env).names.lookup x = some .cell ∨ (relabel sc X.env).names.lookup x = some .free:=hx
   rcases hx with hx | hx
   · rcases key _ hx (by decide) (by decide) with z | z
     · exact fin z
     · exact absurd (List.all_eq_true.mp S.abv _ z) (by simp)
   · rcases key _ hx (by decide) (by decide) with z | z <;> exact fin z
 · obtain ⟨_,_,_,_,h5,_⟩:=hf b hb
   exact ⟨Nat.ne_of_lt (hlt b hb),fun x c e=>h5 x c (S.cells.get e).1⟩
 · obtain ⟨_,_,_,h4,_,_⟩:=hf b hb
   rcases h4 with z | z
   · exact I.ok.bD b o e z
   · exact absurd (Nat.lt_of_lt_of_le (Nat.lt_of_lt_of_le (Heap.lt_size e) I.ok.bsz) z) (Nat.lt_irrefl _)
 · obtain ⟨_,h2,h3,_,_,_⟩:=hf b hb
   exact fsub b h2 h3
 ·
   unfold capS at e2
   rw [List.getElem?_map] at e2
   cases ec:cap[i]? with
   | none=>rw [ec] at e2; cases e2
   | some o =>
     rw [ec] at e2
     cases o with
     | none=>cases e2
     | some j =>
       have e2:(σ[j]?).join = some v:=Option.some.inj e2
       obtain ⟨hj,hs,hk⟩:=S.caps.get e1 ec
       obtain ⟨c,hc⟩:=Option.isSome_iff_exists.mp hs
       obtain ⟨c1,c2⟩:=S.cells.get hc
       have ej:σ[j]? = some (some v):=by
         cases q:σ[j]? with
         | none=>rw [q] at e2; cases e2
         | some z=>rw [q] at e2; exact congrArg some e2
       obtain ⟨m,hm,hl⟩:=id I.loc
       obtain ⟨u,ru,lk⟩:=hl j y v hj ej (c2.elim (fun z=>.inr (.inl z)) fun z=>.inr (.inr z))
       refine ⟨u,ru,?_⟩
       rcases lk with ⟨z,_⟩ | ⟨_,c',e',⟨oc,eo,ed⟩⟩
       · rcases c2 with q | q <;> · rw [q] at z; cases z
       · rw [c1] at e'
         cases e'
         exact .inr ⟨hk,c,hc,oc,keep _ _ eo,ed⟩
 · obtain ⟨v,o,e1,e2⟩:=I.cell y c (S.cells.get e).1
   exact ⟨v,o,keep _ _ e1,e2⟩
 · exact I.qF y c (S.cells.get e).1
 · have hp:p ∈ X.pn ++ pins:=by simpa using hp
   obtain ⟨e,n,ne,nf,d⟩:=I.pin p hp
   exact ⟨keep _ _ e,n,nC _ _ e,fsub _ ne nf,d⟩
 · show (capS cap σ).length = N'.length
   unfold capS
   rw [List.length_map]
   exact S.caps.len
theorem agV {pp:Pos} {use:Option (Value→Sem Unit)} {Q':Value→Shared→Prop} {pins:List (Addr × Obj)} {s:Shared} {σ:St} {H:Hp} {Q:VK} (S:afs X sc cl N' cap) (hc:X.calm = true) (hi:PI X tg iter wi) (hg:∀ s₀ H₀ C fp pn,PG (cN X N' sc cl s₀ H₀ C fp pn) tg g) (ht:∀ s₀ H₀ C fp pn,PIfs (cN X N' sc cl s₀ H₀ C fp pn) ifs tt)
   (he:∀ s₀ H₀ C fp pn,PE (cN X N' sc cl s₀ H₀ C fp pn) elt te) (hs:∀ x,foldedSetIterable iter X.env x = pure x) (I:Inv X pins σ H s) (h:Yu cap wi g tt te σ H Q)
   (fin:∀ (s6:Shared) (C a:Addr) (H6:Hp) (m:Str→Option Value),s6.heap.Ns C m→Nb X pins H6 C→(∀ h',Heap.SameBut C s6.heap h'→Inv X pins σ H6 { s6 with heap:=h' })→Q (.ref a) H6→compPost (model X.prog X.w) X.A X.xe use Q' (.ref a) C (.ok .next) s6) :
   wpAny (model X.prog X.w) X.A (comprehension (.ListComp elt [⟨tg,iter,ifs,0⟩] sc pos) sc X.env pp (newList []) false (eval iter X.env) use) Q' X.xe s:=by
 have abv:∀ y ∈ sc.names,y.2 ≠ .cell:=fun y hy z=>absurd (List.all_eq_true.mp S.abv y hy) (by rw [z]; decide)
 have locals:∀ y ∈ sc.names,y.2 = .local→sc.names.lookup y.1 = some .local:=fun y hy z=>by
   have q:=List.all_eq_true.mp S.locals y hy
   rw [z] at q
   simpa using q
 refine wpAny_comprehension_free (use:=use) rfl hs S.clos S.kind locals (thn (hi pins s σ H _ I h) fun v s1 h1=>thn h1 fun itv s2 h2=>?_)
 obtain ⟨it,fp,tn,J,H2,e,I2,T,st2,f2,hR⟩:=h2
 subst e
 have nAcc:H2 s2.heap.objs.size = none:=I2.hok.fresh (Nat.le_refl _)
 obtain ⟨W,⟨m0,w0⟩,step⟩:=hR s2.heap.objs.size nAcc
 refine wpAny_newObj_type (wpAny_newFunctionEnv abv (by intro y hy; simp at hy) (fun h1 hns hsb=>?_) S.kind)
 have I3:Inv X pins σ (upd H2 s2.heap.objs.size (.lst [])) { s2 with heap:=s2.heap.push { cls:=.type "list",data:=.seq ([]:List Value).toArray } } :=
   I2.laid (t':=s2.toks) (fun b u e=>Heap.get?_push_of_some _ e) (Nat.le_refl _) ⟨Nat.zero_le _,[],0,.nil,Heap.get?_push_size _ rfl⟩
 have fpn:∀ b ∈ fp,b < s2.heap.objs.size:=fun b hb=>by
   obtain ⟨o,e,_⟩:=T.obj _ _ st2 b hb
   exact Heap.lt_size e
 have f3:∀ b ∈ fp,Nb X pins (upd H2 s2.heap.objs.size (.lst [])) b:=fun b hb=>⟨by rw [az (Nat.ne_of_lt (fpn b hb))]; exact (f2 b hb).1,(f2 b hb).2⟩
 have hC:(s2.heap.push { cls:=.type "list",data:=.seq ([]:List Value).toArray }).get? (s2.heap.push { cls:=.type "list",data:=.seq ([]:List Value).toArray }).objs.size = none:=Heap.get?_none_of_le (Nat.le_refl _)
 have keep:∀ b o,(s2.heap.push { cls:=.type "list",data:=.seq ([]:List Value).toArray }).get? b = some o→h1.get? b = some o:=fun b o e =>
   (hsb.2 b (Nat.ne_of_lt (Heap.lt_size e))).trans (Heap.get?_push_of_some _ e)
 have I4:=inv_comp S I3 f3 (fun b hb=>by
   show b < (s2.heap.push _).objs.size
   rw [Heap.size_push]
   exact Nat.lt_succ_of_lt (fpn b hb)) hns keep
 have fpc:∀ {H':Hp},(∀ b ∈ fp,H' b = none)→∀ b ∈ fp,Nb (cN X N' sc cl { s2 with heap:=s2.heap.push { cls:=.type "list",data:=.seq ([]:List Value).toArray } } (upd H2 s2.heap.objs.size (.lst [])) (s2.heap.push { cls:=.type "list",data:=.seq ([]:List Value).toArray }).objs.size fp (X.pn ++ pins)) [] H' b :=
   fun hn b hb=>⟨hn b hb,(I4.ok.exf b hb).1,I4.ok.exfs b hb,.inl hb,(I4.ok.exf b hb).2,fun p hp=>(f2 b hb).2.2.2.2.2 p (by simpa using hp)⟩
 have loop:∀ s5:Shared,(∃ i m ys τ H',Inv (cN X N' sc cl { s2 with heap:=s2.heap.push { cls:=.type "list",data:=.seq ([]:List Value).toArray } } (upd H2 s2.heap.objs.size (.lst [])) (s2.heap.push { cls:=.type "list",data:=.seq ([]:List Value).toArray }).objs.size fp (X.pn ++ pins)) [] τ H' s5 ∧
     tn i s5.heap∧(∀ b ∈ fp,H' b = none)∧W i m ys τ H')→codeAny (model X.prog X.w) X.A (.compLoop (.ListComp elt [⟨tg,iter,ifs,0⟩] sc pos) 0 (.ref it) (.ref s2.heap.objs.size) (compEnvC sc cl (s2.heap.push { cls:=.type "list",data:=.seq ([]:List Value).toArray }).objs.size X.env))
     (compPost (model X.prog X.w) X.A X.xe use Q' (.ref s2.heap.objs.size) (s2.heap.push { cls:=.type "list",data:=.seq ([]:List Value).toArray }).objs.size) s5:=by
   rintro s5 ⟨i0,m0',ys0,τ0,H0',I0,st0,fr0,w0'⟩
   refine ad5 (fun n s'=>∃ i ys τ H',Inv (cN X N' sc cl { s2 with heap:=s2.heap.push { cls:=.type "list",data:=.seq ([]:List Value).toArray } } (upd H2 s2.heap.objs.size (.lst [])) (s2.heap.push { cls:=.type "list",data:=.seq ([]:List Value).toArray }).objs.size fp (X.pn ++ pins)) [] τ H' s' ∧
     tn i s'.heap∧(∀ b ∈ fp,H' b = none)∧W i n ys τ H') ?_ m0' ⟨i0,ys0,τ0,H0',I0,st0,fr0,w0'⟩
   rintro n s' ⟨i,ys,τ,H',I',st,fr,wv⟩
   obtain ⟨hacc,hlen,alt⟩:=step i n ys τ H' wv
   rcases alt with ⟨stop,q⟩ | ⟨go,stp⟩
   · refine thn (T.done (cN X N' sc cl { s2 with heap:=s2.heap.push { cls:=.type "list",data:=.seq ([]:List Value).toArray } } (upd H2 s2.heap.objs.size (.lst [])) (s2.heap.push { cls:=.type "list",data:=.seq ([]:List Value).toArray }).objs.size fp (X.pn ++ pins)) rfl rfl rfl hc i [] s' τ H' _ I' (fpc fr) st stop) fun r s6 ⟨hr,I6⟩=>?_
     subst hr
     obtain ⟨m,hn,_⟩:=id I6.loc
     refine fin s6 _ _ H' m hn (I2.fpOk (by rw [Heap.size_push]; exact Nat.le_succ _) I6.free) (fun h' sb=>?_) q
     have un:Un (frs X.stack) fp H2 H' s2.heap h':=(Un.laid (o:=.lst []) (h':=s2.heap.push { cls:=.type "list",data:=.seq ([]:List Value).toArray }) (fun b u e=>Heap.get?_push_of_some _ e) (Nat.le_refl _) nAcc).trans (I6.base.sameBut sb hC)
     exact I2.call' (s':={ s6 with heap:=h' }) (ch:=fp) I6.os un (I6.hok.sameBut sb I6.free) I6.bare fun b hb=>⟨(f2 b hb).2.2.2.1,(f2 b hb).2.1,(f2 b hb).2.2.2.2.1,(f2 b hb).2.2.2.2.2⟩
   · refine thn (T.item (cN X N' sc cl { s2 with heap:=s2.heap.push { cls:=.type "list",data:=.seq ([]:List Value).toArray } } (upd H2 s2.heap.objs.size (.lst [])) (s2.heap.push { cls:=.type "list",data:=.seq ([]:List Value).toArray }).objs.size fp (X.pn ++ pins)) rfl rfl rfl hc i [] s' τ H' _ I' (fpc fr) st go) fun r s6 ⟨u,hr,h6⟩=>?_
     subst hr
     refine thn h6 fun _ s7 ⟨x,H7,I7,rx,y7,st7,fr7⟩=>?_
     have I7':=I7.pinned (fpc fr7) (T.obj _ _ st7)
     refine thn (hg _ _ _ _ _ _ s7 τ H7 x u _ I7' rx (stp x H7 y7)) fun _ s8 ⟨τ8,H8,I8,q8⟩=>?_
     refine thn (ht _ _ _ _ _ _ s8 τ8 H8 _ I8 q8) fun ok s9 ⟨H9,I9,q9⟩=>?_
     have again:∀ {τa:St} {Ha:Hp} {sa:Shared} {ysa:List V},Inv (cN X N' sc cl { s2 with heap:=s2.heap.push { cls:=.type "list",data:=.seq ([]:List Value).toArray } } (upd H2 s2.heap.objs.size (.lst [])) (s2.heap.push { cls:=.type "list",data:=.seq ([]:List Value).toArray }).objs.size fp (X.pn ++ pins)) ([] ++ S9 fp s7.heap) τa Ha sa →
         (∃ m',m' < n∧W (i + 1) m' ysa τa Ha)→∃ m',m' < n∧∃ i ys τ H',Inv (cN X N' sc cl { s2 with heap:=s2.heap.push { cls:=.type "list",data:=.seq ([]:List Value).toArray } } (upd H2 s2.heap.objs.size (.lst [])) (s2.heap.push { cls:=.type "list",data:=.seq ([]:List Value).toArray }).objs.size fp (X.pn ++ pins)) [] τ H' sa ∧
           tn i sa.heap∧(∀ b ∈ fp,H' b = none)∧W i m' ys τ H':=fun {τa Ha sa ysa} Ia ⟨m',lt,wa⟩=>by
       refine ⟨m',lt,i + 1,ysa,τa,Ha,Ia.JM,T.keep _ _ _ st7 fun b hb o e=>(Ia.pin (b,o) (List.mem_append_right _ (List.mem_append_right _ (yV hb e)))).1,fun b hb=>?_,wa⟩
       obtain ⟨o,e,_⟩:=T.obj _ _ st7 b hb
       exact (Ia.pin (b,o) (List.mem_append_right _ (List.mem_append_right _ (yV hb e)))).2.1
     cases ok with
     | false=>exact again I9 q9
     | true =>
       refine thn (he _ _ _ _ _ _ s9 τ8 H9 _ I9 q9) fun v s10 ⟨y,H10,I10,ry,ha,hw⟩=>?_
       refine thn (jA _ s10 τ8 H10 (.ref s2.heap.objs.size) [y] (.ref s2.heap.objs.size) [v] (fun _ Hq=>Hq = upd H10 s2.heap.objs.size (.lst (ys ++ [y]))) I10 rfl (.cons ry .nil) ⟨_,_,_,rfl,rfl,ha,hlen,rfl⟩) fun _ s11 ⟨_,H11,I11,_,e11⟩=>?_
       subst e11
       exact again I11 hw
 have start:∃ i m ys τ H',Inv (cN X N' sc cl { s2 with heap:=s2.heap.push { cls:=.type "list",data:=.seq ([]:List Value).toArray } } (upd H2 s2.heap.objs.size (.lst [])) (s2.heap.push { cls:=.type "list",data:=.seq ([]:List Value).toArray }).objs.size fp (X.pn ++ pins)) [] τ H' { s2 with heap:=h1 } ∧
     tn i h1∧(∀ b ∈ fp,H' b = none)∧W i m ys τ H' :=
   ⟨0,m0,[],capS cap σ,_,I4,T.keep _ _ _ st2 fun b hb o e=>keep _ _ (Heap.get?_push_of_some _ e),fun b hb=>(f3 b hb).1,w0⟩
 exact codeAny_compStart_list (loop _ start) (T.self _ 0 _ _ _ (T.keep _ _ _ st2 fun b hb o e=>keep _ _ (Heap.get?_push_of_some _ e)) (loop _ start))
theorem cX (S:afs X sc cl N' cap) (hc:X.calm = true) (hi:PI X tg iter wi) (hg:∀ s₀ H₀ C fp pn,PG (cN X N' sc cl s₀ H₀ C fp pn) tg g) (ht:∀ s₀ H₀ C fp pn,PIfs (cN X N' sc cl s₀ H₀ C fp pn) ifs tt)
   (he:∀ s₀ H₀ C fp pn,PE (cN X N' sc cl s₀ H₀ C fp pn) elt te) (hs:∀ x,foldedSetIterable iter X.env x = pure x:=by intro _; rfl) :
   PE X (.ListComp elt [⟨tg,iter,ifs,0⟩] sc pos) (Yu cap wi g tt te):=by
 intro pins s σ H Q I h
 rw [eval_ListComp]
 exact agV (use:=none) (Q':=EP X pins σ Q) S hc hi hg ht he hs I h fun s6 C a H6 m hn _ hI q=>⟨m,hn,fun h' sb=>⟨.ref a,H6,hI h' sb,rfl,q⟩⟩
end
end L2
namespace L2
open PySem PySem.Spec PyProof.Rows
theorem JN {H:Hp} {a:Addr} {o:HO} (e:H a = some o):upd H a o = H:=by
 funext b
 unfold upd
 split
 · rename_i q; rw [q,e]
 · rfl
section
variable {X:Cx} {pins:List (Addr × Obj)} {σ:St} {H:Hp} {s:Shared} {h':Heap}
theorem Inv.ahH {ch:List Addr} {a:Addr} {o:HO} {t':Nat} (I:Inv X pins σ H s) (hch:∀ b ∈ ch,Nb X pins H b) (k:∀ b u,b ∉ ch→s.heap.get? b = some u→h'.get? b = some u) (ha:s.heap.objs.size ≤ a)
   (new:c7 X.prog X.w (upd H a o) h' a o):Inv X pins σ (upd H a o) { s with heap:=h',toks:=t' }:=by
 have hn:H a = none:=I.hok.fresh ha
 have nch:∀ b u,H b = some u→b ∉ ch:=fun b u e z=>by rw [(hch b z).1] at e; cases e
 have nea:∀ b u,s.heap.get? b = some u→b ≠ a:=fun b u e=>Nat.ne_of_lt (Nat.lt_of_lt_of_le (Heap.lt_size e) ha)
 refine I.step (g':=s.gens) (d':=s.drawn) (ch:=ch) (fun b hb=>?_) (fun b u _ _ hc e _=>k b u hc e) (fun b u _ _ hc e _=>⟨u.slots,k b u hc e⟩) (fun b u hc e n=>by rw [az (nea b u e)]; exact n) (fun b u hc e=>⟨u,k b u hc e⟩)
   (fun b xs e=>by rw [az (aK e hn)]; exact e) (fun b u xs e=>by rw [az (aK e hn)]; exact e) (fun b ps e=>⟨#[],by rw [az (aK e hn),e]; simp⟩) (fun m hm=>?_) (fun b u e=>?_) I.bare
 · obtain ⟨_,h2,_,h4,h5,h6⟩:=hch b hb
   exact ⟨h4,h2,h5,h6⟩
 · obtain ⟨o',es,ep,ho,r⟩:=hm
   exact ⟨o',es,ep,k _ o' (fun z=>(hch _ z).2.1 rfl) ho,r⟩
 · by_cases hb:b = a
   · subst hb
     rw [aG] at e
     cases e
     exact new
   · rw [az hb] at e
     refine (I.hok b u e).stay (fun c v hc q=>k c v ?_ q) (fun c q=>by rw [az (aK q hn)]; exact q) fun c xs q=>by rw [az (aK q hn)]; exact q
     rcases hc with z | z
     · rw [z]; exact nch b u e
     · exact nch c _ z
end
def Ite (K:PySem.W.Frag) (a:Addr):It :=
 ⟨fun i H=>∃ xs x,SqL K H a xs∧xs[i]? = some x,fun i H v H'=>∃ p x,v = .ref p∧H p = none∧H' = upd H p (.tup [.int i,x])∧∀ xs,SqL K H a xs→xs[i]? = some x,fun i H=>∃ xs,SqL K H a xs∧xs.length ≤ i⟩
theorem ajr {P:Program} {w:World} {K:PySem.W.Frag} {es:List Expr} {kk:Nat} {tp:Pos} (a e it:Addr) (hne:e ≠ it) :
   Turn P w K (.Tuple es kk tp) (Ite K a) [e,it] e (fun i h=>(∃ old,IsEnum h e it (i:Nat) old)∧h.IsListIter it a i) where
 mem:=by simp
 obj:=fun i h st b hb=>by
   obtain ⟨⟨old,s1⟩,s2⟩:=st
   rcases List.mem_cons.mp hb with z | z
   · subst z
     exact ⟨_,s1,fun v q=>by
       have q':Data.fields _ = Data.cell v:=q
       cases q'⟩
   · have z:b = it:=by simpa using z
     subst z
     obtain ⟨o,e1,c,d⟩:=s2
     exact ⟨o,e1,fun v q=>by rw [d] at q; cases q⟩
 keep:=fun i h h' st k=>by
   obtain ⟨⟨old,s1⟩,s2⟩:=st
   exact ⟨⟨old,k e (by simp) _ s1⟩,s2.at fun o q=>k it (by simp) o q⟩
 item:=by
   intro X hP hw hK hc i pins s σ H E I hf st hg
   subst hP hw hK
   obtain ⟨xs,x,hq,hx⟩:=hg
   obtain ⟨⟨old,s1⟩,s2⟩:=st
   obtain ⟨its,rv,p,hz⟩:=I.list hq
   obtain ⟨u,hu,ru⟩:=rv.get hx
   refine wpAny_pyNext_enum_item s1 s2 p.isList (x:=u) (by simpa using hu) hne fun h1 eo li tu sz kk'=>⟨_,rfl,wpAny_letOwnedTupleGo_enum eo fun h2 ie sb=>?_⟩
   have hp:H s.heap.objs.size = none:=I.hok.fresh (Nat.le_refl _)
   have lt1:e < s.heap.objs.size:=Heap.lt_size s1
   have ne1:s.heap.objs.size ≠ e:=Nat.ne_of_gt lt1
   have tu2:h2.get? s.heap.objs.size = some { cls:=.type "tuple",data:=.seq #[.int i s.toks,u] }:=(sb.2 _ ne1).trans tu
   have I2:Inv X pins σ (upd H s.heap.objs.size (.tup [.int i,x])) { s with heap:=h2,toks:=s.toks + 1 }:=I.ahH (ch:=[e,it]) hf (fun b o hb q=>by
       have hb1:b ≠ e:=fun z=>hb (by simp [z])
       have hb2:b ≠ it:=fun z=>hb (by simp [z])
       exact (sb.2 b hb1).trans (kk' b o hb1 hb2 q)) (Nat.le_refl _) ⟨by show 2 ≤ sizeLine; decide,[.int i s.toks,u],.cons ⟨_,rfl⟩ (.cons ru .nil),_,tu2,rfl,0,rfl⟩
   refine ⟨.ref s.heap.objs.size,_,I2,rfl,⟨_,x,rfl,hp,rfl,fun ys hy=>by rw [I.aeK hy hq]; exact hx⟩,⟨⟨u,?_⟩,?_⟩,fun b hb=>?_⟩
   · have q:IsEnum h2 e it ((i:Int) + 1) u:=ie
     rw [show ((i:Int) + 1) = ((i + 1:Nat):Int) by omega] at q
     exact q
   · obtain ⟨o,e1,r⟩:=li
     exact ⟨o,(sb.2 it (Ne.symm hne)).trans e1,r⟩
   · have lt2:b < s.heap.objs.size:=by
       rcases List.mem_cons.mp hb with z | z
       · rw [z]; exact lt1
       · have z:b = it:=by simpa using z
         rw [z]
         obtain ⟨o,e1,_⟩:=s2
         exact Heap.lt_size e1
     rw [az (Nat.ne_of_lt lt2)]
     exact (hf b hb).1
 done:=by
   intro X hP hw hK hc i pins s σ H E I hf st hg
   subst hP hw hK
   obtain ⟨xs,hq,hx⟩:=hg
   obtain ⟨⟨old,s1⟩,s2⟩:=st
   obtain ⟨its,rv,p,hz⟩:=I.list hq
   obtain ⟨f0,f1,f2,f3,f4,f5⟩:=hf it (by simp)
   have hl:=rv.length
   exact wpAny_pyNext_enum_end (I.ok.hd hc) s1 s2 p.isList (by simp; omega) fun h' eb=>⟨rfl,I.turned (t':=s.toks) (fun b o hb q=>eb b o hb q) f0 f1 f3 f4 f5⟩
 self:=fun _ _ _ _ _ st h=>wpAny_pyIter_enum st.1.choose_spec h
section
variable {X:Cx}
def iEnum (K:PySem.W.Frag) (ta:TA):TI:=fun σ H R=>ta σ H fun vs H1=>∃ a,vs = [.ref a]∧(∃ xs,SqL K H1 a xs)∧R (Ite K a) H1
theorem pi_enum {es:List Expr} {kk:Nat} {tp:Pos} {l:Expr} {ta:TA} {p pos:Pos} (hg:Gl X "enumerate") (hm:X.mg "enumerate" = none) (ha:PA X [l] ta) (hs:starEach [l] X.env = [(false,eval l X.env)]:=by rfl) :
   PI X (.Tuple es kk tp) (.Call (.Name "enumerate" p) [l] [] pos) (iEnum X.K ta):=by
 intro pins s σ H R I h
 refine Call_ (R3 I hg hm PyProof.Rows.boot_enumerate (PyProof.Rows.callWith_type1 (thn (ha pos pins s σ H _ I h) fun us s1 ⟨vs,H1,I1,r1,q1⟩=>?_) hs rfl))
 obtain ⟨a,e,⟨xs,hq⟩,q⟩:=q1
 subst e
 cases r1 with
 | cons r rr =>
   cases rr
   cases r
   obtain ⟨its,rv,pl,hz⟩:=I1.list hq
   refine call_enumerate_list pl.isList fun h' ie li sz kp=>?_
   refine wpAny_pyIter_enum (it:=s1.heap.objs.size) (i:=0) (old:=.none) ie ?_
   have I2:Inv X pins σ H1 { s1 with heap:=h' }:=I1.kept (t':=s1.toks) kp
   refine ⟨s1.heap.objs.size + 1,[s1.heap.objs.size + 1,s1.heap.objs.size],_,_,H1,rfl,I2,ajr a (s1.heap.objs.size + 1) s1.heap.objs.size (Nat.succ_ne_self _),⟨⟨.none,ie⟩,li⟩,fun b hb=>?_,q⟩
   have hb':s1.heap.objs.size ≤ b:=by
     rcases List.mem_cons.mp hb with z | z
     · rw [z]; exact Nat.le_succ _
     · have z:b = s1.heap.objs.size:=by simpa using z
       exact Nat.le_of_eq z.symm
   obtain ⟨g1,g2,g3,g4,g5,g6⟩:=I1.fpOk hb' (I1.hok.fresh hb')
   exact ⟨g1,g2,g3,g4,g5,g6⟩
end
theorem ajo (a b c:Str):a ++ b ++ c = a ++ (b ++ c):=by
 obtain ⟨a⟩:=a
 obtain ⟨b⟩:=b
 obtain ⟨c⟩:=c
 show Str.mk (a ++ b ++ c) = Str.mk (a ++ (b ++ c))
 rw [Array.append_assoc]
theorem str_nil (a:Str):a ++ Str.empty = a:=by
 obtain ⟨a⟩:=a
 show Str.mk (a ++ #[]) = Str.mk a
 rw [Array.append_empty]
theorem nil_str (a:Str):Str.empty ++ a = a:=by
 obtain ⟨a⟩:=a
 show Str.mk (#[] ++ a) = Str.mk a
 rw [Array.empty_append]
theorem str_len (a b:Str):(a ++ b).length = a.length + b.length:=by
 obtain ⟨a⟩:=a
 obtain ⟨b⟩:=b
 show (a ++ b).size = a.size + b.size
 rw [Array.size_append]
abbrev TX:=St→Hp→(Str→Hp→Prop)→Prop
def PX (X:Cx) (e:Expr) (t:TX):Prop :=
 ∀ (pins:List (Addr × Obj)) (s:Shared) (σ:St) (H:Hp) (Q:Str→Hp→Prop),Inv X pins σ H s→t σ H Q →
   wpAny (model X.prog X.w) X.A (eval e X.env) (fun u s'=>∃ x k H',u = .str x k∧Inv X pins σ H' s'∧Q x H') X.xe s
def PXs (X:Cx) (es:List Expr) (t:TX):Prop :=
 ∀ (out:Str) (pins:List (Addr × Obj)) (s:Shared) (σ:St) (H:Hp) (Q:Str→Hp→Prop),out.length + 1000000 * (es.length + 1) ≤ sizeLine→Inv X pins σ H s→t σ H (fun y H'=>Q (out ++ y) H') →
   wpAny (model X.prog X.w) X.A (joinParts out (evalEach es X.env)) (fun u s'=>∃ x k H',u = .str x k∧Inv X pins σ H' s'∧Q x H') X.xe s
section
variable {X:Cx} {e:Expr} {es:List Expr} {pos:Pos}
def xLit (x:Str):TX:=fun _ H Q=>Q x H
def fmtS:V→Str
 | .int i=>toString i
 | .str y=>y
 | _=>Str.empty
def aew:V→Prop
 | .int i=>i.natAbs.log2 < 1920
 | .str y=>y.length ≤ 100000
 | _=>False
theorem ah0:∀ {v:V},aew v→(fmtS v).length ≤ 1000000
 | .int i,h=>by
   have e:=int_text_length_le (k:=1920) (by decide) (show i.natAbs.log2 < 1920 from h)
   show (Str.ofString (toString i)).length ≤ 1000000
   rw [PySem.ofString_length]
   exact Nat.le_trans e (by decide)
 | .str y,h=>Nat.le_trans (show y.length ≤ 100000 from h) (by decide)
 | .non,h=>h.elim
 | .bl _,h=>h.elim
 | .byt _,h=>h.elim
 | .flt _,h=>h.elim
 | .ref _,h=>h.elim
 | .ty _,h=>h.elim
def xFld (te:TE):TX:=fun σ H Q=>te σ H fun v H1=>aew v∧Q (fmtS v) H1
theorem px_lit {x:Str} {k}:PX X (.Constant (.str x) k pos) (xLit x):=fun _ _ _ H _ I h=>Calls.Constant_str ⟨x,_,H,rfl,I.tok _,h⟩
theorem px_fld {te:TE} (he:PE X e te):PX X (.FormattedValue e (-1) none pos) (xFld te):=by
 intro pins s σ H Q I h
 refine FormattedValue_plain (thn (he pins s σ H _ I h) fun u s1 ⟨v,H1,I1,r,q⟩=>?_)
 obtain ⟨hd,q⟩:=q
 cases v with
 | int i =>
   obtain ⟨t,rfl⟩:=r
   exact formatField_int_small hd ⟨_,_,H1,rfl,(I1.tok _).tok _,q⟩
 | str y =>
   obtain ⟨t,rfl⟩:=r
   exact formatField_str (fun t' tk=>⟨y,t',H1,rfl,I1.tok tk,q⟩) (Nat.le_trans (show y.length ≤ 100000 from hd) (by rw [sizeLine_eq]; decide))
 | _=>exact (show False from hd).elim
def xNil:TX:=fun _ H Q=>Q Str.empty H
def xCons (ta tr:TX):TX:=fun σ H Q=>ta σ H fun x H1=>x.length ≤ 1000000∧tr σ H1 fun y H2=>Q (x ++ y) H2
theorem pxs_nil:PXs X [] xNil:=fun out pins s σ H Q hz I h=>joinParts_nil ⟨_,_,H,rfl,I.tok _,by
 have z:Q (out ++ Str.empty) H:=h
 rw [str_nil] at z
 exact z⟩ (by omega)
theorem JB {ta tr:TX} (ha:PX X e ta) (hr:PXs X es tr):PXs X (e :: es) (xCons ta tr):=by
 intro out pins s σ H Q hz I h
 refine joinParts_consE (joinParts_cons (thn (ha pins s σ H _ I h) fun u s1 ⟨x,k,H1,eu,I1,lx,q⟩=>?_))
 subst eu
 have hl:(out ++ x).length ≤ out.length + 1000000:=by rw [str_len]; omega
 rw [List.length_cons] at hz
 have ar:∀ S a b M c:Nat,a ≤ b + c→b + (M + c) ≤ S→a ≤ S∧a + M ≤ S:=fun S a b M c h1 h2=>⟨by omega,by omega⟩
 rw [Nat.mul_succ] at hz
 obtain ⟨z1,z2⟩:=ar _ _ _ _ _ hl hz
 refine ⟨z1,hr (out ++ x) pins s1 σ H1 Q z2 I1 ?_⟩
 have e:(fun y H2=>Q (out ++ x ++ y) H2) = fun y H2=>Q (out ++ (x ++ y)) H2:=by
   funext y H2
   rw [ajo]
 rw [e]
 exact q
theorem pe_fstr {e1 e2:Expr} {t:TX} (h:PXs X (e1 :: e2 :: es) t) (hz:es.length ≤ 10):PE X (.JoinedStr (e1 :: e2 :: es) pos) (fun σ H Q=>t σ H fun y H'=>Q (.str y) H'):=by
 intro pins s σ H Q I hq
 refine JoinedStr_many (thn (h Str.empty pins s σ H (fun y H'=>Q (.str y) H') (by
   rw [List.length_cons,List.length_cons,sizeLine_eq]
   show 0 + _ ≤ _
   omega) I (by
     have e:(fun y H'=>Q (.str (Str.empty ++ y)) H') = fun y H'=>Q (.str y) H':=by
       funext y H'
       rw [nil_str]
     show t σ H (fun y H'=>Q (.str (Str.empty ++ y)) H')
     rw [e]
     exact hq)) fun u s1 ⟨x,k,H1,eu,I1,q⟩=>⟨.str x,H1,I1,⟨k,eu⟩,q⟩)
end
end L2
namespace L2
open PySem PySem.Spec PyProof.Rows MX
section
variable {X:Cx} {CX:CXT} {k:Nat} {f C:Addr} {fd:FuncData} {ps:List Str} {sp:Sp} {dvs:List V} {ds:List Value} {E:XK} {x m:Str} {p pos apos:Pos} {e:Expr} {es:List Expr} {t:TA}
structure Dd (K:PySem.W.Frag) (C:Addr) (m:Str) (v:Value):Prop where
 sp:PySem.W.specialIn K (.ref C) "__getattribute__" = some (some (.builtin "type.__getattribute__"))
 rd:PySem.W.readsIn K C (.type "type") = true
 at_:PySem.W.findCls K (.ref C) (.type "type") m = some (.val v)
theorem ae1 {pl:Sem Bool} (F:bf X.prog X.w X.K X.mg X.base CX k f fd ps sp) (hr:gM k X.A) (hg:Gl X x) (hm:X.mg x = some (.ref C)) (ca:Dd X.K C m (.ref f)) (hk:PySem.W.keepIn X.K (.ref f) = true) (hb:Binds X.K fd ps ds) (hd:Vals dvs ds) (hx:jR CX X E)
   (ha:PA X (e :: es) t) (hdb:(x == ("__debug__":Str)) = false:=by decide) (he:starEach (e :: es) X.env = (false,eval e X.env) :: starEach es X.env:=by rfl) (hpl:(backTo pos (starEach es X.env)).any (·.1) = false:=by rfl)
   (ht:eval (.Call (.Attribute (.Name x p) m apos) (e :: es) [] pos) X.env = (do
     let ov ← eval (.Name x p) X.env
     standAt apos.atName
     let (f,first) ← holding [ov] (getMethod ov m pl)
     callWith pos f first (backTo pos (starEach (e :: es) X.env)) (backToKw pos (keywordEach [] X.env))):=by rfl) :
   PE X (.Call (.Attribute (.Name x p) m apos) (e :: es) [] pos) (Yt sp dvs E t):=by
 intro pins s σ H Q I h
 refine PySem.W.methodCall_KW (pl:=pl) (pK I hg hm ?_ hdb) ht
 refine PySem.W.method_cls I.kIn ca.sp (PySem.W.cls_value I.kIn ca.rd ca.at_ rfl ?_)
 have I1:=I.tok (s.toks + 1)
 refine PySem.W.callWith_K (first:=[]) (h₀:=X.base) I.ok.mod.kin hk (thn (ha pos pins _ σ H _ I1 h) fun us s1 ⟨vs,H1,I2,r,q⟩=>⟨I2.kIn,?_⟩) he hpl
 exact Tr F hr hb hd hx I2 r q
end
def excP (n:Bool) (C:Addr) (dd:Option Addr) (e:Addr) (h:Heap):Prop:=∃ o vs t,h.get? e = some o∧o.cls = .ref C∧o.dict = dd∧o.data = .fields vs∧vs[0]? = some (.ref t)∧(n = true→vs = #[.ref t,.none,.none,.none,.bool false,.none])
def xdP (fs:List (Str × V)) (d:Addr) (h:Heap):Prop:=∃ mA,h.Ns1 d mA∧(∀ f,v9 (fs.lookup f) (mA f))∧PySem.Within mA (fs.map (·.1))
abbrev HO.exc (n:Bool) (C:Addr) (dd:Option Addr) (e:Addr):HO:=.ext (excP n C dd e)
abbrev HO.xds (fs:List (Str × V)) (d:Addr):HO:=.ext (xdP fs d)
theorem excP.ok {P:Program} {w:World} {H:Hp} {h:Heap} {n:Bool} {C e:Addr} {dd:Option Addr} (x:excP n C dd e h):c7 P w H h e (.exc n C dd e):=by
 refine ⟨x,?_,fun h1 h2 y k=>?_⟩
 · obtain ⟨o,_,_,q,_⟩:=x
   exact ⟨o,q⟩
 · obtain ⟨o,vs,t,q,r⟩:=y
   exact ⟨o,vs,t,k o q,r⟩
theorem xdP.ok {P:Program} {w:World} {H:Hp} {h:Heap} {fs:List (Str × V)} {d:Addr} (x:xdP fs d h):c7 P w H h d (.xds fs d):=by
 refine ⟨x,?_,fun h1 h2 y k=>?_⟩
 · obtain ⟨_,⟨o,_,_,q,_⟩,_⟩:=x
   exact ⟨o,q⟩
 · obtain ⟨mA,⟨o,es,ep,q,r⟩,z⟩:=y
   exact ⟨mA,⟨o,es,ep,k o q,r⟩,z⟩
structure ExcC (K:PySem.W.Frag) (C N:Addr):Prop extends ExcGet K C where
 obj:∃ nm q bs bm sn sub ab col dd k0 k1 k2 k3 k5,K.lookup C = some (excClassObj nm q C N bs bm true sn sub ab col dd k0 k1 k2 k3 k5 "ValueError.__new__")∧PySem.W.tailIn K bmV bm = true
 ns:PySem.W.nsOkIn K N = true
 kp:PySem.W.keepIn K (.ref C) = true
theorem ag3 {K:PySem.W.Frag} {h:Heap} {N:Addr} {m:Str→Option Value} {n:Str} {v:Value} (X:K.In h) (G:h.Ns N m) (e:PySem.W.nsIn K N n = some (some v)):m n = some v:=by
 obtain ⟨o,es,ep,ho,hd,_,hf⟩:=G
 unfold PySem.W.nsIn at e
 split at e
 · rename_i q
   have z:=X _ _ q
   rw [ho] at z
   cases z
   cases hd
   split at e
   · rename_i he
     cases e
     rw [← hf]
     unfold nsFind findBy
     rw [← Array.find?_toList,he]
     rfl
   · split at e <;> cases e
 · cases e
section
variable {X:Cx} {CX:CXT} {k:Nat} {f C N:Addr} {fd:FuncData} {ps:List Str} {sp:Sp} {dvs:List V} {ds:List Value} {E:XK} {x m:Str} {p pos apos:Pos} {e:Expr} {es:List Expr} {t:TA}
def tMakeX (C:Addr) (sp:Sp) (dvs:List V) (E:XK) (t:TA):TE:=fun σ H Q=>t σ H fun vs H1=>vs.length ≤ 1000∧∀ a,H1 a = none →
 sp (.ref a :: (vs ++ dvs)) (upd H1 a (.exc true C none a)) (fun v H2=>v = .non∧Q (.ref a) H2) E
theorem ajg {pins:List (Addr × Obj)} {σ:St} {H:Hp} {s:Shared} {Q:VK} {us:List Value} {vs:List V} (M:ExcC X.K C N) (hi:PySem.W.nsIn X.K N "__init__" = some (some (.ref f))) (hfn:PySem.W.isFn X.K (.ref f) = true)
   (F:bf X.prog X.w X.K X.mg X.base CX k f fd ps sp) (hr:gM (k + 1) X.A) (hb:Binds X.K fd ps ds) (hd:Vals dvs ds) (hx:jR CX X E) (I:Inv X pins σ H s) (r:Vals vs us) (hz:us.length ≤ 1000)
   (h:∀ a,H a = none→sp (.ref a :: (vs ++ dvs)) (upd H a (.exc true C none a)) (fun v H2=>v = .non∧Q (.ref a) H2) E) :
   wpAny (model X.prog X.w) X.A (call (.ref C) us) (EP X pins σ Q) X.xe s:=by
 obtain ⟨nm,q,bs,bm,sn,sub,ab,col,dd,k0,k1,k2,k3,k5,lk,tl⟩:=M.obj
 have G:s.heap.Ns N (s.heap.nsMap N):=.of_isNs (PySem.W.isNs_of_in I.kIn M.ns)
 have hf:PySem.W.typeIn X.K (.ref f) = some (.type "function"):=beq_iff_eq.mp hfn
 obtain ⟨oI,ho,hc⟩:=Option.map_eq_some_iff.mp hf
 have hq:=h (s.heap.objs.size + 1) (I.hok.fresh (Nat.le_succ _))
 obtain ⟨hp,g,d,tk,os⟩:=s
 have hx1:(Dv hp C us).get? (hp.objs.size + 1) = some (acD C hp.objs.size):=by
   have:=Heap.get?_push_size (hp.push (acC us)) (o:=acD C hp.objs.size) rfl
   rwa [Heap.size_push] at this
 have I2:Inv X pins σ (upd H (hp.objs.size + 1) (.exc true C none (hp.objs.size + 1))) ⟨Dv hp C us,g,d,tk,os⟩ :=
   I.laid (t':=tk) (fun b u z=>Heap.get?_push_of_some _ (Heap.get?_push_of_some _ z)) (Nat.le_succ _) (excP.ok ⟨_,_,hp.objs.size,hx1,rfl,rfl,rfl,rfl,fun _=>rfl⟩)
 have r2:Vals (V.ref (hp.objs.size + 1) :: (vs ++ dvs)) (Value.ref (hp.objs.size + 1) :: (us ++ ds)):=.cons rfl (r.append hd)
 have hl:(Value.ref (hp.objs.size + 1) :: us ++ ds).length = ps.length:=by
   have z:=r2.length
   rw [F.len _ _ _ _ hq] at z
   exact z.symm
 refine callInit PySem.F.excBase_ValueError (PySem.W.tail_of_in I.kIn tl) (I.kIn _ _ lk) G (ag3 I.kIn G hi) (I.kIn _ _ ho) hc (Nat.le_trans hz (by rw [sizeLine_eq]; decide)) ?_
 refine wpAny_call (codeAny_mono (F.run _ X.stack _ _ ⟨Value.ref (hp.objs.size + 1) :: us,[]⟩ (Value.ref (hp.objs.size + 1) :: (us ++ ds)) _ _ E (hr.make C us []) (I2.env0.make C us []) (hb _ (Value.ref (hp.objs.size + 1) :: us) I2.kIn hl) r2 hq) fun r s' z=>?_)
 cases r with
 | error e=>exact hx pins σ _ _ e s' I2 z
 | ok fl =>
   cases fl with
   | ret u =>
     obtain ⟨v,H',I3,rv,ev,q3⟩:=I2.after z
     subst ev
     exact ⟨rv,V.ref (hp.objs.size + 1),H',I3,rfl,q3⟩
   | next=>exact False.elim z
   | brk=>exact False.elim z
   | cont=>exact False.elim z
theorem pe_makeX (M:ExcC X.K C N) (hi:PySem.W.nsIn X.K N "__init__" = some (some (.ref f))) (hfn:PySem.W.isFn X.K (.ref f) = true) (F:bf X.prog X.w X.K X.mg X.base CX k f fd ps sp) (hr:gM (k + 1) X.A) (hg:Gl X x) (hm:X.mg x = some (.ref C)) (hb:Binds X.K fd ps ds) (hd:Vals dvs ds) (hx:jR CX X E)
   (ha:PA X (e :: es) t) (hdb:(x == ("__debug__":Str)) = false:=by decide) (he:starEach (e :: es) X.env = (false,eval e X.env) :: starEach es X.env:=by rfl) (hpl:(backTo pos (starEach es X.env)).any (·.1) = false:=by rfl) :
   PE X (.Call (.Name x p) (e :: es) [] pos) (tMakeX C sp dvs E t):=by
 intro pins s σ H Q I h
 refine wpAny_Call_Name_kw (pK I hg hm ?_ hdb)
 refine PySem.W.callWith_K (h₀:=X.base) I.ok.mod.kin M.kp (thn (ha pos pins s σ H _ I h) fun us s1 ⟨vs,H1,I1,r,hz,q⟩=>⟨I1.kIn,?_⟩) he hpl
 exact ajg M hi hfn F hr hb hd hx I1 r (by rw [List.nil_append,← r.length]; exact hz) q
def tMakeP (C:Addr) (t:TA):TE:=fun σ H Q=>t σ H fun vs H1=>vs.length ≤ 1000∧∀ a,H1 a = none→Q (.ref a) (upd H1 a (.exc true C none a))
theorem Inv.laidN {pins:List (Addr × Obj)} {σ:St} {H:Hp} {s:Shared} {h':Heap} {a:Addr} {o:HO} {t':Nat} (I:Inv X pins σ H s) (kp:∀ b u,s.heap.get? b = some u→h'.get? b = some u) (hn:s.heap.get? a = none) (new:c7 X.prog X.w (upd H a o) h' a o) :
   H a = none∧Inv X pins σ (upd H a o) { s with heap:=h',toks:=t' }:=by
 have hH:H a = none:=by
   cases q:H a with
   | none=>rfl
   | some u =>
     obtain ⟨ob,e⟩:∃ ob,s.heap.get? a = some ob:=by
       have:=I.hok a u q
       cases u with
       | lst xs=>obtain ⟨_,_,_,_,e⟩:=this; exact ⟨_,e⟩
       | tup xs=>obtain ⟨_,_,_,ob,e,_⟩:=this; exact ⟨ob,e⟩
       | dK kvs=>obtain ⟨_,_,_,_,ob,_,_,e,_⟩:=this; exact ⟨ob,e⟩
       | dT kvs=>obtain ⟨_,_,_,_,ob,_,_,e,_⟩:=this; exact ⟨ob,e⟩
       | set S n=>obtain ⟨ob,_,_,_,e,_⟩:=this; exact ⟨ob,e⟩
       | ins C dx fs=>obtain ⟨_,_,_,e,_⟩:=this; exact ⟨_,e⟩
       | own y=>obtain ⟨ob,e⟩:=this; exact ⟨ob,e⟩
       | xd fs=>obtain ⟨_,⟨ob,_,_,e,_⟩,_⟩:=this; exact ⟨ob,e⟩
       | rng lo hi=>obtain ⟨_,_,_,e⟩:=this; exact ⟨_,e⟩
       | frz ob u=>obtain ⟨e,_⟩:=this; exact ⟨ob,e⟩
       | tbl ps=>exact ⟨_,(show s.heap.get? a = some _ from this)⟩
       | met f y=>exact ⟨_,(show s.heap.get? a = some _ from this)⟩
       | ext φ=>obtain ⟨_,⟨ob,e⟩,_⟩:=this; exact ⟨ob,e⟩
     rw [hn] at e
     cases e
 refine ⟨hH,I.un ⟨fun b u q _ _ _=>kp b u q,fun b u q _ _ _=>⟨u.slots,kp b u q⟩,fun b u q n _=>?_,fun b u q _=>⟨u,kp b u q⟩,fun b xs q=>by rw [az (aK q hH)]; exact q,fun b u xs q=>by rw [az (aK q hH)]; exact q,fun b ps q=>⟨#[],by rw [az (aK q hH),q]; simp⟩⟩ fun b u q=>?_⟩
 · rw [az (by rintro rfl; rw [hn] at q; cases q)]
   exact n
 · by_cases hb:b = a
   · subst hb
     rw [aG] at q
     cases q
     exact new
   · rw [az hb] at q
     exact (I.hok b u q).stay (fun c v _ z=>kp c v z) (fun c z=>by rw [az (aK z hH)]; exact z) fun c xs z=>by rw [az (aK z hH)]; exact z
theorem pe_makeP (M:ExcC X.K C N) (hi:PySem.W.nsIn X.K N "__init__" = some none) (hg:Gl X x) (hm:X.mg x = some (.ref C)) (ha:PA X (e :: es) t) (hdb:(x == ("__debug__":Str)) = false:=by decide) (he:starEach (e :: es) X.env = (false,eval e X.env) :: starEach es X.env:=by rfl)
   (hpl:(backTo pos (starEach es X.env)).any (·.1) = false:=by rfl):PE X (.Call (.Name x p) (e :: es) [] pos) (tMakeP C t):=by
 intro pins s σ H Q I h
 refine wpAny_Call_Name_kw (pK I hg hm ?_ hdb)
 refine PySem.W.callWith_K (h₀:=X.base) I.ok.mod.kin M.kp (thn (ha pos pins s σ H _ I h) fun us s1 ⟨vs,H1,I1,r,hz,q⟩=>⟨I1.kIn,?_⟩) he hpl
 obtain ⟨nm,qn,bs,bm,sn,sub,ab,col,dd,k0,k1,k2,k3,k5,lk,tl⟩:=M.obj
 have G:s1.heap.Ns N (s1.heap.nsMap N):=.of_isNs (PySem.W.isNs_of_in I1.kIn M.ns)
 obtain ⟨hp,g,d,tk,os⟩:=s1
 refine aiB PySem.F.excBase_ValueError (PySem.W.tail_of_in I1.kIn tl) (I1.kIn _ _ lk) G (PySem.W.ns_none_of I1.kIn G hi) (by rw [List.nil_append,← r.length]; exact Nat.le_trans hz (by rw [sizeLine_eq]; decide)) fun h' a mk=>?_
 obtain ⟨tt,e1,_,_⟩:=mk.there
 obtain ⟨nH,I2⟩:=I1.laidN (t':=tk) (o:=.exc true C none a) mk.keeps mk.new (excP.ok ⟨_,_,tt,e1,rfl,rfl,rfl,rfl,fun _=>rfl⟩)
 exact ⟨.ref a,_,I2,rfl,q a nH⟩
def ajp (K:PySem.W.Frag) (t:TA):TE:=fun σ H Q=>t σ H fun vs H1=>∃ n a C N dd rest,vs = .ref a :: rest∧rest.length ≤ 1000∧H1 a = some (.exc n C dd a)∧ExcC K C N∧Q .non H1
theorem ae0 {B:Addr} {pl:Sem Bool} (hg:Gl X x) (hm:X.mg x = some (.ref B)) (ca:Dd X.K B "__init__" (.builtin "ValueError.__init__")) (ha:PA X (e :: es) t) (hdb:(x == ("__debug__":Str)) = false:=by decide)
   (he:starEach (e :: es) X.env = (false,eval e X.env) :: starEach es X.env:=by rfl) (hpl:(backTo pos (starEach es X.env)).any (·.1) = false:=by rfl)
   (ht:eval (.Call (.Attribute (.Name x p) "__init__" apos) (e :: es) [] pos) X.env = (do
     let ov ← eval (.Name x p) X.env
     standAt apos.atName
     let (f,first) ← holding [ov] (getMethod ov "__init__" pl)
     callWith pos f first (backTo pos (starEach (e :: es) X.env)) (backToKw pos (keywordEach [] X.env))):=by rfl) :
   PE X (.Call (.Attribute (.Name x p) "__init__" apos) (e :: es) [] pos) (ajp X.K t):=by
 intro pins s σ H Q I h
 refine PySem.W.methodCall_KW (pl:=pl) (pK I hg hm ?_ hdb) ht
 refine PySem.W.method_cls I.kIn ca.sp (PySem.W.cls_value I.kIn ca.rd ca.at_ (by decide +kernel) ?_)
 have I1:=I.tok (s.toks + 1)
 refine PyProof.Rows.callWith_builtin1 (thn (ha pos pins _ σ H _ I1 h) fun us s1 ⟨vs,H1,I2,r,q⟩=>?_) he hpl
 obtain ⟨n,a,C,N,dd,rest,rfl,hz,hH,M,q⟩:=q
 cases r with
 | @cons _ u0 _ us r0 rr =>
   cases r0
   obtain ⟨nm,qn,bs,bm,sn,sub,ab,col,d2,k0,k1,k2,k3,k5,lk,tl⟩:=M.obj
   obtain ⟨⟨o,fs,t0,e1,e2,e3,e4,e5,e9⟩,_,_⟩:=I2.hok a _ hH
   obtain ⟨hp,g,d,tk,os⟩:=s1
   refine agI PySem.F.excBase_ValueError (PySem.W.tail_of_in I2.kIn tl) (I2.kIn _ _ lk) e1 e2 e4 e5 (by rw [← rr.length]; exact Nat.le_trans hz (by rw [sizeLine_eq]; decide)) fun h' kp e6=>?_
   have I3:=I2.write (x:=a) (e:=a) (o:=.exc n C dd a) (t':=tk) (by rw [hH]; exact True.intro) (.inl rfl) (fun b u hb z=>kp b u hb z) ⟨_,e6⟩ (excP.ok ⟨_,_,hp.objs.size,e6,e2,e3,rfl,by
     have lt:0 < fs.size:=(Array.getElem?_eq_some_iff.mp e5).1
     simp [lt],fun z=>by rw [e9 z]; rfl⟩)
   rw [JN hH] at I3
   exact ⟨.non,H1,I3,rfl,q⟩
end
end L2
namespace L2
open PySem PySem.Spec PyProof.Rows MX
section
variable {X:Cx} {pins:List (Addr × Obj)} {σ:St} {H:Hp} {s:Shared} {h':Heap}
theorem Inv.aju {x d:Addr} {o1 o2:HO} {t':Nat} (I:Inv X pins σ H s) (mu:Mut (H x)) (k:∀ b u,b ≠ x→s.heap.get? b = some u→h'.get? b = some u) (heo:∃ u,h'.get? x = some u) (hd:s.heap.objs.size ≤ d)
   (n1:c7 X.prog X.w (upd (upd H d o2) x o1) h' x o1) (n2:c7 X.prog X.w (upd (upd H d o2) x o1) h' d o2):Inv X pins σ (upd (upd H d o2) x o1) { s with heap:=h',toks:=t' }:=by
 have hn:H d = none:=I.hok.fresh hd
 have nx:∀ b,H b = none→b ≠ x:=fun b n z=>by subst z; rw [n] at mu; exact mu
 have nm:∀ b u,H b = some u→¬ Mut (some u)→b ≠ x:=fun b u q m z=>by subst z; rw [q] at mu; exact m mu
 have nd:∀ b u,s.heap.get? b = some u→b ≠ d:=fun b u e=>Nat.ne_of_lt (Nat.lt_of_lt_of_le (Heap.lt_size e) hd)
 refine I.step (g':=s.gens) (d':=s.drawn) (ch:=[]) (fun _ z=>nomatch z) (fun b u _ _ _ e n=>k b u (nx b n) e) (fun b u _ _ _ e n=>⟨u.slots,k b u (nx b n) e⟩) (fun b u _ e n=>by rw [az (nx b n),az (nd b u e)]; exact n) (fun b u _ e=>?_)
   (fun b xs e=>by rw [az (nm b _ e fun z=>z),az (aK e hn)]; exact e) (fun b u xs e=>by rw [az (nm b _ e fun z=>z),az (aK e hn)]; exact e) (fun b ps e=>⟨#[],by rw [az (nm b _ e fun z=>z),az (aK e hn),e]; simp⟩) (fun m hm=>?_) (fun b u e=>?_) I.bare
 · by_cases hb:b = x
   · rw [hb]; exact heo
   · exact ⟨u,k b u hb e⟩
 · obtain ⟨o',es,ep,ho,r⟩:=hm
   exact ⟨o',es,ep,k _ o' (nx _ I.free) ho,r⟩
 · by_cases hb:b = x
   · subst hb
     rw [aG] at e
     cases e
     exact n1
   · rw [az hb] at e
     by_cases hc:b = d
     · subst hc
       rw [aG] at e
       cases e
       exact n2
     · rw [az hc] at e
       refine (I.hok b u e).stay (fun c v hc q=>k c v ?_ q) (fun c q=>by rw [az (nm c _ q fun z=>z),az (aK q hn)]; exact q) fun c xs q=>by rw [az (nm c _ q fun z=>z),az (aK q hn)]; exact q
       rcases hc with z | z
       · rw [z]; exact hb
       · exact nm c _ z fun q=>q
end
def sFldX (K:PySem.W.Frag) (ta tv:TE) (f:Str):TS:=fun D σ H=>tv σ H fun y H1=>ta σ H1 fun x H2=>∃ n a C,x = .ref a∧ExcGet K C∧cM K C f ∧
 ((H2 a = some (.exc n C none a)∧∀ d,H2 d = none→d ≠ a→D.nx σ (upd (upd H2 d (.xds [(f,y)] d)) a (.exc n C (some d) a))) ∨
   ∃ d fs,H2 a = some (.exc n C (some d) a)∧H2 d = some (.xds fs d)∧fs.length < 900∧D.nx σ (upd H2 d (.xds (j8 f y fs) d)))
def tFldX (K:PySem.W.Frag) (ta:TE) (f:Str):TE:=fun σ H Q=>ta σ H fun x H1=>∃ n a C d fs v,x = .ref a∧H1 a = some (.exc n C (some d) a)∧H1 d = some (.xds fs d)∧ExcGet K C∧cM K C f∧fs.lookup f = some v∧Q v H1
section
variable {X:Cx} {o e value:Expr} {f:Str} {pos pos':Pos} {ta tv:TE}
theorem ahQ {K:PySem.W.Frag} {h:Heap} {C:Addr} {cd:ClassData} (x:K.In h) (e:PySem.W.clsIn K C = some cd):∃ oC,h.get? C = some oC∧oC.data = .cls cd:=by
 unfold PySem.W.clsIn at e
 split at e
 · rename_i q
   cases e
   exact ⟨_,x _ _ q,rfl⟩
 · cases e
theorem aie (ha:PE X o ta) (hv:PE X value tv) (hs:swapsWith value (some (.Attribute o f pos')) pos.line X.env = pure false):PS X (.Assign [.Attribute o f pos'] value pos) (sFldX X.K ta tv f):=by
 intro pins s σ H D I h
 refine plainObj_wpAny_Assign_Attribute (thn (hv pins s σ H _ I h) fun u s1 ⟨y,H1,I1,ry,q⟩=>thn (ha pins s1 σ H1 _ I1 q) fun ov s2 ⟨x,H2,I2,rx,n,a,C,ex,G,na,q2⟩=>?_) hs
 subst ex
 obtain rfl:ov = Value.ref a:=rx
 obtain ⟨cd,l,hc,hdt,hm,hr⟩:=G.cls
 rcases q2 with ⟨hH,q2⟩ | ⟨d,fs,hH,hD,hl,q2⟩
 · obtain ⟨⟨ob,vs,t0,e1,e2,e3,e4,e5⟩,_,_⟩:=I2.hok a _ hH
   have IA:PySem.W.InstAt s2.heap a ob C none:=⟨e1,e2,by unfold PySem.W.notCls; rw [e4],by rw [e3]; trivial⟩
   refine excSet G I2.kIn IA na fun b tk A'=>?_
   obtain ⟨hp,g,dd,tt,os⟩:=s2
   refine ahC e1 e2 (fun c z=>by rw [e4] at z; cases z) e3 (ahQ I2.kIn hc) hdt fun h' tk' kp e6 n1=>⟨rfl,?_⟩
   have ne:a ≠ hp.objs.size:=Nat.ne_of_lt (Heap.lt_size e1)
   refine ⟨σ,_,I2.aju (x:=a) (d:=hp.objs.size) (o1:=.exc n C (some hp.objs.size) a) (o2:=.xds [(f,y)] hp.objs.size) (t':=tk') (by rw [hH]; exact True.intro) kp ⟨_,e6⟩ (Nat.le_refl _) (excP.ok ⟨_,vs,t0,e6,e2,rfl,e4,e5⟩) (xdP.ok ⟨_,n1,fun g=>?_,fun g hg=>?_⟩),q2 _ (I2.hok.fresh (Nat.le_refl _)) ne.symm⟩
   · show v9 (List.lookup g [(f,y)]) (if g = f then some u else none)
     by_cases z:g = f
     · rw [if_pos z,z]
       simp only [List.lookup_cons,beq_self_eq_true]
       exact ry
     · rw [if_neg z]
       simp only [List.lookup_cons,beq_eq_false_iff_ne.mpr z]
       trivial
   · by_cases z:g = f
     · rw [z]; simp
     · exact absurd (if_neg z) hg
 · obtain ⟨⟨ob,vs,t0,e1,e2,e3,e4,e5⟩,_,_⟩:=I2.hok a _ hH
   obtain ⟨⟨mA,n1,rl,wi⟩,_,_⟩:=I2.hok d _ hD
   have n1':=n1
   obtain ⟨oD,esD,epD,eD,_⟩:=n1'
   have IA:PySem.W.InstAt s2.heap a ob C (some oD):=⟨e1,e2,by unfold PySem.W.notCls; rw [e4],by rw [e3]; exact eD⟩
   refine excSet G I2.kIn IA na fun b tk A'=>?_
   obtain ⟨hp,g,dd,tt,os⟩:=s2
   refine ajm (ns:=fs.map (·.1)) e1 e2 e3 (ahQ I2.kIn hc) hdt n1 wi (by rw [List.length_map]; omega) fun h' tk' sb n2=>⟨rfl,?_⟩
   have hd':∃ o,h'.get? d = some o:=let ⟨o,_,_,q,_⟩:=n2; ⟨o,q⟩
   refine ⟨σ,_,I2.write (x:=d) (e:=d) (o:=.xds (j8 f y fs) d) (t':=tk') (by rw [hD]; exact True.intro) (.inl rfl) (fun b u hb z=>(sb.2 b hb).trans z) hd' (xdP.ok ⟨_,n2,fun g=>?_,fun g hg=>?_⟩),q2⟩
   · show v9 ((j8 f y fs).lookup g) (if g = f then some u else mA g)
     rw [Cq]
     by_cases z:g = f
     · rw [if_pos z,if_pos z]; exact ry
     · rw [if_neg z,if_neg z]; exact rl g
   · by_cases z:g = f
     · rw [z]; exact (wG f y fs).1
     · refine (wG f y fs).2 g (wi g fun q=>hg ?_)
       show (if g = f then some u else mA g) = none
       rw [if_neg z]; exact q
theorem pe_fldX (he:PE X e ta) (hb:attributeBase e f X.env (eval e X.env) = eval e X.env):PE X (.Attribute e f pos) (tFldX X.K ta f):=by
 intro pins s σ H Q I h
 refine ahO hb (thn (he pins s σ H _ I h) fun u s1 ⟨x,H1,I1,rx,n,a,C,d,fs,v,ex,hH,hD,G,na,lk,q⟩=>?_)
 subst ex
 obtain rfl:u = Value.ref a:=rx
 obtain ⟨cd,l,hc,hdt,hm,hr⟩:=G.cls
 obtain ⟨⟨ob,vs,t0,e1,e2,e3,e4,e5⟩,_,_⟩:=I1.hok a _ hH
 obtain ⟨⟨mA,n1,rl,wi⟩,_,_⟩:=I1.hok d _ hD
 obtain ⟨oD,eD,look⟩:=Yh n1
 have IA:PySem.W.InstAt s1.heap a ob C (some oD):=⟨e1,e2,by unfold PySem.W.notCls; rw [e4],by rw [e3]; exact eD⟩
 obtain ⟨uv,hu,ru⟩:=v9.some_of (v:=v) (o:=mA f) (by rw [← lk]; exact rl f)
 have hh:PySem.W.hasDictIn X.K C = true:=by
   unfold PySem.W.hasDictIn
   rw [hc]
   exact hdt
 exact aeu G I1.kIn IA (PySem.W.findObj_own hh na rfl (by rw [look,hu])) (Yb ru) ⟨v,H1,I1.tok _,ru,q⟩
inductive TyX (K:PySem.W.Frag) (H:Hp):V→Value→Prop where
 | of {x:V} {t:Value} (h:J9 K H x t):TyX K H x t
 | e0 {n:Bool} {a C:Addr} (h:H a = some (.exc n C none a)) (g:ExcGet K C):TyX K H (.ref a) (.ref C)
 | e1 {n:Bool} {a C d:Addr} {fs:List (Str × V)} (h:H a = some (.exc n C (some d) a)) (h':H d = some (.xds fs d)) (g:ExcGet K C):TyX K H (.ref a) (.ref C)
def clsV:V→Value
 | .ref C=>.ref C
 | .ty n=>.type n
 | _=>.none
def rIsi (K:PySem.W.Frag) (xs:List V) (H:Hp) (Q:VK):Prop:=∃ x c t b,xs = [x,c]∧(c = .ref (match c with | .ref C=>C | _=>0) ∨ c = .ty (match c with | .ty n=>n | _=>""))∧TyX K H x t∧PySem.W.kitOne K t (clsV c) = some b∧Q (.bl b) H
theorem call_isi:rK X (.builtin "isinstance") (rIsi X.K):=by
 intro pins s σ H xs us Q I r h
 obtain ⟨x,c,t,b,rfl,hc,ty,ek,q⟩:=h
 cases r with
 | @cons _ u _ _ rx rr =>
   cases rr with
   | @cons _ cu _ _ rc rr =>
     cases rr
     have ec:cu = clsV c:=by
       rcases hc with z | z <;> · rw [z] at rc ⊢; exact rc
     subst ec
     have fin:∀ tk,EP X pins σ Q (.bool b) { s with toks:=tk }:=fun tk=>⟨.bl b,H,I.tok tk,rfl,q⟩
     cases ty with
     | of ty=>exact aiU I rx ty ek fin
     | @e0 n a C hH G =>
       cases rx
       obtain ⟨⟨ob,vs,t0,e1,e2,e3,e4,e5⟩,_,_⟩:=I.hok a _ hH
       have IA:PySem.W.InstAt s.heap a ob C none:=⟨e1,e2,by unfold PySem.W.notCls; rw [e4],by rw [e3]; trivial⟩
       exact PySem.W.kia_one (excKit G) I.kIn IA ek (fun z=>nomatch z) fin
     | @e1 n a C d fs hH hD G =>
       cases rx
       obtain ⟨⟨ob,vs,t0,e1,e2,e3,e4,e5⟩,_,_⟩:=I.hok a _ hH
       obtain ⟨⟨mA,n1,rl,wi⟩,_,_⟩:=I.hok d _ hD
       obtain ⟨oD,esD,epD,eD,_⟩:=n1
       have IA:PySem.W.InstAt s.heap a ob C (some oD):=⟨e1,e2,by unfold PySem.W.notCls; rw [e4],by rw [e3]; exact eD⟩
       exact PySem.W.kia_one (excKit G) I.kIn IA ek (fun z=>nomatch z) fin
end
theorem kit_sub {K:PySem.W.Frag} {t:Value} {C:Addr} {cd:ClassData} {b:Bool} (h1:PySem.W.clsIn K C = some cd) (h2:PySem.W.typeIn K (.ref C) = some (.type "type")) (h3:PySem.W.subIn K t (.ref C) = some b) (h4:t = .ref C→b = true):PySem.W.kitOne K t (.ref C) = some b:=by
 unfold PySem.W.kitOne
 by_cases q:(t == Value.ref C) = true
 · rw [if_pos q,h4 (beq_iff_eq.mp q)]
 · rw [if_neg q]
   unfold PySem.W.kitCls
   dsimp only
   rw [h1,h2,if_pos (by simp)]
   exact h3
end L2
namespace L2
open PySem PySem.Spec PyProof.Rows
mutual
inductive JV (K:PySem.W.Frag) (H:Hp):V→PyData→Prop
 | non:JV K H .non .none
 | bl (b:Bool):JV K H (.bl b) (.bool b)
 | int (i:Int):JV K H (.int i) (.int i)
 | str (x:Str):JV K H (.str x) (.str x)
 | lst {a:Addr} {xs:List V} {ds:List PyData} (h:SqL K H a xs) (r:mC K H xs ds):JV K H (.ref a) (.list ds)
 | tup {a:Addr} {xs:List V} {ds:List PyData} (h:SqT K H a xs) (r:mC K H xs ds):JV K H (.ref a) (.tuple ds)
inductive mC (K:PySem.W.Frag) (H:Hp):List V→List PyData→Prop
 | nil:mC K H [] []
 | cons {x:V} {xs:List V} {d:PyData} {ds:List PyData} (h:JV K H x d) (r:mC K H xs ds):mC K H (x :: xs) (d :: ds)
end
section
variable {X:Cx} {pins:List (Addr × Obj)} {σ:St} {H:Hp} {s:Shared}
mutual
theorem JV.reads (I:Inv X pins σ H s):∀ {x:V} {d:PyData} {u:Value},JV X.K H x d→RelV x u→∃ as,Reads s.heap u d as
 | _,_,_,.non,r=>by cases r; exact ⟨_,.none⟩
 | _,_,_,.bl b,r=>by cases r; exact ⟨_,.bool b⟩
 | _,_,_,.int i,r=>by obtain ⟨t,rfl⟩:=r; exact ⟨_,.int i t⟩
 | _,_,_,.str x,r=>by obtain ⟨t,rfl⟩:=r; exact ⟨_,.str x t⟩
 | _,_,_,.lst h q,r=>by
   cases r
   obtain ⟨its,rv,p,_⟩:=I.list h
   obtain ⟨as,z⟩:=mC.reads I q rv
   obtain ⟨o,e,c,n,dd⟩:=p.isList
   exact ⟨_,.list e c dd (by simpa using z)⟩
 | _,_,_,.tup h q,r=>by
   cases r
   obtain ⟨its,rv,p,_⟩:=I.tuple h
   obtain ⟨as,z⟩:=mC.reads I q rv
   obtain ⟨o,e,c,n,dd⟩:=p
   exact ⟨_,.tuple e c dd (by simpa using z)⟩
theorem mC.reads (I:Inv X pins σ H s):∀ {xs:List V} {ds:List PyData} {us:List Value},mC X.K H xs ds→Vals xs us→∃ as,ReadsAll s.heap us ds as
 | _,_,_,.nil,.nil=>⟨_,.nil⟩
 | _,_,_,.cons h q,.cons r rr=>by
   obtain ⟨as,z⟩:=JV.reads I h r
   obtain ⟨bs,y⟩:=mC.reads I q rr
   exact ⟨_,.cons z y⟩
end
end
def rEqD (K:PySem.W.Frag) (neg:Bool):R2:=fun x y H Q=>∃ da db,JV K H x da∧JV K H y db∧da.canLay0 = true∧db.canLay0 = true∧da.depth ≤ 50∧Q (.bl (PyData.eqv da db != neg)) H
section
variable {X:Cx}
theorem op_eqD (hu:X.A.units + 64 < cLine):OpR X (compareOp .Eq) (rEqD X.K false):=by
 intro pins s σ H x y v u Q I rx ry h
 obtain ⟨da,db,d1,d2,c1,c2,dp,q⟩:=h
 obtain ⟨as,r1⟩:=d1.reads I rx
 obtain ⟨bs,r2⟩:=d2.reads I ry
 exact SeqAt.compareEq_reads r1 r2 c1 c2 (by omega) ⟨.bl (PyData.eqv da db),H,I,rfl,by simpa using q⟩
theorem op_neD (hu:X.A.units + 64 < cLine):OpR X (compareOp .NotEq) (rEqD X.K true):=by
 intro pins s σ H x y v u Q I rx ry h
 obtain ⟨da,db,d1,d2,c1,c2,dp,q⟩:=h
 obtain ⟨as,r1⟩:=d1.reads I rx
 obtain ⟨bs,r2⟩:=d2.reads I ry
 exact SeqAt.compareNe_reads r1 r2 c1 c2 (by omega) ⟨.bl (!PyData.eqv da db),H,I,rfl,by simpa using q⟩
theorem op_mulS:OpR X (binaryOp .Mult) (fun x y H Q=>∃ i n,x = .str i∧y = .int n∧i.length ≤ 1000∧0 ≤ n∧n ≤ 1000∧Q (.str (Txt.mul i n)) H):=by
 intro pins s σ H x y v u Q I rx ry h
 obtain ⟨i,n,rfl,rfl,h1,h2,h3,q⟩:=h
 obtain ⟨t,rfl⟩:=rx
 obtain ⟨t',rfl⟩:=ry
 exact PySem.SB.mul (mulOk_of 1000 1000 h1 (by omega) (by omega) (by decide) (by decide)) fun t'' k=>⟨.str (Txt.mul i n),H,I.tok k,⟨_,rfl⟩,q⟩
end
end L2
namespace L2
open PySem PySem.Spec PyProof.Rows
section
variable {κ:Type} [DecidableEq κ]
def Hh (kvs:List (κ × V)) (k:κ):Option V:=(kvs.find? fun kv=>decide (kv.1 = k)).map (·.2)
def putK (kvs:List (κ × V)) (k:κ) (v:V):List (κ × V) :=
 if (kvs.any fun kv=>decide (kv.1 = k)) = true then kvs.map (fun kv=>if kv.1 = k then (kv.1,v) else kv) else kvs ++ [(k,v)]
def dropK (kvs:List (κ × V)) (k:κ):List (κ × V):=kvs.filter fun kv=>decide (kv.1 ≠ k)
theorem JQ {p:κ × V} {r:List (κ × V)} {k:κ} (e:p.1 = k):Hh (p :: r) k = some p.2:=by simp [Hh,List.find?_cons,e]
theorem JP {p:κ × V} {r:List (κ × V)} {k:κ} (e:¬ p.1 = k):Hh (p :: r) k = Hh r k:=by simp [Hh,List.find?_cons,e]
theorem Ue (k:κ):∀ kvs:List (κ × V),(kvs.any fun kv=>decide (kv.1 = k)) = (Hh kvs k).isSome
 | []=>rfl
 | p :: r=>by
   rw [List.any_cons]
   by_cases e:p.1 = k
   · simp only [JQ e,decide_eq_true e,Bool.true_or,Option.isSome_some]
   · rw [JP e,decide_eq_false e,Bool.false_or]; exact Ue k r
theorem aeJ (kvs:List (κ × V)) (k:κ) (v:V):(putK kvs k v).length ≤ kvs.length + 1:=by
 unfold putK
 split
 · rw [List.length_map]; omega
 · rw [List.length_append,List.length_cons,List.length_nil]; omega
theorem v9.aiT {o:Option V} {u:Option Value} (r:v9 o u):o.isSome = u.isSome:=by
 cases o with
 | none=>cases u with
   | none=>rfl
   | some _=>exact (show False from r).elim
 | some _=>cases u with
   | none=>exact (show False from r).elim
   | some _=>rfl
theorem v9.getD {o:Option V} {u:Option Value} {d:V} {d':Value} (r:v9 o u) (rd:RelV d d'):RelV (o.getD d) (u.getD d'):=by
 cases o with
 | none=>cases u with
   | none=>exact rd
   | some _=>exact (show False from r).elim
 | some _=>cases u with
   | none=>exact (show False from r).elim
   | some _=>exact r
theorem KV.val {kvs:List (κ × V)} {vs:List (κ × Value)} (r:KV kvs vs) (k:κ):v9 (Hh kvs k) (valueAt vs k):=by
 unfold KV at r
 induction r with
 | nil=>exact True.intro
 | @cons p q ps qs h t ih =>
   obtain ⟨h1,h2⟩:=h
   by_cases e:p.1 = k
   · have e':q.1 = k:=h1.symm.trans e
     have b:valueAt (q :: qs) k = some q.2:=by simp [valueAt,List.find?_cons,e']
     rw [JQ e,b]; exact h2
   · have e':¬ q.1 = k:=fun z=>e (h1.trans z)
     have b:valueAt (q :: qs) k = valueAt qs k:=by simp [valueAt,List.find?_cons,e']
     rw [JP e,b]; exact ih
theorem KV.any {kvs:List (κ × V)} {vs:List (κ × Value)} (r:KV kvs vs) (k:κ):(kvs.any fun kv=>decide (kv.1 = k)) = vs.any fun kv=>decide (kv.1 = k):=by
 unfold KV at r
 induction r with
 | nil=>rfl
 | cons h t ih=>rw [List.any_cons,List.any_cons,ih,h.1]
theorem KV.repl {kvs:List (κ × V)} {vs:List (κ × Value)} (r:KV kvs vs) (k:κ) {y:V} {u:Value} (ry:RelV y u) :
   KV (kvs.map fun kv=>if kv.1 = k then (kv.1,y) else kv) (vs.map fun kv=>if kv.1 = k then (kv.1,u) else kv):=by
 unfold KV at r ⊢
 induction r with
 | nil=>exact .nil
 | @cons p q ps qs h t ih =>
   rw [List.map_cons,List.map_cons]
   refine .cons ?_ ih
   obtain ⟨h1,h2⟩:=h
   by_cases e:p.1 = k
   · rw [if_pos e,if_pos (h1.symm.trans e)]; exact ⟨h1,ry⟩
   · rw [if_neg e,if_neg (fun z=>e (h1.trans z))]; exact ⟨h1,h2⟩
theorem KV.put {kvs:List (κ × V)} {vs:List (κ × Value)} (r:KV kvs vs) (k:κ) {y:V} {u:Value} (ry:RelV y u):KV (putK kvs k y) (stored vs k u):=by
 unfold putK stored
 rw [r.any k]
 by_cases e:(vs.any fun kv=>decide (kv.1 = k)) = true
 · rw [if_pos e,if_pos e]; exact r.repl k ry
 · rw [if_neg e,if_neg e]; exact Paired.snoc r ⟨rfl,ry⟩
theorem KV.drop {kvs:List (κ × V)} {vs:List (κ × Value)} (r:KV kvs vs) (k:κ):KV (dropK kvs k) (without vs k):=by
 unfold KV at r ⊢
 unfold dropK without
 induction r with
 | nil=>exact .nil
 | @cons p q ps qs h t ih =>
   obtain ⟨h1,h2⟩:=h
   rw [List.filter_cons,List.filter_cons]
   by_cases e:p.1 = k
   · have a:¬ decide (p.1 ≠ k) = true:=by simp [e]
     have b:¬ decide (q.1 ≠ k) = true:=by simp [h1.symm.trans e]
     rw [if_neg a,if_neg b]; exact ih
   · have e':¬ q.1 = k:=fun z=>e (h1.trans z)
     have a:decide (p.1 ≠ k) = true:=by simp [e]
     have b:decide (q.1 ≠ k) = true:=by simp [e']
     rw [if_pos a,if_pos b]; exact .cons ⟨h1,h2⟩ ih
theorem KV.keys {kvs:List (κ × V)} {vs:List (κ × Value)} (r:KV kvs vs):kvs.map (·.1) = vs.map (·.1):=by
 unfold KV at r
 induction r with
 | nil=>rfl
 | cons h t ih=>rw [List.map_cons,List.map_cons,ih,h.1]
theorem KV.length {kvs:List (κ × V)} {vs:List (κ × Value)} (r:KV kvs vs):kvs.length = vs.length:=Paired.length r
end
theorem kV_is {P:Program} {w:World} {k:Key} {u:Value} (r:RelV (kV k) u):(cj P w).is k u = true:=by
 cases k with
 | inl i=>obtain ⟨t,e⟩:=(show ∃ t,u = Value.int i t from r); subst e; exact aeL P w i t
 | inr x=>obtain ⟨t,e⟩:=(show ∃ t,u = Value.str x t from r); subst e; exact aeM P w x t
theorem Ye {P:Program} {w:World}:∀ {ks:List Key} {us:List Value},Vals (ks.map kV) us→ItemsAre (cj P w) ks us
 | [],_,r=>by rw [List.map_nil] at r; cases r; exact .nil
 | k :: ks,_,r=>by
   rw [List.map_cons] at r
   cases r with
   | cons h t=>exact .cons (kV_is h) (Ye t)
abbrev KT (H:Hp):List (List Key × V)→List (List Key × Addr × Value)→Prop:=Paired fun p q=>p.1 = q.1∧H q.2.1 = some (.tup (p.1.map kV))∧RelV p.2 q.2.2
theorem KT.val {H:Hp} {kvs:List (List Key × V)} {xs:List (List Key × Addr × Value)} (r:KT H kvs xs) (k:List Key):v9 (Hh kvs k) ((atKey xs k).map (·.2)):=by
 induction r with
 | nil=>exact True.intro
 | @cons p q ps qs h t ih =>
   obtain ⟨h1,_,h2⟩:=h
   by_cases e:p.1 = k
   · have e':q.1 = k:=h1.symm.trans e
     have b:atKey (q :: qs) k = some q.2:=by simp [atKey,List.find?_cons,e']
     rw [JQ e,b]; exact h2
   · have e':¬ q.1 = k:=fun z=>e (h1.trans z)
     have b:atKey (q :: qs) k = atKey qs k:=by simp [atKey,List.find?_cons,e']
     rw [JP e,b]; exact ih
theorem KT.repl {H:Hp} {kvs:List (List Key × V)} {xs:List (List Key × Addr × Value)} (r:KT H kvs xs) (k:List Key) {y:V} {u:Value} (ry:RelV y u) :
   KT H (kvs.map fun kv=>if kv.1 = k then (kv.1,y) else kv) (xs.map (putAt k u)):=by
 induction r with
 | nil=>exact .nil
 | @cons p q ps qs h t ih =>
   rw [List.map_cons,List.map_cons]
   refine .cons ?_ ih
   obtain ⟨h1,h2,h3⟩:=h
   unfold putAt
   by_cases e:p.1 = k
   · rw [if_pos e,if_pos (h1.symm.trans e)]; exact ⟨h1,h2,ry⟩
   · rw [if_neg e,if_neg (fun z=>e (h1.trans z))]; exact ⟨h1,h2,h3⟩
theorem KT.put {H:Hp} {kvs:List (List Key × V)} {xs:List (List Key × Addr × Value)} (r:KT H kvs xs) (k:List Key) {b:Addr} {y:V} {u:Value} (hb:H b = some (.tup (k.map kV))) (ry:RelV y u) :
   KT H (putK kvs k y) (storedH xs k b u):=by
 have e:(kvs.any fun kv=>decide (kv.1 = k)) = (atKey xs k).isSome:=by
   rw [Ue,(r.val k).aiT,Option.isSome_map]
 unfold putK storedH
 rw [e]
 by_cases q:(atKey xs k).isSome = true
 · rw [if_pos q,if_pos q]; exact r.repl k ry
 · rw [if_neg q,if_neg q]; exact Paired.snoc r ⟨rfl,hb,ry⟩
theorem KT.keeps {H H':Hp} {kvs:List (List Key × V)} {xs:List (List Key × Addr × Value)} (r:KT H kvs xs) (ht:∀ b ys,H b = some (.tup ys)→H' b = some (.tup ys)):KT H' kvs xs :=
 Paired.mapP r fun _ _ z=>⟨z.1,ht _ _ z.2.1,z.2.2⟩
section
variable {P:Program} {w:World} {H:Hp} {h:Heap} {a:Addr}
theorem rd_of {u:HO} (ok:HOk P w H h) (e:Rd H a u):c7 P w H h a u:=e.ok ok
theorem dk_rd {kvs:List (Key × V)} (ok:HOk P w H h) (e:Rd H a (.dK kvs)):kvs.length ≤ sizeLine∧(a == sysModules) = false∧∃ vs,KV kvs vs∧h.DictOf (cj P w) a vs :=
 show c7 P w H h a (.dK kvs) from rd_of ok e
theorem dk_of {kvs:List (Key × V)} (ok:HOk P w H h) (e:H a = some (.dK kvs)):kvs.length ≤ sizeLine∧(a == sysModules) = false∧∃ vs,KV kvs vs∧h.DictOf (cj P w) a vs:=dk_rd ok (.inl e)
theorem key_of {ks:List Key} (ok:HOk P w H h) (e:H a = some (.tup (ks.map kV))):(tupleKind (cj P w)).is h ks a:=by
 obtain ⟨_,its,r,o,h1,h2,n,h3⟩:=(show c7 P w H h a (.tup (ks.map kV)) from ok a _ e)
 exact ⟨o,its.toArray,n,h1,h2,h3,by simpa using Ye r⟩
theorem dt_rd {kvs:List (List Key × V)} (ok:HOk P w H h) (e:Rd H a (.dT kvs)):kvs.length ≤ sizeLine∧(a == sysModules) = false ∧
   ∃ xs,KT H kvs xs∧h.DictOfH (tupleKind (cj P w)) a xs:=by
 obtain ⟨z,y,xs,r,o,es,ep,h1,h2,h3,h4,h5⟩:=(show c7 P w H h a (.dT kvs) from rd_of ok e)
 refine ⟨z,y,xs,r,o,es,ep,h1,h2,h3,h4,fun x hx=>?_,h5⟩
 have all:∀ {l:List (List Key × V)} {m:List (List Key × Addr × Value)},KT H l m→∀ x ∈ m,(tupleKind (cj P w)).is h x.1 x.2.1:=by
   intro l m q
   induction q with
   | nil=>intro x hx; exact nomatch hx
   | @cons p q ps qs hq t ih =>
     intro x hx
     rcases List.mem_cons.mp hx with e | hx
     · subst e
       exact key_of ok (by rw [← hq.1]; exact hq.2.1)
     · exact ih x hx
 exact all r x hx
end
def DGet (H:Hp) (a:Addr) (y:V) (r:Option V):Prop :=
 (∃ kvs k,Rd H a (.dK kvs)∧y = kV k∧r = Hh kvs k) ∨ ∃ kvs k b,Rd H a (.dT kvs)∧y = .ref b∧H b = some (.tup (k.map kV))∧r = Hh kvs k
def DPut (H:Hp) (a:Addr) (y v:V) (H':Hp):Prop :=
 (∃ kvs k,H a = some (.dK kvs)∧y = kV k∧kvs.length < sizeLine∧H' = upd H a (.dK (putK kvs k v))) ∨
 ∃ kvs k b,H a = some (.dT kvs)∧y = .ref b∧H b = some (.tup (k.map kV))∧kvs.length < sizeLine∧H' = upd H a (.dT (putK kvs k v))
theorem DGet.k {H:Hp} {a:Addr} {kvs:List (Key × V)} {k:Key} (e:H a = some (.dK kvs)):DGet H a (kV k) (Hh kvs k):=.inl ⟨kvs,k,.inl e,rfl,rfl⟩
theorem DGet.t {H:Hp} {a b:Addr} {kvs:List (List Key × V)} {k:List Key} (e:H a = some (.dT kvs)) (eb:H b = some (.tup (k.map kV))):DGet H a (.ref b) (Hh kvs k):=.inr ⟨kvs,k,b,.inl e,rfl,eb,rfl⟩
theorem DPut.k {H:Hp} {a:Addr} {kvs:List (Key × V)} {k:Key} {v:V} (e:H a = some (.dK kvs)) (hl:kvs.length < sizeLine):DPut H a (kV k) v (upd H a (.dK (putK kvs k v))):=.inl ⟨kvs,k,e,rfl,hl,rfl⟩
theorem DPut.t {H:Hp} {a b:Addr} {kvs:List (List Key × V)} {k:List Key} {v:V} (e:H a = some (.dT kvs)) (eb:H b = some (.tup (k.map kV))) (hl:kvs.length < sizeLine) :
   DPut H a (.ref b) v (upd H a (.dT (putK kvs k v))):=.inr ⟨kvs,k,b,e,rfl,eb,hl,rfl⟩
section
variable {X:Cx} {pins:List (Addr × Obj)} {σ:St} {H:Hp} {s:Shared} {a:Addr} {y v:V} {u r:Value} {o:Option V} {A:Around} {E:Value→Shared→Prop}
theorem Inv.big (I:Inv X pins σ H s):sysModules < s.heap.objs.size:=by
 have h:mainGlobals < s.heap.objs.size:=(I.mod.glob.keeps I.bk).lt
 exact Nat.lt_trans (by decide) h
theorem d_write {h':Heap} {t':Nat} {ob:HO} (I:Inv X pins σ H s) (mu:Mut (H a)) (hs:Heap.SameBut a s.heap h') (he:∃ q,h'.get? a = some q) (new:c7 X.prog X.w (upd H a ob) h' a ob) :
   Inv X pins σ (upd H a ob) { s with heap:=h',toks:=t' } :=
 I.write (x:=a) (e:=a) mu (.inl rfl) (fun b q hb z=>(hs.2 b hb).trans z) he new
theorem dk_new {P:Program} {w:World} {H':Hp} {h':Heap} {kvs:List (Key × V)} {vs:List (Key × Value)} (z:kvs.length ≤ sizeLine) (hd:(a == sysModules) = false) (rel:KV kvs vs) (dd:h'.DictOf (cj P w) a vs) :
   c7 P w H' h' a (.dK kvs):=⟨z,hd,vs,rel,dd⟩
end
section
variable {X:Cx} {pins:List (Addr × Obj)} {σ:St} {H:Hp} {s:Shared} {a:Addr} {kvs:List (Key × V)} {k:Key} {u:Value} {A:Around} {E:Value→Shared→Prop}
end
section
variable {X:Cx} {o i e value:Expr} {pos pos' tpos:Pos} {td ty tv:TE}
end
theorem dk_empty {P:Program} {w:World} {H:Hp} (h:Heap) (hb:sysModules < h.objs.size):c7 P w H (h.push { cls:=.type "dict",data:=.dict #[] }) h.objs.size (.dK []) :=
 ⟨Nat.zero_le _,beq_eq_false_iff_ne.mpr (Ne.symm (Nat.ne_of_lt hb)),[],.nil,Heap.DictOf.new h⟩
section
variable {X:Cx} {pos:Pos}
end
def ahD:List (TE × TE)→St→Hp→(List (V × V)→Hp→Prop)→Prop
 | [],_,H,Q=>Q [] H
 | (tk,tv) :: r,σ,H,Q=>tk σ H fun x H1=>tv σ H1 fun y H2=>ahD r σ H2 fun ps H3=>Q ((x,y) :: ps) H3
abbrev VV:List (V × V)→List (Value × Value)→Prop:=Paired fun p q=>RelV p.1 q.1∧RelV p.2 q.2
def PPs (X:Cx) (pos:Pos) (keys:List (Option Expr)) (values:List Expr) (trs:List (TE × TE)):Prop :=
 ∀ (pins:List (Addr × Obj)) (s:Shared) (σ:St) (H:Hp) (Q:List (V × V)→Hp→Prop),Inv X pins σ H s→ahD trs σ H Q →
   wpAny (model X.prog X.w) X.A (evalPairs (pairTrees keys values X.env pos)) (fun vs s'=>∃ ps H',Inv X pins σ H' s'∧VV ps vs∧Q ps H') X.xe s
theorem pps_nil {X:Cx} {pos:Pos}:PPs X pos [] [] []:=fun pins s σ H Q I h=>pairTrees_nil_walk ⟨[],H,I,.nil,h⟩
theorem pps_cons {X:Cx} {pos:Pos} {k v:Expr} {ks:List (Option Expr)} {vs:List Expr} {tk tv:TE} {trs:List (TE × TE)} (hk:PE X k tk) (hv:PE X v tv) (hr:PPs X pos ks vs trs) :
   PPs X pos (some k :: ks) (v :: vs) ((tk,tv) :: trs):=fun pins s σ H Q I h =>
 pairTrees_cons_walk (thn (hk pins s σ H _ I h) fun u s1 ⟨x,H1,I1,rx,q1⟩=>thn (hv pins s1 σ H1 _ I1 q1) fun w2 s2 ⟨y,H2,I2,ry,q2⟩ =>
   thn (hr pins s2 σ H2 _ I2 q2) fun ws s3 ⟨ps,H3,I3,rel,q3⟩=>⟨(x,y) :: ps,H3,I3,.cons ⟨rx,ry⟩ rel,q3⟩)
def vZ (kvs more:List (Key × V)):List (Key × V):=more.foldl (fun acc kv=>putK acc kv.1 kv.2) kvs
theorem KV.merge:∀ {more:List (Key × V)} {rs:List (Key × Value)} {kvs:List (Key × V)} {vs:List (Key × Value)},KV more rs→KV kvs vs→KV (vZ kvs more) (merged vs rs):=by
 intro more rs kvs vs r
 unfold KV at r
 induction r generalizing kvs vs with
 | nil=>intro q; exact q
 | @cons p q ps qs h t ih =>
   intro r0
   have e:KV (putK kvs p.1 p.2) (stored vs q.1 q.2):=by
     have:=r0.put p.1 h.2
     rw [← h.1]; exact this
   exact ih e
theorem vY:∀ (more kvs:List (Key × V)),(vZ kvs more).length ≤ kvs.length + more.length
 | [],kvs=>by show kvs.length ≤ kvs.length + 0; omega
 | p :: r,kvs=>by
   have h1:=vY r (putK kvs p.1 p.2)
   have h2:=aeJ kvs p.1 p.2
   show (vZ (putK kvs p.1 p.2) r).length ≤ _
   rw [List.length_cons]; omega
theorem QM {P:Program} {w:World}:∀ {kvs:List (Key × V)} {ws:List (Value × Value)},VV (kvs.map fun kv=>(kV kv.1,kv.2)) ws→∃ rs,Carries (cj P w) ws rs∧KV kvs rs
 | [],_,r=>by rw [List.map_nil] at r; cases r; exact ⟨[],True.intro,.nil⟩
 | p :: kvs,_,r=>by
   rw [List.map_cons] at r
   cases r with
   | @cons a b as bs h t =>
     obtain ⟨rs,c,q⟩:=QM (P:=P) (w:=w) t
     obtain ⟨b1,b2⟩:=b
     exact ⟨(p.1,b2) :: rs,⟨kV_is h.1,rfl,c⟩,.cons ⟨rfl,h.2⟩ q⟩
def tDisp (trs:List (TE × TE)):TE:=fun σ H Q=>∀ p,H p = none→ahD trs σ (upd H p (.dK [])) fun ps H2=>H2 p = some (.dK [])∧∃ kvs:List (Key × V),ps = kvs.map (fun kv=>(kV kv.1,kv.2))∧kvs.length ≤ 15∧Q (.ref p) (upd H2 p (.dK (vZ [] kvs)))
theorem pe_disp {X:Cx} {pos:Pos} {keys:List (Option Expr)} {values:List Expr} {trs:List (TE × TE)} (h:PPs X pos keys values trs) (hall:keys.all (·.isSome) = true) (hl:keys.length = values.length) (h0:keys ≠ [])
   (h15:keys.length ≤ 15):PE X (.Dict keys values pos) (tDisp trs):=by
 intro pins s σ H Q I q
 have hn:=I.hok.fresh (Nat.le_refl s.heap.objs.size)
 have I1:=I.laid (a:=s.heap.objs.size) (o:=.dK []) (h':=s.heap.push { cls:=.type "dict",data:=.dict #[] }) (t':=s.toks) (fun _ _ q=>Heap.get?_push_of_some _ q) (Nat.le_refl _) (dk_empty s.heap I.big)
 refine wpAny_Dict_walk (knd:=cj X.prog X.w) hall hl h0 h15 (thn (h pins _ σ _ _ I1 (q _ hn)) fun ws s2 ⟨ps,H2,I2,rel,e,kvs,ep,lk,q2⟩=>?_)
 subst ep
 obtain ⟨rs,c,rk⟩:=QM (P:=X.prog) (w:=X.w) rel
 obtain ⟨z,hd,vs0,r0,dd⟩:=dk_of I2.hok e
 cases r0
 refine ⟨rs,c,dd,fun h' dd' hs=>⟨.ref s.heap.objs.size,_,?_,rfl,q2⟩⟩
 have hz:(vZ [] kvs).length ≤ sizeLine:=by
   have h1:=vY kvs []
   rw [List.length_nil] at h1
   rw [sizeLine_eq]; omega
 have he:∃ q,h'.get? s.heap.objs.size = some q:=let ⟨q,_,_,hq,_⟩:=dd'; ⟨q,hq⟩
 exact d_write I2 (by rw [e]; exact True.intro) hs he (dk_new hz hd (rk.merge .nil) dd')
structure M1 (X:Cx) (o:Expr) (m:Str) (apos:Pos) (e:Expr) (cpos:Pos):Prop where
 base:attributeBase o m X.env (eval o X.env) = eval o X.env
 few:((backTo cpos (starEach [e] X.env)).all (fun x=>!x.1) && (backToKw cpos (keywordEach [] X.env)).all (fun x=>x.1.isSome)
   && decide (([e]:List Expr).length + ([]:List Keyword).length + (if ([]:List Keyword).isEmpty then 0 else 1) < 30)) = true
 line:(apos.endLine == cpos.line) = true
 trees:backTo cpos (starEach [e] X.env) = [(false,eval e X.env)]
structure M2 (X:Cx) (o:Expr) (m:Str) (apos:Pos) (e f:Expr) (cpos:Pos):Prop where
 base:attributeBase o m X.env (eval o X.env) = eval o X.env
 few:((backTo cpos (starEach [e,f] X.env)).all (fun x=>!x.1) && (backToKw cpos (keywordEach [] X.env)).all (fun x=>x.1.isSome)
   && decide (([e,f]:List Expr).length + ([]:List Keyword).length + (if ([]:List Keyword).isEmpty then 0 else 1) < 30)) = true
 line:(apos.endLine == cpos.line) = true
 trees:backTo cpos (starEach [e,f] X.env) = [(false,eval e X.env),(false,eval f X.env)]
def IsD (H:Hp) (a:Addr):Prop:=(∃ kvs,Rd H a (.dK kvs)) ∨ ∃ kvs,Rd H a (.dT kvs)
theorem isD_at {X:Cx} {pins:List (Addr × Obj)} {σ:St} {H:Hp} {s:Shared} {a:Addr} (I:Inv X pins σ H s) (d:IsD H a) :
   s.TypeIs (.ref a) "dict"∧(∀ b,Value.ref a = .ref b→∃ ob,s.heap.get? b = some ob∧ob.dict = none)∧(a == sysModules) = false:=by
 rcases d with ⟨kvs,e⟩ | ⟨kvs,e⟩
 · obtain ⟨_,hd,vs,_,dd⟩:=dk_rd I.hok e
   refine ⟨dd.typeIs,fun b q=>?_,hd⟩
   cases q
   obtain ⟨ob,_,_,h1,h2,_⟩:=dd
   exact ⟨ob,h1,h2.2.1⟩
 · obtain ⟨_,hd,xs,_,dd⟩:=dt_rd I.hok e
   refine ⟨dd.typeIs,fun b q=>?_,hd⟩
   cases q
   obtain ⟨ob,_,_,h1,h2,_⟩:=dd
   exact ⟨ob,h1,h2.2.1⟩
section
variable {X:Cx} {pins:List (Addr × Obj)} {σ:St} {H:Hp} {s:Shared} {a:Addr} {y d:V} {u r:Value} {o:Option V} {A:Around} {E:Value→Shared→Prop}
theorem d_get1 {Q:Value→Shared→Prop} (hu:A.units + 1 < cLine) (I:Inv X pins σ H s) (g:DGet H a y o) (ry:RelV y u) (h:∀ w' s',Inv X pins σ H s'→RelV (o.getD .non) w'→Q w' s') :
   wpAny (model X.prog X.w) A (call (.builtin "dict.get") [.ref a,u]) Q E s:=by
 rcases g with ⟨kvs,k,e,ey,l⟩ | ⟨kvs,k,b,e,ey,eb,l⟩
 · subst ey
   obtain ⟨z,hd,vs,rel,dd⟩:=dk_rd I.hok e
   refine call_meetsIn PySem.F.slot_dict_get dd.typeIs PySem.F.entry_dict_get (PySem.F.args_dict_get_2 _ _) (meets_dict_get (cj X.prog X.w) a (kV_is ry) hd) ⟨_,dd.mapOf,h _ _ (I.tok _) ?_⟩
   rw [l]
   exact (rel.val k).getD rfl
 · subst ey
   cases (show u = Value.ref b from ry)
   obtain ⟨z,hd,xs,rel,dd⟩:=dt_rd I.hok e
   refine call_meetsIn PySem.F.slot_dict_get dd.typeIs PySem.F.entry_dict_get (PySem.F.args_dict_get_2 _ _) (meetsH_dict_get (tupleKind (cj X.prog X.w)) a b hd) ⟨tupleKind_room_in1 hu,k,xs,key_of I.hok eb,dd,h _ _ (I.tok _) ?_⟩
   rw [l]
   exact (rel.val k).getD rfl
end
section
variable {X:Cx} {o e f:Expr} {apos cpos:Pos} {td ty tx:TE}
end
section
variable {X:Cx} {pins:List (Addr × Obj)} {σ:St} {H:Hp} {s:Shared} {a:Addr} {kvs:List (Key × V)} {A:Around} {E:Value→Shared→Prop}
end
section
variable {X:Cx} {pins:List (Addr × Obj)} {σ:St} {H:Hp} {s:Shared} {a:Addr} {y:V} {u:Value} {A:Around} {E:Value→Shared→Prop}
end
end L2
namespace PySem
open Sem (wp)
theorem ai2:typeLookup (.type "list") "keys" = pure none:=am_miss_of_fast (by kernel_rfl)
theorem agU {prog:Program} {w:World} {A:Around} {E:Value→Shared→Prop} {s:Shared} {a:Addr} {o:Obj} {xs:Array Value} {k:Nat} {Q:Option Value→Shared→Prop}
   (hx:s.heap.get? a = some o) (hc:o.cls = .type "list") (hdat:o.data = .seq xs k) (hd:o.dict = none) (hA:A.handled = none)
   (h:∀ h' tk,(∀ b ob,s.heap.get? b = some ob→h'.get? b = some ob)→Q none { s with heap:=h',toks:=tk }) :
   wpAny (model prog w) A (getAttr? (.ref a) "keys") Q E s:=by
 obtain ⟨c,dct,dat,sl⟩:=o
 simp only at hc hdat hd
 subst hc hdat hd
 obtain ⟨hp,g,d,tk,os⟩:=s
 have hT:∀ tk',(⟨hp,g,d,tk',os⟩:Shared).TypeIs (.ref a) "list":=fun _=>⟨_,hx,rfl⟩
 have f1:=sub_AttributeError
 have f3:=F.slot_list_getattribute.lookup
 have f4:=F.slot_list_getattribute.bind (.ref a)
 have f5:=am_list_getattr_none
 unfold getAttr? getAttrBy? getAttrBy
 repeat (any_goals (first | assumption | exact hT _ | ((with_reducible show wpAny _ _ (call (Value.builtin "list.__getattribute__") _ _) _ _ _); refine call_meets F.slot_list_getattribute (hT _) am_entry_list_getattribute (F.args_list_getattribute_2 _ _) (meets_getattribute_miss_list a xs k sl "keys" _ ai2 (by decide +kernel) (by size_fits)) ⟨hx,hA,fun h' tk' e hx'=>?_⟩) | wp_step))
 obtain ⟨t',u',he⟩:=hx'.there
 show wpAny _ _ (getattributeRaised _ _ _ _ _ _ _) _ _ _
 unfold getattributeRaised
 repeat (any_goals (first | assumption | wp_step))
 exact h _ _ hx'.keeps
theorem Jf:plainId "dict.update.loop" = true:=by decide +kernel
theorem aeo:entryFor table "dict.update.loop" = some Builtin.«dict.update.loop»:=entryFor_of_tree (by kernel_rfl)
section
variable {prog:Program} {w:World} {K:Type} [DecidableEq K] {knd:KeyKind prog w K} {A:Around} {R:Result→Shared→Prop}
theorem Oz {T:Addr} {vs:Array Value} {s:Shared} {Q:List Value→Shared→Prop} {E:Value→Shared→Prop} (hT:s.heap.IsTuple T vs) (h:Q vs.toList s):wpAny (model prog w) A (Builtin.Dict.pairItems (.ref T)) Q E s:=by
 unfold Builtin.Dict.pairItems
 refine wpAny_bind (wpAny_typeOf hT.typeIs ?_)
 simp only [show ((Value.type "tuple" == Value.type "list") || (Value.type "tuple" == Value.type "tuple")) = true by decide,if_true]
 obtain ⟨o,ho,_,n,hd⟩:=hT
 exact wpAny_bind (wpAny_seqItems ho hd (wpAny_pure h))
theorem Ig {I l d:Addr} {items:Array Value} (hh:A.in1.handled = none) (dI:d ≠ I) (dl:d ≠ l) (Il:l ≠ I) (ps:List (K × Value)) (hn:items.size = ps.length):∀ (k i:Nat) (t:Tok) (s:Shared) (kvs:List (K × Value)),ps.length - i = k→i ≤ ps.length→s.heap.IsListIter I l i→s.heap.IsList l items→s.heap.DictOf knd d kvs→kvs.length + (ps.length - i) ≤ sizeLine →
   (∀ (j:Nat) (p:K × Value),ps[j]? = some p→∃ (T:Addr) (key:Value),items[j]? = some (Value.ref T)∧T ≠ I∧T ≠ d∧s.heap.IsTuple T #[key,p.2]∧knd.is p.1 key = true) →
   (∀ h' tk kvs',h'.DictOf knd d kvs'→kvs' = (ps.drop i).foldl (fun acc p=>stored acc p.1 p.2) kvs→(∀ b o,b ≠ I→b ≠ d→s.heap.get? b = some o→h'.get? b = some o)→R (.ok (.ret .none)) { s with heap:=h',toks:=tk }) →
   codeAny (model prog w) A (.builtin "dict.update.loop" ⟨[.ref d,.ref I,.int i t,.none],[]⟩) R s:=by
 intro k
 induction k with
 | zero =>
   intro i t s kvs hk hi hit hl hd hz hp hR
   have hin:i = ps.length:=by omega
   subst hin
   refine codeAny_builtin aeo ?_
   rw [Around.under_plainId Jf _]
   show wpAny _ A.in1 (pyNext (.ref I) >>= _) _ _ s
   refine wpAny_bind ((Walks.list hh I l Il items).done s _ _ ⟨by rw [hn]; exact hit,hl⟩ fun h' tk hk'=>?_)
   show wpAny _ _ (Builtin.Dict.addKeywords d [] >>= _) _ _ _
   have:=hR h' tk kvs ⟨_,_,_,hk' d _ (by simp [dI]) hd.choose_spec.choose_spec.choose_spec.1,hd.choose_spec.choose_spec.choose_spec.2⟩ (by rw [List.drop_of_length_le (Nat.le_refl _)]; rfl) (fun b o h1 h2 e=>hk' b o (by simp [h1]) e)
   exact wpAny_bind (wpAny_pure (wpAny_pure this))
 | succ k ih =>
   intro i t s kvs hk hi hit hl hd hz hp hR
   have hlt:i < ps.length:=by omega
   obtain ⟨p,ep⟩:∃ p,ps[i]? = some p:=⟨_,List.getElem?_eq_getElem hlt⟩
   obtain ⟨T,key,eT,TI,Td,hT,hkey⟩:=hp i p ep
   have hdr:ps.drop i = p :: ps.drop (i + 1):=by
     rw [List.drop_eq_getElem_cons hlt]
     rw [List.getElem?_eq_getElem hlt] at ep
     rw [Option.some.inj ep]
   refine codeAny_builtin aeo ?_
   rw [Around.under_plainId Jf _]
   show wpAny _ A.in1 (pyNext (.ref I) >>= _) _ _ s
   refine wpAny_bind ((Walks.list hh I l Il items).item i s _ _ (by omega) ⟨hit,hl⟩ fun v h' tk hP hst' hk'=>?_)
   have hP:items[i]? = some v:=hP
   rw [eT] at hP
   cases hP
   have kT:∀ b,b ≠ I→∀ o,s.heap.get? b = some o→h'.get? b = some o:=fun b hb o e=>hk' b o (by simp [hb]) e
   have hT':(h':Heap).IsTuple T #[key,p.2]:=let ⟨o,ho,r⟩:=hT; ⟨o,kT T TI o ho,r⟩
   have hd':(h':Heap).DictOf knd d kvs:=let ⟨o,es,ep,ho,r⟩:=hd; ⟨o,es,ep,kT d dI o ho,r⟩
   refine wpAny_bind (wpAny_holding (wpAny_bind (wpAny_tryCatch (Oz (s:={ s with heap:=h',toks:=tk }) hT' ?_))))
   show wpAny _ _ (holding [key,p.2] (dictSet d key p.2)) _ _ _
   refine wpAny_holding (wpAny_dictSet_pairs (s:={ s with heap:=h',toks:=tk }) hkey hd' (fun h'' hd'' hs''=>?_) (by omega))
   have kk:∀ b,b ≠ I→b ≠ d→∀ o,s.heap.get? b = some o→h''.get? b = some o:=fun b h1 h2 o e=>(hs''.2 b h2).trans (kT b h1 o e)
   refine wpAny_pure ⟨plainId_quiet Jf _,ih (i + 1) _ _ (stored kvs p.1 p.2) (by omega) hlt (hst'.1.at fun o e=>(hs''.2 I (fun z=>dI z.symm)).trans e) (hst'.2.at fun o e=>(hs''.2 l (fun z=>dl z.symm)).trans e) hd'' (by have:=stored_length_le kvs p.1 p.2; omega) (fun j q eq=>?_) fun h3 tk3 kvs3 d3 e3 k3=>?_⟩
   · obtain ⟨T2,key2,a1,a2,a3,a4,a5⟩:=hp j q eq
     exact ⟨T2,key2,a1,a2,a3,let ⟨o,ho,r⟩:=a4; ⟨o,kk T2 a2 a3 o ho,r⟩,a5⟩
   · exact hR h3 tk3 kvs3 d3 (by rw [hdr]; exact e3) fun b o h1 h2 e=>k3 b o h1 h2 (kk b h1 h2 o e)
theorem Nk {E:Value→Shared→Prop} {s:Shared} {l:Addr} {o:Obj} {items:Array Value} {n0:Nat} {Q:Value→Shared→Prop} (hx:s.heap.get? l = some o) (hc:o.cls = .type "list") (hdat:o.data = .seq items n0) (hdn:o.dict = none) (hA:∀ B:Around,B.handled = A.handled→B.handled = none) (ps:List (K × Value)) (hn:items.size = ps.length) (hz:ps.length ≤ sizeLine)
   (hp:∀ (j:Nat) (p:K × Value),ps[j]? = some p→∃ (T:Addr) (key:Value),items[j]? = some (Value.ref T)∧s.heap.IsTuple T #[key,p.2]∧knd.is p.1 key = true)
   (h:∀ h' tk,h'.DictOf knd s.heap.objs.size (ps.foldl (fun acc p=>stored acc p.1 p.2) [])→(∀ b ob,s.heap.get? b = some ob→h'.get? b = some ob)→Q (.ref s.heap.objs.size) { s with heap:=h',toks:=tk }) :
   wpAny (model prog w) A (call (.type "dict") [.ref l]) Q E s:=by
 refine callType_codes (Q₁:=fun obj s₁=>obj = .ref s.heap.objs.size∧s₁ = { s with heap:=s.heap.push { cls:=.type "dict",data:=.dict #[] } }) F.kt_called_dict (F.kt_typeCall_dict_1 _) F.entry_dict_init (kt_code_dict_new _ ⟨rfl,rfl⟩) ?_
 rintro obj s₁ ⟨rfl,rfl⟩
 have hnew:(s.heap.push { cls:=.type "dict",data:=.dict #[] }).DictOf knd s.heap.objs.size []:=Heap.DictOf.new s.heap
 have hx':(s.heap.push { cls:=.type "dict",data:=.dict #[] }).get? l = some o:=Heap.get?_push_of_some _ hx
 have hll:l < s.heap.objs.size:=Heap.lt_size hx
 refine ⟨hnew.typeIs,F.args_dict_init_2 _ _,?_⟩
 unfold Builtin.«dict.__init__»
 refine wpAny_bind ?_
 unfold Builtin.Dict.selfAndRest
 refine wpAny_bind (wpAny_notOrdered_dict hnew.typeIs ?_)
 show wpAny _ _ (pure (s.heap.objs.size,[Value.ref l])) _ _ _
 refine wpAny_pure ?_
 show wpAny _ _ (Builtin.Dict.updateFrom "dict.__init__" s.heap.objs.size (.ref l) [] .none) _ _ _
 unfold Builtin.Dict.updateFrom
 refine wpAny_bind (wpAny_typeOf (T:="list") ⟨_,hx',hc⟩ ?_)
 rw [if_pos (by decide)]
 refine wpAny_bind (agU hx' hc hdat hdn (hA _ rfl) fun h1 tk1 k1=>?_)
 rw [if_pos (by rfl)]
 refine wpAny_bind (wpAny_rule ?_)
 have hl1:h1.IsList l items:=⟨o,k1 _ _ hx',hc,_,hdat⟩
 refine wpAny_bind (wpAny_pyIter_list (s:={ s with heap:=h1,toks:=tk1 }) hl1 ?_)
 have kd:∀ b ob,s.heap.get? b = some ob→(h1.push { cls:=.type "list_iterator",data:=.fields #[.ref l,.int 0 0] }).get? b = some ob:=fun b ob e=>Heap.get?_push_of_some _ (k1 b ob (Heap.get?_push_of_some _ e))
 obtain ⟨od,es,ep,hod,rd⟩:=hnew
 have hod1:h1.get? s.heap.objs.size = some od:=k1 _ _ hod
 have ld:s.heap.objs.size < h1.objs.size:=Heap.lt_size hod1
 refine wpAny_pure ⟨plainId_quiet Jf _,Ig (knd:=knd) (A:=A.in1) (l:=l) (I:=h1.objs.size) (d:=s.heap.objs.size) (items:=items) (hA _ rfl) (Nat.ne_of_lt ld) (Nat.ne_of_gt hll) (Nat.ne_of_lt (Nat.lt_trans hll ld)) ps hn ps.length 0 0 { s with heap:=h1.push { cls:=.type "list_iterator",data:=.fields #[.ref l,.int 0 0] },toks:=tk1 } [] (by omega) (Nat.zero_le _) ⟨_,Heap.get?_push_size _ rfl,rfl,rfl⟩ (hl1.push _) ⟨od,es,ep,Heap.get?_push_of_some _ hod1,rd⟩ (by simpa using hz) (fun j p e=>?_) fun h3 tk3 kvs3 d3 e3 k3=>?_⟩
 · obtain ⟨T,key,a1,a2,a3⟩:=hp j p e
   obtain ⟨oT,hoT,rT⟩:=a2
   have lT:=Heap.lt_size hoT
   exact ⟨T,key,a1,Nat.ne_of_lt (Nat.lt_trans lT ld),Nat.ne_of_lt lT,⟨oT,kd T oT hoT,rT⟩,a3⟩
 · refine ⟨rfl,h h3 tk3 (by rw [e3] at d3; exact d3) fun b ob e=>?_⟩
   have lb:=Heap.lt_size e
   exact k3 b ob (Nat.ne_of_lt (Nat.lt_trans lb ld)) (Nat.ne_of_lt lb) (kd b ob e)
end
end PySem
namespace L2
open PySem PySem.Spec PyProof.Rows
section
variable {X:Cx} {pins:List (Addr × Obj)} {σ:St} {H:Hp} {s:Shared}
theorem aim (I:Inv X pins σ H s):∀ (ts:List Addr) (ps:List (Key × V)),ts.length = ps.length→(∀ (j:Nat) (t:Addr) (p:Key × V),ts[j]? = some t→ps[j]? = some p→SqT X.K H t [kV p.1,p.2]) →
   ∃ rs:List (Key × Value),KV ps rs∧∀ (j:Nat) (p:Key × Value),rs[j]? = some p→∃ (T:Addr) (key:Value),ts[j]? = some T∧s.heap.IsTuple T #[key,p.2]∧(cj X.prog X.w).is p.1 key = true
 | [],[],_,_=>⟨[],.nil,fun j p e=>by simp at e⟩
 | [],_ :: _,h,_=>by cases h
 | _ :: _,[],h,_=>by cases h
 | t :: ts,p :: ps,h,k=>by
   obtain ⟨rs,r,q⟩:=aim I ts ps (Nat.succ.inj h) fun j t' p' e1 e2=>k (j + 1) t' p' e1 e2
   obtain ⟨its,v,ht,_⟩:=I.tuple (k 0 t p rfl rfl)
   obtain ⟨key,val,rfl,rk,rv⟩:∃ key val,its = [key,val]∧RelV (kV p.1) key∧RelV p.2 val:=by
     cases v with
     | cons a v=>cases v with
       | cons b v=>cases v; exact ⟨_,_,rfl,a,b⟩
   refine ⟨(p.1,val) :: rs,.cons ⟨rfl,rv⟩ r,fun j p' e=>?_⟩
   cases j with
   | zero =>
     cases e
     exact ⟨t,key,rfl,ht,kV_is rk⟩
   | succ j=>exact q j p' e
theorem Zo (hc:X.calm = true):rK X (.type "dict") (fun xs H Q=>∃ (q:Addr) (ts:List Addr) (ps:List (Key × V)),xs = [.ref q]∧SqL X.K H q (ts.map V.ref)∧ts.length = ps.length∧(∀ (j:Nat) (t:Addr) (p:Key × V),ts[j]? = some t→ps[j]? = some p→SqT X.K H t [kV p.1,p.2])∧∀ d,H d = none→Q (.ref d) (upd H d (.dK (vZ [] ps)))):=by
 intro pins s σ H xs us Q I r h
 obtain ⟨q,ts,ps,rfl,hq,hl,ht,k⟩:=h
 obtain ⟨u,rfl,rx⟩:=vals1 r
 cases rx
 obtain ⟨its,r',pl,hz⟩:=I.list hq
 obtain ⟨rs,rk,hp⟩:=aim I ts ps hl ht
 have el:its.length = ps.length:=by rw [← hl,← List.length_map (f:=V.ref),r'.length]
 have ei:∀ (j:Nat) (T:Addr),ts[j]? = some T→its[j]? = some (Value.ref T):=fun j T e=>by
   obtain ⟨u,e1,e2⟩:=r'.get (i:=j) (x:=V.ref T) (by rw [List.getElem?_map,e]; rfl)
   cases e2
   exact e1
 obtain ⟨ob,n0,ho,hcls,hdict,hdat⟩:=pl
 have lr:ps.length = rs.length:=rk.length
 refine Nk (knd:=cj X.prog X.w) ho hcls hdat hdict (fun B e=>?_) rs (by simp; omega) (by rw [List.length_map] at hz; omega) (fun j p e=>?_) fun h' tk dd kp=>?_
 · rw [e]; exact I.ok.hd hc
 · obtain ⟨T,key,a1,a2,a3⟩:=hp j p e
   exact ⟨T,key,by simpa using ei j T a1,a2,a3⟩
 · have z:(vZ [] ps).length ≤ sizeLine:=by
     have h1:=vY ps []
     rw [List.length_map] at hz
     simp at h1
     omega
   exact ⟨.ref s.heap.objs.size,_,I.laid (a:=s.heap.objs.size) (o:=.dK (vZ [] ps)) (t':=tk) (fun b q hq=>kp b q hq) (Nat.le_refl _) (dk_new z (beq_eq_false_iff_ne.mpr (Ne.symm (Nat.ne_of_lt I.big))) (rk.merge .nil) dd),rfl,k _ (I.hok.fresh (Nat.le_refl _))⟩
end
end L2
namespace L2
open PySem PySem.Spec PyProof.Rows
section
variable {prog:Program} {w:World} {A:Around} {E:Value→Shared→Prop} {s:Shared}
theorem aiO {Q:Int→Shared→Prop} (h:Q 4238894112 { s with toks:=s.toks + 1 }):wpAny (model prog w) A (pyHash .none) Q E s:=by
 have hT:s.TypeIs .none "NoneType":=rfl
 unfold pyHash
 have hv:[Value.none].any Value.onHeap = false:=rfl
 show wpAny _ _ (pyHashByItsType .none) Q E s
 unfold pyHashByItsType
 refine wpAny_bind ?_
 rw [cRoomFor,if_neg (by rw [hv]; exact Bool.false_ne_true)]; refine wpAny_pure ?_
 refine wpAny_bind (wpAny_specialOf hT F.slot_NoneType_hash.lookup ?_)
 show wpAny _ _ (if (some (Value.builtin "NoneType.__hash__") == some Value.none) = true then _ else _) Q E s
 rw [if_neg (by rw [beq_builtin_none]; exact Bool.false_ne_true)]
 refine wpAny_bind (wpAny_specialOf hT F.slot_NoneType_hash.lookup ?_)
 show wpAny _ _ (callSpecialIfBoundUnlessNone? .none "__hash__" _ >>= _) Q E s
 refine wpAny_bind (wpAny_callSpecialIfBoundUnlessNone?_slot hT F.slot_NoneType_hash
   (wpAny_call_entry F.slot_NoneType_hash hT F.entry_NoneType_hash
     (show wpAny _ _ (do ret (← mkInt 4238894112)) _ _ s from wpAny_ret_mkInt ?_) (F.args_NoneType_hash_1 _)))
 show wpAny _ _ (if (decide (-(2:Int) ^ 63 ≤ 4238894112) && decide ((4238894112:Int) < 2 ^ 63)) = true then _ else _) Q E _
 rw [if_pos (by decide)]
 exact wpAny_pure h
end
def oIs:Option Key→Value→Bool
 | none,v=>v == .none
 | some k,v=>M4 k v
theorem nU {v:Value} (h:oIs none v = true):v = .none:=eq_of_beq h
def aic (prog:Program) (w:World):PySem.KeyKind prog w (Option Key) where
 is:=oIs
 hash:=fun k=>match k with
   | none=>4238894112
   | some k=>keyH w k
 inj:=fun v a b ha hb=>by
   cases a with
   | none =>
     cases b with
     | none=>rfl
     | some b=>rw [nU ha] at hb; rcases bW hb with ⟨i,t,rfl,e⟩ | ⟨x,t,rfl,e⟩ <;> exact nomatch e
   | some a =>
     cases b with
     | none=>rw [nU hb] at ha; rcases bW ha with ⟨i,t,rfl,e⟩ | ⟨x,t,rfl,e⟩ <;> exact nomatch e
     | some b=>exact congrArg some ((cj prog w).inj v a b ha hb)
 byValue:=fun k v h=>by
   cases k with
   | none=>rw [nU h]; rfl
   | some k=>exact (cj prog w).byValue k v h
 pyHash:=fun {A E s k v Q} hv h=>by
   cases k with
   | none=>rw [nU hv]; exact aiO h
   | some k=>exact (cj prog w).pyHash hv h
 eqBool:=fun {A E s a b u v Q} hu hv h=>by
   cases a with
   | none =>
     have:=nU hu
     subst this
     cases b with
     | none =>
       have:=nU hv
       subst this
       exact SeqAt.EqAt.same Value.none _ _ _ _ (by simpa using h)
     | some b =>
       rcases bW hv with ⟨j,u,rfl,rfl⟩ | ⟨y,u,rfl,rfl⟩
       · exact SeqAt.EqAt.none_int j u _ _ _ _ (by simpa using h)
       · exact SeqAt.EqAt.none_str y u _ _ _ _ (by simpa using h)
   | some a =>
     cases b with
     | none =>
       have:=nU hv
       subst this
       rcases bW hu with ⟨j,u,rfl,rfl⟩ | ⟨y,u,rfl,rfl⟩
       · exact SeqAt.EqAt.int_none j u _ _ _ _ (by simpa using h)
       · exact SeqAt.EqAt.str_none y u _ _ _ _ (by simpa using h)
     | some b=>exact (cj prog w).eqBool hu hv (by simpa using h)
 «strs»:=fun k x t v h=>by
   cases k with
   | none=>exact nomatch (nU h)
   | some k=>exact (cj prog w).strs k x t v h
theorem map_opt {prog:Program} {w:World} {h:Heap} {a:Addr} {vs:List (Key × Value)} (dd:h.DictOf (cj prog w) a vs):∃ f:Option Key→Option Value,h.MapOf (aic prog w) a f∧f none = none:=by
 obtain ⟨o,es,ep,ho,hx,hd,hk,hp,hn⟩:=dd
 refine ⟨_,⟨o,es,ep,ho,hx,hd,fun e he=>?_,fun k=>rfl⟩,?_⟩
 · obtain ⟨k,h1,h2⟩:=hk e he
   exact ⟨some k,h1,h2⟩
 · show (es.find? fun e=>oIs none e.key).map (·.val) = none
   have:es.find? (fun e=>oIs none e.key) = none:=Array.find?_eq_none.mpr fun e he q=>by
     obtain ⟨k,h1,_⟩:=hk e he
     have q:=nU q
     have h1:M4 k e.key = true:=h1
     rw [q] at h1
     rcases bW h1 with ⟨i,t,rfl,e⟩ | ⟨x,t,rfl,e⟩ <;> exact nomatch e
   rw [this]
   rfl
section
variable {X:Cx} {pins:List (Addr × Obj)} {σ:St} {H:Hp} {s:Shared} {a:Addr} {A:Around} {E:Value→Shared→Prop}
theorem d_get1n {kvs:List (Key × V)} {Q:Value→Shared→Prop} (I:Inv X pins σ H s) (e:Rd H a (.dK kvs)) (h:∀ s',Inv X pins σ H s'→Q .none s') :
   wpAny (model X.prog X.w) A (call (.builtin "dict.get") [.ref a,.none]) Q E s:=by
 obtain ⟨z,hd,vs,rel,dd⟩:=dk_rd I.hok e
 obtain ⟨f,hm,hf⟩:=map_opt dd
 refine call_meetsIn PySem.F.slot_dict_get dd.typeIs PySem.F.entry_dict_get (PySem.F.args_dict_get_2 _ _) (meets_dict_get (aic X.prog X.w) a (k:=none) (show oIs none .none = true from rfl) hd) ⟨_,hm,?_⟩
 rw [hf]
 exact h _ (I.tok _)
def tDGet1N (td ty:TE):TE:=fun σ H Q=>td σ H fun x H1=>∃ a,x = .ref a∧IsD H1 a∧ty σ H1 fun y H2=>(y = .non∧(∃ kvs,Rd H2 a (.dK kvs))∧Q .non H2) ∨ ∃ o,DGet H2 a y o∧Q (o.getD .non) H2
theorem ajb {o e:Expr} {apos cpos:Pos} {td ty:TE} (hu:X.A.units + 1 < cLine) (ho:PE X o td) (he:PE X e ty) (m:M1 X o "get" apos e cpos):PE X (.Call (.Attribute o "get" apos) [e] [] cpos) (tDGet1N td ty):=by
 intro pins s σ H Q I h
 refine wpAny_Call_method m.base m.few m.line PySem.F.plainAttrs_dict PySem.F.slot_dict_get PySem.F.type_dict_get (thn (ho pins s σ H _ I h) fun u s1 ⟨x,H1,I1,rx,a,ex,d,q1⟩=>?_)
 subst ex
 obtain rfl:u = Value.ref a:=rx
 obtain ⟨t1,t2,_⟩:=isD_at I1 d
 refine ⟨t1,t2,?_⟩
 rw [m.trees]
 refine Calls.callWith_builtin rfl (Calls.evalArgs_plain (Calls.spliced_cons (thn (he pins s1 σ H1 _ I1 q1) fun iv s2 ⟨y,H2,I2,ry,q2⟩=>Calls.spliced_nil ?_)))
 rcases q2 with ⟨rfl,⟨kvs,hk⟩,q2⟩ | ⟨ov,g,q2⟩
 · cases ry
   exact d_get1n I2 hk fun s3 I3=>⟨.non,H2,I3,rfl,q2⟩
 · exact d_get1 hu I2 g ry fun w' s3 I3 rw'=>⟨_,H2,I3,rw',q2⟩
end
end L2
namespace DL
open PySem PySem.Spec PyProof.Rows MX L2
inductive D where
 | non | bl (b:Bool) | int (i:Int) | str (x:Str) | ty (n:String) | cls (c:Nat)
 | lst (xs:List D) | tup (xs:List D) | rol (xs:List D) | rot (xs:List D)
 | dK (kvs:List (Key × D)) | dT (kvs:List (List Key × D))
 | obj (c:Nat) (fs:List (Str × D)) | exc (c:Nat) (fs:List (Str × D))
inductive Out (α:Type) where
 | ok (a:α) | ex (x:D) | stuck
namespace Out
def bind {α β:Type} (o:Out α) (k:α→Out β):Out β:=match o with
 | .ok a=>k a
 | .ex x=>.ex x
 | .stuck=>.stuck
def opt {α:Type}:Option α→Out α
 | some a=>.ok a
 | none=>.stuck
def bD {α:Type}:Out α→Out α
 | .ok a=>.ok a
 | _=>.stuck
@[simp] theorem aQ {α β:Type} (a:α) (k:α→Out β):(Out.ok a).bind k = k a:=rfl
@[simp] theorem Df {α β:Type} (x:D) (k:α→Out β):(Out.ex x).bind k = .ex x:=rfl
@[simp] theorem oh {α β:Type} (k:α→Out β):(Out.stuck:Out α).bind k = .stuck:=rfl
@[simp] theorem gr {α:Type} (a:α):opt (some a) = .ok a:=rfl
@[simp] theorem wK {α:Type}:(opt none:Out α) = .stuck:=rfl
@[simp] theorem pL {α:Type} (a:α):bD (Out.ok a) = .ok a:=rfl
end Out
def wpO {α:Type} (o:Out α) (P:α→Prop) (R:D→Prop):Prop:=match o with
 | .ok a=>P a
 | .ex x=>R x
 | .stuck=>False
theorem au {α β:Type} {o:Out α} {k:α→Out β} {P:β→Prop} {R:D→Prop} (h:wpO (o.bind k) P R):wpO o (fun a=>wpO (k a) P R) R:=by
 cases o <;> exact h
theorem wpO.mono {α:Type} {o:Out α} {P P':α→Prop} {R R':D→Prop} (h:wpO o P R) (k:∀ a,P a→P' a) (r:∀ x,R x→R' x):wpO o P' R':=by
 cases o with
 | ok a=>exact k a h
 | ex x=>exact r x h
 | stuck=>exact h
theorem bJ {α:Type} {o:Option α} {P:α→Prop} {R:D→Prop} (h:wpO (Out.opt o) P R):∃ a,o = some a∧P a:=by
 cases o with
 | none=>exact False.elim h
 | some a=>exact ⟨a,rfl,h⟩
theorem kh {α:Type} {o:Out α} {P:α→Prop} {R R':D→Prop} (h:wpO o.bD P R):wpO o P R':=by
 cases o with
 | ok a=>exact h
 | ex x=>exact False.elim h
 | stuck=>exact h
section
variable (K:PySem.W.Frag) (Γ:Nat→Option Addr)
mutual
inductive Rep (G:Hp):V→D→Prop
 | non:Rep G .non .non
 | bl (b:Bool):Rep G (.bl b) (.bl b)
 | int (i:Int):Rep G (.int i) (.int i)
 | str (x:Str):Rep G (.str x) (.str x)
 | ty (n:String):Rep G (.ty n) (.ty n)
 | cls {c:Nat} {C:Addr} (h:Γ c = some C):Rep G (.ref C) (.cls c)
 | lst {a:Addr} {vs:List V} {ds:List D} (h:G a = some (.lst vs)) (r:aB G vs ds):Rep G (.ref a) (.lst ds)
 | tup {a:Addr} {vs:List V} {ds:List D} (h:G a = some (.tup vs)) (r:aB G vs ds):Rep G (.ref a) (.tup ds)
 | rol {a:Addr} {vs:List V} {ds:List D} (h:SqL K G a vs) (r:aB G vs ds):Rep G (.ref a) (.rol ds)
 | rot {a:Addr} {vs:List V} {ds:List D} (h:SqT K G a vs) (r:aB G vs ds):Rep G (.ref a) (.rot ds)
 | dK {a:Addr} {kvs:List (Key × V)} {kds:List (Key × D)} (h:G a = some (.dK kvs)) (r:gR G kvs kds):Rep G (.ref a) (.dK kds)
 | dT {a:Addr} {kvs:List (List Key × V)} {kds:List (List Key × D)} (h:G a = some (.dT kvs)) (r:RepT G kvs kds):Rep G (.ref a) (.dT kds)
 | obj {a:Addr} {c:Nat} {C dx:Addr} {fs:List (Str × V)} {fds:List (Str × D)} (h:G a = some (.ins C dx fs)) (g:Γ c = some C) (r:mG G fs fds):Rep G (.ref a) (.obj c fds)
 | e0 {n:Bool} {a:Addr} {c:Nat} {C:Addr} (h:G a = some (.exc n C none a)) (g:Γ c = some C):Rep G (.ref a) (.exc c [])
 | e1 {n:Bool} {a:Addr} {c:Nat} {C d:Addr} {fs:List (Str × V)} {fds:List (Str × D)} (h:G a = some (.exc n C (some d) a)) (h':G d = some (.xds fs d)) (g:Γ c = some C) (r:mG G fs fds):Rep G (.ref a) (.exc c fds)
inductive aB (G:Hp):List V→List D→Prop
 | nil:aB G [] []
 | cons {v:V} {vs:List V} {d:D} {ds:List D} (h:Rep G v d) (r:aB G vs ds):aB G (v :: vs) (d :: ds)
inductive mG (G:Hp):List (Str × V)→List (Str × D)→Prop
 | nil:mG G [] []
 | cons {f:Str} {v:V} {fs:List (Str × V)} {d:D} {fds:List (Str × D)} (h:Rep G v d) (r:mG G fs fds):mG G ((f,v) :: fs) ((f,d) :: fds)
inductive gR (G:Hp):List (Key × V)→List (Key × D)→Prop
 | nil:gR G [] []
 | cons {k:Key} {v:V} {fs:List (Key × V)} {d:D} {fds:List (Key × D)} (h:Rep G v d) (r:gR G fs fds):gR G ((k,v) :: fs) ((k,d) :: fds)
inductive RepT (G:Hp):List (List Key × V)→List (List Key × D)→Prop
 | nil:RepT G [] []
 | cons {k:List Key} {v:V} {fs:List (List Key × V)} {d:D} {fds:List (List Key × D)} (h:Rep G v d) (r:RepT G fs fds):RepT G ((k,v) :: fs) ((k,d) :: fds)
end
end
section
variable {K:PySem.W.Frag} {Γ:Nat→Option Addr} {G G':Hp}
theorem SqT.same (e:bz G G') {a:Addr} {xs:List V} (h:SqT K G a xs):SqT K G' a xs:=by
 rcases h with h | h
 · rcases h with h | ⟨o,h⟩
   · exact .inl (.inl (e _ _ h))
   · exact .inl (.inr ⟨o,e _ _ h⟩)
 · exact .inr h
mutual
theorem Rep.mono (e:bz G G'):∀ {v:V} {d:D},Rep K Γ G v d→Rep K Γ G' v d
 | _,_,.non=>.non
 | _,_,.bl b=>.bl b
 | _,_,.int i=>.int i
 | _,_,.str x=>.str x
 | _,_,.ty n=>.ty n
 | _,_,.cls h=>.cls h
 | _,_,.lst h r=>.lst (e _ _ h) (aB.mono e r)
 | _,_,.tup h r=>.tup (e _ _ h) (aB.mono e r)
 | _,_,.rol h r=>.rol (e.seq h) (aB.mono e r)
 | _,_,.rot h r=>.rot (SqT.same e h) (aB.mono e r)
 | _,_,.dK h r=>.dK (e _ _ h) (gR.mono e r)
 | _,_,.dT h r=>.dT (e _ _ h) (RepT.mono e r)
 | _,_,.obj h g r=>.obj (e _ _ h) g (mG.mono e r)
 | _,_,.e0 h g=>.e0 (e _ _ h) g
 | _,_,.e1 h h' g r=>.e1 (e _ _ h) (e _ _ h') g (mG.mono e r)
theorem aB.mono (e:bz G G'):∀ {v:List V} {d:List D},aB K Γ G v d→aB K Γ G' v d
 | _,_,.nil=>.nil
 | _,_,.cons h r=>.cons (Rep.mono e h) (aB.mono e r)
theorem mG.mono (e:bz G G'):∀ {v:List (Str × V)} {d:List (Str × D)},mG K Γ G v d→mG K Γ G' v d
 | _,_,.nil=>.nil
 | _,_,.cons h r=>.cons (Rep.mono e h) (mG.mono e r)
theorem gR.mono (e:bz G G'):∀ {v:List (Key × V)} {d:List (Key × D)},gR K Γ G v d→gR K Γ G' v d
 | _,_,.nil=>.nil
 | _,_,.cons h r=>.cons (Rep.mono e h) (gR.mono e r)
theorem RepT.mono (e:bz G G'):∀ {v:List (List Key × V)} {d:List (List Key × D)},RepT K Γ G v d→RepT K Γ G' v d
 | _,_,.nil=>.nil
 | _,_,.cons h r=>.cons (Rep.mono e h) (RepT.mono e r)
end
theorem aB.length:∀ {vs:List V} {ds:List D},aB K Γ G vs ds→vs.length = ds.length
 | _,_,.nil=>rfl
 | _,_,.cons _ r=>by rw [List.length_cons,List.length_cons,r.length]
theorem aB.get:∀ {vs:List V} {ds:List D} {i:Nat} {d:D},aB K Γ G vs ds→ds[i]? = some d→∃ v,vs[i]? = some v∧Rep K Γ G v d
 | _,_,_,_,.nil,e=>by simp at e
 | _,_,0,_,.cons h _,e=>by simp at e; subst e; exact ⟨_,rfl,h⟩
 | _,_,i + 1,d,.cons _ r,e=>by
   obtain ⟨v,h1,h2⟩:=aB.get (i:=i) (d:=d) r (by simpa using e)
   exact ⟨v,by simpa using h1,h2⟩
theorem aB.append:∀ {vs ws:List V} {ds es:List D},aB K Γ G vs ds→aB K Γ G ws es→aB K Γ G (vs ++ ws) (ds ++ es)
 | _,_,_,_,.nil,s=>s
 | _,_,_,_,.cons h r,s=>.cons h (r.append s)
theorem aB.take:∀ {vs:List V} {ds:List D} (n:Nat),aB K Γ G vs ds→aB K Γ G (vs.take n) (ds.take n)
 | _,_,0,_=>by simpa using aB.nil
 | _,_,_ + 1,.nil=>.nil
 | _,_,n + 1,.cons h r=>.cons h (r.take n)
theorem aB.drop:∀ {vs:List V} {ds:List D} (n:Nat),aB K Γ G vs ds→aB K Γ G (vs.drop n) (ds.drop n)
 | _,_,0,r=>r
 | _,_,_ + 1,.nil=>.nil
 | _,_,n + 1,.cons _ r=>r.drop n
theorem aB.set {v:V} {d:D} (h:Rep K Γ G v d):∀ {vs:List V} {ds:List D} (n:Nat),aB K Γ G vs ds→aB K Γ G (vs.set n v) (ds.set n d)
 | _,_,_,.nil=>.nil
 | _,_,0,.cons _ r=>.cons h r
 | _,_,n + 1,.cons h' r=>.cons h' (aB.set h n r)
theorem aB.rep {vs:List V} {ds:List D} (h:aB K Γ G vs ds):∀ k:Nat,aB K Γ G (List.replicate k vs).flatten (List.replicate k ds).flatten
 | 0=>.nil
 | k + 1=>by
   rw [List.replicate_succ,List.replicate_succ,List.flatten_cons,List.flatten_cons]
   exact h.append (h.rep k)
theorem aB.reverse {vs:List V} {ds:List D} (h:aB K Γ G vs ds):aB K Γ G vs.reverse ds.reverse:=by
 induction vs generalizing ds with
 | nil=>cases h; exact .nil
 | cons v vs ih =>
   cases h with
   | cons h r =>
     rw [List.reverse_cons,List.reverse_cons]
     exact (ih r).append (.cons h .nil)
theorem mG.look {f:Str}:∀ {fs:List (Str × V)} {fds:List (Str × D)} {d:D},mG K Γ G fs fds→fds.lookup f = some d→∃ v,fs.lookup f = some v∧Rep K Γ G v d
 | _,_,_,.nil,e=>by simp at e
 | _,_,d,.cons (f:=g) h r,e=>by
   by_cases q:f = g
   · subst q
     simp only [List.lookup_cons,beq_self_eq_true] at e
     cases e
     exact ⟨_,by simp [List.lookup_cons],h⟩
   · have q':(f == g) = false:=beq_eq_false_iff_ne.mpr q
     simp only [List.lookup_cons,q'] at e
     obtain ⟨v,h1,h2⟩:=r.look e
     exact ⟨v,by simp only [List.lookup_cons,q']; exact h1,h2⟩
theorem mG.none {f:Str}:∀ {fs:List (Str × V)} {fds:List (Str × D)},mG K Γ G fs fds→fds.lookup f = none→fs.lookup f = none
 | _,_,.nil,_=>rfl
 | _,_,.cons (f:=g) h r,e=>by
   by_cases q:f = g
   · subst q
     simp only [List.lookup_cons,beq_self_eq_true] at e
     cases e
   · have q':(f == g) = false:=beq_eq_false_iff_ne.mpr q
     simp only [List.lookup_cons,q'] at e ⊢
     exact r.none e
theorem mG.length:∀ {fs:List (Str × V)} {fds:List (Str × D)},mG K Γ G fs fds→fs.length = fds.length
 | _,_,.nil=>rfl
 | _,_,.cons _ r=>by rw [List.length_cons,List.length_cons,r.length]
def putD (f:Str) (d:D):List (Str × D)→List (Str × D)
 | []=>[(f,d)]
 | (g,e) :: r=>if g = f then (g,d) :: r else (g,e) :: putD f d r
theorem mG.put {f:Str} {v:V} {d:D} (h:Rep K Γ G v d):∀ {fs:List (Str × V)} {fds:List (Str × D)},mG K Γ G fs fds→mG K Γ G (j8 f v fs) (putD f d fds)
 | _,_,.nil=>.cons h .nil
 | _,_,.cons (f:=g) h' r=>by
   unfold j8 putD
   by_cases q:g = f
   · rw [if_pos q,if_pos q]; exact .cons h r
   · rw [if_neg q,if_neg q]; exact .cons h' (mG.put h r)
end
structure Step (G H G' H':Hp):Prop where
 gg:bz G G'
 hh:bz H H'
 gh:bz G' H'
 sep:∀ b,H b ≠ none→G b = none→G' b = none
theorem Step.refl {G H:Hp} (s:bz G H):Step G H G H:=⟨bz.refl _,bz.refl _,s,fun _ _ h=>h⟩
theorem Step.trans {G H G1 H1 G2 H2:Hp} (a:Step G H G1 H1) (b:Step G1 H1 G2 H2):Step G H G2 H2 :=
 ⟨a.gg.trans b.gg,a.hh.trans b.hh,b.gh,fun x h g=>b.sep x (fun q=>by
   cases e:H x with
   | none=>exact h e
   | some o=>rw [a.hh _ _ e] at q; cases q) (a.sep x h g)⟩
theorem bz.up {H:Hp} {p:Addr} {o:HO} (h:H p = none):bz H (upd H p o):=fun b u q=>by rw [az (aK q h)]; exact q
theorem aJ {G H:Hp} (s:bz G H) {p:Addr} (h:H p = none):G p = none:=s.free h
theorem Step.new {G H:Hp} (s:bz G H) {p:Addr} {o:HO} (h:H p = none):Step G H (upd G p o) (upd H p o):=by
 refine ⟨bz.up (aJ s h),bz.up h,fun b u q=>?_,fun b hb g=>?_⟩
 · by_cases e:b = p
   · subst e; rw [aG] at q ⊢; exact q
   · rw [az e] at q ⊢; exact s _ _ q
 · have e:b ≠ p:=fun e=>hb (e ▸ h)
   rw [az e]; exact g
theorem Step.aside {G H:Hp} (s:bz G H) {p:Addr} {o:HO} (h:H p = none):Step G H G (upd H p o) :=
 ⟨bz.refl _,bz.up h,s.trans (bz.up h),fun _ _ g=>g⟩
inductive Mx where
 | own (ds:List D) | fix (d:D)
def Mx.d:Mx→D
 | .own ds=>.lst ds
 | .fix d=>d
inductive Sl where
 | sh (d:D) | ol (ds:List D) | oll (dss:List (List D)) | od (kvs:List (Key × D)) | odT (kvs:List (List Key × D)) | omx (es:List Mx)
abbrev DSt:=List (Option Sl)
section
variable (K:PySem.W.Frag) (Γ:Nat→Option Addr) (G0 H0 G H:Hp) (O:Addr→Option Nat)
inductive Inner (i:Nat):List V→List (List D)→Prop
 | nil:Inner i [] []
 | cons {b:Addr} {vs ws:List V} {ds:List D} {dss:List (List D)} (h:H b = some (.lst ws)) (g:G b = none) (h0:H0 b = none) (o:O b = some i) (r:aB K Γ G ws ds) (n:V.ref b ∉ vs) (t:Inner i vs dss):Inner i (.ref b :: vs) (ds :: dss)
inductive bw (i:Nat):List V→List Mx→List Addr→Prop
 | nil:bw i [] [] []
 | own {b:Addr} {vs ws:List V} {ds:List D} {es:List Mx} {bs:List Addr} (h:H b = some (.lst ws)) (g:G b = none) (h0:H0 b = none) (o:O b = some i) (r:aB K Γ G ws ds) (n:b ∉ bs) (t:bw i vs es bs):bw i (.ref b :: vs) (.own ds :: es) (b :: bs)
 | fix {v:V} {vs:List V} {d:D} {es:List Mx} {bs:List Addr} (r:Rep K Γ G v d) (t:bw i vs es bs):bw i (v :: vs) (.fix d :: es) bs
def d9 (i:Nat) (v:V):Sl→Prop
 | .sh d=>Rep K Γ G v d
 | .ol ds=>∃ a vs,v = .ref a∧H a = some (.lst vs)∧G a = none∧H0 a = none∧O a = some i∧aB K Γ G vs ds
 | .oll dss=>∃ a vs,v = .ref a∧H a = some (.lst vs)∧G a = none∧H0 a = none∧O a = some i∧V.ref a ∉ vs∧Inner K Γ H0 G H O i vs dss
 | .od kvs=>∃ a vs,v = .ref a∧H a = some (.dK vs)∧G a = none∧H0 a = none∧O a = some i∧gR K Γ G vs kvs
 | .odT kvs=>∃ a vs,v = .ref a∧H a = some (.dT vs)∧G a = none∧H0 a = none∧O a = some i∧RepT K Γ G vs kvs
 | .omx es=>∃ a vs bs,v = .ref a∧H a = some (.lst vs)∧G a = none∧H0 a = none∧O a = some i∧a ∉ bs∧bw K Γ H0 G H O i vs es bs
def Slots (σ:L2.St) (δ:DSt):Prop:=∃ O:Addr→Option Nat,∀ i s,δ[i]? = some (some s)→∃ v,σ[i]? = some (some v)∧d9 K Γ H0 G H O i v s
structure SR (σ:L2.St) (δ:DSt):Prop where
 st:Step G0 H0 G H
 len:δ.length = σ.length
 sl:Slots K Γ H0 G H σ δ
end
section
variable {K:PySem.W.Frag} {Γ:Nat→Option Addr} {G0 H0 G H G' H':Hp} {O:Addr→Option Nat} {σ:L2.St} {δ:DSt}
theorem Inner.step (s:Step G H G' H') {i:Nat}:∀ {vs:List V} {dss:List (List D)},Inner K Γ H0 G H O i vs dss→Inner K Γ H0 G' H' O i vs dss
 | _,_,.nil=>.nil
 | _,_,.cons h g h0 o r n t=>.cons (s.hh _ _ h) (s.sep _ (by rw [h]; exact fun q=>nomatch q) g) h0 o (r.mono s.gg) n (t.step s)
theorem bw.step (s:Step G H G' H') {i:Nat}:∀ {vs:List V} {es:List Mx} {bs:List Addr},bw K Γ H0 G H O i vs es bs→bw K Γ H0 G' H' O i vs es bs
 | _,_,_,.nil=>.nil
 | _,_,_,.own h g h0 o r n t=>.own (s.hh _ _ h) (s.sep _ (by rw [h]; exact fun q=>nomatch q) g) h0 o (r.mono s.gg) n (t.step s)
 | _,_,_,.fix r t=>.fix (r.mono s.gg) (t.step s)
theorem d9.step (s:Step G H G' H') {i:Nat} {v:V} {x:Sl} (h:d9 K Γ H0 G H O i v x):d9 K Γ H0 G' H' O i v x:=by
 have sp:∀ {a:Addr} {o:HO},H a = some o→G a = none→G' a = none:=fun h g=>s.sep _ (by rw [h]; exact fun q=>nomatch q) g
 cases x with
 | sh d=>exact Rep.mono s.gg h
 | ol ds =>
   obtain ⟨a,vs,e,h1,h2,h3,h4,h5⟩:=h
   exact ⟨a,vs,e,s.hh _ _ h1,sp h1 h2,h3,h4,h5.mono s.gg⟩
 | oll ds =>
   obtain ⟨a,vs,e,h1,h2,h3,h4,h5,h6⟩:=h
   exact ⟨a,vs,e,s.hh _ _ h1,sp h1 h2,h3,h4,h5,h6.step s⟩
 | od ds =>
   obtain ⟨a,vs,e,h1,h2,h3,h4,h5⟩:=h
   exact ⟨a,vs,e,s.hh _ _ h1,sp h1 h2,h3,h4,h5.mono s.gg⟩
 | odT ds =>
   obtain ⟨a,vs,e,h1,h2,h3,h4,h5⟩:=h
   exact ⟨a,vs,e,s.hh _ _ h1,sp h1 h2,h3,h4,h5.mono s.gg⟩
 | omx ds =>
   obtain ⟨a,vs,bs,e,h1,h2,h3,h4,h5,h6⟩:=h
   exact ⟨a,vs,bs,e,s.hh _ _ h1,sp h1 h2,h3,h4,h5,h6.step s⟩
theorem SR.step (S:SR K Γ G0 H0 G H σ δ) (s:Step G H G' H'):SR K Γ G0 H0 G' H' σ δ:=by
 obtain ⟨O,q⟩:=S.sl
 refine ⟨S.st.trans s,S.len,O,fun i x e=>?_⟩
 obtain ⟨v,h1,h2⟩:=q i x e
 exact ⟨v,h1,h2.step s⟩
theorem SR.set (S:SR K Γ G0 H0 G H σ δ) {i:Nat} {v:V} {d:D} (r:Rep K Γ G v d):SR K Γ G0 H0 G H (σ.set i (some v)) (δ.set i (some (.sh d))):=by
 obtain ⟨O,q⟩:=S.sl
 refine ⟨S.st,by rw [List.length_set,List.length_set]; exact S.len,O,fun j x e=>?_⟩
 by_cases ij:i = j
 · subst ij
   rw [List.getElem?_set_self'] at e
   cases h:δ[i]? with
   | none=>rw [h] at e; simp at e
   | some y =>
     rw [h] at e
     simp at e
     have lt:i < σ.length:=by rw [← S.len]; exact (List.getElem?_eq_some_iff.mp h).1
     subst e
     exact ⟨v,by rw [List.getElem?_set_self lt],r⟩
 · rw [List.getElem?_set_ne ij] at e
   obtain ⟨v',h1,h2⟩:=q j x e
   exact ⟨v',by rw [List.getElem?_set_ne ij]; exact h1,h2⟩
theorem SR.drop (S:SR K Γ G0 H0 G H σ δ) {δ':DSt} (hl:δ'.length = δ.length) (h:∀ (i:Nat) x,δ'[i]? = some (some x)→δ[i]? = some (some x)):SR K Γ G0 H0 G H σ δ':=by
 obtain ⟨O,q⟩:=S.sl
 exact ⟨S.st,hl.trans S.len,O,fun i x e=>q i x (h i x e)⟩
end
inductive bL (K:PySem.W.Frag) (Γ:Nat→Option Addr) (H G' H':Hp):List V→List (List D)→Prop
 | nil:bL K Γ H G' H' [] []
 | cons {b:Addr} {vs ws:List V} {ds:List D} {dss:List (List D)} (f:H b = none) (h:H' b = some (.lst ws)) (g:G' b = none) (r:aB K Γ G' ws ds) (n:V.ref b ∉ vs) (t:bL K Γ H G' H' vs dss):bL K Γ H G' H' (.ref b :: vs) (ds :: dss)
section
variable (K:PySem.W.Frag) (Γ:Nat→Option Addr) (E:XK)
def okD (G H:Hp) (Q:VK) (d:D):Prop:=∀ v G' H',Step G H G' H'→Rep K Γ G' v d→Q v H'
def exD (G H:Hp) (x:D):Prop:=∀ a G' H',Step G H G' H'→Rep K Γ G' (.ref a) x→E (.ref a) none H'
def teD (f:DSt→Out D):TE:=fun σ H Q=>∃ G0 H0 G δ,SR K Γ G0 H0 G H σ δ∧wpO (f δ) (okD K Γ G H Q) (exD K Γ E G H)
def ttD (f:DSt→Out Bool):TT:=fun σ H Q=>∃ G0 H0 G δ,SR K Γ G0 H0 G H σ δ∧wpO (f δ) (fun b=>∀ G' H',Step G H G' H'→Q b H') (exD K Γ E G H)
def taD (f:DSt→Out (List D)):TA:=fun σ H Q=>∃ G0 H0 G δ,SR K Γ G0 H0 G H σ δ∧wpO (f δ) (fun ds=>∀ vs G' H',Step G H G' H'→aB K Γ G' vs ds→Q vs H') (exD K Γ E G H)
def tbD (f:DSt→Out D):TE:=fun σ H Q=>∃ G0 H0 G δ,SR K Γ G0 H0 G H σ δ∧wpO (f δ) (fun d=>∀ v G' H',Step G H G' H'→Rep K Γ H' v d→Q v H') (exD K Γ E G H)
inductive Fl where
 | nx (δ:DSt) | rt (d:D) | bk (δ:DSt) | ct (δ:DSt) | rl (ds:List D) | rll (dss:List (List D))
def FlOk (G0 H0:Hp) (N:Ends):Fl→Prop
 | .nx δ=>∀ σ G H,SR K Γ G0 H0 G H σ δ→N.nx σ H
 | .rt d=>∀ v G H,Step G0 H0 G H→Rep K Γ G v d→N.rt v H
 | .bk δ=>∀ σ G H,SR K Γ G0 H0 G H σ δ→N.bk σ H
 | .ct δ=>∀ σ G H,SR K Γ G0 H0 G H σ δ→N.ct σ H
 | .rl ds=>∀ a vs G H,Step G0 H0 G H→H0 a = none→H a = some (.lst vs)→G a = none→aB K Γ G vs ds→N.rt (.ref a) H
 | .rll dss=>∀ a vs G H,Step G0 H0 G H→H0 a = none→H a = some (.lst vs)→G a = none→V.ref a ∉ vs→bL K Γ H0 G H vs dss→N.rt (.ref a) H
def tsD (g:DSt→Out Fl):TS:=fun N σ H=>∃ G0 H0 G δ,SR K Γ G0 H0 G H σ δ∧wpO (g δ) (FlOk K Γ G0 H0 N) (exD K Γ E G0 H0)
end
section
variable {K:PySem.W.Frag} {Γ:Nat→Option Addr} {E:XK} {G H G1 H1:Hp}
theorem okD.step {Q:VK} {d:D} (h:okD K Γ G H Q d) (s:Step G H G1 H1):okD K Γ G1 H1 Q d:=fun v G' H' s' r=>h v G' H' (s.trans s') r
theorem exD.step {x:D} (h:exD K Γ E G H x) (s:Step G H G1 H1):exD K Γ E G1 H1 x:=fun v G' H' s' r=>h v G' H' (s.trans s') r
end
abbrev DE (X:Cx) (Γ:Nat→Option Addr) (E:XK) (e:Expr) (f:DSt→Out D):Prop:=PE X e (teD X.K Γ E f)
abbrev DB (X:Cx) (Γ:Nat→Option Addr) (E:XK) (e:Expr) (f:DSt→Out D):Prop:=PE X e (tbD X.K Γ E f)
abbrev DT (X:Cx) (Γ:Nat→Option Addr) (E:XK) (e:Expr) (f:DSt→Out Bool):Prop:=PT X e (ttD X.K Γ E f)
abbrev DW (X:Cx) (Γ:Nat→Option Addr) (E:XK) (e:Expr) (f:DSt→Out Bool):Prop:=PW X e (ttD X.K Γ E f)
abbrev DA (X:Cx) (Γ:Nat→Option Addr) (E:XK) (es:List Expr) (f:DSt→Out (List D)):Prop:=PA X es (taD X.K Γ E f)
abbrev DS (X:Cx) (Γ:Nat→Option Addr) (E:XK) (st:Stmt) (g:DSt→Out Fl):Prop:=PS X st (tsD X.K Γ E g)
abbrev DSs (X:Cx) (Γ:Nat→Option Addr) (E:XK) (st:List Stmt) (g:DSt→Out Fl):Prop:=PSs X st (tsD X.K Γ E g)
section
variable {X:Cx}
theorem PE.imp {e:Expr} {t t':TE} (h:PE X e t) (k:∀ σ H Q,t' σ H Q→t σ H Q):PE X e t':=fun pins s σ H Q I q=>h pins s σ H Q I (k _ _ _ q)
theorem PT.imp {e:Expr} {t t':TT} (h:PT X e t) (k:∀ σ H Q,t' σ H Q→t σ H Q):PT X e t':=fun pins s σ H Q I q=>h pins s σ H Q I (k _ _ _ q)
theorem PW.imp {e:Expr} {t t':TT} (h:PW X e t) (k:∀ σ H Q,t' σ H Q→t σ H Q):PW X e t':=fun wh pins s σ H Q I q=>h wh pins s σ H Q I (k _ _ _ q)
theorem PA.imp {e:List Expr} {t t':TA} (h:PA X e t) (k:∀ σ H Q,t' σ H Q→t σ H Q):PA X e t':=fun p pins s σ H Q I q=>h p pins s σ H Q I (k _ _ _ q)
theorem PS.imp {e:Stmt} {t t':TS} (h:PS X e t) (k:∀ D σ H,t' D σ H→t D σ H):PS X e t':=fun pins s σ H Q I q=>h pins s σ H Q I (k _ _ _ q)
theorem PSs.imp {e:List Stmt} {t t':TS} (h:PSs X e t) (k:∀ D σ H,t' D σ H→t D σ H):PSs X e t':=fun pins s σ H Q I q=>h pins s σ H Q I (k _ _ _ q)
end
end DL
namespace DL
open PySem PySem.Spec PyProof.Rows MX L2
def gv (i:Nat):DSt→Out D:=fun δ=>match δ[i]? with
 | some (some (.sh d))=>.ok d
 | _=>.stuck
def slD:Sl→D
 | .sh d=>d
 | .ol ds=>.lst ds
 | .oll dss=>.lst (dss.map .lst)
 | .od kvs=>.dK kvs
 | .odT kvs=>.dT kvs
 | .omx es=>.lst (es.map Mx.d)
def gb (i:Nat):DSt→Out D:=fun δ=>match δ[i]? with
 | some (some s)=>.ok (slD s)
 | _=>.stuck
section
variable {X:Cx} {Γ:Nat→Option Addr} {E:XK} {e a b c:Expr} {pos:Pos}
theorem aq (i:Nat) {x:Str} (h:PE X (.Name x pos) (CT i)):DE X Γ E (.Name x pos) (gv i):=PE.imp h fun σ H Q ⟨G0,H0,G,δ,S,w⟩=>by
 unfold gv at w
 split at w
 · rename_i d e
   obtain ⟨O,q⟩:=S.sl
   obtain ⟨v,h1,h2⟩:=q i _ e
   exact ⟨v,h1,w v G H (.refl S.st.gh) h2⟩
 · exact False.elim w
theorem Inner.rep {K:PySem.W.Frag} {H0 G H:Hp} {O:Addr→Option Nat} (s:bz G H) {i:Nat}:∀ {vs:List V} {dss:List (List D)},Inner K Γ H0 G H O i vs dss→aB K Γ H vs (dss.map .lst)
 | _,_,.nil=>.nil
 | _,_,.cons h g h0 o r n t=>.cons (.lst h (r.mono s)) (t.rep s)
theorem bw.rep {K:PySem.W.Frag} {H0 G H:Hp} {O:Addr→Option Nat} (s:bz G H) {i:Nat}:∀ {vs:List V} {es:List Mx} {bs:List Addr},bw K Γ H0 G H O i vs es bs→aB K Γ H vs (es.map Mx.d)
 | _,_,_,.nil=>.nil
 | _,_,_,.own h g h0 o r n t=>.cons (.lst h (r.mono s)) (t.rep s)
 | _,_,_,.fix r t=>.cons (r.mono s) (t.rep s)
theorem d9.rep {K:PySem.W.Frag} {H0 G H:Hp} {O:Addr→Option Nat} (s:bz G H) {i:Nat} {v:V} {x:Sl} (h:d9 K Γ H0 G H O i v x):Rep K Γ H v (slD x):=by
 cases x with
 | sh d=>exact Rep.mono s h
 | ol ds=>obtain ⟨a,vs,e,h1,h2,h3,h4,h5⟩:=h; subst e; exact .lst h1 (h5.mono s)
 | oll ds=>obtain ⟨a,vs,e,h1,h2,h3,h4,h5,h6⟩:=h; subst e; exact .lst h1 (h6.rep s)
 | od ds=>obtain ⟨a,vs,e,h1,h2,h3,h4,h5⟩:=h; subst e; exact .dK h1 (h5.mono s)
 | odT ds=>obtain ⟨a,vs,e,h1,h2,h3,h4,h5⟩:=h; subst e; exact .dT h1 (h5.mono s)
 | omx ds=>obtain ⟨a,vs,bs,e,h1,h2,h3,h4,h5,h6⟩:=h; subst e; exact .lst h1 (h6.rep s)
theorem aU (i:Nat) {x:Str} (h:PE X (.Name x pos) (CT i)):DB X Γ E (.Name x pos) (gb i):=PE.imp h fun σ H Q ⟨G0,H0,G,δ,S,w⟩=>by
 unfold gb at w
 split at w
 · rename_i d e
   obtain ⟨O,q⟩:=S.sl
   obtain ⟨v,h1,h2⟩:=q i _ e
   exact ⟨v,h1,w v G H (.refl S.st.gh) (h2.rep S.st.gh)⟩
 · exact False.elim w
theorem bh {f:DSt→Out D} (h:DE X Γ E e f):DB X Γ E e f:=PE.imp h fun σ H Q ⟨G0,H0,G,δ,S,w⟩ =>
 ⟨G0,H0,G,δ,S,w.mono (fun d k v G' H' s r=>k v G' H' s (r.mono s.gh)) fun _ k=>k⟩
theorem de_c {v:V} {d:D} (h:PE X e (tC v)) (r:∀ G,Rep X.K Γ G v d):DE X Γ E e (fun _=>.ok d):=PE.imp h fun σ H Q ⟨G0,H0,G,δ,S,w⟩=>w v G H (.refl S.st.gh) (r G)
theorem aM {i j}:DE X Γ E (.Constant (.int i) j pos) (fun _=>.ok (.int i)):=de_c pe_int fun _=>.int i
theorem mQ {i j}:DE X Γ E (.Constant (.bool i) j pos) (fun _=>.ok (.bl i)):=de_c pe_bl fun _=>.bl i
theorem Ge {j}:DE X Γ E (.Constant .none j pos) (fun _=>.ok .non):=de_c ahd fun _=>.non
theorem cD {x j}:DE X Γ E (.Constant (.str x) j pos) (fun _=>.ok (.str x)):=de_c pe_str fun _=>.str x
def o2 (g:D→D→Option D) (fa fb:DSt→Out D):DSt→Out D:=fun δ=>(fa δ).bind fun x=>(fb δ).bind fun y=>.opt (g x y)
def DR2 (K:PySem.W.Frag) (Γ:Nat→Option Addr) (r:R2) (g:D→D→Option D):Prop :=
 ∀ G H x y dx dy d Q,bz G H→Rep K Γ G x dx→Rep K Γ G y dy→g dx dy = some d→okD K Γ G H Q d→r x y H Q
theorem d2 {r:R2} {g:D→D→Option D} {fa fb:DSt→Out D} (hr:DR2 X.K Γ r g) (h:PE X e (tOp r (teD X.K Γ E fa) (teD X.K Γ E fb))):DE X Γ E e (o2 g fa fb):=PE.imp h fun σ H Q ⟨G0,H0,G,δ,S,w⟩=>by
 refine ⟨G0,H0,G,δ,S,(au w).mono (fun x w v G1 H1 s1 r1=>?_) fun _ k=>k⟩
 refine ⟨G0,H0,G1,δ,S.step s1,(au w).mono (fun y w u G2 H2 s2 r2=>?_) fun _ k=>k.step s1⟩
 obtain ⟨d,e,k⟩:=bJ w
 exact hr G2 H2 v u x y d Q s2.gh (r1.mono s2.gg) r2 e (k.step (s1.trans s2))
def o2b (g:D→D→Option Bool) (fa fb:DSt→Out D):DSt→Out Bool:=fun δ=>(fa δ).bind fun x=>(fb δ).bind fun y=>.opt (g x y)
def bV (f:DSt→Out Bool):DSt→Out D:=fun δ=>(f δ).bind fun b=>.ok (.bl b)
def DRB (K:PySem.W.Frag) (Γ:Nat→Option Addr) (r:R2) (g:D→D→Option Bool):Prop :=
 ∀ H x y dx dy b Q,Rep K Γ H x dx→Rep K Γ H y dy→g dx dy = some b→Q (.bl b) H→r x y H Q
theorem d2b {r:R2} {g:D→D→Option Bool} {fa fb:DSt→Out D} (hr:DRB X.K Γ r g) (h:PE X e (tOp r (tbD X.K Γ E fa) (tbD X.K Γ E fb))):DE X Γ E e (bV (o2b g fa fb)):=PE.imp h fun σ H Q ⟨G0,H0,G,δ,S,w⟩=>by
 refine ⟨G0,H0,G,δ,S,(au (au w)).mono (fun x w v G1 H1 s1 r1=>?_) fun _ k=>k⟩
 refine ⟨G0,H0,G1,δ,S.step s1,(au w).mono (fun y w u G2 H2 s2 r2=>?_) fun _ k=>k.step s1⟩
 obtain ⟨d,e,k⟩:=bJ w
 exact hr H2 v u x y d Q (r1.mono s2.hh) r2 e (k _ G2 H2 (s1.trans s2) (.bl d))
theorem d2t {r:R2} {g:D→D→Option Bool} {fa fb:DSt→Out D} (hr:DRB X.K Γ r g) (h:PT X e (tTest (tOp r (tbD X.K Γ E fa) (tbD X.K Γ E fb)))):DT X Γ E e (o2b g fa fb):=PT.imp h fun σ H Q ⟨G0,H0,G,δ,S,w⟩=>by
 refine ⟨G0,H0,G,δ,S,(au w).mono (fun x w v G1 H1 s1 r1=>?_) fun _ k=>k⟩
 refine ⟨G0,H0,G1,δ,S.step s1,(au w).mono (fun y w u G2 H2 s2 r2=>?_) fun _ k=>k.step s1⟩
 obtain ⟨d,e,k⟩:=bJ w
 exact hr H2 v u x y d _ (r1.mono s2.hh) r2 e ⟨d,rfl,k G2 H2 (s1.trans s2)⟩
def bZ:D→D→Option D
 | .int i,.int j=>some (.int (i + j))
 | .str i,.str j=>if i.length + j.length ≤ sizeLine then some (.str (i ++ j)) else none
 | .lst i,.lst j=>if i.length + j.length ≤ sizeLine then some (.lst (i ++ j)) else none
 | _,_=>none
def subD:D→D→Option D
 | .int i,.int j=>some (.int (i - j))
 | _,_=>none
instance (i j:Int):Decidable (Dz i j):=by unfold Dz; infer_instance
instance (i j:Int):Decidable (CDiv i j):=by unfold CDiv; infer_instance
def K5:D→D→Option D
 | .int i,.int j=>if Dz i j then some (.int (i * j)) else none
 | .str i,.int j=>if i.length ≤ 1000∧0 ≤ j∧j ≤ 1000 then some (.str (Txt.mul i j)) else none
 | .lst i,.int j=>if -(2 ^ 63) ≤ j∧j < 2 ^ 63∧i.length * j.toNat ≤ sizeLine then some (.lst (List.replicate j.toNat i).flatten) else none
 | _,_=>none
def aev:D→D→Option D
 | .int i,.int j=>if CDiv i j then some (.int (i / j)) else none
 | _,_=>none
def fX:D→D→Option D
 | .int i,.int j=>if 0 < j then some (.int (i % j)) else none
 | _,_=>none
theorem dr_add {K:PySem.W.Frag}:DR2 K Γ (fun x y H Q=>(rI0 fun i j=>.int (i + j)) x y H Q ∨ (∃ i j,x = .str i∧y = .str j∧i.length + j.length ≤ sizeLine∧Q (.str (i ++ j)) H) ∨ rCat x y H Q) bZ:=by
 intro G H x y dx dy d Q s rx ry e k
 unfold bZ at e
 split at e
 · cases e; cases rx; cases ry; exact .inl ⟨_,_,rfl,rfl,k _ G H (.refl s) (.int _)⟩
 · split at e
   · cases e; cases rx; cases ry; rename_i h; exact .inr (.inl ⟨_,_,rfl,rfl,h,k _ G H (.refl s) (.str _)⟩)
   · cases e
 · split at e
   · cases e
     rename_i h
     cases rx with
     | lst h1 r1 =>
       cases ry with
       | lst h2 r2 =>
         refine .inr (.inr ⟨_,_,_,_,rfl,rfl,s _ _ h1,s _ _ h2,by rw [r1.length,r2.length]; exact h,fun p hp=>k _ _ _ (.new s hp) (.lst aG ?_)⟩)
         exact (r1.append r2).mono (bz.up (aJ s hp))
   · cases e
 · cases e
theorem cG {fa fb:DSt→Out D} (ha:DE X Γ E a fa) (hb:DE X Γ E b fb):DE X Γ E (.BinOp a .Add b pos) (o2 bZ fa fb):=d2 dr_add (ae2 (op_add.or (ahc.or op_cat)) ha hb)
theorem dr_mul {K:PySem.W.Frag}:DR2 K Γ (fun x y H Q=>(rI Dz fun i j=>.int (i * j)) x y H Q ∨ (∃ i n,x = .str i∧y = .int n∧i.length ≤ 1000∧0 ≤ n∧n ≤ 1000∧Q (.str (Txt.mul i n)) H) ∨ rRep x y H Q) K5:=by
 intro G H x y dx dy d Q s rx ry e k
 unfold K5 at e
 split at e
 · split at e
   · rename_i h; cases e; cases rx; cases ry; exact .inl ⟨_,_,rfl,rfl,h,k _ G H (.refl s) (.int _)⟩
   · cases e
 · split at e
   · rename_i h; cases e; cases rx; cases ry; exact .inr (.inl ⟨_,_,rfl,rfl,h.1,h.2.1,h.2.2,k _ G H (.refl s) (.str _)⟩)
   · cases e
 · split at e
   · rename_i h
     cases e
     cases ry
     cases rx with
     | lst h1 r1 =>
       refine .inr (.inr ⟨_,_,_,rfl,rfl,s _ _ h1,h.1,h.2.1,by rw [r1.length]; exact h.2.2,fun p hp=>k _ _ _ (.new s hp) (.lst aG ?_)⟩)
       exact (r1.rep _).mono (bz.up (aJ s hp))
   · cases e
 · cases e
theorem Bc {fa fb:DSt→Out D} (ha:DE X Γ E a fa) (hb:DE X Γ E b fb):DE X Γ E (.BinOp a .Mult b pos) (o2 K5 fa fb):=d2 dr_mul (ae2 (op_mul.or (op_mulS.or op_rep)) ha hb)
theorem ahT {fa fb:DSt→Out D} (ha:DE X Γ E a fa) (hb:DE X Γ E b fb):DE X Γ E (.BinOp a .FloorDiv b pos) (o2 aev fa fb):=d2 (fun G H x y dx dy d Q s rx ry e k=>by
 unfold aev at e
 split at e
 · split at e
   · rename_i h; cases e; cases rx; cases ry; exact ⟨_,_,rfl,rfl,h,k _ G H (.refl s) (.int _)⟩
   · cases e
 · cases e) (ae2 op_fdiv ha hb)
theorem eX {fa fb:DSt→Out D} (ha:DE X Γ E a fa) (hb:DE X Γ E b fb):DE X Γ E (.BinOp a .Mod b pos) (o2 fX fa fb):=d2 (fun G H x y dx dy d Q s rx ry e k=>by
 unfold fX at e
 split at e
 · split at e
   · rename_i h; cases e; cases rx; cases ry; exact ⟨_,_,rfl,rfl,h,k _ G H (.refl s) (.int _)⟩
   · cases e
 · cases e) (ae2 op_mod ha hb)
def o1 (g:D→Option D) (fa:DSt→Out D):DSt→Out D:=fun δ=>(fa δ).bind fun x=>.opt (g x)
def yW:D→Option D
 | .int i=>some (.int (-i))
 | _=>none
theorem Bd {fa:DSt→Out D} (ha:DE X Γ E a fa):DE X Γ E (.UnaryOp .USub a pos) (o1 yW fa):=PE.imp (pe_un un_neg ha) fun σ H Q ⟨G0,H0,G,δ,S,w⟩=>by
 refine ⟨G0,H0,G,δ,S,(au w).mono (fun x w v G1 H1 s1 r1=>?_) fun _ k=>k⟩
 obtain ⟨d,e,k⟩:=bJ w
 unfold yW at e
 split at e
 · cases e; cases r1; exact ⟨_,rfl,k _ G1 H1 s1 (.int _)⟩
 · cases e
def cmpI (p:Int→Int→Bool):D→D→Option Bool
 | .int i,.int j=>some (p i j)
 | _,_=>none
theorem Dh {K:PySem.W.Frag} {p:Int→Int→Bool}:DRB K Γ (rI0 fun i j=>.bl (p i j)) (cmpI p):=fun H x y dx dy b Q rx ry e k=>by
 unfold cmpI at e
 split at e
 · cases e; cases rx; cases ry; exact ⟨_,_,rfl,rfl,k⟩
 · cases e
abbrev ltD:D→D→Option Bool:=cmpI fun i j=>decide (i < j)
abbrev leD:D→D→Option Bool:=cmpI fun i j=>decide (i ≤ j)
abbrev gtD:D→D→Option Bool:=cmpI fun i j=>decide (j < i)
mutual
def toPy:D→Option PyData
 | .non=>some .none
 | .bl b=>some (.bool b)
 | .int i=>some (.int i)
 | .str x=>some (.str x)
 | .lst xs=>(toPyL xs).map .list
 | .rol xs=>(toPyL xs).map .list
 | .tup xs=>(toPyL xs).map .tuple
 | .rot xs=>(toPyL xs).map .tuple
 | _=>none
def toPyL:List D→Option (List PyData)
 | []=>some []
 | d :: r=>match toPy d,toPyL r with
   | some p,some q=>some (p :: q)
   | _,_=>none
end
mutual
theorem Rep.deep {K:PySem.W.Frag} {H:Hp}:∀ {v:V} {d:D} {p:PyData},Rep K Γ H v d→toPy d = some p→JV K H v p
 | _,_,_,.non,e=>by simp only [toPy] at e; cases e; exact .non
 | _,_,_,.bl b,e=>by simp only [toPy] at e; cases e; exact .bl b
 | _,_,_,.int b,e=>by simp only [toPy] at e; cases e; exact .int b
 | _,_,_,.str b,e=>by simp only [toPy] at e; cases e; exact .str b
 | _,_,_,.lst h r,e=>by
   simp only [toPy] at e
   obtain ⟨q,e1,rfl⟩:=Option.map_eq_some_iff.mp e
   exact .lst (SqL.of h) (aB.deep r e1)
 | _,_,_,.rol h r,e=>by
   simp only [toPy] at e
   obtain ⟨q,e1,rfl⟩:=Option.map_eq_some_iff.mp e
   exact .lst h (aB.deep r e1)
 | _,_,_,.tup h r,e=>by
   simp only [toPy] at e
   obtain ⟨q,e1,rfl⟩:=Option.map_eq_some_iff.mp e
   exact .tup (SqT.of h) (aB.deep r e1)
 | _,_,_,.rot h r,e=>by
   simp only [toPy] at e
   obtain ⟨q,e1,rfl⟩:=Option.map_eq_some_iff.mp e
   exact .tup h (aB.deep r e1)
 | _,_,_,.ty n,e=>by simp only [toPy] at e; cases e
 | _,_,_,.cls h,e=>by simp only [toPy] at e; cases e
 | _,_,_,.dK h r,e=>by simp only [toPy] at e; cases e
 | _,_,_,.dT h r,e=>by simp only [toPy] at e; cases e
 | _,_,_,.obj h g r,e=>by simp only [toPy] at e; cases e
 | _,_,_,.e0 h g,e=>by simp only [toPy] at e; cases e
 | _,_,_,.e1 h h' g r,e=>by simp only [toPy] at e; cases e
theorem aB.deep {K:PySem.W.Frag} {H:Hp}:∀ {v:List V} {d:List D} {p:List PyData},aB K Γ H v d→toPyL d = some p→mC K H v p
 | _,_,_,.nil,e=>by simp only [toPyL] at e; cases e; exact .nil
 | _,_,_,.cons (d:=d) (ds:=ds) h r,e=>by
   simp only [toPyL] at e
   cases h1:toPy d with
   | none=>rw [h1] at e; cases e
   | some p =>
     cases h2:toPyL ds with
     | none=>rw [h1,h2] at e; cases e
     | some q =>
       rw [h1,h2] at e
       cases e
       exact .cons (Rep.deep h h1) (aB.deep r h2)
end
def layP (p:PyData):Bool:=p.canLay0 && decide (p.depth ≤ 50)
def eqD (x y:D):Option Bool:=match toPy x,toPy y with
 | some p,some q=>if layP p && layP q then some (PyData.eqv p q) else none
 | _,_=>none
def neD (x y:D):Option Bool:=(eqD x y).map (! ·)
theorem aes {x y:D} {b:Bool} (h:eqD x y = some b):∃ p q,toPy x = some p∧toPy y = some q∧p.canLay0 = true∧q.canLay0 = true∧p.depth ≤ 50∧PyData.eqv p q = b:=by
 unfold eqD at h
 split at h
 · rename_i p q h1 h2
   split at h
   · rename_i z
     unfold layP at z
     simp only [Bool.and_eq_true,decide_eq_true_eq] at z
     exact ⟨p,q,h1,h2,z.1.1,z.2.1,z.1.2,Option.some.inj h⟩
   · cases h
 · cases h
theorem drb_eq {K:PySem.W.Frag}:DRB K Γ (rEqD K false) eqD:=fun H x y dx dy b Q rx ry e k=>by
 obtain ⟨p,q,h1,h2,c1,c2,c3,e⟩:=aes e
 exact ⟨p,q,rx.deep h1,ry.deep h2,c1,c2,c3,by rw [e]; simpa using k⟩
theorem drb_ne {K:PySem.W.Frag}:DRB K Γ (rEqD K true) neD:=fun H x y dx dy b Q rx ry e k=>by
 obtain ⟨b',e',rfl⟩:=Option.map_eq_some_iff.mp e
 obtain ⟨p,q,h1,h2,c1,c2,c3,e⟩:=aes e'
 exact ⟨p,q,rx.deep h1,ry.deep h2,c1,c2,c3,by rw [e]; simpa using k⟩
def yp:D→Bool
 | .non=>true
 | _=>false
def isND (x y:D):Option Bool:=match y with
 | .non=>some (yp x)
 | _=>none
def uc (x y:D):Option Bool:=match y with
 | .non=>some (!yp x)
 | _=>none
theorem Rep.isNon {K:PySem.W.Frag} {H:Hp} {v:V} {d:D} (r:Rep K Γ H v d):decide (v = .non) = yp d:=by
 cases r <;> first | rfl | exact decide_eq_false (fun q=>nomatch q)
theorem drb_is {K:PySem.W.Frag}:DRB K Γ (fun x y H Q=>y = .non∧Q (.bl (decide (x = .non))) H) isND:=fun H x y dx dy b Q rx ry e k=>by
 unfold isND at e
 split at e
 · cases e; cases ry; exact ⟨rfl,by rw [rx.isNon]; exact k⟩
 · cases e
theorem aiI {K:PySem.W.Frag}:DRB K Γ (fun x y H Q=>y = .non∧Q (.bl (!decide (x = .non))) H) uc:=fun H x y dx dy b Q rx ry e k=>by
 unfold uc at e
 split at e
 · cases e; cases ry; exact ⟨rfl,by rw [rx.isNon]; exact k⟩
 · cases e
def Ji:D→Option V
 | .non=>some .non
 | .bl b=>some (.bl b)
 | .int i=>some (.int i)
 | .str x=>some (.str x)
 | _=>none
def Fb:List D→Option (List V)
 | []=>some []
 | d :: r=>match Ji d,Fb r with
   | some v,some vs=>some (v :: vs)
   | _,_=>none
theorem Rep.flat {K:PySem.W.Frag} {H:Hp} {v u:V} {d:D} (r:Rep K Γ H v d) (e:Ji d = some u):v = u∧zz v = true:=by
 cases r <;> simp only [Ji] at e <;> cases e <;> exact ⟨rfl,rfl⟩
theorem aB.flat {K:PySem.W.Frag} {H:Hp}:∀ {vs us:List V} {ds:List D},aB K Γ H vs ds→Fb ds = some us→vs = us∧vs.all zz = true
 | _,_,_,.nil,e=>by simp only [Fb] at e; cases e; exact ⟨rfl,rfl⟩
 | _,_,_,.cons (d:=d) (ds:=ds) h r,e=>by
   simp only [Fb] at e
   cases h1:Ji d with
   | none=>rw [h1] at e; cases e
   | some p =>
     cases h2:Fb ds with
     | none=>rw [h1,h2] at e; cases e
     | some q =>
       rw [h1,h2] at e
       cases e
       obtain ⟨e1,f1⟩:=h.flat h1
       obtain ⟨e2,f2⟩:=r.flat h2
       exact ⟨by rw [e1,e2],by rw [List.all_cons,f1,f2]; rfl⟩
def zY:D→Option (List D)
 | .lst xs=>some xs
 | .rol xs=>some xs
 | .tup xs=>some xs
 | .rot xs=>some xs
 | _=>none
theorem Rep.seq {K:PySem.W.Frag} {H:Hp} {v:V} {d:D} {ds:List D} (r:Rep K Γ H v d) (e:zY d = some ds):∃ a vs,v = .ref a∧(SqL K H a vs ∨ SqT K H a vs)∧aB K Γ H vs ds:=by
 cases r <;> simp only [zY] at e <;> cases e
 · exact ⟨_,_,rfl,.inl (SqL.of ‹_›),‹_›⟩
 · exact ⟨_,_,rfl,.inr (SqT.of ‹_›),‹_›⟩
 · exact ⟨_,_,rfl,.inl ‹_›,‹_›⟩
 · exact ⟨_,_,rfl,.inr ‹_›,‹_›⟩
def inD (x y:D):Option Bool:=match x,y with
 | .str i,.str j=>some (!(Builtin.Str.occurrences j i 0 j.length 1).isEmpty)
 | x,y=>match Ji x,(zY y).bind Fb with
   | some v,some vs=>some (inV v vs)
   | _,_=>none
def GJ (x y:D):Option Bool:=(inD x y).map (! ·)
theorem aeC {K:PySem.W.Frag} {H:Hp} {x y:V} {dx dy:D} {b:Bool} (rx:Rep K Γ H x dx) (ry:Rep K Γ H y dy) (h:inD dx dy = some b) :
   (∃ i j,x = .str i∧y = .str j∧b = !(Builtin.Str.occurrences j i 0 j.length 1).isEmpty) ∨ ∃ p xs,y = .ref p∧(SqL K H p xs ∨ SqT K H p xs)∧zz x = true∧xs.all zz = true∧b = inV x xs:=by
 unfold inD at h
 split at h
 · cases h; cases rx; cases ry; exact .inl ⟨_,_,rfl,rfl,rfl⟩
 · cases h1:Ji dx with
   | none=>rw [h1] at h; cases h
   | some v =>
     cases h2:zY dy with
     | none=>rw [h1,h2] at h; cases h
     | some ds =>
       rw [h1,h2] at h
       dsimp only [Option.bind_some] at h
       cases h3:Fb ds with
       | none=>rw [h3] at h; cases h
       | some vs =>
         rw [h3] at h
         cases h
         obtain ⟨e1,f1⟩:=rx.flat h1
         obtain ⟨a,ws,e2,sq,ra⟩:=ry.seq h2
         obtain ⟨e3,f3⟩:=ra.flat h3
         exact .inr ⟨a,ws,e2,sq,f1,f3,by rw [e1,e3]⟩
theorem drb_in {K:PySem.W.Frag}:DRB K Γ (fun x y H Q=>(∃ i j,x = .str i∧y = .str j∧Q (.bl (!(Builtin.Str.occurrences j i 0 j.length 1).isEmpty)) H) ∨ rIn K false x y H Q) inD:=fun H x y dx dy b Q rx ry e k=>by
 rcases aeC rx ry e with ⟨i,j,e1,e2,rfl⟩ | ⟨p,xs,e1,sq,f1,f2,rfl⟩
 · exact .inl ⟨i,j,e1,e2,k⟩
 · exact .inr ⟨p,xs,e1,sq,f1,f2,k⟩
theorem aiJ {K:PySem.W.Frag}:DRB K Γ (fun x y H Q=>(∃ i j,x = .str i∧y = .str j∧Q (.bl (!(!(Builtin.Str.occurrences j i 0 j.length 1).isEmpty))) H) ∨ rIn K true x y H Q) GJ:=fun H x y dx dy b Q rx ry e k=>by
 obtain ⟨b',e',rfl⟩:=Option.map_eq_some_iff.mp e
 rcases aeC rx ry e' with ⟨i,j,e1,e2,rfl⟩ | ⟨p,xs,e1,sq,f1,f2,rfl⟩
 · exact .inl ⟨i,j,e1,e2,k⟩
 · exact .inr ⟨p,xs,e1,sq,f1,f2,k⟩
section
variable {fa fb:DSt→Out D} (hu:X.A.units + 64 < cLine) (ha:DB X Γ E a fa) (hb:DB X Γ E b fb)
theorem Mv (hu:X.A.units + 64 < cLine) (ha:DB X Γ E a fa) (hb:DB X Γ E b fb):DE X Γ E (.Compare a [.Eq] [b] pos) (bV (o2b eqD fa fb)):=d2b drb_eq (ab7 (op_eqD hu) ha hb (GF _))
theorem de_is (ha:DB X Γ E a fa) (hb:DB X Γ E b fb):DE X Γ E (.Compare a [.Is] [b] pos) (bV (o2b isND fa fb)):=d2b drb_is (ab7 op_isN ha hb (GF _))
theorem de_in (ha:DB X Γ E a fa) (hb:DB X Γ E b fb) (hm:behindInMarks .In b = false:=by rfl):DE X Γ E (.Compare a [.In] [b] pos) (bV (o2b inD fa fb)):=d2b drb_in (ab7 (aja.or ai9) ha hb hm)
theorem dt_lt (ha:DB X Γ E a fa) (hb:DB X Γ E b fb):DT X Γ E (.Compare a [.Lt] [b] pos) (o2b ltD fa fb):=d2t Dh (Du op_lt ha hb (GF _))
theorem dt_gt (ha:DB X Γ E a fa) (hb:DB X Γ E b fb):DT X Γ E (.Compare a [.Gt] [b] pos) (o2b gtD fa fb):=d2t Dh (Du op_gt ha hb (GF _))
theorem dt_eq (hu:X.A.units + 64 < cLine) (ha:DB X Γ E a fa) (hb:DB X Γ E b fb):DT X Γ E (.Compare a [.Eq] [b] pos) (o2b eqD fa fb):=d2t drb_eq (Du (op_eqD hu) ha hb (GF _))
theorem zx (hu:X.A.units + 64 < cLine) (ha:DB X Γ E a fa) (hb:DB X Γ E b fb):DT X Γ E (.Compare a [.NotEq] [b] pos) (o2b neD fa fb):=d2t drb_ne (Du (op_neD hu) ha hb (GF _))
theorem aep (ha:DB X Γ E a fa) (hb:DB X Γ E b fb):DT X Γ E (.Compare a [.IsNot] [b] pos) (o2b uc fa fb):=d2t aiI (Du op_notN ha hb (GF _))
theorem dt_notin (ha:DB X Γ E a fa) (hb:DB X Γ E b fb) (hm:behindInMarks .NotIn b = false:=by rfl):DT X Γ E (.Compare a [.NotIn] [b] pos) (o2b GJ fa fb):=d2t aiJ (Du (ab6.or ab5) ha hb hm)
end
def o3 (g g':D→D→Option Bool) (fa fb fc:DSt→Out D):DSt→Out Bool:=fun δ=>(fa δ).bind fun x=>(fb δ).bind fun y=>(Out.opt (g x y)).bind fun k=>if k = true then (fc δ).bind fun z=>.opt (g' y z) else .ok false
theorem d3_aux {r r':R2} {g g':D→D→Option Bool} {fa fb fc:DSt→Out D} (hr:DRB X.K Γ r g) (hr':DRB X.K Γ r' g') {P:Bool→Hp→Prop} {σ:L2.St} {H:Hp}
   (w:ttD X.K Γ E (o3 g g' fa fb fc) σ H P):Ua r r' (tbD X.K Γ E fa) (tbD X.K Γ E fb) (tbD X.K Γ E fc) σ H fun v H'=>∃ k,v = .bl k∧P k H':=by
 obtain ⟨G0,H0,G,δ,S,w⟩:=w
 refine ⟨G0,H0,G,δ,S,(au w).mono (fun x w v G1 H1 s1 r1=>?_) fun _ k=>k⟩
 refine ⟨G0,H0,G1,δ,S.step s1,(au w).mono (fun y w u G2 H2 s2 r2=>?_) fun _ k=>k.step s1⟩
 obtain ⟨k,e,w⟩:=bJ (au w)
 refine hr H2 v u x y k _ (r1.mono s2.hh) r2 e ⟨k,rfl,?_⟩
 cases k with
 | false =>
   rw [if_neg Bool.false_ne_true] at w ⊢
   exact ⟨false,rfl,w G2 H2 (s1.trans s2)⟩
 | true =>
   rw [if_pos rfl] at w ⊢
   refine ⟨G0,H0,G2,δ,(S.step s1).step s2,(au w).mono (fun z w t G3 H3 s3 r3=>?_) fun _ k=>k.step (s1.trans s2)⟩
   obtain ⟨k,e,w⟩:=bJ w
   exact hr' H3 u t y z k _ (r2.mono s3.hh) r3 e ⟨k,rfl,w G3 H3 ((s1.trans s2).trans s3)⟩
theorem d3t {r r':R2} {g g':D→D→Option Bool} {fa fb fc:DSt→Out D} (hr:DRB X.K Γ r g) (hr':DRB X.K Γ r' g') (h:PT X e (tTest (Ua r r' (tbD X.K Γ E fa) (tbD X.K Γ E fb) (tbD X.K Γ E fc)))):DT X Γ E e (o3 g g' fa fb fc):=PT.imp h fun σ H Q w=>d3_aux hr hr' w
theorem d3v {r r':R2} {g g':D→D→Option Bool} {fa fb fc:DSt→Out D} (hr:DRB X.K Γ r g) (hr':DRB X.K Γ r' g') (h:PE X e (Ua r r' (tbD X.K Γ E fa) (tbD X.K Γ E fb) (tbD X.K Γ E fc))):DE X Γ E e (bV (o3 g g' fa fb fc)):=PE.imp h fun σ H Q ⟨G0,H0,G,δ,S,w⟩=>by
 have w:=au w
 refine ⟨G0,H0,G,δ,S,(au w).mono (fun x w v G1 H1 s1 r1=>?_) fun _ k=>k⟩
 refine ⟨G0,H0,G1,δ,S.step s1,(au w).mono (fun y w u G2 H2 s2 r2=>?_) fun _ k=>k.step s1⟩
 obtain ⟨k,e,w⟩:=bJ (au w)
 refine hr H2 v u x y k _ (r1.mono s2.hh) r2 e ⟨k,rfl,?_⟩
 cases k with
 | false =>
   rw [if_neg Bool.false_ne_true] at w ⊢
   exact w _ G2 H2 (s1.trans s2) (.bl _)
 | true =>
   rw [if_pos rfl] at w ⊢
   refine ⟨G0,H0,G2,δ,(S.step s1).step s2,(au w).mono (fun z w t G3 H3 s3 r3=>?_) fun _ k=>k.step (s1.trans s2)⟩
   obtain ⟨k,e,w⟩:=bJ w
   exact hr' H3 u t y z k _ (r2.mono s3.hh) r3 e (w _ G3 H3 ((s1.trans s2).trans s3) (.bl _))
theorem aat {fa fb fc:DSt→Out D} (ha:DB X Γ E a fa) (hb:DB X Γ E b fb) (hc:DB X Γ E c fc) (hm:lastMarks [.LtE,.LtE] [b,c] = false:=by with_unfolding_all rfl):DT X Γ E (.Compare a [.LtE,.LtE] [b,c] pos) (o3 leD leD fa fb fc):=d3t Dh Dh (pt_chain op_le op_le ha hb hc hm)
theorem de_lelt {fa fb fc:DSt→Out D} (ha:DB X Γ E a fa) (hb:DB X Γ E b fb) (hc:DB X Γ E c fc) (hm:lastMarks [.LtE,.Lt] [b,c] = false:=by with_unfolding_all rfl):DE X Γ E (.Compare a [.LtE,.Lt] [b,c] pos) (bV (o3 leD ltD fa fb fc)):=d3v Dh Dh (pe_chain op_le op_lt ha hb hc hm)
def truD:D→Option Bool
 | .non=>some false
 | .bl b=>some b
 | .int i=>some (i != 0)
 | .str y=>if y.length ≤ sizeLine then some ((y.length:Int) != 0) else none
 | .lst xs=>some (!xs.isEmpty)
 | .rol xs=>some (!xs.isEmpty)
 | .tup xs=>some (!xs.isEmpty)
 | .rot xs=>some (!xs.isEmpty)
 | .dK xs=>some (!xs.isEmpty)
 | _=>none
def tst (f:DSt→Out D):DSt→Out Bool:=fun δ=>(f δ).bind fun d=>.opt (truD d)
theorem Dl {K:PySem.W.Frag} {H:Hp} {vs:List V} {ds:List D} (r:aB K Γ H vs ds):(!ds.isEmpty) = !vs.isEmpty:=by cases r <;> rfl
theorem aiS {K:PySem.W.Frag} {H:Hp} {vs:List (Key × V)} {ds:List (Key × D)} (r:gR K Γ H vs ds):(!ds.isEmpty) = !vs.isEmpty:=by cases r <;> rfl
theorem Rep.tru {K:PySem.W.Frag} {H:Hp} {v:V} {d:D} {k:Bool} (r:Rep K Γ H v d) (e:truD d = some k):TruV K v H k:=by
 cases r <;> simp only [truD] at e
 case non=>cases e; exact rfl
 case bl=>cases e; exact rfl
 case int=>cases e; exact rfl
 case str =>
   split at e
   · cases e; exact ⟨‹_›,rfl⟩
   · cases e
 case lst h r=>cases e; rw [Dl r]; exact .inl ⟨_,SqL.of h,rfl⟩
 case rol h r=>cases e; rw [Dl r]; exact .inl ⟨_,h,rfl⟩
 case tup h r=>cases e; rw [Dl r]; exact .inr (.inl ⟨_,SqT.of h,rfl⟩)
 case rot h r=>cases e; rw [Dl r]; exact .inr (.inl ⟨_,h,rfl⟩)
 case dK h r=>cases e; rw [aiS r]; exact .inr (.inr ⟨_,h,rfl⟩)
 all_goals cases e
theorem kJ {f:DSt→Out D} (h:DB X Γ E e f) (he:∀ whole,isTrue e X.env whole = (do let v ← whole; standAt e.pos; holding [v] (truthy v)):=by intro _; rfl):DT X Γ E e (tst f):=PT.imp (pt_truth h he) fun σ H Q ⟨G0,H0,G,δ,S,w⟩=>by
 refine ⟨G0,H0,G,δ,S,(au w).mono (fun x w v G1 H1 s1 r1=>?_) fun _ k=>k⟩
 obtain ⟨k,e,q⟩:=bJ w
 exact ⟨k,r1.tru e,q G1 H1 s1⟩
def andT (f g:DSt→Out Bool):DSt→Out Bool:=fun δ=>(f δ).bind fun k=>if k = true then g δ else .ok false
def orT (f g:DSt→Out Bool):DSt→Out Bool:=fun δ=>(f δ).bind fun k=>if k = true then .ok true else g δ
def qu (f:DSt→Out Bool):DSt→Out Bool:=fun δ=>(f δ).bind fun k=>.ok (!k)
variable {rest:List Expr} {ft gt:DSt→Out Bool}
theorem dw_and1 (ha:DT X Γ E a ft):DW X Γ E (.BoolOp .And [a] pos) ft:=pw_and1 ha
theorem sX (ha:DT X Γ E a ft):DW X Γ E (.BoolOp .Or [a] pos) ft:=pw_or1 ha
theorem dw_and (ha:DT X Γ E a ft) (hb:DW X Γ E (.BoolOp .And (b :: rest) pos) gt):DW X Γ E (.BoolOp .And (a :: b :: rest) pos) (andT ft gt):=PW.imp (pw_and ha hb) fun σ H Q ⟨G0,H0,G,δ,S,w⟩=>by
 refine ⟨G0,H0,G,δ,S,(au w).mono (fun k w G1 H1 s1=>?_) fun _ k=>k⟩
 cases k with
 | false=>rw [if_neg Bool.false_ne_true] at w ⊢; exact w G1 H1 s1
 | true=>rw [if_pos rfl] at w ⊢; exact ⟨G0,H0,G1,δ,S.step s1,w.mono (fun b q G2 H2 s2=>q G2 H2 (s1.trans s2)) fun _ k=>k.step s1⟩
theorem zy (ha:DT X Γ E a ft) (hb:DW X Γ E (.BoolOp .Or (b :: rest) pos) gt):DW X Γ E (.BoolOp .Or (a :: b :: rest) pos) (orT ft gt):=PW.imp (pw_or ha hb) fun σ H Q ⟨G0,H0,G,δ,S,w⟩=>by
 refine ⟨G0,H0,G,δ,S,(au w).mono (fun k w G1 H1 s1=>?_) fun _ k=>k⟩
 cases k with
 | true=>rw [if_pos rfl] at w ⊢; exact w G1 H1 s1
 | false=>rw [if_neg Bool.false_ne_true] at w ⊢; exact ⟨G0,H0,G1,δ,S.step s1,w.mono (fun b q G2 H2 s2=>q G2 H2 (s1.trans s2)) fun _ k=>k.step s1⟩
theorem N6 (h:DW X Γ E e ft):DT X Γ E e ft:=L2.PW.pt h
theorem mU (ha:DT X Γ E a ft):DT X Γ E (.UnaryOp .Not a pos) (qu ft):=PT.imp (pt_not ha) fun σ H Q ⟨G0,H0,G,δ,S,w⟩ =>
 ⟨G0,H0,G,δ,S,(au w).mono (fun k w G1 H1 s1=>w G1 H1 s1) fun _ k=>k⟩
def asB:D→Option Bool
 | .bl b=>some b
 | _=>none
def HQ (f g:DSt→Out D):DSt→Out D:=fun δ=>(f δ).bind fun d=>(Out.opt (asB d)).bind fun k=>if k = true then g δ else .ok (.bl false)
def orV (f g:DSt→Out D):DSt→Out D:=fun δ=>(f δ).bind fun d=>(Out.opt (asB d)).bind fun k=>if k = true then .ok (.bl true) else g δ
def notV (f:DSt→Out D):DSt→Out D:=fun δ=>(f δ).bind fun d=>(Out.opt (asB d)).bind fun k=>.ok (.bl (!k))
theorem Rep.asB {K:PySem.W.Frag} {H:Hp} {v:V} {d:D} {k:Bool} (r:Rep K Γ H v d) (e:asB d = some k):v = .bl k:=by
 cases r <;> simp only [DL.asB] at e <;> cases e; rfl
variable {fa fb:DSt→Out D}
theorem Be {op} (ha:DE X Γ E a fa):DE X Γ E (.BoolOp op [a] pos) fa:=pe_one ha
theorem Kl (ha:DE X Γ E a fa) (hb:DE X Γ E (.BoolOp .And (b :: rest) pos) fb):DE X Γ E (.BoolOp .And (a :: b :: rest) pos) (HQ fa fb):=PE.imp (pe_and ha hb) fun σ H Q ⟨G0,H0,G,δ,S,w⟩=>by
 refine ⟨G0,H0,G,δ,S,(au w).mono (fun x w v G1 H1 s1 r1=>?_) fun _ k=>k⟩
 obtain ⟨k,e,w⟩:=bJ (au w)
 refine ⟨k,r1.asB e,?_⟩
 cases k with
 | false=>rw [if_neg Bool.false_ne_true] at w ⊢; exact w _ G1 H1 s1 (.bl false)
 | true=>rw [if_pos rfl] at w ⊢; exact ⟨G0,H0,G1,δ,S.step s1,w.mono (fun b q=>q.step s1) fun _ k=>k.step s1⟩
theorem de_or (ha:DE X Γ E a fa) (hb:DE X Γ E (.BoolOp .Or (b :: rest) pos) fb):DE X Γ E (.BoolOp .Or (a :: b :: rest) pos) (orV fa fb):=PE.imp (pe_or ha hb) fun σ H Q ⟨G0,H0,G,δ,S,w⟩=>by
 refine ⟨G0,H0,G,δ,S,(au w).mono (fun x w v G1 H1 s1 r1=>?_) fun _ k=>k⟩
 obtain ⟨k,e,w⟩:=bJ (au w)
 refine ⟨k,r1.asB e,?_⟩
 cases k with
 | true=>rw [if_pos rfl] at w ⊢; exact w _ G1 H1 s1 (.bl true)
 | false=>rw [if_neg Bool.false_ne_true] at w ⊢; exact ⟨G0,H0,G1,δ,S.step s1,w.mono (fun b q=>q.step s1) fun _ k=>k.step s1⟩
theorem de_not (ha:DE X Γ E a fa):DE X Γ E (.UnaryOp .Not a pos) (notV fa):=PE.imp (pe_not ha) fun σ H Q ⟨G0,H0,G,δ,S,w⟩=>by
 refine ⟨G0,H0,G,δ,S,(au w).mono (fun x w v G1 H1 s1 r1=>?_) fun _ k=>k⟩
 obtain ⟨k,e,w⟩:=bJ (au w)
 exact ⟨k,r1.asB e,w _ G1 H1 s1 (.bl _)⟩
def ifV (t:DSt→Out Bool) (f g:DSt→Out D):DSt→Out D:=fun δ=>(t δ).bind fun k=>if k = true then f δ else g δ
def aA:DSt→Out (List D):=fun _=>.ok []
def aj (f:DSt→Out D) (r:DSt→Out (List D)):DSt→Out (List D):=fun δ=>(f δ).bind fun d=>(r δ).bind fun ds=>.ok (d :: ds)
variable {es:List Expr} {fr:DSt→Out (List D)}
theorem aH:DA X Γ E [] aA:=PA.imp eG fun σ H Q ⟨G0,H0,G,δ,S,w⟩=>w _ G H (.refl S.st.gh) .nil
theorem ao (ha:DE X Γ E e fa) (hr:DA X Γ E es fr) (hs:starEach (e :: es) X.env = (false,eval e X.env) :: starEach es X.env:=by rfl):DA X Γ E (e :: es) (aj fa fr):=PA.imp (bK ha hr hs) fun σ H Q ⟨G0,H0,G,δ,S,w⟩=>by
 refine ⟨G0,H0,G,δ,S,(au w).mono (fun x w v G1 H1 s1 r1=>?_) fun _ k=>k⟩
 refine ⟨G0,H0,G1,δ,S.step s1,(au w).mono (fun ds w vs G2 H2 s2 r2=>?_) fun _ k=>k.step s1⟩
 exact w _ G2 H2 (s1.trans s2) (.cons (r1.mono s2.gg) r2)
def cU (f:DSt→Out (List D)):DSt→Out D:=fun δ=>(f δ).bind fun ds=>if ds.length ≤ sizeLine then .ok (.tup ds) else .stuck
def cF (f:DSt→Out (List D)):DSt→Out D:=fun δ=>(f δ).bind fun ds=>if ds.length ≤ sizeLine then .ok (.lst ds) else .stuck
theorem oA {x1} (h:DA X Γ E es fr):DE X Γ E (.Tuple es x1 pos) (cU fr):=PE.imp (pe_tup h) fun σ H Q ⟨G0,H0,G,δ,S,w⟩=>by
 refine ⟨G0,H0,G,δ,S,(au w).mono (fun ds w vs G1 H1 s1 r1=>?_) fun _ k=>k⟩
 split at w
 · rename_i h
   exact ⟨by rw [r1.length]; exact h,fun p hp=>w _ _ _ (s1.trans (.new s1.gh hp)) (.tup aG (r1.mono (bz.up (aJ s1.gh hp))))⟩
 · exact False.elim w
theorem vB (h:DA X Γ E es fr):DE X Γ E (.List es pos) (cF fr):=PE.imp (pe_lst h) fun σ H Q ⟨G0,H0,G,δ,S,w⟩=>by
 refine ⟨G0,H0,G,δ,S,(au w).mono (fun ds w vs G1 H1 s1 r1=>?_) fun _ k=>k⟩
 split at w
 · rename_i h
   exact ⟨by rw [r1.length]; exact h,fun p hp=>w _ _ _ (s1.trans (.new s1.gh hp)) (.lst aG (r1.mono (bz.up (aJ s1.gh hp))))⟩
 · exact False.elim w
theorem aB.atI {K:PySem.W.Frag} {H:Hp} {vs:List V} {ds:List D} {i:Int} {d:D} (r:aB K Γ H vs ds) (e:atI ds i = some d):∃ v,atI vs i = some v∧Rep K Γ H v d:=by
 unfold L2.atI at e ⊢
 rw [r.length]
 cases q:ixN ds.length i with
 | none=>rw [q] at e; cases e
 | some j =>
   rw [q] at e
   exact r.get e
def ixD:D→D→Option D
 | .str z,.int i=>if z.length ≤ sizeLine then (atI z.cps.toList i).map fun c=>.str ⟨#[c]⟩ else none
 | x,.int i=>(zY x).bind fun ds=>atI ds i
 | _,_=>none
theorem dr_ix {K:PySem.W.Frag}:DR2 K Γ (rIx K) ixD:=by
 intro G H x y dx dy d Q s rx ry e k
 unfold ixD at e
 split at e
 · split at e
   · obtain ⟨c,e1,rfl⟩:=Option.map_eq_some_iff.mp e
     cases rx; cases ry
     exact .inr (.inr ⟨_,_,c,rfl,rfl,‹_›,e1,k _ G H (.refl s) (.str _)⟩)
   · cases e
 · cases ry
   obtain ⟨ds,e1,e2⟩:=Option.bind_eq_some_iff.mp e
   obtain ⟨a,vs,rfl,sq,ra⟩:=rx.seq e1
   obtain ⟨v,h1,h2⟩:=ra.atI e2
   rcases sq with sq | sq
   · exact .inl ⟨a,vs,_,v,rfl,rfl,s.seq sq,h1,k _ G H (.refl s) h2⟩
   · exact .inr (.inl ⟨a,vs,_,v,rfl,rfl,SqT.same s sq,h1,k _ G H (.refl s) h2⟩)
 · cases e
theorem de_ix (ha:DE X Γ E a fa) (hb:DE X Γ E b fb) (hs:Pq b:=by exact fun _ _=>rfl):DE X Γ E (.Subscript a b pos) (o2 ixD fa fb):=d2 dr_ix (pe_ix ix_seq ha hb hs)
def gvo (i:Nat):DSt→Out D:=fun δ=>match δ[i]? with
 | some (some (.sh d))=>.ok d
 | some (some (.ol ds))=>.ok (.lst ds)
 | _=>.stuck
theorem vA (i:Nat) {x:Str} {p:Pos} (h:PE X (.Name x p) (CT i)) (hb:DE X Γ E b fb) (hs:Pq b:=by exact fun _ _=>rfl):DE X Γ E (.Subscript (.Name x p) b pos) (o2 ixD (gvo i) fb):=PE.imp (pe_ix ix_seq h hb hs) fun σ H Q ⟨G0,H0,G,δ,S,w⟩=>by
 obtain ⟨O,q⟩:=id S.sl
 unfold o2 gvo at w
 split at w
 · rename_i d e
   obtain ⟨v,h1,h2⟩:=q i _ e
   refine ⟨v,h1,G0,H0,G,δ,S,(au (o:=fb δ) w).mono (fun y w u G2 H2 s2 r2=>?_) fun _ k=>k⟩
   obtain ⟨d,e,k⟩:=bJ w
   exact dr_ix G2 H2 v u _ y d Q s2.gh (Rep.mono s2.gg h2) r2 e (k.step s2)
 · rename_i ds e
   obtain ⟨v,h1,a,vs,ev,ha,ga,h0,hO,ra⟩:=q i _ e
   subst ev
   refine ⟨_,h1,G0,H0,G,δ,S,(au (o:=fb δ) w).mono (fun y w u G2 H2 s2 r2=>?_) fun _ k=>k⟩
   obtain ⟨d,e,k⟩:=bJ w
   unfold ixD at e
   split at e
   · exact absurd (‹D.lst ds = D.str _›) (fun q=>by cases q)
   · cases r2
     obtain ⟨ds',e1,e2⟩:=Option.bind_eq_some_iff.mp e
     cases e1
     obtain ⟨v,h1,h2⟩:=ra.atI e2
     exact .inl ⟨a,vs,_,v,rfl,rfl,SqL.of (s2.hh _ _ ha),h1,k _ G2 H2 s2 (h2.mono s2.gg)⟩
   · cases e
 · exact False.elim w
def DRC (K:PySem.W.Frag) (Γ:Nat→Option Addr) (r:List V→Hp→VK→Prop) (g:List D→Option D):Prop :=
 ∀ G H vs ds d Q,bz G H→aB K Γ G vs ds→g ds = some d→okD K Γ G H Q d→r vs H Q
def oC (g:List D→Option D) (f:DSt→Out (List D)):DSt→Out D:=fun δ=>(f δ).bind fun ds=>.opt (g ds)
theorem dC {r:List V→Hp→VK→Prop} {g:List D→Option D} (hr:DRC X.K Γ r g) (h:PE X e (tCB r (taD X.K Γ E fr))):DE X Γ E e (oC g fr):=PE.imp h fun σ H Q ⟨G0,H0,G,δ,S,w⟩=>by
 refine ⟨G0,H0,G,δ,S,(au w).mono (fun ds w vs G1 H1 s1 r1=>?_) fun _ k=>k⟩
 obtain ⟨d,e,k⟩:=bJ w
 exact hr G1 H1 vs ds d Q s1.gh r1 e (k.step s1)
def DRC1 (K:PySem.W.Frag) (Γ:Nat→Option Addr) (r:List V→Hp→VK→Prop) (g:D→Option D):Prop :=
 ∀ G H v dx d Q,bz G H→Rep K Γ H v dx→g dx = some d→okD K Γ G H Q d→r [v] H Q
theorem dC1 {r:List V→Hp→VK→Prop} {g:D→Option D} (hr:DRC1 X.K Γ r g) (h:PE X e (tCB r (wO (tbD X.K Γ E fa) DR))):DE X Γ E e (o1 g fa):=PE.imp h fun σ H Q ⟨G0,H0,G,δ,S,w⟩=>by
 refine ⟨G0,H0,G,δ,S,(au w).mono (fun x w v G1 H1 s1 r1=>?_) fun _ k=>k⟩
 obtain ⟨d,e,k⟩:=bJ w
 exact hr G1 H1 v x d Q s1.gh r1 e (k.step s1)
def ji:D→Option D
 | .str z=>if z.length ≤ sizeLine then some (.int z.length) else none
 | x=>(zY x).map fun ds=>.int ds.length
theorem drc_len {K:PySem.W.Frag}:DRC1 K Γ (fun xs H Q=>(∃ p ys,xs = [.ref p]∧(SqL K H p ys ∨ SqT K H p ys)∧Q (.int ys.length) H) ∨ ∃ z,xs = [.str z]∧z.length ≤ sizeLine∧Q (.int z.length) H) ji:=by
 intro G H v dx d Q s r e k
 unfold ji at e
 split at e
 · split at e
   · cases e; cases r; exact .inr ⟨_,rfl,‹_›,k _ G H (.refl s) (.int _)⟩
   · cases e
 · obtain ⟨ds,e1,rfl⟩:=Option.map_eq_some_iff.mp e
   obtain ⟨a,vs,rfl,sq,ra⟩:=r.seq e1
   exact .inl ⟨a,vs,rfl,sq,by rw [ra.length]; exact k _ G H (.refl s) (.int _)⟩
variable {p:Pos}
theorem jU (hg:Gl X "len") (hm:X.mg "len" = none) (ha:DB X Γ E a fa) (hs:starEach [a] X.env = [(false,eval a X.env)]:=by rfl):DE X Γ E (.Call (.Name "len" p) [a] [] pos) (o1 ji fa) :=
 dC1 drc_len (Jw (Zq.or Zr) hg hm PySem.boot_len (bK ha eG (by rw [hs]; rfl)) (by decide) (by decide) (by rw [hs]; rfl) (by rfl))
def intD:D→Option D
 | .int i=>some (.int i)
 | .bl k=>some (.int (if k then 1 else 0))
 | _=>none
def maxD:List D→Option D
 | [.int i,.int j]=>some (.int (if j > i then j else i))
 | _=>none
def minD:List D→Option D
 | [.int i,.int j]=>some (.int (if j < i then j else i))
 | _=>none
def CZ:D→Option D
 | .lst xs=>some (.tup xs)
 | .rol xs=>some (.tup xs)
 | .tup xs=>some (.tup xs)
 | _=>none
theorem Jc (hg:Gl X "tuple") (hm:X.mg "tuple" = none) (ha:DE X Γ E a fa) (hs:starEach [a] X.env = [(false,eval a X.env)]:=by rfl):DE X Γ E (.Call (.Name "tuple" p) [a] [] pos) (oC (fun ds=>match ds with | [x]=>CZ x | _=>none) (aj fa aA)) :=
 dC (fun G H vs ds d Q s r e k=>by
   cases r with
   | nil=>cases e
   | cons r1 r2 =>
     cases r2 with
     | cons _ _=>cases e
     | nil =>
       dsimp only at e
       unfold CZ at e
       split at e
       · cases e
         cases r1 with
         | lst h ra=>exact ⟨_,_,rfl,.inl ⟨s.seq (SqL.of h),fun l hl=>k _ _ _ (.new s hl) (.tup aG (ra.mono (bz.up (aJ s hl))))⟩⟩
       · cases e
         cases r1 with
         | rol h ra=>exact ⟨_,_,rfl,.inl ⟨s.seq h,fun l hl=>k _ _ _ (.new s hl) (.tup aG (ra.mono (bz.up (aJ s hl))))⟩⟩
       · cases e
         cases r1 with
         | tup h ra=>exact ⟨_,_,rfl,.inr ⟨SqT.of (s _ _ h),k _ G H (.refl s) (.tup h ra)⟩⟩
       · cases e) (Dt UT hg hm (by decide +kernel) (ao ha aH (by rw [hs]; rfl)) (by decide) (by decide) (by rw [hs]; rfl) (by rfl))
end
end DL
namespace DL
open PySem PySem.Spec PyProof.Rows MX L2
section
variable {K:PySem.W.Frag} {Γ:Nat→Option Addr} {G0 H0 G H G' H':Hp} {O O':Addr→Option Nat} {σ:L2.St} {δ:DSt}
theorem Inner.reO (k:∀ b,H b ≠ none→O' b = O b) {i:Nat}:∀ {vs:List V} {dss:List (List D)},Inner K Γ H0 G H O i vs dss→Inner K Γ H0 G H O' i vs dss
 | _,_,.nil=>.nil
 | _,_,.cons h g h0 o r n t=>.cons h g h0 (by rw [k _ (by rw [h]; exact fun q=>nomatch q)]; exact o) r n (t.reO k)
theorem bw.reO (k:∀ b,H b ≠ none→O' b = O b) {i:Nat}:∀ {vs:List V} {es:List Mx} {bs:List Addr},bw K Γ H0 G H O i vs es bs→bw K Γ H0 G H O' i vs es bs
 | _,_,_,.nil=>.nil
 | _,_,_,.own h g h0 o r n t=>.own h g h0 (by rw [k _ (by rw [h]; exact fun q=>nomatch q)]; exact o) r n (t.reO k)
 | _,_,_,.fix r t=>.fix r (t.reO k)
theorem d9.reO {i:Nat} {v:V} {x:Sl} (h:d9 K Γ H0 G H O i v x) (k:∀ b,H b ≠ none→O' b = O b):d9 K Γ H0 G H O' i v x:=by
 have kk:∀ {a:Addr} {o:HO},H a = some o→O' a = O a:=fun h=>k _ (by rw [h]; exact fun q=>nomatch q)
 cases x with
 | sh d=>exact h
 | ol ds=>obtain ⟨a,vs,e,h1,h2,h3,h4,h5⟩:=h; exact ⟨a,vs,e,h1,h2,h3,(kk h1).trans h4,h5⟩
 | oll ds=>obtain ⟨a,vs,e,h1,h2,h3,h4,h5,h6⟩:=h; exact ⟨a,vs,e,h1,h2,h3,(kk h1).trans h4,h5,h6.reO k⟩
 | od ds=>obtain ⟨a,vs,e,h1,h2,h3,h4,h5⟩:=h; exact ⟨a,vs,e,h1,h2,h3,(kk h1).trans h4,h5⟩
 | odT ds=>obtain ⟨a,vs,e,h1,h2,h3,h4,h5⟩:=h; exact ⟨a,vs,e,h1,h2,h3,(kk h1).trans h4,h5⟩
 | omx ds=>obtain ⟨a,vs,bs,e,h1,h2,h3,h4,h5,h6⟩:=h; exact ⟨a,vs,bs,e,h1,h2,h3,(kk h1).trans h4,h5,h6.reO k⟩
theorem Inner.frame {i j:Nat} (ij:j ≠ i) (hh:∀ b,O b ≠ some i→H' b = H b) (gg:bz G G') (gn:∀ b,O b ≠ some i→G b = none→G' b = none):∀ {vs:List V} {dss:List (List D)},Inner K Γ H0 G H O j vs dss→Inner K Γ H0 G' H' O j vs dss
 | _,_,.nil=>.nil
 | _,_,.cons h g h0 o r n t=>.cons ((hh _ (by rw [o]; exact fun q=>ij (Option.some.inj q))).trans h) (gn _ (by rw [o]; exact fun q=>ij (Option.some.inj q)) g) h0 o (r.mono gg) n (t.frame ij hh gg gn)
theorem bw.frame {i j:Nat} (ij:j ≠ i) (hh:∀ b,O b ≠ some i→H' b = H b) (gg:bz G G') (gn:∀ b,O b ≠ some i→G b = none→G' b = none):∀ {vs:List V} {es:List Mx} {bs:List Addr},bw K Γ H0 G H O j vs es bs→bw K Γ H0 G' H' O j vs es bs
 | _,_,_,.nil=>.nil
 | _,_,_,.own h g h0 o r n t=>.own ((hh _ (by rw [o]; exact fun q=>ij (Option.some.inj q))).trans h) (gn _ (by rw [o]; exact fun q=>ij (Option.some.inj q)) g) h0 o (r.mono gg) n (t.frame ij hh gg gn)
 | _,_,_,.fix r t=>.fix (r.mono gg) (t.frame ij hh gg gn)
theorem d9.frame {i j:Nat} {v:V} {x:Sl} (h:d9 K Γ H0 G H O j v x) (ij:j ≠ i) (hh:∀ b,O b ≠ some i→H' b = H b) (gg:bz G G') (gn:∀ b,O b ≠ some i→G b = none→G' b = none):d9 K Γ H0 G' H' O j v x:=by
 have nz:∀ {a:Addr},O a = some j→O a ≠ some i:=fun o=>by rw [o]; exact fun q=>ij (Option.some.inj q)
 cases x with
 | sh d=>exact Rep.mono gg h
 | ol ds=>obtain ⟨a,vs,e,h1,h2,h3,h4,h5⟩:=h; exact ⟨a,vs,e,(hh _ (nz h4)).trans h1,gn _ (nz h4) h2,h3,h4,h5.mono gg⟩
 | oll ds=>obtain ⟨a,vs,e,h1,h2,h3,h4,h5,h6⟩:=h; exact ⟨a,vs,e,(hh _ (nz h4)).trans h1,gn _ (nz h4) h2,h3,h4,h5,h6.frame ij hh gg gn⟩
 | od ds=>obtain ⟨a,vs,e,h1,h2,h3,h4,h5⟩:=h; exact ⟨a,vs,e,(hh _ (nz h4)).trans h1,gn _ (nz h4) h2,h3,h4,h5.mono gg⟩
 | odT ds=>obtain ⟨a,vs,e,h1,h2,h3,h4,h5⟩:=h; exact ⟨a,vs,e,(hh _ (nz h4)).trans h1,gn _ (nz h4) h2,h3,h4,h5.mono gg⟩
 | omx ds=>obtain ⟨a,vs,bs,e,h1,h2,h3,h4,h5,h6⟩:=h; exact ⟨a,vs,bs,e,(hh _ (nz h4)).trans h1,gn _ (nz h4) h2,h3,h4,h5,h6.frame ij hh gg gn⟩
theorem Slots.put {i:Nat} {v:V} {x:Sl} (hl:δ.length = σ.length) (q:∀ j s,δ[j]? = some (some s)→j ≠ i→∃ v,σ[j]? = some (some v)∧d9 K Γ H0 G H O j v s) (n:d9 K Γ H0 G H O i v x):Slots K Γ H0 G H (σ.set i (some v)) (δ.set i (some x)):=by
 refine ⟨O,fun j y e=>?_⟩
 by_cases ij:i = j
 · subst ij
   rw [List.getElem?_set_self'] at e
   cases h:δ[i]? with
   | none=>rw [h] at e; simp at e
   | some z =>
     rw [h] at e
     simp at e
     have lt:i < σ.length:=by rw [← hl]; exact (List.getElem?_eq_some_iff.mp h).1
     subst e
     exact ⟨v,by rw [List.getElem?_set_self lt],n⟩
 · rw [List.getElem?_set_ne ij] at e
   obtain ⟨v',h1,h2⟩:=q j y e (fun z=>ij z.symm)
   exact ⟨v',by rw [List.getElem?_set_ne ij]; exact h1,h2⟩
theorem TV {α:Type} {l:List α} {i:Nat} {x:α} (h:l[i]? = some x):l.set i x = l:=by
 obtain ⟨lt,e⟩:=List.getElem?_eq_some_iff.mp h
 subst e
 exact List.set_getElem_self lt
theorem SR.setl (S:SR K Γ G0 H0 G H σ δ) (s:Step G H G' H') {i:Nat} {a:Addr} {vs:List V} {ds:List D} (f:H a = none) (h:H' a = some (.lst vs)) (g:G' a = none) (r:aB K Γ G' vs ds) :
   SR K Γ G0 H0 G' H' (σ.set i (some (.ref a))) (δ.set i (some (.ol ds))):=by
 obtain ⟨O,q⟩:=S.sl
 have k:∀ b,H b ≠ none→(fun b=>if b = a then some i else O b) b = O b:=fun b hb=>by
   have:b ≠ a:=fun z=>hb (z ▸ f)
   simp [this]
 refine ⟨S.st.trans s,by rw [List.length_set,List.length_set]; exact S.len,Slots.put (O:=fun b=>if b = a then some i else O b) S.len (fun j y e ij=>?_) ⟨a,vs,rfl,h,g,aJ S.st.hh f,by simp,r⟩⟩
 obtain ⟨v,h1,h2⟩:=q j y e
 exact ⟨v,h1,(h2.reO k).step s⟩
theorem bL.mem {G' H':Hp}:∀ {vs:List V} {dss:List (List D)},bL K Γ H G' H' vs dss→∀ b,V.ref b ∈ vs→H b = none∧H' b ≠ none
 | _,_,.nil,b,hb=>by cases hb
 | _,_,.cons f h g r n t,b,hb=>by
   rcases List.mem_cons.mp hb with z | z
   · cases z; exact ⟨f,by rw [h]; exact fun q=>nomatch q⟩
   · exact t.mem b z
theorem SR.write (S:SR K Γ G0 H0 G H σ δ) (q:∀ i s,δ[i]? = some (some s)→∃ v,σ[i]? = some (some v)∧d9 K Γ H0 G H O i v s) {i:Nat} {a:Addr} {o:HO} {v:V} {x:Sl} (g:G a = none) (h0:H0 a = none) (oa:O a = some i) (hv:σ[i]? = some (some v))
   (n:d9 K Γ H0 G (upd H a o) O i v x):SR K Γ G0 H0 G (upd H a o) σ (δ.set i (some x)):=by
 have hh:∀ b,O b ≠ some i→upd H a o b = H b:=fun b hb=>az fun z=>hb (z ▸ oa)
 refine ⟨⟨S.st.gg,fun b u e=>?_,fun b u e=>?_,S.st.sep⟩,by rw [List.length_set]; exact S.len,?_⟩
 · rw [az (aK e h0)]; exact S.st.hh _ _ e
 · rw [az (aK e g)]; exact S.st.gh _ _ e
 · have z:=Slots.put (v:=v) (i:=i) (x:=x) S.len (fun j y e ij=>by
     obtain ⟨v',h1,h2⟩:=q j y e
     exact ⟨v',h1,h2.frame ij hh (bz.refl _) (fun _ _ g=>g)⟩) n
   rwa [TV hv] at z
def mj (G H:Hp) (p:Addr→Bool):Hp:=fun b=>if p b = true then H b else G b
theorem SR.aex (S:SR K Γ G0 H0 G H σ δ) (q:∀ i s,δ[i]? = some (some s)→∃ v,σ[i]? = some (some v)∧d9 K Γ H0 G H O i v s) {i:Nat} (p:Addr→Bool) (hp:∀ b,p b = true→O b = some i∧G b = none∧H0 b = none) {v:V} {d:D} (hv:σ[i]? = some (some v))
   (n:Rep K Γ (mj G H p) v d):SR K Γ G0 H0 (mj G H p) H σ (δ.set i (some (.sh d))):=by
 have gg:bz G (mj G H p):=fun b u e=>by
   unfold mj
   split
   · rw [(hp b ‹_›).2.1] at e; cases e
   · exact e
 have gn:∀ b,O b ≠ some i→G b = none→mj G H p b = none:=fun b hb g=>by
   unfold mj
   split
   · exact absurd (hp b ‹_›).1 hb
   · exact g
 refine ⟨⟨S.st.gg.trans gg,S.st.hh,fun b u e=>?_,fun b hb g0=>?_⟩,by rw [List.length_set]; exact S.len,?_⟩
 · unfold mj at e
   split at e
   · exact e
   · exact S.st.gh _ _ e
 · unfold mj
   split
   · exact absurd (hp b ‹_›).2.2 hb
   · exact S.st.sep b hb g0
 · have z:=Slots.put (v:=v) (i:=i) (x:=.sh d) S.len (fun j y e ij=>by
     obtain ⟨v',h1,h2⟩:=q j y e
     exact ⟨v',h1,h2.frame ij (fun _ _=>rfl) gg gn⟩) n
   rwa [TV hv] at z
theorem Inner.facts {i:Nat}:∀ {vs:List V} {dss:List (List D)},Inner K Γ H0 G H O i vs dss→∀ b,V.ref b ∈ vs→O b = some i∧G b = none∧H0 b = none
 | _,_,.nil,b,hb=>by cases hb
 | _,_,.cons h g h0 o r n t,b,hb=>by
   rcases List.mem_cons.mp hb with z | z
   · cases z; exact ⟨o,g,h0⟩
   · exact t.facts b z
theorem Inner.frozen {i:Nat} {p:Addr→Bool} (gg:bz G (mj G H p)):∀ {vs:List V} {dss:List (List D)},(∀ b,V.ref b ∈ vs→p b = true)→Inner K Γ H0 G H O i vs dss→aB K Γ (mj G H p) vs (dss.map .lst)
 | _,_,_,.nil=>.nil
 | _,_,m,.cons h g h0 o r n t=>.cons (.lst (by unfold mj; rw [if_pos (m _ List.mem_cons_self)]; exact h) (r.mono gg)) (Inner.frozen gg (fun b' hb=>m b' (List.mem_cons_of_mem _ hb)) t)
theorem bw.facts {i:Nat}:∀ {vs:List V} {es:List Mx} {bs:List Addr},bw K Γ H0 G H O i vs es bs→∀ b ∈ bs,O b = some i∧G b = none∧H0 b = none
 | _,_,_,.nil,b,hb=>by cases hb
 | _,_,_,.own h g h0 o r n t,b,hb=>by
   rcases List.mem_cons.mp hb with z | z
   · cases z; exact ⟨o,g,h0⟩
   · exact t.facts b z
 | _,_,_,.fix r t,b,hb=>t.facts b hb
theorem bw.frozen {i:Nat} {p:Addr→Bool} (gg:bz G (mj G H p)):∀ {vs:List V} {es:List Mx} {bs:List Addr},(∀ b ∈ bs,p b = true)→bw K Γ H0 G H O i vs es bs→aB K Γ (mj G H p) vs (es.map Mx.d)
 | _,_,_,_,.nil=>.nil
 | _,_,_,m,.own h g h0 o r n t=>.cons (.lst (by unfold mj; rw [if_pos (m _ List.mem_cons_self)]; exact h) (r.mono gg)) (bw.frozen gg (fun b' hb=>m b' (List.mem_cons_of_mem _ hb)) t)
 | _,_,_,m,.fix r t=>.cons (r.mono gg) (bw.frozen gg m t)
def frzS:Sl→Sl
 | .sh d=>.sh d
 | .ol ds=>.sh (.lst ds)
 | .oll dss=>.sh (.lst (dss.map .lst))
 | .od kvs=>.sh (.dK kvs)
 | .odT kvs=>.sh (.dT kvs)
 | .omx es=>.sh (.lst (es.map Mx.d))
def frz (i:Nat) (δ:DSt):DSt:=match δ[i]? with
 | some (some s)=>δ.set i (some (frzS s))
 | _=>δ
theorem m7 {p:Addr→Bool} (hp:∀ b,p b = true→G b = none):bz G (mj G H p):=fun b u e=>by
 unfold mj
 split
 · rw [hp b ‹_›] at e; cases e
 · exact e
theorem SR.freeze (S:SR K Γ G0 H0 G H σ δ) (i:Nat):∃ G',SR K Γ G0 H0 G' H σ (frz i δ):=by
 obtain ⟨O,q⟩:=id S.sl
 unfold frz
 split
 · rename_i s e
   obtain ⟨v,hv,h⟩:=q i s e
   cases s with
   | sh d=>exact ⟨G,by rw [show frzS (.sh d) = .sh d from rfl,TV e]; exact S⟩
   | ol ds =>
     obtain ⟨a,vs,ev,h1,h2,h3,h4,h5⟩:=h
     subst ev
     have hp:∀ b,decide (b = a) = true→O b = some i∧G b = none∧H0 b = none:=fun b z=>by obtain rfl:=of_decide_eq_true z; exact ⟨h4,h2,h3⟩
     exact ⟨_,S.aex q (fun b=>decide (b = a)) hp hv (.lst (by unfold mj; rw [if_pos (by simp)]; exact h1) (h5.mono (m7 fun b z=>(hp b z).2.1)))⟩
   | oll ds =>
     obtain ⟨a,vs,ev,h1,h2,h3,h4,h5,h6⟩:=h
     subst ev
     have hp:∀ b,decide (b = a ∨ V.ref b ∈ vs) = true→O b = some i∧G b = none∧H0 b = none:=fun b z=>by
       rcases of_decide_eq_true z with z | z
       · subst z; exact ⟨h4,h2,h3⟩
       · exact h6.facts b z
     exact ⟨_,S.aex q (fun b=>decide (b = a ∨ V.ref b ∈ vs)) hp hv (.lst (by unfold mj; rw [if_pos (by simp)]; exact h1) (h6.frozen (m7 fun b z=>(hp b z).2.1) fun b hb=>by simp [hb]))⟩
   | od ds =>
     obtain ⟨a,vs,ev,h1,h2,h3,h4,h5⟩:=h
     subst ev
     have hp:∀ b,decide (b = a) = true→O b = some i∧G b = none∧H0 b = none:=fun b z=>by obtain rfl:=of_decide_eq_true z; exact ⟨h4,h2,h3⟩
     exact ⟨_,S.aex q (fun b=>decide (b = a)) hp hv (.dK (by unfold mj; rw [if_pos (by simp)]; exact h1) (h5.mono (m7 fun b z=>(hp b z).2.1)))⟩
   | odT ds =>
     obtain ⟨a,vs,ev,h1,h2,h3,h4,h5⟩:=h
     subst ev
     have hp:∀ b,decide (b = a) = true→O b = some i∧G b = none∧H0 b = none:=fun b z=>by obtain rfl:=of_decide_eq_true z; exact ⟨h4,h2,h3⟩
     exact ⟨_,S.aex q (fun b=>decide (b = a)) hp hv (.dT (by unfold mj; rw [if_pos (by simp)]; exact h1) (h5.mono (m7 fun b z=>(hp b z).2.1)))⟩
   | omx ds =>
     obtain ⟨a,vs,bs,ev,h1,h2,h3,h4,h5,h6⟩:=h
     subst ev
     have hp:∀ b,decide (b = a ∨ b ∈ bs) = true→O b = some i∧G b = none∧H0 b = none:=fun b z=>by
       rcases of_decide_eq_true z with z | z
       · subst z; exact ⟨h4,h2,h3⟩
       · exact h6.facts b z
     exact ⟨_,S.aex q (fun b=>decide (b = a ∨ b ∈ bs)) hp hv (.lst (by unfold mj; rw [if_pos (by simp)]; exact h1) (h6.frozen (m7 fun b z=>(hp b z).2.1) fun b hb=>by simp [hb]))⟩
 · exact ⟨G,S⟩
end
section
variable (K:PySem.W.Frag) (Γ:Nat→Option Addr) (E:XK)
def okF (G H:Hp) (Q:VK) (ds:List D):Prop:=∀ a vs G' H',Step G H G' H'→H a = none→H' a = some (.lst vs)→G' a = none→aB K Γ G' vs ds→Q (.ref a) H'
def okFF (G H:Hp) (Q:VK) (dss:List (List D)):Prop:=∀ a vs G' H',Step G H G' H'→H a = none→H' a = some (.lst vs)→G' a = none→V.ref a ∉ vs→bL K Γ H G' H' vs dss→Q (.ref a) H'
def tfD (f:DSt→Out (List D)):TE:=fun σ H Q=>∃ G0 H0 G δ,SR K Γ G0 H0 G H σ δ∧wpO (f δ) (okF K Γ G H Q) (exD K Γ E G H)
def tffD (f:DSt→Out (List (List D))):TE:=fun σ H Q=>∃ G0 H0 G δ,SR K Γ G0 H0 G H σ δ∧wpO (f δ) (okFF K Γ G H Q) (exD K Γ E G H)
end
abbrev DF (X:Cx) (Γ:Nat→Option Addr) (E:XK) (e:Expr) (f:DSt→Out (List D)):Prop:=PE X e (tfD X.K Γ E f)
abbrev DFF (X:Cx) (Γ:Nat→Option Addr) (E:XK) (e:Expr) (f:DSt→Out (List (List D))):Prop:=PE X e (tffD X.K Γ E f)
section
variable {X:Cx} {Γ:Nat→Option Addr} {E:XK} {e a b c:Expr} {pos:Pos} {es:List Expr} {fa fb:DSt→Out D} {fr:DSt→Out (List D)}
theorem bL.frozen {K:PySem.W.Frag} {G0 H0 G H:Hp} {p:Addr→Bool} (gg:bz G (mj G H p)):∀ {vs:List V} {dss:List (List D)},(∀ b,V.ref b ∈ vs→p b = true)→bL K Γ H0 G H vs dss→aB K Γ (mj G H p) vs (dss.map .lst)
 | _,_,_,.nil=>.nil
 | _,_,m,.cons f h g r n t=>.cons (.lst (by unfold mj; rw [if_pos (m _ List.mem_cons_self)]; exact h) (r.mono gg)) (bL.frozen (G0:=G0) gg (fun b' hb=>m b' (List.mem_cons_of_mem _ hb)) t)
theorem bL.gnone {K:PySem.W.Frag} {H G' H':Hp}:∀ {vs:List V} {dss:List (List D)},bL K Γ H G' H' vs dss→∀ b,V.ref b ∈ vs→G' b = none
 | _,_,.nil,b,hb=>by cases hb
 | _,_,.cons f h g r n t,b,hb=>by
   rcases List.mem_cons.mp hb with z | z
   · cases z; exact g
   · exact t.gnone b z
theorem Step.frz {G H G' H':Hp} (s:Step G H G' H') (p:Addr→Bool) (hp:∀ b,p b = true→G' b = none∧H b = none):Step G H (mj G' H' p) H' :=
 ⟨s.gg.trans (m7 fun b z=>(hp b z).1),s.hh,fun b u e=>by
   unfold mj at e
   split at e
   · exact e
   · exact s.gh _ _ e,fun b hb g=>by
   unfold mj
   split
   · exact absurd (hp b ‹_›).2 hb
   · exact s.sep b hb g⟩
def j4 (f:DSt→Out (List D)):DSt→Out D:=fun δ=>(f δ).bind fun ds=>.ok (.lst ds)
def Yi (f:DSt→Out (List (List D))):DSt→Out D:=fun δ=>(f δ).bind fun dss=>.ok (.lst (dss.map .lst))
theorem uz {f:DSt→Out (List D)} (h:DF X Γ E e f):DE X Γ E e (j4 f):=PE.imp h fun σ H Q ⟨G0,H0,G,δ,S,w⟩=>by
 refine ⟨G0,H0,G,δ,S,(au w).mono (fun ds w a vs G1 H1 s1 f h g r=>?_) fun _ k=>k⟩
 have hp:∀ b,decide (b = a) = true→G1 b = none∧H b = none:=fun b z=>by obtain rfl:=of_decide_eq_true z; exact ⟨g,f⟩
 exact w _ _ H1 (s1.frz (fun b=>decide (b = a)) hp) (.lst (by unfold mj; rw [if_pos (by simp)]; exact h) (r.mono (m7 fun b z=>(hp b z).1)))
def zB (f:DSt→Out (List D)):DSt→Out (List D):=fun δ=>(f δ).bind fun ds=>if ds.length ≤ sizeLine then .ok ds else .stuck
theorem agq (h:DA X Γ E es fr):DF X Γ E (.List es pos) (zB fr):=PE.imp (pe_lst h) fun σ H Q ⟨G0,H0,G,δ,S,w⟩=>by
 refine ⟨G0,H0,G,δ,S,(au w).mono (fun ds w vs G1 H1 s1 r1=>?_) fun _ k=>k⟩
 split at w
 · rename_i h
   exact ⟨by rw [r1.length]; exact h,fun p hp=>w p vs G1 _ (s1.trans (.aside s1.gh hp)) (aJ s1.hh hp) aG (aJ s1.gh hp) r1⟩
 · exact False.elim w
def fV (f:DSt→Out D):DSt→Out (List D):=fun δ=>(f δ).bind fun d=>.opt (zY d)
theorem df_list {p:Pos} (hg:Gl X "list") (hm:X.mg "list" = none) (ha:DE X Γ E a fa) (hs:starEach [a] X.env = [(false,eval a X.env)]:=by rfl):DF X Γ E (.Call (.Name "list" p) [a] [] pos) (fV fa) :=
 PE.imp (Dt Zt hg hm (by decide +kernel) (bK ha eG (by rw [hs]; rfl)) (by decide) (by decide) (by rw [hs]; rfl) (by rfl)) fun σ H Q ⟨G0,H0,G,δ,S,w⟩=>by
   refine ⟨G0,H0,G,δ,S,(au w).mono (fun d w v G1 H1 s1 r1=>?_) fun _ k=>k⟩
   obtain ⟨ds,e,w⟩:=bJ w
   obtain ⟨a,vs,rfl,sq,ra⟩:=r1.seq e
   exact ⟨a,vs,rfl,sq.imp (fun z=>s1.gh.seq z) (fun z=>SqT.same s1.gh z),fun l hl=>w l vs G1 _ (s1.trans (.aside s1.gh hl)) (aJ s1.hh hl) aG (aJ s1.gh hl) ra⟩
end
section
variable {X:Cx} {Γ:Nat→Option Addr} {E:XK} {e a b c:Expr} {pos:Pos} {es:List Expr} {fa fb:DSt→Out D} {fr:DSt→Out (List D)} {ft:DSt→Out Bool} {st:Stmt} {rest sa sb:List Stmt} {g g':DSt→Out Fl}
def iz:DSt→Out Fl:=fun δ=>.ok (.nx δ)
def bF (g g':DSt→Out Fl):DSt→Out Fl:=fun δ=>(g δ).bind fun fl=>match fl with
 | .nx δ'=>g' δ'
 | fl=>.ok fl
theorem cC:DSs X Γ E [] iz:=PSs.imp pss_nil fun N σ H ⟨G0,H0,G,δ,S,w⟩=>w σ G H S
theorem bA (h1:DS X Γ E st g) (h2:DSs X Γ E rest g'):DSs X Γ E (st :: rest) (bF g g'):=PSs.imp (wL h1 h2) fun N σ H ⟨G0,H0,G,δ,S,w⟩=>by
 refine ⟨G0,H0,G,δ,S,(au w).mono (fun fl w=>?_) fun _ k=>k⟩
 cases fl with
 | nx δ'=>exact fun σ' G' H' S'=>⟨G0,H0,G',δ',S',w⟩
 | rt d=>exact w
 | bk d=>exact w
 | ct d=>exact w
 | rl d=>exact w
 | rll d=>exact w
theorem aF (h1:DS X Γ E st g):DSs X Γ E [st] g:=pM h1
theorem agr (i:Nat) (h:DS X Γ E st g):DS X Γ E st (fun δ=>g (frz i δ)):=PS.imp h fun N σ H ⟨G0,H0,G,δ,S,w⟩=>by
 obtain ⟨G',S'⟩:=S.freeze i
 exact ⟨G0,H0,G',_,S',w⟩
def qH (f:DSt→Out D):DSt→Out Fl:=fun δ=>(f δ).bind fun _=>.ok (.nx δ)
theorem aas (he:DE X Γ E e fa) (hs:swapsWith e none pos.line X.env = pure false:=by rfl):DS X Γ E (.Expr e pos) (qH fa):=PS.imp (iJ he hs) fun N σ H ⟨G0,H0,G,δ,S,w⟩ =>
 ⟨G0,H0,G,δ,S,(au w).mono (fun d w v G' H' s r=>w σ G' H' (S.step s)) fun x k=>exD.step k S.st⟩
def bR (f:DSt→Out D):DSt→Out Fl:=fun δ=>(f δ).bind fun d=>.ok (.rt d)
theorem aY (he:DE X Γ E e fa):DS X Γ E (.Return (some e) pos) (bR fa):=PS.imp (Lg he) fun N σ H ⟨G0,H0,G,δ,S,w⟩ =>
 ⟨G0,H0,G,δ,S,(au w).mono (fun d w v G' H' s r=>w v G' H' (S.st.trans s) r) fun x k=>exD.step k S.st⟩
def afb (f:DSt→Out (List D)):DSt→Out Fl:=fun δ=>(f δ).bind fun d=>.ok (.rl d)
theorem ahV (he:DF X Γ E e fr):DS X Γ E (.Return (some e) pos) (afb fr):=PS.imp (Lg he) fun N σ H ⟨G0,H0,G,δ,S,w⟩ =>
 ⟨G0,H0,G,δ,S,(au w).mono (fun d w a vs G' H' s f h g r=>w a vs G' H' (S.st.trans s) (aJ S.st.hh f) h g r) fun x k=>exD.step k S.st⟩
theorem bL.reF {K:PySem.W.Frag} {H H2 G' H':Hp} (k:∀ b,H b = none→H2 b = none):∀ {vs:List V} {dss:List (List D)},bL K Γ H G' H' vs dss→bL K Γ H2 G' H' vs dss
 | _,_,.nil=>.nil
 | _,_,.cons f h g r n t=>.cons (k _ f) h g r n (bL.reF k t)
def ahm (f:DSt→Out (List (List D))):DSt→Out Fl:=fun δ=>(f δ).bind fun d=>.ok (.rll d)
theorem ds_retff {ff:DSt→Out (List (List D))} (he:DFF X Γ E e ff):DS X Γ E (.Return (some e) pos) (ahm ff):=PS.imp (Lg he) fun N σ H ⟨G0,H0,G,δ,S,w⟩ =>
 ⟨G0,H0,G,δ,S,(au w).mono (fun d w a vs G' H' s f h g n r=>w a vs G' H' (S.st.trans s) (aJ S.st.hh f) h g n (r.reF fun b z=>aJ S.st.hh z)) fun x k=>exD.step k S.st⟩
def Yq (i:Nat):DSt→Out Fl:=fun δ=>match δ[i]? with
 | some (some (.sh d))=>.ok (.rt d)
 | some (some (.ol ds))=>.ok (.rl ds)
 | some (some (.oll dss))=>.ok (.rll dss)
 | _=>.stuck
theorem Inner.toN {K:PySem.W.Frag} {H0 G H:Hp} {O:Addr→Option Nat} {i:Nat}:∀ {vs:List V} {dss:List (List D)},Inner K Γ H0 G H O i vs dss→bL K Γ H0 G H vs dss
 | _,_,.nil=>.nil
 | _,_,.cons h g h0 o r n t=>.cons h0 h g r n t.toN
theorem Pr (i:Nat) {x:Str} {p:Pos} (hv:PE X (.Name x p) (CT i)):DS X Γ E (.Return (some (.Name x p)) pos) (Yq i):=PS.imp (Lg hv) fun N σ H ⟨G0,H0,G,δ,S,w⟩=>by
 obtain ⟨O,q⟩:=id S.sl
 unfold Yq at w
 split at w
 · rename_i d e
   obtain ⟨v,hv,h⟩:=q i _ e
   exact ⟨v,hv,w v G H S.st h⟩
 · rename_i d e
   obtain ⟨v,hv,a,vs,ev,h1,h2,h3,h4,h5⟩:=q i _ e
   subst ev
   exact ⟨_,hv,w a vs G H S.st h3 h1 h2 h5⟩
 · rename_i d e
   obtain ⟨v,hv,a,vs,ev,h1,h2,h3,h4,h5,h6⟩:=q i _ e
   subst ev
   exact ⟨_,hv,w a vs G H S.st h3 h1 h2 h5 h6.toN⟩
 · exact False.elim w
def sIf (t:DSt→Out Bool) (g g':DSt→Out Fl):DSt→Out Fl:=fun δ=>(t δ).bind fun k=>if k = true then g δ else g' δ
theorem iC (hc:DT X Γ E c ft) (ha:DSs X Γ E sa g) (hb:DSs X Γ E sb g'):DS X Γ E (.If c sa sb pos) (sIf ft g g'):=PS.imp (ps_if hc ha hb) fun N σ H ⟨G0,H0,G,δ,S,w⟩=>by
 refine ⟨G0,H0,G,δ,S,(au w).mono (fun k w G1 H1 s1=>?_) fun x k=>exD.step k S.st⟩
 cases k with
 | true=>rw [if_pos rfl] at w ⊢; exact ⟨G0,H0,G1,δ,S.step s1,w⟩
 | false=>rw [if_neg Bool.false_ne_true] at w ⊢; exact ⟨G0,H0,G1,δ,S.step s1,w⟩
def tgD (K:PySem.W.Frag) (Γ:Nat→Option Addr) (f:D→DSt→Option DSt):TG:=fun v σ H Q=>∃ G0 H0 G δ d δ',SR K Γ G0 H0 G H σ δ∧Rep K Γ G v d∧f d δ = some δ'∧∀ σ',SR K Γ G0 H0 G H σ' δ'→Q σ' H
def tgsD (K:PySem.W.Frag) (Γ:Nat→Option Addr) (f:List D→DSt→Option DSt):TGs:=fun vs σ H Q=>∃ G0 H0 G δ ds δ',SR K Γ G0 H0 G H σ δ∧aB K Γ G vs ds∧f ds δ = some δ'∧∀ σ',SR K Γ G0 H0 G H σ' δ'→Q σ' H
abbrev DG (X:Cx) (Γ:Nat→Option Addr) (e:Expr) (f:D→DSt→Option DSt):Prop:=PG X e (tgD X.K Γ f)
abbrev DGs (X:Cx) (Γ:Nat→Option Addr) (es:List Expr) (f:List D→DSt→Option DSt):Prop:=PGs X es (tgsD X.K Γ f)
theorem PG.imp {e:Expr} {t t':TG} (h:PG X e t) (k:∀ v σ H Q,t' v σ H Q→t v σ H Q):PG X e t':=fun pins s σ H v u Q I r q=>h pins s σ H v u Q I r (k _ _ _ _ q)
theorem PGs.imp {e:List Expr} {t t':TGs} (h:PGs X e t) (k:∀ v σ H Q,t' v σ H Q→t v σ H Q):PGs X e t':=fun pins s σ H v u Q I r q=>h pins s σ H v u Q I r (k _ _ _ _ q)
def gN (i:Nat):D→DSt→Option DSt:=fun d δ=>some (δ.set i (some (.sh d)))
theorem bG {i:Nat} {x:Str} (h:PG X (.Name x pos) (aey i)):DG X Γ (.Name x pos) (gN i):=PG.imp h fun v σ H Q ⟨G0,H0,G,δ,d,δ',S,r,e,q⟩=>by
 cases e
 exact q _ (S.set r)
def j0:List D→DSt→Option DSt:=fun ds δ=>match ds with
 | []=>some δ
 | _=>none
def bO (f:D→DSt→Option DSt) (g:List D→DSt→Option DSt):List D→DSt→Option DSt:=fun ds δ=>match ds with
 | d :: r=>(f d δ).bind (g r)
 | []=>none
theorem Je:DGs X Γ [] j0:=PGs.imp pgs_nil fun vs σ H Q ⟨G0,H0,G,δ,ds,δ',S,r,e,q⟩=>by
 cases r with
 | nil=>cases e; exact ⟨rfl,q _ S⟩
 | cons _ _=>cases e
theorem jZ {f:D→DSt→Option DSt} {h:List D→DSt→Option DSt} (h1:DG X Γ e f) (h2:DGs X Γ es h) (hh:∀ {t:TG} {u:TGs},PG X e t→PGs X es u→PGs X (e :: es) (gCons t u)):DGs X Γ (e :: es) (bO f h):=PGs.imp (hh h1 h2) fun vs σ H Q ⟨G0,H0,G,δ,ds,δ',S,r,e,q⟩=>by
 cases r with
 | nil=>cases e
 | cons r1 r2 =>
   unfold bO at e
   obtain ⟨δ1,e1,e2⟩:=Option.bind_eq_some_iff.mp e
   exact ⟨_,_,rfl,G0,H0,G,δ,_,δ1,S,r1,e1,fun σ' S'=>⟨G0,H0,G,δ1,_,δ',S',r2,e2,q⟩⟩
def gT (n:Nat) (f:List D→DSt→Option DSt):D→DSt→Option DSt:=fun d δ=>match d with
 | .tup ds=>if ds.length = n then f ds δ else none
 | _=>none
theorem Rq {f:List D→DSt→Option DSt} {n:Nat} (hh:∀ {t:TGs},PGs X es t→PG X e (gTup X.K n t)) (h:DGs X Γ es f):DG X Γ e (gT n f):=PG.imp (hh h) fun v σ H Q ⟨G0,H0,G,δ,d,δ',S,r,e,q⟩=>by
 unfold gT at e
 split at e
 · split at e
   · cases r with
     | tup h1 r1=>exact ⟨_,_,rfl,SqT.of (S.st.gh _ _ h1),by rw [r1.length]; assumption,G0,H0,G,δ,_,δ',S,r1,e,q⟩
   · cases e
 · cases e
def sAsg (f:DSt→Out D) (g:D→DSt→Option DSt):DSt→Out Fl:=fun δ=>(f δ).bind fun d=>(Out.opt (g d δ)).bind fun δ'=>.ok (.nx δ')
def dJ (i:Nat) (f:DSt→Out D):DSt→Out Fl:=fun δ=>(f δ).bind fun d=>.ok (.nx (δ.set i (some (.sh d))))
theorem cP (i:Nat) {x:Str} {pos':Pos} (hh:∀ {te:TE},PE X e te→PS X (.Assign [.Name x pos'] e pos) (tAsg te (aey i))) (he:DE X Γ E e fa):DS X Γ E (.Assign [.Name x pos'] e pos) (dJ i fa):=PS.imp (hh he) fun N σ H ⟨G0,H0,G,δ,S,w⟩ =>
 ⟨G0,H0,G,δ,S,(au w).mono (fun d w v G1 H1 s1 r1=>w _ G1 H1 ((S.step s1).set r1)) fun x k=>exD.step k S.st⟩
def lF (i:Nat) (f:DSt→Out (List D)):DSt→Out Fl:=fun δ=>(f δ).bind fun d=>.ok (.nx (δ.set i (some (.ol d))))
theorem Pu (i:Nat) {x:Str} {pos':Pos} (hh:∀ {te:TE},PE X e te→PS X (.Assign [.Name x pos'] e pos) (tAsg te (aey i))) (he:DF X Γ E e fr):DS X Γ E (.Assign [.Name x pos'] e pos) (lF i fr):=PS.imp (hh he) fun N σ H ⟨G0,H0,G,δ,S,w⟩ =>
 ⟨G0,H0,G,δ,S,(au w).mono (fun d w a vs G1 H1 s1 f h g r=>w _ G1 H1 (S.setl s1 f h g r)) fun x k=>exD.step k S.st⟩
def Lh (i:Nat) (f:DSt→Out (List (List D))):DSt→Out Fl:=fun δ=>(f δ).bind fun d=>.ok (.nx (δ.set i (some (.oll d))))
end
end DL
namespace DL
open PySem PySem.Spec PyProof.Rows MX L2
section
variable {X:Cx} {Γ:Nat→Option Addr} {E:XK} {e a b c:Expr} {pos:Pos} {es:List Expr} {fa fb:DSt→Out D} {fr:DSt→Out (List D)} {ft:DSt→Out Bool} {st:Stmt} {rest sa sb:List Stmt} {g g':DSt→Out Fl}
def ud (i:Nat) (f:DSt→Out D):DSt→Out Fl:=fun δ=>match δ[i]? with
 | some (some (.ol ds))=>(f δ).bind fun d=>if ds.length < sizeLine then .ok (.nx (δ.set i (some (.ol (ds ++ [d]))))) else .stuck
 | _=>.stuck
theorem Gh (i:Nat) {x m:Str} {p apos cpos:Pos} (hv:PE X (.Name x p) (CT i)) (he:DE X Γ E e fa) (hh:∀ {to te:TE},PE X (.Name x p) to→PE X e te→PS X (.Expr (.Call (.Attribute (.Name x p) m apos) [e] [] cpos) pos) (M9 (tBM X.K "list" Qc to (wO te DR)))) :
   DS X Γ E (.Expr (.Call (.Attribute (.Name x p) m apos) [e] [] cpos) pos) (ud i fa) :=
 PS.imp (hh hv he) fun N σ H ⟨G0,H0,G,δ,S,w⟩=>by
   obtain ⟨O,q⟩:=id S.sl
   unfold ud at w
   split at w
   · rename_i ds ei
     obtain ⟨v,hvi,h⟩:=id (q i _ ei)
     obtain ⟨aa,vs,ev,h1,h2,h3,h4,h5⟩:=h
     subst ev
     refine ⟨_,hvi,.inl ⟨rfl,vs,SqL.of h1⟩,G0,H0,G,δ,S,(au w).mono (fun d w u G1 H1 s1 r1=>?_) fun x k=>exD.step k S.st⟩
     split at w
     · rename_i hz
       have S1:=S.step s1
       have q1:∀ i s,δ[i]? = some (some s)→∃ v,σ[i]? = some (some v)∧d9 X.K Γ H0 G1 H1 O i v s:=fun j y e=>by
         obtain ⟨v',z1,z2⟩:=q j y e
         exact ⟨v',z1,z2.step s1⟩
       refine ⟨aa,vs,u,rfl,rfl,s1.hh _ _ h1,by rw [h5.length]; exact hz,w σ G1 _ (S1.write q1 (s1.sep aa (by rw [h1]; exact fun z=>nomatch z) h2) h3 h4 hvi ?_)⟩
       exact ⟨aa,vs ++ [u],rfl,aG,s1.sep aa (by rw [h1]; exact fun z=>nomatch z) h2,h3,h4,(h5.mono s1.gg).append (.cons r1 .nil)⟩
     · exact False.elim w
   · exact False.elim w
def wN (i:Nat) (f:DSt→Out (List D)):DSt→Out Fl:=fun δ=>match δ[i]? with
 | some (some (.oll dss))=>(f δ).bind fun d=>if dss.length < sizeLine then .ok (.nx (δ.set i (some (.oll (dss ++ [d]))))) else .stuck
 | some (some (.ol []))=>(f δ).bind fun d=>.ok (.nx (δ.set i (some (.oll [d]))))
 | _=>.stuck
theorem Inner.length {K:PySem.W.Frag} {H0 G H:Hp} {O:Addr→Option Nat} {i:Nat}:∀ {vs:List V} {dss:List (List D)},Inner K Γ H0 G H O i vs dss→vs.length = dss.length
 | _,_,.nil=>rfl
 | _,_,.cons h g h0 o r n t=>by rw [List.length_cons,List.length_cons,t.length]
theorem Inner.updI {K:PySem.W.Frag} {H0 G H:Hp} {O:Addr→Option Nat} {i:Nat} {a:Addr} {o:HO}:∀ {vs:List V} {dss:List (List D)},V.ref a ∉ vs→Inner K Γ H0 G H O i vs dss→Inner K Γ H0 G (upd H a o) O i vs dss
 | _,_,_,.nil=>.nil
 | _,_,m,.cons h g h0 oo r n t=>.cons ((az fun z=>m (by rw [z]; exact List.mem_cons_self)).trans h) g h0 oo r n (Inner.updI (fun z=>m (List.mem_cons_of_mem _ z)) t)
theorem Inner.snoc {K:PySem.W.Frag} {H0 G H:Hp} {O:Addr→Option Nat} {i:Nat} {b:Addr} {ws:List V} {ds:List D} (h:H b = some (.lst ws)) (g:G b = none) (h0:H0 b = none) (o:O b = some i) (r:aB K Γ G ws ds):∀ {vs:List V} {dss:List (List D)},V.ref b ∉ vs→Inner K Γ H0 G H O i vs dss→Inner K Γ H0 G H O i (vs ++ [.ref b]) (dss ++ [ds])
 | _,_,_,.nil=>.cons h g h0 o r (by simp) .nil
 | _,_,m,.cons h' g' h0' o' r' n' t=>.cons h' g' h0' o' r' (fun z=>by
     rcases List.mem_append.mp z with z | z
     · exact n' z
     · exact m (by rw [List.mem_singleton.mp z]; exact List.mem_cons_self)) (Inner.snoc h g h0 o r (fun z=>m (List.mem_cons_of_mem _ z)) t)
theorem ds_appl (i:Nat) {x m:Str} {p apos cpos:Pos} (hv:PE X (.Name x p) (CT i)) (he:DF X Γ E e fr) (hh:∀ {to te:TE},PE X (.Name x p) to→PE X e te→PS X (.Expr (.Call (.Attribute (.Name x p) m apos) [e] [] cpos) pos) (M9 (tBM X.K "list" Qc to (wO te DR)))) :
   DS X Γ E (.Expr (.Call (.Attribute (.Name x p) m apos) [e] [] cpos) pos) (wN i fr) :=
 PS.imp (hh hv he) fun N σ H ⟨G0,H0,G,δ,S,w⟩=>by
   obtain ⟨O,q⟩:=id S.sl
   have core:∀ (dss:List (List D)) (aa:Addr) (vs:List V),δ[i]? ≠ none→σ[i]? = some (some (.ref aa))→H aa = some (.lst vs)→G aa = none→H0 aa = none→O aa = some i→V.ref aa ∉ vs→Inner X.K Γ H0 G H O i vs dss→dss.length < sizeLine →
       wpO ((fr δ).bind fun d=>.ok (.nx (δ.set i (some (.oll (dss ++ [d])))))) (FlOk X.K Γ G0 H0 N) (exD X.K Γ E G0 H0)→M9 (tBM X.K "list" Qc (CT i) (wO (tfD X.K Γ E fr) DR)) N σ H:=by
     intro dss aa vs hδ hvi h1 h2 h3 h4 h5 h6 hz w
     refine ⟨_,hvi,.inl ⟨rfl,vs,SqL.of h1⟩,G0,H0,G,δ,S,(au w).mono (fun d w b ws G1 H1 s1 fb hb gb rb=>?_) fun x k=>exD.step k S.st⟩
     have ne:aa ≠ b:=fun z=>by rw [z,fb] at h1; cases h1
     have nm:V.ref b ∉ vs:=fun z=>by
       have:=h6.facts b z
       have st:∀ {vs:List V} {dss:List (List D)},Inner X.K Γ H0 G H O i vs dss→V.ref b ∈ vs→H b ≠ none:=by
         intro vs dss hI
         induction hI with
         | nil=>intro z; cases z
         | cons h g h0 o r n t ih =>
           intro z
           rcases List.mem_cons.mp z with z | z
           · cases z; rw [h]; exact fun q=>nomatch q
           · exact ih z
       exact st h6 z fb
     have k:∀ b',H b' ≠ none→(fun b'=>if b' = b then some i else O b') b' = O b':=fun b' hb'=>by
       have:b' ≠ b:=fun z=>hb' (z ▸ fb)
       simp [this]
     have S1:=S.step s1
     have q1:∀ j s,δ[j]? = some (some s)→∃ v,σ[j]? = some (some v)∧d9 X.K Γ H0 G1 H1 (fun b'=>if b' = b then some i else O b') j v s:=fun j y e=>by
       obtain ⟨v',z1,z2⟩:=q j y e
       exact ⟨v',z1,(z2.reO k).step s1⟩
     have ga:G1 aa = none:=s1.sep aa (by rw [h1]; exact fun z=>nomatch z) h2
     refine ⟨aa,vs,.ref b,rfl,rfl,s1.hh _ _ h1,by rw [h6.length]; exact hz,w σ G1 _ (S1.write q1 ga h3 (by simp [ne,h4]) hvi ?_)⟩
     refine ⟨aa,vs ++ [.ref b],rfl,aG,ga,h3,by simp [ne,h4],fun z=>?_,?_⟩
     · rcases List.mem_append.mp z with z | z
       · exact h5 z
       · have z:V.ref aa = V.ref b:=by simpa using z
         cases z
         exact ne rfl
     · exact Inner.snoc ((az (Ne.symm ne)).trans hb) gb (aJ S.st.hh fb) (by simp) rb nm (Inner.updI h5 ((h6.reO k).step s1))
   unfold wN at w
   split at w
   · rename_i dss ei
     obtain ⟨v,hvi,aa,vs,ev,h1,h2,h3,h4,h5,h6⟩:=id (q i _ ei)
     subst ev
     by_cases hz:dss.length < sizeLine
     · refine core dss aa vs (by rw [ei]; exact fun z=>nomatch z) hvi h1 h2 h3 h4 h5 h6 hz ?_
       have e2:((fr δ).bind fun d=>if dss.length < sizeLine then Out.ok (Fl.nx (δ.set i (some (.oll (dss ++ [d]))))) else .stuck) = (fr δ).bind fun d=>.ok (.nx (δ.set i (some (.oll (dss ++ [d]))))):=by
         congr 1; funext d; rw [if_pos hz]
       rw [e2] at w
       exact w
     · refine ⟨_,hvi,.inl ⟨rfl,vs,SqL.of h1⟩,G0,H0,G,δ,S,(au w).mono (fun d w b ws G1 H1 s1 fb hb gb rb=>?_) fun x k=>exD.step k S.st⟩
       rw [if_neg hz] at w
       exact False.elim w
   · rename_i ei
     obtain ⟨v,hvi,aa,vs,ev,h1,h2,h3,h4,h5⟩:=id (q i _ ei)
     subst ev
     cases h5
     exact core [] aa [] (by rw [ei]; exact fun z=>nomatch z) hvi h1 h2 h3 h4 (by simp) .nil (by decide) w
   · exact False.elim w
def sExt (i:Nat) (f:DSt→Out D):DSt→Out Fl:=fun δ=>match δ[i]? with
 | some (some (.ol ds))=>(f δ).bind fun d=>match d with
   | .lst zs=>if ds.length + zs.length ≤ sizeLine then .ok (.nx (δ.set i (some (.ol (ds ++ zs))))) else .stuck
   | _=>.stuck
 | _=>.stuck
def sClr (i:Nat):DSt→Out Fl:=fun δ=>match δ[i]? with
 | some (some (.ol _))=>.ok (.nx (δ.set i (some (.ol []))))
 | some (some (.oll _))=>.ok (.nx (δ.set i (some (.ol []))))
 | _=>.stuck
theorem Inner.at {K:PySem.W.Frag} {H0 G H:Hp} {O:Addr→Option Nat} {i:Nat}:∀ {vs:List V} {dss:List (List D)} {j:Nat} {ds:List D},Inner K Γ H0 G H O i vs dss→dss[j]? = some ds→∃ b ws,vs[j]? = some (.ref b)∧H b = some (.lst ws)∧G b = none∧H0 b = none∧O b = some i∧aB K Γ G ws ds
 | _,_,_,_,.nil,e=>by simp at e
 | _,_,0,_,.cons h g h0 o r n t,e=>by simp at e; subst e; exact ⟨_,_,rfl,h,g,h0,o,r⟩
 | _,_,j + 1,_,.cons h g h0 o r n t,e=>by
   obtain ⟨b,ws,z1,z⟩:=Inner.at (j:=j) t (by simpa using e)
   exact ⟨b,ws,by simpa using z1,z⟩
theorem Inner.put {K:PySem.W.Frag} {H0 G H:Hp} {O:Addr→Option Nat} {i:Nat} {b:Addr} {ws:List V} {ds:List D} (r:aB K Γ G ws ds):∀ {vs:List V} {dss:List (List D)} {j:Nat},Inner K Γ H0 G H O i vs dss→vs[j]? = some (.ref b)→Inner K Γ H0 G (upd H b (.lst ws)) O i vs (dss.set j ds)
 | _,_,_,.nil,e=>by simp at e
 | _,_,0,.cons h g h0 o r' n t,e=>by
   simp at e
   subst e
   exact .cons aG g h0 o r n (Inner.updI n t)
 | _,_,j + 1,.cons (b:=b') (vs:=vs') h g h0 o r' n t,e=>by
   have e':vs'[j]? = some (V.ref b):=by simpa using e
   have ne:b' ≠ b:=fun z=>n (by rw [z]; exact List.mem_of_getElem? e')
   exact .cons ((az ne).trans h) g h0 o r' n (Inner.put (j:=j) r t e')
def Yo (i:Nat) (fk:DSt→Out D):DSt→Out Fl:=fun δ=>match δ[i]? with
 | some (some (.oll dss))=>(fk δ).bind fun k=>match k with
   | .int k=>match ixN dss.length k with
     | some j=>.ok (.nx (δ.set i (some (.oll (dss.set j [])))))
     | none=>.stuck
   | _=>.stuck
 | _=>.stuck
theorem ixN_lt {n:Nat} {i:Int} {j:Nat} (h:ixN n i = some j):j < n:=(aa1 h).2.1
def sPut (i:Nat) (fe fk:DSt→Out D):DSt→Out Fl:=fun δ=>(fe δ).bind fun d=>match δ[i]? with
 | some (some (.ol ds))=>(fk δ).bind fun k=>match k with
   | .int k=>match ixN ds.length k with
     | some j=>.ok (.nx (δ.set i (some (.ol (ds.set j d)))))
     | none=>.stuck
   | _=>.stuck
 | _=>.stuck
def M7 (i:Nat) (fe fk fl:DSt→Out D):DSt→Out Fl:=fun δ=>(fe δ).bind fun d=>match δ[i]? with
 | some (some (.oll dss))=>(fk δ).bind fun k=>match k with
   | .int k=>match ixN dss.length k with
     | some j=>(fl δ).bind fun l=>match l with
       | .int l=>match ixN (dss.getD j []).length l with
         | some m=>.ok (.nx (δ.set i (some (.oll (dss.set j ((dss.getD j []).set m d))))))
         | none=>.stuck
       | _=>.stuck
     | none=>.stuck
   | _=>.stuck
 | _=>.stuck
theorem ds_put2 (i:Nat) {x:Str} {p p2 p3:Pos} {fc:DSt→Out D} (hv:PE X (.Name x p) (CT i)) (he:DE X Γ E e fa) (hb:DE X Γ E b fb) (hc:DE X Γ E c fc) (hh:∀ {te to ti:TE},PE X e te→PE X (.Subscript (.Name x p) b p3) to→PE X c ti→PS X (.Assign [.Subscript (.Subscript (.Name x p) b p3) c p2] e pos) (tAsg te (gSub to ti rSetL))) (hs:Pq b:=by exact fun _ _=>rfl) :
   DS X Γ E (.Assign [.Subscript (.Subscript (.Name x p) b p3) c p2] e pos) (M7 i fa fb fc) :=
 PS.imp (hh he (pe_ix ah7 hv hb hs) hc) fun N σ H ⟨G0,H0,G,δ,S,w⟩=>by
   refine ⟨G0,H0,G,δ,S,(au w).mono (fun d w u G1 H1 s1 r1=>?_) fun x k=>exD.step k S.st⟩
   have S1:=S.step s1
   obtain ⟨O,q⟩:=id S1.sl
   split at w
   · rename_i dss ei
     obtain ⟨v,hvi,aa,vs,ev,h1,h2,h3,h4,h5,h6⟩:=id (q i _ ei)
     subst ev
     refine ⟨_,hvi,G0,H0,G1,δ,S1,(au w).mono (fun d2 w u2 G2 H2 s2 r2=>?_) fun x k=>exD.step k S1.st⟩
     split at w
     · rename_i k
       split at w
       · rename_i j hj
         cases r2
         have S2:=S1.step s2
         have lt:=ixN_lt hj
         have I6:=h6.step s2
         obtain ⟨bb,ws,z1,z2,z3,z4,z5,z6⟩:=I6.at (j:=j) (ds:=dss[j]) (by simp [lt])
         have gd:dss.getD j [] = dss[j]:=by simp [lt]
         refine ⟨aa,vs,k,.ref bb,rfl,rfl,SqL.of (s2.hh _ _ h1),by unfold atI; rw [h6.length,hj]; exact z1,G0,H0,G2,δ,S2,(au w).mono (fun d3 w u3 G3 H3 s3 r3=>?_) fun x k=>exD.step k S2.st⟩
         split at w
         · rename_i l
           split at w
           · rename_i m hm
             cases r3
             have S3:=S2.step s3
             have I7:=I6.step s3
             have q1:∀ i s,δ[i]? = some (some s)→∃ v,σ[i]? = some (some v)∧d9 X.K Γ H0 G3 H3 O i v s:=fun j y e=>by
               obtain ⟨v',z1,z2⟩:=q j y e
               exact ⟨v',z1,(z2.step s2).step s3⟩
             have ga:G3 aa = none:=s3.sep aa (by rw [s2.hh _ _ h1]; exact fun z=>nomatch z) (s2.sep aa (by rw [h1]; exact fun z=>nomatch z) h2)
             have gb:G3 bb = none:=s3.sep bb (by rw [z2]; exact fun z=>nomatch z) z3
             have ne:aa ≠ bb:=fun z=>h5 (by rw [z]; exact List.mem_of_getElem? z1)
             rw [gd] at hm w
             refine ⟨bb,ws,l,m,rfl,rfl,s3.hh _ _ z2,by rw [z6.length]; exact hm,w σ G3 _ (S3.write q1 gb z4 z5 hvi ?_)⟩
             exact ⟨aa,vs,rfl,(az ne).trans (s3.hh _ _ (s2.hh _ _ h1)),ga,h3,h4,h5,I7.put (aB.set (r1.mono (s2.trans s3).gg) m (z6.mono s3.gg)) z1⟩
           · exact False.elim w
         · exact False.elim w
       · exact False.elim w
     · exact False.elim w
   · exact False.elim w
structure Yl (K:PySem.W.Frag) (Γ:Nat→Option Addr) (G1:Hp) (J:It) (ds:List D):Prop where
 go:∀ i H,bz G1 H→i < ds.length→J.go i H
 yld:∀ i G H x H' d,bz G1 G→bz G H→J.yld i H x H'→ds[i]? = some d→∃ G',Step G H G' H'∧Rep K Γ G' x d
 stop:∀ i H,bz G1 H→ds.length ≤ i→J.stop i H
def tiD (K:PySem.W.Frag) (Γ:Nat→Option Addr) (E:XK) (f:DSt→Out (List D)):TI:=fun σ H R=>∃ G0 H0 G δ,SR K Γ G0 H0 G H σ δ∧wpO (f δ) (fun ds=>∀ J G' H',Step G H G' H'→Yl K Γ G' J ds→R J H') (exD K Γ E G H)
abbrev DI (X:Cx) (Γ:Nat→Option Addr) (E:XK) (tg iter:Expr) (f:DSt→Out (List D)):Prop:=PI X tg iter (tiD X.K Γ E f)
theorem PI.imp {tg iter:Expr} {t t':TI} (h:PI X tg iter t) (k:∀ σ H R,t' σ H R→t σ H R):PI X tg iter t':=fun pins s σ H R I q=>h pins s σ H R I (k _ _ _ q)
theorem aip {K:PySem.W.Frag} {G:Hp} {a:Addr} {vs:List V} {ds:List D} (h:SqL K G a vs) (r:aB K Γ G vs ds):Yl K Γ G (Itl K a) ds:=by
 refine ⟨fun i H s lt=>?_,fun i G' H x H' d s s' y e=>?_,fun i H s le=>⟨vs,s.seq h,by rw [r.length]; exact le⟩⟩
 · obtain ⟨v,e,_⟩:=r.get (i:=i) (d:=ds[i]) (by simp [lt])
   exact ⟨vs,v,s.seq h,e⟩
 · obtain ⟨rfl,y⟩:=y
   obtain ⟨v,e1,e2⟩:=r.get e
   have:=y vs ((s.trans s').seq h)
   rw [e1] at this
   cases this
   exact ⟨G',.refl s',e2.mono s⟩
theorem yl_tup {K:PySem.W.Frag} {G:Hp} {a:Addr} {vs:List V} {ds:List D} (h:SqT K G a vs) (r:aB K Γ G vs ds):Yl K Γ G (Itt K a) ds:=by
 refine ⟨fun i H s lt=>?_,fun i G' H x H' d s s' y e=>?_,fun i H s le=>⟨vs,SqT.same s h,by rw [r.length]; exact le⟩⟩
 · obtain ⟨v,e,_⟩:=r.get (i:=i) (d:=ds[i]) (by simp [lt])
   exact ⟨vs,v,SqT.same s h,e⟩
 · obtain ⟨rfl,y⟩:=y
   obtain ⟨v,e1,e2⟩:=r.get e
   have:=y vs (SqT.same (s.trans s') h)
   rw [e1] at this
   cases this
   exact ⟨G',.refl s',e2.mono s⟩
theorem pi_or {tg iter:Expr} {w w':TI} (h:PI X tg iter w) (h':PI X tg iter w'):PI X tg iter (fun σ H R=>w σ H R ∨ w' σ H R):=fun pins s σ H R I q=>by
 rcases q with q | q
 · exact h pins s σ H R I q
 · exact h' pins s σ H R I q
theorem mR {tg:Expr} (ha:DE X Γ E a fa):DI X Γ E tg a (fV fa):=PI.imp (pi_or (pi_list ha) (pi_tup ha)) fun σ H R ⟨G0,H0,G,δ,S,w⟩=>by
 unfold fV at w
 cases h:fa δ with
 | stuck=>rw [h] at w; exact False.elim w
 | ex x=>rw [h] at w; exact .inl ⟨G0,H0,G,δ,S,by rw [h]; exact w⟩
 | ok d =>
   rw [h] at w
   obtain ⟨ds,e,k⟩:=bJ w
   cases d <;> simp only [zY] at e <;> cases e
   · refine .inl ⟨G0,H0,G,δ,S,?_⟩
     rw [h]
     intro v G1 H1 s1 r1
     cases r1 with
     | lst h r=>exact ⟨_,rfl,⟨_,SqL.of (s1.gh _ _ h)⟩,k _ G1 H1 s1 (aip (SqL.of h) r)⟩
   · refine .inr ⟨G0,H0,G,δ,S,?_⟩
     rw [h]
     intro v G1 H1 s1 r1
     cases r1 with
     | tup h r=>exact ⟨_,rfl,⟨_,SqT.of (s1.gh _ _ h)⟩,k _ G1 H1 s1 (yl_tup (SqT.of h) r)⟩
   · refine .inl ⟨G0,H0,G,δ,S,?_⟩
     rw [h]
     intro v G1 H1 s1 r1
     cases r1 with
     | rol h r=>exact ⟨_,rfl,⟨_,s1.gh.seq h⟩,k _ G1 H1 s1 (aip h r)⟩
   · refine .inr ⟨G0,H0,G,δ,S,?_⟩
     rw [h]
     intro v G1 H1 s1 r1
     cases r1 with
     | rot h r=>exact ⟨_,rfl,⟨_,SqT.same s1.gh h⟩,k _ G1 H1 s1 (yl_tup h r)⟩
def rngL (lo:Int) (n:Nat):List D:=(List.range n).map fun i=>.int (lo + (i:Nat))
theorem yl_rng {K:PySem.W.Frag} {G:Hp} {lo:Int} {n:Nat}:Yl K Γ G (Itr lo n) (rngL lo n):=by
 have hl:(rngL lo n).length = n:=by simp [rngL]
 refine ⟨fun i H s lt=>by rw [hl] at lt; exact lt,fun i G' H x H' d s s' y e=>?_,fun i H s le=>by rw [hl] at le; exact le⟩
 obtain ⟨rfl,rfl⟩:=y
 unfold rngL at e
 rw [List.getElem?_map] at e
 obtain ⟨j,e1,e2⟩:=Option.map_eq_some_iff.mp e
 obtain ⟨lt,e3⟩:=List.getElem?_eq_some_iff.mp e1
 rw [List.getElem_range] at e3
 subst e2 e3
 exact ⟨G',.refl s',.int _⟩
def zF (f:DSt→Out D):DSt→Out (List D):=fun δ=>(f δ).bind fun d=>match d with
 | .int j=>if -(2 ^ 62) ≤ j∧j < 2 ^ 62 then .ok (rngL 0 j.toNat) else .stuck
 | _=>.stuck
theorem oE {tg:Expr} {p:Pos} (hg:Gl X "range") (hm:X.mg "range" = none) (ha:DE X Γ E a fa) (hs:starEach [a] X.env = [(false,eval a X.env)]:=by rfl):DI X Γ E tg (.Call (.Name "range" p) [a] [] pos) (zF fa) :=
 PI.imp (ajc hg hm (bK ha eG (by rw [hs]; rfl)) hs) fun σ H R ⟨G0,H0,G,δ,S,w⟩=>by
   refine ⟨G0,H0,G,δ,S,(au w).mono (fun d w v G1 H1 s1 r1=>?_) fun _ k=>k⟩
   split at w
   · split at w
     · rename_i h; cases r1; exact ⟨_,rfl,h.1,h.2,w _ G1 H1 s1 yl_rng⟩
     · exact False.elim w
   · exact False.elim w
def Bg:Nat→List D→List D
 | _,[]=>[]
 | n,d :: ds=>.tup [.int n,d] :: Bg (n + 1) ds
theorem XM:∀ (ds:List D) (n i:Nat),(Bg n ds)[i]? = (ds[i]?).map fun d=>.tup [.int ((n + i:Nat):Int),d]
 | [],n,i=>by simp [Bg]
 | d :: ds,n,0=>by simp [Bg]
 | d :: ds,n,i + 1=>by
   have:=XM ds (n + 1) i
   simp only [Bg,List.getElem?_cons_succ]
   rw [this]
   congr 1
   funext d
   congr 2
   simp only [List.cons.injEq,D.int.injEq,and_true]
   omega
theorem XN (ds:List D):∀ n,(Bg n ds).length = ds.length:=by
 induction ds with
 | nil=>intro n; rfl
 | cons d ds ih=>intro n; simp [Bg,ih]
theorem aio {K:PySem.W.Frag} {G:Hp} {a:Addr} {vs:List V} {ds:List D} (h:SqL K G a vs) (r:aB K Γ G vs ds):Yl K Γ G (Ite K a) (Bg 0 ds):=by
 refine ⟨fun i H s lt=>?_,fun i G' H x H' d s s' y e=>?_,fun i H s le=>⟨vs,s.seq h,by rw [XN] at le; rw [r.length]; exact le⟩⟩
 · rw [XN] at lt
   obtain ⟨v,e,_⟩:=r.get (i:=i) (d:=ds[i]) (by simp [lt])
   exact ⟨vs,v,s.seq h,e⟩
 · obtain ⟨p,x0,rfl,hp,rfl,y⟩:=y
   rw [XM] at e
   obtain ⟨d0,e0,rfl⟩:=Option.map_eq_some_iff.mp e
   obtain ⟨v,e1,e2⟩:=r.get e0
   have:=y vs ((s.trans s').seq h)
   rw [e1] at this
   cases this
   refine ⟨_,.new s' hp,.tup aG (.cons ?_ (.cons ((e2.mono s).mono (bz.up (aJ s' hp))) .nil))⟩
   rw [Nat.zero_add]
   exact .int _
def qX:D→Option (List D)
 | .lst xs=>some xs
 | .rol xs=>some xs
 | _=>none
def enum (f:DSt→Out D):DSt→Out (List D):=fun δ=>(f δ).bind fun d=>(Out.opt (qX d)).bind fun ds=>.ok (Bg 0 ds)
theorem aaq {es':List Expr} {kk:Nat} {tp p:Pos} (hg:Gl X "enumerate") (hm:X.mg "enumerate" = none) (ha:DE X Γ E a fa) (hs:starEach [a] X.env = [(false,eval a X.env)]:=by rfl):DI X Γ E (.Tuple es' kk tp) (.Call (.Name "enumerate" p) [a] [] pos) (enum fa) :=
 PI.imp (pi_enum hg hm (bK ha eG (by rw [hs]; rfl)) hs) fun σ H R ⟨G0,H0,G,δ,S,w⟩=>by
   refine ⟨G0,H0,G,δ,S,(au w).mono (fun d w v G1 H1 s1 r1=>?_) fun _ k=>k⟩
   obtain ⟨ds,e,w⟩:=bJ (au w)
   unfold qX at e
   split at e
   · cases e
     cases r1 with
     | lst h r=>exact ⟨_,rfl,⟨_,SqL.of (s1.gh _ _ h)⟩,w _ G1 H1 s1 (aio (SqL.of h) r)⟩
   · cases e
     cases r1 with
     | rol h r=>exact ⟨_,rfl,⟨_,s1.gh.seq h⟩,w _ G1 H1 s1 (aio h r)⟩
   · cases e
def forD (tg:D→DSt→Option DSt) (body:DSt→Out Fl):List D→DSt→Out Fl
 | [],δ=>.ok (.nx δ)
 | d :: ds,δ=>(Out.opt (tg d δ)).bind fun δ1=>(body δ1).bind fun fl=>match fl with
   | .nx δ2=>forD tg body ds δ2
   | .ct δ2=>forD tg body ds δ2
   | .bk δ2=>.ok (.nx δ2)
   | fl=>.ok fl
def qg (fi:DSt→Out (List D)) (tg:D→DSt→Option DSt) (body:DSt→Out Fl):DSt→Out Fl:=fun δ=>(fi δ).bind fun ds=>forD tg body ds δ
def un2 (H0 G1:Hp):Hp:=fun b=>match H0 b with
 | some o=>some o
 | none=>G1 b
theorem ug {H0 G1:Hp} {b:Addr}:un2 H0 G1 b = none ↔ H0 b = none∧G1 b = none:=by
 unfold un2
 cases h:H0 b <;> simp
theorem un2_some {H0 G1:Hp} {b:Addr} {o:HO} (h:un2 H0 G1 b = some o):H0 b = some o ∨ G1 b = some o:=by
 unfold un2 at h
 cases h0:H0 b with
 | none=>rw [h0] at h; exact .inr h
 | some u=>rw [h0] at h; exact .inl h
theorem Inner.reH {K:PySem.W.Frag} {H0 H0' G H:Hp} {O:Addr→Option Nat} {i:Nat} (k:∀ b,H0 b = none→G b = none→H0' b = none):∀ {vs:List V} {dss:List (List D)},Inner K Γ H0 G H O i vs dss→Inner K Γ H0' G H O i vs dss
 | _,_,.nil=>.nil
 | _,_,.cons h g h0 o r n t=>.cons h g (k _ h0 g) o r n (Inner.reH k t)
theorem bw.reH {K:PySem.W.Frag} {H0 H0' G H:Hp} {O:Addr→Option Nat} {i:Nat} (k:∀ b,H0 b = none→G b = none→H0' b = none):∀ {vs:List V} {es:List Mx} {bs:List Addr},bw K Γ H0 G H O i vs es bs→bw K Γ H0' G H O i vs es bs
 | _,_,_,.nil=>.nil
 | _,_,_,.own h g h0 o r n t=>.own h g (k _ h0 g) o r n (bw.reH k t)
 | _,_,_,.fix r t=>.fix r (bw.reH k t)
theorem d9.reH {K:PySem.W.Frag} {H0 H0' G H:Hp} {O:Addr→Option Nat} {i:Nat} {v:V} {x:Sl} (h:d9 K Γ H0 G H O i v x) (k:∀ b,H0 b = none→G b = none→H0' b = none):d9 K Γ H0' G H O i v x:=by
 cases x with
 | sh d=>exact h
 | ol ds=>obtain ⟨a,vs,e,h1,h2,h3,h4,h5⟩:=h; exact ⟨a,vs,e,h1,h2,k _ h3 h2,h4,h5⟩
 | oll ds=>obtain ⟨a,vs,e,h1,h2,h3,h4,h5,h6⟩:=h; exact ⟨a,vs,e,h1,h2,k _ h3 h2,h4,h5,h6.reH k⟩
 | od ds=>obtain ⟨a,vs,e,h1,h2,h3,h4,h5⟩:=h; exact ⟨a,vs,e,h1,h2,k _ h3 h2,h4,h5⟩
 | odT ds=>obtain ⟨a,vs,e,h1,h2,h3,h4,h5⟩:=h; exact ⟨a,vs,e,h1,h2,k _ h3 h2,h4,h5⟩
 | omx ds=>obtain ⟨a,vs,bs,e,h1,h2,h3,h4,h5,h6⟩:=h; exact ⟨a,vs,bs,e,h1,h2,k _ h3 h2,h4,h5,h6.reH k⟩
theorem SR.later {K:PySem.W.Frag} {G0 H0 G1 H1 G H:Hp} {σ:L2.St} {δ:DSt} (s1:Step G0 H0 G1 H1) (S:SR K Γ G0 H0 G H σ δ) (s:bz G1 G):SR K Γ G1 (un2 H0 G1) G H σ δ:=by
 refine ⟨⟨s,fun b o e=>?_,S.st.gh,fun b hb g=>?_⟩,S.len,?_⟩
 · rcases un2_some e with e | e
   · exact S.st.hh _ _ e
   · exact S.st.gh _ _ (s _ _ e)
 · have h0:H0 b ≠ none:=fun z=>hb (ug.mpr ⟨z,g⟩)
   exact S.st.sep b h0 (s1.gg.free g)
 · obtain ⟨O,q⟩:=S.sl
   refine ⟨O,fun i x e=>?_⟩
   obtain ⟨v,h1,h2⟩:=q i x e
   exact ⟨v,h1,h2.reH fun b z g=>ug.mpr ⟨z,s.free g⟩⟩
theorem Step.back {G0 H0 G1 H1 G H:Hp} (s1:Step G0 H0 G1 H1) (s:Step G1 (un2 H0 G1) G H):Step G0 H0 G H :=
 ⟨s1.gg.trans s.gg,fun b o e=>s.hh _ _ (by unfold un2; rw [e]),s.gh,fun b hb g=>s.sep b (fun z=>hb (ug.mp z).1) (s1.sep b hb g)⟩
theorem SR.back {K:PySem.W.Frag} {G0 H0 G1 H1 G H:Hp} {σ:L2.St} {δ:DSt} (s1:Step G0 H0 G1 H1) (S:SR K Γ G1 (un2 H0 G1) G H σ δ):SR K Γ G0 H0 G H σ δ:=by
 refine ⟨s1.back S.st,S.len,?_⟩
 obtain ⟨O,q⟩:=S.sl
 refine ⟨O,fun i x e=>?_⟩
 obtain ⟨v,h1,h2⟩:=q i x e
 exact ⟨v,h1,h2.reH fun b z _=>(ug.mp z).1⟩
theorem yc {tg iter:Expr} {body:List Stmt} {fi:DSt→Out (List D)} {t:D→DSt→Option DSt} (hh:∀ {wi:TI} {g:TG} {tb:TS},PI X tg iter wi→PG X tg g→PSs X body tb→PS X (.For tg iter body [] pos) (tFor wi g tb)) (hi:DI X Γ E tg iter fi) (hg:DG X Γ tg t) (hb:DSs X Γ E body g) :
   DS X Γ E (.For tg iter body [] pos) (qg fi t g):=PS.imp (hh hi hg hb) fun N σ H ⟨G0,H0,G,δ,S,w⟩=>by
 refine ⟨G0,H0,G,δ,S,(au w).mono (fun ds w J G1 H1 s1 Y=>?_) fun x k=>exD.step k S.st⟩
 have sb:Step G0 H0 G1 H1:=S.st.trans s1
 refine ⟨fun i m σ H=>∃ G δ,SR X.K Γ G0 H0 G H σ δ∧bz G1 G∧m = ds.length - i∧i ≤ ds.length∧wpO (forD t g (ds.drop i) δ) (FlOk X.K Γ G0 H0 N) (exD X.K Γ E G0 H0),⟨_,G1,δ,S.step s1,bz.refl _,rfl,Nat.zero_le _,w⟩,?_⟩
 rintro i m σ H ⟨G2,δ2,S2,s2,rfl,hi,w⟩
 by_cases lt:i < ds.length
 · refine .inr ⟨Y.go i H (s2.trans S2.st.gh) lt,fun σ' H'=>∃ G δ,SR X.K Γ G0 H0 G H' σ' δ∧bz G1 G∧wpO (forD t g (ds.drop (i + 1)) δ) (FlOk X.K Γ G0 H0 N) (exD X.K Γ E G0 H0),fun σ' H' ⟨G',δ',a1,a2,a3⟩=>⟨ds.length - (i + 1),by omega,G',δ',a1,a2,rfl,lt,a3⟩,fun x H' y=>?_⟩
   obtain ⟨G3,s3,r3⟩:=Y.yld i G2 H x H' ds[i] s2 S2.st.gh y (by simp [lt])
   rw [List.drop_eq_getElem_cons lt] at w
   obtain ⟨δ3,e3,w⟩:=bJ (au w)
   have S3:=(S2.step s3).later sb (s2.trans s3.gg)
   refine ⟨G1,un2 H0 G1,G3,δ2,ds[i],δ3,S3,r3,e3,fun σ4 S4=>?_⟩
   refine ⟨G1,un2 H0 G1,G3,δ3,S4,(au w).mono (fun fl w=>?_) fun x k a G' H' s' r'=>k a G' H' (sb.back s') r'⟩
   cases fl with
   | nx δ'=>exact fun σ' G' H' S'=>⟨G',δ',S'.back sb,S'.st.gg,w⟩
   | ct δ'=>exact fun σ' G' H' S'=>⟨G',δ',S'.back sb,S'.st.gg,w⟩
   | bk δ'=>exact fun σ' G' H' S'=>w σ' G' H' (S'.back sb)
   | rt d=>exact fun v G' H' s' r'=>w v G' H' (sb.back s') r'
   | rl d=>exact fun a vs G' H' s' f h g r=>w a vs G' H' (sb.back s') (ug.mp f).1 h g r
   | rll d=>exact fun a vs G' H' s' f h g n r=>w a vs G' H' (sb.back s') (ug.mp f).1 h g n (r.reF fun b z=>(ug.mp z).1)
 · obtain rfl:i = ds.length:=by omega
   rw [List.drop_length] at w
   exact .inl ⟨Y.stop _ H (s2.trans S2.st.gh) (Nat.le_refl _),w σ G2 H S2⟩
def Nm (cap:List (Option Nat)) (δ:DSt):DSt:=cap.map fun o=>match o with
 | none=>none
 | some j=>match δ[j]? with
   | some (some (.sh d))=>some (.sh d)
   | _=>none
def Aq {α:Type} (tg:D→DSt→Option DSt) (t:DSt→Out Bool) (fe:DSt→Out α):List D→DSt→Out (List α)
 | [],_=>.ok []
 | d :: ds,δ=>(Out.opt (tg d δ)).bind fun δ1=>(t δ1).bD.bind fun k=>if k = true then (fe δ1).bD.bind fun y=>(Aq tg t fe ds δ1).bind fun ys=>.ok (y :: ys) else Aq tg t fe ds δ1
def cW {α:Type} (cap:List (Option Nat)) (fi:DSt→Out (List D)) (tg:D→DSt→Option DSt) (t:DSt→Out Bool) (fe:DSt→Out α):DSt→Out (List α):=fun δ=>(fi δ).bind fun ds=>if ds.length < sizeLine then Aq tg t fe ds (Nm cap δ) else .stuck
abbrev DTs (X:Cx) (Γ:Nat→Option Addr) (E:XK) (ifs:List Expr) (f:DSt→Out Bool):Prop:=PIfs X ifs (ttD X.K Γ E f)
theorem iD:DTs X Γ E [] (fun _=>.ok true):=fun pins s σ H Q I ⟨G0,H0,G,δ,S,w⟩=>pf_nil pins s σ H Q I (w G H (.refl S.st.gh))
theorem aau (h:DT X Γ E c ft):DTs X Γ E [c] ft:=pf_one h
theorem SR.cap {K:PySem.W.Frag} {G0 H0 G H:Hp} {σ:L2.St} {δ:DSt} (S:SR K Γ G0 H0 G H σ δ) (cap:List (Option Nat)):SR K Γ G H G H (capS cap σ) (Nm cap δ):=by
 refine ⟨.refl S.st.gh,by simp [capS,Nm],fun _=>none,fun i x e=>?_⟩
 obtain ⟨O,q⟩:=S.sl
 unfold Nm at e
 rw [List.getElem?_map] at e
 obtain ⟨o,e1,e2⟩:=Option.map_eq_some_iff.mp e
 cases o with
 | none=>cases e2
 | some j =>
   dsimp only at e2
   split at e2
   · rename_i d ej
     cases e2
     obtain ⟨v,h1,h2⟩:=q j _ ej
     exact ⟨v,by unfold capS; rw [List.getElem?_map,e1]; simp [h1],h2⟩
   · cases e2
def Ls (δ:DSt):Prop:=∀ (i:Nat) x,δ[i]? = some (some x)→∃ d,x = .sh d
def ShT (t:D→DSt→Option DSt):Prop:=∀ d δ δ',t d δ = some δ'→Ls δ→Ls δ'
def ShTs (t:List D→DSt→Option DSt):Prop:=∀ d δ δ',t d δ = some δ'→Ls δ→Ls δ'
theorem sh_cap (cap:List (Option Nat)) (δ:DSt):Ls (Nm cap δ):=fun i x e=>by
 unfold Nm at e
 rw [List.getElem?_map] at e
 obtain ⟨o,e1,e2⟩:=Option.map_eq_some_iff.mp e
 cases o with
 | none=>cases e2
 | some j =>
   dsimp only at e2
   split at e2
   · cases e2; exact ⟨_,rfl⟩
   · cases e2
theorem zG (i:Nat):ShT (gN i):=fun d δ δ' e h j x ej=>by
 cases e
 rw [List.getElem?_set] at ej
 split at ej
 · split at ej
   · cases ej; exact ⟨_,rfl⟩
   · cases ej
 · exact h j x ej
theorem sh_nil:ShTs j0:=fun d δ δ' e h=>by
 unfold j0 at e
 split at e
 · cases e; exact h
 · cases e
theorem aih {f:D→DSt→Option DSt} {g:List D→DSt→Option DSt} (h1:ShT f) (h2:ShTs g):ShTs (bO f g):=fun d δ δ' e h=>by
 unfold bO at e
 split at e
 · obtain ⟨δ1,e1,e2⟩:=Option.bind_eq_some_iff.mp e
   exact h2 _ _ _ e2 (h1 _ _ _ e1 h)
 · cases e
theorem sh_t {n:Nat} {f:List D→DSt→Option DSt} (h1:ShTs f):ShT (gT n f):=fun d δ δ' e h=>by
 unfold gT at e
 split at e
 · split at e
   · exact h1 _ _ _ e h
   · cases e
 · cases e
theorem SR.beside {K:PySem.W.Frag} {G0 H0 G H:Hp} {σ:L2.St} {δ:DSt} (S:SR K Γ G0 H0 G H σ δ) (sh:Ls δ) {a:Addr} {o:HO} (g:G a = none) (h0:H0 a = none):SR K Γ G0 H0 G (upd H a o) σ δ:=by
 have sx:=S.st
 refine ⟨⟨sx.gg,fun b u e=>by rw [az (aK e h0)]; exact sx.hh _ _ e,fun b u e=>by rw [az (aK e g)]; exact sx.gh _ _ e,sx.sep⟩,S.len,?_⟩
 obtain ⟨O,q⟩:=S.sl
 refine ⟨O,fun i x e=>?_⟩
 obtain ⟨d,rfl⟩:=sh i x e
 exact q i _ e
theorem aem {cap:List (Option Nat)} {fi:DSt→Out (List D)} {t:D→DSt→Option DSt} {ft:DSt→Out Bool} {fe:DSt→Out D} (sh:ShT t) (σ:L2.St) (H:Hp) (Q:VK):tfD X.K Γ E (cW cap fi t ft fe) σ H Q→Yu cap (tiD X.K Γ E fi) (tgD X.K Γ t) (ttD X.K Γ E0 ft) (teD X.K Γ E0 fe) σ H Q:=fun ⟨G0,H0,G,δ,S,w⟩=>by
 refine ⟨G0,H0,G,δ,S,(au w).mono (fun ds w J G1 H1 s1 Y=>?_) fun x k=>k⟩
 by_cases hz:ds.length < sizeLine
 · rw [if_pos hz] at w
   intro acc hacc
   have Sc:=(S.step s1).cap cap
   refine ⟨fun i m ys τ H=>∃ G δ done,Step G1 H1 G H∧SR X.K Γ G1 H1 G H τ δ∧Ls δ∧H acc = some (.lst ys)∧G acc = none∧aB X.K Γ G ys done∧m = ds.length - i∧i ≤ ds.length∧ys.length ≤ i ∧
     wpO (Aq t ft fe (ds.drop i) δ) (fun rest=>∀ G' H' vs,Step G1 H1 G' H'→H' acc = some (.lst vs)→G' acc = none→aB X.K Γ G' vs (done ++ rest)→Q (.ref acc) H') (fun _=>True),?_,?_⟩
   · have g1:G1 acc = none:=aJ s1.gh hacc
     have st:=Step.aside s1.gh (o:=.lst []) hacc
     refine ⟨_,G1,_,[],st,Sc.step st,sh_cap _ _,aG,g1,.nil,rfl,Nat.zero_le _,Nat.le_refl _,w.mono (fun rest k G' H' vs s' h' g' r'=>k acc vs G' H' (s1.trans s') (aJ s1.hh hacc) h' g' r') fun _ _=>trivial⟩
   · rintro i m ys τ H ⟨G2,δ2,done,st,S2,sh2,h2,g2,r2,rfl,hi,hl,w⟩
     refine ⟨h2,Nat.lt_of_le_of_lt (Nat.le_trans hl hi) hz,?_⟩
     by_cases lt:i < ds.length
     · refine .inr ⟨Y.go i H (st.gg.trans st.gh) lt,fun x H' y=>?_⟩
       obtain ⟨G3,s3,r3⟩:=Y.yld i G2 H x H' ds[i] st.gg st.gh y (by simp [lt])
       rw [List.drop_eq_getElem_cons lt] at w
       obtain ⟨δ3,e3,w⟩:=bJ (au w)
       refine ⟨G1,H1,G3,δ2,ds[i],δ3,S2.step s3,r3,e3,fun σ4 S4=>?_⟩
       have w:=kh (R':=exD X.K Γ E0 G3 H') (au w)
       refine ⟨G1,H1,G3,δ3,S4,w.mono (fun k w G5 H5 s5=>?_) fun _ k=>k⟩
       have s25:=s3.trans s5
       have sh3:=sh _ _ _ e3 sh2
       cases k with
       | false =>
         rw [if_neg Bool.false_ne_true] at w
         dsimp only
         rw [if_neg Bool.false_ne_true]
         exact ⟨_,Nat.sub_lt_sub_left lt (Nat.lt_succ_self i),G5,δ3,done,st.trans s25,S4.step s5,sh3,s25.hh _ _ h2,s25.sep acc (by rw [h2]; exact fun z=>nomatch z) g2,r2.mono s25.gg,rfl,lt,Nat.le_succ_of_le hl,w⟩
       | true =>
         rw [if_pos rfl] at w
         dsimp only
         rw [if_pos rfl]
         have w:=kh (R':=exD X.K Γ E0 G5 H5) (au w)
         refine ⟨G1,H1,G5,δ3,S4.step s5,w.mono (fun y w v G6 H6 s6 r6=>?_) fun _ k=>k⟩
         have s26:=s25.trans s6
         have h6:=s26.hh _ _ h2
         have g6:G6 acc = none:=s26.sep acc (by rw [h2]; exact fun z=>nomatch z) g2
         have n1:H1 acc = none:=hacc
         refine ⟨h6,_,Nat.sub_lt_sub_left lt (Nat.lt_succ_self i),G6,δ3,done ++ [y],?_,?_,sh3,aG,g6,(r2.mono s26.gg).append (.cons r6 .nil),rfl,lt,by rw [List.length_append]; exact Nat.succ_le_succ hl,?_⟩
         · have sx:=st.trans s26
           exact ⟨sx.gg,fun b u e=>by rw [az (aK e n1)]; exact sx.hh _ _ e,fun b u e=>by rw [az (aK e g6)]; exact sx.gh _ _ e,sx.sep⟩
         · exact ((S4.step s5).step s6).beside sh3 g6 n1
         · refine (au w).mono (fun rest k G' H' vs s' h' g' r'=>k G' H' vs s' h' g' (by simpa using r')) fun _ k=>k
     · obtain rfl:i = ds.length:=by omega
       rw [List.drop_length] at w
       exact .inl ⟨Y.stop _ H (st.gg.trans st.gh) (Nat.le_refl _),w G2 H ys st h2 g2 (by simpa using r2)⟩
 · rw [if_neg hz] at w
   exact False.elim w
theorem fZ {tg iter elt:Expr} {ifs:List Expr} {sc:Scope} {cl:List (Str × Addr)} {N':List Str} {cap:List (Option Nat)} {fi:DSt→Out (List D)} {t:D→DSt→Option DSt} {ft:DSt→Out Bool} {fe:DSt→Out D}
   (hh:∀ {wi:TI} {g:TG} {tt:TT} {te:TE},PI X tg iter wi→(∀ s₀ H₀ C fp pn,PG (cN X N' sc cl s₀ H₀ C fp pn) tg g)→(∀ s₀ H₀ C fp pn,PIfs (cN X N' sc cl s₀ H₀ C fp pn) ifs tt)→(∀ s₀ H₀ C fp pn,PE (cN X N' sc cl s₀ H₀ C fp pn) elt te)→PE X (.ListComp elt [⟨tg,iter,ifs,0⟩] sc pos) (Yu cap wi g tt te))
   (hi:DI X Γ E tg iter fi) (sh:ShT t) (hg:∀ s₀ H₀ C fp pn,PG (cN X N' sc cl s₀ H₀ C fp pn) tg (tgD X.K Γ t)) (ht:∀ s₀ H₀ C fp pn,PIfs (cN X N' sc cl s₀ H₀ C fp pn) ifs (ttD X.K Γ E0 ft)) (he:∀ s₀ H₀ C fp pn,PE (cN X N' sc cl s₀ H₀ C fp pn) elt (teD X.K Γ E0 fe)) :
   DF X Γ E (.ListComp elt [⟨tg,iter,ifs,0⟩] sc pos) (cW cap fi t ft fe):=PE.imp (hh hi hg ht he) (aem sh)
theorem bL.snoc {K:PySem.W.Frag} {H G' H':Hp} {b:Addr} {ws:List V} {ds:List D} (f:H b = none) (h:H' b = some (.lst ws)) (g:G' b = none) (r:aB K Γ G' ws ds):∀ {vs:List V} {dss:List (List D)},V.ref b ∉ vs→bL K Γ H G' H' vs dss→bL K Γ H G' H' (vs ++ [.ref b]) (dss ++ [ds])
 | _,_,_,.nil=>.cons f h g r (by simp) .nil
 | _,_,m,.cons f' h' g' r' n' t=>.cons f' h' g' r' (fun z=>by
     rcases List.mem_append.mp z with z | z
     · exact n' z
     · exact m (by rw [List.mem_singleton.mp z]; exact List.mem_cons_self)) (bL.snoc f h g r (fun z=>m (List.mem_cons_of_mem _ z)) t)
theorem bL.step {K:PySem.W.Frag} {H G H1 G2 H2:Hp} (s:Step G H1 G2 H2):∀ {vs:List V} {dss:List (List D)},bL K Γ H G H1 vs dss→bL K Γ H G2 H2 vs dss
 | _,_,.nil=>.nil
 | _,_,.cons f h g r n t=>.cons f (s.hh _ _ h) (s.sep _ (by rw [h]; exact fun q=>nomatch q) g) (r.mono s.gg) n (bL.step s t)
theorem bL.updI {K:PySem.W.Frag} {H G' H':Hp} {a:Addr} {o:HO}:∀ {vs:List V} {dss:List (List D)},V.ref a ∉ vs→bL K Γ H G' H' vs dss→bL K Γ H G' (upd H' a o) vs dss
 | _,_,_,.nil=>.nil
 | _,_,m,.cons f h g r n t=>.cons f ((az fun z=>m (by rw [z]; exact List.mem_cons_self)).trans h) g r n (bL.updI (fun z=>m (List.mem_cons_of_mem _ z)) t)
theorem bL.length {K:PySem.W.Frag} {H G' H':Hp}:∀ {vs:List V} {dss:List (List D)},bL K Γ H G' H' vs dss→vs.length = dss.length
 | _,_,.nil=>rfl
 | _,_,.cons f h g r n t=>by rw [List.length_cons,List.length_cons,t.length]
theorem aap {cap:List (Option Nat)} {fi:DSt→Out (List D)} {t:D→DSt→Option DSt} {ft:DSt→Out Bool} {fe:DSt→Out (List D)} (sh:ShT t) (σ:L2.St) (H:Hp) (Q:VK):tffD X.K Γ E (cW cap fi t ft fe) σ H Q→Yu cap (tiD X.K Γ E fi) (tgD X.K Γ t) (ttD X.K Γ E0 ft) (tfD X.K Γ E0 fe) σ H Q:=fun ⟨G0,H0,G,δ,S,w⟩=>by
 refine ⟨G0,H0,G,δ,S,(au w).mono (fun ds w J G1 H1 s1 Y=>?_) fun x k=>k⟩
 by_cases hz:ds.length < sizeLine
 · rw [if_pos hz] at w
   intro acc hacc
   have Sc:=(S.step s1).cap cap
   refine ⟨fun i m ys τ H=>∃ G δ done,Step G1 H1 G H∧SR X.K Γ G1 H1 G H τ δ∧Ls δ∧H acc = some (.lst ys)∧G acc = none∧V.ref acc ∉ ys∧bL X.K Γ H1 G H ys done∧m = ds.length - i∧i ≤ ds.length∧ys.length ≤ i ∧
     wpO (Aq t ft fe (ds.drop i) δ) (fun rest=>∀ G' H' vs,Step G1 H1 G' H'→H' acc = some (.lst vs)→G' acc = none→V.ref acc ∉ vs→bL X.K Γ H1 G' H' vs (done ++ rest)→Q (.ref acc) H') (fun _=>True),?_,?_⟩
   · have g1:G1 acc = none:=aJ s1.gh hacc
     have st:=Step.aside s1.gh (o:=.lst []) hacc
     refine ⟨_,G1,_,[],st,Sc.step st,sh_cap _ _,aG,g1,(by simp),.nil,rfl,Nat.zero_le _,Nat.le_refl _,w.mono (fun rest k G' H' vs s' h' g' n' r'=>k acc vs G' H' (s1.trans s') (aJ s1.hh hacc) h' g' n' (r'.reF fun b z=>aJ s1.hh z)) fun _ _=>trivial⟩
   · rintro i m ys τ H ⟨G2,δ2,done,st,S2,sh2,h2,g2,n2,r2,rfl,hi,hl,w⟩
     refine ⟨h2,Nat.lt_of_le_of_lt (Nat.le_trans hl hi) hz,?_⟩
     by_cases lt:i < ds.length
     · refine .inr ⟨Y.go i H (st.gg.trans st.gh) lt,fun x H' y=>?_⟩
       obtain ⟨G3,s3,r3⟩:=Y.yld i G2 H x H' ds[i] st.gg st.gh y (by simp [lt])
       rw [List.drop_eq_getElem_cons lt] at w
       obtain ⟨δ3,e3,w⟩:=bJ (au w)
       refine ⟨G1,H1,G3,δ2,ds[i],δ3,S2.step s3,r3,e3,fun σ4 S4=>?_⟩
       have w:=kh (R':=exD X.K Γ E0 G3 H') (au w)
       refine ⟨G1,H1,G3,δ3,S4,w.mono (fun k w G5 H5 s5=>?_) fun _ k=>k⟩
       have s25:=s3.trans s5
       have sh3:=sh _ _ _ e3 sh2
       cases k with
       | false =>
         rw [if_neg Bool.false_ne_true] at w
         dsimp only
         rw [if_neg Bool.false_ne_true]
         exact ⟨_,Nat.sub_lt_sub_left lt (Nat.lt_succ_self i),G5,δ3,done,st.trans s25,S4.step s5,sh3,s25.hh _ _ h2,s25.sep acc (by rw [h2]; exact fun z=>nomatch z) g2,n2,r2.step s25,rfl,lt,Nat.le_succ_of_le hl,w⟩
       | true =>
         rw [if_pos rfl] at w
         dsimp only
         rw [if_pos rfl]
         have w:=kh (R':=exD X.K Γ E0 G5 H5) (au w)
         refine ⟨G1,H1,G5,δ3,S4.step s5,w.mono (fun y w bb wv G6 H6 s6 fb hb gb rb=>?_) fun _ k=>k⟩
         have s26:=s25.trans s6
         have h6:=s26.hh _ _ h2
         have g6:G6 acc = none:=s26.sep acc (by rw [h2]; exact fun z=>nomatch z) g2
         have n1:H1 acc = none:=hacc
         have neb:acc ≠ bb:=fun z=>by
           have:=s25.hh _ _ h2
           rw [z,fb] at this
           cases this
         have nbm:V.ref bb ∉ ys:=fun z=>(r2.step s25).mem bb z |>.2 fb
         have f1:H1 bb = none:=aJ ((st.trans s25).hh) fb
         refine ⟨h6,_,Nat.sub_lt_sub_left lt (Nat.lt_succ_self i),G6,δ3,done ++ [y],?_,?_,sh3,aG,g6,(fun z=>by
           rcases List.mem_append.mp z with z | z
           · exact n2 z
           · exact neb (V.ref.inj (List.mem_singleton.mp z))),bL.snoc f1 ((az (Ne.symm neb)).trans hb) gb rb nbm (bL.updI n2 (r2.step s26)),rfl,lt,by rw [List.length_append]; exact Nat.succ_le_succ hl,?_⟩
         · have sx:=st.trans s26
           exact ⟨sx.gg,fun b u e=>by rw [az (aK e n1)]; exact sx.hh _ _ e,fun b u e=>by rw [az (aK e g6)]; exact sx.gh _ _ e,sx.sep⟩
         · exact ((S4.step s5).step s6).beside sh3 g6 n1
         · refine (au w).mono (fun rest k G' H' vs s' h' g' n' r'=>k G' H' vs s' h' g' n' (by simpa using r')) fun _ k=>k
     · obtain rfl:i = ds.length:=by omega
       rw [List.drop_length] at w
       exact .inl ⟨Y.stop _ H (st.gg.trans st.gh) (Nat.le_refl _),w G2 H ys st h2 g2 n2 (by simpa using r2)⟩
 · rw [if_neg hz] at w
   exact False.elim w
theorem dff_comp {tg iter elt:Expr} {ifs:List Expr} {sc:Scope} {cl:List (Str × Addr)} {N':List Str} {cap:List (Option Nat)} {fi:DSt→Out (List D)} {t:D→DSt→Option DSt} {ft:DSt→Out Bool} {fe:DSt→Out (List D)}
   (hh:∀ {wi:TI} {g:TG} {tt:TT} {te:TE},PI X tg iter wi→(∀ s₀ H₀ C fp pn,PG (cN X N' sc cl s₀ H₀ C fp pn) tg g)→(∀ s₀ H₀ C fp pn,PIfs (cN X N' sc cl s₀ H₀ C fp pn) ifs tt)→(∀ s₀ H₀ C fp pn,PE (cN X N' sc cl s₀ H₀ C fp pn) elt te)→PE X (.ListComp elt [⟨tg,iter,ifs,0⟩] sc pos) (Yu cap wi g tt te))
   (hi:DI X Γ E tg iter fi) (sh:ShT t) (hg:∀ s₀ H₀ C fp pn,PG (cN X N' sc cl s₀ H₀ C fp pn) tg (tgD X.K Γ t)) (ht:∀ s₀ H₀ C fp pn,PIfs (cN X N' sc cl s₀ H₀ C fp pn) ifs (ttD X.K Γ E0 ft)) (he:∀ s₀ H₀ C fp pn,PE (cN X N' sc cl s₀ H₀ C fp pn) elt (tfD X.K Γ E0 fe)) :
   DFF X Γ E (.ListComp elt [⟨tg,iter,ifs,0⟩] sc pos) (cW cap fi t ft fe):=PE.imp (hh hi hg ht he) (aap sh)
section
variable {tg iter elt:Expr} {ifs:List Expr} {sc:Scope} {cl:List (Str × Addr)} {N':List Str} {cap:List (Option Nat)} {fi:DSt→Out (List D)} {t:D→DSt→Option DSt} {ft:DSt→Out Bool} {x:Str} {pos' spos:Pos}
end
end
end DL
namespace DL
open PySem PySem.Spec PyProof.Rows MX L2
def jW (n:Nat) (ds:List D):DSt:=ds.map (fun d=>some (.sh d)) ++ List.replicate (n - ds.length) none
def lZ:Fl→Out D
 | .nx _=>.ok .non
 | .rt d=>.ok d
 | .rl ds=>.ok (.lst ds)
 | .rll dss=>.ok (.lst (dss.map .lst))
 | _=>.stuck
def endF:Fl→Out (List D)
 | .rl ds=>.ok ds
 | _=>.stuck
def endFF:Fl→Out (List (List D))
 | .rll ds=>.ok ds
 | _=>.stuck
def cZ (n:Nat) (g:DSt→Out Fl) (ds:List D):Out D:=(g (jW n ds)).bind lZ
def runL (n:Nat) (g:DSt→Out Fl) (ds:List D):Out (List D):=(g (jW n ds)).bind endF
def runLL (n:Nat) (g:DSt→Out Fl) (ds:List D):Out (List (List D)):=(g (jW n ds)).bind endFF
def spF (K:PySem.W.Frag) (Γ:Nat→Option Addr) (n:Nat) (F:List D→Out (List D)):Sp:=fun vs H Q E=>vs.length = n∧∃ G ds,bz G H∧aB K Γ G vs ds∧wpO (F ds) (okF K Γ G H Q) (exD K Γ E G H)
def spFF (K:PySem.W.Frag) (Γ:Nat→Option Addr) (n:Nat) (F:List D→Out (List (List D))):Sp:=fun vs H Q E=>vs.length = n∧∃ G ds,bz G H∧aB K Γ G vs ds∧wpO (F ds) (okFF K Γ G H Q) (exD K Γ E G H)
def spD (K:PySem.W.Frag) (Γ:Nat→Option Addr) (n:Nat) (F:List D→Out D):Sp:=fun vs H Q E=>vs.length = n∧∃ G ds,bz G H∧aB K Γ G vs ds∧wpO (F ds) (okD K Γ G H Q) (exD K Γ E G H)
theorem SR.Qd {K:PySem.W.Frag} {Γ:Nat→Option Addr} {G H:Hp} {vs:List V} {ds:List D} {N:List Str} (s:bz G H) (r:aB K Γ G vs ds):SR K Γ G H G H (L2.start N vs) (jW N.length ds):=by
 refine ⟨.refl s,by simp [jW,L2.start,r.length],fun _=>none,fun i x e=>?_⟩
 unfold jW at e
 by_cases h:i < ds.length
 · rw [List.getElem?_append_left (by simpa using h),List.getElem?_map] at e
   obtain ⟨d,e1,e2⟩:=Option.map_eq_some_iff.mp e
   cases e2
   obtain ⟨v,h1,h2⟩:=r.get e1
   refine ⟨v,?_,h2⟩
   unfold L2.start
   rw [List.getElem?_append_left (by rw [List.length_map,r.length]; exact h),List.getElem?_map,h1]
   rfl
 · rw [List.getElem?_append_right (by simpa using h),List.getElem?_replicate] at e
   split at e <;> cases e
theorem agz {K:PySem.W.Frag} {Γ:Nat→Option Addr} {G H:Hp} {Q:VK} {ds:List D} (q:okD K Γ G H Q (.lst ds)):okF K Γ G H Q ds:=fun a vs G1 H1 s1 f h g r=>by
 have hp:∀ b,decide (b = a) = true→G1 b = none∧H b = none:=fun b z=>by obtain rfl:=of_decide_eq_true z; exact ⟨g,f⟩
 exact q _ _ H1 (s1.frz (fun b=>decide (b = a)) hp) (.lst (by unfold mj; rw [if_pos (by simp)]; exact h) (r.mono (m7 fun b z=>(hp b z).1)))
theorem aaz {K:PySem.W.Frag} {Γ:Nat→Option Addr} {G H:Hp} {Q:VK} {dss:List (List D)} (q:okD K Γ G H Q (.lst (dss.map .lst))):okFF K Γ G H Q dss:=fun a vs G1 H1 s1 f h g n r=>by
 have hp:∀ b,decide (b = a ∨ V.ref b ∈ vs) = true→G1 b = none∧H b = none:=fun b z=>by
   rcases of_decide_eq_true z with z | z
   · subst z; exact ⟨g,f⟩
   · exact ⟨r.gnone b z,(r.mem b z).1⟩
 exact q _ _ H1 (s1.frz (fun b=>decide (b = a ∨ V.ref b ∈ vs)) hp) (.lst (by unfold mj; rw [if_pos (by simp)]; exact h) (bL.frozen (G0:=G) (m7 fun b z=>(hp b z).1) (fun b hb=>by simp [hb]) r))
section
variable {P:Program} {w:World} {K:PySem.W.Frag} {mg:Str→Option Value} {base:Heap} {Γ:Nat→Option Addr}
theorem Fun.okD {x qual:Str} {st:Stmt} {f:Addr} {fd:FuncData} {N ps:List Str} {k:Nat} {g:DSt→Out Fl} (F:L2.Fun K x qual st f fd) (S:aN N ps (ak st))
   (h:∀ (cdv:Value) (A:Around) (outer:List Env) (s:Shared) (H:Hp) (E:XK),gM k (A.deeper (envOfC qual (ak st) s.heap.objs.size f cdv))→DSs (Kh CX0 P w K mg base N qual (ak st) f cdv A outer s H E).nox Γ E0 (aL st) g) :
   bf P w K mg base CX0 (k + 1) f fd ps (spD K Γ ps.length fun ds=>(cZ N.length g ds).bD) :=
 L2.Fun.ok F S (fun vs H Q E h=>h.1) fun cdv A outer s H vs Q E hr ⟨hl,G,ds,sg,r,q⟩=>by
   refine ⟨_,h cdv A outer s H E hr,G,H,G,jW N.length ds,SR.Qd sg r,(au (kh (R':=exD K Γ E0 G H) q)).mono (fun fl q=>?_) fun _ k=>k⟩
   cases fl with
   | nx δ=>exact fun σ G' H' S'=>q _ G' H' S'.st .non
   | rt d=>exact fun v G' H' s' r'=>q v G' H' s' r'
   | bk δ=>exact False.elim q
   | ct δ=>exact False.elim q
   | rl ds=>exact agz q
   | rll dss=>exact aaz q
theorem Fun.okF {x qual:Str} {st:Stmt} {f:Addr} {fd:FuncData} {N ps:List Str} {k:Nat} {g:DSt→Out Fl} (F:L2.Fun K x qual st f fd) (S:aN N ps (ak st))
   (h:∀ (cdv:Value) (A:Around) (outer:List Env) (s:Shared) (H:Hp) (E:XK),gM k (A.deeper (envOfC qual (ak st) s.heap.objs.size f cdv))→DSs (Kh CX0 P w K mg base N qual (ak st) f cdv A outer s H E).nox Γ E0 (aL st) g) :
   bf P w K mg base CX0 (k + 1) f fd ps (spF K Γ ps.length fun ds=>(runL N.length g ds).bD) :=
 L2.Fun.ok F S (fun vs H Q E h=>h.1) fun cdv A outer s H vs Q E hr ⟨hl,G,ds,sg,r,q⟩=>by
   refine ⟨_,h cdv A outer s H E hr,G,H,G,jW N.length ds,SR.Qd sg r,(au (kh (R':=exD K Γ E0 G H) q)).mono (fun fl q=>?_) fun _ k=>k⟩
   cases fl with
   | rl ds=>exact fun a vs G' H' s f h g r=>q a vs G' H' s f h g r
   | _=>exact False.elim q
theorem Fun.okFF {x qual:Str} {st:Stmt} {f:Addr} {fd:FuncData} {N ps:List Str} {k:Nat} {g:DSt→Out Fl} (F:L2.Fun K x qual st f fd) (S:aN N ps (ak st))
   (h:∀ (cdv:Value) (A:Around) (outer:List Env) (s:Shared) (H:Hp) (E:XK),gM k (A.deeper (envOfC qual (ak st) s.heap.objs.size f cdv))→DSs (Kh CX0 P w K mg base N qual (ak st) f cdv A outer s H E).nox Γ E0 (aL st) g) :
   bf P w K mg base CX0 (k + 1) f fd ps (spFF K Γ ps.length fun ds=>(runLL N.length g ds).bD) :=
 L2.Fun.ok F S (fun vs H Q E h=>h.1) fun cdv A outer s H vs Q E hr ⟨hl,G,ds,sg,r,q⟩=>by
   refine ⟨_,h cdv A outer s H E hr,G,H,G,jW N.length ds,SR.Qd sg r,(au (kh (R':=exD K Γ E0 G H) q)).mono (fun fl q=>?_) fun _ k=>k⟩
   cases fl with
   | rll ds=>exact fun a vs G' H' s f h g n r=>q a vs G' H' s f h g n r
   | _=>exact False.elim q
theorem okF_D {CX:CXT} {k n:Nat} {f:Addr} {fd:FuncData} {ps:List Str} {F:List D→Out (List D)} (h:bf P w K mg base CX k f fd ps (spF K Γ n F)):bf P w K mg base CX k f fd ps (spD K Γ n fun ds=>(F ds).bind fun xs=>.ok (.lst xs)) :=
 h.imp fun vs H Q E ⟨hl,G,ds,sg,r,q⟩=>⟨hl,G,ds,sg,r,(au q).mono (fun xs q=>agz q) fun _ k=>k⟩
theorem okFF_D {CX:CXT} {k n:Nat} {f:Addr} {fd:FuncData} {ps:List Str} {F:List D→Out (List (List D))} (h:bf P w K mg base CX k f fd ps (spFF K Γ n F)):bf P w K mg base CX k f fd ps (spD K Γ n fun ds=>(F ds).bind fun xs=>.ok (.lst (xs.map .lst))) :=
 h.imp fun vs H Q E ⟨hl,G,ds,sg,r,q⟩=>⟨hl,G,ds,sg,r,(au q).mono (fun xs q=>aaz q) fun _ k=>k⟩
end
section
variable {X:Cx} {Γ:Nat→Option Addr} {E:XK} {e a b c o:Expr} {pos apos:Pos} {es:List Expr} {fa fb fo:DSt→Out D} {fr:DSt→Out (List D)} {CX:CXT}
def oF (n:Nat) (F:List D→Out D) (fr:DSt→Out (List D)):DSt→Out D:=fun δ=>(fr δ).bind fun ds=>if ds.length = n then F ds else .stuck
theorem bM {n:Nat} {F:List D→Out D} (h:PE X e (Yt (spD X.K Γ n F) [] E (taD X.K Γ E fr))):DE X Γ E e (oF n F fr):=PE.imp h fun σ H Q ⟨G0,H0,G,δ,S,w⟩=>by
 refine ⟨G0,H0,G,δ,S,(au w).mono (fun ds w vs G1 H1 s1 r1=>?_) fun _ k=>k⟩
 split at w
 · rename_i h
   rw [List.append_nil]
   exact ⟨by rw [r1.length]; exact h,G1,ds,s1.gh,r1,w.mono (fun d k=>k.step s1) fun x k=>k.step s1⟩
 · exact False.elim w
def J0 {α:Type} (X:Cx) (Γ:Nat→Option Addr) (CX:CXT) (m:Str) (sp:(List D→Out α)→Sp):List (Nat × (List D→Out α))→Prop
 | []=>True
 | (c,F) :: r=>(∃ C f fd ps k,Γ c = some C∧Cls X.K C∧Meth X.K C m f∧bf X.prog X.w X.K X.mg X.base CX k f fd ps (sp F)∧gM k X.A∧Binds X.K fd ps [])∧J0 X Γ CX m sp r
theorem J0.get {α:Type} {m:Str} {sp:(List D→Out α)→Sp}:∀ {M:List (Nat × (List D→Out α))} {c:Nat} {F:List D→Out α},J0 X Γ CX m sp M→M.lookup c = some F →
   ∃ C f fd ps k,Γ c = some C∧Cls X.K C∧Meth X.K C m f∧bf X.prog X.w X.K X.mg X.base CX k f fd ps (sp F)∧gM k X.A∧Binds X.K fd ps []
 | [],_,_,_,e=>by cases e
 | (c',F') :: r,c,F,h,e=>by
   by_cases q:c = c'
   · subst q
     simp only [List.lookup_cons,beq_self_eq_true] at e
     cases e
     exact h.1
   · have q':(c == c') = false:=beq_eq_false_iff_ne.mpr q
     simp only [List.lookup_cons,q'] at e
     exact h.2.get e
def adi {α:Type} (Γ:Nat→Option Addr) (m:Str) (sp:(List D→Out α)→Sp) (M:List (Nat × (List D→Out α))) (E:XK) (ta:TE) (t:TA):TE:=fun σ H Q=>ta σ H fun x H1=>∃ c a C dx fs F,x = .ref a∧H1 a = some (.ins C dx fs)∧Γ c = some C∧M.lookup c = some F∧fs.lookup m = none ∧
 t σ H1 fun vs H2=>sp F (x :: vs) H2 Q E
theorem pe_methD {α:Type} {m:Str} {sp:(List D→Out α)→Sp} {M:List (Nat × (List D→Out α))} {ta:TE} {t:TA} {pl:Sem Bool} (hM:J0 X Γ CX m sp M) (hx:jR CX X E) (he:PE X o ta) (ha:PA X (e :: es) t)
   (hst:starEach (e :: es) X.env = (false,eval e X.env) :: starEach es X.env:=by rfl) (hpl:(backTo pos (starEach es X.env)).any (·.1) = false:=by rfl)
   (ht:eval (.Call (.Attribute o m apos) (e :: es) [] pos) X.env = (do
     let ov ← eval o X.env
     standAt apos.atName
     let (f,first) ← holding [ov] (getMethod ov m pl)
     callWith pos f first (backTo pos (starEach (e :: es) X.env)) (backToKw pos (keywordEach [] X.env))):=by rfl) :
   PE X (.Call (.Attribute o m apos) (e :: es) [] pos) (adi Γ m sp M E ta t):=by
 intro pins s σ H Q I h
 refine PySem.W.methodCall_KW (pl:=pl) (thn (he pins s σ H _ I h) fun u s1 ⟨x,H1,I1,rx,c,a,C,dx,fs,F,ex,ea,hc,hF,l,q⟩=>?_) ht
 subst ex
 obtain rfl:u = Value.ref a:=rx
 obtain ⟨C',f,fd,ps,k,hc',cl,hm,G,hr,hb⟩:=hM.get hF
 rw [hc] at hc'
 cases hc'
 refine Gm I1 ea cl hm l ?_
 refine PySem.W.callWith_K (first:=[.ref a]) (h₀:=X.base) I.ok.mod.kin hm.kp (thn (ha pos pins s1 σ H1 _ I1 q) fun us s2 ⟨vs,H2,I2,r,q2⟩=>⟨I2.kIn,?_⟩) hst hpl
 exact Tr (dvs:=[]) (us:=.ref a :: us) (vs:=.ref a :: vs) G hr hb .nil hx I2 (.cons rfl r) (by rw [List.append_nil]; exact q2)
theorem dY {α:Type} {m:Str} {sp:(List D→Out α)→Sp} {M:List (Nat × (List D→Out α))} {ta:TE} {pl:Sem Bool} (hM:J0 X Γ CX m sp M) (hx:jR CX X E) (he:PE X o ta)
   (ht:eval (.Call (.Attribute o m apos) [] [] pos) X.env = (do
     let ov ← eval o X.env
     standAt apos.atName
     let (f,first) ← holding [ov] (getMethod ov m pl)
     callWith pos f first (backTo pos (starEach [] X.env)) (backToKw pos (keywordEach [] X.env))):=by rfl) :
   PE X (.Call (.Attribute o m apos) [] [] pos) (adi Γ m sp M E ta DR):=by
 intro pins s σ H Q I h
 refine PySem.W.methodCall_KW (pl:=pl) (thn (he pins s σ H _ I h) fun u s1 ⟨x,H1,I1,rx,c,a,C,dx,fs,F,ex,ea,hc,hF,l,q⟩=>?_) ht
 subst ex
 obtain rfl:u = Value.ref a:=rx
 obtain ⟨C',f,fd,ps,k,hc',cl,hm,G,hr,hb⟩:=hM.get hF
 rw [hc] at hc'
 cases hc'
 refine Gm I1 ea cl hm l ?_
 exact PySem.W.callWith_K0 (first:=[.ref a]) I1.kIn hm.kp (Tr (dvs:=[]) (us:=[.ref a]) (vs:=[.ref a]) G hr hb .nil hx I1 (.cons rfl .nil) (by rw [List.append_nil]; exact q))
def oM (m:Str) (n:Nat) (M:List (Nat × (List D→Out D))) (fo:DSt→Out D) (fr:DSt→Out (List D)):DSt→Out D:=fun δ=>(fo δ).bind fun o=>match o with
 | .obj c fs=>match M.lookup c with
   | some F=>if (fs.lookup m).isNone = true then (fr δ).bind fun ds=>if ds.length + 1 = n then F (o :: ds) else .stuck else .stuck
   | none=>.stuck
 | _=>.stuck
theorem de_meth {m:Str} {n:Nat} {M:List (Nat × (List D→Out D))} (h:PE X e (adi Γ m (spD X.K Γ n) M E (teD X.K Γ E fo) (taD X.K Γ E fr))):DE X Γ E e (oM m n M fo fr):=PE.imp h fun σ H Q ⟨G0,H0,G,δ,S,w⟩=>by
 refine ⟨G0,H0,G,δ,S,(au w).mono (fun d w v G1 H1 s1 r1=>?_) fun _ k=>k⟩
 split at w
 · rename_i c fs
   split at w
   · rename_i F hF
     split at w
     · rename_i hn
       have r1':=r1
       cases r1 with
       | obj ha hc rf =>
         refine ⟨c,_,_,_,_,F,rfl,s1.gh _ _ ha,hc,hF,rf.none (Option.isNone_iff_eq_none.mp hn),G0,H0,G1,δ,S.step s1,(au w).mono (fun ds w vs G2 H2 s2 r2=>?_) fun _ k=>k.step s1⟩
         split at w
         · rename_i hl
           exact ⟨by rw [List.length_cons,r2.length]; exact hl,G2,_,s2.gh,.cons (r1'.mono s2.gg) r2,w.mono (fun d k=>k.step (s1.trans s2)) fun x k=>k.step (s1.trans s2)⟩
         · exact False.elim w
     · exact False.elim w
   · exact False.elim w
 · exact False.elim w
theorem gf {m:Str} {n:Nat} {M:List (Nat × (List D→Out D))} (h:PE X e (adi Γ m (spD X.K Γ n) M E (teD X.K Γ E fo) DR)):DE X Γ E e (oM m n M fo aA):=PE.imp h fun σ H Q ⟨G0,H0,G,δ,S,w⟩=>by
 refine ⟨G0,H0,G,δ,S,(au w).mono (fun d w v G1 H1 s1 r1=>?_) fun _ k=>k⟩
 split at w
 · rename_i c fs
   split at w
   · rename_i F hF
     split at w
     · rename_i hn
       have r1':=r1
       cases r1 with
       | obj ha hc rf =>
         refine ⟨c,_,_,_,_,F,rfl,s1.gh _ _ ha,hc,hF,rf.none (Option.isNone_iff_eq_none.mp hn),?_⟩
         have w:wpO (if 0 + 1 = n then F [.obj c fs] else .stuck) (okD X.K Γ G H Q) (exD X.K Γ E G H):=w
         split at w
         · rename_i hl
           exact ⟨hl,G1,_,s1.gh,.cons r1' .nil,w.mono (fun d k=>k.step s1) fun x k=>k.step s1⟩
         · exact False.elim w
     · exact False.elim w
   · exact False.elim w
 · exact False.elim w
def oFl {α:Type} (n:Nat) (F:List D→Out α) (fr:DSt→Out (List D)):DSt→Out α:=fun δ=>(fr δ).bind fun ds=>if ds.length = n then F ds else .stuck
theorem dcallF {n:Nat} {F:List D→Out (List D)} (h:PE X e (Yt (spF X.K Γ n F) [] E (taD X.K Γ E fr))):DF X Γ E e (oFl n F fr):=PE.imp h fun σ H Q ⟨G0,H0,G,δ,S,w⟩=>by
 refine ⟨G0,H0,G,δ,S,(au w).mono (fun ds w vs G1 H1 s1 r1=>?_) fun _ k=>k⟩
 split at w
 · rename_i h
   rw [List.append_nil]
   exact ⟨by rw [r1.length]; exact h,G1,ds,s1.gh,r1,w.mono (fun d k a vs G' H' s f h g r=>k a vs G' H' (s1.trans s) (aJ s1.hh f) h g r) fun x k=>k.step s1⟩
 · exact False.elim w
def FldOk (K:PySem.W.Frag) (Γ:Nat→Option Addr) (f:Str):List Nat→Prop
 | []=>True
 | c :: r=>(∃ C,Γ c = some C∧Cls K C∧cM K C f)∧FldOk K Γ f r
theorem FldOk.get {K:PySem.W.Frag} {f:Str}:∀ {cs:List Nat} {c:Nat},FldOk K Γ f cs→cs.contains c = true→∃ C,Γ c = some C∧Cls K C∧cM K C f
 | [],_,_,e=>by cases e
 | d :: r,c,h,e=>by
   by_cases q:c = d
   · subst q; exact h.1
   · exact h.2.get (by simpa [q] using e)
def Cw (f:Str) (cs:List Nat) (fo:DSt→Out D):DSt→Out D:=fun δ=>(fo δ).bind fun o=>match o with
 | .obj c fs=>if cs.contains c = true then .opt (fs.lookup f) else .stuck
 | _=>.stuck
theorem Km {f:Str} {cs:List Nat} (hf:FldOk X.K Γ f cs) (he:DE X Γ E o fo) (hb:attributeBase o f X.env (eval o X.env) = eval o X.env:=by rfl):DE X Γ E (.Attribute o f pos) (Cw f cs fo):=PE.imp (pe_fld he hb) fun σ H Q ⟨G0,H0,G,δ,S,w⟩=>by
 refine ⟨G0,H0,G,δ,S,(au w).mono (fun d w v G1 H1 s1 r1=>?_) fun _ k=>k⟩
 split at w
 · rename_i c fs
   split at w
   · rename_i hc
     obtain ⟨d,e,k⟩:=bJ w
     cases r1 with
     | obj ha hC rf =>
       obtain ⟨C',hC',cl,na⟩:=hf.get hc
       rw [hC] at hC'
       cases hC'
       obtain ⟨v,h1,h2⟩:=rf.look e
       exact ⟨_,_,_,_,v,rfl,s1.gh _ _ ha,cl,na,h1,k _ G1 H1 s1 h2⟩
   · exact False.elim w
 · exact False.elim w
def spI (K:PySem.W.Frag) (Γ:Nat→Option Addr) (c n:Nat) (F:List D→Out (List (Str × D))):Sp:=fun vs H Q E=>vs.length = n + 1∧∃ a dx C us G ds,vs = .ref a :: us∧H a = some (.ins C dx [])∧Γ c = some C∧G a = none∧bz G H∧aB K Γ G us ds ∧
 wpO (F ds) (fun fds=>∀ fs G' H',bz G G'→(∀ b o,H b = some o→b ≠ a→H' b = some o)→bz G' H'→(∀ b,H b ≠ none→G b = none→G' b = none)→H' a = some (.ins C dx fs)→mG K Γ G' fs fds→Q .non H')
   (fun x=>∀ a' G' H',bz G G'→(∀ b o,H b = some o→b ≠ a→H' b = some o)→bz G' H'→(∀ b,H b ≠ none→G b = none→G' b = none)→Rep K Γ G' (.ref a') x→E (.ref a') none H')
def oMk (c n:Nat) (F:List D→Out (List (Str × D))) (fr:DSt→Out (List D)):DSt→Out D:=fun δ=>(fr δ).bind fun ds=>if ds.length = n then (F ds).bind fun fds=>.ok (.obj c fds) else .stuck
theorem ah9 {c n:Nat} {C:Addr} {F:List D→Out (List (Str × D))} {G H G1 H1:Hp} {Q:VK} {vs:List V} {ds:List D} (hC:Γ c = some C) (s1:Step G H G1 H1) (r1:aB X.K Γ G1 vs ds) (hl:ds.length = n) (w:wpO ((F ds).bind fun fds=>.ok (.obj c fds)) (okD X.K Γ G H Q) (exD X.K Γ E G H)) (x dx:Addr) (hx:H1 x = none) (hdx:H1 dx = none) (ne:dx ≠ x) :
   spI X.K Γ c n F (.ref x :: vs) (upd (upd H1 dx (.own x)) x (.ins C dx [])) (fun v H2=>v = .non∧Q (.ref x) H2) E:=by
 have gx:G1 x = none:=aJ s1.gh hx
 have gdx:G1 dx = none:=aJ s1.gh hdx
 have up:∀ b o,H1 b = some o→b ≠ x∧upd (upd H1 dx (.own x)) x (.ins C dx []) b = some o:=fun b o e=>⟨aK e hx,by rw [az (aK e hx),az (aK e hdx)]; exact e⟩
 have nn:∀ b,H1 b ≠ none→upd (upd H1 dx (.own x)) x (.ins C dx []) b ≠ none:=fun b hb z=>by
   cases q:H1 b with
   | none=>exact hb q
   | some o=>rw [(up b o q).2] at z; cases z
 refine ⟨by rw [List.length_cons,r1.length,hl],x,dx,C,vs,G1,ds,rfl,aG,hC,gx,fun b o e=>(up b o (s1.gh _ _ e)).2,r1,(au w).mono (fun fds w fs G' H' a1 a2 a3 a4 a5 a6=>⟨rfl,?_⟩) fun ex k a' G' H' a1 a2 a3 a4 a5=>k a' G' H' (s1.trans ⟨a1,fun b o e=>a2 b o (up b o e).2 (up b o e).1,a3,fun b hb g=>a4 b (nn b hb) g⟩) a5⟩
 have gx':G' x = none:=a4 x (by rw [aG]; exact fun z=>nomatch z) gx
 refine w _ (upd G' x (.ins C dx fs)) H' (s1.trans ⟨a1.trans (bz.up gx'),fun b o e=>a2 b o (up b o e).2 (up b o e).1,fun b o e=>?_,fun b hb g=>?_⟩) (.obj aG hC (a6.mono (bz.up gx')))
 · by_cases z:b = x
   · subst z; rw [aG] at e; cases e; exact a5
   · rw [az z] at e; exact a3 _ _ e
 · have z:b ≠ x:=fun z=>hb (by rw [z]; exact hx)
   rw [az z]; exact a4 b (nn b hb) g
theorem Rr {c n:Nat} {C:Addr} {F:List D→Out (List (Str × D))} (hC:Γ c = some C) (h:PE X e (tMake C (spI X.K Γ c n F) [] E (taD X.K Γ E fr))):DE X Γ E e (oMk c n F fr):=PE.imp h fun σ H Q ⟨G0,H0,G,δ,S,w⟩=>by
 refine ⟨G0,H0,G,δ,S,(au w).mono (fun ds w vs G1 H1 s1 r1=>?_) fun _ k=>k⟩
 split at w
 · rename_i hl
   intro x dx hx hdx ne
   rw [List.append_nil]
   exact ah9 hC s1 r1 hl w x dx hx hdx ne
 · exact False.elim w
theorem aar {c n:Nat} {C:Addr} {F:List D→Out (List (Str × D))} (hC:Γ c = some C) (h:PE X e (tMake C (spI X.K Γ c n F) [] E DR)):DE X Γ E e (oMk c n F aA):=PE.imp h fun σ H Q ⟨G0,H0,G,δ,S,w⟩=>by
 have w:wpO (if 0 = n then (F []).bind fun fds=>.ok (.obj c fds) else .stuck) (okD X.K Γ G H Q) (exD X.K Γ E G H):=w
 split at w
 · rename_i hl
   intro x dx hx hdx ne
   rw [List.append_nil]
   exact ah9 (G:=G) (H:=H) hC (.refl S.st.gh) .nil hl w x dx hx hdx ne
 · exact False.elim w
structure qy (K:PySem.W.Frag) (C:Addr):Prop where
 cls:Cls K C
 ha:PySem.W.findIn K (.ref C) "__class__" = some (some (.builtin "object.__class__"))
 hn:PySem.W.specialIn K (.builtin "object.__class__") "__get__" = some (some (.builtin "getset_descriptor.__get__"))
 htk:PySem.W.takesIn K (.builtin "object.__class__") = some true
 hm:PySem.W.mroIn K C (.type "object") = some true
 ty:PySem.W.typeIn K (.ref C) = some (.type "type")
 cd:∃ cd,PySem.W.clsIn K C = some cd
def DY (K:PySem.W.Frag) (Γ:Nat→Option Addr) (cv:V) (isi:D→Option Bool):Prop:=∀ H v d b,Rep K Γ H v d→isi d = some b→∃ t,TyX K H v t∧PySem.W.kitOne K t (clsV cv) = some b
def Cy (isi:D→Option Bool) (fo:DSt→Out D):DSt→Out D:=fun δ=>(fo δ).bind fun d=>(Out.opt (isi d)).bind fun b=>.ok (.bl b)
theorem vz {cv:V} {isi:D→Option Bool} {p:Pos} (hc:(cv = .ref (match cv with | .ref C=>C | _=>0) ∨ cv = .ty (match cv with | .ty n=>n | _=>""))) (hi:DY X.K Γ cv isi) (hg:Gl X "isinstance") (hm:X.mg "isinstance" = none) (ho:DB X Γ E o fo) (hcv:PE X c (tC cv))
   (hs:starEach [o,c] X.env = (false,eval o X.env) :: starEach [c] X.env:=by rfl) (hs2:starEach [c] X.env = [(false,eval c X.env)]:=by rfl):DE X Γ E (.Call (.Name "isinstance" p) [o,c] [] pos) (Cy isi fo) :=
 PE.imp (Jw call_isi hg hm PyProof.Rows.boot_isinstance (bK ho (bK hcv eG (by rw [hs2]; rfl)) hs) (by decide) (by decide) hs (by rw [hs2]; rfl)) fun σ H Q ⟨G0,H0,G,δ,S,w⟩=>by
   refine ⟨G0,H0,G,δ,S,(au w).mono (fun d w v G1 H1 s1 r1=>?_) fun _ k=>k⟩
   obtain ⟨b,e,k⟩:=bJ (au w)
   obtain ⟨t,ty,kt⟩:=hi H1 v d b r1 e
   exact ⟨v,cv,t,b,rfl,hc,ty,kt,k _ G1 H1 s1 (.bl b)⟩
end
end DL
namespace DL
open PySem PySem.Spec PyProof.Rows MX L2
abbrev kc (d:D):DSt→Out D:=fun _=>.ok d
abbrev Le (g:D→Option D):List D→Option D:=fun ds=>match ds with
 | [x]=>g x
 | _=>none
abbrev Rv (i:Nat) (g:DSt→Out Fl):DSt→Out Fl:=fun δ=>g (frz i δ)
structure Def (P:Program) (w:World) (K:PySem.W.Frag) (mg:Str→Option Value) (base:Heap) (x:Str) (k:Nat) (ps:List Str) (sp:Sp):Prop where
 ex:∃ f fd,bf P w K mg base CX0 k f fd ps sp∧Binds K fd ps []∧mg x = some (.ref f)∧PySem.W.keepIn K (.ref f) = true
structure Ini (P:Program) (w:World) (K:PySem.W.Frag) (mg:Str→Option Value) (base:Heap) (C:Addr) (k:Nat) (ps:List Str) (sp:Sp):Prop where
 ex:∃ f fd,Mk K C f∧bf P w K mg base CX0 k f fd ps sp∧Binds K fd ps []
def iK {α:Type} (P:Program) (w:World) (K:PySem.W.Frag) (mg:Str→Option Value) (base:Heap) (Γ:Nat→Option Addr) (m:Str) (sp:(List D→Out α)→Sp) (k:Nat):List (Nat × (List D→Out α))→Prop
 | []=>True
 | (c,F) :: r=>(∃ C f fd ps,Γ c = some C∧Cls K C∧Meth K C m f∧bf P w K mg base CX0 k f fd ps (sp F)∧Binds K fd ps [])∧iK P w K mg base Γ m sp k r
theorem iK.ok {α:Type} {X:Cx} {Γ:Nat→Option Addr} {m:Str} {sp:(List D→Out α)→Sp} {k:Nat} (hr:gM k X.A):∀ {M:List (Nat × (List D→Out α))},iK X.prog X.w X.K X.mg X.base Γ m sp k M→J0 X Γ CX0 m sp M
 | [],_=>trivial
 | (c,F) :: r,⟨⟨C,f,fd,ps,h1,h2,h3,h4,h5⟩,t⟩=>⟨⟨C,f,fd,ps,k,h1,h2,h3,h4,hr,h5⟩,iK.ok hr t⟩
abbrev dOf (F:List D→Out (List D)):List D→Out D:=fun ds=>(F ds).bind fun xs=>.ok (.lst xs)
abbrev dOff (F:List D→Out (List (List D))):List D→Out D:=fun ds=>(F ds).bind fun xs=>.ok (.lst (xs.map .lst))
abbrev Pn (M:List (Nat × (List D→Out (List D)))):List (Nat × (List D→Out D)):=M.map fun p=>(p.1,dOf p.2)
abbrev CV (M:List (Nat × (List D→Out (List (List D))))):List (Nat × (List D→Out D)):=M.map fun p=>(p.1,dOff p.2)
theorem iK.dF {P:Program} {w:World} {K:PySem.W.Frag} {mg:Str→Option Value} {base:Heap} {Γ:Nat→Option Addr} {m:Str} {n k:Nat}:∀ {M:List (Nat × (List D→Out (List D)))},iK P w K mg base Γ m (spF K Γ n) k M→iK P w K mg base Γ m (spD K Γ n) k (Pn M)
 | [],_=>trivial
 | (c,F) :: r,⟨⟨C,f,fd,ps,h1,h2,h3,h4,h5⟩,t⟩=>⟨⟨C,f,fd,ps,h1,h2,h3,okF_D h4,h5⟩,iK.dF t⟩
theorem iK.dFF {P:Program} {w:World} {K:PySem.W.Frag} {mg:Str→Option Value} {base:Heap} {Γ:Nat→Option Addr} {m:Str} {n k:Nat}:∀ {M:List (Nat × (List D→Out (List (List D))))},iK P w K mg base Γ m (spFF K Γ n) k M→iK P w K mg base Γ m (spD K Γ n) k (CV M)
 | [],_=>trivial
 | (c,F) :: r,⟨⟨C,f,fd,ps,h1,h2,h3,h4,h5⟩,t⟩=>⟨⟨C,f,fd,ps,h1,h2,h3,okFF_D h4,h5⟩,iK.dFF t⟩
def Qk (K:PySem.W.Frag) (Γ:Nat→Option Addr) (cv:Value):List (Nat × Bool)→Prop
 | []=>True
 | (c,b) :: r=>(∃ C',Γ c = some C'∧qy K C'∧PySem.W.kitOne K (.ref C') cv = some b)∧Qk K Γ cv r
theorem Qk.get {K:PySem.W.Frag} {Γ:Nat→Option Addr} {cv:Value}:∀ {tab:List (Nat × Bool)} {c:Nat} {b:Bool},Qk K Γ cv tab→tab.lookup c = some b→∃ C',Γ c = some C'∧qy K C'∧PySem.W.kitOne K (.ref C') cv = some b
 | [],_,_,_,e=>by cases e
 | (c',b') :: r,c,b,h,e=>by
   by_cases q:c = c'
   · subst q
     simp only [List.lookup_cons,beq_self_eq_true] at e
     cases e
     exact h.1
   · have q':(c == c') = false:=beq_eq_false_iff_ne.mpr q
     simp only [List.lookup_cons,q'] at e
     exact h.2.get e
def isiE (tab:List (Nat × Bool)):D→Option Bool
 | .obj c _=>tab.lookup c
 | .non=>some false
 | .bl _=>some false
 | .int _=>some false
 | .str _=>some false
 | .lst _=>some false
 | .tup _=>some false
 | .dK _=>some false
 | .dT _=>some false
 | _=>none
theorem sub_tt {K:PySem.W.Frag} {a:String} {C:Addr} {l:List Value} (h:PySem.fastBuiltinMro a = some l) (n:l.all (fun v=>match v with | .type _=>true | _=>false) = true):PySem.W.subIn K (.type a) (.ref C) = some false:=by
 show (PySem.fastBuiltinMro a).map (·.contains (Value.ref C)) = some false
 rw [h]
 simp only [Option.map_some,Option.some.injEq]
 cases q:l.contains (Value.ref C) with
 | false=>rfl
 | true =>
   have m:=List.contains_iff_mem.mp q
   have:=List.all_eq_true.mp n _ m
   cases this
theorem mro_int:PySem.fastBuiltinMro "int" = some [.type "int",.type "object"]:=by decide +kernel
theorem mro_bool:PySem.fastBuiltinMro "bool" = some [.type "bool",.type "int",.type "object"]:=by decide +kernel
theorem mro_str:PySem.fastBuiltinMro "str" = some [.type "str",.type "object"]:=by decide +kernel
theorem mro_list:PySem.fastBuiltinMro "list" = some [.type "list",.type "object"]:=by decide +kernel
theorem mro_tuple:PySem.fastBuiltinMro "tuple" = some [.type "tuple",.type "object"]:=by decide +kernel
theorem aeN:PySem.fastBuiltinMro "dict" = some [.type "dict",.type "object"]:=by decide +kernel
theorem mro_none:PySem.fastBuiltinMro "NoneType" = some [.type "NoneType",.type "object"]:=by decide +kernel
theorem isiE_ok {K:PySem.W.Frag} {Γ:Nat→Option Addr} {C:Addr} {tab:List (Nat × Bool)} (ty:PySem.W.typeIn K (.ref C) = some (.type "type")) (cd:∃ cd,PySem.W.clsIn K C = some cd) (h:Qk K Γ (.ref C) tab):DY K Γ (.ref C) (isiE tab):=by
 intro H v d b r e
 have bi:∀ {T:String} {l:List Value},PySem.fastBuiltinMro T = some l→l.all (fun v=>match v with | .type _=>true | _=>false) = true→PySem.W.kitOne K (.type T) (.ref C) = some false:=fun {T l} h1 h2=>by
   obtain ⟨cd,e⟩:=cd
   exact kit_sub e ty (sub_tt h1 h2) fun q=>nomatch q
 cases r <;> simp only [isiE] at e
 case non=>cases e; exact ⟨_,.of .non,bi mro_none rfl⟩
 case bl=>cases e; exact ⟨_,.of (.bl _),bi mro_bool rfl⟩
 case int=>cases e; exact ⟨_,.of (.int _),bi mro_int rfl⟩
 case str=>cases e; exact ⟨_,.of (.str _),bi mro_str rfl⟩
 case lst h1 _=>cases e; exact ⟨_,.of (.lst h1),bi mro_list rfl⟩
 case tup h1 _=>cases e; exact ⟨_,.of (.tup h1),bi mro_tuple rfl⟩
 case dK h1 _=>cases e; exact ⟨_,.of (.dK h1),bi aeN rfl⟩
 case dT h1 _=>cases e; exact ⟨_,.of (.dT h1),bi aeN rfl⟩
 case obj h1 g _ =>
   obtain ⟨C',g',i,k⟩:=h.get e
   rw [g] at g'
   cases g'
   exact ⟨_,.of (.ins h1 i.cls i.ha i.hn i.htk i.hm),k⟩
 all_goals cases e
def zE (n:String) (tab:List (Nat × Bool)):D→Option Bool
 | .obj c _=>tab.lookup c
 | .non=>some false
 | .bl _=>some (n == "bool" || n == "int")
 | .int _=>some (n == "int")
 | .str _=>some (n == "str")
 | .lst _=>some (n == "list")
 | .tup _=>some (n == "tuple")
 | .dK _=>some (n == "dict")
 | .dT _=>some (n == "dict")
 | _=>none
def ttB (a b:String):Option Bool:=if (Value.type a == Value.type b) = true then some true else if PySem.W.kitMeta b = true then (PySem.fastBuiltinMro a).map (·.contains (.type b)) else none
def Ub (n:String):Bool:=ttB "NoneType" n == some false && ttB "bool" n == some (n == "bool" || n == "int") && ttB "int" n == some (n == "int") && ttB "str" n == some (n == "str") && ttB "list" n == some (n == "list") && ttB "tuple" n == some (n == "tuple") && ttB "dict" n == some (n == "dict")
theorem Jo {K:PySem.W.Frag} {Γ:Nat→Option Addr} {n:String} {tab:List (Nat × Bool)} (a:Ub n = true) (h:Qk K Γ (.type n) tab):DY K Γ (.ty n) (zE n tab):=by
 unfold Ub at a
 simp only [Bool.and_eq_true,beq_iff_eq] at a
 obtain ⟨⟨⟨⟨⟨⟨a0,a1⟩,a2⟩,a3⟩,a4⟩,a5⟩,a6⟩:=a
 intro H v d b r e
 cases r <;> simp only [zE] at e
 case non=>cases e; exact ⟨_,.of .non,a0⟩
 case bl=>cases e; exact ⟨_,.of (.bl _),a1⟩
 case int=>cases e; exact ⟨_,.of (.int _),a2⟩
 case str=>cases e; exact ⟨_,.of (.str _),a3⟩
 case lst h1 _=>cases e; exact ⟨_,.of (.lst h1),a4⟩
 case tup h1 _=>cases e; exact ⟨_,.of (.tup h1),a5⟩
 case dK h1 _=>cases e; exact ⟨_,.of (.dK h1),a6⟩
 case dT h1 _=>cases e; exact ⟨_,.of (.dT h1),a6⟩
 case obj h1 g _ =>
   obtain ⟨C',g',i,k⟩:=h.get e
   rw [g] at g'
   cases g'
   exact ⟨_,.of (.ins h1 i.cls i.ha i.hn i.htk i.hm),k⟩
 all_goals cases e
theorem tt_bool:Ub "bool" = true:=by decide +kernel
theorem tt_int:Ub "int" = true:=by decide +kernel
theorem tt_str:Ub "str" = true:=by decide +kernel
theorem tt_list:Ub "list" = true:=by decide +kernel
theorem tt_tuple:Ub "tuple" = true:=by decide +kernel
end DL
namespace DL
open PySem PySem.Spec PyProof.Rows MX L2
theorem ur (i j:Int):bZ (.int i) (.int j) = some (.int (i + j)):=rfl
theorem Dy (i j:Int):subD (.int i) (.int j) = some (.int (i - j)):=rfl
theorem Dq {i j:Int} (h:Dz i j):K5 (.int i) (.int j) = some (.int (i * j)):=by show (if Dz i j then _ else _) = _; rw [if_pos h]
theorem wC {i j:Int} (h:CDiv i j):aev (.int i) (.int j) = some (.int (i / j)):=by show (if CDiv i j then _ else _) = _; rw [if_pos h]
theorem Dp {i j:Int} (h:0 < j):fX (.int i) (.int j) = some (.int (i % j)):=by show (if 0 < j then _ else _) = _; rw [if_pos h]
theorem Dg (p:Int→Int→Bool) (i j:Int):cmpI p (.int i) (.int j) = some (p i j):=rfl
theorem Lp (b:Bool):truD (.bl b) = some b:=rfl
theorem Xm (b:Bool):asB (.bl b) = some b:=rfl
theorem KR (xs:List D):ji (.lst xs) = some (.int xs.length):=rfl
theorem KY (xs:List D):ji (.rol xs) = some (.int xs.length):=rfl
theorem KZ (xs:List D):ji (.tup xs) = some (.int xs.length):=rfl
theorem RM (xs:List D) (i:Int):ixD (.lst xs) (.int i) = atI xs i:=rfl
theorem Yg (xs:List D) (i:Int):ixD (.rol xs) (.int i) = atI xs i:=rfl
theorem RN (xs:List D) (i:Int):ixD (.tup xs) (.int i) = atI xs i:=rfl
theorem Ky (i:Int):intD (.int i) = some (.int i):=rfl
theorem Kw (b:Bool):intD (.bl b) = some (.int (if b then 1 else 0)):=rfl
theorem K3 (i j:Int):maxD [.int i,.int j] = some (.int (if j > i then j else i)):=rfl
theorem K4 (i j:Int):minD [.int i,.int j] = some (.int (if j < i then j else i)):=rfl
theorem modb (a b:Int) {m:Int} (h:0 < m) (h2:m ≤ 2 ^ 32):Dz (a % m) b:=by
 have h3:=Int.emod_nonneg a (show m ≠ 0 by omega)
 have h4:=Int.emod_lt_of_pos a h
 exact .inl ⟨by omega,by omega⟩
theorem ahR {a b:Int} (h1:-1000000000 ≤ a) (h2:a ≤ 1000000000):Dz a b:=.inl ⟨by omega,by omega⟩
theorem ahP {a b:Int} (h1:0 < b) (h2:b < 1073741824):CDiv a b:=⟨h1,h2⟩
def nxP (o:Out Fl) (I:DSt→Prop):Prop:=match o with
 | .ok (.nx δ)=>I δ
 | _=>False
theorem Lb (δ:DSt) (I:DSt→Prop):nxP (.ok (.nx δ)) I = I δ:=rfl
theorem abx {o:Out Fl} {I:DSt→Prop} (h:nxP o I):∃ δ,o = .ok (.nx δ)∧I δ:=by
 unfold nxP at h
 split at h
 · exact ⟨_,rfl,h⟩
 · exact h.elim
theorem if_t {α:Type} {a b:α}:(if true = true then a else b) = a:=if_pos rfl
theorem if_f {α:Type} {a b:α}:(if false = true then a else b) = b:=if_neg Bool.false_ne_true
theorem abA {a b:String}:Str.ofString a = Str.ofString b ↔ a = b:=by
 constructor
 · intro h
   rw [Str.ofString_eq_toList,Str.ofString_eq_toList] at h
   have h1:a.toList.map Char.toNat = b.toList.map Char.toNat:=by
     have:=congrArg (fun s:Str=>s.cps.toList) h
     simpa using this
   have inj:∀ {x y:List Char},x.map Char.toNat = y.map Char.toNat→x = y:=by
     intro x
     induction x with
     | nil=>intro y h; cases y with | nil=>rfl | cons _ _=>cases h
     | cons c x ih =>
       intro y h
       cases y with
       | nil=>cases h
       | cons d y =>
         simp only [List.map_cons,List.cons.injEq] at h
         rw [ih h.2]
         congr 1
         exact Char.ext (UInt32.toNat_inj.mp h.1)
   exact String.toList_inj.mp (inj h1)
 · rintro rfl; rfl
theorem Ds (a b:String):(Str.ofString a == Str.ofString b) = (a == b):=by
 by_cases h:a = b
 · subst h; simp
 · rw [beq_eq_false_iff_ne.mpr h,beq_eq_false_iff_ne.mpr (fun q=>h (abA.mp q))]
mutual
theorem eqv_refl:∀ d:PyData,d.canLay0 = true→PyData.eqv d d = true
 | .none,_=>by simp [PyData.eqv]
 | .bool b,_=>by simp [PyData.eqv]
 | .int i,_=>by simp [PyData.eqv]
 | .str x,_=>by simp [PyData.eqv]
 | .list xs,h=>by
   simp only [PyData.eqv]
   exact eqvAll_refl xs (by simpa [PyData.canLay0] using h)
 | .tuple xs,h=>by
   simp only [PyData.eqv]
   exact eqvAll_refl xs (by simpa [PyData.canLay0] using h)
 | .dict _,h=>by simp [PyData.canLay0] at h
theorem eqvAll_refl:∀ ds:List PyData,PyData.canLayAll0 ds = true→PyData.eqvAll ds ds = true
 | [],_=>by simp [PyData.eqvAll]
 | d :: ds,h=>by
   simp only [PyData.canLayAll0,Bool.and_eq_true] at h
   simp only [PyData.eqvAll,eqv_refl d h.1,eqvAll_refl ds h.2,Bool.and_self]
end
mutual
def fU:Nat→D→Bool
 | _,.non=>true
 | _,.bl _=>true
 | _,.int _=>true
 | _,.str x=>PyData.strOk x
 | n + 1,.lst xs=>tV n xs
 | n + 1,.tup xs=>tV n xs
 | n + 1,.rol xs=>tV n xs
 | n + 1,.rot xs=>tV n xs
 | _,_=>false
def tV:Nat→List D→Bool
 | _,[]=>true
 | n,d :: ds=>fU n d && tV n ds
end
mutual
theorem PQ:∀ (d:D) (n:Nat),fU n d = true→∃ p,toPy d = some p∧p.canLay0 = true∧p.depth ≤ n
 | .non,n,_=>⟨_,rfl,by simp [PyData.canLay0],by simp [PyData.depth]⟩
 | .bl b,n,_=>⟨_,rfl,by simp [PyData.canLay0],by simp [PyData.depth]⟩
 | .int b,n,_=>⟨_,rfl,by simp [PyData.canLay0],by simp [PyData.depth]⟩
 | .str x,n,h=>⟨_,rfl,by simpa [PyData.canLay0,fU] using h,by simp [PyData.depth]⟩
 | .lst xs,n + 1,h=>by
   obtain ⟨q,e,c,k⟩:=Cm xs n (by simpa [fU] using h)
   exact ⟨.list q,by simp [toPy,e],by simpa [PyData.canLay0] using c,by simp [PyData.depth]; omega⟩
 | .rol xs,n + 1,h=>by
   obtain ⟨q,e,c,k⟩:=Cm xs n (by simpa [fU] using h)
   exact ⟨.list q,by simp [toPy,e],by simpa [PyData.canLay0] using c,by simp [PyData.depth]; omega⟩
 | .tup xs,n + 1,h=>by
   obtain ⟨q,e,c,k⟩:=Cm xs n (by simpa [fU] using h)
   exact ⟨.tuple q,by simp [toPy,e],by simpa [PyData.canLay0] using c,by simp [PyData.depth]; omega⟩
 | .rot xs,n + 1,h=>by
   obtain ⟨q,e,c,k⟩:=Cm xs n (by simpa [fU] using h)
   exact ⟨.tuple q,by simp [toPy,e],by simpa [PyData.canLay0] using c,by simp [PyData.depth]; omega⟩
 | .lst xs,0,h=>by simp [fU] at h
 | .rol xs,0,h=>by simp [fU] at h
 | .tup xs,0,h=>by simp [fU] at h
 | .rot xs,0,h=>by simp [fU] at h
 | .ty _,n,h=>by simp [fU] at h
 | .cls _,n,h=>by simp [fU] at h
 | .dK _,n,h=>by simp [fU] at h
 | .dT _,n,h=>by simp [fU] at h
 | .obj _ _,n,h=>by simp [fU] at h
 | .exc _ _,n,h=>by simp [fU] at h
theorem Cm:∀ (ds:List D) (n:Nat),tV n ds = true→∃ p,toPyL ds = some p∧PyData.canLayAll0 p = true∧PyData.depthAll p ≤ n
 | [],n,_=>⟨_,rfl,by simp [PyData.canLayAll0],by simp [PyData.depthAll]⟩
 | d :: ds,n,h=>by
   simp only [tV,Bool.and_eq_true] at h
   obtain ⟨p,e1,c1,k1⟩:=PQ d n h.1
   obtain ⟨q,e2,c2,k2⟩:=Cm ds n h.2
   exact ⟨p :: q,by simp [toPyL,e1,e2],by simp [PyData.canLayAll0,c1,c2],by simp [PyData.depthAll]; omega⟩
end
def eqB (x y:D):Bool:=match toPy x,toPy y with
 | some p,some q=>PyData.eqv p q
 | _,_=>false
theorem Px {x y:D} (hx:fU 50 x = true) (hy:fU 50 y = true):eqD x y = some (eqB x y):=by
 obtain ⟨p,e1,c1,k1⟩:=PQ x 50 hx
 obtain ⟨q,e2,c2,k2⟩:=PQ y 50 hy
 unfold eqD eqB layP
 rw [e1,e2]
 simp [c1,c2,k1,k2]
theorem Qa {x y:D} (hx:fU 50 x = true) (hy:fU 50 y = true):neD x y = some (!eqB x y):=by
 unfold neD
 rw [Px hx hy]
 rfl
theorem aeq {n:Nat} {x:D} (hx:fU n x = true):eqB x x = true:=by
 obtain ⟨p,e1,c1,k1⟩:=PQ x n hx
 unfold eqB
 rw [e1]
 exact eqv_refl p c1
theorem aer {x:D} (hx:fU 50 x = true):eqD x x = some true:=by rw [Px hx hx,aeq hx]
theorem Cv {x:D} (hx:fU 50 x = true):neD x x = some false:=by rw [Qa hx hx,aeq hx]; rfl
theorem ahW (i j:Int):eqB (.int i) (.int j) = (i == j):=by simp [eqB,toPy,PyData.eqv]
theorem eqB_bl (i j:Bool):eqB (.bl i) (.bl j) = (i == j):=by simp [eqB,toPy,PyData.eqv]
theorem Kq (i j:Int):eqD (.int i) (.int j) = some (i == j):=by rw [Px (by simp [fU]) (by simp [fU]),ahW]
theorem GD (i j:Int):neD (.int i) (.int j) = some (!(i == j)):=by rw [Qa (by simp [fU]) (by simp [fU]),ahW]
theorem Kr:eqD .non .non = some true:=aer (by simp [fU])
theorem K9:neD .non .non = some false:=Cv (by simp [fU])
theorem Kp (i j:Bool):eqD (.bl i) (.bl j) = some (i == j):=by rw [Px (by simp [fU]) (by simp [fU]),eqB_bl]
theorem K8 (i j:Bool):neD (.bl i) (.bl j) = some (!(i == j)):=by rw [Qa (by simp [fU]) (by simp [fU]),eqB_bl]
theorem Xn {α:Type} (x0:α) (r:List α):atI (x0 :: r) 0 = some x0:=fG (j:=0) rfl
theorem Xo {α:Type} (x0 x1:α) (r:List α):atI (x0 :: x1 :: r) 1 = some x1:=fG (j:=1) rfl
theorem Xp {α:Type} (x0 x1 x2:α) (r:List α):atI (x0 :: x1 :: x2 :: r) 2 = some x2:=fG (j:=2) rfl
theorem Xq {α:Type} (x0 x1 x2 x3:α) (r:List α):atI (x0 :: x1 :: x2 :: x3 :: r) 3 = some x3:=fG (j:=3) rfl
theorem Xr {α:Type} (x0 x1 x2 x3 x4:α) (r:List α):atI (x0 :: x1 :: x2 :: x3 :: x4 :: r) 4 = some x4:=fG (j:=4) rfl
theorem Xu {α:Type} (x0 x1 x2 x3 x4 x5:α) (r:List α):atI (x0 :: x1 :: x2 :: x3 :: x4 :: x5 :: r) 5 = some x5:=fG (j:=5) rfl
theorem Xv {α:Type} (x0 x1 x2 x3 x4 x5 x6:α) (r:List α):atI (x0 :: x1 :: x2 :: x3 :: x4 :: x5 :: x6 :: r) 6 = some x6:=fG (j:=6) rfl
theorem Xw {α:Type} (x0 x1 x2 x3 x4 x5 x6 x7:α) (r:List α):atI (x0 :: x1 :: x2 :: x3 :: x4 :: x5 :: x6 :: x7 :: r) 7 = some x7:=fG (j:=7) rfl
theorem Xx {α:Type} (x0 x1 x2 x3 x4 x5 x6 x7 x8:α) (r:List α):atI (x0 :: x1 :: x2 :: x3 :: x4 :: x5 :: x6 :: x7 :: x8 :: r) 8 = some x8:=fG (j:=8) rfl
theorem Xy {α:Type} (x0 x1 x2 x3 x4 x5 x6 x7 x8 x9:α) (r:List α):atI (x0 :: x1 :: x2 :: x3 :: x4 :: x5 :: x6 :: x7 :: x8 :: x9 :: r) 9 = some x9:=fG (j:=9) rfl
theorem Kc {α:Type} (x0 x1 x2 x3 x4 x5 x6 x7 x8 x9 x10:α) (r:List α):atI (x0 :: x1 :: x2 :: x3 :: x4 :: x5 :: x6 :: x7 :: x8 :: x9 :: x10 :: r) 10 = some x10:=fG (j:=10) rfl
theorem Kd {α:Type} (x0 x1 x2 x3 x4 x5 x6 x7 x8 x9 x10 x11:α) (r:List α):atI (x0 :: x1 :: x2 :: x3 :: x4 :: x5 :: x6 :: x7 :: x8 :: x9 :: x10 :: x11 :: r) 11 = some x11:=fG (j:=11) rfl
end DL
namespace DL
open PySem PySem.Spec PyProof.Rows MX L2
section
variable {X:Cx} {Γ:Nat→Option Addr} {E:XK} {e a b c o:Expr} {pos apos p:Pos} {es:List Expr} {fa fb fo:DSt→Out D} {fr:DSt→Out (List D)}
theorem Ug:∀ {bs:List Bool} {us:List Value},Vals (bs.map V.bl) us→us = bs.map Value.bool
 | [],_,r=>by cases r; rfl
 | b :: bs,_,r=>by
   cases r with
   | cons r1 r2=>cases r1; rw [Ug r2]; rfl
theorem all_range (bs:List Bool):(List.range bs.length).all (fun i=>bs.getD i true) = bs.all id:=by
 induction bs with
 | nil=>rfl
 | cons b bs ih =>
   rw [List.length_cons,List.range_succ_eq_map,List.all_cons,List.all_map,List.all_cons]
   have:((fun i=>(b :: bs).getD i true) ∘ Nat.succ) = fun i=>bs.getD i true:=by funext i; simp
   rw [this,ih]; simp
theorem QL (hc:X.calm = true):rK X (.builtin "all") (fun xs H Q=>∃ (q:Addr) (bs:List Bool),xs = [.ref q]∧SqL X.K H q (bs.map V.bl)∧Q (.bl (bs.all id)) H):=by
 intro pins s σ H xs us Q I r h
 obtain ⟨q,bs,rfl,hq,k⟩:=h
 obtain ⟨u,rfl,rx⟩:=vals1 r
 cases rx
 obtain ⟨its,r',pl,hz⟩:=I.list hq
 have ei:=Ug r'
 subst ei
 refine call_all_walk (PySem.wpAny_pyIter_list pl.isList ?_)
 have hh:X.A.in1.handled = none:=I.ok.hd hc
 have hlt:q < s.heap.objs.size:=by obtain ⟨ob,hob,_⟩:=pl.isList; exact Heap.lt_size hob
 refine ⟨_,_,_,_,_,_,fun i=>bs.getD i true,rfl,Walks.list hh s.heap.objs.size q (Nat.ne_of_lt hlt) _,⟨⟨_,Heap.get?_push_size _ rfl,rfl,rfl⟩,pl.isList.push _⟩,fun i v s' Q' E' hv hQ=>?_,fun h' tk kp=>?_⟩
 · have hv:(bs.map Value.bool)[i]? = some v:=by simpa using hv
   rw [List.getElem?_map] at hv
   obtain ⟨b,hb,rfl⟩:=Option.map_eq_some_iff.mp hv
   have hQ:Q' (bs.getD i true) s':=hQ
   rw [List.getD_eq_getElem?_getD,hb] at hQ
   exact wpAny_truthy_bool hQ
 · have es:(bs.map Value.bool).toArray.size = bs.length:=by simp
   rw [es,all_range]
   exact ⟨.bl _,H,I.kept (t':=tk) fun b ob hb=>kp b ob (by simp; exact Nat.ne_of_lt (Heap.lt_size hb)) (Heap.get?_push_of_some _ hb),rfl,k⟩
def Aj:List D→Option (List Bool)
 | []=>some []
 | d :: r=>match asB d,Aj r with
   | some b,some bs=>some (b :: bs)
   | _,_=>none
theorem aB.bools {K:PySem.W.Frag} {H:Hp}:∀ {vs:List V} {ds:List D} {bs:List Bool},aB K Γ H vs ds→Aj ds = some bs→vs = bs.map V.bl
 | _,_,_,.nil,e=>by simp only [Aj] at e; cases e; rfl
 | _,_,_,.cons (d:=d) (ds:=ds) h r,e=>by
   simp only [Aj] at e
   cases h1:asB d with
   | none=>rw [h1] at e; cases e
   | some b =>
     cases h2:Aj ds with
     | none=>rw [h1,h2] at e; cases e
     | some bs =>
       rw [h1,h2] at e
       cases e
       rw [h.asB h1,r.bools h2]; rfl
def allD (d:D):Option D:=(qX d).bind fun ds=>(Aj ds).map fun bs=>.bl (bs.all id)
theorem Rep.qX {K:PySem.W.Frag} {H:Hp} {v:V} {d:D} {ds:List D} (r:Rep K Γ H v d) (e:qX d = some ds):∃ a vs,v = .ref a∧SqL K H a vs∧aB K Γ H vs ds:=by
 cases r <;> simp only [DL.qX] at e <;> cases e
 · exact ⟨_,_,rfl,SqL.of ‹_›,‹_›⟩
 · exact ⟨_,_,rfl,‹_›,‹_›⟩
theorem de_all (hc:X.calm = true) (hg:Gl X "all") (hm:X.mg "all" = none) (ha:DB X Γ E a fa) (hs:starEach [a] X.env = [(false,eval a X.env)]:=by rfl):DE X Γ E (.Call (.Name "all" p) [a] [] pos) (o1 allD fa) :=
 dC1 (fun G H v dx d Q s r e k=>by
   unfold allD at e
   obtain ⟨ds,e1,e2⟩:=Option.bind_eq_some_iff.mp e
   obtain ⟨bs,e3,rfl⟩:=Option.map_eq_some_iff.mp e2
   obtain ⟨q,vs,rfl,sq,ra⟩:=r.qX e1
   exact ⟨q,bs,rfl,(ra.bools e3) ▸ sq,k _ G H (.refl s) (.bl _)⟩) (Jw (QL hc) hg hm (by decide +kernel) (bK ha eG (by rw [hs]; rfl)) (by decide) (by decide) (by rw [hs]; rfl) (by rfl))
def Its (x:Str):It:=⟨fun i _=>i < x.cps.size,fun i H v H'=>H' = H∧∃ c,x.cps[i]? = some c∧v = .str ⟨#[c]⟩,fun i _=>x.cps.size ≤ i⟩
theorem Uc {P:Program} {w:World} {K:PySem.W.Frag} {tg:Expr} (x:Str) (tk:Tok) (it:Addr):Turn P w K tg (Its x) [it] it (fun i h=>h.IsStrIter it "str_ascii_iterator" x tk i) where
 mem:=by simp
 obj:=fun i h st b hb=>by
   have z:b = it:=by simpa using hb
   subst z
   obtain ⟨ob,e1,e2,e3⟩:=st
   exact ⟨ob,e1,fun v z=>by rw [e3] at z; cases z⟩
 keep:=fun i h h' st kp=>by
   obtain ⟨ob,e1,e2⟩:=st
   exact ⟨ob,kp it (by simp) ob e1,e2⟩
 item:=by
   intro X hP hw hK hc i pins s σ H E I hf st hg
   subst hP hw hK
   obtain ⟨f0,f1,f2,f3,f4,f5⟩:=hf it (by simp)
   have lt:i < x.cps.size:=hg
   have hx:x.cps[i]? = some x.cps[i]:=Array.getElem?_eq_getElem lt
   refine wpAny_pyNext_ascii_item st hx fun h' st' sb=>?_
   have I1:Inv X pins σ H { s with heap:=h',toks:=s.toks + 1 }:=I.turned (t':=s.toks + 1) (fun b ob hb q=>(sb.2 b hb).trans q) f0 f1 f3 f4 f5
   obtain ⟨ob,e1,e2,e3⟩:=id st'
   exact ⟨_,rfl,aeB (s:={ s with heap:=h',toks:=s.toks + 1 }) e1 e2 e3 (by decide) ⟨.str ⟨#[x.cps[i]]⟩,H,I1,⟨_,rfl⟩,⟨rfl,_,hx,rfl⟩,st',fun b hb=>(hf b hb).1⟩⟩
 done:=by
   intro X hP hw hK hc i pins s σ H E I hf st hg
   subst hP hw hK
   obtain ⟨f0,f1,f2,f3,f4,f5⟩:=hf it (by simp)
   have hx:x.cps[i]? = none:=by
     have:x.cps.size ≤ i:=hg
     simp [this]
   exact wpAny_pyNext_ascii_end (I.ok.hd hc) st hx fun h' eb=>⟨rfl,I.turned (t':=s.toks) (fun b ob hb q=>eb b ob hb q) f0 f1 f3 f4 f5⟩
 self:=fun _ _ _ _ _ st h=>wpAny_pyIter_striter_ascii st h
theorem Xe {P:Program} {w:World} {K:PySem.W.Frag} {tg:Expr} (x:Str) (tk:Tok) (it:Addr):Turn P w K tg (Its x) [it] it (fun i h=>h.IsStrIter it "str_iterator" x tk i) where
 mem:=by simp
 obj:=fun i h st b hb=>by
   have z:b = it:=by simpa using hb
   subst z
   obtain ⟨ob,e1,e2,e3⟩:=st
   exact ⟨ob,e1,fun v z=>by rw [e3] at z; cases z⟩
 keep:=fun i h h' st kp=>by
   obtain ⟨ob,e1,e2⟩:=st
   exact ⟨ob,kp it (by simp) ob e1,e2⟩
 item:=by
   intro X hP hw hK hc i pins s σ H E I hf st hg
   subst hP hw hK
   obtain ⟨f0,f1,f2,f3,f4,f5⟩:=hf it (by simp)
   have lt:i < x.cps.size:=hg
   have hx:x.cps[i]? = some x.cps[i]:=Array.getElem?_eq_getElem lt
   refine wpAny_pyNext_wide_item st hx fun h' st' sb=>?_
   have I1:Inv X pins σ H { s with heap:=h',toks:=s.toks + 1 }:=I.turned (t':=s.toks + 1) (fun b ob hb q=>(sb.2 b hb).trans q) f0 f1 f3 f4 f5
   obtain ⟨ob,e1,e2,e3⟩:=id st'
   exact ⟨_,rfl,aeB (s:={ s with heap:=h',toks:=s.toks + 1 }) e1 e2 e3 (by decide) ⟨.str ⟨#[x.cps[i]]⟩,H,I1,⟨_,rfl⟩,⟨rfl,_,hx,rfl⟩,st',fun b hb=>(hf b hb).1⟩⟩
 done:=by
   intro X hP hw hK hc i pins s σ H E I hf st hg
   subst hP hw hK
   obtain ⟨f0,f1,f2,f3,f4,f5⟩:=hf it (by simp)
   have hx:x.cps[i]? = none:=by
     have:x.cps.size ≤ i:=hg
     simp [this]
   exact wpAny_pyNext_wide_end (I.ok.hd hc) st hx fun h' eb=>⟨rfl,I.turned (t':=s.toks) (fun b ob hb q=>eb b ob hb q) f0 f1 f3 f4 f5⟩
 self:=fun _ _ _ _ _ st h=>wpAny_pyIter_striter_wide st h
def iStr (tl:TE):TI:=fun σ H R=>tl σ H fun v H1=>∃ x,v = .str x∧R (Its x) H1
theorem pi_str {tg l:Expr} {tl:TE} (hl:PE X l tl):PI X tg l (iStr tl):=by
 intro pins s σ H R I h
 refine thn (hl pins s σ H _ I h) fun v s1 ⟨x,H1,I1,r1,q1⟩=>?_
 obtain ⟨z,ez,q⟩:=q1
 subst ez
 obtain ⟨tk,rfl⟩:=r1
 have fp:∀ b ∈ [s1.heap.objs.size],Nb X pins H1 b:=fun b hb=>by
   have eb:b = s1.heap.objs.size:=by simpa using hb
   subst eb
   exact I1.fpOk (Nat.le_refl _) (I1.hok.fresh (Nat.le_refl _))
 cases ha:z.cps.all (· < 128) with
 | true=>exact wpAny_pyIter_ascii ha ⟨s1.heap.objs.size,[s1.heap.objs.size],_,_,H1,rfl,I1.kept (t':=s1.toks) fun b ob q=>Heap.get?_push_of_some _ q,Uc z tk _,⟨_,Heap.get?_push_size _ rfl,rfl,rfl⟩,fp,q⟩
 | false=>exact wpAny_pyIter_wide ha ⟨s1.heap.objs.size,[s1.heap.objs.size],_,_,H1,rfl,I1.kept (t':=s1.toks) fun b ob q=>Heap.get?_push_of_some _ q,Xe z tk _,⟨_,Heap.get?_push_size _ rfl,rfl,rfl⟩,fp,q⟩
def T8 (x:Str):List D:=x.cps.toList.map fun c=>.str ⟨#[c]⟩
theorem yl_str {K:PySem.W.Frag} {G:Hp} {x:Str}:Yl K Γ G (Its x) (T8 x):=by
 have hl:(T8 x).length = x.cps.size:=by simp [T8]
 refine ⟨fun i H s lt=>by rw [hl] at lt; exact lt,fun i G' H v H' d s s' y ed=>?_,fun i H s le=>by rw [hl] at le; exact le⟩
 obtain ⟨rfl,ch,hx,rfl⟩:=y
 unfold T8 at ed
 rw [List.getElem?_map] at ed
 obtain ⟨ch',e1,rfl⟩:=Option.map_eq_some_iff.mp ed
 have e2:x.cps.toList[i]? = some ch:=by simpa using hx
 rw [e1] at e2
 cases e2
 exact ⟨G',.refl s',.str _⟩
def strO (f:DSt→Out D):DSt→Out (List D):=fun δ=>(f δ).bind fun d=>match d with
 | .str x=>.ok (T8 x)
 | _=>.stuck
theorem di_str {tg:Expr} (ha:DE X Γ E a fa):DI X Γ E tg a (strO fa):=PI.imp (pi_str ha) fun σ H R ⟨G0,H0,G,δ,S,w⟩=>by
 refine ⟨G0,H0,G,δ,S,(au w).mono (fun d w v G1 H1 s1 r1=>?_) fun _ k=>k⟩
 split at w
 · cases r1; exact ⟨_,rfl,w _ G1 H1 s1 yl_str⟩
 · exact False.elim w
def rSlS:V→Option Int→Option Int→Hp→VK→Prop:=fun x lo hi H Q=>∃ z,x = .str z∧z.length ≤ sizeLine∧Q (.str (Txt.slice z lo hi)) H
theorem sl_str:SlR X rSlS:=by
 intro pins s σ H x v vl vu lo hi sl Q I rx hs pl pu h
 obtain ⟨z,rfl,hz,q⟩:=h
 obtain ⟨t,rfl⟩:=rx
 obtain ⟨ob,h1,h2,h3⟩:=hs
 refine ⟨"str",_,PySem.F.slot_str_getitem.lookup,typeIs_str _ _ _,?_⟩
 have fin:∀ t' k,EP X pins σ Q (.str (Txt.slice z lo hi) t') { s with toks:=k }:=fun t' k=>⟨.str _,H,I.tok k,⟨_,rfl⟩,q⟩
 cases pl with
 | none =>
   cases pu with
   | none=>exact wpAny_getItem_str_slice (l:=none) (u:=none) (st:=none) ⟨ob,h1,h2,h3⟩ rfl (post_val_or_str ⟨Nat.le_trans (Txt.slice_le z _ _) hz,fun t' k=>fin t' k⟩)
   | int j u=>exact wpAny_getItem_str_slice (l:=none) (u:=some (j,u)) (st:=none) ⟨ob,h1,h2,h3⟩ rfl (post_val_or_str ⟨Nat.le_trans (Txt.slice_le z _ _) hz,fun t' k=>fin t' k⟩)
 | int i u' =>
   cases pu with
   | none=>exact wpAny_getItem_str_slice (l:=some (i,u')) (u:=none) (st:=none) ⟨ob,h1,h2,h3⟩ rfl (post_val_or_str ⟨Nat.le_trans (Txt.slice_le z _ _) hz,fun t' k=>fin t' k⟩)
   | int j u=>exact wpAny_getItem_str_slice (l:=some (i,u')) (u:=some (j,u)) (st:=none) ⟨ob,h1,h2,h3⟩ rfl (post_val_or_str ⟨Nat.le_trans (Txt.slice_le z _ _) hz,fun t' k=>fin t' k⟩)
def toD (K:PySem.W.Frag) (Γ:Nat→Option Addr) (E:XK) (f:DSt→Out (Option Int)):TO:=fun σ H Q=>∃ G0 H0 G δ,SR K Γ G0 H0 G H σ δ∧wpO (f δ) (fun b=>∀ G' H',Step G H G' H'→Q b H') (exD K Γ E G H)
abbrev DO (X:Cx) (Γ:Nat→Option Addr) (E:XK) (lo:Option Expr) (f:DSt→Out (Option Int)):Prop:=PO X lo (toD X.K Γ E f)
theorem PO.imp {lo:Option Expr} {t t':TO} (h:PO X lo t) (k:∀ σ H Q,t' σ H Q→t σ H Q):PO X lo t':=fun pins s σ H Q I q=>h pins s σ H Q I (k _ _ _ q)
def noI:DSt→Out (Option Int):=fun _=>.ok none
def soI (f:DSt→Out D):DSt→Out (Option Int):=fun δ=>(f δ).bind fun d=>match d with
 | .int i=>.ok (some i)
 | _=>.stuck
theorem qK:DO X Γ E none noI:=PO.imp po_none fun σ H Q ⟨G0,H0,G,δ,S,w⟩=>w G H (.refl S.st.gh)
theorem jq (h:DE X Γ E e fa):DO X Γ E (some e) (soI fa):=PO.imp (po_some h) fun σ H Q ⟨G0,H0,G,δ,S,w⟩=>by
 refine ⟨G0,H0,G,δ,S,(au w).mono (fun d w v G1 H1 s1 r1=>?_) fun _ k=>k⟩
 split at w
 · cases r1; exact ⟨_,rfl,w G1 H1 s1⟩
 · exact False.elim w
def FZ (xs:List D) (lo hi:Option Int):List D:=List.take (HT.sIx xs.length xs.length hi - HT.sIx xs.length 0 lo) (List.drop (HT.sIx xs.length 0 lo) xs)
def cutD:D→Option Int→Option Int→Option D
 | .str z,lo,hi=>if z.length ≤ sizeLine then some (.str (Txt.slice z lo hi)) else none
 | .lst xs,lo,hi=>some (.lst (FZ xs lo hi))
 | .rol xs,lo,hi=>some (.lst (FZ xs lo hi))
 | _,_,_=>none
def oSl (fa:DSt→Out D) (fl fh:DSt→Out (Option Int)):DSt→Out D:=fun δ=>(fa δ).bind fun x=>(fl δ).bind fun l=>(fh δ).bind fun h=>.opt (cutD x l h)
theorem aB.cut {K:PySem.W.Frag} {H:Hp} {vs:List V} {ds:List D} (r:aB K Γ H vs ds) (lo hi:Option Int):aB K Γ H (cutV vs lo hi) (FZ ds lo hi):=by
 unfold cutV FZ
 rw [r.length]
 exact (r.drop _).take _
theorem jd {lo hi:Option Expr} {p2:Pos} {fl fh:DSt→Out (Option Int)} (he:DE X Γ E e fa) (hl:DO X Γ E lo fl) (hu:DO X Γ E hi fh):DE X Γ E (.Subscript e (.Slice lo hi none p2) pos) (oSl fa fl fh):=PE.imp (pe_slice (sl_str.or sl_list) he hl hu) fun σ H Q ⟨G0,H0,G,δ,S,w⟩=>by
 refine ⟨G0,H0,G,δ,S,(au w).mono (fun x w v G1 H1 s1 r1=>?_) fun _ k=>k⟩
 refine ⟨G0,H0,G1,δ,S.step s1,(au w).mono (fun l w G2 H2 s2=>?_) fun _ k=>k.step s1⟩
 refine ⟨G0,H0,G2,δ,(S.step s1).step s2,(au w).mono (fun h w G3 H3 s3=>?_) fun _ k=>k.step (s1.trans s2)⟩
 obtain ⟨d,e,k⟩:=bJ w
 have r3:=(r1.mono s2.gg).mono s3.gg
 have k3:=k.step ((s1.trans s2).trans s3)
 unfold cutD at e
 split at e
 · split at e
   · cases e; cases r1; exact .inl ⟨_,rfl,‹_›,k3 _ G3 H3 (.refl s3.gh) (.str _)⟩
   · cases e
 · cases e
   cases r3 with
   | lst h r=>exact .inr ⟨_,_,rfl,SqL.of (s3.gh _ _ h),fun q hq=>k3 _ _ _ (.new s3.gh hq) (.lst aG ((r.cut _ _).mono (bz.up (aJ s3.gh hq))))⟩
 · cases e
   cases r3 with
   | rol h r=>exact .inr ⟨_,_,rfl,s3.gh.seq h,fun q hq=>k3 _ _ _ (.new s3.gh hq) (.lst aG ((r.cut _ _).mono (bz.up (aJ s3.gh hq))))⟩
 · cases e
theorem aik:∀ {ss:List Str} {us:List Value},Vals (ss.map V.str) us→StrsAre us ss
 | [],_,r=>by cases r; exact .nil
 | x :: ss,_,r=>by
   cases r with
   | cons r1 r2=>obtain ⟨t,rfl⟩:=r1; exact .cons x t (aik r2)
def rJoin (K:PySem.W.Frag):V→List V→Hp→VK→Prop:=fun x vs H Q=>∃ (z:Str) (q:Addr) (ss:List Str),x = .str z∧vs = [.ref q]∧SqL K H q (ss.map V.str)∧(ss.map (·.length)).sum + ss.length * z.length ≤ 16777216∧Q (.str (Txt.join z ss)) H
theorem mt_join:MtR X "str.join" (rJoin X.K):=by
 intro pins s σ H x vs v us Q I rx rv h
 obtain ⟨z,q,ss,rfl,rfl,hq,hz,k⟩:=h
 obtain ⟨t,rfl⟩:=rx
 obtain ⟨u,rfl,ru⟩:=rv.one
 cases ru
 obtain ⟨its,r',pl,_⟩:=I.list hq
 exact join_list pl.isList (by simpa using aik r') hz fun t' tk=>⟨.str _,H,I.tok tk,⟨_,rfl⟩,k⟩
def M8:List D→Option (List Str)
 | []=>some []
 | .str x :: r=>(M8 r).map (x :: ·)
 | _=>none
theorem aB.strs {K:PySem.W.Frag} {H:Hp}:∀ {vs:List V} {ds:List D} {ss:List Str},aB K Γ H vs ds→M8 ds = some ss→vs = ss.map V.str
 | _,_,_,.nil,e=>by simp only [M8] at e; cases e; rfl
 | _,_,_,.cons (d:=d) (ds:=ds) h r,e=>by
   unfold M8 at e
   split at e
   · rename_i z; cases z
   · rename_i z
     cases z
     obtain ⟨q,e1,rfl⟩:=Option.map_eq_some_iff.mp e
     cases h
     rw [aB.strs r e1]; rfl
   · cases e
def joinD (z:Str) (d:D):Option D:=(qX d).bind fun ds=>(M8 ds).bind fun ss=>if (ss.map (·.length)).sum + ss.length * z.length ≤ 16777216 then some (.str (Txt.join z ss)) else none
def oJoin (fo fa:DSt→Out D):DSt→Out D:=fun δ=>(fo δ).bind fun d=>match d with
 | .str z=>(fa δ).bind fun y=>.opt (joinD z y)
 | _=>.stuck
theorem de_join {m:Str} {apos cpos:Pos} (ho:DE X Γ E o fo) (ha:DE X Γ E a fa) (hh:∀ {to te:TE},PE X o to→PE X a te→PE X (.Call (.Attribute o m apos) [a] [] cpos) (tBM X.K "str" (rJoin X.K) to (wO te DR))):DE X Γ E (.Call (.Attribute o m apos) [a] [] cpos) (oJoin fo fa):=PE.imp (hh ho ha) fun σ H Q ⟨G0,H0,G,δ,S,w⟩=>by
 refine ⟨G0,H0,G,δ,S,(au w).mono (fun d w v G1 H1 s1 r1=>?_) fun _ k=>k⟩
 split at w
 · rename_i z
   cases r1
   refine ⟨rfl,G0,H0,G1,δ,S.step s1,(au w).mono (fun y w u G2 H2 s2 r2=>?_) fun _ k=>k.step s1⟩
   obtain ⟨r,e,k⟩:=bJ w
   unfold joinD at e
   obtain ⟨ds,e1,e2⟩:=Option.bind_eq_some_iff.mp e
   obtain ⟨ss,e3,e4⟩:=Option.bind_eq_some_iff.mp e2
   split at e4
   · cases e4
     obtain ⟨q,vs,rfl,sq,ra⟩:=r2.qX e1
     exact ⟨z,q,ss,rfl,rfl,(ra.strs e3) ▸ s2.gh.seq sq,‹_›,k _ G2 H2 (s1.trans s2) (.str _)⟩
   · cases e4
 · exact False.elim w
def qw:List Str→List Str→List Str
 | acc,[]=>acc
 | acc,x :: r=>qw (if acc.contains x then acc else acc ++ [x]) r
end
end DL
namespace DL
open PySem PySem.Spec PyProof.Rows MX L2
theorem La:∀ (l acc:List Str) (x:Str),qw acc (l ++ [x]) = if (qw acc l).contains x then qw acc l else qw acc l ++ [x]
 | [],acc,x=>rfl
 | y :: l,acc,x=>by simp only [List.cons_append,qw]; exact La l _ x
theorem R9:∀ (l acc:List Str),(qw acc l).length ≤ acc.length + l.length
 | [],acc=>Nat.le_refl _
 | y :: l,acc=>by
   simp only [qw,List.length_cons]
   have h1:=R9 l (if acc.contains y then acc else acc ++ [y])
   have h2:(if acc.contains y = true then acc else acc ++ [y]).length ≤ acc.length + 1:=by split <;> simp
   omega
theorem Sd:∀ (l acc:List Str),(acc ++ l).Nodup→qw acc l = acc ++ l
 | [],acc,_=>by simp [qw]
 | y :: l,acc,h=>by
   have hy:y ∉ acc:=fun z=>by
     have:=(List.nodup_append.mp h).2.2 y z y List.mem_cons_self
     exact this rfl
   simp only [qw]
   rw [if_neg (by simpa using hy),Sd l (acc ++ [y]) (by simpa using h)]
   simp
section
variable {prog:Program} {w:World} {A:Around} {E:Value→Shared→Prop} {R:Result→Shared→Prop}
theorem isS (x:Str) (t:Tok):(PySem.strKind prog w).is x (.str x t) = true:=strKind_is prog w x t
theorem afj {h h':Heap} {a:Addr} {S:Str→Bool} {n:Nat} (x:h.SetOf (PySem.strKind prog w) a S n) (k:∀ o,h.get? a = some o→h'.get? a = some o):h'.SetOf (PySem.strKind prog w) a S n:=by
 obtain ⟨o,es,ep,tb,ho,z⟩:=x
 exact ⟨o,es,ep,tb,k o ho,z⟩
theorem afk {h:Heap} {a:Addr} {S S':Str→Bool} {n n':Nat} (x:h.SetOf (PySem.strKind prog w) a S n) (e:S = S') (en:n = n'):h.SetOf (PySem.strKind prog w) a S' n':=by subst e en; exact x
theorem set_loop {I l S:Addr} {items:Array Value} {ss:List Str} (hi:items.toList.length = ss.length) (hv:∀ (i:Nat) v,items[i]? = some v→∃ x t,ss[i]? = some x∧v = .str x t) (W:Walks prog w A.in1 I [I,l] [I] items.size (fun i v=>items[i]? = some v) (fun i h=>h.IsListIter I l i∧h.IsList l items))
   (nI:S ≠ I) (nl:S ≠ l) (few:ss.length + 1 < scanBound):∀ (k i:Nat) (s:Shared),items.size - i = k→i ≤ items.size→(s.heap.IsListIter I l i∧s.heap.IsList l items) →
     s.heap.SetOf (PySem.strKind prog w) S (fun x=>(qw [] (ss.take i)).contains x) (qw [] (ss.take i)).length →
     (∀ h' tk,(∀ b o,b ≠ S→b ≠ I→s.heap.get? b = some o→h'.get? b = some o)→h'.SetOf (PySem.strKind prog w) S (fun x=>(qw [] ss).contains x) (qw [] ss).length→R (.ok (.ret .none)) { s with heap:=h',toks:=tk }) →
     codeAny (model prog w) A (.builtin "set.update.loop" ⟨[.ref S,.ref I],[]⟩) R s:=by
 have hsz:items.size = ss.length:=by simpa using hi
 intro k
 induction k with
 | zero =>
   intro i s ek le st hS q
   obtain rfl:i = items.size:=by omega
   refine codeAny_builtin PyProof.Rows.F.entry_set_update_loop ?_
   rw [Around.under_plainId PyProof.Rows.F.plain_set_update_loop _]
   show wpAny _ A.in1 (pyNext (.ref I) >>= _) _ _ s
   refine wpAny_bind (W.done s _ _ st fun h' tk kp=>wpAny_pure (q h' tk (fun b o h1 h2 z=>kp b o (by simpa using h2) z) ?_))
   have z:=afj hS fun o ho=>kp S o (by simpa using nI) ho
   rwa [hsz,List.take_length] at z
 | succ k ih =>
   intro i s ek le st hS q
   have lt:i < items.size:=by omega
   refine codeAny_builtin PyProof.Rows.F.entry_set_update_loop ?_
   rw [Around.under_plainId PyProof.Rows.F.plain_set_update_loop _]
   show wpAny _ A.in1 (pyNext (.ref I) >>= _) _ _ s
   refine wpAny_bind (W.item i s _ _ lt st fun v h1 tk1 pv st1 kp1=>?_)
   obtain ⟨x,t,hx,rfl⟩:=hv i v pv
   have hS1:=afj (h':=h1) hS fun o ho=>kp1 S o (by simpa using nI) ho
   show wpAny _ A.in1 (holding [Value.str x t] (setAdd S (.str x t)) >>= _) _ _ _
   refine wpAny_bind (wpAny_holding ?_)
   unfold setAdd
   refine wpAny_holding (wpAny_bind ((PySem.strKind prog w).pyHash (k:=x) (isS x t) ?_))
   have nl2:=R9 (ss.take i) []
   have tl:(ss.take i).length ≤ ss.length:=List.length_take_le' i ss
   refine wpAny_setAddHashed_of (knd:=PySem.strKind prog w) (k:=x) (isS x t) rfl hS1 (by simp at nl2; omega) fun h2 sb hS2=>?_
   have tk2:ss.take (i + 1) = ss.take i ++ [x]:=by
     obtain ⟨hl,e⟩:=List.getElem?_eq_some_iff.mp hx
     rw [List.take_succ,hx]; rfl
   have hS3:h2.SetOf (PySem.strKind prog w) S (fun x=>(qw [] (ss.take (i + 1))).contains x) (qw [] (ss.take (i + 1))).length:=by
     refine afk hS2 (funext fun y=>?_) ?_
     · rw [tk2,La]
       by_cases c:(qw [] (ss.take i)).contains x = true
       · rw [if_pos c]
         by_cases e:y = x
         · subst e; simp only [c,Bool.true_or]
         · simp [e]
       · rw [if_neg c]
         simp
     · rw [tk2,La]
       by_cases c:(qw [] (ss.take i)).contains x = true
       · rw [if_pos c,if_pos c]
       · rw [if_neg c,if_neg c]; simp
   refine wpAny_pure ⟨plainId_quiet PyProof.Rows.F.plain_set_update_loop _,ih (i + 1) _ (by omega) lt ?_ hS3 fun h3 tk3 kp3 z=>q h3 tk3 (fun b o b1 b2 y=>kp3 b o b1 b2 ((sb.2 b b1).trans (kp1 b o (by simpa using b2) y))) z⟩
   refine W.frame _ _ _ st1 fun b hb o y=>?_
   have bS:b ≠ S:=fun z=>by
     subst z
     rcases List.mem_cons.mp hb with z | z
     · exact nI z
     · exact nl (by simpa using z)
   exact (sb.2 b bS).trans y
set_option maxHeartbeats 4000000 in
theorem UL {s:Shared} {l:Addr} {items:Array Value} {ss:List Str} {Q:Value→Shared→Prop} (hh:A.handled = none) (hl:s.heap.IsList l items) (hi:items.toList.length = ss.length) (hv:∀ (i:Nat) v,items[i]? = some v→∃ x t,ss[i]? = some x∧v = .str x t) (few:ss.length + 1 < scanBound)
   (q:∀ (h':Heap) (tk:Nat),h'.SetOf (PySem.strKind prog w) s.heap.objs.size (fun x=>(qw [] ss).contains x) (qw [] ss).length→(∀ b o,s.heap.get? b = some o→h'.get? b = some o)→Q (.ref s.heap.objs.size) { s with heap:=h',toks:=tk }) :
   wpAny (model prog w) A (call (.type "set") [.ref l]) Q E s:=by
 obtain ⟨c0,tl0,mro0⟩:=PySem.F.called_set.mro
 have made0:=PySem.F.called_set.made
 have sub0:=PySem.F.called_set.sub
 have nt0:=PySem.F.called_set.notType
 have cc0:=PySem.F.called_set.canCreate
 have tc0:=PySem.F.typeCall_set_1 (.ref l)
 refine wpAny_call (codeAny_of_tree ?_)
 show wpAny _ _ (callAny (.type "set") _) _ _ _
 refine wpAny_pure ⟨Code.quiet_builtin _ (by decide +kernel),codeAny_builtin PySem.F.entry_type_call ?_⟩
 rw [Around.under_plain (weight_type_call_type "set" [.ref l] []) rfl]
 repeat (any_goals (first | assumption | wp_step))
 refine codeAny_mono (code_set_new_1 (.ref l) (E:=E) (Q₁:=fun ob s1=>∃ led:Bool,ob = .ref s.heap.objs.size∧s1 = { s with heap:=s.heap.push { cls:=.type "set",dict:=none,data:=.set #[] 0 (.fresh 0 0 led) } }) fun led=>⟨led,rfl,rfl⟩) fun r1 s1 z1=>?_
 cases r1 with
 | error e=>exact z1
 | ok fl1 =>
   cases fl1 with
   | ret ob1 =>
     obtain ⟨led,rfl,rfl⟩:=z1
     have hS:=Heap.get?_push_size s.heap (o:={ cls:=.type "set",dict:=none,data:=.set #[] 0 (.fresh 0 0 led) }) rfl
     have hT:Shared.TypeIs { s with heap:=s.heap.push { cls:=.type "set",dict:=none,data:=.set #[] 0 (.fresh 0 0 led) } } (.ref s.heap.objs.size) "set":=⟨_,hS,rfl⟩
     have il0:=PySem.F.called_set.init.lookup
     have ib0:=PySem.F.called_set.init.bind (.ref s.heap.objs.size)
     repeat (any_goals (first | assumption | wp_step))
     refine codeAny_mono (codeAny_call_builtin (R:=wants (fun r2 s2=>r2 = .none∧∃ h' tk,s2 = { s with heap:=h',toks:=tk }∧h'.SetOf (PySem.strKind prog w) s.heap.objs.size (fun x=>(qw [] ss).contains x) (qw [] ss).length∧(∀ b o,s.heap.get? b = some o→h'.get? b = some o)) E)
       PySem.F.called_set.init.plain PySem.F.entry_set_init (check_set_init_1 hT ?_)) fun r2 s2 z2=>?_
     · obtain ⟨⟨cl,dl,dt,sl⟩,hol,hc1,nn,hd1⟩:=hl
       dsimp only at hc1 hd1
       subst hc1
       subst hd1
       have hol1:=Heap.get?_push_of_some (h:=s.heap) { cls:=.type "set",dict:=none,data:=.set #[] 0 (.fresh 0 0 led) } hol
       have sls:=PySem.F.sub_list_set
       have slf:=PySem.F.sub_list_frozenset
       have nld:(Value.type "list" == Value.type "dict") = false:=by decide
       have hl1:(s.heap.push { cls:=.type "set",dict:=none,data:=.set #[] 0 (.fresh 0 0 led) }).IsList l items:=⟨_,hol1,rfl,nn,rfl⟩
       unfold Builtin.«set.__init__» noKeywords Builtin.Frozenset.updateFrom
       generalize hPI:pyIter = PI
       wp_walk
       subst hPI
       refine wpAny_pyIter_list hl1 (wpAny_bind (wpAny_runValue ?_))
       have lS:l < s.heap.objs.size:=Heap.lt_size hol
       have h3:A.in1.in1.in1.handled = none:=by simp [hh]
       have sz1:(s.heap.push { cls:=.type "set",dict:=none,data:=.set #[] 0 (.fresh 0 0 led) }).objs.size = s.heap.objs.size + 1:=Heap.size_push ..
       have nel:l ≠ (s.heap.push { cls:=.type "set",dict:=none,data:=.set #[] 0 (.fresh 0 0 led) }).objs.size:=by rw [sz1]; exact Nat.ne_of_lt (Nat.lt_succ_of_lt lS)
       refine set_loop hi hv (Walks.list h3 _ l nel items) (by rw [sz1]; exact Nat.ne_of_lt (Nat.lt_succ_self _)) (Nat.ne_of_gt lS) few (items.size - 0) 0 _ rfl (Nat.zero_le _) ⟨⟨_,Heap.get?_push_size _ rfl,rfl,rfl⟩,hl1.push _⟩ ?_ fun h' tk kp z=>?_
       · exact afk ((PyProof.Rows.setObjOf_fresh (knd:=PySem.strKind prog w) led).setOf (Heap.get?_push_of_some _ hS) (by decide)) rfl rfl
       · refine wpAny_pure (wpAny_pure ⟨rfl,h',tk,rfl,z,fun b o y=>?_⟩)
         have blt:=Heap.lt_size y
         exact kp b o (Nat.ne_of_lt blt) (by rw [sz1]; exact Nat.ne_of_lt (Nat.lt_succ_of_lt blt)) (Heap.get?_push_of_some _ (Heap.get?_push_of_some _ y))
     · cases r2 with
       | error e=>exact z2
       | ok fl2 =>
         cases fl2 with
         | ret r =>
           obtain ⟨rfl,h',tk,rfl,zS,kp⟩:=z2
           repeat (any_goals (first | assumption | wp_step))
           exact q _ _ zS kp
         | _=>exact z2.elim
   | _=>exact z1.elim
end
def sstP (n:Nat) (a:Addr) (h:Heap):Prop:=∃ o es ep tb,h.get? a = some o∧o.ExactSet∧o.data = .set es ep tb∧tb.fits es.size = true∧es.size = n
section
variable {X:Cx} {Γ:Nat→Option Addr} {E:XK} {e a b c o:Expr} {pos apos p p2 pos2:Pos} {fa:DSt→Out D}
theorem sst_ok {P:Program} {w:World} {H:Hp} {h:Heap} {n:Nat} {a:Addr} (x:sstP n a h):c7 P w H h a (.ext (sstP n a)):=by
 refine ⟨x,?_,fun h1 h2 y k=>?_⟩
 · obtain ⟨o,_,_,_,q,_⟩:=x
   exact ⟨o,q⟩
 · obtain ⟨o,es,ep,tb,q,r⟩:=y
   exact ⟨o,es,ep,tb,k o q,r⟩
theorem af6 (hc:X.calm = true):rK X (.type "set") (fun xs H Q=>∃ (q:Addr) (ss:List Str),xs = [.ref q]∧SqL X.K H q (ss.map V.str)∧ss.length ≤ 1000∧∀ z,H z = none→Q (.ref z) (upd H z (.ext (sstP (qw [] ss).length z)))):=by
 intro pins s σ H xs us Q I r h
 obtain ⟨q,ss,rfl,hq,hz,k⟩:=h
 obtain ⟨u,rfl,rx⟩:=vals1 r
 cases rx
 obtain ⟨its,r',pl,_⟩:=I.list hq
 have hl:=r'.length
 rw [List.length_map] at hl
 refine UL (ss:=ss) (I.ok.hd hc) pl.isList (by simpa using hl.symm) (fun i v hv=>?_) (by unfold scanBound; omega) fun h' tk hS kp=>?_
 · have hv:its[i]? = some v:=by simpa using hv
   have lt:i < its.length:=(List.getElem?_eq_some_iff.mp hv).1
   have:(ss.map V.str)[i]? = some (V.str ss[i]):=by rw [List.getElem?_map,List.getElem?_eq_getElem (by omega)]; rfl
   obtain ⟨u,hu,ru⟩:=r'.get this
   rw [hv] at hu
   cases hu
   obtain ⟨t,rfl⟩:=ru
   exact ⟨_,t,List.getElem?_eq_getElem (by omega),rfl⟩
 · obtain ⟨ob,es,ep,tb,h1,h2,h3,_,_,_,h4,h5⟩:=hS
   exact ⟨.ref s.heap.objs.size,_,I.laid (t':=tk) kp (Nat.le_refl _) (sst_ok ⟨ob,es,ep,tb,h1,h2,h3,h4,h5⟩),rfl,k _ (I.hok.fresh (Nat.le_refl _))⟩
theorem af5:rK X (.builtin "len") (fun xs H Q=>∃ (z:Addr) (n:Nat),xs = [.ref z]∧H z = some (.ext (sstP n z))∧n ≤ 1000∧Q (.int n) H):=by
 intro pins s σ H xs us Q I r h
 obtain ⟨z,n,rfl,hz,hn,k⟩:=h
 obtain ⟨u,rfl,rx⟩:=vals1 r
 cases rx
 obtain ⟨⟨ob,es,ep,tb,h1,h2,h3,h4,h5⟩,_,_⟩:=I.hok z _ hz
 refine call_len_set h1 h2 h3 h4 (by omega) ⟨.int n,H,I.tok _,⟨s.toks + 1,by rw [h5]⟩,k⟩
def R4:D→Option D:=fun d=>(qX d).bind fun ds=>(M8 ds).bind fun ss=>if ss.length ≤ 1000 then some (.int (qw [] ss).length) else none
theorem aiH (hc:X.calm = true) (hg:Gl X "len") (hm:X.mg "len" = none) (hg2:Gl X "set") (hm2:X.mg "set" = none) (ha:DE X Γ E a fa) (hs:starEach [a] X.env = [(false,eval a X.env)]:=by rfl) (hs2:starEach [.Call (.Name "set" p2) [a] [] pos2] X.env = [(false,eval (.Call (.Name "set" p2) [a] [] pos2) X.env)]:=by rfl) :
   DE X Γ E (.Call (.Name "len" p) [.Call (.Name "set" p2) [a] [] pos2] [] pos) (o1 R4 fa) :=
 PE.imp (Jw af5 hg hm PySem.boot_len (bK (Dt (af6 hc) hg2 hm2 (by decide +kernel) (bK ha eG (by rw [hs]; rfl)) (by decide) (by decide) (by rw [hs]; rfl) (by rfl)) eG (by rw [hs2]; rfl)) (by decide) (by decide) (by rw [hs2]; rfl) (by rfl)) fun σ H Q ⟨G0,H0,G,δ,S,w⟩=>by
   refine ⟨G0,H0,G,δ,S,(au w).mono (fun d w v G1 H1 s1 r1=>?_) fun _ k=>k⟩
   obtain ⟨r,e,k⟩:=bJ w
   unfold R4 at e
   obtain ⟨ds,e1,e2⟩:=Option.bind_eq_some_iff.mp e
   obtain ⟨ss,e3,e4⟩:=Option.bind_eq_some_iff.mp e2
   split at e4
   · rename_i hz
     cases e4
     obtain ⟨q,vs,rfl,sq,ra⟩:=r1.qX e1
     have ev:=ra.strs e3
     subst ev
     have hn:=R9 ss []
     exact ⟨q,ss,rfl,s1.gh.seq sq,hz,fun z hz0=>⟨z,_,rfl,aG,by simp at hn; omega,k _ G1 _ (s1.trans (.aside s1.gh hz0)) (.int _)⟩⟩
   · cases e4
end
end DL
namespace DL
open PySem PySem.Spec PyProof.Rows MX L2
mutual
def noL:D→Bool
 | .non=>true
 | .bl _=>true
 | .int _=>true
 | .str _=>true
 | .ty _=>true
 | .cls _=>true
 | .tup xs=>noLs xs
 | .obj _ fs=>noLf fs
 | _=>false
def noLs:List D→Bool
 | []=>true
 | d :: r=>noL d && noLs r
def noLf:List (Str × D)→Bool
 | []=>true
 | (_,d) :: r=>noL d && noLf r
end
def lendO:HO→Bool
 | .lst _=>true
 | .dK _=>true
 | _=>false
section
variable {K:PySem.W.Frag} {Γ:Nat→Option Addr} {G1 G2:Hp}
mutual
theorem Rep.less (e:∀ b o,G1 b = some o→lendO o = false→G2 b = some o):∀ {v:V} {d:D},Rep K Γ G1 v d→noL d = true→Rep K Γ G2 v d
 | _,_,.non,_=>.non
 | _,_,.bl b,_=>.bl b
 | _,_,.int i,_=>.int i
 | _,_,.str x,_=>.str x
 | _,_,.ty n,_=>.ty n
 | _,_,.cls h,_=>.cls h
 | _,_,.tup h r,q=>.tup (e _ _ h rfl) (aB.less e r (by simpa [noL] using q))
 | _,_,.obj h g r,q=>.obj (e _ _ h rfl) g (mG.less e r (by simpa [noL] using q))
 | _,_,.lst _ _,q=>by simp [noL] at q
 | _,_,.rol _ _,q=>by simp [noL] at q
 | _,_,.rot _ _,q=>by simp [noL] at q
 | _,_,.dK _ _,q=>by simp [noL] at q
 | _,_,.dT _ _,q=>by simp [noL] at q
 | _,_,.e0 _ _,q=>by simp [noL] at q
 | _,_,.e1 _ _ _ _,q=>by simp [noL] at q
theorem aB.less (e:∀ b o,G1 b = some o→lendO o = false→G2 b = some o):∀ {v:List V} {d:List D},aB K Γ G1 v d→noLs d = true→aB K Γ G2 v d
 | _,_,.nil,_=>.nil
 | _,_,.cons h r,q=>by
   simp only [noLs,Bool.and_eq_true] at q
   exact .cons (Rep.less e h q.1) (aB.less e r q.2)
theorem mG.less (e:∀ b o,G1 b = some o→lendO o = false→G2 b = some o):∀ {v:List (Str × V)} {d:List (Str × D)},mG K Γ G1 v d→noLf d = true→mG K Γ G2 v d
 | _,_,.nil,_=>.nil
 | _,_,.cons h r,q=>by
   simp only [noLf,Bool.and_eq_true] at q
   exact .cons (Rep.less e h q.1) (mG.less e r q.2)
end
end
section
variable {K:PySem.W.Frag} {Γ:Nat→Option Addr} {G0 H0 G H:Hp} {σ:L2.St} {δ:DSt}
end
section
variable {X:Cx} {Γ:Nat→Option Addr} {E:XK} {e:Expr}
end
end DL
namespace DL
open PySem PySem.Spec PyProof.Rows MX L2
def keyD:D→Option Key
 | .int i=>some (.inl i)
 | .str x=>some (.inr x)
 | _=>none
def hasK (kvs:List (Key × D)) (k:Key):Bool:=kvs.any fun kv=>decide (kv.1 = k)
def CK (kvs:List (Key × D)) (k:Key) (v:D):List (Key × D) :=
 if (kvs.any fun kv=>decide (kv.1 = k)) = true then kvs.map (fun kv=>if kv.1 = k then (kv.1,v) else kv) else kvs ++ [(k,v)]
section
variable {X:Cx} {Γ:Nat→Option Addr} {E:XK} {e a b c:Expr} {pos:Pos} {es:List Expr} {fa fb:DSt→Out D} {fr:DSt→Out (List D)} {ft:DSt→Out Bool} {K:PySem.W.Frag} {G H:Hp}
theorem Rep.key {v:V} {d:D} {k:Key} (r:Rep K Γ G v d) (e:keyD d = some k):v = kV k:=by
 cases r <;> simp only [keyD] at e <;> cases e <;> rfl
theorem gR.any {k:Key}:∀ {kvs:List (Key × V)} {kds:List (Key × D)},gR K Γ G kvs kds→(kvs.any fun kv=>decide (kv.1 = k)) = (kds.any fun kv=>decide (kv.1 = k))
 | _,_,.nil=>rfl
 | _,_,.cons h r=>by rw [List.any_cons,List.any_cons,r.any]
theorem gR.snoc {k:Key} {v:V} {d:D} (h:Rep K Γ G v d):∀ {kvs:List (Key × V)} {kds:List (Key × D)},gR K Γ G kvs kds→gR K Γ G (kvs ++ [(k,v)]) (kds ++ [(k,d)])
 | _,_,.nil=>.cons h .nil
 | _,_,.cons h' r=>.cons h' (r.snoc h)
theorem gR.repl {k:Key} {v:V} {d:D} (h:Rep K Γ G v d):∀ {kvs:List (Key × V)} {kds:List (Key × D)},gR K Γ G kvs kds→gR K Γ G (kvs.map fun kv=>if kv.1 = k then (kv.1,v) else kv) (kds.map fun kv=>if kv.1 = k then (kv.1,d) else kv)
 | _,_,.nil=>.nil
 | _,_,.cons (k:=k') h' r=>by
   rw [List.map_cons,List.map_cons]
   by_cases z:k' = k
   · simp only [z,if_true]; exact .cons h (r.repl h)
   · simp only [z,if_false]; exact .cons h' (r.repl h)
theorem gR.put {k:Key} {v:V} {d:D} (h:Rep K Γ G v d) {kvs:List (Key × V)} {kds:List (Key × D)} (r:gR K Γ G kvs kds):gR K Γ G (putK kvs k v) (CK kds k d):=by
 unfold putK CK
 rw [r.any]
 split
 · exact r.repl h
 · exact r.snoc h
theorem gR.length:∀ {kvs:List (Key × V)} {kds:List (Key × D)},gR K Γ G kvs kds→kvs.length = kds.length
 | _,_,.nil=>rfl
 | _,_,.cons _ r=>by rw [List.length_cons,List.length_cons,r.length]
theorem gR.has {k:Key} {kvs:List (Key × V)} {kds:List (Key × D)} (r:gR K Γ G kvs kds):(Hh kvs k).isSome = hasK kds k:=by
 unfold hasK
 rw [← Ue,r.any]
end
end DL
namespace DL
open PySem PySem.Spec PyProof.Rows MX L2
theorem bj {X:Cx} {E:XK}:jR CX0 X E:=fun _ _ _ _ _ _ _ h=>h.elim
def dkOf (i:Nat) (δ:DSt):Option (List (Key × D)):=match δ[i]? with
 | some (some (.od kvs))=>some kvs
 | some (some (.sh (.dK kvs)))=>some kvs
 | _=>none
def vI (kvs:List (Key × D)) (k:Key):Option D:=(kvs.find? fun kv=>decide (kv.1 = k)).map (·.2)
section
variable {X:Cx} {Γ:Nat→Option Addr} {E:XK} {e a b c:Expr} {pos:Pos} {es:List Expr} {fa fb:DSt→Out D} {fr:DSt→Out (List D)} {ft:DSt→Out Bool} {K:PySem.W.Frag} {G H:Hp}
theorem gR.get {k:Key}:∀ {kvs:List (Key × V)} {kds:List (Key × D)},gR K Γ G kvs kds→(Hh kvs k = none∧vI kds k = none) ∨ ∃ v d,Hh kvs k = some v∧vI kds k = some d∧Rep K Γ G v d
 | _,_,.nil=>.inl ⟨rfl,rfl⟩
 | _,_,.cons (k:=k') (v:=v) (d:=d) (fds:=fds) h r=>by
   by_cases z:k' = k
   · exact .inr ⟨v,d,JQ z,by simp [vI,List.find?_cons,z],h⟩
   · rw [JP (p:=(k',v)) z,show vI ((k',d) :: fds) k = vI fds k by simp [vI,List.find?_cons,z]]
     exact r.get
theorem SR.dk {G0 H0:Hp} {σ:L2.St} {δ:DSt} {i:Nat} {kds:List (Key × D)} (S:SR K Γ G0 H0 G H σ δ) (e:dkOf i δ = some kds):∃ a vs,σ[i]? = some (some (.ref a))∧H a = some (.dK vs)∧gR K Γ G vs kds:=by
 obtain ⟨O,q⟩:=S.sl
 unfold dkOf at e
 split at e
 · rename_i kvs ei
   cases e
   obtain ⟨v,hv,a,vs,ev,h1,h2,h3,h4,h5⟩:=q i _ ei
   subst ev
   exact ⟨a,vs,hv,h1,h5⟩
 · rename_i kvs ei
   cases e
   obtain ⟨v,hv,h⟩:=q i _ ei
   have h:Rep K Γ G v (.dK kds):=h
   cases h with
   | dK h' r=>exact ⟨_,_,hv,S.st.gh _ _ h',r⟩
 · cases e
end
section
variable {X:Cx} {Γ:Nat→Option Addr} {E:XK} {e:Expr} {K:PySem.W.Frag}
end
end DL
namespace DL
open PySem PySem.Spec PyProof.Rows MX L2
section
variable {X:Cx} {Γ:Nat→Option Addr} {E:XK} {e a b c o:Expr} {pos p:Pos} {es:List Expr} {fa fb fo:DSt→Out D} {K:PySem.W.Frag} {G H:Hp}
def GX:List D→Option (List (Key × D))
 | []=>some []
 | .tup [k,v] :: r=>match keyD k,GX r with
   | some k,some ps=>some ((k,v) :: ps)
   | _,_=>none
 | _=>none
def abo (ps:List (Key × D)):List (Key × D):=ps.foldl (fun acc p=>CK acc p.1 p.2) []
theorem aB.pairs:∀ {vs:List V} {ds:List D} {ps:List (Key × D)},aB K Γ G vs ds→GX ds = some ps →
   ∃ (ts:List Addr) (pv:List (Key × V)),vs = ts.map V.ref∧ts.length = pv.length∧(∀ (j:Nat) (t:Addr) (p:Key × V),ts[j]? = some t→pv[j]? = some p→G t = some (.tup [kV p.1,p.2]))∧gR K Γ G pv ps
 | _,_,_,.nil,e=>by
   simp only [GX] at e
   cases e
   exact ⟨[],[],rfl,rfl,fun j t p h=>by simp at h,.nil⟩
 | _,_,_,.cons (v:=v) (d:=d) (ds:=ds) h r,e=>by
   unfold GX at e
   split at e
   · rename_i z; cases z
   · rename_i k u r' z
     cases z
     split at e
     · rename_i key ps ek ep
       cases e
       obtain ⟨ts,pv,e1,e2,e3,e4⟩:=aB.pairs r ep
       cases h with
       | tup hG hr =>
         cases hr with
         | cons h1 hr=>cases hr with
           | cons h2 hr =>
             cases hr
             have:=h1.key ek
             subst this
             refine ⟨_ :: ts,(key,_) :: pv,by rw [List.map_cons,e1],by simp [e2],fun j t p a1 a2=>?_,.cons h2 e4⟩
             cases j with
             | zero=>cases a1; cases a2; exact hG
             | succ j=>exact e3 j t p a1 a2
     · cases e
   · cases e
theorem gR.abo:∀ {ps:List (Key × V)} {qs:List (Key × D)} {kvs:List (Key × V)} {kds:List (Key × D)},gR K Γ G ps qs→gR K Γ G kvs kds→gR K Γ G (vZ kvs ps) (qs.foldl (fun acc p=>CK acc p.1 p.2) kds)
 | _,_,_,_,.nil,h=>h
 | _,_,kvs,kds,.cons (k:=kk) (v:=v) (d:=d) (fs:=fs) (fds:=fds) h r,k=>by
   show gR K Γ G (vZ (putK kvs kk v) fs) (fds.foldl (fun acc p=>CK acc p.1 p.2) (CK kds kk d))
   exact gR.abo r (gR.put h k)
def XH:D→Option D:=fun x=>(qX x).bind fun ds=>(GX ds).map fun ps=>.dK (abo ps)
theorem aiG (hc:X.calm = true) (hg:Gl X "dict") (hm:X.mg "dict" = none) (ha:DE X Γ E a fa) (hs:starEach [a] X.env = [(false,eval a X.env)]:=by rfl):DE X Γ E (.Call (.Name "dict" p) [a] [] pos) (oC (Le XH) (aj fa aA)) :=
 dC (fun G H vs ds d Q s r e k=>by
   cases r with
   | nil=>cases e
   | cons r1 r2 =>
     cases r2 with
     | cons _ _=>cases e
     | nil =>
       unfold XH at e
       obtain ⟨xs,e1,e2⟩:=Option.bind_eq_some_iff.mp e
       obtain ⟨ps,e3,rfl⟩:=Option.map_eq_some_iff.mp e2
       obtain ⟨a,vs,rfl,sq,ra⟩:=r1.qX e1
       obtain ⟨ts,pv,rfl,el,ht,rk⟩:=ra.pairs e3
       exact ⟨a,ts,pv,rfl,s.seq sq,el,fun j t p a1 a2=>SqT.of (s _ _ (ht j t p a1 a2)),fun l hl=>k _ _ _ (.new s hl) (.dK aG ((gR.abo rk .nil).mono (bz.up (aJ s hl))))⟩) (Dt (Zo hc) hg hm (by decide +kernel) (ao ha aH (by rw [hs]; rfl)) (by decide) (by decide) (by rw [hs]; rfl) (by rfl))
def Ra (i:Nat) (fk:DSt→Out D):DSt→Out D:=fun δ=>match dkOf i δ with
 | some kvs=>(fk δ).bind fun k=>match k with
   | .non=>.ok .non
   | k=>match keyD k with
     | some key=>.ok ((vI kvs key).getD .non)
     | none=>.stuck
 | none=>.stuck
theorem aiF (i:Nat) {x:Str} {p apos cpos:Pos} (hu:X.A.units + 64 < cLine) (hv:PE X (.Name x p) (CT i)) (ha:DE X Γ E a fa) (m:M1 X (.Name x p) "get" apos a cpos):DE X Γ E (.Call (.Attribute (.Name x p) "get" apos) [a] [] cpos) (Ra i fa) :=
 PE.imp (ajb (by omega) hv ha m) fun σ H Q ⟨G0,H0,G,δ,S,w⟩=>by
   unfold Ra at w
   split at w
   · rename_i kds ek
     obtain ⟨aa,vs,hvi,h1,r⟩:=S.dk ek
     refine ⟨_,hvi,aa,rfl,.inl ⟨vs,.inl h1⟩,G0,H0,G,δ,S,(au w).mono (fun d w u G1 H1 s1 r1=>?_) fun _ k=>k⟩
     split at w
     · cases r1
       exact .inl ⟨rfl,⟨vs,.inl (s1.hh _ _ h1)⟩,w _ G1 H1 s1 .non⟩
     · split at w
       · rename_i key ekey
         have e:=r1.key ekey
         subst e
         rcases (r.mono s1.gg).get (k:=key) with ⟨z1,z2⟩ | ⟨v,d',z1,z2,z3⟩
         · refine .inr ⟨_,DGet.k (s1.hh _ _ h1),?_⟩
           rw [z1]
           rw [z2] at w
           exact w _ G1 H1 s1 .non
         · refine .inr ⟨_,DGet.k (s1.hh _ _ h1),?_⟩
           rw [z1]
           rw [z2] at w
           exact w _ G1 H1 s1 z3
       · exact False.elim w
   · exact False.elim w
def rIdx (K:PySem.W.Frag):V→List V→Hp→VK→Prop:=fun x vs H Q=>∃ (l:Addr) (is:List Int) (i:Int) (j:Nat),x = .ref l∧vs = [.int i]∧SqL K H l (is.map V.int)∧is[j]? = some i∧(∀ m,m < j→is[m]? ≠ some i)∧Q (.int j) H
def eqI (i:Int):Value→Bool
 | .int k _=>k == i
 | _=>false
theorem mt_index:MtR X "list.index" (rIdx X.K):=by
 intro pins s σ H x vs v us Q I rx rv h
 obtain ⟨l,is,i,j,rfl,rfl,hq,hj,hn,k⟩:=h
 cases rx
 obtain ⟨u,rfl,ru⟩:=rv.one
 obtain ⟨t,rfl⟩:=ru
 obtain ⟨its,r',pl,hz⟩:=I.list hq
 obtain ⟨ob,n0,ho,hcls,hdict,hdat⟩:=pl
 obtain ⟨c,dd,dat,sl⟩:=ob
 simp only at hcls hdict hdat
 subst hcls hdict hdat
 have gi:∀ (m:Nat) (w:Value),its[m]? = some w→∃ k t,is[m]? = some k∧w = Value.int k t:=fun m w e=>by
   cases hm:is[m]? with
   | none =>
     have l1:is.length ≤ m:=List.getElem?_eq_none_iff.mp hm
     have l2:=(List.getElem?_eq_some_iff.mp e).1
     have:=r'.length
     rw [List.length_map] at this
     omega
   | some k =>
     obtain ⟨u,e1,t,e2⟩:=r'.get (i:=m) (x:=V.int k) (by rw [List.getElem?_map,hm]; rfl)
     rw [e] at e1
     cases e1
     exact ⟨k,t,rfl,e2⟩
 have lj:j < its.length:=by
   have:=r'.length
   rw [List.length_map] at this
   have:=(List.getElem?_eq_some_iff.mp hj).1
   omega
 rw [List.length_map] at hz
 have zl:its.length ≤ sizeLine:=by have:=r'.length; rw [List.length_map] at this; omega
 refine call_meets PySem.F.slot_list_index ⟨_,ho,rfl⟩ PySem.F.entry_list_index (PySem.F.args_list_index_2 _ _) (SeqAt.list_indexAt l its.toArray n0 none sl (.int i t) (eqI i) j (by simpa using lj) (by rw [sizeLine_eq] at zl; omega) ?_ ?_) ⟨ho,fun y hy=>?_,?_⟩
 · obtain ⟨k,t',e1,e2⟩:=gi j _ (List.getElem?_eq_getElem lj)
   rw [hj] at e1
   cases e1
   show eqI i its[j] = true
   rw [e2]
   simp [eqI]
 · intro m hm h2
   have lm:m < its.length:=by simpa using hm
   obtain ⟨k,t',e1,e2⟩:=gi m _ (List.getElem?_eq_getElem lm)
   show eqI i its[m] = false
   rw [e2]
   show (k == i) = false
   rw [beq_eq_false_iff_ne]
   exact fun z=>hn m h2 (by rw [e1,z])
 · obtain ⟨m,hm,rfl⟩:=List.getElem_of_mem (show y ∈ its by simpa using hy)
   obtain ⟨k,t',e1,e2⟩:=gi m _ (List.getElem?_eq_getElem hm)
   rw [e2]
   exact SeqAt.EqAt.int_int k t' i t
 · exact ⟨.int j,H,I.tok _,⟨_,rfl⟩,k⟩
def RK:List D→Option (List Int)
 | []=>some []
 | .int x :: r=>(RK r).map (x :: ·)
 | _=>none
theorem aB.ints:∀ {vs:List V} {ds:List D} {ss:List Int},aB K Γ H vs ds→RK ds = some ss→vs = ss.map V.int
 | _,_,_,.nil,e=>by simp only [RK] at e; cases e; rfl
 | _,_,_,.cons (d:=d) (ds:=ds) h r,e=>by
   unfold RK at e
   split at e
   · rename_i z; cases z
   · rename_i z
     cases z
     obtain ⟨q,e1,rfl⟩:=Option.map_eq_some_iff.mp e
     cases h
     rw [aB.ints r e1]; rfl
   · cases e
def fstI (i:Int):List Int→Nat→Option Nat
 | [],_=>none
 | x :: r,k=>if x = i then some k else fstI i r (k + 1)
theorem X4 {i:Int}:∀ {l:List Int} {k j:Nat},fstI i l k = some j→k ≤ j∧l[j - k]? = some i∧∀ m,m < j - k→l[m]? ≠ some i
 | [],_,_,h=>by cases h
 | x :: r,k,j,h=>by
   unfold fstI at h
   split at h
   · rename_i z
     cases h
     exact ⟨Nat.le_refl _,by rw [Nat.sub_self,z]; rfl,fun m hm=>by omega⟩
   · rename_i z
     obtain ⟨h1,h2,h3⟩:=X4 h
     refine ⟨by omega,?_,fun m hm=>?_⟩
     · rw [show j - k = (j - (k + 1)) + 1 by omega]
       exact h2
     · cases m with
       | zero=>exact fun q=>z (Option.some.inj q)
       | succ m=>exact h3 m (by omega)
def idxD (d x:D):Option D:=match x with
 | .int i=>(qX d).bind fun ds=>(RK ds).bind fun is=>(fstI i is 0).map fun j=>.int (j:Nat)
 | _=>none
def isLst:D→Bool
 | .lst _=>true
 | .rol _=>true
 | _=>false
def oIdx (fo fa:DSt→Out D):DSt→Out D:=fun δ=>(fo δ).bind fun d=>if isLst d = true then (fa δ).bind fun y=>.opt (idxD d y) else .stuck
theorem Rep.listTy {v:V} {d:D} (r:Rep X.K Γ G v d) (h:isLst d = true) (s:bz G H):tyV X.K "list" v H:=by
 obtain ⟨ds,e⟩:∃ ds,DL.qX d = some ds:=by cases d <;> first | exact ⟨_,rfl⟩ | cases h
 obtain ⟨a,vs,rfl,sq,_⟩:=r.qX e
 exact .inl ⟨rfl,_,s.seq sq⟩
theorem de_index {apos cpos:Pos} {m:Str} (ho:DE X Γ E o fo) (ha:DE X Γ E a fa) (hh:∀ {to te:TE},PE X o to→PE X a te→PE X (.Call (.Attribute o m apos) [a] [] cpos) (tBM X.K "list" (rIdx X.K) to (wO te DR))):DE X Γ E (.Call (.Attribute o m apos) [a] [] cpos) (oIdx fo fa):=PE.imp (hh ho ha) fun σ H Q ⟨G0,H0,G,δ,S,w⟩=>by
 refine ⟨G0,H0,G,δ,S,(au w).mono (fun d w v G1 H1 s1 r1=>?_) fun _ k=>k⟩
 split at w
 · rename_i hL
   refine ⟨r1.listTy hL s1.gh,G0,H0,G1,δ,S.step s1,(au w).mono (fun y w u G2 H2 s2 r2=>?_) fun _ k=>k.step s1⟩
   obtain ⟨r,e,k⟩:=bJ w
   unfold idxD at e
   split at e
   · rename_i i
     obtain ⟨ds,e1,e2⟩:=Option.bind_eq_some_iff.mp e
     obtain ⟨is,e3,e4⟩:=Option.bind_eq_some_iff.mp e2
     obtain ⟨j,e5,rfl⟩:=Option.map_eq_some_iff.mp e4
     obtain ⟨q,vs,rfl,sq,ra⟩:=r1.qX e1
     obtain ⟨_,f1,f2⟩:=X4 e5
     rw [Nat.sub_zero] at f1 f2
     cases r2
     exact ⟨q,is,i,j,rfl,rfl,(ra.ints e3) ▸ s2.gh.seq (s2.gg.seq sq),f1,f2,k _ G2 H2 (s1.trans s2) (.int _)⟩
   · cases e
 · exact False.elim w
end
end DL
namespace DL
open PySem PySem.Spec PyProof.Rows MX L2
section
variable {M:Model} {A:Around} {E:Value→Shared→Prop} {s:Shared}
structure Sta (fs:List Addr) (e:Addr) (oe:Obj) (vs:Array Value) (tb:Option Addr) (h h':Heap):Prop where
 keep:∀ b o,b ∉ fs→b ≠ e→some b ≠ tb→h.get? b = some o→h'.get? b = some o
 slot:∀ b o,b ≠ e→some b ≠ tb→h.get? b = some o→∃ sl,h'.get? b = some { o with slots:=sl }
 new:∃ T oT ts,h.objs.size ≤ T∧T ≠ e∧h'.get? e = some { oe with data:=.fields (vs.setIfInBounds 1 (.ref T)) }∧h'.get? T = some oT∧oT.data = .fields ts∧ts[3]? = some .none
theorem XJ {base:Heap} {env:Env} {outer:List Env} {L e:Addr} {oe:Obj} {vs:Array Value} {hd:Value} {nx:Bool} {Q:Unit→Shared→Prop}
   (fr:A.frames = some (env :: outer)) (ff:s.heap.FunFrames base (env :: outer)) (fL:env.frame = some L) (ge:s.heap.get? e = some oe) (de:oe.data = .fields vs) (sz:1 < vs.size)
   (k:∀ h',Sta (frs (env :: outer)) e oe vs none s.heap h'→Q () { s with heap:=h' }) :
   wpAny M A (do let a ← frameOf env; let pl ← entryPlaceOf L nx; let b ← EntryCells.newEntry hd a .none (rawInt L) .none pl; setField (.ref e) 1 b) (fun _ s2=>wpAny M A (setFlight (.ref e) none) Q E s2) E s:=by
 have ne:e ∉ frs (env :: outer):=fun z=>by
   obtain ⟨_,o,q1,q2⟩:=ff.mem z
   rw [ge] at q1
   cases q1
   exact q2 vs de
 refine wpAny_bind (wpAny_frameOf_fun fr ff fL fun h1 so=>wpAny_bind (wpAny_entryPlaceOf fun pl hp=>?_))
 unfold EntryCells.newEntry newFields
 refine wpAny_bind (wpAny_newObj_type ?_ (hp.sizeOk5 _ _ _ _ _))
 have g1:h1.get? e = some oe:=(so.2.1 e ne).trans ge
 generalize hoT:({ cls:=.type "traceback",dict:=none,data:=.fields ([hd,.ref L,.none,rawInt L,.none] ++ (if pl.isEmpty then List.replicate 6 Value.none else pl)).toArray }:Obj) = oT0
 have g2:=Heap.get?_push_of_some (h:=h1) oT0 g1
 refine wpAny_setField g2 de sz ?_
 have nT:h1.objs.size ≠ e:=fun z=>absurd (Heap.lt_size g1) (by rw [z]; exact Nat.lt_irrefl _)
 have d3:=Obj.data_mapFields de (·.setIfInBounds 1 (Value.ref h1.objs.size))
 have g3:=Heap.get?_update_self (Obj.mapFields (·.setIfInBounds 1 (Value.ref h1.objs.size))) g2 (Obj.isFreed_of_fields d3)
 have dT:oT0.data = .fields ([hd,.ref L,.none,rawInt L,.none] ++ (if pl.isEmpty then List.replicate 6 Value.none else pl)).toArray:=by rw [← hoT]
 have fT:oT0.isFreed = false:=Obj.isFreed_of_fields dT
 have t3:=(Heap.get?_update_other (h1.push oT0) (Obj.mapFields (·.setIfInBounds 1 (Value.ref h1.objs.size))) (Ne.symm nT)).trans (Heap.get?_push_size h1 fT)
 unfold setFlight
 refine wpAny_bind (wpAny_field g3 d3 (x:=.ref h1.objs.size) (by simp [sz]) ?_)
 rw [if_pos (show (Value.ref h1.objs.size != Value.none) = true by simp)]
 refine wpAny_setField t3 dT (by simp only [List.size_toArray,List.length_append,List.length_cons,List.length_nil] <;> omega) (k _ ?_)
 have kp:∀ b o,b ≠ e→h1.get? b = some o→(((h1.push oT0).update e (Obj.mapFields (·.setIfInBounds 1 (Value.ref h1.objs.size)))).update h1.objs.size (Obj.mapFields (·.setIfInBounds 3 ((none:Option Addr).elim Value.none fun f=>rawInt f)))).get? b = some o:=fun b o hb q=>by
   have nb:h1.objs.size ≠ b:=fun z=>absurd (Heap.lt_size q) (by rw [← z]; exact Nat.lt_irrefl _)
   rw [Heap.get?_update_other _ _ nb,Heap.get?_update_other _ _ (Ne.symm hb)]
   exact Heap.get?_push_of_some _ q
 refine ⟨fun b o hb he _ q=>kp b o he ((so.2.1 b hb).trans q),fun b o he _ q=>?_,h1.objs.size,_,_,?_,nT,?_,Heap.get?_update_self _ t3 (Obj.isFreed_of_fields (Obj.data_mapFields dT _)),Obj.data_mapFields dT _,?_⟩
 · obtain ⟨sl,q1⟩:=so.2.2 b o q
   exact ⟨sl,kp b _ he q1⟩
 · rw [so.1]; exact Nat.le_refl _
 · rw [Heap.get?_update_other _ _ nT,g3]
   obtain ⟨oc,od,odt,osl⟩:=oe
   cases de
   rfl
 · first | (simp; done) | (rcases hp with rfl | ⟨_,_,_,_,_,_,_,rfl⟩ <;> simp)
def TbOk (h:Heap) (e:Addr) (vs:Array Value):Option Addr→Prop
 | none=>vs[1]? = some .none
 | some T=>vs[1]? = some (.ref T)∧T ≠ e∧∃ oT ts,h.get? T = some oT∧oT.data = .fields ts∧ts[3]? = some .none
theorem R8 {base:Heap} {env:Env} {outer:List Env} {L e:Addr} {oe:Obj} {vs:Array Value} {tb:Option Addr} {Q:Unit→Shared→Prop}
   (fr:A.frames = some (env :: outer)) (ff:s.heap.FunFrames base (env :: outer)) (fL:env.frame = some L) (ge:s.heap.get? e = some oe) (de:oe.data = .fields vs) (ht:TbOk s.heap e vs tb)
   (k:∀ h',Sta (frs (env :: outer)) e oe vs tb s.heap h'→Q () { s with heap:=h' }) :
   wpAny M A (noteFrame (.ref e) env) (fun _ s2=>wpAny M A (setFlight (.ref e) none) Q E s2) E s:=by
 unfold noteFrame
 simp only [fL]
 cases tb with
 | none =>
   refine wpAny_bind (wpAny_field ge de ht ?_)
   rw [if_neg (by decide)]
   exact XJ fr ff fL ge de (Array.getElem?_eq_some_iff.mp ht).1 k
 | some T =>
   obtain ⟨h1,nT,oT,ts,gT,dT,h3⟩:=ht
   refine wpAny_bind (wpAny_field ge de h1 ?_)
   rw [if_pos (show (Value.ref T != Value.none) = true by simp)]
   refine wpAny_bind (wpAny_field gT dT h3 ?_)
   rw [if_neg (show ¬ ((Value.none == rawInt L) = true) by simp [rawInt])]
   refine wpAny_bind (wpAny_setField gT dT (Array.getElem?_eq_some_iff.mp h3).1 ?_)
   have ot:∀ b,b ≠ T→(s.heap.update T (Obj.mapFields (·.setIfInBounds 3 Value.none))).get? b = s.heap.get? b:=fun b hb=>Heap.get?_update_other _ _ (Ne.symm hb)
   have nr:∀ b o,s.heap.get? b = some o→(∀ ws,o.data ≠ .fields ws)→b ≠ T:=fun b o q hn z=>by
     rw [z,gT] at q
     cases q
     exact hn ts dT
   refine XJ (s:={ s with heap:=s.heap.update T (Obj.mapFields (·.setIfInBounds 3 Value.none)) }) fr (ff.of_keeps fun b o q hn=>⟨o,(ot b (nr b o q hn)).trans q,rfl⟩) fL ((ot e (Ne.symm nT)).trans ge) de (Array.getElem?_eq_some_iff.mp h1).1 fun h' S=>k h' ?_
   refine ⟨fun b o hb he ht q=>S.keep b o hb he (by simp) ((ot b (fun z=>ht (by rw [z]))).trans q),fun b o he ht q=>S.slot b o he (by simp) ((ot b (fun z=>ht (by rw [z]))).trans q),?_⟩
   obtain ⟨T2,o2,t2,q1,q2,q3,q4,q5,q6⟩:=S.new
   refine ⟨T2,o2,t2,?_,q2,q3,q4,q5,q6⟩
   rw [← Heap.size_update s.heap T (Obj.mapFields (·.setIfInBounds 3 Value.none))]
   exact q1
theorem ai5 {base:Heap} {env:Env} {outer:List Env} {L e:Addr} {oe:Obj} {vs:Array Value} {tb:Option Addr} {Q:Unit→Shared→Prop}
   (fr:A.frames = some (env :: outer)) (ff:s.heap.FunFrames base (env :: outer)) (fL:env.frame = some L) (ge:s.heap.get? e = some oe) (de:oe.data = .fields vs) (ht:TbOk s.heap e vs tb)
   (k:∀ h',Sta (frs (env :: outer)) e oe vs tb s.heap h'→Q () { s with heap:=h' }):wpAny M A (leaving env (.ref e)) Q E s:=by
 unfold leaving
 exact wpAny_bind (R8 fr ff fL ge de ht k)
end
end DL
namespace DL
open PySem PySem.Spec PyProof.Rows MX L2
theorem Xd {P:Program} {w:World} {H:Hp} {h:Heap} {a:Addr} {u:HO} (ok:HOk P w H h) (q:H a = some u):∃ ob,h.get? a = some ob:=by
 have:=ok a u q
 cases u with
 | lst xs=>obtain ⟨_,_,_,_,e⟩:=this; exact ⟨_,e⟩
 | tup xs=>obtain ⟨_,_,_,ob,e,_⟩:=this; exact ⟨ob,e⟩
 | dK kvs=>obtain ⟨_,_,_,_,ob,_,_,e,_⟩:=this; exact ⟨ob,e⟩
 | dT kvs=>obtain ⟨_,_,_,_,ob,_,_,e,_⟩:=this; exact ⟨ob,e⟩
 | set S n=>obtain ⟨ob,_,_,_,e,_⟩:=this; exact ⟨ob,e⟩
 | ins C dx fs=>obtain ⟨_,_,_,e,_⟩:=this; exact ⟨_,e⟩
 | own y=>obtain ⟨ob,e⟩:=this; exact ⟨ob,e⟩
 | xd fs=>obtain ⟨_,⟨ob,_,_,e,_⟩,_⟩:=this; exact ⟨ob,e⟩
 | rng lo hi=>obtain ⟨_,_,_,e⟩:=this; exact ⟨_,e⟩
 | frz ob u=>obtain ⟨e,_⟩:=this; exact ⟨ob,e⟩
 | tbl ps=>exact ⟨_,(show h.get? a = some _ from this)⟩
 | met f y=>exact ⟨_,(show h.get? a = some _ from this)⟩
 | ext φ=>obtain ⟨_,⟨ob,e⟩,_⟩:=this; exact ⟨ob,e⟩
theorem yX {P:Program} {w:World} {H:Hp} {h:Heap} {a:Addr} (ok:HOk P w H h) (q:h.get? a = none):H a = none:=by
 cases z:H a with
 | none=>rfl
 | some u =>
   obtain ⟨ob,e⟩:=Xd ok z
   rw [q] at e
   cases e
def CX1 (P:Program) (w:World):CXT:=fun outer H s E e s'=>∃ a H' C dd o vs T,e = .ref a∧s'.os = s.os∧AllBare s'.gens∧Un (frs outer) [] H H' s.heap s'.heap∧HOk P w H' s'.heap∧H' a = some (.exc false C dd a) ∧
 s'.heap.get? a = some o∧o.data = .fields vs∧TbOk s'.heap a vs (some T)∧H' T = none∧s.heap.objs.size ≤ T∧E (.ref a) none H'
section
variable {X:Cx} {pins:List (Addr × Obj)} {σ:L2.St} {H:Hp} {s:Shared}
theorem aii {n:Bool} {a C:Addr} {dd:Option Addr} {o:Obj} {vs:Array Value} {tb:Option Addr} {h':Heap} (I:Inv X pins σ H s) (ha:H a = some (.exc n C dd a)) (g:s.heap.get? a = some o) (d:o.data = .fields vs)
   (ht:∀ T,tb = some T→H T = none) (S:Sta (frs X.stack) a o vs tb s.heap h'):HOk X.prog X.w (upd H a (.exc false C dd a)) h':=by
 obtain ⟨T2,oT,ts,q1,q2,q3,q4,q5,q6⟩:=S.new
 obtain ⟨⟨o',vs',t,e1,e2,e3,e4,e5,e6⟩,_,_⟩:=I.hok a _ ha
 rw [g] at e1
 cases e1
 rw [d] at e4
 cases e4
 intro b u e
 by_cases hb:b = a
 · subst hb
   rw [aG] at e
   cases e
   exact excP.ok ⟨_,_,t,q3,e2,e3,rfl,by rw [Array.getElem?_setIfInBounds_ne (by decide)]; exact e5,fun z=>by cases z⟩
 · rw [az hb] at e
   have nk:∀ c v,H c = some v→c ≠ a→∀ w',s.heap.get? c = some w'→h'.get? c = some w':=fun c v hc na w' z =>
     S.keep c w' (fun m=>by rw [I.adh c m] at hc; cases hc) na (fun m=>by rw [ht c m.symm] at hc; cases hc) z
   refine (I.hok b u e).stay (fun c v hc z=>?_) (fun c z=>?_) fun c xs z=>?_
   · rcases hc with rfl | hc
     · exact nk c u e hb v z
     · exact nk c _ hc (fun m=>by rw [m,ha] at hc; cases hc) v z
   · rw [az (fun m=>by rw [m,ha] at z; cases z)]; exact z
   · rw [az (fun m=>by rw [m,ha] at z; cases z)]; exact z
theorem ahZ {A':Around} {E:XK} {Ex:Value→Shared→Prop} {n:Bool} {a C:Addr} {dd:Option Addr} {o:Obj} {vs:Array Value} {tb:Option Addr} (I:Inv X pins σ H s) (fA:A'.frames = some X.stack) (hs:X.stack = X.env :: X.outer) (hf:X.env.frame = some X.env.locals) (hx:X.ex = [])
   (ha:H a = some (.exc n C dd a)) (g:s.heap.get? a = some o) (d:o.data = .fields vs) (tk:TbOk s.heap a vs tb) (ht:∀ T,tb = some T→H T = none∧X.s₀.heap.get? T = none) (k:E (.ref a) none (upd H a (.exc false C dd a))) :
   wpAny (model X.prog X.w) A' (leaving X.env (.ref a)) (fun _ s''=>CX1 X.prog X.w X.outer X.H₀ X.s₀ E (.ref a) s'') Ex s:=by
 have fr:=fA
 have ff:=I.stack
 rw [hs] at fr ff
 refine ai5 fr ff hf g d tk fun h' S=>?_
 have S':Sta (frs X.stack) a o vs tb s.heap h':=by rw [hs]; exact S
 have hk:=aii I ha g d (fun T z=>(ht T z).1) S'
 obtain ⟨T2,oT,ts,q1,q2,q3,q4,q5,q6⟩:=S.new
 obtain ⟨⟨o',vs',t,e1,e2,e3,e4,e5,e6⟩,_,_⟩:=I.hok a _ ha
 have nex:∀ b:Addr,b ∉ X.ex:=fun b z=>by rw [hx] at z; cases z
 have neL:∀ b u,X.s₀.heap.get? b = some u→b ≠ X.env.locals:=fun b u e z=>by
   have:=Heap.lt_size e
   rw [z] at this
   exact absurd (Nat.lt_of_lt_of_le this I.ok.above) (Nat.lt_irrefl _)
 have neT:∀ b u,X.s₀.heap.get? b = some u→some b ≠ tb:=fun b u e z=>by
   rw [(ht b z.symm).2] at e
   cases e
 have nfr:∀ b u,X.s₀.heap.get? b = some u→b ∉ frs X.outer→b ∉ frs (X.env :: X.outer):=fun b u e hb z=>by
   unfold frs at z hb
   rw [List.filterMap_cons,hf] at z
   rcases List.mem_cons.mp z with z | z
   · exact neL b u e z
   · exact hb z
 have T2n:H T2 = none:=yX I.hok (Heap.get?_none_of_le q1)
 have s1:1 < vs.size:=by
   cases tb with
   | none=>exact (Array.getElem?_eq_some_iff.mp (show vs[1]? = some .none from tk)).1
   | some T=>exact (Array.getElem?_eq_some_iff.mp tk.1).1
 refine ⟨a,upd H a (.exc false C dd a),C,dd,_,_,T2,rfl,I.os,I.bare,⟨fun b u e n hb _=>?_,fun b u e n hb _=>?_,fun b u e n _=>?_,fun b u e _=>?_,fun b xs e=>?_,fun b u xs e=>?_,fun b ps e=>?_⟩,hk,aG,q3,rfl,⟨by simp [s1],q2,oT,ts,q4,q5,q6⟩,by rw [az q2]; exact T2n,?_,k⟩
 · have nb:b ≠ a:=fun z=>by have:=I.base.free b u e n (nex b); rw [z,ha] at this; cases this
   exact S.keep b u (nfr b u e hb) nb (neT b u e) (I.base.keep b u e n hb (nex b))
 · have nb:b ≠ a:=fun z=>by have:=I.base.free b u e n (nex b); rw [z,ha] at this; cases this
   obtain ⟨sl,z⟩:=I.base.slot b u e n hb (nex b)
   obtain ⟨sl2,z2⟩:=S.slot b _ nb (neT b u e) z
   exact ⟨sl2,z2⟩
 · have:=I.base.free b u e n (nex b)
   rw [az (fun z=>by rw [z,ha] at this; cases this)]
   exact this
 · by_cases nb:b = a
   · rw [nb]; exact ⟨_,q3⟩
   · obtain ⟨o2,z⟩:=I.base.there b u e (nex b)
     obtain ⟨sl,z2⟩:=S.slot b _ nb (neT b u e) z
     exact ⟨_,z2⟩
 · have:=I.base.tups b xs e
   rw [az (fun z=>by rw [z,ha] at this; cases this)]
   exact this
 · have:=I.base.DK b u xs e
   rw [az (fun z=>by rw [z,ha] at this; cases this)]
   exact this
 · obtain ⟨m,this⟩:=I.base.Hd b ps e
   exact ⟨m,by rw [az (fun z=>by rw [z,ha] at this; cases this)]; exact this⟩
 · exact Nat.le_trans I.sz q1
end
section
variable {P:Program} {w:World} {K:PySem.W.Frag} {mg:Str→Option Value} {base:Heap} {N:List Str} {qual:Str} {scope:Scope} {f:Addr} {cd:Value} {A:Around} {outer:List Env} {s:Shared} {H:Hp} {E:XK}
theorem pass1:jR (CX1 P w) (Kh (CX1 P w) P w K mg base N qual scope f cd A outer s H E) E:=fun pins σ H1 s1 e s' I ⟨a,H',C,dd,o,vs,T,ee,os,bare,un,hok,ha,g,d,tk,hT,sT,k⟩=>by
 subst ee
 have J:=I.call' (ch:=[]) os un hok bare (fun b z=>by cases z)
 exact ahZ (A':=A.deeper (envOfC qual scope s.heap.objs.size f cd)) J J.ok.frames rfl rfl rfl ha g d tk (fun T' z=>by
   cases z
   refine ⟨hT,?_⟩
   exact Heap.get?_none_of_le (Nat.le_trans I.sz sT)) (by rw [JN ha]; exact k)
theorem Lf {X:Cx}:jR (CX1 P w) X E0:=fun _ _ _ _ _ _ _ ⟨_,_,_,_,_,_,_,_,_,_,_,_,_,_,_,_,_,_,k⟩=>k.elim
def Thr (X:Cx) (E:XK):Prop:=∀ (pins:List (Addr × Obj)) (σ:L2.St) (H:Hp) (s:Shared) (a C:Addr) (dd:Option Addr),Inv X pins σ H s→H a = some (.exc true C dd a)→E (.ref a) none (upd H a (.exc false C dd a))→X.xe (.ref a) s
theorem thr1:Thr (Kh (CX1 P w) P w K mg base N qual scope f cd A outer s H E) E:=fun pins σ H1 s1 a C dd I ha k=>by
 obtain ⟨⟨o,vs,t,e1,e2,e3,e4,e5,e6⟩,_,_⟩:=I.hok a _ ha
 have e6:=e6 rfl
 exact ahZ (A':=A.deeper (envOfC qual scope s.heap.objs.size f cd)) (tb:=none) I I.ok.frames rfl rfl rfl ha e1 e4 (by rw [e6]; rfl) (fun T z=>by cases z) k
end
end DL
namespace DL
open PySem PySem.Spec PyProof.Rows MX L2
section
variable {M:Model} {A:Around} {E:Value→Shared→Prop} {s:Shared} {env:Env}
variable {nm q:Str} {C N:Addr} {bs bm:List Value} {hdct:Bool} {sn:List Str} {sub:List Value} {ab:Bool} {col:Option Bool} {dd:Option Addr} {k0 k1 k2 k3 k5:Option Value} {newId:String}
theorem ahl {x:Sem Value} {Q:Flow→Shared→Prop} (hb:bm.contains (.type "BaseException") = true) (hh:A.handled = none)
   (h:wpAny M A x (fun v s1=>∃ e t od sl,v = .ref e∧s1.heap.get? C = some (excClassObj nm q C N bs bm hdct sn sub ab col dd k0 k1 k2 k3 k5 newId) ∧
     s1.heap.get? e = some ⟨.ref C,od,.fields #[.ref t,.none,.none,.none,.bool false,.none],sl⟩∧E (.ref e) s1) E s) :
   wpAny M A (raiseStmt env (some x) none) Q E s:=by
 have hc:(Value.ref C :: bm).contains (.type "BaseException") = true:=by rw [List.contains_cons,hb,Bool.or_true]
 unfold raiseStmt
 refine wpAny_bind (wpAny_mono h (fun v s1 h1=>?_) fun _ _ z=>z)
 obtain ⟨e,t,od,sl,rfl,hC,he,hE⟩:=h1
 obtain ⟨hp,g,d,tk,os⟩:=s1
 repeat (first | with_reducible refine wpAny_loadPart_at he ?_ | with_reducible refine wpAny_loadPart_at hC ?_ | (with_reducible refine wpAny_isSubtype_exc hC ?_; rw [hc]) | wp_step)
 exact wpAny_raiseNew_none hh hE
end
def tThrow (C:Addr) (E:XK) (te:TE):TS:=fun _ σ H=>te σ H fun v H1=>∃ a dd,v = .ref a∧H1 a = some (.exc true C dd a)∧E (.ref a) none (upd H1 a (.exc false C dd a))
theorem ae8 {X:Cx} {E:XK} {x:Expr} {pos:Pos} {te:TE} {C N:Addr} (hM:ExcC X.K C N) (hT:Thr X E) (hc:X.calm = true) (hx:PE X x te):PS X (.Raise (some x) none pos) (tThrow C E te):=by
 intro pins s σ H D I h
 rw [arm_exec_Raise]
 obtain ⟨nm,q,bs,bm,sn,sub,ab,col,d2,k0,k1,k2,k3,k5,lk,tl⟩:=hM.obj
 have hb:bm.contains (.type "BaseException") = true:=(PySem.W.tail_of_in I.kIn tl).hasType (by decide +kernel)
 have e1:evalOpt (some x) X.env = some (eval x X.env):=by first | rfl | (unfold evalOpt; rfl) | simp only [evalOpt]
 have e2:evalOpt none X.env = none:=by first | rfl | (unfold evalOpt; rfl) | simp only [evalOpt]
 rw [e1,e2]
 refine wpAny_bind (wpAny_standAt (ahl (nm:=nm) (q:=q) (C:=C) (N:=N) (bs:=bs) (bm:=bm) (hdct:=true) (sn:=sn) (sub:=sub) (ab:=ab) (col:=col) (dd:=d2) (k0:=k0) (k1:=k1) (k2:=k2) (k3:=k3) (k5:=k5) (newId:="ValueError.__new__") hb (I.ok.hd hc) (wpAny_bind (thn (hx pins s σ H _ I h) fun v s1 ⟨y,H1,I1,r1,a,dd,ey,ha,k⟩=>wpAny_bind (wpAny_standAt (wpAny_pure ?_))))))
 subst ey
 obtain rfl:v = Value.ref a:=r1
 obtain ⟨⟨o,vs,t,e1,e2,e3,e4,e5,e6⟩,_,_⟩:=I1.hok a _ ha
 have e6:=e6 rfl
 subst e6
 obtain ⟨oc,od,odt,osl⟩:=o
 cases e2
 cases e4
 exact ⟨a,t,od,osl,rfl,I1.kIn _ _ lk,e1,hT pins σ H1 s1 a C dd I1 ha k⟩
section
variable {X:Cx} {pins:List (Addr × Obj)} {σ:L2.St} {H:Hp} {s:Shared}
def Far (X:Cx) (pins:List (Addr × Obj)) (T:Addr):Prop:=X.s₀.heap.objs.size ≤ T∧T ≠ X.env.locals∧(∀ x c,X.env.cells.lookup x = some c→c ≠ T)∧∀ p ∈ X.pn ++ pins,p.1 ≠ T
theorem agt {T:Addr} (I:Inv X pins σ H s) (h:s.heap.objs.size ≤ T):Far X pins T:=by
 refine ⟨Nat.le_trans I.sz h,fun z=>?_,fun x c e z=>?_,fun p hp z=>?_⟩
 · have:=I.lt
   rw [← z] at this
   exact absurd (Nat.lt_of_lt_of_le this h) (Nat.lt_irrefl _)
 · obtain ⟨v,o,ho,_⟩:=I.cell x c e
   have:=Heap.lt_size ho
   rw [z] at this
   exact absurd (Nat.lt_of_lt_of_le this h) (Nat.lt_irrefl _)
 · have:=Heap.lt_size (I.pin p hp).1
   rw [z] at this
   exact absurd (Nat.lt_of_lt_of_le this h) (Nat.lt_irrefl _)
def nones (X:Cx):L2.St:=List.replicate X.N.length none
def xeT (X:Cx) (pins:List (Addr × Obj)) (E:XK):Value→Shared→Prop:=fun e s'=>∃ a H' C dd o vs T,e = .ref a∧Inv X pins (nones X) H' s'∧H' a = some (.exc false C dd a)∧s'.heap.get? a = some o∧o.data = .fields vs∧TbOk s'.heap a vs (some T)∧H' T = none∧Far X pins T∧E (.ref a) none H'
abbrev tryX (X:Cx) (pins:List (Addr × Obj)) (E:XK):Cx:={ X with pn:=X.pn ++ pins,xe:=xeT X pins E }
theorem to_try {E:XK} (I:Inv X pins σ H s):Inv (tryX X pins E) [] σ H s :=
 ⟨⟨I.ok.mod,I.ok.kind,I.ok.glob,I.ok.blt,I.ok.above,I.ok.inj,I.ok.has,I.ok.cab,I.ok.hd,I.ok.frames,I.ok.stk,I.ok.exf,I.ok.bs,I.ok.bsz,I.ok.bD,I.ok.exfs,I.ok.DN,I.ok.frf⟩,I.os,I.bare,I.base,I.loc,I.cell,I.free,I.qF,fun p hp=>I.pin p (by rw [List.append_nil] at hp; exact hp),I.hok,I.len⟩
theorem Sx {E:XK} {ps:List (Addr × Obj)} (I:Inv (tryX X pins E) ps σ H s):Inv X pins σ H s :=
 ⟨⟨I.ok.mod,I.ok.kind,I.ok.glob,I.ok.blt,I.ok.above,I.ok.inj,I.ok.has,I.ok.cab,I.ok.hd,I.ok.frames,I.ok.stk,I.ok.exf,I.ok.bs,I.ok.bsz,I.ok.bD,I.ok.exfs,I.ok.DN,I.ok.frf⟩,I.os,I.bare,I.base,I.loc,I.cell,I.free,I.qF,fun p hp=>I.pin p (List.mem_append_left _ hp),I.hok,I.len⟩
theorem sp_try {E:XK} {D:Ends} {f:Flow} {s':Shared} (h:SP (tryX X pins E) [] D f s'):SP X pins D f s':=by
 cases f with
 | next=>obtain ⟨σ',H',I,q⟩:=h; exact ⟨σ',H',Sx I,q⟩
 | brk=>obtain ⟨σ',H',I,q⟩:=h; exact ⟨σ',H',Sx I,q⟩
 | cont=>obtain ⟨σ',H',I,q⟩:=h; exact ⟨σ',H',Sx I,q⟩
 | ret u=>obtain ⟨v,σ',H',I,r,q⟩:=h; exact ⟨v,σ',H',Sx I,r,q⟩
theorem passT {E:XK}:jR (CX1 X.prog X.w) (tryX X pins E) E:=fun ps σ H1 s1 e s' I ⟨a,H',C,dd,o,vs,T,ee,os,bare,un,hok,ha,g,d,tk,hT,sT,k⟩=>by
 have I1:=Sx I
 have J:=I1.call' (ch:=[]) os un hok bare (fun b z=>by cases z)
 refine ⟨a,H',C,dd,o,vs,T,ee,J.weak (by rw [J.len]; simp [nones]) fun i v z=>?_,ha,g,d,tk,hT,agt I1 sT,k⟩
 unfold nones at z
 rw [List.getElem?_replicate] at z
 split at z <;> cases z
theorem aij {n:Bool} {a C T:Addr} {dd:Option Addr} {o:Obj} {vs:Array Value} {h':Heap} (I:Inv X pins σ H s) (ha:H a = some (.exc n C dd a)) (g:s.heap.get? a = some o) (d:o.data = .fields vs) (hT:H T = none) (far:Far X pins T)
   (S:Sta (frs X.stack) a o vs (some T) s.heap h'):Inv X pins σ (upd H a (.exc false C dd a)) { s with heap:=h' }:=by
 have nt:∀ b,b ∉ [T]→some b ≠ some T:=fun b hx z=>hx (by rw [Option.some.inj z]; exact List.mem_singleton.mpr rfl)
 refine I.call' (ch:=[T]) rfl ⟨fun b u e n hb hx=>?_,fun b u e n hb hx=>?_,fun b u e n hx=>?_,fun b u e hx=>?_,fun b xs e=>?_,fun b u xs e=>?_,fun b ps e=>?_⟩ (aii I ha g d (fun T' z=>by cases z; exact hT) S) I.bare fun b hb=>?_
 · exact S.keep b u hb (fun z=>by rw [z,ha] at n; cases n) (nt b hx) e
 · exact S.slot b u (fun z=>by rw [z,ha] at n; cases n) (nt b hx) e
 · rw [az (fun z=>by rw [z,ha] at n; cases n)]; exact n
 · by_cases z:b = a
   · obtain ⟨T2,oT,ts,q1,q2,q3,_⟩:=S.new
     rw [z]; exact ⟨_,q3⟩
   · obtain ⟨sl,z2⟩:=S.slot b u z (nt b hx) e
     exact ⟨_,z2⟩
 · rw [az (fun z=>by rw [z,ha] at e; cases e)]; exact e
 · rw [az (fun z=>by rw [z,ha] at e; cases e)]; exact e
 · exact ⟨#[],by rw [az (fun z=>by rw [z,ha] at e; cases e),e]; simp⟩
 · obtain rfl:=List.mem_singleton.mp hb
   exact ⟨.inr far.1,far.2.1,far.2.2.1,far.2.2.2⟩
theorem XS {M:Model} {A:Around} {E:Value→Shared→Prop} {a T:Addr} {o:Obj} {vs:Array Value} {Q:Unit→Shared→Prop} (I:Inv X pins σ H s) (g:s.heap.get? a = some o) (d:o.data = .fields vs) (tk:TbOk s.heap a vs (some T)) (hT:H T = none) (far:Far X pins T)
   (k:∀ h',Inv X pins σ H { s with heap:=h' }→Q () { s with heap:=h' }):wpAny M A (setFlight (.ref a) none) Q E s:=by
 obtain ⟨h1,nT,oT,ts,gT,dT,h3⟩:=tk
 unfold setFlight
 refine wpAny_bind (wpAny_field g d h1 ?_)
 rw [if_pos (show (Value.ref T != Value.none) = true by simp)]
 refine wpAny_setField gT dT (Array.getElem?_eq_some_iff.mp h3).1 (k _ ?_)
 exact I.turned (t':=s.toks) (it:=T) (fun b u hb e=>(Heap.get?_update_other _ _ (Ne.symm hb)).trans e) hT far.2.1 (.inr far.1) far.2.2.1 far.2.2.2
theorem ah5 {M:Model} {A:Around} {E:Value→Shared→Prop} {j:Nat} {n:Str} {pos:Pos} {Q:Unit→Shared→Prop} (I:Inv X pins σ H s) (hN:X.N.Nodup) (hj:X.N[j]? = some n) (hl:X.env.kindOf n = some .local)
   (k:∀ s',Inv X pins (σ.set j none) H s'→Q () s'):wpAny M A (do bindName X.env n .none; unbindBehindTheSuite X.env n pos) Q E s:=by
 obtain ⟨m,hn,hm⟩:=id I.loc
 have hcls:(X.env.scope.kind == .class || (X.env.scope.kind == .module && X.env.locals != X.env.globals)) = false:=by rw [I.ok.kind]; rfl
 refine wpAny_nameGoes_keeps hl hn hcls fun h' v hn' hs=>k _ ?_
 have neL:∀ b o,X.s₀.heap.get? b = some o→b ≠ X.env.locals:=fun b o e=>Nat.ne_of_lt (Nat.lt_of_lt_of_le (Heap.lt_size e) I.ok.above)
 have fL:=I.free
 refine ⟨I.ok,I.os,I.bare,⟨fun b o e n hb hx=>?_,fun b o e n hb hx=>?_,I.base.free,fun b o e hx=>?_,I.base.tups,I.base.DK,I.base.Hd⟩,⟨_,hn',fun i y v' e1 e2 e3=>?_⟩,fun y c e=>?_,I.free,I.qF,fun p hp=>?_,fun b ob e=>?_,by rw [List.length_set]; exact I.len⟩
 · exact (hs.2 b (neL b o e)).trans (I.base.keep b o e n hb hx)
 · obtain ⟨sl,e1⟩:=I.base.slot b o e n hb hx
   exact ⟨sl,(hs.2 b (neL b o e)).trans e1⟩
 · obtain ⟨o',e1⟩:=I.base.there b o e hx
   exact ⟨o',(hs.2 b (neL b o e)).trans e1⟩
 · by_cases ij:j = i
   · subst ij
     rw [List.getElem?_set_self'] at e2
     cases z:σ[j]? with
     | none=>rw [z] at e2; simp at e2
     | some y=>rw [z] at e2; simp at e2
   · rw [List.getElem?_set_ne ij] at e2
     obtain ⟨u',r',q⟩:=hm i y v' e1 e2 e3
     refine ⟨u',r',?_⟩
     rcases q with ⟨kk,e⟩ | ⟨kk,c,e,z⟩
     · refine .inl ⟨kk,?_⟩
       have:y ≠ n:=fun z=>ij (R7 hN hj (z ▸ e1))
       simp [this,e]
     · exact .inr ⟨kk,c,e,z.sameBut hs (I.cne y c e)⟩
 · obtain ⟨w',z⟩:=I.cell y c e
   exact ⟨w',z.sameBut hs (I.cne y c e)⟩
 · obtain ⟨e,n,ne,nf,d⟩:=I.pin p hp
   exact ⟨(hs.2 p.1 ne).trans e,n,ne,nf,d⟩
 · refine (I.hok b ob e).stay (fun c w' hc q=>(hs.2 c ?_).trans q) (fun _ q=>q) fun _ _ q=>q
   rintro rfl
   rcases hc with rfl | hc
   · rw [fL] at e; cases e
   · rw [fL] at hc; cases hc
abbrev markX (X:Cx) (e:Value):Cx:={ X with A:=X.A.mark (some e),calm:=false,xe:=fun _ _=>False }
theorem ail {e:Value} (I:Inv X pins σ H s):Inv (markX X e) pins σ H s :=
 ⟨⟨I.ok.mod,I.ok.kind,I.ok.glob,I.ok.blt,I.ok.above,I.ok.inj,I.ok.has,I.ok.cab,(fun z=>by cases z),I.ok.frames,I.ok.stk,I.ok.exf,I.ok.bs,I.ok.bsz,I.ok.bD,I.ok.exfs,I.ok.DN,I.ok.frf⟩,I.os,I.bare,I.base,I.loc,I.cell,I.free,I.qF,I.pin,I.hok,I.len⟩
theorem aib {e:Value} (ok:X.Ok) (I:Inv (markX X e) pins σ H s):Inv X pins σ H s :=
 ⟨ok,I.os,I.bare,I.base,I.loc,I.cell,I.free,I.qF,I.pin,I.hok,I.len⟩
def IsX (H:Hp) (a C:Addr):Prop:=(∃ n,H a = some (.exc n C none a)) ∨ ∃ n d fs,H a = some (.exc n C (some d) a)∧H d = some (.xds fs d)
theorem ain {M:Model} {a C:Addr} (I:Inv X pins σ H s) (t:IsX H a C):PySem.W.Looks M s.heap (typeOf (.ref a)) (.ref C):=by
 rcases t with ⟨n,hH⟩ | ⟨n,dx,fs,hH,hD⟩
 · obtain ⟨⟨ob,vs,t0,e1,e2,e3,e4,e5⟩,_,_⟩:=I.hok a _ hH
   have IA:PySem.W.InstAt s.heap a ob C none:=⟨e1,e2,by unfold PySem.W.notCls; rw [e4],by rw [e3]; trivial⟩
   exact IA.type
 · obtain ⟨⟨ob,vs,t0,e1,e2,e3,e4,e5⟩,_,_⟩:=I.hok a _ hH
   obtain ⟨⟨mA,n1,rl,wi⟩,_,_⟩:=I.hok _ _ hD
   obtain ⟨oD,esD,epD,eD,_⟩:=n1
   have IA:PySem.W.InstAt s.heap a ob C (some oD):=⟨e1,e2,by unfold PySem.W.notCls; rw [e4],by rw [e3]; exact eD⟩
   exact IA.type
theorem run_try {E:XK} {D:Ends} {body:List Stmt} {tb:TS} {i j:Nat} {x n cn:Str} {HE:Addr} {p1 p2 p3 p4 p5 pos:Pos} (hs:X.stack = X.env :: X.outer) (hf:X.env.frame = some X.env.locals) (hN:X.N.Nodup) (hi:X.N[i]? = some x) (hx:Loc X.env.scope x) (hj:X.N[j]? = some n) (hij:j ≠ i) (hl:X.env.scope.names.lookup n = some .local)
   (hg:Gl X cn) (hm:X.mg cn = some (.ref HE)) (hb:PSs (tryX X pins E) body tb) (I:Inv X pins σ H s) (h:tb D σ H)
   (hE:∀ a H',E (.ref a) none H'→(∃ C,IsX H' a C∧PySem.W.exmOne X.K (.ref C) (.ref HE) = some true)∧D.nx ((nones X).set i (some (.ref a))) H')
   (hdb:(cn == ("__debug__":Str)) = false) (hd:(n == ("__debug__":Str)) = false) (hcd:(n == ("__classdict__":Str)) = false) (hsw:swapsWith (.Name n p3) (some (.Name x p2)) p4.line X.env = pure false) (hff:X.fn x = true ∨ X.env.scope.names.lookup x = some .local) (hfn:X.fn n = true ∨ X.env.scope.names.lookup n = some .local) :
   wpAny (model X.prog X.w) X.A (exec (.Try body [.ExceptHandler (some (.Name cn p1)) (some n) [.Assign [.Name x p2] (.Name n p3) p4] p5] [] [] pos) X.env) (SP X pins D) X.xe s:=by
 refine wpAny_Try_except (wpAny_mono (hb [] s σ H D (to_try I) h) (fun f s1 h1=>?_) fun e s1 h1=>?_)
 · have:=sp_try h1
   cases f with
   | next=>exact wpAny_execs_nil this
   | brk=>exact this
   | cont=>exact this
   | ret u=>exact this
 · obtain ⟨a,H',C,dd,o,vs,T,ee,I1,ha,g,d,tk,hT,far,k⟩:=h1
   subst ee
   obtain ⟨⟨C',isx,hk⟩,nx⟩:=hE a H' k
   have fr:=I1.ok.frames
   have ff:=I1.stack
   rw [hs] at fr ff
   refine R8 fr ff hf g d tk fun h2 S=>?_
   have S':Sta (frs X.stack) a o vs (some T) s1.heap h2:=by rw [hs]; exact S
   have I2:=aij I1 ha g d hT far S'
   rw [JN ha] at I2
   obtain ⟨T2,oT,ts,q1,q2,q3,q4,q5,q6⟩:=S.new
   have far2:Far X pins T2:=agt I1 q1
   have T2n:H' T2 = none:=yX I1.hok (Heap.get?_none_of_le q1)
   have s1z:1 < vs.size:=(Array.getElem?_eq_some_iff.mp tk.1).1
   have J2:Inv (markX X (.ref a)) pins (nones X) H' { s1 with heap:=h2 }:=ail I2
   refine wpAny_handleBy_cons (codeAny_handlers_test (pK J2 hg hm ?_ hdb)) (by intro q; cases q)
   refine (PySem.W.exm_one J2.kIn (ain J2 isx) hk).here ?_
   rw [if_pos rfl]
   refine codeAny_handlers_suite_as (XS J2 q3 rfl (T:=T2) ⟨by simp [s1z],q2,oT,ts,q4,q5,q6⟩ T2n far2 fun h3 J3=>?_)
   refine JH (X:=markX X (.ref a)) (v:=.ref a) J3 hN hj (.inl hl) rfl (fun s4 J4=>?_) hfn
   have e4:((nones X).set j (some (V.ref a)))[j]? = some (some (.ref a)):=by
     rw [List.getElem?_set_self]
     rw [nones,List.length_replicate]
     exact (List.getElem?_eq_some_iff.mp hj).1
   refine wpAny_mono (pM (X:=markX X (.ref a)) (cg hN hi hx (pe_var hj (.inl hl) hd hcd) hsw hff) pins s4 _ H' { nx:=fun σ' H2=>σ' = ((nones X).set j (some (.ref a))).set i (some (.ref a))∧H2 = H',rt:=fun _ _=>False } J4 ⟨.ref a,e4,rfl,rfl⟩) (fun f s5 h5=>?_) fun _ _ z=>False.elim z
   cases f with
   | brk=>obtain ⟨_,_,_,z⟩:=h5; exact False.elim z
   | cont=>obtain ⟨_,_,_,z⟩:=h5; exact False.elim z
   | ret u=>obtain ⟨_,_,_,_,_,z⟩:=h5; exact False.elim z
   | next =>
     obtain ⟨σ5,H5,J5,rfl,rfl⟩:=h5
     refine ah5 (aib I.ok J5) hN hj hl fun s6 I6=>⟨_,H5,I6.weak (by simp) fun ix v z=>?_,nx⟩
     by_cases e:i = ix
     · subst e
       rw [List.getElem?_set_self (by rw [nones,List.length_replicate]; exact (List.getElem?_eq_some_iff.mp hi).1)] at z
       cases z
       rw [List.getElem?_set_ne hij,List.getElem?_set_self (by rw [List.length_set,nones,List.length_replicate]; exact (List.getElem?_eq_some_iff.mp hi).1)]
     · rw [List.getElem?_set_ne e,nones,List.getElem?_replicate] at z
       split at z <;> cases z
end
end DL
namespace DL
open PySem PySem.Spec PyProof.Rows MX L2
section
variable {P:Program} {w:World} {K:PySem.W.Frag} {mg:Str→Option Value} {base:Heap} {Γ:Nat→Option Addr}
theorem PN {x qual:Str} {st:Stmt} {f:Addr} {fd:FuncData} {N ps:List Str} {k:Nat} {g:DSt→Out Fl} (F:L2.Fun K x qual st f fd) (S:aN N ps (ak st))
   (h:∀ (cdv:Value) (A:Around) (outer:List Env) (s:Shared) (H:Hp) (E:XK),gM k (A.deeper (envOfC qual (ak st) s.heap.objs.size f cdv))→DSs (Kh (CX1 P w) P w K mg base N qual (ak st) f cdv A outer s H E) Γ E (aL st) g) :
   bf P w K mg base (CX1 P w) (k + 1) f fd ps (spD K Γ ps.length fun ds=>cZ N.length g ds):=by
 obtain ⟨oc,od,kV,doc,pm,an,cdv,ct,osl,rfl,lk,hcd⟩:=F.ex
 refine fn_of lk hcd S (fun vs H Q E h=>h.1) fun A outer s H vs Q E hr ⟨hl,G,ds,sg,r,q⟩=>?_
 refine ⟨_,h cdv A outer s H E hr,G,H,G,jW N.length ds,SR.Qd sg r,(au q).mono (fun fl q=>?_) fun _ k=>k⟩
 cases fl with
 | nx δ=>exact fun σ G' H' S'=>q _ G' H' S'.st .non
 | rt d=>exact fun v G' H' s' r'=>q v G' H' s' r'
 | bk δ=>exact False.elim q
 | ct δ=>exact False.elim q
 | rl ds=>exact agz q
 | rll dss=>exact aaz q
structure Qe (P:Program) (w:World) (K:PySem.W.Frag) (mg:Str→Option Value) (base:Heap) (x:Str) (k:Nat) (ps:List Str) (sp:Sp):Prop where
 ex:∃ f fd,bf P w K mg base (CX1 P w) k f fd ps sp∧Binds K fd ps []∧mg x = some (.ref f)∧PySem.W.keepIn K (.ref f) = true
structure Ini1 (P:Program) (w:World) (K:PySem.W.Frag) (mg:Str→Option Value) (base:Heap) (C:Addr) (k:Nat) (ps:List Str) (sp:Sp):Prop where
 ex:∃ f fd,Mk K C f∧bf P w K mg base (CX1 P w) k f fd ps sp∧Binds K fd ps []
end
section
variable {X:Cx} {Γ:Nat→Option Addr} {E:XK} {e a b c o:Expr} {pos apos:Pos} {es:List Expr} {fa fb fo:DSt→Out D} {fr:DSt→Out (List D)} {CX:CXT}
def sRaise (c:Nat) (fr:DSt→Out (List D)):DSt→Out Fl:=fun δ=>(fr δ).bind fun ds=>if ds.length ≤ 1000 then .ex (.exc c []) else .stuck
theorem ds_raise {c:Nat} {C N:Addr} {x:Str} {p cpos:Pos} (hC:Γ c = some C) (hM:ExcC X.K C N) (hi:PySem.W.nsIn X.K N "__init__" = some none) (hT:Thr X E) (hc:X.calm = true) (hg:Gl X x) (hm:X.mg x = some (.ref C)) (ha:DA X Γ E (e :: es) fr)
   (hdb:(x == ("__debug__":Str)) = false:=by decide) (he:starEach (e :: es) X.env = (false,eval e X.env) :: starEach es X.env:=by rfl) (hpl:(backTo cpos (starEach es X.env)).any (·.1) = false:=by rfl) :
   DS X Γ E (.Raise (some (.Call (.Name x p) (e :: es) [] cpos)) none pos) (sRaise c fr) :=
 PS.imp (ae8 hM hT hc (pe_makeP hM hi hg hm ha hdb he hpl)) fun D' σ H ⟨G0,H0,G,δ,S,w⟩=>by
   refine ⟨G0,H0,G,δ,S,(au w).mono (fun ds w vs G1 H1 s1 r1=>?_) fun _ k=>k.step S.st⟩
   split at w
   · rename_i hl
     refine ⟨by rw [r1.length]; exact hl,fun a ha=>⟨a,none,rfl,aG,?_⟩⟩
     have e:upd (upd H1 a (.exc true C none a)) a (.exc false C none a) = upd H1 a (.exc false C none a):=by
       funext b
       by_cases z:b = a
       · rw [z,aG,aG]
       · rw [az z,az z,az z]
     rw [e]
     exact w a _ _ (S.st.trans (s1.trans (Step.new s1.gh ha))) (.e0 (n:=false) aG hC)
   · exact False.elim w
def Xf (K:PySem.W.Frag) (Γ:Nat→Option Addr) (HE:Addr) (cat:Nat→Bool):Prop:=∀ c C,cat c = true→Γ c = some C→PySem.W.exmOne K (.ref C) (.ref HE) = some true
def sTry (cat:Nat→Bool) (i:Nat) (g:DSt→Out Fl):DSt→Out Fl:=fun δ=>match g δ with
 | .ok fl=>.ok fl
 | .ex (.exc c fs)=>if cat c = true then .ok (.nx ((List.replicate δ.length none).set i (some (.sh (.exc c fs))))) else .stuck
 | _=>.stuck
theorem ds_try {cat:Nat→Bool} {body:List Stmt} {g:DSt→Out Fl} {i j:Nat} {x n cn:Str} {HE:Addr} {p1 p2 p3 p4 p5:Pos} (hcat:Xf X.K Γ HE cat) (hs:X.stack = X.env :: X.outer) (hf:X.env.frame = some X.env.locals) (hN:X.N.Nodup) (hi:X.N[i]? = some x) (hx:Loc X.env.scope x) (hj:X.N[j]? = some n) (hij:j ≠ i) (hl:X.env.scope.names.lookup n = some .local)
   (hg:Gl X cn) (hm:X.mg cn = some (.ref HE)) (hb:∀ (pins:List (Addr × Obj)) (E':XK),DSs (tryX X pins E') Γ E' body g)
   (hdb:(cn == ("__debug__":Str)) = false:=by decide) (hd:(n == ("__debug__":Str)) = false:=by decide) (hcd:(n == ("__classdict__":Str)) = false:=by decide) (hsw:swapsWith (.Name n p3) (some (.Name x p2)) p4.line X.env = pure false:=by rfl) (hff:X.fn x = true ∨ X.env.scope.names.lookup x = some .local:=by first | exact .inl rfl | exact .inr rfl) (hfn:X.fn n = true ∨ X.env.scope.names.lookup n = some .local:=by first | exact .inl rfl | exact .inr rfl) :
   DS X Γ E (.Try body [.ExceptHandler (some (.Name cn p1)) (some n) [.Assign [.Name x p2] (.Name n p3) p4] p5] [] [] pos) (sTry cat i g):=by
 intro pins s σ H D' I ⟨G0,H0,G,δ,S,w⟩
 refine run_try (E:=fun v _ H'=>∃ a x G',v = .ref a∧g δ = .ex x∧Step G0 H0 G' H'∧Rep X.K Γ G' (.ref a) x) hs hf hN hi hx hj hij hl hg hm (hb pins _) I ⟨G0,H0,G,δ,S,?_⟩ (fun a H' ⟨a',x,G',ea,eg,st,r⟩=>?_) hdb hd hcd hsw hff hfn
 · unfold sTry at w
   cases q:g δ with
   | ok fl=>rw [q] at w; exact w
   | ex x=>exact fun a G' H' st r=>⟨a,x,G',rfl,rfl,st,r⟩
   | stuck=>rw [q] at w; exact w
 · cases ea
   unfold sTry at w
   rw [eg] at w
   have go:∀ c fs,x = .exc c fs→cat c = true∧D'.nx ((nones X).set i (some (.ref a))) H':=fun c fs ex=>by
     subst ex
     by_cases hc:cat c = true
     · refine ⟨hc,?_⟩
       simp only [hc,if_true] at w
       refine w _ G' H' ⟨st,by rw [List.length_set,List.length_set,List.length_replicate,nones,List.length_replicate,S.len,I.len],fun _=>none,fun k s' z=>?_⟩
       by_cases e:i = k
       · subst e
         have lt:i < X.N.length:=(List.getElem?_eq_some_iff.mp hi).1
         rw [List.getElem?_set_self (by rw [List.length_replicate,S.len,I.len]; exact lt)] at z
         cases z
         exact ⟨.ref a,by rw [List.getElem?_set_self (by rw [nones,List.length_replicate]; exact lt)],r⟩
       · rw [List.getElem?_set_ne e,List.getElem?_replicate] at z
         split at z <;> cases z
     · simp only [hc] at w
       exact False.elim w
   cases r with
   | e0 h gC =>
     obtain ⟨hc,nx⟩:=go _ _ rfl
     exact ⟨⟨_,.inl ⟨_,st.gh _ _ h⟩,hcat _ _ hc gC⟩,nx⟩
   | e1 h h' gC rf =>
     obtain ⟨hc,nx⟩:=go _ _ rfl
     exact ⟨⟨_,.inr ⟨_,_,_,st.gh _ _ h,st.gh _ _ h'⟩,hcat _ _ hc gC⟩,nx⟩
   | _=>exact False.elim w
end
def YM (K:PySem.W.Frag) (Γ:Nat→Option Addr) (cv:Value):List (Nat × Bool)→Prop
 | []=>True
 | (c,b) :: r=>(∃ C',Γ c = some C'∧ExcGet K C'∧PySem.W.kitOne K (.ref C') cv = some b)∧YM K Γ cv r
theorem YM.get {K:PySem.W.Frag} {Γ:Nat→Option Addr} {cv:Value}:∀ {tab:List (Nat × Bool)} {c:Nat} {b:Bool},YM K Γ cv tab→tab.lookup c = some b→∃ C',Γ c = some C'∧ExcGet K C'∧PySem.W.kitOne K (.ref C') cv = some b
 | [],_,_,_,e=>by cases e
 | (c',b') :: r,c,b,h,e=>by
   by_cases q:c = c'
   · subst q
     simp only [List.lookup_cons,beq_self_eq_true] at e
     cases e
     exact h.1
   · have q':(c == c') = false:=beq_eq_false_iff_ne.mpr q
     simp only [List.lookup_cons,q'] at e
     exact h.2.get e
def isiX (tab:List (Nat × Bool)):D→Option Bool
 | .exc c _=>tab.lookup c
 | d=>isiE [] d
theorem isiX_ok {K:PySem.W.Frag} {Γ:Nat→Option Addr} {C:Addr} {tab:List (Nat × Bool)} (ty:PySem.W.typeIn K (.ref C) = some (.type "type")) (cd:∃ cd,PySem.W.clsIn K C = some cd) (h:YM K Γ (.ref C) tab):DY K Γ (.ref C) (isiX tab):=by
 intro H v d b r e
 have old:=isiE_ok (K:=K) (Γ:=Γ) (tab:=[]) ty cd trivial H v d b r
 cases r with
 | e0 h1 g =>
   obtain ⟨C',g',i,k⟩:=h.get e
   rw [g] at g'
   cases g'
   exact ⟨_,.e0 h1 i,k⟩
 | e1 h1 h2 g rf =>
   obtain ⟨C',g',i,k⟩:=h.get e
   rw [g] at g'
   cases g'
   exact ⟨_,.e1 h1 h2 i,k⟩
 | _=>exact old e
theorem ags {K:PySem.W.Frag} {C HE:Addr} {cd:ClassData} (h1:PySem.W.clsIn K HE = some cd) (h2:PySem.W.typeIn K (.ref HE) = some (.type "type")) (h3:PySem.W.mroIn K C (.ref HE) = some true) (h4:PySem.W.mroIn K HE (.type "BaseException") = some true):PySem.W.exmOne K (.ref C) (.ref HE) = some true:=by
 unfold PySem.W.exmOne
 have e:PySem.W.subIn K (.ref HE) (.type "BaseException") = some true:=h4
 rw [e,if_pos (by rfl)]
 unfold PySem.W.kitCls
 dsimp only
 rw [h1,h2,if_pos (by simp)]
 exact h3
end DL
namespace DL
open PySem PySem.Spec PyProof.Rows MX L2
section
variable {K:PySem.W.Frag} {Γ:Nat→Option Addr} {G0 H0 G H G' H':Hp} {O O':Addr→Option Nat} {σ:L2.St} {δ:DSt}
theorem bw.length {i:Nat}:∀ {vs:List V} {es:List Mx} {bs:List Addr},bw K Γ H0 G H O i vs es bs→vs.length = es.length
 | _,_,_,.nil=>rfl
 | _,_,_,.own _ _ _ _ _ _ t=>by rw [List.length_cons,List.length_cons,t.length]
 | _,_,_,.fix _ t=>by rw [List.length_cons,List.length_cons,t.length]
theorem bw.at {i:Nat}:∀ {vs:List V} {es:List Mx} {bs:List Addr} {j:Nat} {ds:List D},bw K Γ H0 G H O i vs es bs→es[j]? = some (.own ds)→∃ b ws,vs[j]? = some (.ref b)∧b ∈ bs∧H b = some (.lst ws)∧G b = none∧H0 b = none∧O b = some i∧aB K Γ G ws ds
 | _,_,_,_,_,.nil,e=>by simp at e
 | _,_,_,0,_,.own h g h0 o r n t,e=>by simp at e; subst e; exact ⟨_,_,rfl,List.mem_cons_self,h,g,h0,o,r⟩
 | _,_,_,0,_,.fix r t,e=>by simp at e
 | _,_,_,j + 1,_,.own h g h0 o r n t,e=>by
   obtain ⟨b,ws,z1,z2,z⟩:=bw.at (j:=j) t (by simpa using e)
   exact ⟨b,ws,by simpa using z1,List.mem_cons_of_mem _ z2,z⟩
 | _,_,_,j + 1,_,.fix r t,e=>by
   obtain ⟨b,ws,z1,z2,z⟩:=bw.at (j:=j) t (by simpa using e)
   exact ⟨b,ws,by simpa using z1,z2,z⟩
theorem bw.updI {i:Nat} {a:Addr} {o:HO}:∀ {vs:List V} {es:List Mx} {bs:List Addr},a ∉ bs→bw K Γ H0 G H O i vs es bs→bw K Γ H0 G (upd H a o) O i vs es bs
 | _,_,_,_,.nil=>.nil
 | _,_,_,m,.own h g h0 oo r n t=>.own ((az fun z=>m (by rw [z]; exact List.mem_cons_self)).trans h) g h0 oo r n (bw.updI (fun z=>m (List.mem_cons_of_mem _ z)) t)
 | _,_,_,m,.fix r t=>.fix r (bw.updI m t)
theorem bw.put {i:Nat} {b:Addr} {ws:List V} {ds ds':List D} (r:aB K Γ G ws ds):∀ {vs:List V} {es:List Mx} {bs:List Addr} {j:Nat},bw K Γ H0 G H O i vs es bs→es[j]? = some (.own ds')→vs[j]? = some (.ref b)→bw K Γ H0 G (upd H b (.lst ws)) O i vs (es.set j (.own ds)) bs
 | _,_,_,_,.nil,e,_=>by simp at e
 | _,_,_,0,.own h g h0 o r' n t,e,e2=>by
   simp at e2
   subst e2
   exact .own aG g h0 o r n (bw.updI n t)
 | _,_,_,0,.fix _ t,e,e2=>by simp at e
 | _,_,_,j + 1,.own (b:=b') (vs:=vs') h g h0 o r' n t,e,e2=>by
   have e':vs'[j]? = some (V.ref b):=by simpa using e2
   obtain ⟨b2,_,z1,z2,_⟩:=t.at (j:=j) (by simpa using e)
   rw [e'] at z1
   cases z1
   exact .own ((az fun (z:b' = b)=>n (by rw [z]; exact z2)).trans h) g h0 o r' n (bw.put (j:=j) r t (by simpa using e) e')
 | _,_,_,j + 1,.fix r' t,e,e2=>.fix r' (bw.put (j:=j) r t (by simpa using e) (by simpa using e2))
end
section
variable {X:Cx} {Γ:Nat→Option Addr} {E:XK} {st:Stmt} {g:DSt→Out Fl} {e a b c o:Expr} {pos apos:Pos} {es:List Expr} {fa fb fo:DSt→Out D} {fr:DSt→Out (List D)} {CX:CXT}
end
end DL
namespace DL
open PySem PySem.Spec PyProof.Rows MX L2
def zf (i:Int):Bool:=decide (-1000000 ≤ i) && decide (i ≤ 1000000)
theorem XX {i:Int} (h:zf i = true):aew (.int i):=by
 unfold zf at h
 simp only [Bool.and_eq_true,decide_eq_true_eq] at h
 show i.natAbs.log2 < 1920
 have z:i.natAbs ≤ 1000000:=by omega
 by_cases q:i.natAbs = 0
 · rw [q]; decide
 · exact Nat.lt_of_le_of_lt ((Nat.le_log2 (n:=1000000) (by decide)).mpr (Nat.le_trans (Nat.log2_self_le q) z)) (by decide)
def spX2 (C:Addr) (f g:Str):Sp:=fun vs H Q _=>∃ (e:Addr) (v u:V),vs = [.ref e,v,u]∧aew v∧aew u∧H e = some (.exc true C none e) ∧
 ∀ (d:Addr) (H':Hp),H d = none→H' e = some (.exc true C (some d) e)→H' d = some (.xds [(f,v),(g,u)] d)→(∀ b o,H b = some o→b ≠ e→H' b = some o)→Q .non H'
section
variable {X:Cx} {Γ:Nat→Option Addr} {E:XK} {st:Stmt} {e a b c o:Expr} {pos apos:Pos} {es:List Expr} {fa fb fo:DSt→Out D} {fr:DSt→Out (List D)}
def zc (c:Nat) (f g:Str) (fr:DSt→Out (List D)):DSt→Out Fl:=fun δ=>(fr δ).bind fun ds=>match ds with
 | [.int i,.int j]=>if (zf i && zf j) = true then .ex (.exc c [(f,.int i),(g,.int j)]) else .stuck
 | _=>.stuck
theorem Di {c k:Nat} {C N fI:Addr} {fd:FuncData} {ps:List Str} {x f g:Str} {p cpos:Pos} (hC:Γ c = some C) (hM:ExcC X.K C N) (hi:PySem.W.nsIn X.K N "__init__" = some (some (.ref fI))) (hfn:PySem.W.isFn X.K (.ref fI) = true) (F:bf X.prog X.w X.K X.mg X.base CX0 k fI fd ps (spX2 C f g)) (hr:gM (k + 1) X.A) (hb:Binds X.K fd ps []) (hT:Thr X E) (hc:X.calm = true) (hg:Gl X x) (hm:X.mg x = some (.ref C)) (ha:DA X Γ E (e :: es) fr)
   (hdb:(x == ("__debug__":Str)) = false:=by decide) (he:starEach (e :: es) X.env = (false,eval e X.env) :: starEach es X.env:=by rfl) (hpl:(backTo cpos (starEach es X.env)).any (·.1) = false:=by rfl) :
   DS X Γ E (.Raise (some (.Call (.Name x p) (e :: es) [] cpos)) none pos) (zc c f g fr) :=
 PS.imp (ae8 hM hT hc (pe_makeX (E:=E) hM hi hfn F hr hg hm hb .nil bj ha hdb he hpl)) fun D' σ H ⟨G0,H0,G,δ,S,w⟩=>by
   refine ⟨G0,H0,G,δ,S,(au w).mono (fun ds w vs G1 H1 s1 r1=>?_) fun _ k=>k.step S.st⟩
   split at w
   · rename_i i j
     by_cases hs:(zf i && zf j) = true
     · rw [if_pos hs] at w
       cases r1 with
       | cons q1 r1 =>
         cases r1 with
         | cons q2 r1 =>
           cases r1
           cases q1
           cases q2
           have hs':=Bool.and_eq_true_iff.mp hs
           refine ⟨by show 2 ≤ 1000; decide,fun a ha=>⟨a,_,_,rfl,XX hs'.1,XX hs'.2,aG,fun d H' hd h1 h2 kp=>⟨rfl,a,some d,rfl,h1,?_⟩⟩⟩
           have da:d ≠ a:=fun z=>by rw [z,aG] at hd; cases hd
           have hd1:H1 d = none:=by rw [az da] at hd; exact hd
           have g1:G1 a = none:=aJ s1.gh ha
           have g2:G1 d = none:=aJ s1.gh hd1
           have st:Step G1 H1 (upd (upd G1 a (.exc false C (some d) a)) d (.xds [(f,.int i),(g,.int j)] d)) (upd H' a (.exc false C (some d) a)):=by
             refine ⟨fun b u e=>?_,fun b u e=>?_,fun b u e=>?_,fun b hb e=>?_⟩
             · rw [az (aK e g2),az (aK e g1)]; exact e
             · have nb:=aK e ha
               rw [az nb]
               exact kp b u (by rw [az nb]; exact e) nb
             · by_cases z:b = d
               · subst z
                 rw [aG] at e
                 rw [az da,h2]
                 exact e
               · rw [az z] at e
                 by_cases z2:b = a
                 · subst z2; rw [aG] at e ⊢; exact e
                 · rw [az z2] at e ⊢
                   exact kp b u (by rw [az z2]; exact s1.gh _ _ e) z2
             · rw [az (fun z=>hb (by rw [z]; exact hd1)),az (fun z=>hb (by rw [z]; exact ha))]; exact e
           exact w a _ _ (S.st.trans (s1.trans st)) (.e1 (n:=false) (by rw [az da.symm,aG]) aG hC (.cons (.int i) (.cons (.int j) .nil)))
     · rw [if_neg hs] at w
       exact False.elim w
   · exact False.elim w
def FldX (K:PySem.W.Frag) (Γ:Nat→Option Addr) (f:Str) (c:Nat):Prop:=∃ C,Γ c = some C∧ExcGet K C∧cM K C f
def oFldX (f:Str) (c:Nat) (fo:DSt→Out D):DSt→Out D:=fun δ=>(fo δ).bind fun d=>match d with
 | .exc c' ((f1,d1) :: r)=>if c' = c then Out.opt (((f1,d1) :: r).lookup f) else .stuck
 | _=>.stuck
theorem ahU {f:Str} {c:Nat} (hf:FldX X.K Γ f c) (he:DE X Γ E o fo) (hb:attributeBase o f X.env (eval o X.env) = eval o X.env:=by rfl):DE X Γ E (.Attribute o f pos) (oFldX f c fo):=PE.imp (pe_fldX he hb) fun σ H Q ⟨G0,H0,G,δ,S,w⟩=>by
 refine ⟨G0,H0,G,δ,S,(au w).mono (fun d w2 v G1 H1 s1 r1=>?_) fun _ k=>k⟩
 split at w2
 · rename_i c' f1 d1 r
   split at w2
   · rename_i hc
     subst hc
     obtain ⟨d,e,k⟩:=bJ w2
     obtain ⟨C,gC,ge,na⟩:=hf
     cases r1 with
     | e1 h h' g rf =>
       rw [gC] at g
       cases g
       obtain ⟨v,l1,l2⟩:=rf.look e
       exact ⟨_,_,_,_,_,v,rfl,s1.gh _ _ h,s1.gh _ _ h',ge,na,l1,k _ G1 H1 s1 l2⟩
   · exact False.elim w2
 · exact False.elim w2
def catL (fa fb:DSt→Out D):DSt→Out (List D):=fun δ=>(fa δ).bind fun x=>(fb δ).bind fun y=>match x,y with
 | .lst i,.lst j=>if i.length + j.length ≤ sizeLine then .ok (i ++ j) else .stuck
 | _,_=>.stuck
theorem df_cat (ha:DE X Γ E a fa) (hb:DE X Γ E b fb):DF X Γ E (.BinOp a .Add b pos) (catL fa fb):=PE.imp (ae2 op_cat ha hb) fun σ H Q ⟨G0,H0,G,δ,S,w⟩=>by
 refine ⟨G0,H0,G,δ,S,(au w).mono (fun x w v G1 H1 s1 r1=>?_) fun _ k=>k⟩
 refine ⟨G0,H0,G1,δ,S.step s1,(au w).mono (fun y w u G2 H2 s2 r2=>?_) fun _ k=>k.step s1⟩
 split at w
 · split at w
   · rename_i h
     cases r2 with
     | lst h2 r2 =>
     cases r1 with
     | lst h1 r1 =>
       refine ⟨_,_,_,_,rfl,rfl,s2.gh _ _ (s2.gg _ _ h1),s2.gh _ _ h2,by rw [r1.length,r2.length]; exact h,fun l hl=>?_⟩
       have st:=(s1.trans s2)
       exact w l _ G2 _ (st.trans (.aside st.gh hl)) (aJ st.hh hl) aG (aJ st.gh hl) ((r1.mono s2.gg).append r2)
   · exact False.elim w
 · exact False.elim w
def mkD1 (fk fv:DSt→Out D):DSt→Out D:=fun δ=>(fk δ).bind fun k=>(fv δ).bind fun v=>(Out.opt (keyD k)).bind fun key=>.ok (.dK [(key,v)])
theorem de_dict1 {p:Pos} (ha:DE X Γ E a fa) (hb:DE X Γ E b fb):DE X Γ E (.Dict [some a] [b] p) (mkD1 fa fb) :=
 PE.imp (pe_disp (pps_cons ha hb pps_nil) rfl rfl (by simp) (by simp)) fun σ H Q ⟨G0,H0,G,δ,S,w⟩=>fun q hq=>by
   have s0:Step G H G (upd H q (.dK [])):=.aside S.st.gh hq
   have S0:=S.step s0
   refine ⟨G0,H0,G,δ,S0,(au w).mono (fun d w v G1 H1 s1 r1=>?_) fun x k=>exD.step k s0⟩
   refine ⟨G0,H0,G1,δ,S0.step s1,(au w).mono (fun d2 w v2 G2 H2 s2 r2=>?_) fun x k=>exD.step k (s0.trans s1)⟩
   obtain ⟨key,ek,w⟩:=bJ (au w)
   have hz:H2 q = some (.dK []):=s2.hh _ _ (s1.hh _ _ aG)
   have s02:=s0.trans (s1.trans s2)
   have gq:G2 q = none:=(s1.trans s2).sep q (by rw [aG]; exact fun z=>nomatch z) (aJ S.st.gh hq)
   refine ⟨hz,[(key,v2)],by rw [r1.key ek]; rfl,by simp,w _ (upd G2 q (.dK [(key,v2)])) _ ⟨fun b o hb=>?_,fun b o hb=>?_,fun b o hb=>?_,fun b hb g=>?_⟩ (.dK aG (.cons (r2.mono (bz.up gq)) .nil))⟩
   · rw [az (aK (s02.gg _ _ hb) gq)]; exact s02.gg _ _ hb
   · rw [az (aK hb hq)]; exact s02.hh _ _ hb
   · by_cases z:b = q
     · subst z; rw [aG] at hb ⊢; exact hb
     · rw [az z] at hb ⊢; exact s02.gh _ _ hb
   · rw [az (fun z=>hb (by rw [z]; exact hq))]; exact s02.sep b hb g
end
section
variable {K:PySem.W.Frag}
theorem abw {N:Addr} {c:Value} {d:Option Addr} {es:Array DictEntry} {n:Nat} {sl:Array (Option Value)} (h:K.lookup N = some ⟨c,d,.dict es n,sl⟩) (e:(es.toList.all fun e=>match e.key with | .str _ _=>true | _=>false) = true):PySem.W.nsOkIn K N = true:=by
 unfold PySem.W.nsOkIn
 rw [h]
 dsimp only
 rw [← Array.all_toList]
 exact e
theorem tail_mk {HE:Addr} {c:Value} {d:Option Addr} {cd:ClassData} {sl:Array (Option Value)} (h:K.lookup HE = some ⟨c,d,.cls cd,sl⟩) (ok:PySem.W.nsOkIn K cd.ns = true) (ni:PySem.W.nsIn K cd.ns "__init__" = some none):PySem.W.tailIn K bmV (.ref HE :: bmV) = true:=by
 have b:PySem.W.tailIn K bmV bmV = true:=by
   unfold PySem.W.tailIn
   rw [beq_self_eq_true]
   rfl
 unfold PySem.W.tailIn
 dsimp only
 rw [h]
 dsimp only
 rw [ok,ni,b]
 simp
theorem exc_mk {HE C N:Addr} {nm q:Str} {bs:List Value} {sn:List Str} {sub:List Value} {ab:Bool} {col:Option Bool} {dd:Option Addr} {k0 k1 k2 k3 k5:Option Value}
   (o:K.lookup C = some (excClassObj nm q C N bs (.ref HE :: bmV) true sn sub ab col dd k0 k1 k2 k3 k5 "ValueError.__new__")) (tl:PySem.W.tailIn K bmV (.ref HE :: bmV) = true) (ok:PySem.W.nsOkIn K N = true)
   (ga:PySem.W.findIn K (.ref C) "__getattribute__" = some (some (.builtin "BaseException.__getattribute__"))) (gh:PySem.W.findIn K (.ref C) "__getattr__" = some none) (sa:PySem.W.findIn K (.ref C) "__setattr__" = some (some (.builtin "object.__setattr__")))
   (su:PySem.W.mroIn K C (.type "BaseException") = some true) (to:PySem.W.mroIn K C (.type "object") = some true) (cl:PySem.W.findIn K (.ref C) "__class__" = some (some (.builtin "object.__class__")))
   (get:PySem.W.specialIn K (.builtin "object.__class__") "__get__" = some (some (.builtin "getset_descriptor.__get__"))) (tk:PySem.W.takesIn K (.builtin "object.__class__") = some true) (kp:PySem.W.keepIn K (.ref C) = true):ExcC K C N∧∃ cd,PySem.W.clsIn K C = some cd:=by
 have cc:PySem.W.clsIn K C = some { name:=nm,bases:=bs,mro:=.ref C :: .ref HE :: bmV,ns:=N,qualname:=q,hasDict:=true,slotNames:=sn,subclasses:=sub,abstract:=ab,collection:=col,hasDel:=false }:=by
   unfold PySem.W.clsIn
   rw [o]
 exact ⟨⟨⟨ga,gh,sa,su,to,cl,get,tk,⟨_,[.ref C,.ref HE],cc,rfl,rfl,rfl⟩⟩,⟨nm,q,bs,_,sn,sub,ab,col,dd,k0,k1,k2,k3,k5,o,tl⟩,ok,kp⟩,_,cc⟩
end
def noStar:Expr→Bool
 | .Starred _ _=>false
 | _=>true
theorem ajl {e:Expr} {es:List Expr} {env:Env} (h:noStar e = true):starEach (e :: es) env = (false,eval e env) :: starEach es env:=by
 cases e <;> first | rfl | cases h
structure XIni (P:Program) (w:World) (K:PySem.W.Frag) (mg:Str→Option Value) (base:Heap) (N:Addr) (k:Nat) (ps:List Str) (sp:Sp):Prop where
 ex:∃ f fd,PySem.W.nsIn K N "__init__" = some (some (.ref f))∧PySem.W.isFn K (.ref f) = true∧bf P w K mg base CX0 k f fd ps sp∧Binds K fd ps []
end DL
namespace DL
open PySem PySem.Spec PyProof.Rows MX L2
structure DEx (X:Cx) (Γ:Nat→Option Addr) (E:XK) (e:Expr) (f:DSt→Out D):Prop where
 h:DE X Γ E e f
structure DAx (X:Cx) (Γ:Nat→Option Addr) (E:XK) (es:List Expr) (f:DSt→Out (List D)):Prop where
 h:DA X Γ E es f
structure DSx (X:Cx) (Γ:Nat→Option Addr) (E:XK) (st:Stmt) (g:DSt→Out Fl):Prop where
 h:DS X Γ E st g
structure DSsx (X:Cx) (Γ:Nat→Option Addr) (E:XK) (st:List Stmt) (g:DSt→Out Fl):Prop where
 h:DSs X Γ E st g
section
variable {X:Cx} {Γ:Nat→Option Addr} {E:XK} {e a b:Expr} {es:List Expr} {fa fb:DSt→Out D} {fr:DSt→Out (List D)} {pos p:Pos} {st:Stmt} {rest:List Stmt} {g g':DSt→Out Fl}
theorem dn:DAx X Γ E [] aA:=⟨aH⟩
theorem dk (ha:DEx X Γ E e fa) (hr:DAx X Γ E es fr) (hs:noStar e = true:=by rfl):DAx X Γ E (e :: es) (aj fa fr):=⟨ao ha.h hr.h (ajl hs)⟩
theorem N7 {x1} (h:DAx X Γ E es fr):DEx X Γ E (.Tuple es x1 pos) (cU fr):=⟨oA h.h⟩
theorem dlst (h:DAx X Γ E es fr):DEx X Γ E (.List es pos) (cF fr):=⟨vB h.h⟩
theorem dint {i:Int} {j}:DEx X Γ E (.Constant (.int i) j pos) (fun _=>.ok (.int i)):=⟨aM⟩
theorem dbl {i:Bool} {j}:DEx X Γ E (.Constant (.bool i) j pos) (fun _=>.ok (.bl i)):=⟨mQ⟩
theorem dnon {j}:DEx X Γ E (.Constant .none j pos) (fun _=>.ok .non):=⟨Ge⟩
theorem Jg {x:Str} {j}:DEx X Γ E (.Constant (.str x) j pos) (fun _=>.ok (.str x)):=⟨cD⟩
theorem ddic (ha:DEx X Γ E a fa) (hb:DEx X Γ E b fb):DEx X Γ E (.Dict [some a] [b] p) (mkD1 fa fb):=⟨de_dict1 ha.h hb.h⟩
theorem dxc (h1:DSx X Γ E st g) (h2:DSsx X Γ E rest g'):DSsx X Γ E (st :: rest) (bF g g'):=⟨bA h1.h h2.h⟩
theorem dx1 (h1:DSx X Γ E st g):DSsx X Γ E [st] g:=⟨aF h1.h⟩
theorem dxlst (i:Nat) {x:Str} {pos':Pos} (hN:X.N.Nodup) (hi:X.N[i]? = some x) (hx:Loc X.env.scope x) (h:DAx X Γ E es fr) (hs:swapsWith (.List es p) (some (.Name x pos')) pos.line X.env = pure false:=by rfl) (hf:X.fn x = true ∨ X.env.scope.names.lookup x = some .local:=by first | exact .inl rfl | exact .inr rfl) :
   DSx X Γ E (.Assign [.Name x pos'] (.List es p) pos) (lF i (zB fr)):=⟨Pu i (fun h=>cg hN hi hx h hs hf) (agq h.h)⟩
theorem dxcat (i j:Nat) {x:Str} {pos' p3:Pos} (hN:X.N.Nodup) (hi:X.N[i]? = some x) (hx:Loc X.env.scope x) (hj:DEx X Γ E a fa) (h:DAx X Γ E es fr) (hs:swapsWith (.BinOp a .Add (.List es p) p3) (some (.Name x pos')) pos.line X.env = pure false:=by rfl) (hf:X.fn x = true ∨ X.env.scope.names.lookup x = some .local:=by first | exact .inl rfl | exact .inr rfl) :
   DSx X Γ E (.Assign [.Name x pos'] (.BinOp a .Add (.List es p) p3) pos) (Rv j (lF i (catL fa (cF fr)))):=⟨agr j (Pu i (fun h=>cg hN hi hx h hs hf) (df_cat hj.h (vB h.h)))⟩
end
section
variable {P:Program} {w:World} {K:PySem.W.Frag} {mg:Str→Option Value} {base:Heap} {Γ:Nat→Option Addr}
theorem okDx {x qual:Str} {st:Stmt} {f:Addr} {fd:FuncData} {N ps:List Str} {k:Nat} {g:DSt→Out Fl} (F:L2.Fun K x qual st f fd) (S:aN N ps (ak st))
   (h:∀ (cdv:Value) (A:Around) (outer:List Env) (s:Shared) (H:Hp) (E:XK),gM k (A.deeper (envOfC qual (ak st) s.heap.objs.size f cdv))→DSsx (Kh CX0 P w K mg base N qual (ak st) f cdv A outer s H E).nox Γ E0 (aL st) g) :
   bf P w K mg base CX0 (k + 1) f fd ps (spD K Γ ps.length fun ds=>(cZ N.length g ds).bD):=DL.Fun.okD F S fun cdv A outer s H E hr=>(h cdv A outer s H E hr).h
end
end DL
namespace DL
open PySem PySem.Spec PyProof.Rows MX L2
section
variable {X:Cx} {pins:List (Addr × Obj)} {σ:L2.St} {H:Hp} {s:Shared}
theorem run_try2 {E:XK} {D:Ends} {body:List Stmt} {tb:TS} {i j:Nat} {x n cn:Str} {HE:Addr} {p1 p2 p4 p5 pos:Pos} {e:Expr} {te:TE} (hs:X.stack = X.env :: X.outer) (hf:X.env.frame = some X.env.locals) (hN:X.N.Nodup) (hi:X.N[i]? = some x) (hx:Loc X.env.scope x) (hj:X.N[j]? = some n) (hij:j ≠ i) (hl:X.env.scope.names.lookup n = some .local)
   (hg:Gl X cn) (hm:X.mg cn = some (.ref HE)) (hb:PSs (tryX X pins E) body tb) (I:Inv X pins σ H s) (h:tb D σ H)
   (hE:∀ a H',E (.ref a) none H'→(∃ C,IsX H' a C∧PySem.W.exmOne X.K (.ref C) (.ref HE) = some true)∧te ((nones X).set j (some (.ref a))) H' fun v H2=>D.nx ((nones X).set i (some v)) H2) (hte:∀ a,PE (markX X (.ref a)) e te)
   (tm:∀ (σ:L2.St) (H:Hp) (P Q:VK),te σ H P→(∀ v H2,P v H2→Q v H2)→te σ H Q) (hdb:(cn == ("__debug__":Str)) = false) (hsw:swapsWith e (some (.Name x p2)) p4.line X.env = pure false) (hff:X.fn x = true ∨ X.env.scope.names.lookup x = some .local) (hfn:X.fn n = true ∨ X.env.scope.names.lookup n = some .local) :
   wpAny (model X.prog X.w) X.A (exec (.Try body [.ExceptHandler (some (.Name cn p1)) (some n) [.Assign [.Name x p2] e p4] p5] [] [] pos) X.env) (SP X pins D) X.xe s:=by
 refine wpAny_Try_except (wpAny_mono (hb [] s σ H D (to_try I) h) (fun f s1 h1=>?_) fun ex s1 h1=>?_)
 · have:=sp_try h1
   cases f with
   | next=>exact wpAny_execs_nil this
   | brk=>exact this
   | cont=>exact this
   | ret u=>exact this
 · obtain ⟨a,H',C,dd,o,vs,T,ee,I1,ha,g,d,tk,hT,far,k⟩:=h1
   subst ee
   obtain ⟨⟨C',isx,hk⟩,nx⟩:=hE a H' k
   have fr:=I1.ok.frames
   have ff:=I1.stack
   rw [hs] at fr ff
   refine R8 fr ff hf g d tk fun h2 S=>?_
   have S':Sta (frs X.stack) a o vs (some T) s1.heap h2:=by rw [hs]; exact S
   have I2:=aij I1 ha g d hT far S'
   rw [JN ha] at I2
   obtain ⟨T2,oT,ts,q1,q2,q3,q4,q5,q6⟩:=S.new
   have far2:Far X pins T2:=agt I1 q1
   have T2n:H' T2 = none:=yX I1.hok (Heap.get?_none_of_le q1)
   have s1z:1 < vs.size:=(Array.getElem?_eq_some_iff.mp tk.1).1
   have J2:Inv (markX X (.ref a)) pins (nones X) H' { s1 with heap:=h2 }:=ail I2
   refine wpAny_handleBy_cons (codeAny_handlers_test (pK J2 hg hm ?_ hdb)) (by intro q; cases q)
   refine (PySem.W.exm_one J2.kIn (ain J2 isx) hk).here ?_
   rw [if_pos rfl]
   refine codeAny_handlers_suite_as (XS J2 q3 rfl (T:=T2) ⟨by simp [s1z],q2,oT,ts,q4,q5,q6⟩ T2n far2 fun h3 J3=>?_)
   refine JH (X:=markX X (.ref a)) (v:=.ref a) J3 hN hj (.inl hl) rfl (fun s4 J4=>?_) hfn
   have e4:((nones X).set j (some (V.ref a)))[j]? = some (some (.ref a)):=by
     rw [List.getElem?_set_self]
     rw [nones,List.length_replicate]
     exact (List.getElem?_eq_some_iff.mp hj).1
   refine wpAny_mono (pM (X:=markX X (.ref a)) (cg hN hi hx (hte a) hsw hff) pins s4 _ H' { nx:=fun σ' H2=>∃ v,σ' = ((nones X).set j (some (.ref a))).set i (some v)∧D.nx ((nones X).set i (some v)) H2,rt:=fun _ _=>False } J4 (by
     refine tm _ _ _ _ nx fun v H2 q=>?_
     exact ⟨v,rfl,q⟩)) (fun f s5 h5=>?_) fun _ _ z=>False.elim z
   cases f with
   | brk=>obtain ⟨_,_,_,z⟩:=h5; exact False.elim z
   | cont=>obtain ⟨_,_,_,z⟩:=h5; exact False.elim z
   | ret u=>obtain ⟨_,_,_,_,_,z⟩:=h5; exact False.elim z
   | next =>
     obtain ⟨σ5,H5,J5,v5,rfl,nx⟩:=h5
     refine ah5 (aib I.ok J5) hN hj hl fun s6 I6=>⟨_,H5,I6.weak (by simp) fun ix v z=>?_,nx⟩
     by_cases ee:i = ix
     · subst ee
       rw [List.getElem?_set_self (by rw [nones,List.length_replicate]; exact (List.getElem?_eq_some_iff.mp hi).1)] at z
       cases z
       rw [List.getElem?_set_ne hij,List.getElem?_set_self (by rw [List.length_set,nones,List.length_replicate]; exact (List.getElem?_eq_some_iff.mp hi).1)]
     · rw [List.getElem?_set_ne ee,nones,List.getElem?_replicate] at z
       split at z <;> cases z
end
section
variable {X:Cx} {Γ:Nat→Option Addr} {E:XK} {pos:Pos}
theorem aeY {K:PySem.W.Frag} {G0 H0 G H:Hp} {i n:Nat} {v:V} {d:D} (st:Step G0 H0 G H) (hn:n = X.N.length) (hi:i < X.N.length) (r:Rep K Γ G v d):SR K Γ G0 H0 G H ((nones X).set i (some v)) ((List.replicate n none).set i (some (.sh d))):=by
 refine ⟨st,by rw [List.length_set,List.length_set,List.length_replicate,nones,List.length_replicate,hn],fun _=>none,fun k s' z=>?_⟩
 by_cases e:i = k
 · subst e
   rw [List.getElem?_set_self (by rw [List.length_replicate,hn]; exact hi)] at z
   cases z
   exact ⟨v,by rw [List.getElem?_set_self (by rw [nones,List.length_replicate]; exact hi)],r⟩
 · rw [List.getElem?_set_ne e,List.getElem?_replicate] at z
   split at z <;> cases z
def afc (cat:Nat→Bool) (i j:Nat) (fe:DSt→Out D) (g:DSt→Out Fl):DSt→Out Fl:=fun δ=>match g δ with
 | .ok fl=>.ok fl
 | .ex (.exc c fs)=>if cat c = true then (fe ((List.replicate δ.length none).set j (some (.sh (.exc c fs))))).bD.bind fun d=>.ok (.nx ((List.replicate δ.length none).set i (some (.sh d)))) else .stuck
 | _=>.stuck
theorem ds_try2 {cat:Nat→Bool} {body:List Stmt} {g:DSt→Out Fl} {i j:Nat} {x n cn:Str} {HE:Addr} {p1 p2 p4 p5:Pos} {e:Expr} {fe:DSt→Out D} (hcat:Xf X.K Γ HE cat) (hs:X.stack = X.env :: X.outer) (hf:X.env.frame = some X.env.locals) (hN:X.N.Nodup) (hi:X.N[i]? = some x) (hx:Loc X.env.scope x) (hj:X.N[j]? = some n) (hij:j ≠ i) (hl:X.env.scope.names.lookup n = some .local)
   (hg:Gl X cn) (hm:X.mg cn = some (.ref HE)) (hb:∀ (pins:List (Addr × Obj)) (E':XK),DSs (tryX X pins E') Γ E' body g) (he:∀ a:Addr,DE (markX X (.ref a)) Γ E0 e fe)
   (hdb:(cn == ("__debug__":Str)) = false:=by decide) (hsw:swapsWith e (some (.Name x p2)) p4.line X.env = pure false:=by rfl) (hff:X.fn x = true ∨ X.env.scope.names.lookup x = some .local:=by first | exact .inl rfl | exact .inr rfl) (hfn:X.fn n = true ∨ X.env.scope.names.lookup n = some .local:=by first | exact .inl rfl | exact .inr rfl) :
   DS X Γ E (.Try body [.ExceptHandler (some (.Name cn p1)) (some n) [.Assign [.Name x p2] e p4] p5] [] [] pos) (afc cat i j fe g):=by
 intro pins s σ H D' I ⟨G0,H0,G,δ,S,w⟩
 have li:i < X.N.length:=(List.getElem?_eq_some_iff.mp hi).1
 have lj:j < X.N.length:=(List.getElem?_eq_some_iff.mp hj).1
 have ln:δ.length = X.N.length:=by rw [S.len,I.len]
 refine run_try2 (te:=teD X.K Γ E0 fe) (E:=fun v _ H'=>∃ a x G',v = .ref a∧g δ = .ex x∧Step G0 H0 G' H'∧Rep X.K Γ G' (.ref a) x) hs hf hN hi hx hj hij hl hg hm (hb pins _) I ⟨G0,H0,G,δ,S,?_⟩ (fun a H' ⟨a',x,G',ea,eg,st,r⟩=>?_) he (fun σ H P Q ⟨G0,H0,G,δ,S,w⟩ k=>⟨G0,H0,G,δ,S,w.mono (fun d h v G' H' st r=>k _ _ (h v G' H' st r)) fun x h=>h⟩) hdb hsw hff hfn
 · unfold afc at w
   cases q:g δ with
   | ok fl=>rw [q] at w; exact w
   | ex x=>exact fun a G' H' st r=>⟨a,x,G',rfl,rfl,st,r⟩
   | stuck=>rw [q] at w; exact w
 · cases ea
   unfold afc at w
   rw [eg] at w
   have go:∀ c fs,x = .exc c fs→cat c = true∧teD X.K Γ E0 fe ((nones X).set j (some (.ref a))) H' fun v H2=>D'.nx ((nones X).set i (some v)) H2:=fun c fs ex=>by
     subst ex
     by_cases hc:cat c = true
     · refine ⟨hc,?_⟩
       simp only [hc,if_true] at w
       refine ⟨G0,H0,G',_,aeY st ln lj r,(kh (au w)).mono (fun d w v G2 H2 s2 r2=>?_) fun _ z=>z⟩
       exact w _ G2 H2 (aeY (st.trans s2) ln li r2)
     · simp only [hc] at w
       exact False.elim w
   cases r with
   | e0 h gC =>
     obtain ⟨hc,nx⟩:=go _ _ rfl
     exact ⟨⟨_,.inl ⟨_,st.gh _ _ h⟩,hcat _ _ hc gC⟩,nx⟩
   | e1 h h' gC rf =>
     obtain ⟨hc,nx⟩:=go _ _ rfl
     exact ⟨⟨_,.inr ⟨_,_,_,st.gh _ _ h,st.gh _ _ h'⟩,hcat _ _ hc gC⟩,nx⟩
   | _=>exact False.elim w
theorem dxset (i:Nat) {x:Str} {e:Expr} {fa:DSt→Out D} {pos':Pos} (hN:X.N.Nodup) (hi:X.N[i]? = some x) (hx:Loc X.env.scope x) (h:DEx X Γ E e fa) (hs:swapsWith e (some (.Name x pos')) pos.line X.env = pure false:=by rfl) (hf:X.fn x = true ∨ X.env.scope.names.lookup x = some .local:=by first | exact .inl rfl | exact .inr rfl):DSx X Γ E (.Assign [.Name x pos'] e pos) (dJ i fa) :=
 ⟨cP i (fun h=>cg hN hi hx h hs hf) h.h⟩
end
end DL
local macro_rules
 | `(tactic| walk_at $s:str)=>do
   let t:=s.getString
   if t == "o" then return ← `(tactic| first | exact Or.inl rfl | exact Or.inr rfl)
   unless t.startsWith "ev" do Lean.Macro.throwUnsupported
   let (h,r):=match t.splitOn ":" with
     | [h,r]=>(h,r)
     | _=>(t,"")
   let minus:=(h.splitOn "-").drop 1
   let all:=("cZ jW lZ bF iz qH dJ lF Lh sIf bR qg ud wN sExt sClr Yo sPut M7 sAsg gv gb gvo slD o1 o2 o2b o3 oC oF oM oMk Cw Cy bV andT orT qu tst HQ orV notV ifV aA aj cU cF zB fV j4 Yi kc Le Rv frz frzS yW ur Dy Dq wC Dp Dg Lp Xm KR KY KZ RM Yg RN Ky Kw Xn Xo Xp Xq Xr Xu Xv Xw Xx Xy Kc Kd K3 K4 Kq GD Kp K8 Kr K9 isND uc yp gN j0 bO gT Out.aQ Out.Df Out.oh Out.gr Out.wK Out.pL Lb List.map_cons List.map_nil List.length_cons List.length_nil List.append_assoc List.nil_append List.cons_append List.getElem?_cons_zero List.getElem?_cons_succ List.getElem?_nil List.set_cons_zero List.set_cons_succ Nat.zero_add Nat.reduceAdd Nat.reduceSub List.replicate_succ List.replicate_zero List.lookup_cons List.lookup_nil Option.some.injEq Option.bind_some Option.map_some Nat.reduceBEq Nat.reduceEqDiff Int.reduceLT Int.reduceLE Int.reduceNeg Int.reduceAdd Int.reduceMul Int.reduceSub Nat.reduceLeDiff reduceIte if_t if_f ite_true decide_true decide_false Bool.not_true Bool.not_false Nat.reduceEqDiff Bool.false_eq_true Option.isNone_none Option.isNone_some Ds String.reduceBEq String.reduceEq beq_self_eq_true List.contains_cons List.contains_nil Bool.or_false Bool.or_true Bool.true_or Bool.false_or Bool.and_true Bool.and_false Bool.true_and Bool.false_and Bool.not_eq_true eq_self_iff_true Int.cast_ofNat_Int Int.reduceBEq Int.natCast_zero".splitOn " ").filter fun x=>!minus.contains x
   let ids:=(all ++ (r.splitOn " ").filter (· ≠ "")).toArray.map fun x=>Lean.mkIdent x.toName
   let args ← ids.mapM fun i=>`(Lean.Parser.Tactic.simpLemma| $i:term)
   `(tactic| simp only [$args,*])
namespace K6
open PySem L2 MX DL
def top (i:Nat):Stmt:=PySem.Challenge.pw_mustmay_k04_begun_and_free.main.body.getD i (.Pass ⟨0,0,0,0⟩)
structure Ad where
 Door:Addr
 Must:Addr
 May:Addr
 Shut:Addr
 Torn:Addr
 Draft:Addr
 Plan:Addr
 BadPlan:Addr
 Unlike:Addr
 Cu:Addr
 aia:Addr
 HallError:Addr
def Ga (t:Ad):Nat→Option Addr:=fun c=>[t.Door,t.Must,t.May,t.Shut,t.Torn,t.Draft,t.Plan,t.BadPlan,t.Unlike][c]?
abbrev jY:Nat:=1
abbrev uX:Nat:=2
abbrev jP:Nat:=3
abbrev jQ:Nat:=4
abbrev eV:Nat:=5
abbrev aV:Nat:=6
abbrev dB:Nat:=7
abbrev xH:Nat:=8
def yq:D→Option Bool:=isiX [(xH,true)]
def tK:D→Option Bool:=zE "bool" []
def Jp:D→Option Bool:=zE "int" []
def fJ:D→Option Bool:=zE "list" []
def nq:D→Option Bool:=zE "str" []
def lw:D→Option Bool:=zE "tuple" []
def fP:Nat→Bool:=fun c=>c == dB || c == xH
def jb:Nat→Bool:=fun c=>c == dB
structure Txt (K:PySem.W.Frag) (mg:Str→Option Value) (t:Ad):Prop where
 g_Door:mg "Door" = some (.ref t.Door)
 i_Door:qy K t.Door
 g_Must:mg "Must" = some (.ref t.Must)
 Bt:qy K t.Must
 g_May:mg "May" = some (.ref t.May)
 M3:qy K t.May
 g_Shut:mg "Shut" = some (.ref t.Shut)
 Bu:qy K t.Shut
 g_Torn:mg "Torn" = some (.ref t.Torn)
 Bv:qy K t.Torn
 g_Draft:mg "Draft" = some (.ref t.Draft)
 pJ:qy K t.Draft
 agA:mg "Plan" = some (.ref t.Plan)
 vJ:qy K t.Plan
 wF:mg "BadPlan" = some (.ref t.BadPlan)
 aeA:mg "Unlike" = some (.ref t.Unlike)
 My:mg "HallError" = some (.ref t.HallError)
 Zn:Dd K t.HallError "__init__" (.builtin "ValueError.__init__")
 gG:ExcC K t.BadPlan t.Cu
 eZ:cM K t.BadPlan "room"
 di:cM K t.BadPlan "action"
 JR:ExcC K t.Unlike t.aia
 wQ:PySem.W.nsIn K t.aia "__init__" = some none
 fP:Xf K (Ga t) t.HallError fP
 jb:Xf K (Ga t) t.BadPlan jb
 dX:cM K t.Draft "actions"
 cV:cM K t.Draft "rooms"
 oN:cM K t.May "to"
 kW:cM K t.Must "to"
 eY:cM K t.Plan "actions"
 dR:cM K t.Plan "rooms"
 kY:cM K t.Shut "to"
 kZ:cM K t.Torn "to"
 b_all:mg "all" = none
 b_bool:mg "bool" = none
 b_dict:mg "dict" = none
 Af:mg "enumerate" = none
 b_int:mg "int" = none
 cO:mg "isinstance" = none
 pP:mg "len" = none
 Zm:mg "list" = none
 xG:mg "range" = none
 b_set:mg "set" = none
 b_str:mg "str" = none
 Ie:mg "tuple" = none
 yq:DY K (Ga t) (.ref t.Unlike) yq
 tK:DY K (Ga t) (.ty "bool") tK
 Jp:DY K (Ga t) (.ty "int") Jp
 fJ:DY K (Ga t) (.ty "list") fJ
 nq:DY K (Ga t) (.ty "str") nq
 lw:DY K (Ga t) (.ty "tuple") lw
 wy:∃ u,mg "LETTERS" = some u∧RelV (.str "abcdefghijklmnopqrstuvwxyz") u
 iZ:∃ u,mg "MOST_ACTIONS" = some u∧RelV (.int 8) u
 mK:∃ u,mg "MOST_ROOMS" = some u∧RelV (.int 2000) u
 mL:∃ u,mg "MOST_SIGNS" = some u∧RelV (.int 8) u
section
variable {P:Program} {w:World} {K:PySem.W.Frag} {mg:Str→Option Value} {base:Heap} {t:Ad} {f:Addr} {fd:FuncData}
abbrev lG:Stmt:=inClass (top 2) 0
abbrev lM:Stmt:=inClass (top 5) 0
abbrev lO:Stmt:=inClass (top 6) 0
def wV:List D→Out (List (Str × D)):=fun ds=>match ds with
 | [d]=>.ok [("to",d)]
 | _=>.stuck
def Qj:List D→Out (List (Str × D)):=wV
def wW:List D→Out (List (Str × D)):=fun ds=>match ds with
 | []=>.ok [("to",.non)]
 | _=>.stuck
def zP:List D→Out (List (Str × D)):=wW
def adf (K:PySem.W.Frag):Sp:=fun vs H Q _=>∃ a C dx v,vs = [.ref a,v]∧H a = some (.ins C dx [])∧Cls K C∧cM K C "to"∧Q .non (upd H a (.ins C dx [("to",v)]))
theorem acJ:aN ["self","to"] ["self","to"] (ak lG):=⟨rfl,rfl,rfl,by decide +kernel,rfl,by decide +kernel,by decide +kernel⟩
theorem abQ {f:Addr} {fd:FuncData} (F:L2.Fun K "__init__" "Door.__init__" lG f fd):bf P w K mg base CX0 1 f fd ["self","to"] (adf K):=by
 refine F.ok acJ (fun vs H Q E h=>?_) (fun cdv A outer s H vs Q E hr h=>?_)
 · obtain ⟨a,C,dx,v,rfl,_⟩:=h
   rfl
 · obtain ⟨a,C,dx,v,rfl,hH,cl,na,q⟩:=h
   refine ⟨_,pM (ahk (pv 0) (pv 1) rfl),?_⟩
   exact ⟨_,rfl,_,rfl,a,C,dx,_,rfl,hH,cl,na,(by decide),q⟩
theorem adg {K:PySem.W.Frag} {Γ:Nat→Option Addr} {G H:Hp} {a C dx:Addr} {v:V} {d:D} {f:Str} {Q:VK} (ga:G a = none) (sg:bz G H) (r:Rep K Γ G v d)
   (w:∀ fs G' H',bz G G'→(∀ b o,H b = some o→b ≠ a→H' b = some o)→bz G' H'→(∀ b,H b ≠ none→G b = none→G' b = none)→H' a = some (.ins C dx fs)→mG K Γ G' fs [(f,d)]→Q .non H'):Q .non (upd H a (.ins C dx [(f,v)])) :=
 w [(f,v)] G _ (bz.refl _) (fun b o e hb=>by rw [az hb]; exact e) (fun b o e=>by rw [az (aK e ga)]; exact sg _ _ e) (fun _ _ g=>g) aG (.cons r .nil)
theorem ok_to {c:Nat} {f C0:Addr} {fd:FuncData} (F:bf P w K mg base CX0 1 f fd ["self","to"] (adf K)) (hc:Ga t c = some C0) (cl:Cls K C0) (na:cM K C0 "to"):bf P w K mg base CX0 1 f fd ["self","to"] (spI K (Ga t) c 1 wV):=F.imp fun vs H Q E h=>by
 obtain ⟨hl,a,dx,C,us,G,ds,rfl,hH,hC,ga,sg,r,w⟩:=h
 rw [hc] at hC
 cases hC
 cases r with
 | nil=>cases hl
 | cons r1 r2 =>
   cases r2 with
   | cons _ _=>cases hl
   | nil=>exact ⟨a,C0,dx,_,rfl,hH,cl,na,adg ga sg r1 w⟩
theorem acO:aN ["self"] ["self"] (ak lM):=⟨rfl,rfl,rfl,by decide +kernel,rfl,by decide +kernel,by decide +kernel⟩
theorem acQ:aN ["self"] ["self"] (ak lO):=⟨rfl,rfl,rfl,by decide +kernel,rfl,by decide +kernel,by decide +kernel⟩
theorem abV {f fD:Addr} {fd fdD:FuncData} (F:L2.Fun K "__init__" "Shut.__init__" lM f fd) (T:Txt K mg t) (G0:bf P w K mg base CX0 1 fD fdD ["self","to"] (adf K)) (ca:Dd K t.Door "__init__" (.ref fD)) (hk:PySem.W.keepIn K (.ref fD) = true) (hb:Binds K fdD ["self","to"] []):bf P w K mg base CX0 2 f fd ["self"] (spI K (Ga t) jP 0 wW):=by
 refine F.ok acO (fun vs H Q E h=>h.1) (fun cdv A outer s H vs Q E hr h=>?_)
 obtain ⟨hl,a,dx,C,us,G,ds,rfl,hH,hC,ga,sg,r,w⟩:=h
 cases hC
 cases r with
 | cons _ _=>cases hl
 | nil =>
   refine ⟨_,pM (iJ (ae1 G0 hr rfl T.g_Door ca hk hb .nil pass0 (bK (pv 0) (bK ahd eG)))),?_⟩
   exact ⟨_,rfl,a,_,dx,_,rfl,hH,T.Bu.cls,T.kY,adg ga sg .non w⟩
theorem abX {f fD:Addr} {fd fdD:FuncData} (F:L2.Fun K "__init__" "Torn.__init__" lO f fd) (T:Txt K mg t) (G0:bf P w K mg base CX0 1 fD fdD ["self","to"] (adf K)) (ca:Dd K t.Door "__init__" (.ref fD)) (hk:PySem.W.keepIn K (.ref fD) = true) (hb:Binds K fdD ["self","to"] []):bf P w K mg base CX0 2 f fd ["self"] (spI K (Ga t) jQ 0 zP):=by
 refine F.ok acQ (fun vs H Q E h=>h.1) (fun cdv A outer s H vs Q E hr h=>?_)
 obtain ⟨hl,a,dx,C,us,G,ds,rfl,hH,hC,ga,sg,r,w⟩:=h
 cases hC
 cases r with
 | cons _ _=>cases hl
 | nil =>
   refine ⟨_,pM (iJ (ae1 G0 hr rfl T.g_Door ca hk hb .nil pass0 (bK (pv 0) (bK ahd eG)))),?_⟩
   exact ⟨_,rfl,a,_,dx,_,rfl,hH,T.Bv.cls,T.kZ,adg ga sg .non w⟩
abbrev lK:Stmt:=inClass (top 3) 0
theorem acM:aN ["self"] ["self"] (ak lK):=⟨rfl,rfl,rfl,by decide +kernel,rfl,by decide +kernel,by decide +kernel⟩
def Mz:DSt→Out Fl:=(bR (kc (.str "must")))
def zL:List D→Out D:=fun ds=>(cZ 1 Mz ds).bD
theorem abT (F:L2.Fun K "word" "Must.word" lK f fd) (T:Txt K mg t) :bf P w K mg base CX0 1 f fd ["self"] (spD K (Ga t) 1 zL):=by
 refine DL.Fun.okD F acM fun cdv A outer s H E hr=>?_
 exact (aF (aY cD))
abbrev oV:Stmt:=inClass (top 4) 0
theorem afd:aN ["self"] ["self"] (ak oV):=⟨rfl,rfl,rfl,by decide +kernel,rfl,by decide +kernel,by decide +kernel⟩
def Rw:DSt→Out Fl:=(bR (kc (.str "may")))
def Fp:List D→Out D:=fun ds=>(cZ 1 Rw ds).bD
theorem aeT (F:L2.Fun K "word" "May.word" oV f fd) (T:Txt K mg t) :bf P w K mg base CX0 1 f fd ["self"] (spD K (Ga t) 1 Fp):=by
 refine DL.Fun.okD F afd fun cdv A outer s H E hr=>?_
 exact (aF (aY cD))
abbrev lN:Stmt:=inClass (top 5) 1
theorem acP:aN ["self"] ["self"] (ak lN):=⟨rfl,rfl,rfl,by decide +kernel,rfl,by decide +kernel,by decide +kernel⟩
def MF:DSt→Out Fl:=(bR (kc (.str "shut")))
def zM:List D→Out D:=fun ds=>(cZ 1 MF ds).bD
theorem abW (F:L2.Fun K "word" "Shut.word" lN f fd) (T:Txt K mg t) :bf P w K mg base CX0 1 f fd ["self"] (spD K (Ga t) 1 zM):=by
 refine DL.Fun.okD F acP fun cdv A outer s H E hr=>?_
 exact (aF (aY cD))
abbrev lQ:Stmt:=inClass (top 6) 1
theorem acR:aN ["self"] ["self"] (ak lQ):=⟨rfl,rfl,rfl,by decide +kernel,rfl,by decide +kernel,by decide +kernel⟩
def MJ:DSt→Out Fl:=(bR (kc (.str "torn")))
def zN:List D→Out D:=fun ds=>(cZ 1 MJ ds).bD
theorem abY (F:L2.Fun K "word" "Torn.word" lQ f fd) (T:Txt K mg t) :bf P w K mg base CX0 1 f fd ["self"] (spD K (Ga t) 1 zN):=by
 refine DL.Fun.okD F acR fun cdv A outer s H E hr=>?_
 exact (aF (aY cD))
def JL:List (Nat × (List D→Out D)):=[(jY,zL),(uX,Fp),(jP,zM),(jQ,zN)]
abbrev jG:Stmt:=inClass (top 3) 1
theorem WT:aN ["self"] ["self"] (ak jG):=⟨rfl,rfl,rfl,by decide +kernel,rfl,by decide +kernel,by decide +kernel⟩
def aaB:DSt→Out Fl:=(bR (kc (.bl true)))
def Yy:List D→Out D:=fun ds=>(cZ 1 aaB ds).bD
theorem Wk (F:L2.Fun K "needs" "Must.needs" jG f fd) (T:Txt K mg t) :bf P w K mg base CX0 1 f fd ["self"] (spD K (Ga t) 1 Yy):=by
 refine DL.Fun.okD F WT fun cdv A outer s H E hr=>?_
 exact (aF (aY mQ))
abbrev lJ:Stmt:=inClass (top 4) 1
theorem acL:aN ["self"] ["self"] (ak lJ):=⟨rfl,rfl,rfl,by decide +kernel,rfl,by decide +kernel,by decide +kernel⟩
def aez:DSt→Out Fl:=(bR (kc (.bl false)))
def adv:List D→Out D:=fun ds=>(cZ 1 aez ds).bD
theorem abS (F:L2.Fun K "needs" "May.needs" lJ f fd) (T:Txt K mg t) :bf P w K mg base CX0 1 f fd ["self"] (spD K (Ga t) 1 adv):=by
 refine DL.Fun.okD F acL fun cdv A outer s H E hr=>?_
 exact (aF (aY mQ))
abbrev jH:Stmt:=inClass (top 5) 2
theorem WW:aN ["self"] ["self"] (ak jH):=⟨rfl,rfl,rfl,by decide +kernel,rfl,by decide +kernel,by decide +kernel⟩
def aaC:DSt→Out Fl:=(bR (kc (.bl false)))
def Yz:List D→Out D:=fun ds=>(cZ 1 aaC ds).bD
theorem Wl (F:L2.Fun K "needs" "Shut.needs" jH f fd) (T:Txt K mg t) :bf P w K mg base CX0 1 f fd ["self"] (spD K (Ga t) 1 Yz):=by
 refine DL.Fun.okD F WW fun cdv A outer s H E hr=>?_
 exact (aF (aY mQ))
abbrev jJ:Stmt:=inClass (top 6) 2
theorem WX:aN ["self"] ["self"] (ak jJ):=⟨rfl,rfl,rfl,by decide +kernel,rfl,by decide +kernel,by decide +kernel⟩
def aaD:DSt→Out Fl:=(bR (kc (.bl true)))
def YB:List D→Out D:=fun ds=>(cZ 1 aaD ds).bD
theorem Wm (F:L2.Fun K "needs" "Torn.needs" jJ f fd) (T:Txt K mg t) :bf P w K mg base CX0 1 f fd ["self"] (spD K (Ga t) 1 YB):=by
 refine DL.Fun.okD F WX fun cdv A outer s H E hr=>?_
 exact (aF (aY mQ))
abbrev ik:Stmt:=inClass (top 3) 2
theorem Tw:aN ["self"] ["self"] (ak ik):=⟨rfl,rfl,rfl,by decide +kernel,rfl,by decide +kernel,by decide +kernel⟩
def VB:DSt→Out Fl:=(bR (kc (.bl true)))
def Uh:List D→Out D:=fun ds=>(cZ 1 VB ds).bD
theorem Sy (F:L2.Fun K "allows" "Must.allows" ik f fd) (T:Txt K mg t) :bf P w K mg base CX0 1 f fd ["self"] (spD K (Ga t) 1 Uh):=by
 refine DL.Fun.okD F Tw fun cdv A outer s H E hr=>?_
 exact (aF (aY mQ))
abbrev jF:Stmt:=inClass (top 4) 2
theorem WR:aN ["self"] ["self"] (ak jF):=⟨rfl,rfl,rfl,by decide +kernel,rfl,by decide +kernel,by decide +kernel⟩
def aaA:DSt→Out Fl:=(bR (kc (.bl true)))
def Yx:List D→Out D:=fun ds=>(cZ 1 aaA ds).bD
theorem Wj (F:L2.Fun K "allows" "May.allows" jF f fd) (T:Txt K mg t) :bf P w K mg base CX0 1 f fd ["self"] (spD K (Ga t) 1 Yx):=by
 refine DL.Fun.okD F WR fun cdv A outer s H E hr=>?_
 exact (aF (aY mQ))
abbrev il:Stmt:=inClass (top 5) 3
theorem Tz:aN ["self"] ["self"] (ak il):=⟨rfl,rfl,rfl,by decide +kernel,rfl,by decide +kernel,by decide +kernel⟩
def VD:DSt→Out Fl:=(bR (kc (.bl false)))
def Ui:List D→Out D:=fun ds=>(cZ 1 VD ds).bD
theorem SJ (F:L2.Fun K "allows" "Shut.allows" il f fd) (T:Txt K mg t) :bf P w K mg base CX0 1 f fd ["self"] (spD K (Ga t) 1 Ui):=by
 refine DL.Fun.okD F Tz fun cdv A outer s H E hr=>?_
 exact (aF (aY mQ))
abbrev ir:Stmt:=inClass (top 6) 3
theorem TJ:aN ["self"] ["self"] (ak ir):=⟨rfl,rfl,rfl,by decide +kernel,rfl,by decide +kernel,by decide +kernel⟩
def VF:DSt→Out Fl:=(bR (kc (.bl false)))
def Uj:List D→Out D:=fun ds=>(cZ 1 VF ds).bD
theorem SM (F:L2.Fun K "allows" "Torn.allows" ir f fd) (T:Txt K mg t) :bf P w K mg base CX0 1 f fd ["self"] (spD K (Ga t) 1 Uj):=by
 refine DL.Fun.okD F TJ fun cdv A outer s H E hr=>?_
 exact (aF (aY mQ))
abbrev oW:Stmt:=inClass (top 3) 3
theorem afe:aN ["self","to"] ["self","to"] (ak oW):=⟨rfl,rfl,rfl,by decide +kernel,rfl,by decide +kernel,by decide +kernel⟩
def Rx:DSt→Out Fl:=(bR (oMk jY 1 wV (aj (gv 1) aA)))
def Fq:List D→Out D:=fun ds=>(cZ 2 Rx ds).bD
theorem aeU (F:L2.Fun K "led" "Must.led" oW f fd) (T:Txt K mg t) (J1:Ini P w K mg base t.Must 1 ["self","to"] (spI K (Ga t) jY 1 wV)):bf P w K mg base CX0 3 f fd ["self","to"] (spD K (Ga t) 2 Fq):=by
 obtain ⟨f_Must,fd_Must,afC,afy,afX⟩:=J1.ex
 refine DL.Fun.okD F afe fun cdv A outer s H E hr=>?_
 exact (aF (aY (Rr (c:=jY) rfl (yZ afC afy (hr.mono (by decide)) rfl T.g_Must afX .nil bj (ao (aq 1 (pv 1)) aH)))))
abbrev rF:Stmt:=inClass (top 4) 3
theorem ahp:aN ["self","to"] ["self","to"] (ak rF):=⟨rfl,rfl,rfl,by decide +kernel,rfl,by decide +kernel,by decide +kernel⟩
def X5:DSt→Out Fl:=(bR (oMk uX 1 Qj (aj (gv 1) aA)))
def JW:List D→Out D:=fun ds=>(cZ 2 X5 ds).bD
theorem ag8 (F:L2.Fun K "led" "May.led" rF f fd) (T:Txt K mg t) (Xh:Ini P w K mg base t.May 1 ["self","to"] (spI K (Ga t) uX 1 Qj)):bf P w K mg base CX0 3 f fd ["self","to"] (spD K (Ga t) 2 JW):=by
 obtain ⟨f_May,fd_May,M_May,G_May,b_May⟩:=Xh.ex
 refine DL.Fun.okD F ahp fun cdv A outer s H E hr=>?_
 exact (aF (aY (Rr (c:=uX) rfl (yZ M_May G_May (hr.mono (by decide)) rfl T.g_May b_May .nil bj (ao (aq 1 (pv 1)) aH)))))
abbrev oX:Stmt:=inClass (top 5) 4
theorem afg:aN ["self","to"] ["self","to"] (ak oX):=⟨rfl,rfl,rfl,by decide +kernel,rfl,by decide +kernel,by decide +kernel⟩
def Ry:DSt→Out Fl:=(bR (oMk jP 0 wW aA))
def Ft:List D→Out D:=fun ds=>(cZ 2 Ry ds).bD
theorem aeV (F:L2.Fun K "led" "Shut.led" oX f fd) (T:Txt K mg t) (J6:Ini P w K mg base t.Shut 2 ["self"] (spI K (Ga t) jP 0 wW)):bf P w K mg base CX0 4 f fd ["self","to"] (spD K (Ga t) 2 Ft):=by
 obtain ⟨f_Shut,fd_Shut,afD,afz,afZ⟩:=J6.ex
 refine DL.Fun.okD F afg fun cdv A outer s H E hr=>?_
 exact (aF (aY (aar (c:=jP) rfl (Jy afD afz (hr.mono (by decide)) rfl T.g_Shut afZ .nil bj))))
abbrev oY:Stmt:=inClass (top 6) 4
theorem afh:aN ["self","to"] ["self","to"] (ak oY):=⟨rfl,rfl,rfl,by decide +kernel,rfl,by decide +kernel,by decide +kernel⟩
def Rz:DSt→Out Fl:=(bR (oMk jQ 0 zP aA))
def Fv:List D→Out D:=fun ds=>(cZ 2 Rz ds).bD
theorem aeW (F:L2.Fun K "led" "Torn.led" oY f fd) (T:Txt K mg t) (J7:Ini P w K mg base t.Torn 2 ["self"] (spI K (Ga t) jQ 0 zP)):bf P w K mg base CX0 4 f fd ["self","to"] (spD K (Ga t) 2 Fv):=by
 obtain ⟨f_Torn,fd_Torn,afE,afA,af1⟩:=J7.ex
 refine DL.Fun.okD F afh fun cdv A outer s H E hr=>?_
 exact (aF (aY (aar (c:=jQ) rfl (Jy afE afA (hr.mono (by decide)) rfl T.g_Torn af1 .nil bj))))
def JK:List (Nat × (List D→Out D)):=[(jY,Fq),(uX,JW),(jP,Ft),(jQ,Fv)]
abbrev lH:Stmt:=inClass (top 2) 1
theorem acK:aN ["self"] ["self"] (ak lH):=⟨rfl,rfl,rfl,by decide +kernel,rfl,by decide +kernel,by decide +kernel⟩
def Mw:DSt→Out Fl:=(bR (cU (aj (oM "word" 1 JL (gv 0) aA) (aj (Cw "to" [jY,uX,jP,jQ] (gv 0)) aA))))
def iM:List D→Out D:=fun ds=>(cZ 1 Mw ds).bD
theorem abR (F:L2.Fun K "told" "Door.told" lH f fd) (T:Txt K mg t) (afF:iK P w K mg base (Ga t) "word" (spD K (Ga t) 1) 1 JL):bf P w K mg base CX0 2 f fd ["self"] (spD K (Ga t) 1 iM):=by
 refine DL.Fun.okD F acK fun cdv A outer s H E hr=>?_
 exact (aF (aY (oA (ao (gf (dY (afF.ok (hr.mono (by decide))) bj (aq 0 (pv 0)))) (ao (Km (cs:=[jY,uX,jP,jQ]) ⟨⟨t.Must,rfl,T.Bt.cls,T.kW⟩,⟨t.May,rfl,T.M3.cls,T.oN⟩,⟨t.Shut,rfl,T.Bu.cls,T.kY⟩,⟨t.Torn,rfl,T.Bv.cls,T.kZ⟩,trivial⟩ (aq 0 (pv 0))) aH)))))
def uf:List (Nat × (List D→Out D)):=[(jY,iM),(uX,iM),(jP,iM),(jQ,iM)]
abbrev rG:Stmt:=top 7
theorem ahq:aN ["needs","allows","to"] ["needs","allows","to"] (ak rG):=⟨rfl,rfl,rfl,by decide +kernel,rfl,by decide +kernel,by decide +kernel⟩
def X6:DSt→Out Fl:=(bF (sIf (andT (tst (gb 0)) (tst (gb 1))) (bR (oMk jY 1 wV (aj (gv 2) aA))) iz)
 (bF (sIf (tst (gb 1)) (bR (oMk uX 1 Qj (aj (gv 2) aA))) iz)
 (bF (sIf (tst (gb 0)) (bR (oMk jQ 0 zP aA)) iz)
 (bR (oMk jP 0 wW aA)))))
def rB:List D→Out D:=fun ds=>(cZ 3 X6 ds).bD
theorem ag9 (F:L2.Fun K "door_of" "door_of" rG f fd) (T:Txt K mg t) (J1:Ini P w K mg base t.Must 1 ["self","to"] (spI K (Ga t) jY 1 wV)) (Xh:Ini P w K mg base t.May 1 ["self","to"] (spI K (Ga t) uX 1 Qj)) (J7:Ini P w K mg base t.Torn 2 ["self"] (spI K (Ga t) jQ 0 zP)) (J6:Ini P w K mg base t.Shut 2 ["self"] (spI K (Ga t) jP 0 wW)):bf P w K mg base CX0 4 f fd ["needs","allows","to"] (spD K (Ga t) 3 rB):=by
 obtain ⟨f_Must,fd_Must,afC,afy,afX⟩:=J1.ex
 obtain ⟨f_May,fd_May,M_May,G_May,b_May⟩:=Xh.ex
 obtain ⟨f_Torn,fd_Torn,afE,afA,af1⟩:=J7.ex
 obtain ⟨f_Shut,fd_Shut,afD,afz,afZ⟩:=J6.ex
 refine DL.Fun.okD F ahq fun cdv A outer s H E hr=>?_
 exact (bA (iC (N6 (dw_and (kJ (aU 0 (pv 0))) (dw_and1 (kJ (aU 1 (pv 1)))))) (aF (aY (Rr (c:=jY) rfl (yZ afC afy (hr.mono (by decide)) rfl T.g_Must afX .nil bj (ao (aq 2 (pv 2)) aH))))) cC)
     (bA (iC (kJ (aU 1 (pv 1))) (aF (aY (Rr (c:=uX) rfl (yZ M_May G_May (hr.mono (by decide)) rfl T.g_May b_May .nil bj (ao (aq 2 (pv 2)) aH))))) cC)
     (bA (iC (kJ (aU 0 (pv 0))) (aF (aY (aar (c:=jQ) rfl (Jy afE afA (hr.mono (by decide)) rfl T.g_Torn af1 .nil bj)))) cC)
     (aF (aY (aar (c:=jP) rfl (Jy afD afz (hr.mono (by decide)) rfl T.g_Shut afZ .nil bj)))))))
abbrev gw:Stmt:=inClass (top 10) 0
theorem O7:aN ["self","room","action"] ["self","room","action"] (ak gw):=⟨rfl,rfl,rfl,by decide +kernel,rfl,by decide +kernel,by decide +kernel⟩
theorem Ot {f:Addr} {fd:FuncData} (F:L2.Fun K "__init__" "BadPlan.__init__" gw f fd) (T:Txt K mg t):bf P w K mg base CX0 1 f fd ["self","room","action"] (spX2 t.BadPlan "room" "action"):=by
 refine F.ok O7 (fun vs H Q E h=>?_) (fun cdv A outer s H vs Q E hr h=>?_)
 · obtain ⟨e,v,u,rfl,_⟩:=h
   rfl
 · obtain ⟨e,v,u,rfl,ov,ou,hH,k⟩:=h
   refine ⟨_,wL (iJ (ae0 rfl T.My T.Zn (bK (pv 0) (bK (pe_fstr (JB px_lit (JB (px_fld (pv 1)) (JB px_lit (JB (px_fld (pv 2)) pxs_nil)))) (by decide)) eG))))
     (wL (aie (pv 0) (pv 1) rfl) (pM (aie (pv 0) (pv 2) rfl))),?_⟩
   refine ⟨_,rfl,(by decide),_,rfl,ov,ah0 ov,(by decide),_,rfl,ou,ah0 ou,?_⟩
   refine ⟨true,e,t.BadPlan,t.Cu,none,_,rfl,(by show 1 ≤ 1000; decide),hH,T.gG,?_⟩
   refine ⟨_,rfl,_,rfl,true,e,t.BadPlan,rfl,T.gG.toExcGet,T.eZ,.inl ⟨hH,fun d hd ne=>?_⟩⟩
   refine ⟨_,rfl,_,rfl,true,e,t.BadPlan,rfl,T.gG.toExcGet,T.di,.inr ⟨d,[("room",v)],aG,(by rw [az ne,aG]),(by show 1 < 900; decide),?_⟩⟩
   have rn:¬ (("room":Str) = "action"):=by decide +kernel
   have ef:j8 "action" u [(("room":Str),v)] = [(("room":Str),v),(("action":Str),u)]:=by
     show (if ("room":Str) = "action" then _ else (("room":Str),v) :: j8 "action" u []) = _
     rw [if_neg rn]
     rfl
   refine k d _ hd (by rw [az ne.symm,aG]) (by rw [aG,ef]) fun b o q hb=>?_
   have nb:b ≠ d:=aK q hd
   rw [az nb,az hb,az nb]
   exact q
abbrev rH:Stmt:=top 17
theorem ahr:aN ["thing"] ["thing"] (ak rH):=⟨rfl,rfl,rfl,by decide +kernel,rfl,by decide +kernel,by decide +kernel⟩
def Cp:DSt→Out D:=(bV (o2b inD (gb 0) (kc (.str "abcdefghijklmnopqrstuvwxyz"))))
def X7:DSt→Out Fl:=(bF (sIf (orT (qu (tst (Cy nq (gb 0)))) (qu (o3 leD leD (kc (.int 1)) (o1 ji (gb 0)) (kc (.int 8))))) (bR (kc (.bl false))) iz)
 (bR (o1 allD (j4 (cW [none] (strO (gv 0)) (gN 0) (fun _=>.ok true) Cp)))))
def jo:List D→Out D:=fun ds=>(cZ 1 X7 ds).bD
theorem aha (F:L2.Fun K "is_name" "is_name" rH f fd) (T:Txt K mg t) :bf P w K mg base CX0 1 f fd ["thing"] (spD K (Ga t) 1 jo):=by
 obtain ⟨u_MOST_SIGNS,aaG,acB⟩:=T.mL
 obtain ⟨u_LETTERS,aiN,ajf⟩:=T.wy
 refine DL.Fun.okD F ahr fun cdv A outer s H E hr=>?_
 exact (bA (iC (N6 (zy (mU (kJ (bh (vz (cv:=.ty "str") (.inr rfl) T.nq rfl T.cO (aU 0 (pv 0)) (rz rfl T.b_str (by decide +kernel) rfl))))) (sX (mU (aat (bh aM) (bh (jU rfl T.pP (aU 0 (pv 0)))) (bh (de_c (Jx (v:=.int 8) rfl aaG acB) (fun _=>.int _)))))))) (aF (aY mQ)) cC)
     (aF (aY (de_all rfl rfl T.b_all (bh (uz (fZ (fun a b c d=>cX (N':=["sign"]) (cap:=[none]) ⟨rfl,rfl,by decide +kernel,by decide +kernel,by rfl,trivial,⟨trivial,trivial⟩⟩ rfl a b c d) (di_str (aq 0 (pv 0))) (zG 0) (fun _ _ _ _ _=>(bG (bH (i:=0) (show (["sign"]:List Str).Nodup by decide +kernel) rfl (by walk_at "o")))) (fun _ _ _ _ _=>iD) (fun _ _ _ _ _=>(de_in (aU 0 (pv 0)) (bh (de_c (Jx (v:=.str "abcdefghijklmnopqrstuvwxyz") rfl aiN ajf) (fun _=>.str _))))))))))))
abbrev dZ:Stmt:=top 18
theorem JD:aN ["thing"] ["thing"] (ak dZ):=⟨rfl,rfl,rfl,by decide +kernel,rfl,by decide +kernel,by decide +kernel⟩
def kO:DSt→Out D:=(oF 1 jo (aj (gv 0) aA))
def jw:DSt→Out Fl:=(bF (sIf (orT (qu (tst (Cy fJ (gb 0)))) (qu (o3 leD leD (kc (.int 1)) (o1 ji (gb 0)) (kc (.int 8))))) (bR (kc (.bl false))) iz)
 (bR (HQ (o1 allD (j4 (cW [none] (fV (gv 0)) (gN 0) (fun _=>.ok true) kO))) (bV (o2b eqD (o1 R4 (gv 0)) (o1 ji (gb 0)))))))
def bx:List D→Out D:=fun ds=>(cZ 1 jw ds).bD
theorem Ju (F:L2.Fun K "is_action_list" "is_action_list" dZ f fd) (T:Txt K mg t) (rA:Def P w K mg base "is_name" 1 ["thing"] (spD K (Ga t) 1 jo)):bf P w K mg base CX0 2 f fd ["thing"] (spD K (Ga t) 1 bx):=by
 obtain ⟨u_MOST_ACTIONS,RB,Tp⟩:=T.iZ
 obtain ⟨wB,agx,JZ,wu,oK,lz⟩:=rA.ex
 refine DL.Fun.okD F JD fun cdv A outer s H E hr=>?_
 exact (bA (iC (N6 (zy (mU (kJ (bh (vz (cv:=.ty "list") (.inr rfl) T.fJ rfl T.cO (aU 0 (pv 0)) (rz rfl T.Zm (by decide +kernel) rfl))))) (sX (mU (aat (bh aM) (bh (jU rfl T.pP (aU 0 (pv 0)))) (bh (de_c (Jx (v:=.int 8) rfl RB Tp) (fun _=>.int _)))))))) (aF (aY mQ)) cC)
     (aF (aY (Kl (de_all rfl rfl T.b_all (bh (uz (fZ (fun a b c d=>cX (N':=["name"]) (cap:=[none]) ⟨rfl,rfl,by decide +kernel,by decide +kernel,by rfl,trivial,⟨trivial,trivial⟩⟩ rfl a b c d) (mR (aq 0 (pv 0))) (zG 0) (fun _ _ _ _ _=>(bG (bH (i:=0) (show (["name"]:List Str).Nodup by decide +kernel) rfl (by walk_at "o")))) (fun _ _ _ _ _=>iD) (fun _ _ _ _ _=>(bM (aR JZ (hr.mono (by decide)) rfl oK lz wu .nil bj (ao (aq 0 (pv 0)) aH)))))))) (Be (Mv hr.units (bh (aiH rfl rfl T.pP rfl T.b_set (aq 0 (pv 0)))) (bh (jU rfl T.pP (aU 0 (pv 0))))))))))
abbrev gF:Stmt:=top 19
theorem Pa:aN ["actions"] ["actions"] (ak gF):=⟨rfl,rfl,rfl,by decide +kernel,rfl,by decide +kernel,by decide +kernel⟩
def tH:DSt→Out Fl:=(sIf (qu (tst (oF 1 bx (aj (gv 0) aA)))) (zc dB "room" "action" (aj (o1 yW (kc (.int 1))) (aj (o1 yW (kc (.int 1))) aA))) iz)
def bI:List D→Out D:=fun ds=>cZ 1 tH ds
theorem Ox (F:L2.Fun K "need_actions" "need_actions" gF f fd) (T:Txt K mg t) (nZ:Def P w K mg base "is_action_list" 2 ["thing"] (spD K (Ga t) 1 bx)) (n6:XIni P w K mg base t.Cu 1 ["self","room","action"] (spX2 t.BadPlan "room" "action")):bf P w K mg base (CX1 P w) 3 f fd ["actions"] (spD K (Ga t) 1 bI):=by
 obtain ⟨jt,ahY,JX,n8,gm,dW⟩:=nZ.ex
 obtain ⟨aiK,agu,rY,rZ,v7,wk⟩:=n6.ex
 refine PN F Pa fun cdv A outer s H E hr=>?_
 exact (aF (iC (mU (kJ (bh (bM (aR JX (hr.mono (by decide)) rfl gm dW n8 .nil bj (ao (aq 0 (pv 0)) aH)))))) (aF (Di (c:=dB) rfl T.gG rY rZ v7 (hr.mono (by decide)) wk thr1 rfl rfl T.wF (ao (Bd aM) (ao (Bd aM) aH)))) cC))
abbrev rJ:Stmt:=top 20
theorem ahs:aN ["thing","many"] ["thing","many"] (ak rJ):=⟨rfl,rfl,rfl,by decide +kernel,rfl,by decide +kernel,by decide +kernel⟩
def X8:DSt→Out Fl:=(bR (HQ (Cy Jp (gb 0)) (HQ (notV (Cy tK (gb 0))) (bV (o3 leD ltD (kc (.int 0)) (gb 0) (gb 1))))))
def rC:List D→Out D:=fun ds=>(cZ 2 X8 ds).bD
theorem ahb (F:L2.Fun K "is_room" "is_room" rJ f fd) (T:Txt K mg t) :bf P w K mg base CX0 1 f fd ["thing","many"] (spD K (Ga t) 2 rC):=by
 refine DL.Fun.okD F ahs fun cdv A outer s H E hr=>?_
 exact (aF (aY (Kl (vz (cv:=.ty "int") (.inr rfl) T.Jp rfl T.cO (aU 0 (pv 0)) (rz rfl T.b_int (by decide +kernel) rfl)) (Kl (de_not (vz (cv:=.ty "bool") (.inr rfl) T.tK rfl T.cO (aU 0 (pv 0)) (rz rfl T.b_bool (by decide +kernel) rfl))) (Be (de_lelt (bh aM) (aU 0 (pv 0)) (aU 1 (pv 1))))))))
abbrev gD:Stmt:=top 21
theorem zA:aN ["thing","many","torn_too","word"] ["thing","many","torn_too"] (ak gD):=⟨rfl,rfl,rfl,by decide +kernel,rfl,by decide +kernel,by decide +kernel⟩
def Bs:DSt→Out Fl:=(bF (sIf (orT (qu (tst (Cy lw (gb 0)))) (o2b neD (o1 ji (gb 0)) (kc (.int 2)))) (bR (kc (.bl false))) iz)
 (bF (dJ 3 (o2 ixD (gvo 0) (kc (.int 0))))
 (bF (sIf (qu (tst (Cy nq (gb 3)))) (bR (kc (.bl false))) iz)
 (bF (sIf (orT (o2b eqD (gb 3) (kc (.str "must"))) (o2b eqD (gb 3) (kc (.str "may")))) (bR (oF 2 rC (aj (o2 ixD (gvo 0) (kc (.int 1))) (aj (gv 1) aA)))) iz)
 (bR (HQ (bV (o2b isND (o2 ixD (gvo 0) (kc (.int 1))) (kc .non))) (orV (bV (o2b eqD (gb 3) (kc (.str "shut")))) (HQ (bV (o2b eqD (gb 3) (kc (.str "torn")))) (gv 2)))))))))
def f9:List D→Out D:=fun ds=>(cZ 4 Bs ds).bD
theorem Ow (F:L2.Fun K "is_told_door" "is_told_door" gD f fd) (T:Txt K mg t) (JT:Def P w K mg base "is_room" 1 ["thing","many"] (spD K (Ga t) 2 rC)):bf P w K mg base CX0 2 f fd ["thing","many","torn_too"] (spD K (Ga t) 3 f9):=by
 obtain ⟨Dk,fd_is_room,ais,Kf,wJ,rE⟩:=JT.ex
 refine DL.Fun.okD F zA fun cdv A outer s H E hr=>?_
 exact (bA (iC (N6 (zy (mU (kJ (bh (vz (cv:=.ty "tuple") (.inr rfl) T.lw rfl T.cO (aU 0 (pv 0)) (rz rfl T.Ie (by decide +kernel) rfl))))) (sX (zx hr.units (bh (jU rfl T.pP (aU 0 (pv 0)))) (bh aM))))) (aF (aY mQ)) cC)
     (bA (cP 3 (fun h=>cg (i:=3) zA.nd rfl (by walk_at "o") h) (vA 0 (pv 0) aM))
     (bA (iC (mU (kJ (bh (vz (cv:=.ty "str") (.inr rfl) T.nq rfl T.cO (aU 3 (pv 3)) (rz rfl T.b_str (by decide +kernel) rfl))))) (aF (aY mQ)) cC)
     (bA (iC (N6 (zy (dt_eq hr.units (aU 3 (pv 3)) (bh cD)) (sX (dt_eq hr.units (aU 3 (pv 3)) (bh cD))))) (aF (aY (bM (aR ais (hr.mono (by decide)) rfl wJ rE Kf .nil bj (ao (vA 0 (pv 0) aM) (ao (aq 1 (pv 1)) aH)))))) cC)
     (aF (aY (Kl (de_is (bh (vA 0 (pv 0) aM)) (bh Ge)) (Be (de_or (Mv hr.units (aU 3 (pv 3)) (bh cD)) (Be (Kl (Mv hr.units (aU 3 (pv 3)) (bh cD)) (Be (aq 2 (pv 2))))))))))))))
abbrev jN:Stmt:=top 22
theorem j9:aN ["rows","many_actions","torn_too","room","row","action","thing"] ["rows","many_actions","torn_too"] (ak jN):=⟨rfl,rfl,rfl,by decide +kernel,rfl,by decide +kernel,by decide +kernel⟩
def tX:DSt→Out Fl:=(sIf (qu (tst (oF 3 f9 (aj (gv 6) (aj (o1 ji (gb 0)) (aj (gv 2) aA)))))) (zc dB "room" "action" (aj (gv 3) (aj (gv 5) aA))) iz)
def tW:DSt→Out Fl:=(bF (sIf (orT (qu (tst (Cy fJ (gb 4)))) (o2b neD (o1 ji (gb 4)) (gb 1))) (zc dB "room" "action" (aj (gv 3) (aj (o1 yW (kc (.int 1))) aA))) iz)
 (qg (enum (gv 4)) (gT 2 (bO (gN 5) (bO (gN 6) j0))) tX))
def Jm:DSt→Out Fl:=(bF (sIf (orT (qu (tst (Cy fJ (gb 0)))) (qu (o3 leD leD (kc (.int 1)) (o1 ji (gb 0)) (kc (.int 2000))))) (zc dB "room" "action" (aj (o1 yW (kc (.int 1))) (aj (o1 yW (kc (.int 1))) aA))) iz)
 (qg (enum (gv 0)) (gT 2 (bO (gN 3) (bO (gN 4) j0))) tW))
def fC:List D→Out D:=fun ds=>cZ 7 Jm ds
theorem Wr (F:L2.Fun K "need_rooms" "need_rooms" jN f fd) (T:Txt K mg t) (n6:XIni P w K mg base t.Cu 1 ["self","room","action"] (spX2 t.BadPlan "room" "action")) (rO:Def P w K mg base "is_told_door" 2 ["thing","many","torn_too"] (spD K (Ga t) 3 f9)):bf P w K mg base (CX1 P w) 3 f fd ["rows","many_actions","torn_too"] (spD K (Ga t) 3 fC):=by
 obtain ⟨u_MOST_ROOMS,aaF,acA⟩:=T.mK
 obtain ⟨aiK,agu,rY,rZ,v7,wk⟩:=n6.ex
 obtain ⟨mZ,ajx,Qi,sy,jk,gk⟩:=rO.ex
 refine PN F j9 fun cdv A outer s H E hr=>?_
 exact (bA (iC (N6 (zy (mU (kJ (bh (vz (cv:=.ty "list") (.inr rfl) T.fJ rfl T.cO (aU 0 (pv 0)) (rz rfl T.Zm (by decide +kernel) rfl))))) (sX (mU (aat (bh aM) (bh (jU rfl T.pP (aU 0 (pv 0)))) (bh (de_c (Jx (v:=.int 2000) rfl aaF acA) (fun _=>.int _)))))))) (aF (Di (c:=dB) rfl T.gG rY rZ v7 (hr.mono (by decide)) wk thr1 rfl rfl T.wF (ao (Bd aM) (ao (Bd aM) aH)))) cC)
     (aF (yc (fun a b c=>za PassesOwn.leaving rfl a b c) (aaq rfl T.Af (aq 0 (pv 0))) (Rq (n:=2) (fun h=>S8 rfl h) (jZ (bG (bH (i:=3) j9.nd rfl (by walk_at "o"))) (jZ (bG (bH (i:=4) j9.nd rfl (by walk_at "o"))) Je (fun a b=>j7 a b)) (fun a b=>j7 a b))) (bA (iC (N6 (zy (mU (kJ (bh (vz (cv:=.ty "list") (.inr rfl) T.fJ rfl T.cO (aU 4 (pv 4)) (rz rfl T.Zm (by decide +kernel) rfl))))) (sX (zx hr.units (bh (jU rfl T.pP (aU 4 (pv 4)))) (aU 1 (pv 1)))))) (aF (Di (c:=dB) rfl T.gG rY rZ v7 (hr.mono (by decide)) wk thr1 rfl rfl T.wF (ao (aq 3 (pv 3)) (ao (Bd aM) aH)))) cC)
     (aF (yc (fun a b c=>za PassesOwn.leaving rfl a b c) (aaq rfl T.Af (aq 4 (pv 4))) (Rq (n:=2) (fun h=>S8 rfl h) (jZ (bG (bH (i:=5) j9.nd rfl (by walk_at "o"))) (jZ (bG (bH (i:=6) j9.nd rfl (by walk_at "o"))) Je (fun a b=>j7 a b)) (fun a b=>j7 a b))) (aF (iC (mU (kJ (bh (bM (aR Qi (hr.mono (by decide)) rfl jk gk sy .nil bj (ao (aq 6 (pv 6)) (ao (jU rfl T.pP (aU 0 (pv 0))) (ao (aq 2 (pv 2)) aH)))))))) (aF (Di (c:=dB) rfl T.gG rY rZ v7 (hr.mono (by decide)) wk thr1 rfl rfl T.wF (ao (aq 3 (pv 3)) (ao (aq 5 (pv 5)) aH)))) cC))))))))
abbrev lV:Stmt:=top 23
theorem JF:aN ["told","word"] ["told"] (ak lV):=⟨rfl,rfl,rfl,by decide +kernel,rfl,by decide +kernel,by decide +kernel⟩
def MN:DSt→Out Fl:=(bF (dJ 1 (o2 ixD (gvo 0) (kc (.int 0))))
 (bR (oF 3 rB (aj (bV (o2b inD (gb 1) (cU (aj (kc (.str "must")) (aj (kc (.str "torn")) aA))))) (aj (bV (o2b inD (gb 1) (cU (aj (kc (.str "must")) (aj (kc (.str "may")) aA))))) (aj (o2 ixD (gvo 0) (kc (.int 1))) aA))))))
def iQ:List D→Out D:=fun ds=>(cZ 2 MN ds).bD
theorem ab1 (F:L2.Fun K "made_door" "made_door" lV f fd) (T:Txt K mg t) (JS:Def P w K mg base "door_of" 4 ["needs","allows","to"] (spD K (Ga t) 3 rB)):bf P w K mg base CX0 5 f fd ["told"] (spD K (Ga t) 1 iQ):=by
 obtain ⟨Dj,fd_door_of,air,Ke,wI,rD⟩:=JS.ex
 refine DL.Fun.okD F JF fun cdv A outer s H E hr=>?_
 exact (bA (cP 1 (fun h=>cg (i:=1) JF.nd rfl (by walk_at "o") h) (vA 0 (pv 0) aM))
     (aF (aY (bM (aR air (hr.mono (by decide)) rfl wI rD Ke .nil bj (ao (de_in (aU 1 (pv 1)) (bh (oA (ao cD (ao cD aH))))) (ao (de_in (aU 1 (pv 1)) (bh (oA (ao cD (ao cD aH))))) (ao (vA 0 (pv 0) aM) aH))))))))
abbrev lW:Stmt:=top 24
theorem acU:aN ["row"] ["row"] (ak lW):=⟨rfl,rfl,rfl,by decide +kernel,rfl,by decide +kernel,by decide +kernel⟩
def vW:DSt→Out D:=(oF 1 iQ (aj (gv 0) aA))
def MP:DSt→Out Fl:=(bR (oC (Le CZ) (aj (j4 (cW [none] (fV (gv 0)) (gN 0) (fun _=>.ok true) vW)) aA)))
def iR:List D→Out D:=fun ds=>(cZ 1 MP ds).bD
theorem ab2 (F:L2.Fun K "made_room" "made_room" lW f fd) (T:Txt K mg t) (zJ:Def P w K mg base "made_door" 5 ["told"] (spD K (Ga t) 1 iQ)):bf P w K mg base CX0 6 f fd ["row"] (spD K (Ga t) 1 iR):=by
 obtain ⟨uF,fd_made_door,adz,Ag,qb,lA⟩:=zJ.ex
 refine DL.Fun.okD F acU fun cdv A outer s H E hr=>?_
 exact (aF (aY (Jc rfl T.Ie (uz (fZ (fun a b c d=>cX (N':=["told"]) (cap:=[none]) ⟨rfl,rfl,by decide +kernel,by decide +kernel,by rfl,trivial,⟨trivial,trivial⟩⟩ rfl a b c d) (mR (aq 0 (pv 0))) (zG 0) (fun _ _ _ _ _=>(bG (bH (i:=0) (show (["told"]:List Str).Nodup by decide +kernel) rfl (by walk_at "o")))) (fun _ _ _ _ _=>iD) (fun _ _ _ _ _=>(bM (aR adz (hr.mono (by decide)) rfl qb lA Ag .nil bj (ao (aq 0 (pv 0)) aH)))))))))
abbrev lY:Stmt:=top 25
theorem acW:aN ["doors"] ["doors"] (ak lY):=⟨rfl,rfl,rfl,by decide +kernel,rfl,by decide +kernel,by decide +kernel⟩
def vX:DSt→Out D:=(oM "told" 1 uf (gv 0) aA)
def MT:DSt→Out Fl:=(afb (cW [none] (fV (gv 0)) (gN 0) (fun _=>.ok true) vX))
def iT:List D→Out (List D):=fun ds=>(runL 1 MT ds).bD
theorem ab4 (F:L2.Fun K "told_room" "told_room" lY f fd) (T:Txt K mg t) (rW:iK P w K mg base (Ga t) "told" (spD K (Ga t) 1) 2 uf):bf P w K mg base CX0 3 f fd ["doors"] (spF K (Ga t) 1 iT):=by
 refine DL.Fun.okF F acW fun cdv A outer s H E hr=>?_
 exact (aF (ahV (fZ (fun a b c d=>cX (N':=["door"]) (cap:=[none]) ⟨rfl,rfl,by decide +kernel,by decide +kernel,by rfl,trivial,⟨trivial,trivial⟩⟩ rfl a b c d) (mR (aq 0 (pv 0))) (zG 0) (fun _ _ _ _ _=>(bG (bH (i:=0) (show (["door"]:List Str).Nodup by decide +kernel) rfl (by walk_at "o")))) (fun _ _ _ _ _=>iD) (fun _ _ _ _ _=>(gf (dY (rW.ok (hr.mono (by decide))) bj (aq 0 (pv 0))))))))
abbrev jB:Stmt:=inClass (top 26) 0
theorem WM:aN ["self","actions","rows"] ["self","actions","rows"] (ak jB):=⟨rfl,rfl,rfl,by decide +kernel,rfl,by decide +kernel,by decide +kernel⟩
def tY:DSt→Out D:=(oF 1 iR (aj (gv 0) aA))
def Py:DSt→Out D:=(oF 1 bI (aj (gv 1) aA))
def Pz:DSt→Out D:=(o1 ji (gb 1))
def PB:DSt→Out D:=(oC (Le CZ) (aj (gv 1) aA))
def PJ:DSt→Out D:=(oC (Le CZ) (aj (j4 (cW [none] (fV (gv 2)) (gN 0) (fun _=>.ok true) tY)) aA))
def Yc (torn:Bool) (ds:List D):Out (List (Str × D)):=match ds with
 | [acts,rows] =>
   let δ:DSt:=[none,some (.sh acts),some (.sh rows)]
   (Py δ).bind fun _=>(Pz δ).bind fun n=>(fC [rows,n,.bl torn]).bind fun _=>(PB δ).bD.bind fun ta=>(PJ δ).bD.bind fun tr=>.ok [("actions",ta),("rooms",tr)]
 | _=>.stuck
def I_Draft:List D→Out (List (Str × D)):=Yc true
def qi:List D→Out (List (Str × D)):=Yc false
def spT (b:Bool):Sp:=fun vs H Q _=>∃ v,vs = [v]∧Q (.bl b) H
abbrev jC:Stmt:=inClass (top 26) 1
theorem WN:aN ["self"] ["self"] (ak jC):=⟨rfl,rfl,rfl,by decide +kernel,rfl,by decide +kernel,by decide +kernel⟩
theorem Wg {f:Addr} {fd:FuncData} (F:L2.Fun K "lets_torn" "Draft.lets_torn" jC f fd):bf P w K mg base CX0 1 f fd ["self"] (spT true):=by
 refine F.ok WN (fun vs H Q E h=>?_) (fun cdv A outer s H vs Q E hr h=>?_)
 · obtain ⟨v,rfl,_⟩:=h
   rfl
 · obtain ⟨v,rfl,q⟩:=h
   exact ⟨_,pM (Lg pe_bl),q⟩
abbrev lL:Stmt:=inClass (top 27) 0
theorem acN:aN ["self"] ["self"] (ak lL):=⟨rfl,rfl,rfl,by decide +kernel,rfl,by decide +kernel,by decide +kernel⟩
theorem abU {f:Addr} {fd:FuncData} (F:L2.Fun K "lets_torn" "Plan.lets_torn" lL f fd):bf P w K mg base CX0 1 f fd ["self"] (spT false):=by
 refine F.ok acN (fun vs H Q E h=>?_) (fun cdv A outer s H vs Q E hr h=>?_)
 · obtain ⟨v,rfl,_⟩:=h
   rfl
 · obtain ⟨v,rfl,q⟩:=h
   exact ⟨_,pM (Lg pe_bl),q⟩
theorem aiQ {K:PySem.W.Frag} {Γ:Nat→Option Addr} {G H:Hp} {a C dx:Addr} {v1 v2:V} {acts rows:D} {torn:Bool} {Q:VK} {E:XK} (hH:H a = some (.ins C dx [])) (ga:G a = none) (sg:bz G H) (r1:Rep K Γ G v1 acts) (r2:Rep K Γ G v2 rows) (cl:Cls K C) (na1:cM K C "actions") (na2:cM K C "rooms")
   (w:wpO (Yc torn [acts,rows]) (fun fds=>∀ fs G' H',bz G G'→(∀ b o,H b = some o→b ≠ a→H' b = some o)→bz G' H'→(∀ b,H b ≠ none→G b = none→G' b = none)→H' a = some (.ins C dx fs)→mG K Γ G' fs fds→Q .non H')
     (fun x=>∀ a' G' H',bz G G'→(∀ b o,H b = some o→b ≠ a→H' b = some o)→bz G' H'→(∀ b,H b ≠ none→G b = none→G' b = none)→Rep K Γ G' (.ref a') x→E (.ref a') none H')) :
   tSeq (M9 (teD K Γ E Py)) (tSeq (M9 (Yt (spD K Γ 3 fC) [] E (wO (teD K Γ E (gv 2)) (wO (teD K Γ E Pz) (wO (tMeth C "lets_torn" (spT torn) [] E (CT 0) DR) DR))))) (tSeq (sFld K (CT 0) (teD K Γ E0 PB) "actions") (sFld K (CT 0) (teD K Γ E0 PJ) "rooms"))) { nx:=fun _ H'=>Q .non H',rt:=Q } [some (.ref a),some v1,some v2] H:=by
 have S0:SR K Γ G H G H [some (.ref a),some v1,some v2] [none,some (.sh acts),some (.sh rows)]:=by
   refine ⟨.refl sg,rfl,fun _=>none,fun i x e=>?_⟩
   match i,e with
   | 1,e=>cases e; exact ⟨v1,rfl,r1⟩
   | 2,e=>cases e; exact ⟨v2,rfl,r2⟩
   | i + 3,e=>simp at e
 have g2:gv 2 [none,some (.sh acts),some (.sh rows)] = .ok rows:=rfl
 have ex:∀ {x:D},(∀ a' G' H',bz G G'→(∀ b o,H b = some o→b ≠ a→H' b = some o)→bz G' H'→(∀ b,H b ≠ none→G b = none→G' b = none)→Rep K Γ G' (.ref a') x→E (.ref a') none H')→exD K Γ E G H x:=fun k a' G' H' st r=>k a' G' H' st.gg (fun b o e _=>st.hh _ _ e) st.gh st.sep r
 have w1:=au w
 refine ⟨G,H,G,_,S0,w1.mono (fun d1 w1 u1 G1 H1 s1 _=>?_) fun _ k=>ex k⟩
 have S1:=S0.step s1
 refine ⟨G,H,G1,_,S1,?_⟩
 rw [g2]
 intro u2 G2 H2 s2 q2
 have S2:=S1.step s2
 have w2:=au w1
 refine ⟨G,H,G2,_,S2,w2.mono (fun n w2 u3 G3 H3 s3 q3=>?_) fun _ k=>(ex k).step (s1.trans s2)⟩
 have s03:=((s1.trans s2).trans s3)
 refine ⟨_,rfl,a,dx,[],rfl,s03.hh _ _ hH,rfl,_,rfl,rfl,G3,[rows,n,.bl torn],s03.gh,.cons (q2.mono s3.gg) (.cons q3 (.cons (.bl _) .nil)),?_⟩
 have w3:=au w2
 refine w3.mono (fun d3 w3 u4 G4 H4 s4 _=>?_) fun _ k=>(ex k).step s03
 have s04:=s03.trans s4
 have S4:=S0.step s04
 have w4:=kh (R':=exD K Γ E0 G4 H4) (au w3)
 refine ⟨G,H,G4,_,S4,w4.mono (fun ta w4 u5 G5 H5 s5 q5=>?_) fun _ k=>k⟩
 have s05:=s04.trans s5
 have g5:G5 a = none:=s05.sep a (by rw [hH]; exact fun z=>nomatch z) ga
 refine ⟨_,rfl,a,C,dx,[],rfl,s05.hh _ _ hH,cl,na1,(by decide),?_⟩
 have st5:Step G5 (upd H5 a (.ins C dx (j8 "actions" u5 []))) G5 (upd H5 a (.ins C dx (j8 "actions" u5 []))):=.refl fun b o e=>by rw [az (aK e g5)]; exact s05.gh _ _ e
 have S5:SR K Γ G5 (upd H5 a (.ins C dx (j8 "actions" u5 []))) G5 (upd H5 a (.ins C dx (j8 "actions" u5 []))) [some (.ref a),some v1,some v2] [none,some (.sh acts),some (.sh rows)]:=by
   refine ⟨st5,rfl,fun _=>none,fun i x e=>?_⟩
   match i,e with
   | 1,e=>cases e; exact ⟨v1,rfl,r1.mono s05.gg⟩
   | 2,e=>cases e; exact ⟨v2,rfl,r2.mono s05.gg⟩
   | i + 3,e=>simp at e
 have w5:=kh (R':=exD K Γ E0 G5 (upd H5 a (.ins C dx (j8 "actions" u5 [])))) (au w4)
 refine ⟨_,_,G5,_,S5,w5.mono (fun tr w5 u6 G6 H6 s6 q6=>?_) fun _ k=>k⟩
 have h6:=s6.hh _ _ (aG (H:=H5) (a:=a) (o:=.ins C dx (j8 "actions" u5 [])))
 refine ⟨_,rfl,a,C,dx,_,rfl,h6,cl,na2,(by show 1 < 1000; decide),?_⟩
 have g6:G6 a = none:=s6.sep a (by rw [aG]; exact fun z=>nomatch z) g5
 have ne:¬ (("actions":Str) = "rooms"):=by decide +kernel
 have ef:j8 "rooms" u6 (j8 "actions" u5 []) = [(("actions":Str),u5),(("rooms":Str),u6)]:=by
   show (if ("actions":Str) = "rooms" then _ else (("actions":Str),u5) :: j8 "rooms" u6 []) = _
   rw [if_neg ne]
   rfl
 refine w5 [("actions",u5),("rooms",u6)] G6 _ (s05.gg.trans s6.gg) (fun b o e hb=>?_) (fun b o e=>?_) (fun b hb g0=>?_) (by rw [aG,ef]) (.cons (q5.mono s6.gg) (.cons q6 .nil))
 · rw [az hb]
   exact s6.hh _ _ (by rw [az hb]; exact s05.hh _ _ e)
 · rw [az (aK e g6)]
   exact s6.gh _ _ e
 · refine s6.sep b (fun z=>?_) (s05.sep b hb g0)
   by_cases e:b = a
   · subst e; rw [aG] at z; cases z
   · rw [az e] at z
     cases q:H b with
     | none=>exact hb q
     | some o=>rw [s05.hh _ _ q] at z; cases z
theorem Fi {f fT C:Addr} {fd fdT:FuncData} {c:Nat} {torn:Bool} (F:L2.Fun K "__init__" "Draft.__init__" jB f fd) (T:Txt K mg t) (d7:Qe P w K mg base "need_actions" 3 ["actions"] (spD K (Ga t) 1 bI)) (qI:Qe P w K mg base "need_rooms" 3 ["rows","many_actions","torn_too"] (spD K (Ga t) 3 fC)) (uh:Def P w K mg base "made_room" 6 ["row"] (spD K (Ga t) 1 iR)) (hC:Ga t c = some C) (cl:Cls K C) (na1:cM K C "actions") (na2:cM K C "rooms") (hmT:Meth K C "lets_torn" fT) (GT:bf P w K mg base CX0 1 fT fdT ["self"] (spT torn)) (bT:Binds K fdT ["self"] []):bf P w K mg base (CX1 P w) 7 f fd ["self","actions","rows"] (spI K (Ga t) c 2 (Yc torn)):=by
 obtain ⟨je,N8,rR,iY,eF,cT⟩:=d7.ex
 obtain ⟨qT,fd_need_rooms,YL,xF,nR,jz⟩:=qI.ex
 obtain ⟨uG,fd_made_room,adA,Ah,qd,lB⟩:=uh.ex
 obtain ⟨oc,od,kV,doc,pm,an,cdv,ct,osl,rfl,lk,hcd⟩:=F.ex
 refine fn_of lk hcd WM (fun vs H Q E h=>h.1) fun A outer s H vs Q E hr h=>?_
 obtain ⟨hl,a,dx,C',us,G,ds,rfl,hH,hC',ga,sg,r,w⟩:=h
 rw [hC] at hC'
 cases hC'
 cases r with
 | nil=>cases hl
 | @cons v1 us acts ds r1 r =>
   cases r with
   | nil=>cases hl
   | @cons v2 us rows ds r2 r =>
     cases r with
     | cons _ _=>cases hl
     | nil =>
       refine ⟨tSeq (M9 (teD K (Ga t) E Py)) (tSeq (M9 (Yt (spD K (Ga t) 3 fC) [] E (wO (teD K (Ga t) E (gv 2)) (wO (teD K (Ga t) E Pz) (wO (tMeth C "lets_torn" (spT torn) [] E (CT 0) DR) DR))))) (tSeq (sFld K (CT 0) (teD K (Ga t) E0 PB) "actions") (sFld K (CT 0) (teD K (Ga t) E0 PJ) "rooms"))),wL (iJ (bM (aR rR (hr.mono (by decide)) rfl eF cT iY .nil pass1 (ao (aq 1 (pv 1)) aH)))) (wL (iJ (aR YL (hr.mono (by decide)) rfl nR jz xF .nil pass1 (bK (aq 2 (pv 2)) (bK (jU rfl T.pP (aU 1 (pv 1))) (bK (pe_meth0 (pv 0) cl hmT GT (hr.mono (by decide)) bT .nil bj) eG))))) (wL (ahk (pv 0) (PE.nox (Jc rfl T.Ie (aq 1 (pv 1)))) rfl) (pM (ahk (pv 0) (PE.nox (Jc rfl T.Ie (uz (fZ (fun a b c d=>cX (N':=["row"]) (cap:=[none]) ⟨rfl,rfl,by decide +kernel,by decide +kernel,by rfl,trivial,⟨trivial,trivial⟩⟩ rfl a b c d) (mR (aq 2 (pv 2))) (zG 0) (fun _ _ _ _ _=>(bG (bH (i:=0) (show (["row"]:List Str).Nodup by decide +kernel) rfl (by walk_at "o")))) (fun _ _ _ _ _=>iD) (fun _ _ _ _ _=>(bM (aR adA (hr.mono (by decide)) rfl qd lB Ah .nil bj (ao (aq 0 (pv 0)) aH)))))))) rfl)))),?_⟩
       exact aiQ hH ga sg r1 r2 cl na1 na2 w
abbrev cJ:Stmt:=inClass (top 26) 2
theorem CN:aN ["self"] ["self"] (ak cJ):=⟨rfl,rfl,rfl,by decide +kernel,rfl,by decide +kernel,by decide +kernel⟩
def qG:DSt→Out Fl:=(afb (fV (Cw "actions" [eV,aV] (gv 0))))
def fY:List D→Out (List D):=fun ds=>(runL 1 qG ds).bD
theorem CG (F:L2.Fun K "action_list" "Draft.action_list" cJ f fd) (T:Txt K mg t) :bf P w K mg base CX0 1 f fd ["self"] (spF K (Ga t) 1 fY):=by
 refine DL.Fun.okF F CN fun cdv A outer s H E hr=>?_
 exact (aF (ahV (df_list rfl T.Zm (Km (cs:=[eV,aV]) ⟨⟨t.Draft,rfl,T.pJ.cls,T.dX⟩,⟨t.Plan,rfl,T.vJ.cls,T.eY⟩,trivial⟩ (aq 0 (pv 0))))))
def bc:List (Nat × (List D→Out (List D))):=[(eV,fY),(aV,fY)]
abbrev jD:Stmt:=inClass (top 26) 3
theorem WP:aN ["self"] ["self"] (ak jD):=⟨rfl,rfl,rfl,by decide +kernel,rfl,by decide +kernel,by decide +kernel⟩
def ym:DSt→Out Fl:=(bR (o1 ji (Cw "rooms" [eV,aV] (gv 0))))
def qJ:List D→Out D:=fun ds=>(cZ 1 ym ds).bD
theorem Wh (F:L2.Fun K "many" "Draft.many" jD f fd) (T:Txt K mg t) :bf P w K mg base CX0 1 f fd ["self"] (spD K (Ga t) 1 qJ):=by
 refine DL.Fun.okD F WP fun cdv A outer s H E hr=>?_
 exact (aF (aY (jU rfl T.pP (bh (Km (cs:=[eV,aV]) ⟨⟨t.Draft,rfl,T.pJ.cls,T.cV⟩,⟨t.Plan,rfl,T.vJ.cls,T.dR⟩,trivial⟩ (aq 0 (pv 0)))))))
def CW:List (Nat × (List D→Out D)):=[(eV,qJ),(aV,qJ)]
abbrev jE:Stmt:=inClass (top 26) 5
theorem WQ:aN ["self"] ["self"] (ak jE):=⟨rfl,rfl,rfl,by decide +kernel,rfl,by decide +kernel,by decide +kernel⟩
def tZ:DSt→Out (List D):=(oFl 1 iT (aj (gv 0) aA))
def Jk:DSt→Out Fl:=(ahm (cW [none] (fV (Cw "rooms" [eV,aV] (gv 0))) (gN 0) (fun _=>.ok true) tZ))
def mD:List D→Out (List (List D)):=fun ds=>(runLL 1 Jk ds).bD
theorem Wi (F:L2.Fun K "told" "Draft.told" jE f fd) (T:Txt K mg t) (zK:Def P w K mg base "told_room" 3 ["doors"] (spF K (Ga t) 1 iT)):bf P w K mg base CX0 4 f fd ["self"] (spFF K (Ga t) 1 mD):=by
 obtain ⟨uH,fd_told_room,adB,Ai,qe,lC⟩:=zK.ex
 refine DL.Fun.okFF F WQ fun cdv A outer s H E hr=>?_
 exact (aF (ds_retff (dff_comp (fun a b c d=>cX (N':=["doors"]) (cap:=[none]) ⟨rfl,rfl,by decide +kernel,by decide +kernel,by rfl,trivial,⟨trivial,trivial⟩⟩ rfl a b c d) (mR (Km (cs:=[eV,aV]) ⟨⟨t.Draft,rfl,T.pJ.cls,T.cV⟩,⟨t.Plan,rfl,T.vJ.cls,T.dR⟩,trivial⟩ (aq 0 (pv 0)))) (zG 0) (fun _ _ _ _ _=>(bG (bH (i:=0) (show (["doors"]:List Str).Nodup by decide +kernel) rfl (by walk_at "o")))) (fun _ _ _ _ _=>iD) (fun _ _ _ _ _=>(dcallF (aR adB (hr.mono (by decide)) rfl qe lC Ai .nil bj (ao (aq 0 (pv 0)) aH)))))))
def du:List (Nat × (List D→Out (List (List D)))):=[(eV,mD),(aV,mD)]
abbrev lX:Stmt:=top 28
theorem acV:aN ["one","other"] ["one","other"] (ak lX):=⟨rfl,rfl,rfl,by decide +kernel,rfl,by decide +kernel,by decide +kernel⟩
def p7:DSt→Out Fl:=(sIf (o2b neD (oM "action_list" 1 (Pn bc) (gv 0) aA) (oM "action_list" 1 (Pn bc) (gv 1) aA)) (sRaise xH (aj (kc (.str "the lists of actions are not equal")) aA)) iz)
def dN:List D→Out D:=fun ds=>cZ 2 p7 ds
theorem ab3 (F:L2.Fun K "need_same" "need_same" lX f fd) (T:Txt K mg t) (bY:iK P w K mg base (Ga t) "action_list" (spF K (Ga t) 1) 1 bc):bf P w K mg base (CX1 P w) 2 f fd ["one","other"] (spD K (Ga t) 2 dN):=by
 refine PN F acV fun cdv A outer s H E hr=>?_
 exact (aF (iC (zx hr.units (bh (gf (dY ((iK.dF bY).ok (hr.mono (by decide))) bj (aq 0 (pv 0))))) (bh (gf (dY ((iK.dF bY).ok (hr.mono (by decide))) bj (aq 1 (pv 1)))))) (aF (ds_raise (c:=xH) rfl T.JR T.wQ thr1 rfl rfl T.aeA (ao cD aH))) cC))
abbrev oZ:Stmt:=top 29
theorem afi:aN ["doors","numbers"] ["doors","numbers"] (ak oZ):=⟨rfl,rfl,rfl,by decide +kernel,rfl,by decide +kernel,by decide +kernel⟩
def yR:DSt→Out D:=(oM "told" 1 uf (oM "led" 2 JK (gv 0) (aj (Ra 1 (Cw "to" [jY,uX,jP,jQ] (gv 0))) aA)) aA)
def Gj:DSt→Out Fl:=(bR (j4 (cW [none,some 1] (fV (gv 0)) (gN 0) (fun _=>.ok true) yR)))
def rP:List D→Out D:=fun ds=>(cZ 2 Gj ds).bD
theorem aeX (F:L2.Fun K "led_room" "led_room" oZ f fd) (T:Txt K mg t) (rW:iK P w K mg base (Ga t) "told" (spD K (Ga t) 1) 2 uf) (M_led:iK P w K mg base (Ga t) "led" (spD K (Ga t) 2) 4 JK):bf P w K mg base CX0 5 f fd ["doors","numbers"] (spD K (Ga t) 2 rP):=by
 refine DL.Fun.okD F afi fun cdv A outer s H E hr=>?_
 exact (aF (aY (uz (fZ (fun a b c d=>cX (N':=["door","numbers"]) (cap:=[none,some 1]) ⟨rfl,rfl,by decide +kernel,by decide +kernel,by rfl,⟨⟨rfl,by walk_at "o"⟩,trivial⟩,⟨trivial,⟨rfl,rfl,by walk_at "o"⟩,trivial⟩⟩ rfl a b c d) (mR (aq 0 (pv 0))) (zG 0) (fun _ _ _ _ _=>(bG (bH (i:=0) (show (["door","numbers"]:List Str).Nodup by decide +kernel) rfl (by walk_at "o")))) (fun _ _ _ _ _=>iD) (fun _ _ _ _ _=>(gf (dY (rW.ok (hr.mono (by decide))) bj (de_meth (pe_methD (M_led.ok (hr.mono (by decide))) bj (aq 0 (pv 0)) (ao (aiF 1 hr.units (pv 1) (Km (cs:=[jY,uX,jP,jQ]) ⟨⟨t.Must,rfl,T.Bt.cls,T.kW⟩,⟨t.May,rfl,T.M3.cls,T.oN⟩,⟨t.Shut,rfl,T.Bu.cls,T.kY⟩,⟨t.Torn,rfl,T.Bv.cls,T.kZ⟩,trivial⟩ (aq 0 (pv 0))) ⟨rfl,rfl,rfl,rfl⟩) aH))))))))))
abbrev Dw:Stmt:=top 30
theorem TQ:aN ["plan","room","order","numbers"] ["plan","room"] (ak Dw):=⟨rfl,rfl,rfl,by decide +kernel,rfl,by decide +kernel,by decide +kernel⟩
def ai4:DSt→Out D:=(gv 0)
def Do:DSt→Out D:=(cU (aj (gv 1) (aj (gv 0) aA)))
def KQ:DSt→Out D:=(oF 2 rP (aj (o2 ixD (Cw "rooms" [eV,aV] (gv 2)) (gv 0)) (aj (gv 1) aA)))
def aaE:DSt→Out Fl:=(bF (dJ 2 (o2 bZ (cF (aj (gv 1) aA)) (j4 (cW [none,some 1] (zF (oM "many" 1 CW (gv 0) aA)) (gN 0) (o2b neD (gb 0) (gb 1)) ai4))))
 (bF (dJ 3 (oC (Le XH) (aj (j4 (cW [none,none] (enum (gv 2)) (gT 2 (bO (gN 0) (bO (gN 1) j0))) (fun _=>.ok true) Do)) aA)))
 (bR (oMk aV 2 qi (aj (oM "action_list" 1 (Pn bc) (gv 0) aA) (aj (j4 (cW [none,some 3,some 0] (fV (gv 2)) (gN 0) (fun _=>.ok true) KQ)) aA))))))
def mF:List D→Out D:=fun ds=>(cZ 4 aaE ds).bD
theorem ok_begun (F:L2.Fun K "begun" "begun" Dw f fd) (T:Txt K mg t) (Qn:iK P w K mg base (Ga t) "many" (spD K (Ga t) 1) 1 CW) (wX:Ini1 P w K mg base t.Plan 7 ["self","actions","rows"] (spI K (Ga t) aV 2 qi)) (Fo:Def P w K mg base "led_room" 5 ["doors","numbers"] (spD K (Ga t) 2 rP)) (bY:iK P w K mg base (Ga t) "action_list" (spF K (Ga t) 1) 1 bc):bf P w K mg base CX0 9 f fd ["plan","room"] (spD K (Ga t) 2 mF):=by
 obtain ⟨f_Plan,ahX,Ql,Qg,QJ⟩:=wX.ex
 obtain ⟨yd,fd_led_room,afB,Fz,t7,oG⟩:=Fo.ex
 refine DL.Fun.okD F TQ fun cdv A outer s H E hr=>?_
 exact (bA (cP 2 (fun h=>cg (i:=2) TQ.nd rfl (by walk_at "o") h) (cG (vB (ao (aq 1 (pv 1)) aH)) (uz (fZ (fun a b c d=>cX (N':=["old","room"]) (cap:=[none,some 1]) ⟨rfl,rfl,by decide +kernel,by decide +kernel,by rfl,⟨⟨rfl,by walk_at "o"⟩,trivial⟩,⟨trivial,⟨rfl,rfl,by walk_at "o"⟩,trivial⟩⟩ rfl a b c d) (oE rfl T.xG (gf (dY (Qn.ok (hr.mono (by decide))) bj (aq 0 (pv 0))))) (zG 0) (fun _ _ _ _ _=>(bG (bH (i:=0) (show (["old","room"]:List Str).Nodup by decide +kernel) rfl (by walk_at "o")))) (fun _ _ _ _ _=>(aau (zx hr.units (aU 0 (pv 0)) (aU 1 (pv 1))))) (fun _ _ _ _ _=>(aq 0 (pv 0)))))))
     (bA (cP 3 (fun h=>cg (i:=3) TQ.nd rfl (by walk_at "o") h) (aiG rfl rfl T.b_dict (uz (fZ (fun a b c d=>cX (N':=["new","old"]) (cap:=[none,none]) ⟨rfl,rfl,by decide +kernel,by decide +kernel,by rfl,trivial,⟨trivial,trivial,trivial⟩⟩ rfl a b c d) (aaq rfl T.Af (aq 2 (pv 2))) (sh_t (aih (zG 0) (aih (zG 1) sh_nil))) (fun _ _ _ _ _=>(Rq (n:=2) (fun h=>S8 rfl h) (jZ (bG (bH (i:=0) (show (["new","old"]:List Str).Nodup by decide +kernel) rfl (by walk_at "o"))) (jZ (bG (bH (i:=1) (show (["new","old"]:List Str).Nodup by decide +kernel) rfl (by walk_at "o"))) Je (fun a b=>j7 a b)) (fun a b=>j7 a b)))) (fun _ _ _ _ _=>iD) (fun _ _ _ _ _=>(oA (ao (aq 1 (pv 1)) (ao (aq 0 (pv 0)) aH))))))))
     (aF (aY (Rr (c:=aV) rfl (yZ Ql Qg (hr.mono (by decide)) rfl T.agA QJ .nil Lf (ao (gf (dY ((iK.dF bY).ok (hr.mono (by decide))) bj (aq 0 (pv 0)))) (ao (uz (fZ (fun a b c d=>cX (N':=["old","numbers","plan"]) (cap:=[none,some 3,some 0]) ⟨rfl,rfl,by decide +kernel,by decide +kernel,by rfl,⟨⟨rfl,by walk_at "o"⟩,⟨rfl,by walk_at "o"⟩,trivial⟩,⟨trivial,⟨rfl,rfl,by walk_at "o"⟩,⟨rfl,rfl,by walk_at "o"⟩,trivial⟩⟩ rfl a b c d) (mR (aq 2 (pv 2))) (zG 0) (fun _ _ _ _ _=>(bG (bH (i:=0) (show (["old","numbers","plan"]:List Str).Nodup by decide +kernel) rfl (by walk_at "o")))) (fun _ _ _ _ _=>iD) (fun _ _ _ _ _=>(bM (aR afB (hr.mono (by decide)) rfl t7 oG Fz .nil bj (ao (de_ix (Km (cs:=[eV,aV]) ⟨⟨t.Draft,rfl,T.pJ.cls,T.cV⟩,⟨t.Plan,rfl,T.vJ.cls,T.dR⟩,trivial⟩ (aq 2 (pv 2))) (aq 0 (pv 0))) (ao (aq 1 (pv 1)) aH))))))) aH))))))))
abbrev lU:Stmt:=top 31
theorem acT:aN ["actions"] ["actions"] (ak lU):=⟨rfl,rfl,rfl,by decide +kernel,rfl,by decide +kernel,by decide +kernel⟩
def vV:DSt→Out D:=(cU (aj (kc (.str "may")) (aj (kc (.int 0)) aA)))
def p6:DSt→Out Fl:=(bF (qH (oF 1 bI (aj (gv 0) aA)))
 (bR (oMk aV 2 qi (aj (gv 0) (aj (cF (aj (j4 (cW [none] (fV (gv 0)) (gN 0) (fun _=>.ok true) vV)) aA)) aA)))))
def bU:List D→Out D:=fun ds=>cZ 1 p6 ds
theorem ab0 (F:L2.Fun K "free_plan" "free_plan" lU f fd) (T:Txt K mg t) (d7:Qe P w K mg base "need_actions" 3 ["actions"] (spD K (Ga t) 1 bI)) (wX:Ini1 P w K mg base t.Plan 7 ["self","actions","rows"] (spI K (Ga t) aV 2 qi)):bf P w K mg base (CX1 P w) 9 f fd ["actions"] (spD K (Ga t) 1 bU):=by
 obtain ⟨je,N8,rR,iY,eF,cT⟩:=d7.ex
 obtain ⟨f_Plan,ahX,Ql,Qg,QJ⟩:=wX.ex
 refine PN F acT fun cdv A outer s H E hr=>?_
 exact (bA (aas (bM (aR rR (hr.mono (by decide)) rfl eF cT iY .nil pass1 (ao (aq 0 (pv 0)) aH))))
     (aF (aY (Rr (c:=aV) rfl (yZ Ql Qg (hr.mono (by decide)) rfl T.agA QJ .nil pass1 (ao (aq 0 (pv 0)) (ao (vB (ao (uz (fZ (fun a b c d=>cX (N':=["name"]) (cap:=[none]) ⟨rfl,rfl,by decide +kernel,by decide +kernel,by rfl,trivial,⟨trivial,trivial⟩⟩ rfl a b c d) (mR (aq 0 (pv 0))) (zG 0) (fun _ _ _ _ _=>(bG (bH (i:=0) (show (["name"]:List Str).Nodup by decide +kernel) rfl (by walk_at "o")))) (fun _ _ _ _ _=>iD) (fun _ _ _ _ _=>(oA (ao cD (ao aM aH)))))) aH)) aH)))))))
abbrev gB:Stmt:=top 33
theorem O9:aN ["_law_script","_law_k"] ["_law_script","_law_k"] (ak gB):=⟨rfl,rfl,rfl,by decide +kernel,rfl,by decide +kernel,by decide +kernel⟩
def Br:DSt→Out Fl:=(bF (sIf (o2b ltD (gb 1) (o1 ji (gb 0))) (bR (o2 ixD (gvo 0) (gv 1))) iz)
 (bR (kc (.int 0))))
def d8:List D→Out D:=fun ds=>(cZ 2 Br ds).bD
theorem Ov (F:L2.Fun K "_law_cell_at" "_law_cell_at" gB f fd) (T:Txt K mg t) :bf P w K mg base CX0 1 f fd ["_law_script","_law_k"] (spD K (Ga t) 2 d8):=by
 refine DL.Fun.okD F O9 fun cdv A outer s H E hr=>?_
 exact (bA (iC (dt_lt (aU 1 (pv 1)) (bh (jU rfl T.pP (aU 0 (pv 0))))) (aF (aY (vA 0 (pv 0) (aq 1 (pv 1))))) cC)
     (aF (aY aM)))
abbrev jK:Stmt:=top 34
theorem v4:aN ["_law_cell","_law_k","_law_number"] ["_law_cell","_law_k"] (ak jK):=⟨rfl,rfl,rfl,by decide +kernel,rfl,by decide +kernel,by decide +kernel⟩
def Jl:DSt→Out Fl:=(bF (dJ 2 (o2 fX (o2 bZ (o2 bZ (o2 K5 (o2 fX (gv 0) (kc (.int 2147483647))) (kc (.int 48271))) (o2 K5 (gv 1) (kc (.int 7919)))) (kc (.int 104729))) (kc (.int 2147483647))))
 (bF (dJ 2 (o2 fX (o2 bZ (o2 bZ (o2 K5 (o2 fX (o2 K5 (gv 2) (gv 2)) (kc (.int 2147483629))) (kc (.int 16807))) (o2 K5 (gv 1) (kc (.int 104729)))) (kc (.int 11))) (kc (.int 2147483587))))
 (bR (o2 fX (o2 K5 (gv 2) (gv 2)) (kc (.int 2147483549))))))
def aD:List D→Out D:=fun ds=>(cZ 3 Jl ds).bD
theorem Wn (F:L2.Fun K "_law_mixed" "_law_mixed" jK f fd) (T:Txt K mg t) :bf P w K mg base CX0 1 f fd ["_law_cell","_law_k"] (spD K (Ga t) 2 aD):=by
 refine okDx F v4 fun cdv A outer s H E hr=>?_
 exact (dxc ⟨(cP 2 (fun h=>cg (i:=2) v4.nd rfl (by walk_at "o") h) (eX (cG (cG (Bc (eX (aq 0 (pv 0)) aM) aM) (Bc (aq 1 (pv 1)) aM)) aM) aM))⟩
     (dxc ⟨(cP 2 (fun h=>cg (i:=2) v4.nd rfl (by walk_at "o") h) (eX (cG (cG (Bc (eX (Bc (aq 2 (pv 2)) (aq 2 (pv 2))) aM) aM) (Bc (aq 1 (pv 1)) aM)) aM) aM))⟩
     (dx1 ⟨(aY (eX (Bc (aq 2 (pv 2)) (aq 2 (pv 2))) aM))⟩)))
abbrev jL:Stmt:=top 35
theorem dU:aN ["_law_cell","_law_many","_law_letters","_law_base","_law_size","_law_at","_law_names_here","_law_k","_law_sign"] ["_law_cell","_law_many"] (ak jL):=⟨rfl,rfl,rfl,by decide +kernel,rfl,by decide +kernel,by decide +kernel⟩
def nM:DSt→Out D:=(o2 ixD (gvo 1) (o2 fX (oF 2 aD (aj (gv 2) (aj (o2 bZ (kc (.int 902)) (gv 0)) aA))) (kc (.int 26))))
def t6:DSt→Out D:=(oSl (gv 1) noI (soI (o2 bZ (kc (.int 1)) (o2 fX (o2 bZ (gv 0) (oF 2 aD (aj (gv 2) (aj (kc (.int 899)) aA)))) (kc (.int 8))))))
def nJ:DSt→Out Fl:=(bF (dJ 8 (o2 ixD (gvo 2) (o2 fX (o2 bZ (oF 2 aD (aj (gv 0) (aj (o2 bZ (kc (.int 902)) (gv 5)) aA))) (gv 7)) (kc (.int 26)))))
 (ud 6 (o2 bZ (o2 bZ (oSl (gv 3) noI (soI (gv 5))) (gv 8)) (oSl (gv 3) (soI (o2 bZ (gv 5) (kc (.int 1)))) (soI (gv 4))))))
def m8:DSt→Out Fl:=(bF (dJ 2 (kc (.str "abcdefghijklmnopqrstuvwxyz")))
 (bF (dJ 3 (oJoin (kc (.str "")) (j4 (cW [none,some 2,some 0] (zF (kc (.int 8))) (gN 0) (fun _=>.ok true) nM))))
 (bF (sIf (o2b eqD (o2 fX (oF 2 aD (aj (gv 0) (aj (kc (.int 900)) aA))) (kc (.int 3))) (kc (.int 0))) (bR (j4 (cW [none,some 3,some 0] (zF (gv 1)) (gN 0) (fun _=>.ok true) t6))) iz)
 (bF (dJ 4 (o2 bZ (kc (.int 1)) (o2 fX (oF 2 aD (aj (gv 0) (aj (kc (.int 901)) aA))) (kc (.int 8)))))
 (bF (dJ 5 (o2 fX (oF 2 aD (aj (gv 0) (aj (kc (.int 911)) aA))) (gv 4)))
 (bF (lF 6 (zB aA))
 (bF (qg (zF (gv 1)) (gN 7) nJ)
 (Yq 6))))))))
def jm:List D→Out D:=fun ds=>(cZ 9 m8 ds).bD
theorem Wo (F:L2.Fun K "_law_names" "_law_names" jL f fd) (T:Txt K mg t) (dG:Def P w K mg base "_law_mixed" 1 ["_law_cell","_law_k"] (spD K (Ga t) 2 aD)):bf P w K mg base CX0 2 f fd ["_law_cell","_law_many"] (spD K (Ga t) 2 jm):=by
 obtain ⟨jr,EY,bB,bu,aZ,aW⟩:=dG.ex
 refine okDx F dU fun cdv A outer s H E hr=>?_
 exact (dxc ⟨(cP 2 (fun h=>cg (i:=2) dU.nd rfl (by walk_at "o") h) cD)⟩
     (dxc ⟨(cP 3 (fun h=>cg (i:=3) dU.nd rfl (by walk_at "o") h) (de_join cD (uz (fZ (fun a b c d=>cX (N':=["_law_j","_law_letters","_law_cell"]) (cap:=[none,some 2,some 0]) ⟨rfl,rfl,by decide +kernel,by decide +kernel,by rfl,⟨⟨rfl,by walk_at "o"⟩,⟨rfl,by walk_at "o"⟩,trivial⟩,⟨trivial,⟨rfl,rfl,by walk_at "o"⟩,⟨rfl,rfl,by walk_at "o"⟩,trivial⟩⟩ rfl a b c d) (oE rfl T.xG aM) (zG 0) (fun _ _ _ _ _=>(bG (bH (i:=0) (show (["_law_j","_law_letters","_law_cell"]:List Str).Nodup by decide +kernel) rfl (by walk_at "o")))) (fun _ _ _ _ _=>iD) (fun _ _ _ _ _=>(vA 1 (pv 1) (eX (bM (aR bB (hr.mono (by decide)) rfl aZ aW bu .nil bj (ao (aq 2 (pv 2)) (ao (cG aM (aq 0 (pv 0))) aH)))) aM))))) (fun a b=>Fj PySem.F.plainAttrs_str PySem.F.slot_str_join PySem.F.type_str_join mt_join a (bK b eG))))⟩
     (dxc ⟨(iC (dt_eq hr.units (bh (eX (bM (aR bB (hr.mono (by decide)) rfl aZ aW bu .nil bj (ao (aq 0 (pv 0)) (ao aM aH)))) aM)) (bh aM)) (aF (aY (uz (fZ (fun a b c d=>cX (N':=["_law_k","_law_base","_law_cell"]) (cap:=[none,some 3,some 0]) ⟨rfl,rfl,by decide +kernel,by decide +kernel,by rfl,⟨⟨rfl,by walk_at "o"⟩,⟨rfl,by walk_at "o"⟩,trivial⟩,⟨trivial,⟨rfl,rfl,by walk_at "o"⟩,⟨rfl,rfl,by walk_at "o"⟩,trivial⟩⟩ rfl a b c d) (oE rfl T.xG (aq 1 (pv 1))) (zG 0) (fun _ _ _ _ _=>(bG (bH (i:=0) (show (["_law_k","_law_base","_law_cell"]:List Str).Nodup by decide +kernel) rfl (by walk_at "o")))) (fun _ _ _ _ _=>iD) (fun _ _ _ _ _=>(jd (aq 1 (pv 1)) qK (jq (cG aM (eX (cG (aq 0 (pv 0)) (bM (aR bB (hr.mono (by decide)) rfl aZ aW bu .nil bj (ao (aq 2 (pv 2)) (ao aM aH))))) aM))))))))) cC)⟩
     (dxc ⟨(cP 4 (fun h=>cg (i:=4) dU.nd rfl (by walk_at "o") h) (cG aM (eX (bM (aR bB (hr.mono (by decide)) rfl aZ aW bu .nil bj (ao (aq 0 (pv 0)) (ao aM aH)))) aM)))⟩
     (dxc ⟨(cP 5 (fun h=>cg (i:=5) dU.nd rfl (by walk_at "o") h) (eX (bM (aR bB (hr.mono (by decide)) rfl aZ aW bu .nil bj (ao (aq 0 (pv 0)) (ao aM aH)))) (aq 4 (pv 4))))⟩
     (dxc (dxlst 6 dU.nd rfl (by walk_at "o") dn)
     (dxc ⟨(yc (fun a b c=>za PassesOwn.never rfl a b c) (oE rfl T.xG (aq 1 (pv 1))) (bG (bH (i:=7) dU.nd rfl (by walk_at "o"))) (bA (cP 8 (fun h=>cg (i:=8) dU.nd rfl (by walk_at "o") h) (vA 2 (pv 2) (eX (cG (bM (aR bB (hr.mono (by decide)) rfl aZ aW bu .nil bj (ao (aq 0 (pv 0)) (ao (cG aM (aq 5 (pv 5))) aH)))) (aq 7 (pv 7))) aM)))
     (aF (Gh 6 (pv 6) (cG (cG (jd (aq 3 (pv 3)) qK (jq (aq 5 (pv 5)))) (aq 8 (pv 8))) (jd (aq 3 (pv 3)) (jq (cG (aq 5 (pv 5)) aM)) (jq (aq 4 (pv 4))))) (fun a b=>iJ (Fj PySem.F.plainAttrs_list PySem.F.slot_list_append PySem.F.type_list_append jA a (bK b eG)))))))⟩
     (dx1 ⟨(Pr 6 (pv 6))⟩))))))))
abbrev lR:Stmt:=top 36
theorem acS:aN ["_law_x","_law_many"] ["_law_x","_law_many"] (ak lR):=⟨rfl,rfl,rfl,by decide +kernel,rfl,by decide +kernel,by decide +kernel⟩
def MK:DSt→Out Fl:=(bF (sIf (o2b eqD (o2 fX (gv 0) (kc (.int 5))) (kc (.int 4))) (bR (cU (aj (kc (.str "shut")) (aj (kc .non) aA)))) iz)
 (bR (cU (aj (o2 ixD (cF (aj (kc (.str "must")) (aj (kc (.str "may")) aA))) (o2 fX (gv 0) (kc (.int 2)))) (aj (o2 fX (o2 aev (gv 0) (kc (.int 5))) (gv 1)) aA)))))
def gH:List D→Out D:=fun ds=>(cZ 2 MK ds).bD
theorem abZ (F:L2.Fun K "_law_door" "_law_door" lR f fd) (T:Txt K mg t) :bf P w K mg base CX0 1 f fd ["_law_x","_law_many"] (spD K (Ga t) 2 gH):=by
 refine DL.Fun.okD F acS fun cdv A outer s H E hr=>?_
 exact (bA (iC (dt_eq hr.units (bh (eX (aq 0 (pv 0)) aM)) (bh aM)) (aF (aY (oA (ao cD (ao Ge aH))))) cC)
     (aF (aY (oA (ao (de_ix (vB (ao cD (ao cD aH))) (eX (aq 0 (pv 0)) aM)) (ao (eX (ahT (aq 0 (pv 0)) aM) (aq 1 (pv 1))) aH))))))
abbrev jM:Stmt:=top 37
theorem pN:aN ["_law_cell","_law_many","_law_acts","_law_cells","_law_rows","_law_room","_law_one"] ["_law_cell","_law_many","_law_acts","_law_cells"] (ak jM):=⟨rfl,rfl,rfl,by decide +kernel,rfl,by decide +kernel,by decide +kernel⟩
def nO:DSt→Out D:=(oF 2 gH (aj (oF 2 aD (aj (gv 2) (aj (o2 bZ (o2 bZ (kc (.int 40)) (o2 K5 (kc (.int 8)) (gv 3))) (gv 0)) aA))) (aj (gv 1) aA)))
def nG:DSt→Out Fl:=(wN 4 (cW [none,some 1,some 0,some 5] (zF (gv 2)) (gN 0) (fun _=>.ok true) nO))
def jh:DSt→Out Fl:=(M7 4 (oF 2 gH (aj (oF 2 aD (aj (gv 6) (aj (kc (.int 7)) aA))) (aj (gv 1) aA))) (o2 fX (gv 6) (gv 1)) (o2 fX (o2 aev (gv 6) (gv 1)) (gv 2)))
def yo:DSt→Out Fl:=(bF (lF 4 (zB aA))
 (bF (qg (zF (gv 1)) (gN 5) nG)
 (bF (qg (fV (gv 3)) (gN 6) jh)
 (Yq 4))))
def jn:List D→Out D:=fun ds=>(cZ 7 yo ds).bD
theorem Wq (F:L2.Fun K "_law_rooms" "_law_rooms" jM f fd) (T:Txt K mg t) (zH:Def P w K mg base "_law_door" 1 ["_law_x","_law_many"] (spD K (Ga t) 2 gH)) (dG:Def P w K mg base "_law_mixed" 1 ["_law_cell","_law_k"] (spD K (Ga t) 2 aD)):bf P w K mg base CX0 2 f fd ["_law_cell","_law_many","_law_acts","_law_cells"] (spD K (Ga t) 4 jn):=by
 obtain ⟨uE,fd__law_door,Lx,ux,lD,jg⟩:=zH.ex
 obtain ⟨jr,EY,bB,bu,aZ,aW⟩:=dG.ex
 refine okDx F pN fun cdv A outer s H E hr=>?_
 exact (dxc (dxlst 4 pN.nd rfl (by walk_at "o") dn)
     (dxc ⟨(yc (fun a b c=>za PassesOwn.never rfl a b c) (oE rfl T.xG (aq 1 (pv 1))) (bG (bH (i:=5) pN.nd rfl (by walk_at "o"))) (aF (ds_appl 4 (pv 4) (fZ (fun a b c d=>cX (N':=["_law_k","_law_many","_law_cell","_law_room"]) (cap:=[none,some 1,some 0,some 5]) ⟨rfl,rfl,by decide +kernel,by decide +kernel,by rfl,⟨⟨rfl,by walk_at "o"⟩,⟨rfl,by walk_at "o"⟩,⟨rfl,by walk_at "o"⟩,trivial⟩,⟨trivial,⟨rfl,rfl,by walk_at "o"⟩,⟨rfl,rfl,by walk_at "o"⟩,⟨rfl,rfl,by walk_at "o"⟩,trivial⟩⟩ rfl a b c d) (oE rfl T.xG (aq 2 (pv 2))) (zG 0) (fun _ _ _ _ _=>(bG (bH (i:=0) (show (["_law_k","_law_many","_law_cell","_law_room"]:List Str).Nodup by decide +kernel) rfl (by walk_at "o")))) (fun _ _ _ _ _=>iD) (fun _ _ _ _ _=>(bM (aR Lx (hr.mono (by decide)) rfl lD jg ux .nil bj (ao (bM (aR bB (hr.mono (by decide)) rfl aZ aW bu .nil bj (ao (aq 2 (pv 2)) (ao (cG (cG aM (Bc aM (aq 3 (pv 3)))) (aq 0 (pv 0))) aH)))) (ao (aq 1 (pv 1)) aH)))))) (fun a b=>iJ (Fj PySem.F.plainAttrs_list PySem.F.slot_list_append PySem.F.type_list_append jA a (bK b eG))))))⟩
     (dxc ⟨(yc (fun a b c=>za PassesOwn.never rfl a b c) (mR (aq 3 (pv 3))) (bG (bH (i:=6) pN.nd rfl (by walk_at "o"))) (aF (ds_put2 4 (pv 4) (bM (aR Lx (hr.mono (by decide)) rfl lD jg ux .nil bj (ao (bM (aR bB (hr.mono (by decide)) rfl aZ aW bu .nil bj (ao (aq 6 (pv 6)) (ao aM aH)))) (ao (aq 1 (pv 1)) aH)))) (eX (aq 6 (pv 6)) (aq 1 (pv 1))) (eX (ahT (aq 6 (pv 6)) (aq 1 (pv 1))) (aq 2 (pv 2))) (fun a b c=>ps_asg a (pg_sub b c set_list)))))⟩
     (dx1 ⟨(Pr 4 (pv 4))⟩))))
abbrev iw:Stmt:=top 38
theorem cY:aN ["_law_rows","_law_room","_law_order","_law_found","_law_old","_law_doors","_law_word","_law_to"] ["_law_rows","_law_room"] (ak iw):=⟨rfl,rfl,rfl,by decide +kernel,rfl,by decide +kernel,by decide +kernel⟩
def Oh:DSt→Out D:=(gv 0)
def gU:DSt→Out Fl:=(bF (sIf (o2b uc (gb 7) (kc .non)) (dJ 7 (oIdx (gv 2) (gv 7))) iz)
 (ud 5 (cU (aj (gv 6) (aj (gv 7) aA)))))
def km:DSt→Out Fl:=(bF (lF 5 (zB aA))
 (bF (qg (fV (o2 ixD (gvo 0) (gv 4))) (gT 2 (bO (gN 6) (bO (gN 7) j0))) gU)
 (Rv 5 (ud 3 (gv 5)))))
def vG:DSt→Out Fl:=(bF (dJ 2 (o2 bZ (cF (aj (gv 1) aA)) (j4 (cW [none,some 1] (zF (o1 ji (gb 0))) (gN 0) (o2b neD (gb 0) (gb 1)) Oh))))
 (bF (lF 3 (zB aA))
 (bF (qg (fV (gv 2)) (gN 4) km)
 (Yq 3))))
def gY:List D→Out D:=fun ds=>(cZ 8 vG ds).bD
theorem SQ (F:L2.Fun K "_law_turned" "_law_turned" iw f fd) (T:Txt K mg t) :bf P w K mg base CX0 1 f fd ["_law_rows","_law_room"] (spD K (Ga t) 2 gY):=by
 refine DL.Fun.okD F cY fun cdv A outer s H E hr=>?_
 exact (bA (cP 2 (fun h=>cg (i:=2) cY.nd rfl (by walk_at "o") h) (cG (vB (ao (aq 1 (pv 1)) aH)) (uz (fZ (fun a b c d=>cX (N':=["_law_other","_law_room"]) (cap:=[none,some 1]) ⟨rfl,rfl,by decide +kernel,by decide +kernel,by rfl,⟨⟨rfl,by walk_at "o"⟩,trivial⟩,⟨trivial,⟨rfl,rfl,by walk_at "o"⟩,trivial⟩⟩ rfl a b c d) (oE rfl T.xG (jU rfl T.pP (aU 0 (pv 0)))) (zG 0) (fun _ _ _ _ _=>(bG (bH (i:=0) (show (["_law_other","_law_room"]:List Str).Nodup by decide +kernel) rfl (by walk_at "o")))) (fun _ _ _ _ _=>(aau (zx hr.units (aU 0 (pv 0)) (aU 1 (pv 1))))) (fun _ _ _ _ _=>(aq 0 (pv 0)))))))
     (bA (Pu 3 (fun h=>cg (i:=3) cY.nd rfl (by walk_at "o") h) (agq aH))
     (bA (yc (fun a b c=>za PassesOwn.never rfl a b c) (mR (aq 2 (pv 2))) (bG (bH (i:=4) cY.nd rfl (by walk_at "o"))) (bA (Pu 5 (fun h=>cg (i:=5) cY.nd rfl (by walk_at "o") h) (agq aH))
     (bA (yc (fun a b c=>za PassesOwn.never rfl a b c) (mR (vA 0 (pv 0) (aq 4 (pv 4)))) (Rq (n:=2) (fun h=>S8 rfl h) (jZ (bG (bH (i:=6) cY.nd rfl (by walk_at "o"))) (jZ (bG (bH (i:=7) cY.nd rfl (by walk_at "o"))) Je (fun a b=>j7 a b)) (fun a b=>j7 a b))) (bA (iC (aep (aU 7 (pv 7)) (bh Ge)) (aF (cP 7 (fun h=>cg (i:=7) cY.nd rfl (by walk_at "o") h) (de_index (aq 2 (pv 2)) (aq 7 (pv 7)) (fun a b=>Fj PySem.F.plainAttrs_list PySem.F.slot_list_index PySem.F.type_list_index mt_index a (bK b eG))))) cC)
     (aF (Gh 5 (pv 5) (oA (ao (aq 6 (pv 6)) (ao (aq 7 (pv 7)) aH))) (fun a b=>iJ (Fj PySem.F.plainAttrs_list PySem.F.slot_list_append PySem.F.type_list_append jA a (bK b eG)))))))
     (aF (agr 5 (Gh 3 (pv 3) (aq 5 (pv 5)) (fun a b=>iJ (Fj PySem.F.plainAttrs_list PySem.F.slot_list_append PySem.F.type_list_append jA a (bK b eG)))))))))
     (aF (Pr 3 (pv 3))))))
abbrev dj:Stmt:=top 39
theorem cA:aN ["_law_cell","_law_sign","_law_some","_law_thing","_law_due","_law_found"] ["_law_cell"] (ak dj):=⟨rfl,rfl,rfl,by decide +kernel,rfl,by decide +kernel,by decide +kernel⟩
def DP:DSt→Out Fl:=(bF (dJ 5 (oF 1 jo (aj (gv 3) aA)))
 (sIf (orT (qu (tst (Cy tK (gb 5)))) (o2b neD (gb 5) (gb 4))) (bR (kc (.bl false))) iz))
def m9:DSt→Out Fl:=(bF (dJ 1 (o2 ixD (kc (.str "aAzZ09 _-.\n~@\x5b`{")) (o2 fX (gv 0) (kc (.int 16)))))
 (bF (lF 2 (zB (aj (cU (aj (kc (.str "a")) (aj (kc (.bl true)) aA))) (aj (cU (aj (kc (.str "abcdefgh")) (aj (kc (.bl true)) aA))) (aj (cU (aj (o2 K5 (kc (.str "z")) (kc (.int 8))) (aj (kc (.bl true)) aA))) (aj (cU (aj (kc (.str "")) (aj (kc (.bl false)) aA))) (aj (cU (aj (kc (.str "abcdefghi")) (aj (kc (.bl false)) aA))) (aj (cU (aj (kc .non) (aj (kc (.bl false)) aA))) aA))))))))
 (bF (Rv 2 (lF 2 (catL (gv 2) (cF (aj (cU (aj (cF (aj (kc (.str "a")) aA)) (aj (kc (.bl false)) aA))) (aj (cU (aj (kc (.int 0)) (aj (kc (.bl false)) aA))) (aj (cU (aj (kc (.bl true)) (aj (kc (.bl false)) aA))) (aj (cU (aj (cU (aj (kc (.str "a")) aA)) (aj (kc (.bl false)) aA))) (aj (cU (aj (o2 bZ (kc (.str "b")) (gv 1)) (aj (orV (bV (o2b eqD (gb 1) (kc (.str "a")))) (bV (o2b eqD (gb 1) (kc (.str "z"))))) aA))) aA)))))))))
 (bF (ud 2 (cU (aj (o2 bZ (gv 1) (kc (.str "c"))) (aj (orV (bV (o2b eqD (gb 1) (kc (.str "a")))) (bV (o2b eqD (gb 1) (kc (.str "z"))))) aA))))
 (bF (Rv 2 (qg (fV (gv 2)) (gT 2 (bO (gN 3) (bO (gN 4) j0))) DP))
 (bR (kc (.bl true))))))))
def fj:List D→Out D:=fun ds=>(cZ 6 m9 ds).bD
theorem GQ (F:L2.Fun K "_law_names_told" "_law_names_told" dj f fd) (T:Txt K mg t) (rA:Def P w K mg base "is_name" 1 ["thing"] (spD K (Ga t) 1 jo)):bf P w K mg base CX0 2 f fd ["_law_cell"] (spD K (Ga t) 1 fj):=by
 obtain ⟨wB,agx,JZ,wu,oK,lz⟩:=rA.ex
 refine okDx F cA fun cdv A outer s H E hr=>?_
 exact (dxc ⟨(cP 1 (fun h=>cg (i:=1) cA.nd rfl (by walk_at "o") h) (de_ix cD (eX (aq 0 (pv 0)) aM)))⟩
     (dxc (dxlst 2 cA.nd rfl (by walk_at "o") (dk (N7 (dk Jg (dk dbl dn))) (dk (N7 (dk Jg (dk dbl dn))) (dk (N7 (dk ⟨(Bc cD aM)⟩ (dk dbl dn))) (dk (N7 (dk Jg (dk dbl dn))) (dk (N7 (dk Jg (dk dbl dn))) (dk (N7 (dk dnon (dk dbl dn))) dn)))))))
     (dxc (dxcat 2 2 cA.nd rfl (by walk_at "o") ⟨(aq 2 (pv 2))⟩ (dk (N7 (dk (dlst (dk Jg dn)) (dk dbl dn))) (dk (N7 (dk dint (dk dbl dn))) (dk (N7 (dk dbl (dk dbl dn))) (dk (N7 (dk (N7 (dk Jg dn)) (dk dbl dn))) (dk (N7 (dk ⟨(cG cD (aq 1 (pv 1)))⟩ (dk ⟨(de_or (Mv hr.units (aU 1 (pv 1)) (bh cD)) (Be (Mv hr.units (aU 1 (pv 1)) (bh cD))))⟩ dn))) dn))))))
     (dxc ⟨(Gh 2 (pv 2) (oA (ao (cG (aq 1 (pv 1)) cD) (ao (de_or (Mv hr.units (aU 1 (pv 1)) (bh cD)) (Be (Mv hr.units (aU 1 (pv 1)) (bh cD)))) aH))) (fun a b=>iJ (Fj PySem.F.plainAttrs_list PySem.F.slot_list_append PySem.F.type_list_append jA a (bK b eG))))⟩
     (dxc ⟨(agr 2 (yc (fun a b c=>za PassesOwn.never rfl a b c) (mR (aq 2 (pv 2))) (Rq (n:=2) (fun h=>S8 rfl h) (jZ (bG (bH (i:=3) cA.nd rfl (by walk_at "o"))) (jZ (bG (bH (i:=4) cA.nd rfl (by walk_at "o"))) Je (fun a b=>j7 a b)) (fun a b=>j7 a b))) (bA (cP 5 (fun h=>cg (i:=5) cA.nd rfl (by walk_at "o") h) (bM (aR JZ (hr.mono (by decide)) rfl oK lz wu .nil bj (ao (aq 3 (pv 3)) aH))))
     (aF (iC (N6 (zy (mU (kJ (bh (vz (cv:=.ty "bool") (.inr rfl) T.tK rfl T.cO (aU 5 (pv 5)) (rz rfl T.b_bool (by decide +kernel) rfl))))) (sX (zx hr.units (aU 5 (pv 5)) (aU 4 (pv 4)))))) (aF (aY mQ)) cC)))))⟩
     (dx1 ⟨(aY mQ)⟩))))))
abbrev gA:Stmt:=top 41
theorem O8:aN ["_law_names_here"] ["_law_names_here"] (ak gA):=⟨rfl,rfl,rfl,by decide +kernel,rfl,by decide +kernel,by decide +kernel⟩
def wH:DSt→Out D:=(gv 0)
def tG:DSt→Out Fl:=(bR (o2 ixD (j4 (cW [none,some 0] (strO (kc (.str "abcdefghi"))) (gN 0) (o2b GJ (gb 0) (gb 1)) wH)) (kc (.int 0))))
def bC:List D→Out D:=fun ds=>(cZ 1 tG ds).bD
theorem Ou (F:L2.Fun K "_law_another" "_law_another" gA f fd) (T:Txt K mg t) :bf P w K mg base CX0 1 f fd ["_law_names_here"] (spD K (Ga t) 1 bC):=by
 refine DL.Fun.okD F O8 fun cdv A outer s H E hr=>?_
 exact (aF (aY (de_ix (uz (fZ (fun a b c d=>cX (N':=["_law_sign","_law_names_here"]) (cap:=[none,some 0]) ⟨rfl,rfl,by decide +kernel,by decide +kernel,by rfl,⟨⟨rfl,by walk_at "o"⟩,trivial⟩,⟨trivial,⟨rfl,rfl,by walk_at "o"⟩,trivial⟩⟩ rfl a b c d) (di_str cD) (zG 0) (fun _ _ _ _ _=>(bG (bH (i:=0) (show (["_law_sign","_law_names_here"]:List Str).Nodup by decide +kernel) rfl (by walk_at "o")))) (fun _ _ _ _ _=>(aau (dt_notin (aU 0 (pv 0)) (aU 1 (pv 1))))) (fun _ _ _ _ _=>(aq 0 (pv 0))))) aM)))
abbrev iu:Stmt:=top 40
theorem nW:aN ["_law_names_here","_law_cell","_law_at","_law_changed","_law_found"] ["_law_names_here","_law_cell"] (ak iu):=⟨rfl,rfl,rfl,by decide +kernel,rfl,by decide +kernel,by decide +kernel⟩
def vD:DSt→Out Fl:=(bF (dJ 2 (o2 fX (gv 1) (o1 ji (gb 0))))
 (bF (dJ 3 (o2 bZ (o2 bZ (oSl (gv 0) noI (soI (gv 2))) (cF (aj (oF 1 bC (aj (gv 0) aA)) aA))) (oSl (gv 0) (soI (o2 bZ (gv 2) (kc (.int 1)))) noI)))
 (bF (lF 4 (zB (aj (gv 3) (aj (o2 bZ (o2 bZ (oSl (gv 0) noI (soI (gv 2))) (oSl (gv 0) (soI (o2 bZ (gv 2) (kc (.int 1)))) noI)) (cF (aj (oF 1 bC (aj (gv 0) aA)) aA))) aA))))
 (bF (sIf (o2b ltD (o1 ji (gb 0)) (kc (.int 8))) (ud 4 (o2 bZ (gv 0) (cF (aj (oF 1 bC (aj (gv 0) aA)) aA)))) iz)
 (bF (sIf (o2b gtD (o1 ji (gb 0)) (kc (.int 1))) (bF (ud 4 (o2 bZ (oSl (gv 0) (soI (kc (.int 1))) noI) (oSl (gv 0) noI (soI (kc (.int 1))))))
 (ud 4 (oSl (gv 0) noI (soI (o1 yW (kc (.int 1))))))) iz)
 (Yq 4))))))
def gW:List D→Out D:=fun ds=>(cZ 5 vD ds).bD
theorem SN (F:L2.Fun K "_law_others" "_law_others" iu f fd) (T:Txt K mg t) (rM:Def P w K mg base "_law_another" 1 ["_law_names_here"] (spD K (Ga t) 1 bC)):bf P w K mg base CX0 2 f fd ["_law_names_here","_law_cell"] (spD K (Ga t) 2 gW):=by
 obtain ⟨mX,ajv,rQ,iV,eE,cR⟩:=rM.ex
 refine okDx F nW fun cdv A outer s H E hr=>?_
 exact (dxc ⟨(cP 2 (fun h=>cg (i:=2) nW.nd rfl (by walk_at "o") h) (eX (aq 1 (pv 1)) (jU rfl T.pP (aU 0 (pv 0)))))⟩
     (dxc ⟨(cP 3 (fun h=>cg (i:=3) nW.nd rfl (by walk_at "o") h) (cG (cG (jd (aq 0 (pv 0)) qK (jq (aq 2 (pv 2)))) (vB (ao (bM (aR rQ (hr.mono (by decide)) rfl eE cR iV .nil bj (ao (aq 0 (pv 0)) aH))) aH))) (jd (aq 0 (pv 0)) (jq (cG (aq 2 (pv 2)) aM)) qK)))⟩
     (dxc (dxlst 4 nW.nd rfl (by walk_at "o") (dk ⟨(aq 3 (pv 3))⟩ (dk ⟨(cG (cG (jd (aq 0 (pv 0)) qK (jq (aq 2 (pv 2)))) (jd (aq 0 (pv 0)) (jq (cG (aq 2 (pv 2)) aM)) qK)) (vB (ao (bM (aR rQ (hr.mono (by decide)) rfl eE cR iV .nil bj (ao (aq 0 (pv 0)) aH))) aH)))⟩ dn)))
     (dxc ⟨(iC (dt_lt (bh (jU rfl T.pP (aU 0 (pv 0)))) (bh aM)) (aF (Gh 4 (pv 4) (cG (aq 0 (pv 0)) (vB (ao (bM (aR rQ (hr.mono (by decide)) rfl eE cR iV .nil bj (ao (aq 0 (pv 0)) aH))) aH))) (fun a b=>iJ (Fj PySem.F.plainAttrs_list PySem.F.slot_list_append PySem.F.type_list_append jA a (bK b eG))))) cC)⟩
     (dxc ⟨(iC (dt_gt (bh (jU rfl T.pP (aU 0 (pv 0)))) (bh aM)) (bA (Gh 4 (pv 4) (cG (jd (aq 0 (pv 0)) (jq aM) qK) (jd (aq 0 (pv 0)) qK (jq aM))) (fun a b=>iJ (Fj PySem.F.plainAttrs_list PySem.F.slot_list_append PySem.F.type_list_append jA a (bK b eG))))
     (aF (Gh 4 (pv 4) (jd (aq 0 (pv 0)) qK (jq (Bd aM))) (fun a b=>iJ (Fj PySem.F.plainAttrs_list PySem.F.slot_list_append PySem.F.type_list_append jA a (bK b eG)))))) cC)⟩
     (dx1 ⟨(Pr 4 (pv 4))⟩))))))
abbrev iy:Stmt:=top 42
theorem ue:aN ["_law_one","_law_other","_law_found","e"] ["_law_one","_law_other"] (ak iy):=⟨rfl,rfl,rfl,by decide +kernel,rfl,by decide +kernel,by decide +kernel⟩
def vH:DSt→Out Fl:=(bF (dJ 2 (kc .non))
 (bF (sTry fP 2 (qH (oF 2 dN (aj (gv 0) (aj (gv 1) aA)))))
 (bR (Cy yq (gb 2)))))
def dM:List D→Out D:=fun ds=>(cZ 4 vH ds).bD
theorem SX (F:L2.Fun K "_law_unlike" "_law_unlike" iy f fd) (T:Txt K mg t) (lu:Qe P w K mg base "need_same" 2 ["one","other"] (spD K (Ga t) 2 dN)):bf P w K mg base CX0 3 f fd ["_law_one","_law_other"] (spD K (Ga t) 2 dM):=by
 obtain ⟨pZ,aax,zO,pQ,jl,gK⟩:=lu.ex
 refine DL.Fun.okD F ue fun cdv A outer s H E hr=>?_
 exact (bA (cP 2 (fun h=>cg (i:=2) ue.nd rfl (by walk_at "o") h) Ge)
     (bA (ds_try (cat:=fP) (i:=2) (j:=3) T.fP rfl rfl ue.nd rfl (by walk_at "o") rfl (by decide) rfl rfl T.My (fun pins E'=>(aF (aas (bM (aR zO (hr.mono (by decide)) rfl jl gK pQ .nil passT (ao (aq 0 (pv 0)) (ao (aq 1 (pv 1)) aH))))))))
     (aF (aY (vz (cv:=.ref t.Unlike) (.inl rfl) T.yq rfl T.cO (aU 2 (pv 2)) (Jx rfl T.aeA rfl))))))
abbrev dm:Stmt:=top 43
theorem gQ:aN ["_law_cell","_law_names_here","_law_some","_law_found","e"] ["_law_cell","_law_names_here"] (ak dm):=⟨rfl,rfl,rfl,by decide +kernel,rfl,by decide +kernel,by decide +kernel⟩
def nj:DSt→Out Fl:=(bF (dJ 2 (cF (aj (kc .non) (aj (kc (.int 0)) (aj (cF aA) (aj (kc (.str "ab")) (aj (oC (Le CZ) (aj (gv 1) aA)) (aj (mkD1 (kc (.str "a")) (kc (.int 0))) (aj (cF (aj (kc (.str "a")) (aj (kc (.str "a")) aA))) (aj (cF (aj (kc (.str "A")) aA)) (aj (cF (aj (kc .non) aA)) (aj (cF (aj (kc (.str "abcdefghi")) aA)) (aj (kc (.bl true)) (aj (cF (aj (kc (.str "a")) (aj (kc (.str "")) aA))) aA))))))))))))))
 (bF (dJ 3 (kc .non))
 (bF (afc jb 3 4 (cU (aj (oFldX "room" dB (gv 4)) (aj (oFldX "action" dB (gv 4)) aA))) (qH (oF 1 bU (aj (o2 ixD (gvo 2) (o2 fX (gv 0) (kc (.int 12)))) aA))))
 (bR (bV (o2b eqD (gb 3) (cU (aj (o1 yW (kc (.int 1))) (aj (o1 yW (kc (.int 1))) aA)))))))))
def fu:List D→Out D:=fun ds=>(cZ 5 nj ds).bD
theorem GR (F:L2.Fun K "_law_no_actions" "_law_no_actions" dm f fd) (T:Txt K mg t) (lq:Qe P w K mg base "free_plan" 9 ["actions"] (spD K (Ga t) 1 bU)):bf P w K mg base CX0 10 f fd ["_law_cell","_law_names_here"] (spD K (Ga t) 2 fu):=by
 obtain ⟨pY,aaw,pO,iW,fO,dO⟩:=lq.ex
 refine okDx F gQ fun cdv A outer s H E hr=>?_
 exact (dxc (dxset 2 gQ.nd rfl (by walk_at "o") (dlst (dk dnon (dk dint (dk (dlst dn) (dk Jg (dk ⟨(Jc rfl T.Ie (aq 1 (pv 1)))⟩ (dk (ddic Jg dint) (dk (dlst (dk Jg (dk Jg dn))) (dk (dlst (dk Jg dn)) (dk (dlst (dk dnon dn)) (dk (dlst (dk Jg dn)) (dk dbl (dk (dlst (dk Jg (dk Jg dn))) dn))))))))))))))
     (dxc ⟨(cP 3 (fun h=>cg (i:=3) gQ.nd rfl (by walk_at "o") h) Ge)⟩
     (dxc ⟨(ds_try2 (cat:=jb) (i:=3) (j:=4) T.jb rfl rfl gQ.nd rfl (by walk_at "o") rfl (by decide) rfl rfl T.wF (fun pins E'=>(aF (aas (bM (aR pO (hr.mono (by decide)) rfl fO dO iW .nil passT (ao (vA 2 (pv 2) (eX (aq 0 (pv 0)) aM)) aH)))))) (fun a=>(oA (ao (ahU (c:=dB) ⟨t.BadPlan,rfl,T.gG.toExcGet,T.eZ⟩ (aq 4 (pv 4))) (ao (ahU (c:=dB) ⟨t.BadPlan,rfl,T.gG.toExcGet,T.di⟩ (aq 4 (pv 4))) aH)))))⟩
     (dx1 ⟨(aY (Mv hr.units (aU 3 (pv 3)) (bh (oA (ao (Bd aM) (ao (Bd aM) aH))))))⟩))))
abbrev JC:Stmt:=top 44
theorem CP:aN ["_law_script","_law_cell","_law_names_here","_law_rows","_law_plan","_law_room","_law_free","_law_other"] ["_law_script"] (ak JC):=⟨rfl,rfl,rfl,by decide +kernel,rfl,by decide +kernel,by decide +kernel⟩
def abn:DSt→Out D:=(cU (aj (kc (.str "may")) (aj (kc (.int 0)) aA)))
def Jr:DSt→Out Fl:=(sIf (orT (qu (tst (oF 2 dM (aj (gv 4) (aj (oF 1 bU (aj (gv 7) aA)) aA))))) (qu (tst (oF 2 dM (aj (oF 1 bU (aj (gv 7) aA)) (aj (gv 4) aA)))))) (bR (kc (.bl false))) iz)
def g_law:DSt→Out Fl:=(bF (dJ 1 (oF 2 d8 (aj (gv 0) (aj (kc (.int 0)) aA))))
 (bF (dJ 2 (oF 2 jm (aj (gv 1) (aj (o2 bZ (kc (.int 1)) (o2 fX (oF 2 aD (aj (gv 1) (aj (kc (.int 1)) aA))) (kc (.int 8)))) aA))))
 (bF (dJ 3 (oF 4 jn (aj (gv 1) (aj (o2 bZ (kc (.int 1)) (o2 fX (oF 2 aD (aj (gv 1) (aj (kc (.int 2)) aA))) (kc (.int 8)))) (aj (o1 ji (gb 2)) (aj (oSl (gv 0) (soI (kc (.int 1))) (soI (kc (.int 40)))) aA))))))
 (bF (dJ 4 (oMk aV 2 qi (aj (gv 2) (aj (gv 3) aA))))
 (bF (dJ 5 (o2 fX (oF 2 aD (aj (gv 1) (aj (kc (.int 3)) aA))) (o1 ji (gb 3))))
 (bF (sIf (orT (o2b neD (oM "told" 1 (CV du) (oF 2 mF (aj (gv 4) (aj (gv 5) aA))) aA) (oF 2 gY (aj (gv 3) (aj (gv 5) aA)))) (orT (o2b neD (oM "told" 1 (CV du) (oF 2 mF (aj (gv 4) (aj (kc (.int 0)) aA))) aA) (gb 3)) (o2b neD (oM "told" 1 (CV du) (gv 4) aA) (gb 3)))) (bR (kc (.bl false))) iz)
 (bF (dJ 6 (oF 1 bU (aj (gv 2) aA)))
 (bF (sIf (orT (o2b neD (oM "told" 1 (CV du) (gv 6) aA) (cF (aj (j4 (cW [none] (fV (gv 2)) (gN 0) (fun _=>.ok true) abn)) aA))) (o2b neD (oM "action_list" 1 (Pn bc) (gv 6) aA) (gb 2))) (bR (kc (.bl false))) iz)
 (bF (sIf (orT (o2b uc (oF 2 dN (aj (gv 4) (aj (gv 6) aA))) (kc .non)) (o2b neD (oM "action_list" 1 (Pn bc) (oF 2 mF (aj (gv 4) (aj (gv 5) aA))) aA) (gb 2))) (bR (kc (.bl false))) iz)
 (bF (qg (fV (oF 2 gW (aj (gv 2) (aj (oF 2 aD (aj (gv 1) (aj (kc (.int 4)) aA))) aA)))) (gN 7) Jr)
 (bR (HQ (oF 1 fj (aj (oF 2 aD (aj (gv 1) (aj (kc (.int 5)) aA))) aA)) (oF 2 fu (aj (oF 2 aD (aj (gv 1) (aj (kc (.int 6)) aA))) (aj (gv 2) aA)))))))))))))))
def F_law:List D→Out D:=fun ds=>(cZ 8 g_law ds).bD
theorem ok_law (F:L2.Fun K "law" "law" JC f fd) (T:Txt K mg t) (rN:Def P w K mg base "_law_cell_at" 1 ["_law_script","_law_k"] (spD K (Ga t) 2 d8)) (wR:Def P w K mg base "_law_names" 2 ["_law_cell","_law_many"] (spD K (Ga t) 2 jm)) (dG:Def P w K mg base "_law_mixed" 1 ["_law_cell","_law_k"] (spD K (Ga t) 2 aD)) (wU:Def P w K mg base "_law_rooms" 2 ["_law_cell","_law_many","_law_acts","_law_cells"] (spD K (Ga t) 4 jn)) (wX:Ini1 P w K mg base t.Plan 7 ["self","actions","rows"] (spI K (Ga t) aV 2 qi)) (v8:iK P w K mg base (Ga t) "told" (spFF K (Ga t) 1) 4 du) (Yw:Def P w K mg base "begun" 9 ["plan","room"] (spD K (Ga t) 2 mF)) (uP:Def P w K mg base "_law_turned" 1 ["_law_rows","_law_room"] (spD K (Ga t) 2 gY)) (lq:Qe P w K mg base "free_plan" 9 ["actions"] (spD K (Ga t) 1 bU)) (bY:iK P w K mg base (Ga t) "action_list" (spF K (Ga t) 1) 1 bc) (lu:Qe P w K mg base "need_same" 2 ["one","other"] (spD K (Ga t) 2 dN)) (uO:Def P w K mg base "_law_others" 2 ["_law_names_here","_law_cell"] (spD K (Ga t) 2 gW)) (uQ:Def P w K mg base "_law_unlike" 3 ["_law_one","_law_other"] (spD K (Ga t) 2 dM)) (my:Def P w K mg base "_law_names_told" 2 ["_law_cell"] (spD K (Ga t) 1 fj)) (mz:Def P w K mg base "_law_no_actions" 10 ["_law_cell","_law_names_here"] (spD K (Ga t) 2 fu)):bf P w K mg base CX0 11 f fd ["_law_script"] (spD K (Ga t) 1 F_law):=by
 obtain ⟨mY,ajw,Qh,sr,jj,gj⟩:=rN.ex
 obtain ⟨qQ,fd__law_names,YH,xu,nP,jx⟩:=wR.ex
 obtain ⟨jr,EY,bB,bu,aZ,aW⟩:=dG.ex
 obtain ⟨qR,fd__law_rooms,YJ,xx,nQ,jy⟩:=wU.ex
 obtain ⟨f_Plan,ahX,Ql,Qg,QJ⟩:=wX.ex
 obtain ⟨PK,fd_begun,YK,Ib,yU,uM⟩:=Yw.ex
 obtain ⟨pD,fd__law_turned,Ul,uW,j6,g8⟩:=uP.ex
 obtain ⟨pY,aaw,pO,iW,fO,dO⟩:=lq.ex
 obtain ⟨pZ,aax,zO,pQ,jl,gK⟩:=lu.ex
 obtain ⟨pC,fd__law_others,Uk,uV,j5,gZ⟩:=uO.ex
 obtain ⟨pF,fd__law_unlike,DX,ph,ig,fQ⟩:=uQ.ex
 obtain ⟨iG,agv,Hk,mH,fK,dg⟩:=my.ex
 obtain ⟨iI,agw,Hl,mJ,fM,dh⟩:=mz.ex
 refine okDx F CP fun cdv A outer s H E hr=>?_
 exact (dxc ⟨(cP 1 (fun h=>cg (i:=1) CP.nd rfl (by walk_at "o") h) (bM (aR Qh (hr.mono (by decide)) rfl jj gj sr .nil bj (ao (aq 0 (pv 0)) (ao aM aH)))))⟩
     (dxc ⟨(cP 2 (fun h=>cg (i:=2) CP.nd rfl (by walk_at "o") h) (bM (aR YH (hr.mono (by decide)) rfl nP jx xu .nil bj (ao (aq 1 (pv 1)) (ao (cG aM (eX (bM (aR bB (hr.mono (by decide)) rfl aZ aW bu .nil bj (ao (aq 1 (pv 1)) (ao aM aH)))) aM)) aH)))))⟩
     (dxc ⟨(cP 3 (fun h=>cg (i:=3) CP.nd rfl (by walk_at "o") h) (bM (aR YJ (hr.mono (by decide)) rfl nQ jy xx .nil bj (ao (aq 1 (pv 1)) (ao (cG aM (eX (bM (aR bB (hr.mono (by decide)) rfl aZ aW bu .nil bj (ao (aq 1 (pv 1)) (ao aM aH)))) aM)) (ao (jU rfl T.pP (aU 2 (pv 2))) (ao (jd (aq 0 (pv 0)) (jq aM) (jq aM)) aH)))))))⟩
     (dxc ⟨(cP 4 (fun h=>cg (i:=4) CP.nd rfl (by walk_at "o") h) (Rr (c:=aV) rfl (yZ Ql Qg (hr.mono (by decide)) rfl T.agA QJ .nil Lf (ao (aq 2 (pv 2)) (ao (aq 3 (pv 3)) aH)))))⟩
     (dxc ⟨(cP 5 (fun h=>cg (i:=5) CP.nd rfl (by walk_at "o") h) (eX (bM (aR bB (hr.mono (by decide)) rfl aZ aW bu .nil bj (ao (aq 1 (pv 1)) (ao aM aH)))) (jU rfl T.pP (aU 3 (pv 3)))))⟩
     (dxc ⟨(iC (N6 (zy (zx hr.units (bh (gf (dY ((iK.dFF v8).ok (hr.mono (by decide))) bj (bM (aR YK (hr.mono (by decide)) rfl yU uM Ib .nil bj (ao (aq 4 (pv 4)) (ao (aq 5 (pv 5)) aH))))))) (bh (bM (aR Ul (hr.mono (by decide)) rfl j6 g8 uW .nil bj (ao (aq 3 (pv 3)) (ao (aq 5 (pv 5)) aH)))))) (zy (zx hr.units (bh (gf (dY ((iK.dFF v8).ok (hr.mono (by decide))) bj (bM (aR YK (hr.mono (by decide)) rfl yU uM Ib .nil bj (ao (aq 4 (pv 4)) (ao aM aH))))))) (aU 3 (pv 3))) (sX (zx hr.units (bh (gf (dY ((iK.dFF v8).ok (hr.mono (by decide))) bj (aq 4 (pv 4))))) (aU 3 (pv 3))))))) (aF (aY mQ)) cC)⟩
     (dxc ⟨(cP 6 (fun h=>cg (i:=6) CP.nd rfl (by walk_at "o") h) (bM (aR pO (hr.mono (by decide)) rfl fO dO iW .nil Lf (ao (aq 2 (pv 2)) aH))))⟩
     (dxc ⟨(iC (N6 (zy (zx hr.units (bh (gf (dY ((iK.dFF v8).ok (hr.mono (by decide))) bj (aq 6 (pv 6))))) (bh (vB (ao (uz (fZ (fun a b c d=>cX (N':=["_law_name"]) (cap:=[none]) ⟨rfl,rfl,by decide +kernel,by decide +kernel,by rfl,trivial,⟨trivial,trivial⟩⟩ rfl a b c d) (mR (aq 2 (pv 2))) (zG 0) (fun _ _ _ _ _=>(bG (bH (i:=0) (show (["_law_name"]:List Str).Nodup by decide +kernel) rfl (by walk_at "o")))) (fun _ _ _ _ _=>iD) (fun _ _ _ _ _=>(oA (ao cD (ao aM aH)))))) aH)))) (sX (zx hr.units (bh (gf (dY ((iK.dF bY).ok (hr.mono (by decide))) bj (aq 6 (pv 6))))) (aU 2 (pv 2)))))) (aF (aY mQ)) cC)⟩
     (dxc ⟨(iC (N6 (zy (aep (bh (bM (aR zO (hr.mono (by decide)) rfl jl gK pQ .nil Lf (ao (aq 4 (pv 4)) (ao (aq 6 (pv 6)) aH))))) (bh Ge)) (sX (zx hr.units (bh (gf (dY ((iK.dF bY).ok (hr.mono (by decide))) bj (bM (aR YK (hr.mono (by decide)) rfl yU uM Ib .nil bj (ao (aq 4 (pv 4)) (ao (aq 5 (pv 5)) aH))))))) (aU 2 (pv 2)))))) (aF (aY mQ)) cC)⟩
     (dxc ⟨(yc (fun a b c=>za PassesOwn.never rfl a b c) (mR (bM (aR Uk (hr.mono (by decide)) rfl j5 gZ uV .nil bj (ao (aq 2 (pv 2)) (ao (bM (aR bB (hr.mono (by decide)) rfl aZ aW bu .nil bj (ao (aq 1 (pv 1)) (ao aM aH)))) aH))))) (bG (bH (i:=7) CP.nd rfl (by walk_at "o"))) (aF (iC (N6 (zy (mU (kJ (bh (bM (aR DX (hr.mono (by decide)) rfl ig fQ ph .nil bj (ao (aq 4 (pv 4)) (ao (bM (aR pO (hr.mono (by decide)) rfl fO dO iW .nil Lf (ao (aq 7 (pv 7)) aH))) aH))))))) (sX (mU (kJ (bh (bM (aR DX (hr.mono (by decide)) rfl ig fQ ph .nil bj (ao (bM (aR pO (hr.mono (by decide)) rfl fO dO iW .nil Lf (ao (aq 7 (pv 7)) aH))) (ao (aq 4 (pv 4)) aH)))))))))) (aF (aY mQ)) cC)))⟩
     (dx1 ⟨(aY (Kl (bM (aR Hk (hr.mono (by decide)) rfl fK dg mH .nil bj (ao (bM (aR bB (hr.mono (by decide)) rfl aZ aW bu .nil bj (ao (aq 1 (pv 1)) (ao aM aH)))) aH))) (Be (bM (aR Hl (hr.mono (by decide)) rfl fM dh mJ .nil bj (ao (bM (aR bB (hr.mono (by decide)) rfl aZ aW bu .nil bj (ao (aq 1 (pv 1)) (ao aM aH)))) (ao (aq 2 (pv 2)) aH)))))))⟩)))))))))))
end
end K6
namespace DL
open PySem MX L2
theorem ad4 {α β:Type} {fe:DSt→Out β} (g:α→D) (h:α→β):∀ (xs:List α) (δ:DSt),(∀ x ∈ xs,fe (δ.set 0 (some (.sh (g x)))) = .ok (h x))→Aq (gN 0) (fun _=>.ok true) fe (xs.map g) δ = .ok (xs.map h)
 | [],_,_=>rfl
 | x :: xs,δ,k=>by
   have e1:=k x List.mem_cons_self
   have e2:=ad4 g h xs (δ.set 0 (some (.sh (g x)))) (fun y hy=>by rw [List.set_set]; exact k y (List.mem_cons_of_mem _ hy))
   rw [List.map_cons,List.map_cons]
   unfold Aq
   simp only [gN,Out.gr,Out.aQ,Out.pL,e1,e2,if_true]
theorem kj {α β:Type} {cap:List (Option Nat)} {fi:DSt→Out (List D)} {fe:DSt→Out β} {δ:DSt} (g:α→D) (h:α→β) (xs:List α) (e:fi δ = .ok (xs.map g)) (hz:xs.length < 1000000) (k:∀ x ∈ xs,fe ((Nm cap δ).set 0 (some (.sh (g x)))) = .ok (h x)):cW cap fi (gN 0) (fun _=>.ok true) fe δ = .ok (xs.map h):=by
 unfold cW
 rw [e]
 simp only [Out.aQ]
 rw [if_pos (by rw [List.length_map]; exact Nat.lt_of_lt_of_le hz (by decide)),ad4 g h xs _ k]
theorem af3 (l:List Bool):Aj (l.map D.bl) = some l:=by
 induction l with
 | nil=>rfl
 | cons b l ih=>simp [Aj,ih,asB]
theorem Ys (l:List Str):M8 (l.map D.str) = some l:=by
 induction l with
 | nil=>rfl
 | cons b l ih=>simp [M8,ih]
theorem adO {α:Type} (f:α→Bool) (l:List α):allD (.lst (l.map fun x=>.bl (f x))) = some (.bl (l.all f)):=by
 unfold allD
 have:(l.map fun x=>D.bl (f x)) = (l.map f).map D.bl:=by simp
 rw [this]
 simp only [qX,Option.bind_some,af3,Option.map_some]
 congr 2
 induction l with
 | nil=>rfl
 | cons a l ih=>simp
theorem rngL_map (n:Nat):rngL 0 n = (List.range n).map fun i=>D.int (i:Nat):=by
 unfold rngL
 congr 1
 funext i
 rw [Int.zero_add]
theorem PL {α:Type} {body:DSt→Out Fl} {tg:D→DSt→Option DSt} (g:α→D) (I:List α→DSt→Prop):∀ (xs done:List α) (δ:DSt),(∀ x done δ,I done δ→x ∈ xs→∃ δ1,tg (g x) δ = some δ1∧nxP (body δ1) (I (done ++ [x])))→I done δ→∃ δ',forD tg body (xs.map g) δ = .ok (.nx δ')∧I (done ++ xs) δ'
 | [],done,δ,_,i=>⟨δ,rfl,by simpa using i⟩
 | x :: xs,done,δ,h,i=>by
   obtain ⟨δ1,e1,w⟩:=h x done δ i List.mem_cons_self
   obtain ⟨δ',e2,i'⟩:=abx w
   obtain ⟨δ2,e3,i2⟩:=PL g I xs (done ++ [x]) δ' (fun y dn δ hi hy=>h y dn δ hi (List.mem_cons_of_mem _ hy)) i'
   exact ⟨δ2,by rw [List.map_cons]; unfold forD; rw [e1]; simp only [Out.gr,Out.aQ,e2]; exact e3,by simpa using i2⟩
theorem Bq {α:Type} {body:DSt→Out Fl} {tg:D→DSt→Option DSt} (g:α→D) (I:List α→DSt→Prop) (xs:List α) (δ:DSt) (h:∀ x done rest δ,xs = done ++ x :: rest→I done δ→∃ δ1,tg (g x) δ = some δ1∧nxP (body δ1) (I (done ++ [x]))) (i:I [] δ):∃ δ',forD tg body (xs.map g) δ = .ok (.nx δ')∧I xs δ':=by
 have go:∀ (ys done:List α) (δ:DSt),xs = done ++ ys→I done δ→∃ δ',forD tg body (ys.map g) δ = .ok (.nx δ')∧I xs δ':=by
   intro ys
   induction ys with
   | nil=>intro done δ e i; exact ⟨δ,rfl,by rw [e,List.append_nil]; exact i⟩
   | cons x ys ih =>
     intro done δ e i
     obtain ⟨δ1,e1,w⟩:=h x done ys δ e i
     obtain ⟨δ',e2,i'⟩:=abx w
     obtain ⟨δ2,e3,i2⟩:=ih (done ++ [x]) δ' (by rw [e]; simp) i'
     exact ⟨δ2,by rw [List.map_cons]; unfold forD; rw [e1]; simp only [Out.gr,Out.aQ,e2]; exact e3,i2⟩
 exact go xs [] δ rfl i
theorem rng_lo (j:Int) (h:0 ≤ j):(-(2 ^ 62):Int) ≤ j:=by omega
theorem rng_hi (j:Int) (h:j < 1000000):j < (2 ^ 62:Int):=by omega
theorem rng1_int {f:DSt→Out D} {δ:DSt} {j:Int} (h:f δ = .ok (.int j)) (h0:0 ≤ j) (h1:j < 1000000):zF f δ = .ok (rngL 0 j.toNat):=by
 unfold zF
 rw [h]
 simp only [Out.aQ]
 rw [if_pos ⟨rng_lo j h0,rng_hi j h1⟩]
theorem wM {f:DSt→Out D} {δ:DSt} {n:Nat} (h:f δ = .ok (.int (n:Nat))) (hn:n < 1000000):zF f δ = .ok ((List.range n).map fun i=>D.int (i:Nat)):=by
 have a:(n:Int) < 1000000:=by omega
 have b:(0:Int) ≤ (n:Int):=by omega
 generalize hj:(n:Int) = j at h a b
 have e:=rng1_int h b a
 have t:j.toNat = n:=by omega
 rw [e,t,rngL_map]
theorem cI {A B:DSt→Out Fl} {δ δ':DSt} {r:Out D} (h:A δ = .ok (.nx δ')) (k:((B δ').bind lZ).bD = r):((bF A B δ).bind lZ).bD = r:=by
 unfold bF
 rw [h]
 exact k
theorem zb {f:DSt→Out D} {δ:DSt} {d:D} (h:f δ = .ok d):((bR f δ).bind lZ).bD = .ok d:=by
 unfold bR
 rw [h]
 rfl
end DL
namespace DL
open PySem MX L2 PySem.Builtin PySem.Builtin.Str
def ofL (l:List Nat):Str:=⟨l.toArray⟩
theorem qZ (l:List Nat):(ofL l).length = l.length:=by show l.toArray.size = _; simp
theorem abz {a b:List Nat} (h:ofL a = ofL b):a = b:=by
 have:=congrArg (fun s:Str=>s.cps.toList) h
 simpa [ofL] using this
theorem ofL_app (a b:List Nat):ofL a ++ ofL b = ofL (a ++ b):=by
 show Str.append (ofL a) (ofL b) = _
 unfold Str.append ofL
 simp
theorem G8 (l:List Nat):∀ (m i:Nat),(List.range' i m).filterMap (fun x=>l.toArray[x]?) = (l.drop i).take m
 | 0,i=>by simp
 | m + 1,i=>by
   rw [List.range'_succ,List.filterMap_cons]
   have ih:=G8 l m (i + 1)
   by_cases h:i < l.length
   · simp only [List.getElem?_toArray,List.getElem?_eq_getElem h]
     rw [List.drop_eq_getElem_cons h,List.take_succ_cons]
     congr 1
     simpa using ih
   · have e:l[i]? = none:=List.getElem?_eq_none (by omega)
     simp only [List.getElem?_toArray,e]
     have e2:l.drop i = []:=List.drop_eq_nil_of_le (by omega)
     have e3:l.drop (i + 1) = []:=List.drop_eq_nil_of_le (by omega)
     rw [e3] at ih
     rw [e2]
     simpa using ih
theorem idx_ss (i j n:Nat) (h1:i ≤ j) (h2:j ≤ n):strSliceIndices (some (i:Int)) (some (j:Int)) 1 n = List.range' i (j - i):=by
 unfold strSliceIndices sliceRange
 have a1:¬ ((i:Int) < 0):=by omega
 have a2:¬ ((j:Int) < 0):=by omega
 have b1:max (0:Int) (min (i:Int) (n:Int)) = i:=by omega
 have b2:max (0:Int) (min (j:Int) (n:Int)) = j:=by omega
 simp only [show (1:Int) > 0 by decide,if_true,a1,a2,if_false,b1,b2]
 have c:(if (i:Int) < j then ((j:Int) - i + 1 - 1) / 1 else 0).toNat = j - i:=by
   split
   · rw [Int.ediv_one]; omega
   · simp; omega
 rw [c,List.range'_eq_map_range]
 congr 1
 funext k
 omega
theorem idx_ns (j n:Nat) (h2:j ≤ n):strSliceIndices none (some (j:Int)) 1 n = List.range' 0 j:=by
 have:=idx_ss 0 j n (Nat.zero_le _) h2
 rw [Nat.sub_zero] at this
 rw [← this]
 unfold strSliceIndices
 simp only [show (1:Int) > 0 by decide,if_true]
 have e:max (0:Int) (min (if ((0:Nat):Int) < 0 then ((0:Nat):Int) + (n:Int) else ((0:Nat):Int)) (n:Int)) = 0:=by
   rw [if_neg (by omega)]
   omega
 rw [e]
theorem slice_ss (l:List Nat) (i j:Nat) (h1:i ≤ j) (h2:j ≤ l.length):Txt.slice (ofL l) (some (i:Int)) (some (j:Int)) = ofL ((l.drop i).take (j - i)):=by
 unfold Txt.slice
 rw [qZ,idx_ss i j _ h1 h2]
 split
 · rename_i h
   simp at h
   have:i = 0∧j = l.length:=by omega
   obtain ⟨rfl,rfl⟩:=this
   simp
 · show (⟨((List.range' i (j - i)).filterMap fun x=>l.toArray[x]?).toArray⟩:Str) = _
   rw [G8]
   rfl
theorem slice_ns (l:List Nat) (j:Nat) (h2:j ≤ l.length):Txt.slice (ofL l) none (some (j:Int)) = ofL (l.take j):=by
 unfold Txt.slice
 rw [qZ,idx_ns j _ h2]
 split
 · rename_i h
   simp at h
   subst h
   simp
 · show (⟨((List.range' 0 j).filterMap fun x=>l.toArray[x]?).toArray⟩:Str) = _
   rw [G8]
   simp [ofL]
theorem abc:(Str.ofString "abcdefghijklmnopqrstuvwxyz") = ofL ((List.range 26).map (97 + ·)):=by decide +kernel
theorem abc_at {i:Int} (h0:0 ≤ i) (h1:i < 26):ixD (.str "abcdefghijklmnopqrstuvwxyz") (.int i) = some (.str (ofL [97 + i.toNat])):=by
 obtain ⟨k,rfl⟩:=Int.eq_ofNat_of_zero_le h0
 have hk:k < 26:=by omega
 have key:∀ k:Fin 26,ixD (.str (Str.ofString "abcdefghijklmnopqrstuvwxyz")) (.int ((k.val:Nat):Int)) = some (.str (ofL [97 + ((k.val:Nat):Int).toNat])):=by
   intro k
   have e:(if (Str.ofString "abcdefghijklmnopqrstuvwxyz").length ≤ sizeLine then (atI (Str.ofString "abcdefghijklmnopqrstuvwxyz").cps.toList ((k.val:Nat):Int)).map fun c=>D.str ⟨#[c]⟩ else none) = ixD (.str (Str.ofString "abcdefghijklmnopqrstuvwxyz")) (.int ((k.val:Nat):Int)):=rfl
   rw [← e,abc,qZ,if_pos (by simp; decide)]
   show (atI (((List.range 26).map (97 + ·)).toArray.toList) ((k.val:Nat):Int)).map _ = _
   have:atI (((List.range 26).map (97 + ·)).toArray.toList) ((k.val:Nat):Int) = some (97 + k.val):=fG (by simp)
   rw [this]
   simp [ofL]
 exact key ⟨k,hk⟩
theorem abc_in {c:Nat} (h0:97 ≤ c) (h1:c < 123):inD (.str (ofL [c])) (.str "abcdefghijklmnopqrstuvwxyz") = some true:=by
 have key:∀ k:Fin 26,(!(occurrences (Str.ofString "abcdefghijklmnopqrstuvwxyz") (ofL [97 + k.val]) 0 (Str.ofString "abcdefghijklmnopqrstuvwxyz").length 1).isEmpty) = true:=by decide +kernel
 have:=key ⟨c - 97,by omega⟩
 rw [show 97 + (c - 97) = c by omega] at this
 show some _ = some true
 rw [this]
theorem join_ones (l:List Nat):Txt.join (Str.ofString "") (l.map fun c=>ofL [c]) = ofL l:=by
 have e0:(Str.ofString "").cps = #[]:=by decide +kernel
 have go:∀ (l:List Nat) (a:Array Nat),(l.map fun c=>ofL [c]).foldl (fun acc p=>acc ++ (Str.ofString "").cps ++ p.cps) a = a ++ l.toArray:=by
   intro l
   induction l with
   | nil=>intro a; simp
   | cons c l ih =>
     intro a
     rw [List.map_cons,List.foldl_cons,ih,e0]
     apply Array.ext'
     simp [ofL]
 show glued _ _ = _
 unfold glued
 cases l with
 | nil=>rfl
 | cons c l =>
   simp only [List.map_cons,List.drop_one,List.tail_cons,List.headD_cons]
   rw [go]
   unfold ofL
   congr 1
   apply Array.ext'
   simp
end DL
namespace K6
open PySem L2 MX DL
inductive Dr where
 | must (n:Nat) | may (n:Nat) | shut | torn
def Dr.w:Dr→Str
 | .must _=>"must"
 | .may _=>"may"
 | .shut=>"shut"
 | .torn=>"torn"
def Dr.to:Dr→D
 | .must n=>.int n
 | .may n=>.int n
 | .shut=>.non
 | .torn=>.non
def Dr.d (x:Dr):D:=.tup [.str x.w,x.to]
def Dr.ob:Dr→D
 | .must n=>.obj jY [("to",.int n)]
 | .may n=>.obj uX [("to",.int n)]
 | .shut=>.obj jP [("to",.non)]
 | .torn=>.obj jQ [("to",.non)]
def Dr.ok (many:Nat) (t:Bool):Dr→Prop
 | .must n=>n < many
 | .may n=>n < many
 | .shut=>True
 | .torn=>t = true
theorem s0:(0:Nat) ≤ sizeLine:=by decide
theorem s1:(1:Nat) ≤ sizeLine:=by decide
theorem s2:(2:Nat) ≤ sizeLine:=by decide
theorem q11:eqD (.str "must") (.str "must") = some true:=by decide +kernel
theorem q21:eqD (.str "may") (.str "must") = some false:=by decide +kernel
theorem q22:eqD (.str "may") (.str "may") = some true:=by decide +kernel
theorem q31:eqD (.str "shut") (.str "must") = some false:=by decide +kernel
theorem q32:eqD (.str "shut") (.str "may") = some false:=by decide +kernel
theorem q33:eqD (.str "shut") (.str "shut") = some true:=by decide +kernel
theorem q41:eqD (.str "torn") (.str "must") = some false:=by decide +kernel
theorem q42:eqD (.str "torn") (.str "may") = some false:=by decide +kernel
theorem q43:eqD (.str "torn") (.str "shut") = some false:=by decide +kernel
theorem q44:eqD (.str "torn") (.str "torn") = some true:=by decide +kernel
theorem n1:inD (.str "must") (.tup [.str "must",.str "torn"]) = some true:=by decide +kernel
theorem n2:inD (.str "may") (.tup [.str "must",.str "torn"]) = some false:=by decide +kernel
theorem n3:inD (.str "shut") (.tup [.str "must",.str "torn"]) = some false:=by decide +kernel
theorem n4:inD (.str "torn") (.tup [.str "must",.str "torn"]) = some true:=by decide +kernel
theorem m1:inD (.str "must") (.tup [.str "must",.str "may"]) = some true:=by decide +kernel
theorem m2:inD (.str "may") (.tup [.str "must",.str "may"]) = some true:=by decide +kernel
theorem m3:inD (.str "shut") (.tup [.str "must",.str "may"]) = some false:=by decide +kernel
theorem m4:inD (.str "torn") (.tup [.str "must",.str "may"]) = some false:=by decide +kernel
theorem p1:inD (.str "must") (.tup [.str "must",.str "shut"]) = some true:=by decide +kernel
theorem p2:inD (.str "may") (.tup [.str "must",.str "shut"]) = some false:=by decide +kernel
theorem p3:inD (.str "shut") (.tup [.str "must",.str "shut"]) = some true:=by decide +kernel
theorem p4:inD (.str "torn") (.tup [.str "must",.str "shut"]) = some false:=by decide +kernel
theorem ok_must:PyData.strOk "must" = true:=by decide +kernel
theorem ok_may:PyData.strOk "may" = true:=by decide +kernel
theorem ok_shut:PyData.strOk "shut" = true:=by decide +kernel
theorem ok_torn:PyData.strOk "torn" = true:=by decide +kernel
theorem Qf (n many:Nat) (h:n < many):rC [.int n,.int many] = .ok (.bl true):=by
 unfold rC X8
 have h1:(n:Int) < (many:Int):=by omega
 have h0:(0:Int) ≤ (n:Int):=by omega
 walk_at "ev: Jp tK zE h0 h1"
theorem adx (x:Dr) (many:Nat) (t:Bool) (h:x.ok many t):f9 [x.d,.int many,.bl t] = .ok (.bl true):=by
 unfold f9 Bs Dr.d
 cases x with
 | must n=>simp only [cZ,jW,lZ,bF,iz,qH,dJ,lF,Lh,sIf,bR,qg,ud,wN,sExt,sClr,Yo,sPut,M7,sAsg,gv,gb,gvo,slD,o1,o2,o2b,o3,oC,oF,oM,oMk,Cw,Cy,bV,andT,orT,qu,tst,HQ,orV,notV,ifV,aA,aj,cU,cF,zB,fV,j4,Yi,kc,Le,Rv,frz,frzS,yW,ur,Dy,Dq,wC,Dp,Dg,Lp,Xm,KR,KY,KZ,RM,Yg,RN,Ky,Kw,Xn,Xo,Xp,Xq,Xr,Xu,Xv,Xw,Xx,Xy,Kc,Kd,K3,K4,Kq,GD,Kp,K8,Kr,K9,isND,uc,yp,gN,j0,bO,gT,Out.aQ,Out.Df,Out.oh,Out.gr,Out.wK,Out.pL,Lb,List.map_cons,List.map_nil,List.length_cons,List.length_nil,List.append_assoc,List.nil_append,List.cons_append,List.getElem?_cons_zero,List.getElem?_cons_succ,List.getElem?_nil,List.set_cons_zero,List.set_cons_succ,Nat.zero_add,Nat.reduceAdd,Nat.reduceSub,List.replicate_succ,List.replicate_zero,List.lookup_cons,List.lookup_nil,Option.some.injEq,Option.bind_some,Option.map_some,Nat.reduceBEq,Nat.reduceEqDiff,Int.reduceLT,Int.reduceLE,Int.reduceNeg,Int.reduceAdd,Int.reduceMul,Int.reduceSub,Nat.reduceLeDiff,reduceIte,if_t,if_f,ite_true,decide_true,decide_false,Bool.not_true,Bool.not_false,Nat.reduceEqDiff,Bool.false_eq_true,Option.isNone_none,Option.isNone_some,Ds,String.reduceBEq,String.reduceEq,beq_self_eq_true,List.contains_cons,List.contains_nil,Bool.or_false,Bool.or_true,Bool.true_or,Bool.false_or,Bool.and_true,Bool.and_false,Bool.true_and,Bool.false_and,Bool.not_eq_true,eq_self_iff_true,Int.cast_ofNat_Int,Int.reduceBEq,Int.natCast_zero,lw,nq,zE,Dr.w,Dr.to,q11,Qf n many h]
 | may n=>simp only [cZ,jW,lZ,bF,iz,qH,dJ,lF,Lh,sIf,bR,qg,ud,wN,sExt,sClr,Yo,sPut,M7,sAsg,gv,gb,gvo,slD,o1,o2,o2b,o3,oC,oF,oM,oMk,Cw,Cy,bV,andT,orT,qu,tst,HQ,orV,notV,ifV,aA,aj,cU,cF,zB,fV,j4,Yi,kc,Le,Rv,frz,frzS,yW,ur,Dy,Dq,wC,Dp,Dg,Lp,Xm,KR,KY,KZ,RM,Yg,RN,Ky,Kw,Xn,Xo,Xp,Xq,Xr,Xu,Xv,Xw,Xx,Xy,Kc,Kd,K3,K4,Kq,GD,Kp,K8,Kr,K9,isND,uc,yp,gN,j0,bO,gT,Out.aQ,Out.Df,Out.oh,Out.gr,Out.wK,Out.pL,Lb,List.map_cons,List.map_nil,List.length_cons,List.length_nil,List.append_assoc,List.nil_append,List.cons_append,List.getElem?_cons_zero,List.getElem?_cons_succ,List.getElem?_nil,List.set_cons_zero,List.set_cons_succ,Nat.zero_add,Nat.reduceAdd,Nat.reduceSub,List.replicate_succ,List.replicate_zero,List.lookup_cons,List.lookup_nil,Option.some.injEq,Option.bind_some,Option.map_some,Nat.reduceBEq,Nat.reduceEqDiff,Int.reduceLT,Int.reduceLE,Int.reduceNeg,Int.reduceAdd,Int.reduceMul,Int.reduceSub,Nat.reduceLeDiff,reduceIte,if_t,if_f,ite_true,decide_true,decide_false,Bool.not_true,Bool.not_false,Nat.reduceEqDiff,Bool.false_eq_true,Option.isNone_none,Option.isNone_some,Ds,String.reduceBEq,String.reduceEq,beq_self_eq_true,List.contains_cons,List.contains_nil,Bool.or_false,Bool.or_true,Bool.true_or,Bool.false_or,Bool.and_true,Bool.and_false,Bool.true_and,Bool.false_and,Bool.not_eq_true,eq_self_iff_true,Int.cast_ofNat_Int,Int.reduceBEq,Int.natCast_zero,lw,nq,zE,Dr.w,Dr.to,q21,q22,Qf n many h]
 | shut=>walk_at "ev: lw nq zE Dr.w Dr.to q31 q32 q33"
 | torn =>
   obtain rfl:t = true:=h
   walk_at "ev: lw nq zE Dr.w Dr.to q41 q42 q43 q44"
theorem afu (n a:Bool) (to:D):rB [.bl n,.bl a,to] = .ok (match n,a with | true,true=>.obj jY [("to",to)] | false,true=>.obj uX [("to",to)] | true,false=>.obj jQ [("to",.non)] | false,false=>.obj jP [("to",.non)]):=by
 unfold rB X6
 cases n <;> cases a <;> walk_at "ev: wV Qj zP wW" <;> rfl
theorem F_made (x:Dr):iQ [x.d] = .ok x.ob:=by
 unfold iQ MN Dr.d
 cases x <;> walk_at "ev: Dr.w Dr.to Dr.ob s2 n1 n2 n3 n4 m1 m2 m3 m4 afu"
theorem F_told' (x:Dr):iM [x.ob] = .ok x.d:=by
 unfold iM Mw
 cases x <;> walk_at "ev: Dr.d Dr.w Dr.to Dr.ob s2 jY uX jP jQ JL zL Mz Fp Rw zM MF zN MJ"
theorem ahM (x:Dr) (δ:DSt) (fo:DSt→Out D) (h:fo δ = .ok x.ob):oM "told" 1 uf fo aA δ = .ok x.d:=by
 have e:=F_told' x
 cases x <;> · unfold Dr.ob at e h; simp only [cZ,jW,lZ,bF,iz,qH,dJ,lF,Lh,sIf,bR,qg,ud,wN,sExt,sClr,Yo,sPut,M7,sAsg,gv,gb,gvo,slD,o1,o2,o2b,o3,oC,oF,oM,oMk,Cw,Cy,bV,andT,orT,qu,tst,HQ,orV,notV,ifV,aA,aj,cU,cF,zB,fV,j4,Yi,kc,Le,Rv,frz,frzS,yW,ur,Dy,Dq,wC,Dp,Dg,Lp,Xm,KR,KY,KZ,RM,Yg,RN,Ky,Kw,Xn,Xo,Xp,Xq,Xr,Xu,Xv,Xw,Xx,Xy,Kc,Kd,K3,K4,Kq,GD,Kp,K8,Kr,K9,isND,uc,yp,gN,j0,bO,gT,Out.aQ,Out.Df,Out.oh,Out.gr,Out.wK,Out.pL,Lb,List.map_cons,List.map_nil,List.length_cons,List.length_nil,List.append_assoc,List.nil_append,List.cons_append,List.getElem?_cons_zero,List.getElem?_cons_succ,List.getElem?_nil,List.set_cons_zero,List.set_cons_succ,Nat.zero_add,Nat.reduceAdd,Nat.reduceSub,List.replicate_succ,List.replicate_zero,List.lookup_cons,List.lookup_nil,Option.some.injEq,Option.bind_some,Option.map_some,Nat.reduceBEq,Nat.reduceEqDiff,Int.reduceLT,Int.reduceLE,Int.reduceNeg,Int.reduceAdd,Int.reduceMul,Int.reduceSub,Nat.reduceLeDiff,reduceIte,if_t,if_f,ite_true,decide_true,decide_false,Bool.not_true,Bool.not_false,Nat.reduceEqDiff,Bool.false_eq_true,Option.isNone_none,Option.isNone_some,Ds,String.reduceBEq,String.reduceEq,beq_self_eq_true,List.contains_cons,List.contains_nil,Bool.or_false,Bool.or_true,Bool.true_or,Bool.false_or,Bool.and_true,Bool.and_false,Bool.true_and,Bool.false_and,Bool.not_eq_true,eq_self_iff_true,Int.cast_ofNat_Int,Int.reduceBEq,Int.natCast_zero,h,uf,jY,uX,jP,jQ] at e ⊢; exact e
theorem fld_to (x:Dr) (δ:DSt) (fo:DSt→Out D) (h:fo δ = .ok x.ob):Cw "to" [jY,uX,jP,jQ] fo δ = .ok x.to:=by
 cases x <;> · unfold Dr.ob at h; walk_at "ev: h Dr.to jY uX jP jQ"
theorem YC (r:List Dr) (h:r.length ≤ 100):iR [.lst (r.map Dr.d)] = .ok (.tup (r.map Dr.ob)):=by
 unfold iR MP
 have e:=kj (cap:=[none]) (fi:=fV (gv 0)) (fe:=vW) (δ:=[some (.sh (.lst (r.map Dr.d)))]) Dr.d Dr.ob r rfl (by omega) (fun x _=>by
   unfold vW
   show (oF 1 iQ (aj (gv 0) aA) [some (.sh x.d)]) = _
   simp only [cZ,jW,lZ,bF,iz,qH,dJ,lF,Lh,sIf,bR,qg,ud,wN,sExt,sClr,Yo,sPut,M7,sAsg,gv,gb,gvo,slD,o1,o2,o2b,o3,oC,oF,oM,oMk,Cw,Cy,bV,andT,orT,qu,tst,HQ,orV,notV,ifV,aA,aj,cU,cF,zB,fV,j4,Yi,kc,Le,Rv,frz,frzS,yW,ur,Dy,Dq,wC,Dp,Dg,Lp,Xm,KR,KY,KZ,RM,Yg,RN,Ky,Kw,Xn,Xo,Xp,Xq,Xr,Xu,Xv,Xw,Xx,Xy,Kc,Kd,K3,K4,Kq,GD,Kp,K8,Kr,K9,isND,uc,yp,gN,j0,bO,gT,Out.aQ,Out.Df,Out.oh,Out.gr,Out.wK,Out.pL,Lb,List.map_cons,List.map_nil,List.length_cons,List.length_nil,List.append_assoc,List.nil_append,List.cons_append,List.getElem?_cons_zero,List.getElem?_cons_succ,List.getElem?_nil,List.set_cons_zero,List.set_cons_succ,Nat.zero_add,Nat.reduceAdd,Nat.reduceSub,List.replicate_succ,List.replicate_zero,List.lookup_cons,List.lookup_nil,Option.some.injEq,Option.bind_some,Option.map_some,Nat.reduceBEq,Nat.reduceEqDiff,Int.reduceLT,Int.reduceLE,Int.reduceNeg,Int.reduceAdd,Int.reduceMul,Int.reduceSub,Nat.reduceLeDiff,reduceIte,if_t,if_f,ite_true,decide_true,decide_false,Bool.not_true,Bool.not_false,Nat.reduceEqDiff,Bool.false_eq_true,Option.isNone_none,Option.isNone_some,Ds,String.reduceBEq,String.reduceEq,beq_self_eq_true,List.contains_cons,List.contains_nil,Bool.or_false,Bool.or_true,Bool.true_or,Bool.false_or,Bool.and_true,Bool.and_false,Bool.true_and,Bool.false_and,Bool.not_eq_true,eq_self_iff_true,Int.cast_ofNat_Int,Int.reduceBEq,Int.natCast_zero,F_made x])
 walk_at "ev: e CZ"
theorem YG (r:List Dr) (h:r.length ≤ 100):iT [.tup (r.map Dr.ob)] = .ok (r.map Dr.d):=by
 unfold iT MT runL afb
 have e:=kj (cap:=[none]) (fi:=fV (gv 0)) (fe:=vX) (δ:=[some (.sh (.tup (r.map Dr.ob)))]) Dr.ob Dr.d r rfl (by omega) (fun x _=>by
   unfold vX
   exact ahM x _ _ rfl)
 walk_at "ev: e endF"
def cz (rows:List (List Dr)):D:=.lst (rows.map fun r=>.lst (r.map Dr.d))
def M6 (rows:List (List Dr)):D:=.tup (rows.map fun r=>.tup (r.map Dr.ob))
structure Rows (many acts:Nat) (t:Bool) (rows:List (List Dr)):Prop where
 n:rows.length = many
 row:∀ r ∈ rows,r.length = acts∧∀ x ∈ r,x.ok many t
theorem Jh {α:Type} (g:α→D):∀ (xs:List α) (k:Nat),Bg k (xs.map g) = (List.zipIdx xs k).map fun p=>D.tup [.int p.2,g p.1]
 | [],_=>rfl
 | x :: xs,k=>by rw [List.map_cons,List.zipIdx_cons,List.map_cons,← Jh g xs (k + 1)]; rfl
theorem F_rows (many acts:Nat) (t:Bool) (rows:List (List Dr)) (R:Rows many acts t rows) (h1:1 ≤ many) (h2:many ≤ 2000) (h3:acts ≤ 8):fC [cz rows,.int acts,.bl t] = .ok .non:=by
 unfold fC Jm cz
 have hn:=R.n
 have a1:(1:Int) ≤ (rows.length:Int):=by omega
 have a2:(rows.length:Int) ≤ 2000:=by omega
 walk_at "ev: fJ zE List.length_map a1 a2 enum qX Jh"
 have step:∀ (p:List Dr × Nat) (done:List (List Dr × Nat)) (δ:DSt),(∃ a b c d:Option Sl,δ = [some (.sh (cz rows)),some (.sh (.int acts)),some (.sh (.bl t)),a,b,c,d])→p ∈ rows.zipIdx →
     ∃ δ1,gT 2 (bO (gN 3) (bO (gN 4) j0)) (D.tup [.int p.2,.lst (p.1.map Dr.d)]) δ = some δ1∧nxP (tW δ1) fun δ=>∃ a b c d:Option Sl,δ = [some (.sh (cz rows)),some (.sh (.int acts)),some (.sh (.bl t)),a,b,c,d]:=by
   rintro ⟨r,i⟩ done δ ⟨a,b,c,d,rfl⟩ hp
   refine ⟨_,rfl,?_⟩
   have hr:=R.row r (List.fst_mem_of_mem_zipIdx hp)
   have hl:(r.length:Int) = (acts:Int):=by rw [hr.1]
   have step2:∀ (p:Dr × Nat) (done:List (Dr × Nat)) (δ:DSt),(∃ a b:Option Sl,δ = [some (.sh (cz rows)),some (.sh (.int acts)),some (.sh (.bl t)),some (.sh (.int i)),some (.sh (.lst (r.map Dr.d))),a,b])→p ∈ r.zipIdx →
       ∃ δ1,gT 2 (bO (gN 5) (bO (gN 6) j0)) (D.tup [.int p.2,p.1.d]) δ = some δ1∧nxP (tX δ1) fun δ=>∃ a b:Option Sl,δ = [some (.sh (cz rows)),some (.sh (.int acts)),some (.sh (.bl t)),some (.sh (.int i)),some (.sh (.lst (r.map Dr.d))),a,b]:=by
     rintro ⟨x,j⟩ done δ ⟨a,b,rfl⟩ hq
     refine ⟨_,rfl,?_⟩
     have e:=adx x many t (hr.2 x (List.fst_mem_of_mem_zipIdx hq))
     unfold tX
     unfold cz
     walk_at "ev: List.length_map hn e"
     exact ⟨_,_,rfl⟩
   obtain ⟨δ',e1,i1⟩:=PL (fun p:Dr × Nat=>D.tup [.int p.2,p.1.d]) (fun _ δ=>∃ a b:Option Sl,δ = [some (.sh (cz rows)),some (.sh (.int acts)),some (.sh (.bl t)),some (.sh (.int i)),some (.sh (.lst (r.map Dr.d))),a,b]) r.zipIdx [] [some (.sh (cz rows)),some (.sh (.int acts)),some (.sh (.bl t)),some (.sh (.int i)),some (.sh (.lst (r.map Dr.d))),c,d] step2 ⟨_,_,rfl⟩
   unfold tW
   walk_at "ev: fJ zE List.length_map hl enum qX Jh e1"
   obtain ⟨a,b,rfl⟩:=i1
   exact ⟨_,_,_,_,rfl⟩
 obtain ⟨δ',e1,i1⟩:=PL (fun p:List Dr × Nat=>D.tup [.int p.2,.lst (p.1.map Dr.d)]) (fun _ δ=>∃ a b c d:Option Sl,δ = [some (.sh (cz rows)),some (.sh (.int acts)),some (.sh (.bl t)),a,b,c,d]) rows.zipIdx [] [some (.sh (cz rows)),some (.sh (.int acts)),some (.sh (.bl t)),none,none,none,none] step ⟨_,_,_,_,rfl⟩
 unfold cz at e1
 walk_at "ev: e1"
def NameL (l:List Nat):Prop:=1 ≤ l.length∧l.length ≤ 8∧∀ c ∈ l,97 ≤ c∧c < 123
theorem F_name (l:List Nat) (h:NameL l):jo [.str (ofL l)] = .ok (.bl true):=by
 unfold jo X7
 have a1:(1:Int) ≤ (l.length:Int):=by have:=h.1; omega
 have a2:(l.length:Int) ≤ 8:=by have:=h.2.1; omega
 have a3:l.length ≤ sizeLine:=Nat.le_trans h.2.1 (by decide)
 have e:=kj (cap:=[none]) (fi:=strO (gv 0)) (fe:=Cp) (δ:=[some (.sh (.str (ofL l)))]) (fun c=>D.str (ofL [c])) (fun _=>D.bl true) l rfl (by have:=h.2.1; omega) (fun c hc=>by
   unfold Cp
   have e:=abc_in (h.2.2 c hc).1 (h.2.2 c hc).2
   show bV (o2b inD (gb 0) (kc (.str "abcdefghijklmnopqrstuvwxyz"))) [some (.sh (.str (ofL [c])))] = _
   walk_at "ev: e")
 have e2:=adO (fun _:Nat=>true) l
 walk_at "ev: nq zE ji qZ a1 a2 a3 e e2"
 simp
def aC (ns:List (List Nat)):List D:=ns.map fun l=>.str (ofL l)
structure Names (ns:List (List Nat)):Prop where
 ok:∀ l ∈ ns,NameL l
 lo:1 ≤ ns.length
 hi:ns.length ≤ 8
 nd:ns.Nodup
theorem F_acts (ns:List (List Nat)) (N:Names ns):bI [.lst (aC ns)] = .ok .non:=by
 unfold bI tH bx jw
 have h1:=N.lo
 have h2:=N.hi
 have a1:(1:Int) ≤ (ns.length:Int):=by omega
 have a2:(ns.length:Int) ≤ 8:=by omega
 have e:=kj (cap:=[none]) (fi:=fV (gv 0)) (fe:=kO) (δ:=[some (.sh (.lst (aC ns)))]) (fun l=>D.str (ofL l)) (fun _=>D.bl true) ns rfl (by omega) (fun l hl=>by
   unfold kO
   have e:=F_name l (N.ok l hl)
   show oF 1 jo (aj (gv 0) aA) [some (.sh (.str (ofL l)))] = _
   walk_at "ev: e")
 have e2:=adO (fun _:List Nat=>true) ns
 have e3:ns.all (fun _=>true) = true:=by simp
 have e4:R4 (.lst (aC ns)) = some (.int ns.length):=by
   unfold R4
   have q:aC ns = (ns.map ofL).map D.str:=by unfold aC; simp
   simp only [qX,Option.bind_some,q,Ys]
   rw [if_pos (by rw [List.length_map]; omega),Sd _ _ (by
     simp only [List.nil_append]
     exact List.pairwise_map.mpr (N.nd.imp fun h q=>h (abz q)))]
   simp
 have e5:(aC ns).length = ns.length:=by simp [aC]
 walk_at "ev: fJ zE e5 a1 a2 e e2 e3 e4"
def plan (c:Nat) (ns:List (List Nat)) (rows:List (List Dr)):D:=.obj c [("actions",.tup (aC ns)),("rooms",M6 rows)]
theorem afw (t:Bool) (many:Nat) (ns:List (List Nat)) (rows:List (List Dr)) (N:Names ns) (R:Rows many ns.length t rows) (h1:1 ≤ many) (h2:many ≤ 60):Yc t [.lst (aC ns),cz rows] = .ok [("actions",.tup (aC ns)),("rooms",M6 rows)]:=by
 have e5:(aC ns).length = ns.length:=by simp [aC]
 have e1:=F_acts ns N
 have e2:=F_rows many ns.length t rows R h1 (by omega) N.hi
 have hn:=R.n
 have e3:=kj (cap:=[none]) (fi:=fV (gv 2)) (fe:=tY) (δ:=[none,some (.sh (.lst (aC ns))),some (.sh (cz rows))]) (fun r:List Dr=>D.lst (r.map Dr.d)) (fun r=>D.tup (r.map Dr.ob)) rows rfl (by omega) (fun r hr=>by
   unfold tY
   have h8:=N.hi
   have e:=YC r (by rw [(R.row r hr).1]; omega)
   show oF 1 iR (aj (gv 0) aA) [some (.sh (.lst (r.map Dr.d)))] = _
   walk_at "ev: e")
 unfold Yc Py Pz PB PJ
 walk_at "ev: e1 e2 e5 e3 CZ M6"
end K6
namespace K6
open PySem L2 MX DL
structure Pl (c many:Nat) (t:Bool) (ns:List (List Nat)) (rows:List (List Dr)):Prop where
 c:c = eV ∨ c = aV
 N:Names ns
 R:Rows many ns.length t rows
 lo:1 ≤ many
 hi:many ≤ 60
section
variable {c many:Nat} {t:Bool} {ns:List (List Nat)} {rows:List (List Dr)} {δ:DSt} {fo:DSt→Out D}
theorem F_told_p (P:Pl c many t ns rows):mD [plan c ns rows] = .ok (rows.map fun r=>r.map Dr.d):=by
 have hn:=P.R.n
 have h8:=P.N.hi
 have h60:=P.hi
 have f:(Cw "rooms" [eV,aV] (gv 0)) [some (.sh (plan c ns rows))] = .ok (M6 rows):=by
   unfold plan
   rcases P.c with rfl | rfl <;> walk_at "ev: eV aV"
 have e:=kj (cap:=[none]) (fi:=fV (Cw "rooms" [eV,aV] (gv 0))) (fe:=tZ) (δ:=[some (.sh (plan c ns rows))]) (fun r:List Dr=>D.tup (r.map Dr.ob)) (fun r=>r.map Dr.d) rows (by
     unfold fV; rw [f]; rfl) (by omega) (fun r hr=>by
   unfold tZ
   have e:=YG r (by rw [(P.R.row r hr).1]; omega)
   show oFl 1 iT (aj (gv 0) aA) [some (.sh (.tup (r.map Dr.ob)))] = _
   walk_at "ev: e oFl")
 unfold mD Jk runLL ahm
 walk_at "ev: e endFF"
theorem rW (P:Pl c many t ns rows) (h:fo δ = .ok (plan c ns rows)):oM "told" 1 (CV du) fo aA δ = .ok (cz rows):=by
 have e:=F_told_p P
 unfold plan at h e
 have m:∀ l:List (List Dr),List.map D.lst (l.map fun r=>r.map Dr.d) = l.map fun r=>D.lst (r.map Dr.d):=fun l=>by simp
 rcases P.c with rfl | rfl <;> · simp only [eV,aV] at h e; walk_at "ev: h CV dOff du eV aV e cz m"
end
theorem Dn {α:Type} (n:Nat) (f:α→D):∀ xs:List α,(∀ x ∈ xs,fU n (f x) = true)→tV n (xs.map f) = true
 | [],_=>by simp [tV]
 | x :: xs,h=>by
   rw [List.map_cons]
   simp only [tV,Bool.and_eq_true]
   exact ⟨h x List.mem_cons_self,Dn n f xs fun y hy=>h y (List.mem_cons_of_mem _ hy)⟩
theorem lay_d (x:Dr) (n:Nat):fU (n + 1) x.d = true:=by
 cases x <;> simp [Dr.d,Dr.w,Dr.to,fU,tV,ok_must,ok_may,ok_shut,ok_torn]
theorem R1 (rows:List (List Dr)):fU 50 (cz rows) = true:=by
 show tV 49 _ = true
 exact Dn 49 _ _ fun r _=>by
   show tV 48 _ = true
   exact Dn 48 _ _ fun x _=>lay_d x 47
theorem KN (ns:List (List Nat)) (N:Names ns):fU 50 (.lst (aC ns)) = true:=by
 show tV 49 _ = true
 refine Dn 49 _ _ fun l hl=>?_
 show PyData.strOk (ofL l) = true
 unfold PyData.strOk ofL
 simp only [List.all_toArray,List.all_eq_true,decide_eq_true_eq]
 intro c hc
 have:=((N.ok l hl).2.2 c hc).2
 omega
section
variable {c many:Nat} {t:Bool} {ns:List (List Nat)} {rows:List (List Dr)} {δ:DSt} {fo:DSt→Out D}
end
def dq (c k:Int):Int :=
 let n:=(c % 2147483647 * 48271 + k * 7919 + 104729) % 2147483647
 let n:=(n * n % 2147483629 * 16807 + k * 104729 + 11) % 2147483587
 n * n % 2147483549
theorem iB (c k:Int) (h0:0 ≤ k) (h1:k ≤ 1000000):aD [.int c,.int k] = .ok (.int (dq c k)):=by
 unfold aD Jl
 have m1:∀ a b:Int,Dz (a % 2147483647) b:=fun a b=>modb a b (by decide) (by decide)
 have m2:∀ a b:Int,Dz (a % 2147483629) b:=fun a b=>modb a b (by decide) (by decide)
 have m3:∀ a b:Int,Dz (a % 2147483587) b:=fun a b=>modb a b (by decide) (by decide)
 have mk:∀ b:Int,Dz k b:=fun b=>ahR (by omega) (by omega)
 walk_at "ev: m1 m2 m3 mk"
 rfl
theorem F_cell (ns:List Int) (k:Nat):d8 [.rol (ns.map .int),.int k] = .ok (.int (ns.getD k 0)):=by
 unfold d8 Br
 walk_at "ev: List.length_map"
 by_cases h:k < ns.length
 · have h':(k:Int) < (ns.length:Int):=by omega
   have e:atI (ns.map D.int) (k:Int) = some (.int ns[k]):=fG (by simp [h])
   walk_at "ev: h' e"
   simp [h]
 · have h':¬ (k:Int) < (ns.length:Int):=by omega
   walk_at "ev: h'"
   simp [h]
theorem qY (x:Int) {m:Nat} (h:1 ≤ m):∃ n:Nat,x % (m:Int) = (n:Int)∧n < m:=by
 have h1:=Int.emod_nonneg x (show (m:Int) ≠ 0 by omega)
 have h2:=Int.emod_lt_of_pos x (show (0:Int) < m by omega)
 exact ⟨(x % (m:Int)).toNat,by omega,by omega⟩
def dr (x:Int) (many:Nat):Dr:=if x % 5 = 4 then .shut else if x % 2 = 0 then .must (x / 5 % (many:Int)).toNat else .may (x / 5 % (many:Int)).toNat
theorem dr_ok (x:Int) {many:Nat} (h:1 ≤ many):(dr x many).ok many false:=by
 have h1:=Int.emod_nonneg (x / 5) (show (many:Int) ≠ 0 by omega)
 have h2:=Int.emod_lt_of_pos (x / 5) (show (0:Int) < many by omega)
 unfold dr
 split
 · trivial
 · split
   · show _ < many; omega
   · show _ < many; omega
theorem F_door (x:Int) (many:Nat) (h:1 ≤ many):gH [.int x,.int many] = .ok (dr x many).d:=by
 unfold gH MK
 have m0:(0:Int) < (many:Int):=by omega
 have c5:CDiv x 5:=ahP (by decide) (by decide)
 have h1:=Int.emod_nonneg (x / 5) (show (many:Int) ≠ 0 by omega)
 by_cases q:x % 5 = 4
 · have q':(x % 5 == 4) = true:=by simp [q]
   walk_at "ev: q' s2 dr q Dr.d Dr.w Dr.to"
 · have q':(x % 5 == 4) = false:=by simp [q]
   have z:x % 2 = 0 ∨ x % 2 = 1:=by omega
   have t0:(((x / 5 % (many:Int)).toNat:Nat):Int) = x / 5 % (many:Int):=by omega
   rcases z with z | z
   · walk_at "ev: q' s2 dr q z Dr.d Dr.w Dr.to c5 m0 t0"
   · have z':¬ ((1:Int) = 0):=by decide
     walk_at "ev: q' s2 dr q z z' Dr.d Dr.w Dr.to c5 m0 t0"
theorem aa0 {n j:Nat} (h:j < n):ixN n (j:Int) = some j:=by
 unfold ixN
 rw [if_pos (by omega),if_pos (by omega)]
 simp
def stM (cell:Int) (many acts:Nat) (cs:List Int) (s:Sl) (x y:Option Sl):DSt:=[some (.sh (.int cell)),some (.sh (.int many)),some (.sh (.int acts)),some (.sh (.lst (cs.map .int))),some s,x,y]
def rowOf (cell:Int) (many acts i:Nat):List Dr:=(List.range acts).map fun k:Nat=>dr (dq cell (40 + 8 * (i:Int) + (k:Int))) many
theorem ai3 {cell:Int} {many acts i:Nat} {cs:List Int} (h1:1 ≤ many) (h2:acts ≤ 8) (hi:i < 60) (s:Sl) (y:Option Sl):cW [none,some 1,some 0,some 5] (zF (gv 2)) (gN 0) (fun _=>.ok true) nO (stM cell many acts cs s (some (.sh (.int i))) y) = .ok ((rowOf cell many acts i).map Dr.d):=by
 have er:=wM (f:=gv 2) (δ:=stM cell many acts cs s (some (.sh (.int i))) y) (n:=acts) rfl (by omega)
 have e:=kj (cap:=[none,some 1,some 0,some 5]) (fe:=nO) (fun k:Nat=>D.int k) (fun k:Nat=>(dr (dq cell (40 + 8 * (i:Int) + (k:Int))) many).d) (List.range acts) er (by simp; omega) (fun k hk=>by
   have hk:k < acts:=List.mem_range.mp hk
   have e1:=iB cell (40 + 8 * (i:Int) + (k:Int)) (by omega) (by omega)
   have e2:=F_door (dq cell (40 + 8 * (i:Int) + (k:Int))) many h1
   have c8:∀ b:Int,Dz 8 b:=fun b=>ahR (by decide) (by decide)
   unfold nO
   show oF 2 gH (aj (oF 2 aD (aj (gv 2) (aj (o2 bZ (o2 bZ (kc (.int 40)) (o2 K5 (kc (.int 8)) (gv 3))) (gv 0)) aA))) (aj (gv 1) aA)) [some (.sh (.int k)),some (.sh (.int many)),some (.sh (.int cell)),some (.sh (.int i))] = _
   walk_at "ev: c8 e1 e2")
 rw [e]
 unfold rowOf
 simp only [List.map_map]
 rfl
theorem aiy {f:DSt→Out (List D)} {cell:Int} {many acts:Nat} {cs:List Int} {dss:List (List D)} {x y:Option Sl} {d:List D} (hl:dss.length ≤ 100) (h:f (stM cell many acts cs (.oll dss) x y) = .ok d):wN 4 f (stM cell many acts cs (.oll dss) x y) = .ok (.nx (stM cell many acts cs (.oll (dss ++ [d])) x y)):=by
 have s:dss.length < sizeLine:=Nat.lt_of_le_of_lt hl (by decide)
 unfold wN
 show (f (stM cell many acts cs (.oll dss) x y)).bind _ = _
 rw [h]
 simp only [Out.aQ]
 rw [if_pos s]
 rfl
theorem afV {f:DSt→Out (List D)} {cell:Int} {many acts:Nat} {cs:List Int} {x y:Option Sl} {d:List D} (h:f (stM cell many acts cs (.ol []) x y) = .ok d):wN 4 f (stM cell many acts cs (.ol []) x y) = .ok (.nx (stM cell many acts cs (.oll [d]) x y)):=by
 unfold wN
 show (f (stM cell many acts cs (.ol []) x y)).bind _ = _
 rw [h]
 rfl
def Lj (rows:List (List Dr)):Sl:=.oll (rows.map fun r=>r.map Dr.d)
theorem rooms1 {cell:Int} {many acts:Nat} {cs:List Int} (h1:1 ≤ many) (h60:many ≤ 60) (h2:acts ≤ 8):∃ x,qg (zF (gv 1)) (gN 5) nG (stM cell many acts cs (.ol []) none none) = .ok (.nx (stM cell many acts cs (Lj ((List.range many).map (rowOf cell many acts))) x none)):=by
 have hh:=Bq (body:=nG) (tg:=gN 5) (fun k:Nat=>D.int k) (fun done δ=>∃ x:Option Sl,δ = stM cell many acts cs (if done = [] then .ol [] else Lj (done.map (rowOf cell many acts))) x none) (List.range many) (stM cell many acts cs (.ol []) none none) (by
   rintro i done rest δ ek ⟨x,rfl⟩
   have hi:i < many:=List.mem_range.mp (by rw [ek]; simp)
   have hd:done.length < many:=by
     have:=congrArg List.length ek
     simp at this
     omega
   have e:=ai3 (cell:=cell) (many:=many) (acts:=acts) (i:=i) (cs:=cs) h1 h2 (by omega) (if done = [] then .ol [] else Lj (done.map (rowOf cell many acts))) none
   refine ⟨stM cell many acts cs (if done = [] then .ol [] else Lj (done.map (rowOf cell many acts))) (some (.sh (.int i))) none,rfl,?_⟩
   unfold nG
   by_cases q:done = []
   · subst q
     simp only [if_true] at e ⊢
     rw [afV e]
     exact ⟨_,rfl⟩
   · rw [if_neg q] at e ⊢
     unfold Lj at e ⊢
     rw [aiy (by simp; omega) e]
     refine ⟨some (.sh (.int i)),?_⟩
     rw [if_neg (by simp),List.map_append,List.map_append]
     rfl) ⟨none,rfl⟩
 obtain ⟨δ',e,x,rfl⟩:=hh
 have er:=wM (f:=gv 1) (δ:=stM cell many acts cs (.ol []) none none) (n:=many) rfl (by omega)
 refine ⟨x,?_⟩
 unfold qg
 rw [er]
 rw [if_neg (by intro z; have:=congrArg List.length z; simp at this; omega)] at e
 exact e
theorem Rows.set {many acts:Nat} {t:Bool} {rows:List (List Dr)} (R:Rows many acts t rows) {j k:Nat} (hj:j < many) {x:Dr} (hx:x.ok many t):Rows many acts t (rows.set j ((rows.getD j []).set k x)):=by
 have hj':j < rows.length:=by rw [R.n]; exact hj
 have hg:rows.getD j [] = rows[j]:=by simp [hj']
 rw [hg]
 refine ⟨by simp [R.n],fun r hr=>?_⟩
 rcases List.mem_or_eq_of_mem_set hr with h | h
 · exact R.row r h
 · subst h
   have h0:=R.row rows[j] (List.getElem_mem hj')
   refine ⟨by simp [h0.1],fun y hy=>?_⟩
   rcases List.mem_or_eq_of_mem_set hy with h | h
   · exact h0.2 y h
   · subst h; exact hx
theorem rooms2 {cell:Int} {many acts:Nat} {cs:List Int} (h1:1 ≤ many) (h60:many ≤ 60) (h2:acts ≤ 8) (h3:1 ≤ acts) {rows:List (List Dr)} (R:Rows many acts false rows) (x:Option Sl):∃ lE y,qg (fV (gv 3)) (gN 6) jh (stM cell many acts cs (Lj rows) x none) = .ok (.nx (stM cell many acts cs (Lj lE) x y))∧Rows many acts false lE:=by
 have hh:=Bq (body:=jh) (tg:=gN 6) (fun k:Int=>D.int k) (fun _ δ=>∃ lE y,δ = stM cell many acts cs (Lj lE) x y∧Rows many acts false lE) cs (stM cell many acts cs (Lj rows) x none) (by
   rintro z done rest δ ek ⟨lE,y,rfl,R'⟩
   obtain ⟨j,ej,hj⟩:=qY z h1
   obtain ⟨k,ek,hk⟩:=qY (z / (many:Int)) h3
   have m0:(0:Int) < (many:Int):=by omega
   have a0:(0:Int) < (acts:Int):=by omega
   have c5:CDiv z (many:Int):=ahP (by omega) (by omega)
   have e1:=iB z 7 (by decide) (by decide)
   have e2:=F_door (dq z 7) many h1
   have hl:(lE.map fun r=>r.map Dr.d).length = many:=by simp [R'.n]
   have hj':j < lE.length:=by rw [R'.n]; exact hj
   have hrow:=R'.row lE[j] (List.getElem_mem hj')
   have hg:(lE.map fun r=>r.map Dr.d).getD j [] = (lE[j]).map Dr.d:=by simp [hj']
   have hg':lE.getD j [] = lE[j]:=by simp [hj']
   have i1:ixN many (j:Int) = some j:=aa0 hj
   have i2:ixN acts (k:Int) = some k:=aa0 hk
   refine ⟨stM cell many acts cs (Lj lE) x (some (.sh (.int z))),rfl,?_⟩
   have e:jh (stM cell many acts cs (Lj lE) x (some (.sh (.int z)))) = .ok (.nx (stM cell many acts cs (Lj (lE.set j ((lE.getD j []).set k (dr (dq z 7) many)))) x (some (.sh (.int z))))):=by
     unfold jh stM Lj
     simp only [cZ,jW,lZ,bF,iz,qH,dJ,lF,Lh,sIf,bR,qg,ud,wN,sExt,sClr,Yo,sPut,M7,sAsg,gv,gb,gvo,slD,o1,o2,o2b,o3,oC,oF,oM,oMk,Cw,Cy,bV,andT,orT,qu,tst,HQ,orV,notV,ifV,aA,aj,cU,cF,zB,fV,j4,Yi,kc,Le,Rv,frz,frzS,yW,ur,Dy,Dq,wC,Dp,Dg,Lp,Xm,KR,KY,KZ,RM,Yg,RN,Ky,Kw,Xn,Xo,Xp,Xq,Xr,Xu,Xv,Xw,Xx,Xy,Kc,Kd,K3,K4,Kq,GD,Kp,K8,Kr,K9,isND,uc,yp,gN,j0,bO,gT,Out.aQ,Out.Df,Out.oh,Out.gr,Out.wK,Out.pL,Lb,List.map_cons,List.map_nil,List.length_cons,List.length_nil,List.append_assoc,List.nil_append,List.cons_append,List.getElem?_cons_zero,List.getElem?_cons_succ,List.getElem?_nil,List.set_cons_zero,List.set_cons_succ,Nat.zero_add,Nat.reduceAdd,Nat.reduceSub,List.replicate_succ,List.replicate_zero,List.lookup_cons,List.lookup_nil,Option.some.injEq,Option.bind_some,Option.map_some,Nat.reduceBEq,Nat.reduceEqDiff,Int.reduceLT,Int.reduceLE,Int.reduceNeg,Int.reduceAdd,Int.reduceMul,Int.reduceSub,Nat.reduceLeDiff,reduceIte,if_t,if_f,ite_true,decide_true,decide_false,Bool.not_true,Bool.not_false,Nat.reduceEqDiff,Bool.false_eq_true,Option.isNone_none,Option.isNone_some,Ds,String.reduceBEq,String.reduceEq,beq_self_eq_true,List.contains_cons,List.contains_nil,Bool.or_false,Bool.or_true,Bool.true_or,Bool.false_or,Bool.and_true,Bool.and_false,Bool.true_and,Bool.false_and,Bool.not_eq_true,eq_self_iff_true,Int.cast_ofNat_Int,Int.reduceBEq,Int.natCast_zero,e1,e2,m0,a0,c5,ej,ek,hl,i1,hg,List.length_map,hrow.1,i2]
     rw [hg',List.map_set,List.map_set]
   rw [e]
   exact ⟨_,_,rfl,R'.set hj (dr_ok _ h1)⟩) ⟨rows,none,rfl,R⟩
 obtain ⟨δ',e,lE,y,rfl,R'⟩:=hh
 exact ⟨lE,y,e,R'⟩
theorem F_rooms (cell:Int) (many acts:Nat) (cs:List Int) (h1:1 ≤ many) (h60:many ≤ 60) (h2:acts ≤ 8) (h3:1 ≤ acts):∃ rows,jn [.int cell,.int many,.int acts,.lst (cs.map .int)] = .ok (cz rows)∧Rows many acts false rows:=by
 have R0:Rows many acts false ((List.range many).map (rowOf cell many acts)):=by
   refine ⟨by simp,fun r hr=>?_⟩
   obtain ⟨i,_,rfl⟩:=List.mem_map.mp hr
   refine ⟨by simp [rowOf],fun x hx=>?_⟩
   obtain ⟨k,_,rfl⟩:=List.mem_map.mp hx
   exact dr_ok _ h1
 obtain ⟨x,e1⟩:=rooms1 (cell:=cell) (many:=many) (acts:=acts) (cs:=cs) h1 h60 h2
 obtain ⟨rows,y,e2,R⟩:=rooms2 (cell:=cell) (cs:=cs) h1 h60 h2 h3 R0 x
 refine ⟨rows,?_,R⟩
 show ((yo [some (.sh (.int cell)),some (.sh (.int many)),some (.sh (.int acts)),some (.sh (.lst (cs.map .int))),none,none,none]).bind lZ).bD = _
 unfold yo
 refine cI (δ':=stM cell many acts cs (.ol []) none none) rfl ?_
 refine cI e1 ?_
 refine cI e2 ?_
 show Out.ok (D.lst ((rows.map fun r=>r.map Dr.d).map D.lst)) = _
 unfold cz
 simp
theorem fW {A B:DSt→Out Fl} {δ δ':DSt} (h:A δ = .ok (.nx δ')):bF A B δ = B δ':=by
 unfold bF
 rw [h]
 rfl
theorem Zi {f:DSt→Out D} {i:Nat} {δ δ':DSt} {ds:List D} {d:D} (h1:δ[i]? = some (some (.ol ds))) (h2:f δ = .ok d) (h3:ds.length < sizeLine) (h4:δ.set i (some (.ol (ds ++ [d]))) = δ'):ud i f δ = .ok (.nx δ'):=by
 unfold ud
 rw [h1]
 simp only [h2,Out.aQ]
 rw [if_pos h3,h4]
theorem Dr.weak {many:Nat} {x:Dr} (h:x.ok many false):x.ok many true:=by
 cases x with
 | must n=>exact h
 | may n=>exact h
 | shut=>trivial
 | torn=>rfl
theorem run_rt {A B:DSt→Out Fl} {δ:DSt} {d:D} (h:A δ = .ok (.rt d)):((bF A B δ).bind lZ).bD = .ok d:=by
 unfold bF
 rw [h]
 rfl
theorem Yp {t:DSt→Out Bool} {A B:DSt→Out Fl} {δ:DSt} (h:t δ = .ok true):sIf t A B δ = A δ:=by
 unfold sIf
 rw [h]
 rfl
theorem aig {f:DSt→Out D} {δ:DSt} {d:D} (h:f δ = .ok d):bR f δ = .ok (.rt d):=by
 unfold bR
 rw [h]
 rfl
theorem yS {f:DSt→Out (List D)} {δ:DSt} {l:List D} (h:f δ = .ok l):j4 f δ = .ok (.lst l):=by
 unfold j4
 rw [h]
 rfl
def dz (cell:Int):List Nat:=(List.range 8).map fun j:Nat=>97 + (dq cell (902 + (j:Int)) % 26).toNat
theorem ww (cell:Int):(dz cell).length = 8:=by simp [dz]
theorem QK (cell:Int):∀ c ∈ dz cell,97 ≤ c∧c < 123:=by
 intro c hc
 obtain ⟨j,_,rfl⟩:=List.mem_map.mp hc
 have h1:=Int.emod_nonneg (dq cell (902 + (j:Int))) (show (26:Int) ≠ 0 by decide)
 have h2:=Int.emod_lt_of_pos (dq cell (902 + (j:Int))) (show (0:Int) < 26 by decide)
 omega
def stN (cell:Int) (many:Nat) (x2 x3 x4 x5 x6 x7 x8:Option Sl):DSt:=[some (.sh (.int cell)),some (.sh (.int many)),x2,x3,x4,x5,x6,x7,x8]
abbrev LET:Option Sl:=some (.sh (.str "abcdefghijklmnopqrstuvwxyz"))
theorem ones_sum (l:List Nat):((l.map fun c=>ofL [c]).map (·.length)).sum = l.length:=by
 induction l with
 | nil=>rfl
 | cons c l ih=>simp only [List.map_cons,List.sum_cons,ih,qZ,List.length_cons,List.length_nil]; omega
theorem base_eq (cell:Int) (many:Nat):oJoin (kc (.str "")) (j4 (cW [none,some 2,some 0] (zF (kc (.int 8))) (gN 0) (fun _=>.ok true) nM)) (stN cell many LET none none none none none none) = .ok (.str (ofL (dz cell))):=by
 have er:=wM (f:=kc (.int 8)) (δ:=stN cell many LET none none none none none none) (n:=8) rfl (by decide)
 have e:=kj (cap:=[none,some 2,some 0]) (fe:=nM) (fun k:Nat=>D.int k) (fun j:Nat=>D.str (ofL [97 + (dq cell (902 + (j:Int)) % 26).toNat])) (List.range 8) er (by simp) (fun k hk=>by
   have hk:k < 8:=List.mem_range.mp hk
   have e1:=iB cell (902 + (k:Int)) (by omega) (by omega)
   have h1:=Int.emod_nonneg (dq cell (902 + (k:Int))) (show (26:Int) ≠ 0 by decide)
   have h2:=Int.emod_lt_of_pos (dq cell (902 + (k:Int))) (show (0:Int) < 26 by decide)
   have e2:=abc_at h1 h2
   unfold nM
   show o2 ixD (gvo 1) (o2 fX (oF 2 aD (aj (gv 2) (aj (o2 bZ (kc (.int 902)) (gv 0)) aA))) (kc (.int 26))) [some (.sh (.int k)),LET,some (.sh (.int cell))] = _
   walk_at "ev: e1 e2")
 have e2:(List.range 8).map (fun j:Nat=>D.str (ofL [97 + (dq cell (902 + (j:Int)) % 26).toNat])) = ((dz cell).map fun c=>ofL [c]).map D.str:=by
   unfold dz
   simp only [List.map_map]
   rfl
 rw [e2] at e
 unfold oJoin j4
 rw [e]
 simp only [kc,Out.aQ,joinD,qX,Option.bind_some,Ys]
 have z0:(Str.ofString "").length = 0:=by decide +kernel
 rw [if_pos (by rw [ones_sum,ww,z0,Nat.mul_zero]; decide),join_ones]
 rfl
theorem cut_to {l:List Nat} {j:Nat} (hl:l.length ≤ 100) (h:j ≤ l.length):cutD (.str (ofL l)) none (some (j:Int)) = some (.str (ofL (l.take j))):=by
 show (if (ofL l).length ≤ sizeLine then _ else _) = _
 rw [if_pos (by rw [qZ]; exact Nat.le_trans hl (by decide)),slice_ns l j h]
theorem cut_ft {l:List Nat} {i j:Nat} (hl:l.length ≤ 100) (h1:i ≤ j) (h:j ≤ l.length):cutD (.str (ofL l)) (some (i:Int)) (some (j:Int)) = some (.str (ofL ((l.drop i).take (j - i)))):=by
 show (if (ofL l).length ≤ sizeLine then _ else _) = _
 rw [if_pos (by rw [qZ]; exact Nat.le_trans hl (by decide)),slice_ss l i j h1 h]
theorem add_str {a b:List Nat} (h:a.length + b.length ≤ 100):bZ (.str (ofL a)) (.str (ofL b)) = some (.str (ofL (a ++ b))):=by
 show (if (ofL a).length + (ofL b).length ≤ sizeLine then _ else _) = _
 rw [if_pos (by rw [qZ,qZ]; exact Nat.le_trans h (by decide)),ofL_app]
def nmA (cell:Int) (k:Nat):List Nat:=(dz cell).take (1 + (((k:Int) + dq cell 899) % 8).toNat)
def nmB (cell:Int) (sz at' k:Nat):List Nat:=(dz cell).take at' ++ [97 + ((dq cell (902 + (at':Int)) + (k:Int)) % 26).toNat] ++ ((dz cell).drop (at' + 1)).take (sz - (at' + 1))
theorem nodup_range {f:Nat→List Nat} {n:Nat} (h:∀ i j,i < j→j < n→f i ≠ f j):((List.range n).map f).Nodup:=by
 refine List.pairwise_map.mpr (List.Pairwise.imp_of_mem (fun {a b} ha hb hab=>h a b hab (List.mem_range.mp hb)) List.pairwise_lt_range)
theorem namesA (cell:Int) (many:Nat) (h1:1 ≤ many) (h2:many ≤ 8):Names ((List.range many).map (nmA cell)):=by
 have hl:∀ k,(nmA cell k).length = 1 + (((k:Int) + dq cell 899) % 8).toNat:=fun k=>by
   unfold nmA
   rw [List.length_take,ww]
   have h1:=Int.emod_nonneg ((k:Int) + dq cell 899) (show (8:Int) ≠ 0 by decide)
   have h2:=Int.emod_lt_of_pos ((k:Int) + dq cell 899) (show (0:Int) < 8 by decide)
   omega
 refine ⟨fun l hl'=>?_,by simpa using h1,by simpa using h2,nodup_range fun i j hij hj q=>?_⟩
 · obtain ⟨k,_,rfl⟩:=List.mem_map.mp hl'
   have h1:=Int.emod_nonneg ((k:Int) + dq cell 899) (show (8:Int) ≠ 0 by decide)
   have h2:=Int.emod_lt_of_pos ((k:Int) + dq cell 899) (show (0:Int) < 8 by decide)
   refine ⟨by rw [hl]; omega,by rw [hl]; omega,fun c hc=>QK cell c (List.mem_of_mem_take hc)⟩
 · have e:=congrArg List.length q
   rw [hl,hl] at e
   omega
theorem namesB (cell:Int) (sz at' many:Nat) (h1:1 ≤ many) (h2:many ≤ 8) (ha:at' < sz) (hs:sz ≤ 8):Names ((List.range many).map (nmB cell sz at')):=by
 have hl:∀ k,(nmB cell sz at' k).length = sz:=fun k=>by
   unfold nmB
   simp only [List.length_append,List.length_take,List.length_drop,ww,List.length_cons,List.length_nil]
   omega
 refine ⟨fun l hl'=>?_,by simpa using h1,by simpa using h2,nodup_range fun i j hij hj q=>?_⟩
 · obtain ⟨k,_,rfl⟩:=List.mem_map.mp hl'
   refine ⟨by rw [hl]; omega,by rw [hl]; omega,fun c hc=>?_⟩
   have h1:=Int.emod_nonneg (dq cell (902 + (at':Int)) + (k:Int)) (show (26:Int) ≠ 0 by decide)
   have h2:=Int.emod_lt_of_pos (dq cell (902 + (at':Int)) + (k:Int)) (show (0:Int) < 26 by decide)
   rcases List.mem_append.mp hc with hc | hc
   · rcases List.mem_append.mp hc with hc | hc
     · exact QK cell c (List.mem_of_mem_take hc)
     · obtain rfl:=List.mem_singleton.mp hc
       omega
   · exact QK cell c (List.mem_of_mem_drop (List.mem_of_mem_take hc))
 · unfold nmB at q
   rw [List.append_assoc,List.append_assoc] at q
   have q2:=List.append_cancel_left q
   simp only [List.cons_append,List.cons.injEq] at q2
   have:=q2.1
   omega
theorem ag0 (cell:Int) (sz at' many:Nat) (h2:many ≤ 8) (ha:at' < sz) (hs:sz ≤ 8):∃ x y,qg (zF (gv 1)) (gN 7) nJ (stN cell many LET (some (.sh (.str (ofL (dz cell))))) (some (.sh (.int sz))) (some (.sh (.int at'))) (some (.ol [])) none none) = .ok (.nx (stN cell many LET (some (.sh (.str (ofL (dz cell))))) (some (.sh (.int sz))) (some (.sh (.int at'))) (some (.ol (((List.range many).map (nmB cell sz at')).map fun l=>.str (ofL l)))) x y)):=by
 have hh:=Bq (body:=nJ) (tg:=gN 7) (fun k:Nat=>D.int k) (fun done δ=>∃ x y:Option Sl,δ = stN cell many LET (some (.sh (.str (ofL (dz cell))))) (some (.sh (.int sz))) (some (.sh (.int at'))) (some (.ol ((done.map (nmB cell sz at')).map fun l=>.str (ofL l)))) x y) (List.range many) (stN cell many LET (some (.sh (.str (ofL (dz cell))))) (some (.sh (.int sz))) (some (.sh (.int at'))) (some (.ol [])) none none) (by
   rintro k done rest δ ek ⟨x,y,rfl⟩
   have hk:k < many:=List.mem_range.mp (by rw [ek]; simp)
   have hd:done.length < many:=by
     have:=congrArg List.length ek
     simp at this
     omega
   have e1:=iB cell (902 + (at':Int)) (by omega) (by omega)
   have h1:=Int.emod_nonneg (dq cell (902 + (at':Int)) + (k:Int)) (show (26:Int) ≠ 0 by decide)
   have h2':=Int.emod_lt_of_pos (dq cell (902 + (at':Int)) + (k:Int)) (show (0:Int) < 26 by decide)
   have e2:=abc_at h1 h2'
   have bl:=ww cell
   have c1:=cut_to (l:=dz cell) (j:=at') (by omega) (by omega)
   have c2:=cut_ft (l:=dz cell) (i:=at' + 1) (j:=sz) (by omega) (by omega) (by omega)
   have a1:=add_str (a:=(dz cell).take at') (b:=[97 + ((dq cell (902 + (at':Int)) + (k:Int)) % 26).toNat]) (by simp; omega)
   have a2:=add_str (a:=(dz cell).take at' ++ [97 + ((dq cell (902 + (at':Int)) + (k:Int)) % 26).toNat]) (b:=((dz cell).drop (at' + 1)).take (sz - (at' + 1))) (by simp; omega)
   have cc:((at':Int) + 1) = ((at' + 1:Nat):Int):=by omega
   refine ⟨stN cell many LET (some (.sh (.str (ofL (dz cell))))) (some (.sh (.int sz))) (some (.sh (.int at'))) (some (.ol ((done.map (nmB cell sz at')).map fun l=>.str (ofL l)))) (some (.sh (.int k))) y,rfl,?_⟩
   have b1:dJ 8 (o2 ixD (gvo 2) (o2 fX (o2 bZ (oF 2 aD (aj (gv 0) (aj (o2 bZ (kc (.int 902)) (gv 5)) aA))) (gv 7)) (kc (.int 26)))) (stN cell many LET (some (.sh (.str (ofL (dz cell))))) (some (.sh (.int sz))) (some (.sh (.int at'))) (some (.ol ((done.map (nmB cell sz at')).map fun l=>.str (ofL l)))) (some (.sh (.int k))) y) = .ok (.nx (stN cell many LET (some (.sh (.str (ofL (dz cell))))) (some (.sh (.int sz))) (some (.sh (.int at'))) (some (.ol ((done.map (nmB cell sz at')).map fun l=>.str (ofL l)))) (some (.sh (.int k))) (some (.sh (.str (ofL [97 + ((dq cell (902 + (at':Int)) + (k:Int)) % 26).toNat])))))):=by
     unfold stN
     walk_at "ev: e1 e2"
   have b2:(o2 bZ (o2 bZ (oSl (gv 3) noI (soI (gv 5))) (gv 8)) (oSl (gv 3) (soI (o2 bZ (gv 5) (kc (.int 1)))) (soI (gv 4)))) (stN cell many LET (some (.sh (.str (ofL (dz cell))))) (some (.sh (.int sz))) (some (.sh (.int at'))) (some (.ol ((done.map (nmB cell sz at')).map fun l=>.str (ofL l)))) (some (.sh (.int k))) (some (.sh (.str (ofL [97 + ((dq cell (902 + (at':Int)) + (k:Int)) % 26).toNat]))))) = .ok (.str (ofL (nmB cell sz at' k))):=by
     unfold stN
     walk_at "ev: oSl noI soI c1 a1 cc c2 a2"
     unfold nmB
     rw [List.append_assoc]
     rfl
   unfold nJ
   rw [fW b1,Zi (ds:=(done.map (nmB cell sz at')).map fun l=>.str (ofL l)) rfl b2 (by simp only [List.length_map]; exact Nat.lt_of_lt_of_le (show _ < 100 by omega) (by decide)) rfl]
   refine ⟨some (.sh (.int k)),some (.sh (.str (ofL [97 + ((dq cell (902 + (at':Int)) + (k:Int)) % 26).toNat]))),?_⟩
   rw [List.map_append,List.map_append]
   rfl) ⟨none,none,rfl⟩
 obtain ⟨δ',e,x,y,rfl⟩:=hh
 have er:=wM (f:=gv 1) (δ:=stN cell many LET (some (.sh (.str (ofL (dz cell))))) (some (.sh (.int sz))) (some (.sh (.int at'))) (some (.ol [])) none none) (n:=many) rfl (by omega)
 refine ⟨x,y,?_⟩
 unfold qg
 rw [er]
 exact e
theorem F_names (cell:Int) (many:Nat) (h1:1 ≤ many) (h2:many ≤ 8):∃ ns,jm [.int cell,.int many] = .ok (.lst (aC ns))∧Names ns∧ns.length = many:=by
 have e0:=base_eq cell many
 have m900:=iB cell 900 (by decide) (by decide)
 by_cases q:dq cell 900 % 3 = 0
 · refine ⟨_,?_,namesA cell many h1 h2,by simp⟩
   show ((m8 (stN cell many none none none none none none none)).bind lZ).bD = _
   unfold m8
   refine cI (δ':=stN cell many LET none none none none none none) rfl ?_
   refine cI (δ':=stN cell many LET (some (.sh (.str (ofL (dz cell))))) none none none none none) (by unfold dJ; rw [e0]; rfl) ?_
   have er:=wM (f:=gv 1) (δ:=stN cell many LET (some (.sh (.str (ofL (dz cell))))) none none none none none) (n:=many) rfl (by omega)
   have m899:=iB cell 899 (by decide) (by decide)
   have e:=kj (cap:=[none,some 3,some 0]) (fe:=t6) (fun k:Nat=>D.int k) (fun k:Nat=>D.str (ofL (nmA cell k))) (List.range many) er (by simp; omega) (fun k hk=>by
     have hk:k < many:=List.mem_range.mp hk
     have h1:=Int.emod_nonneg ((k:Int) + dq cell 899) (show (8:Int) ≠ 0 by decide)
     have h2:=Int.emod_lt_of_pos ((k:Int) + dq cell 899) (show (0:Int) < 8 by decide)
     have bl:=ww cell
     have c1:=cut_to (l:=dz cell) (j:=1 + (((k:Int) + dq cell 899) % 8).toNat) (by omega) (by omega)
     have cc:(1:Int) + ((k:Int) + dq cell 899) % 8 = ((1 + (((k:Int) + dq cell 899) % 8).toNat:Nat):Int):=by omega
     unfold t6
     show oSl (gv 1) noI (soI (o2 bZ (kc (.int 1)) (o2 fX (o2 bZ (gv 0) (oF 2 aD (aj (gv 2) (aj (kc (.int 899)) aA)))) (kc (.int 8))))) [some (.sh (.int k)),some (.sh (.str (ofL (dz cell)))),some (.sh (.int cell))] = _
     walk_at "ev: oSl noI soI m899 cc c1"
     rfl)
   refine run_rt ?_
   have t:(o2b eqD (o2 fX (oF 2 aD (aj (gv 0) (aj (kc (.int 900)) aA))) (kc (.int 3))) (kc (.int 0))) (stN cell many LET (some (.sh (.str (ofL (dz cell))))) none none none none none) = .ok true:=by
     unfold stN
     walk_at "ev: m900 q"
   have en:(List.range many).map (fun k:Nat=>D.str (ofL (nmA cell k))) = aC ((List.range many).map (nmA cell)):=by
     unfold aC
     simp only [List.map_map]
     rfl
   rw [en] at e
   exact (Yp t).trans (aig (yS e))
 · obtain ⟨s0',es,hs⟩:=qY (dq cell 901) (m:=8) (by decide)
   obtain ⟨at',ea,ha⟩:=qY (dq cell 911) (m:=1 + s0') (by omega)
   have m901:=iB cell 901 (by decide) (by decide)
   have m911:=iB cell 911 (by decide) (by decide)
   refine ⟨_,?_,namesB cell (1 + s0') at' many h1 h2 ha (by omega),by simp⟩
   show ((m8 (stN cell many none none none none none none none)).bind lZ).bD = _
   unfold m8
   refine cI (δ':=stN cell many LET none none none none none none) rfl ?_
   refine cI (δ':=stN cell many LET (some (.sh (.str (ofL (dz cell))))) none none none none none) (by unfold dJ; rw [e0]; rfl) ?_
   refine cI (δ':=stN cell many LET (some (.sh (.str (ofL (dz cell))))) none none none none none) (by
     have q':(dq cell 900 % 3 == 0) = false:=by simp [q]
     unfold stN
     walk_at "ev: m900 q'") ?_
   have cs:(1:Int) + dq cell 901 % 8 = ((1 + s0':Nat):Int):=by
     simp only [Int.cast_ofNat_Int] at es
     omega
   refine cI (δ':=stN cell many LET (some (.sh (.str (ofL (dz cell))))) (some (.sh (.int ((1 + s0':Nat):Int)))) none none none none) (by
     unfold stN
     walk_at "ev: m901 cs") ?_
   have p0:(0:Int) < ((1 + s0':Nat):Int):=by omega
   refine cI (δ':=stN cell many LET (some (.sh (.str (ofL (dz cell))))) (some (.sh (.int ((1 + s0':Nat):Int)))) (some (.sh (.int at'))) none none none) (by
     unfold stN
     walk_at "ev: m911 p0 ea") ?_
   refine cI (δ':=stN cell many LET (some (.sh (.str (ofL (dz cell))))) (some (.sh (.int ((1 + s0':Nat):Int)))) (some (.sh (.int at'))) (some (.ol [])) none none) rfl ?_
   obtain ⟨x,y,e⟩:=ag0 cell (1 + s0') at' many h2 ha (by omega)
   refine cI e ?_
   rfl
theorem lg {i:Nat} {f:DSt→Out D} {δ δ':DSt} {d:D} (h:f δ = .ok d) (e:δ.set i (some (.sh d)) = δ'):dJ i f δ = .ok (.nx δ'):=by
 unfold dJ
 rw [h]
 simp only [Out.aQ]
 rw [e]
theorem acX {i:Nat} {f:DSt→Out (List D)} {δ δ':DSt} {d:List D} (h:f δ = .ok d) (e:δ.set i (some (.ol d)) = δ'):lF i f δ = .ok (.nx δ'):=by
 unfold lF
 rw [h]
 simp only [Out.aQ]
 rw [e]
theorem mk_ok {c n:Nat} {F:List D→Out (List (Str × D))} {fr:DSt→Out (List D)} {δ:DSt} {ds:List D} {fds:List (Str × D)} (h:fr δ = .ok ds) (hl:ds.length = n) (e:F ds = .ok fds):oMk c n F fr δ = .ok (.obj c fds):=by
 unfold oMk
 rw [h]
 simp only [Out.aQ]
 rw [if_pos hl,e]
 rfl
theorem aP {f:DSt→Out D} {r:DSt→Out (List D)} {δ:DSt} {d:D} {ds:List D} (h:f δ = .ok d) (h2:r δ = .ok ds):aj f r δ = .ok (d :: ds):=by
 unfold aj
 rw [h]
 simp only [Out.aQ]
 rw [h2]
 rfl
section
variable {many:Nat} {ns:List (List Nat)} {rows lE:List (List Dr)} {sc:List Int}
theorem cut_ints (sc:List Int) (lo hi:Option Int):∃ zs:List Int,FZ (sc.map D.int) lo hi = zs.map D.int∧zs.length ≤ sc.length:=by
 unfold FZ
 refine ⟨(sc.drop (HT.sIx (sc.map D.int).length 0 lo)).take (HT.sIx (sc.map D.int).length (sc.map D.int).length hi - HT.sIx (sc.map D.int).length 0 lo),?_,?_⟩
 · rw [List.map_take,List.map_drop]
 · rw [List.length_take,List.length_drop]
   omega
end
theorem sl_ok {fa:DSt→Out D} {fl fh:DSt→Out (Option Int)} {δ:DSt} {x y:D} {l h:Option Int} (e1:fa δ = .ok x) (e2:fl δ = .ok l) (e3:fh δ = .ok h) (e4:cutD x l h = some y):oSl fa fl fh δ = .ok y:=by
 unfold oSl
 rw [e1]
 simp only [Out.aQ]
 rw [e2]
 simp only [Out.aQ]
 rw [e3]
 simp only [Out.aQ]
 rw [e4]
 rfl
theorem cut_rol {xs ys:List D} {l h:Option Int} (e:FZ xs l h = ys):cutD (.rol xs) l h = some (.lst ys):=by
 subst e
 rfl
theorem nY {n:Nat} {F:List D→Out D} {fr:DSt→Out (List D)} {δ:DSt} {ds:List D} {d:D} (h:fr δ = .ok ds) (hl:ds.length = n) (e:F ds = .ok d):oF n F fr δ = .ok d:=by
 unfold oF
 rw [h]
 simp only [Out.aQ]
 rw [if_pos hl,e]
end K6
namespace K6
open PySem L2 MX DL
theorem Js {n:Nat} (h:n ≤ 100000):n ≤ sizeLine:=Nat.le_trans h (by rw [sizeLine_eq]; decide)
theorem Tt {t:DSt→Out Bool} {A B:DSt→Out Fl} {δ:DSt} (h:t δ = .ok false):sIf t A B δ = B δ:=by
 unfold sIf
 rw [h]
 rfl
theorem adk {fr:DSt→Out (List D)} {δ:DSt} {ds:List D} (h:fr δ = .ok ds) (hl:ds.length ≤ 1000):cU fr δ = .ok (.tup ds):=by
 unfold cU
 rw [h,Out.aQ,if_pos (Js (by omega))]
theorem abu {f fm:DSt→Out D} {δ:DSt} {a:Int} {m:Int} (h:f δ = .ok (.int a)) (h2:fm δ = .ok (.int m)) (hm:0 < m):o2 fX f fm δ = .ok (.int (a % m)):=by
 unfold o2
 rw [h,Out.aQ,h2,Out.aQ]
 unfold fX
 dsimp only
 rw [if_pos hm]
 rfl
section
variable {ns:List (List Nat)} {rows:List (List Dr)} {many acts rm ac:Nat} {x y:Int} {s:Sl} {es:List Mx} {ds:List D}
end
section
variable {c many:Nat} {t:Bool} {ns:List (List Nat)} {rows:List (List Dr)} {δ:DSt} {fo:DSt→Out D}
theorem XR (P:Pl c many t ns rows) (h:fo δ = .ok (plan c ns rows)):Cw "rooms" [eV,aV] fo δ = .ok (M6 rows):=by
 unfold plan at h
 rcases P.c with rfl | rfl <;> walk_at "ev: h eV aV"
end
theorem ad3 {α β:Type} {t:DSt→Out Bool} {fe:DSt→Out β} (g:α→D) (h:α→Option β):∀ (xs:List α) (δ:DSt),(∀ x ∈ xs,t (δ.set 0 (some (.sh (g x)))) = .ok (h x).isSome∧∀ y,h x = some y→fe (δ.set 0 (some (.sh (g x)))) = .ok y)→Aq (gN 0) t fe (xs.map g) δ = .ok (xs.filterMap h)
 | [],_,_=>rfl
 | x :: xs,δ,k=>by
   have e1:=k x List.mem_cons_self
   have e2:=ad3 g h xs (δ.set 0 (some (.sh (g x)))) (fun y hy=>by rw [List.set_set]; exact k y (List.mem_cons_of_mem _ hy))
   rw [List.map_cons]
   unfold Aq
   cases hx:h x with
   | none =>
     rw [hx] at e1
     simp only [gN,Out.gr,Out.aQ,Out.pL,e1.1,e2,Option.isSome_none,Bool.false_eq_true,if_false,List.filterMap_cons,hx]
   | some y =>
     have e3:=e1.2 y hx
     rw [hx] at e1
     simp only [gN,Out.gr,Out.aQ,Out.pL,e1.1,e2,e3,Option.isSome_some,if_true,List.filterMap_cons,hx]
theorem ahS {α β:Type} {cap:List (Option Nat)} {fi:DSt→Out (List D)} {t:DSt→Out Bool} {fe:DSt→Out β} {δ:DSt} (g:α→D) (h:α→Option β) (xs:List α) (e:fi δ = .ok (xs.map g)) (hz:xs.length < 1000000) (k:∀ x ∈ xs,t ((Nm cap δ).set 0 (some (.sh (g x)))) = .ok (h x).isSome∧∀ y,h x = some y→fe ((Nm cap δ).set 0 (some (.sh (g x)))) = .ok y):cW cap fi (gN 0) t fe δ = .ok (xs.filterMap h):=by
 unfold cW
 rw [e]
 simp only [Out.aQ]
 rw [if_pos (by rw [List.length_map]; exact Nat.lt_of_lt_of_le hz (by decide)),ad3 g h xs _ k]
section
variable {many acts:Nat} {rows:List (List Dr)}
end
theorem Ym {g:D→D→Option D} {fa fb:DSt→Out D} {δ:DSt} {x y z:D} (h1:fa δ = .ok x) (h2:fb δ = .ok y) (e:g x y = some z):o2 g fa fb δ = .ok z:=by
 unfold o2
 rw [h1,Out.aQ,h2,Out.aQ,e]
 rfl
theorem o1_ok {g:D→Option D} {fa:DSt→Out D} {δ:DSt} {x z:D} (h1:fa δ = .ok x) (e:g x = some z):o1 g fa δ = .ok z:=by
 unfold o1
 rw [h1,Out.aQ,e]
 rfl
theorem oR {g:D→D→Option Bool} {fa fb:DSt→Out D} {δ:DSt} {x y:D} {z:Bool} (h1:fa δ = .ok x) (h2:fb δ = .ok y) (e:g x y = some z):o2b g fa fb δ = .ok z:=by
 unfold o2b
 rw [h1,Out.aQ,h2,Out.aQ,e]
 rfl
theorem len_l {fa:DSt→Out D} {δ:DSt} {ds:List D} (h:fa δ = .ok (.lst ds)):o1 ji fa δ = .ok (.int (ds.length:Nat)):=o1_ok h rfl
theorem len_t {fa:DSt→Out D} {δ:DSt} {ds:List D} (h:fa δ = .ok (.tup ds)):o1 ji fa δ = .ok (.int (ds.length:Nat)):=o1_ok h rfl
theorem ixt_ok {fa fb:DSt→Out D} {δ:DSt} {ds:List D} {n:Nat} {d:D} (h1:fa δ = .ok (.tup ds)) (h2:fb δ = .ok (.int (n:Nat))) (h:ds[n]? = some d):o2 ixD fa fb δ = .ok d:=Ym h1 h2 (by rw [RN,fG h])
theorem cut_take {α:Type} (g:α→D) (xs:List α) (a:Nat):FZ (xs.map g) none (some (a:Int)) = (xs.take a).map g:=by
 unfold FZ
 rw [List.length_map,HT.aif,HT.Tu,Nat.sub_zero,List.drop_zero,← List.map_take]
 congr 1
 rw [Nat.min_comm,← List.take_take,List.take_of_length_le (by rw [List.length_take]; omega)]
theorem cut_drop {α:Type} (g:α→D) (xs:List α) (b:Nat):FZ (xs.map g) (some (b:Int)) none = (xs.drop b).map g:=by
 unfold FZ
 rw [List.length_map,HT.aif,HT.Tu,← List.map_drop,← List.map_take]
 congr 1
 by_cases h:b ≤ xs.length
 · rw [Nat.min_eq_left h,List.take_of_length_le (by rw [List.length_drop]; omega)]
 · rw [Nat.min_eq_right (by omega),List.drop_of_length_le (Nat.le_refl _),List.drop_of_length_le (by omega)]
   simp
theorem Tn:∀ a:List (List Nat),toPyL (aC a) = some (a.map fun l=>PyData.str (ofL l))
 | []=>rfl
 | l :: a=>by
   show (match toPy (.str (ofL l)),toPyL (aC a) with | some p,some ps=>some (p :: ps) | _,_=>none) = _
   rw [Tn a]
   rfl
theorem aet:∀ a b:List (List Nat),PyData.eqvAll (a.map fun l=>PyData.str (ofL l)) (b.map fun l=>PyData.str (ofL l)) = decide (a = b)
 | [],[]=>rfl
 | [],_ :: _=>by simp [PyData.eqvAll]
 | _ :: _,[]=>by simp [PyData.eqvAll]
 | x :: a,y :: b=>by
   show (PyData.eqv (.str (ofL x)) (.str (ofL y)) && PyData.eqvAll _ _) = _
   rw [aet a b]
   show ((ofL x == ofL y) && decide (a = b)) = _
   by_cases h:x = y
   · subst h
     simp
   · have:(ofL x == ofL y) = false:=by rw [beq_eq_false_iff_ne]; exact fun z=>h (abz z)
     rw [this]
     simp [h]
theorem ne_names (a b:List (List Nat)) (ha:fU 50 (.lst (aC a)) = true) (hb:fU 50 (.lst (aC b)) = true):neD (.lst (aC a)) (.lst (aC b)) = some (!decide (a = b)):=by
 rw [Qa ha hb]
 unfold eqB
 rw [show toPy (.lst (aC a)) = some (.list (a.map fun l=>PyData.str (ofL l))) by show (toPyL (aC a)).map PyData.list = _; rw [Tn]; rfl,show toPy (.lst (aC b)) = some (.list (b.map fun l=>PyData.str (ofL l))) by show (toPyL (aC b)).map PyData.list = _; rw [Tn]; rfl]
 show some (!PyData.eqvAll _ _) = _
 rw [aet]
theorem Qm {ns:List (List Nat)} {rows:List (List Dr)} {δ:DSt} {fo:DSt→Out D} (h:fo δ = .ok (plan aV ns rows)):oM "action_list" 1 (Pn bc) fo aA δ = .ok (.lst (aC ns)):=by
 unfold plan at h
 walk_at "ev: h Pn dOf bc eV aV fY qG runL afb endF zY"
theorem Yr {n1 n2:List (List Nat)} {r1 r2:List (List Dr)} (N1:Names n1) (N2:Names n2):o2b neD (oM "action_list" 1 (Pn bc) (gv 0) aA) (oM "action_list" 1 (Pn bc) (gv 1) aA) [some (.sh (plan aV n1 r1)),some (.sh (plan aV n2 r2))] = .ok (!decide (n1 = n2)):=oR (Qm rfl) (Qm rfl) (ne_names n1 n2 (KN n1 N1) (KN n2 N2))
theorem F_same {n1:List (List Nat)} {r1 r2:List (List Dr)} (N1:Names n1):dN [plan aV n1 r1,plan aV n1 r2] = .ok .non:=by
 have t:=Yr (r1:=r1) (r2:=r2) N1 N1
 rw [decide_eq_true rfl] at t
 show (p7 [some (.sh (plan aV n1 r1)),some (.sh (plan aV n1 r2))]).bind lZ = _
 unfold p7
 rw [Tt t]
 rfl
theorem ady {n1 n2:List (List Nat)} {r1 r2:List (List Dr)} (N1:Names n1) (N2:Names n2) (h:n1 ≠ n2):dN [plan aV n1 r1,plan aV n2 r2] = .ex (.exc xH []):=by
 have t:=Yr (r1:=r1) (r2:=r2) N1 N2
 rw [decide_eq_false h] at t
 show (p7 [some (.sh (plan aV n1 r1)),some (.sh (plan aV n2 r2))]).bind lZ = _
 unfold p7
 rw [Yp t]
 rfl
theorem oF_ex {n:Nat} {F:List D→Out D} {fr:DSt→Out (List D)} {δ:DSt} {ds:List D} {x:D} (h:fr δ = .ok ds) (hl:ds.length = n) (e:F ds = .ex x):oF n F fr δ = .ex x:=by
 unfold oF
 rw [h]
 simp only [Out.aQ]
 rw [if_pos hl,e]
def bad (i j:Int):D:=.exc dB [("room",.int i),("action",.int j)]
theorem afq:zf (-1) = true:=by decide
theorem raise_ok {c:Nat} {f g:Str} {fr:DSt→Out (List D)} {δ:DSt} {i j:Int} (h:fr δ = .ok [.int i,.int j]) (hi:zf i = true) (hj:zf j = true):zc c f g fr δ = .ex (.exc c [(f,.int i),(g,.int j)]):=by
 unfold zc
 rw [h]
 simp only [Out.aQ,hi,hj,Bool.and_self,if_true]
theorem m11 (δ:DSt):aj (o1 yW (kc (.int 1))) (aj (o1 yW (kc (.int 1))) aA) δ = .ok [.int (-1),.int (-1)]:=rfl
theorem acts_bad (a:D) (h:bx [a] = .ok (.bl false)):bI [a] = .ex (bad (-1) (-1)):=by
 unfold bI tH
 have r:=raise_ok (c:=dB) (f:="room") (g:="action") (m11 [some (.sh a)]) afq afq
 walk_at "ev: h r"
 rfl
theorem atI_n {ds:List D} {n:Nat} (h:n < ds.length):atI ds (n:Int) = ds[n]?:=by
 unfold atI
 rw [aa0 h]
 rfl
theorem lst_ok {fr:DSt→Out (List D)} {δ:DSt} {ds:List D} (h:fr δ = .ok ds) (hl:ds.length ≤ sizeLine):cF fr δ = .ok (.lst ds):=by
 unfold cF
 rw [h,Out.aQ,if_pos hl]
theorem get_at {L:List D} {f:DSt→Out D} {δ:DSt} {i m:Nat} {y:Int} (hf:δ[i]? = some (some (.sh (.lst L)))) (hy:f δ = .ok (.int y)) (hl:L.length = m) (hm:1 ≤ m):∃ d,d ∈ L∧o2 ixD (gvo i) (o2 fX f (kc (.int m))) δ = .ok d:=by
 obtain ⟨n,e,hn⟩:=qY y (m:=m) hm
 have hn':n < L.length:=by omega
 refine ⟨L[n],List.getElem_mem _,?_⟩
 have a:atI L (n:Int) = some L[n]:=by
   rw [atI_n hn']
   exact List.getElem?_eq_getElem _
 have p:(0:Int) < (m:Int):=by omega
 unfold o2 gvo
 rw [hf]
 show (Out.ok (D.lst L)).bind _ = _
 rw [Out.aQ,hy,Out.aQ]
 show ((Out.ok (D.int (m:Int))).bind fun y'=>Out.opt (fX (.int y) y')).bind _ = _
 have q:fX (.int y) (.int (m:Int)) = some (.int (y % (m:Int))):=by
   unfold fX
   dsimp only
   rw [if_pos p]
 rw [Out.aQ,q,Out.gr,Out.aQ,e]
 show Out.opt (atI L (n:Int)) = _
 rw [a]
 rfl
theorem add_l {fa fb:DSt→Out D} {δ:DSt} {a b:List D} (ha:fa δ = .ok (.lst a)) (hb:fb δ = .ok (.lst b)) (hl:a.length + b.length ≤ 1000):o2 bZ fa fb δ = .ok (.lst (a ++ b)):=by
 unfold o2
 rw [ha,Out.aQ,hb,Out.aQ]
 unfold bZ
 dsimp only
 rw [if_pos (Js (by omega))]
 rfl
theorem af9 {fr:DSt→Out (List D)} {δ:DSt} {ds:List D} (h:fr δ = .ok ds) (hl:ds.length ≤ 1000):zB fr δ = .ok ds:=by
 unfold zB
 rw [h,Out.aQ,if_pos (Js (by omega))]
theorem l1_ok {f:DSt→Out D} {δ:DSt} {d:D} (h:f δ = .ok d):cF (aj f aA) δ = .ok (.lst [d]):=lst_ok (aP h rfl) (Js (by simp))
theorem wj (d:D) (h:fJ d = some false):bx [d] = .ok (.bl false):=by
 unfold bx jw
 walk_at "ev: h"
theorem acts_no2 (ds:List D) (h:ds.length = 0 ∨ 8 < ds.length):bx [.lst ds] = .ok (.bl false):=by
 unfold bx jw
 rcases h with h | h
 · have a1:¬ (1:Int) ≤ (ds.length:Int):=by omega
   walk_at "ev: fJ zE a1"
 · have a1:(1:Int) ≤ (ds.length:Int):=by omega
   have a2:¬ (ds.length:Int) ≤ 8:=by omega
   walk_at "ev: fJ zE a1 a2"
theorem oC_ok {f:List D→Option D} {fr:DSt→Out (List D)} {δ:DSt} {ds:List D} {d:D} (h:fr δ = .ok ds) (e:f ds = some d):oC f fr δ = .ok d:=by
 unfold oC
 rw [h,Out.aQ,e]
 rfl
end K6
namespace K6
open PySem L2 MX DL
theorem nd_le {α:Type} [DecidableEq α]:∀ {l m:List α},l.Nodup→(∀ x ∈ l,x ∈ m)→l.length ≤ m.length
 | [],m,_,_=>Nat.zero_le _
 | a :: l,m,h,s=>by
   have ha:=s a List.mem_cons_self
   have h':=List.nodup_cons.mp h
   have e:=List.length_erase_of_mem ha
   have i:=nd_le (m:=m.erase a) h'.2 fun x hx=>(List.mem_erase_of_ne (fun z:x = a=>h'.1 (z ▸ hx))).mpr (s x (List.mem_cons_of_mem _ hx))
   have p:0 < m.length:=List.length_pos_of_mem ha
   simp only [List.length_cons]
   omega
def qx (r many:Nat):List Nat:=r :: (List.range many).filter fun x=>!decide (x = r)
def oU (r many n:Nat):Nat:=(qx r many).idxOf n
theorem uN {r many:Nat} (hr:r < many) (n:Nat):n ∈ qx r many ↔ n < many:=by
 unfold qx
 simp only [List.mem_cons,List.mem_filter,List.mem_range,Bool.not_eq_true',decide_eq_false_iff_not]
 constructor
 · rintro (h | h)
   · omega
   · exact h.1
 · intro h
   by_cases e:n = r
   · exact .inl e
   · exact .inr ⟨h,e⟩
theorem ord_nd (r many:Nat):(qx r many).Nodup:=by
 unfold qx
 refine List.nodup_cons.mpr ⟨fun h=>?_,List.nodup_range.filter _⟩
 have:=(List.mem_filter.mp h).2
 simp at this
theorem Jv {r many:Nat} (hr:r < many):(qx r many).length = many:=by
 have a:=nd_le (ord_nd r many) (m:=List.range many) fun x hx=>List.mem_range.mpr ((uN hr x).mp hx)
 have b:=nd_le (List.nodup_range (n:=many)) (m:=qx r many) fun x hx=>(uN hr x).mpr (List.mem_range.mp hx)
 rw [List.length_range] at a b
 omega
theorem pos_lt {r many n:Nat} (hr:r < many) (h:n < many):oU r many n < many:=by
 have:=List.idxOf_lt_length_iff.mpr ((uN hr n).mpr h)
 rw [Jv hr] at this
 exact this
theorem agF {a n:Nat} {r:List Nat} (h:a = n):(a :: r).idxOf n = 0:=by
 rw [List.idxOf_cons]
 simp [h]
theorem agG {a n:Nat} {r:List Nat} (h:a ≠ n):(a :: r).idxOf n = r.idxOf n + 1:=by
 rw [List.idxOf_cons,show (a == n) = false by simpa using h]
 rfl
theorem ah6 {n:Nat}:∀ {l:List Nat} {i:Nat},l.Nodup→l[i]? = some n→l.idxOf n = i
 | [],i,_,h=>by simp at h
 | a :: r,0,_,h=>agF (by simpa using h)
 | a :: r,i + 1,hn,h=>by
   have hr:r[i]? = some n:=by simpa using h
   have hn:=List.nodup_cons.mp hn
   rw [agG (fun z:a = n=>hn.1 (z ▸ List.mem_of_getElem? hr)),ah6 hn.2 hr]
theorem ah1 (n:Nat):∀ (l:List Nat) (k:Nat),n ∈ l→fstI (n:Int) (l.map fun x:Nat=>(x:Int)) k = some (k + l.idxOf n)
 | [],k,h=>by cases h
 | x :: r,k,h=>by
   rw [List.map_cons]
   unfold fstI
   by_cases e:x = n
   · rw [if_pos (by omega),agF e,Nat.add_zero]
   · have hr:n ∈ r:=by
       rcases List.mem_cons.mp h with z | z
       · exact absurd z.symm e
       · exact z
     rw [if_neg (by omega),ah1 n r (k + 1) hr,agG e]
     congr 1
     omega
def t8 (l:List Nat):List D:=l.map fun x:Nat=>D.int (x:Nat)
theorem Yd:∀ l:List Nat,RK (t8 l) = some (l.map fun x:Nat=>(x:Int))
 | []=>rfl
 | x :: r=>by
   show (RK (t8 r)).map (((x:Nat):Int) :: ·) = _
   rw [Yd r]
   rfl
theorem ah4 (kvs:List (Key × D)) (k k':Key) (v:D):vI (CK kvs k v) k' = if k = k' then some v else vI kvs k':=by
 unfold CK
 have aux:∀ kvs:List (Key × D),vI (kvs.map fun kv=>if kv.1 = k then (kv.1,v) else kv) k' = if k = k' then (if (kvs.any fun kv=>decide (kv.1 = k)) = true then some v else none) else vI kvs k':=by
   intro kvs
   unfold vI
   induction kvs with
   | nil=>by_cases h:k = k' <;> simp [h]
   | cons kv r ih =>
     by_cases h1:kv.1 = k
     · by_cases h2:k = k'
       · simp [List.find?_cons,h1,h2]
       · have h3:¬ kv.1 = k':=fun z=>h2 (h1 ▸ z)
         rw [if_neg h2] at ih
         simp [List.find?_cons,h1,h2]
         simpa using ih
     · by_cases h2:k = k'
       · have h3:¬ kv.1 = k':=fun z=>h1 (h2 ▸ z)
         rw [if_pos h2] at ih
         rw [if_pos h2]
         simp only [List.map_cons,if_neg h1,List.find?_cons,decide_eq_false h3,List.any_cons,decide_eq_false h1,Bool.false_or]
         exact ih
       · rw [if_neg h2] at ih
         rw [if_neg h2]
         by_cases h3:kv.1 = k'
         · simp only [List.map_cons,if_neg h1,List.find?_cons,decide_eq_true h3]
         · simp only [List.map_cons,if_neg h1,List.find?_cons,decide_eq_false h3]
           exact ih
 split
 · rename_i h
   rw [aux,if_pos h]
 · rename_i h
   unfold vI
   rw [List.find?_append]
   by_cases h2:k = k'
   · subst h2
     have:kvs.find? (fun kv=>decide (kv.1 = k)) = none:=by
       rw [List.find?_eq_none]
       intro x hx q
       exact h (List.any_eq_true.mpr ⟨x,hx,q⟩)
     rw [this]
     simp
   · simp [h2]
def Oi (l:List Nat) (k:Nat):List (Key × D):=(l.zipIdx k).map fun p=>(Sum.inl ((p.1:Nat):Int),D.int ((p.2:Nat):Int))
def putAll (acc:List (Key × D)) (ps:List (Key × D)):List (Key × D):=ps.foldl (fun acc p=>CK acc p.1 p.2) acc
theorem Yk (x:Nat) (r:List Nat) (k:Nat):Oi (x :: r) k = (Sum.inl ((x:Nat):Int),D.int ((k:Nat):Int)) :: Oi r (k + 1):=rfl
theorem ah2 {n:Nat}:∀ (l:List Nat) (k:Nat) (acc:List (Key × D)),n ∉ l→vI (putAll acc (Oi l k)) (.inl (n:Int)) = vI acc (.inl (n:Int))
 | [],k,acc,_=>rfl
 | x :: r,k,acc,h=>by
   rw [Yk]
   show vI (putAll (CK acc _ _) (Oi r (k + 1))) _ = _
   rw [ah2 r (k + 1) _ fun z=>h (List.mem_cons_of_mem _ z),ah4,if_neg]
   intro z
   have z:=Sum.inl.inj z
   exact h (by rw [show n = x by omega]; exact List.mem_cons_self)
theorem ah3 {n:Nat}:∀ (l:List Nat) (k:Nat) (acc:List (Key × D)),l.Nodup→n ∈ l→vI (putAll acc (Oi l k)) (.inl (n:Int)) = some (.int ((k + l.idxOf n:Nat):Int))
 | [],k,acc,_,h=>by cases h
 | x :: r,k,acc,hn,h=>by
   have hn:=List.nodup_cons.mp hn
   rw [Yk]
   show vI (putAll (CK acc _ _) (Oi r (k + 1))) _ = _
   by_cases e:x = n
   · subst e
     rw [ah2 r (k + 1) _ hn.1,ah4,if_pos rfl,agF rfl]
     rfl
   · have hr:n ∈ r:=by
       rcases List.mem_cons.mp h with z | z
       · exact absurd z.symm e
       · exact z
     rw [ah3 r (k + 1) _ hn.2 hr,agG e]
     congr 3
     omega
theorem Yn:∀ (l:List Nat) (k:Nat),GX ((l.zipIdx k).map fun p=>D.tup [.int ((p.1:Nat):Int),.int ((p.2:Nat):Int)]) = some (Oi l k)
 | [],k=>rfl
 | x :: r,k=>by
   show (match keyD (.int ((x:Nat):Int)),GX ((r.zipIdx (k + 1)).map fun p=>D.tup [.int ((p.1:Nat):Int),.int ((p.2:Nat):Int)]) with | some k,some ps=>some ((k,_) :: ps) | _,_=>none) = _
   rw [Yn r (k + 1)]
   rfl
def Dr.re (f:Nat→Nat):Dr→Dr
 | .must n=>.must (f n)
 | .may n=>.may (f n)
 | .shut=>.shut
 | .torn=>.torn
theorem re_w (f:Nat→Nat) (x:Dr):(x.re f).w = x.w:=by cases x <;> rfl
theorem re_ok {f:Nat→Nat} {many:Nat} {t:Bool} (hf:∀ n,n < many→f n < many) {x:Dr} (h:x.ok many t):(x.re f).ok many t:=by
 cases x with
 | must n=>exact hf n h
 | may n=>exact hf n h
 | shut=>exact h
 | torn=>exact h
theorem re_id {f:Nat→Nat} {many:Nat} {t:Bool} (hf:∀ n,n < many→f n = n) {x:Dr} (h:x.ok many t):x.re f = x:=by
 cases x with
 | must n=>exact congrArg Dr.must (hf n h)
 | may n=>exact congrArg Dr.may (hf n h)
 | shut=>rfl
 | torn=>rfl
def turn (r many:Nat) (rows:List (List Dr)):List (List Dr):=(qx r many).map fun o=>(rows.getD o []).map (Dr.re (oU r many))
theorem getD_mem {rows:List (List Dr)} {o:Nat} (h:o < rows.length):rows.getD o [] ∈ rows∧rows[o]? = some (rows.getD o []):=by
 rw [List.getD_eq_getElem?_getD,List.getElem?_eq_getElem h]
 exact ⟨List.getElem_mem h,rfl⟩
theorem Lq {r many acts:Nat} {rows:List (List Dr)} (R:Rows many acts false rows) (hr:r < many):Rows many acts false (turn r many rows):=by
 refine ⟨by unfold turn; rw [List.length_map,Jv hr],fun l hl=>?_⟩
 unfold turn at hl
 obtain ⟨o,ho,rfl⟩:=List.mem_map.mp hl
 have q:=R.row _ (getD_mem (by rw [R.n]; exact (uN hr o).mp ho)).1
 refine ⟨by rw [List.length_map]; exact q.1,fun x hx=>?_⟩
 obtain ⟨y,hy,rfl⟩:=List.mem_map.mp hx
 exact re_ok (fun n hn=>pos_lt hr hn) (q.2 y hy)
theorem aeZ {many:Nat} (h:0 < many):qx 0 many = List.range many:=by
 obtain ⟨m,rfl⟩:∃ m,many = m + 1:=⟨many - 1,by omega⟩
 unfold qx
 rw [List.range_succ_eq_map]
 congr 1
 rw [List.filter_cons]
 simp only [decide_true,Bool.not_true,Bool.false_eq_true,if_false]
 rw [List.filter_eq_self]
 intro a ha
 obtain ⟨b,_,rfl⟩:=List.mem_map.mp ha
 simp
theorem pos_zero {many n:Nat} (h:n < many):oU 0 many n = n:=by
 unfold oU
 rw [aeZ (by omega)]
 exact ah6 List.nodup_range (by rw [List.getElem?_range h])
theorem ajt {many acts:Nat} {rows:List (List Dr)} (R:Rows many acts false rows) (h:0 < many):turn 0 many rows = rows:=by
 unfold turn
 rw [aeZ h]
 refine List.ext_getElem (by rw [List.length_map,List.length_range,R.n]) fun i h1 h2=>?_
 have g:=getD_mem h2
 have e:rows.getD i [] = rows[i]:=Option.some.inj (g.2.symm.trans (List.getElem?_eq_getElem h2))
 rw [List.getElem_map,List.getElem_range,e]
 have q:=R.row _ (List.getElem_mem h2)
 rw [show (List.map (Dr.re (oU 0 many)) rows[i]) = List.map id rows[i] from List.map_congr_left fun x hx=>re_id (fun n hn=>pos_zero hn) (q.2 x hx)]
 exact List.map_id _
end K6
namespace K6
open PySem L2 MX DL
theorem Qn {many:Nat} {t:Bool} {ns:List (List Nat)} {rows:List (List Dr)} {δ:DSt} {fo:DSt→Out D} (P:Pl aV many t ns rows) (h:fo δ = .ok (plan aV ns rows)):oM "many" 1 CW fo aA δ = .ok (.int many):=by
 have e:qJ [plan aV ns rows] = .ok (.int many):=by
   show ((ym [some (.sh (plan aV ns rows))]).bind lZ).bD = _
   unfold ym
   refine zb ?_
   rw [len_t (ds:=rows.map fun r=>.tup (r.map Dr.ob)) (XR P rfl),List.length_map,P.R.n]
 unfold plan at h e
 walk_at "ev: h CW eV aV e"
theorem M_led2 (x:Dr) (f:Nat→Nat) (δ:DSt) (fo:DSt→Out D) (fa:DSt→Out D) (h:fo δ = .ok x.ob) (ha:fa δ = .ok (x.re f).to):oM "led" 2 JK fo (aj fa aA) δ = .ok (x.re f).ob:=by
 cases x <;> · unfold Dr.ob at h; unfold Dr.re Dr.to at ha; walk_at "ev: h ha Dr.ob Dr.re JK jY uX jP jQ Fq Rx JW X5 Ft Ry Fv Rz wV Qj wW zP"
theorem get_to {x:Dr} {many i:Nat} {t:Bool} {f:Nat→Nat} {kvs:List (Key × D)} {δ:DSt} {fo:DSt→Out D} (hx:x.ok many t) (hk:∀ n:Nat,n < many→vI kvs (.inl (n:Int)) = some (.int (f n:Nat))) (h:fo δ = .ok x.to) (hd:dkOf i δ = some kvs):Ra i fo δ = .ok (x.re f).to:=by
 unfold Ra
 rw [hd]
 simp only [h,Out.aQ]
 cases x with
 | must n =>
   have e:=hk n hx
   simp only [Dr.to,Dr.re,keyD,e,Option.getD_some]
 | may n =>
   have e:=hk n hx
   simp only [Dr.to,Dr.re,keyD,e,Option.getD_some]
 | shut=>rfl
 | torn=>rfl
theorem F_led (r:List Dr) {many:Nat} {t:Bool} {f:Nat→Nat} {kvs:List (Key × D)} (hl:r.length ≤ 100) (hr:∀ x ∈ r,x.ok many t) (hk:∀ n:Nat,n < many→vI kvs (.inl (n:Int)) = some (.int (f n:Nat))):rP [.tup (r.map Dr.ob),.dK kvs] = .ok (.lst ((r.map (Dr.re f)).map Dr.d)):=by
 show ((Gj [some (.sh (.tup (r.map Dr.ob))),some (.sh (.dK kvs))]).bind lZ).bD = _
 unfold Gj
 refine zb (yS ?_)
 have e:=kj (cap:=[none,some 1]) (fi:=fV (gv 0)) (fe:=yR) (δ:=[some (.sh (.tup (r.map Dr.ob))),some (.sh (.dK kvs))]) Dr.ob (fun x=>(x.re f).d) r rfl (by omega) (fun x hx=>by
   unfold yR
   exact ahM (x.re f) _ _ (M_led2 x f _ _ _ rfl (get_to (hr x hx) hk (fld_to x _ _ rfl) rfl)))
 rw [e,List.map_map]
 rfl
theorem Ks {r:Nat}:∀ l:List Nat,(l.filterMap fun i=>if i = r then none else some (D.int (i:Nat))) = t8 (l.filter fun x=>!decide (x = r))
 | []=>rfl
 | x :: l=>by
   rw [List.filterMap_cons,List.filter_cons,Ks l]
   by_cases h:x = r
   · simp [h]
   · simp [h]
     rfl
theorem ord_ok {FX le:DSt→Out D} {δ:DSt} {r many:Nat} (hX:FX δ = .ok (.int (many:Nat))) (h1:δ[1]? = some (some (.sh (.int (r:Nat))))) (hle:∀ δ',le δ' = gv 0 δ') (hr:r < many) (hm:many ≤ 60):o2 bZ (cF (aj (gv 1) aA)) (j4 (cW [none,some 1] (zF FX) (gN 0) (o2b neD (gb 0) (gb 1)) le)) δ = .ok (.lst (t8 (qx r many))):=by
 have e:=ahS (cap:=[none,some 1]) (fi:=zF FX) (t:=o2b neD (gb 0) (gb 1)) (fe:=le) (δ:=δ) (fun i:Nat=>D.int (i:Nat)) (fun i:Nat=>if i = r then none else some (D.int (i:Nat))) (List.range many) (wM hX (by omega)) (by rw [List.length_range]; omega) (fun i _=>by
   have c:(Nm [none,some 1] δ).set 0 (some (.sh (.int (i:Nat)))) = [some (.sh (.int (i:Nat))),some (.sh (.int (r:Nat)))]:=by
     unfold Nm
     simp [h1]
   rw [c]
   refine ⟨?_,fun y hy=>?_⟩
   · rw [oR (x:=.int (i:Nat)) (y:=.int (r:Nat)) (fa:=gb 0) (fb:=gb 1) rfl rfl (GD _ _)]
     by_cases q:i = r
     · simp [q]
     · have:¬ ((i:Int) = (r:Int)):=by omega
       simp [q,this]
   · rw [hle]
     by_cases q:i = r
     · simp [q] at hy
     · simp [q] at hy
       rw [← hy]
       rfl)
 have g1:gv 1 δ = .ok (.int (r:Nat)):=by
   unfold gv
   rw [h1]
 have z:=nd_le (l:=(List.range many).filter fun x=>!decide (x = r)) (m:=List.range many) (List.nodup_range.filter _) fun x hx=>(List.mem_filter.mp hx).1
 rw [List.length_range] at z
 have a:=add_l (fa:=cF (aj (gv 1) aA)) (fb:=j4 (cW [none,some 1] (zF FX) (gN 0) (o2b neD (gb 0) (gb 1)) le)) (l1_ok g1) (yS e) (by rw [Ks]; unfold t8; rw [List.length_map]; simp only [List.length_cons,List.length_nil]; omega)
 rw [a,Ks]
 rfl
theorem comp_2 {α:Type} {fe:DSt→Out D} (g1 g2 h:α→D):∀ (xs:List α) (δ:DSt),δ.length = 2→(∀ x ∈ xs,fe [some (.sh (g1 x)),some (.sh (g2 x))] = .ok (h x))→Aq (gT 2 (bO (gN 0) (bO (gN 1) j0))) (fun _=>.ok true) fe (xs.map fun x=>D.tup [g1 x,g2 x]) δ = .ok (xs.map h)
 | [],_,_,_=>rfl
 | x :: xs,[a,b],hl,k=>by
   have e1:=k x List.mem_cons_self
   have e2:=comp_2 g1 g2 h xs [some (.sh (g1 x)),some (.sh (g2 x))] rfl (fun y hy=>k y (List.mem_cons_of_mem _ hy))
   rw [List.map_cons,List.map_cons]
   unfold Aq
   have t:gT 2 (bO (gN 0) (bO (gN 1) j0)) (D.tup [g1 x,g2 x]) [a,b] = some [some (.sh (g1 x)),some (.sh (g2 x))]:=rfl
   simp only [t,Out.gr,Out.aQ,Out.pL,e1,e2,if_true]
theorem dict_ok {δ:DSt} {l:List Nat} (hl:l.length ≤ 60) (h2:gv 2 δ = .ok (.lst (t8 l))):oC (Le XH) (aj (j4 (cW [none,none] (enum (gv 2)) (gT 2 (bO (gN 0) (bO (gN 1) j0))) (fun _=>.ok true) Do)) aA) δ = .ok (.dK (putAll [] (Oi l 0))):=by
 have e:enum (gv 2) δ = .ok ((l.zipIdx 0).map fun p=>D.tup [.int ((p.2:Nat):Int),.int ((p.1:Nat):Int)]):=by
   unfold enum
   rw [h2]
   show Out.ok (Bg 0 (t8 l)) = _
   unfold t8
   rw [Jh]
 have c:=comp_2 (fe:=Do) (fun p:Nat × Nat=>D.int ((p.2:Nat):Int)) (fun p=>D.int ((p.1:Nat):Int)) (fun p=>D.tup [.int ((p.1:Nat):Int),.int ((p.2:Nat):Int)]) (l.zipIdx 0) (Nm [none,none] δ) rfl (fun p _=>by
   unfold Do
   exact adk (aP rfl (aP rfl rfl)) (by simp))
 refine oC_ok (ds:=[.lst ((l.zipIdx 0).map fun p=>D.tup [.int ((p.1:Nat):Int),.int ((p.2:Nat):Int)])]) (aP (yS ?_) rfl) ?_
 · unfold cW
   rw [e,Out.aQ,if_pos (by rw [List.length_map,List.length_zipIdx]; exact Nat.lt_of_le_of_lt hl (by decide))]
   exact c
 · show XH _ = _
   unfold XH
   simp only [qX,Option.bind_some]
   rw [Yn]
   rfl
theorem adw {many r:Nat} {ns:List (List Nat)} {rows:List (List Dr)} (P:Pl aV many false ns rows) (hr:r < many):mF [plan aV ns rows,.int (r:Nat)] = .ok (plan aV ns (turn r many rows)):=by
 have hn:=P.R.n
 have h60:=P.hi
 have h8:=P.N.hi
 show ((aaE [some (.sh (plan aV ns rows)),some (.sh (.int (r:Nat))),none,none]).bind lZ).bD = _
 unfold aaE
 refine cI (δ':=[some (.sh (plan aV ns rows)),some (.sh (.int (r:Nat))),some (.sh (.lst (t8 (qx r many)))),none]) (lg (ord_ok (Qn P rfl) rfl (fun _=>rfl) hr h60) rfl) ?_
 refine cI (δ':=[some (.sh (plan aV ns rows)),some (.sh (.int (r:Nat))),some (.sh (.lst (t8 (qx r many)))),some (.sh (.dK (putAll [] (Oi (qx r many) 0))))]) (lg (dict_ok (by rw [Jv hr]; exact h60) rfl) rfl) ?_
 have hk:∀ n:Nat,n < many→vI (putAll [] (Oi (qx r many) 0)) (.inl (n:Int)) = some (.int (oU r many n:Nat)):=fun n h=>by
   rw [ah3 _ _ _ (ord_nd r many) ((uN hr n).mpr h),Nat.zero_add]
   rfl
 have e:=kj (cap:=[none,some 3,some 0]) (fi:=fV (gv 2)) (fe:=KQ) (δ:=[some (.sh (plan aV ns rows)),some (.sh (.int (r:Nat))),some (.sh (.lst (t8 (qx r many)))),some (.sh (.dK (putAll [] (Oi (qx r many) 0))))]) (fun o:Nat=>D.int (o:Nat)) (fun o=>D.lst (((rows.getD o []).map (Dr.re (oU r many))).map Dr.d)) (qx r many) rfl (by rw [Jv hr]; omega) (fun o ho=>by
   have g:=getD_mem (rows:=rows) (o:=o) (by rw [hn]; exact (uN hr o).mp ho)
   have q:=P.R.row _ g.1
   unfold KQ
   refine nY (n:=2) (ds:=[.tup ((rows.getD o []).map Dr.ob),.dK (putAll [] (Oi (qx r many) 0))]) (aP (ixt_ok (ds:=rows.map fun r=>.tup (r.map Dr.ob)) (n:=o) (XR P rfl) rfl (by rw [List.getElem?_map,g.2]; rfl)) (aP rfl rfl)) rfl (F_led _ (by rw [q.1]; omega) q.2 hk))
 have R':=Lq P.R hr
 have ei:qi [.lst (aC ns),cz (turn r many rows)] = .ok [("actions",.tup (aC ns)),("rooms",M6 (turn r many rows))]:=afw false many ns (turn r many rows) P.N R' P.lo P.hi
 refine zb (mk_ok (n:=2) (ds:=[.lst (aC ns),cz (turn r many rows)]) (aP (Qm rfl) (aP (yS ?_) rfl)) rfl ei)
 rw [e]
 unfold turn
 rw [List.map_map]
 rfl
end K6
namespace K6
open PySem L2 MX DL
def stT (rows:List (List Dr)) (r many:Nat) (found:List D) (x4 x5 x6 x7:Option Sl):DSt:=[some (.sh (cz rows)),some (.sh (.int (r:Nat))),some (.sh (.lst (t8 (qx r many)))),some (.ol found),x4,x5,x6,x7]
theorem aby {o:Out Fl} {δ:DSt} {I:DSt→Prop} (h:o = .ok (.nx δ)) (i:I δ):nxP o I:=by
 rw [h]
 exact i
theorem nxP_mono {o:Out Fl} {I J:DSt→Prop} (h:nxP o I) (k:∀ δ,I δ→J δ):nxP o J:=by
 obtain ⟨δ,e,i⟩:=abx h
 exact aby e (k δ i)
theorem idx_ok {δ:DSt} {r many n:Nat} (h2:gv 2 δ = .ok (.lst (t8 (qx r many)))) (h7:gv 7 δ = .ok (.int (n:Nat))) (hr:r < many) (hn:n < many):oIdx (gv 2) (gv 7) δ = .ok (.int (oU r many n:Nat)):=by
 unfold oIdx
 rw [h2,Out.aQ,if_pos (show isLst (.lst (t8 (qx r many))) = true from rfl),h7,Out.aQ]
 unfold idxD
 simp only [qX,Option.bind_some,Yd,ah1 n _ 0 ((uN hr n).mpr hn),Option.map_some,Nat.zero_add]
 rfl
theorem lb3_ok {rows:List (List Dr)} {r many:Nat} {found acc:List D} {x4:Option Sl} (x:Dr) (hx:x.ok many false) (hr:r < many) (ha:acc.length ≤ 100):gU (stT rows r many found x4 (some (.ol acc)) (some (.sh (.str x.w))) (some (.sh x.to))) = .ok (.nx (stT rows r many found x4 (some (.ol (acc ++ [(x.re (oU r many)).d]))) (some (.sh (.str x.w))) (some (.sh (x.re (oU r many)).to)))):=by
 unfold gU
 have s1:sIf (o2b uc (gb 7) (kc .non)) (dJ 7 (oIdx (gv 2) (gv 7))) iz (stT rows r many found x4 (some (.ol acc)) (some (.sh (.str x.w))) (some (.sh x.to))) = .ok (.nx (stT rows r many found x4 (some (.ol acc)) (some (.sh (.str x.w))) (some (.sh (x.re (oU r many)).to)))):=by
   cases x with
   | must n =>
     rw [Yp (show o2b uc (gb 7) (kc .non) _ = .ok true from rfl)]
     exact lg (d:=.int (oU r many n:Nat)) (idx_ok rfl rfl hr hx) rfl
   | may n =>
     rw [Yp (show o2b uc (gb 7) (kc .non) _ = .ok true from rfl)]
     exact lg (d:=.int (oU r many n:Nat)) (idx_ok rfl rfl hr hx) rfl
   | shut=>rfl
   | torn=>rfl
 rw [fW s1]
 have e:(x.re (oU r many)).d = .tup [.str x.w,(x.re (oU r many)).to]:=by
   unfold Dr.d
   rw [re_w]
 rw [e]
 exact Zi (i:=5) (ds:=acc) rfl (adk (aP rfl (aP rfl rfl)) (by simp)) (Nat.lt_of_le_of_lt ha (by decide)) rfl
theorem lb2_ok {rows:List (List Dr)} {r many acts o:Nat} {found:List D} {x5 x6 x7:Option Sl} (R:Rows many acts false rows) (hr:r < many) (ho:o < many) (h8:acts ≤ 8) (hf:found.length ≤ 100):nxP (km (stT rows r many found (some (.sh (.int (o:Nat)))) x5 x6 x7)) fun δ=>∃ x5 x6 x7,δ = stT rows r many (found ++ [.lst (((rows.getD o []).map (Dr.re (oU r many))).map Dr.d)]) (some (.sh (.int (o:Nat)))) x5 x6 x7:=by
 unfold km
 have s1:lF 5 (zB aA) (stT rows r many found (some (.sh (.int (o:Nat)))) x5 x6 x7) = .ok (.nx (stT rows r many found (some (.sh (.int (o:Nat)))) (some (.ol [])) x6 x7)):=acX (d:=[]) (af9 rfl (by simp)) rfl
 rw [fW s1]
 have g:=getD_mem (rows:=rows) (o:=o) (by rw [R.n]; exact ho)
 have q:=R.row _ g.1
 generalize rows.getD o [] = row at g q ⊢
 obtain ⟨δ',e1,x6',x7',rfl⟩:=Bq (body:=gU) (tg:=gT 2 (bO (gN 6) (bO (gN 7) j0))) Dr.d (fun done δ=>∃ x6 x7,δ = stT rows r many found (some (.sh (.int (o:Nat)))) (some (.ol ((done.map (Dr.re (oU r many))).map Dr.d))) x6 x7) row (stT rows r many found (some (.sh (.int (o:Nat)))) (some (.ol [])) x6 x7) (by
   rintro x done rest δ e ⟨x6,x7,rfl⟩
   refine ⟨_,rfl,?_⟩
   have ha:((done.map (Dr.re (oU r many))).map Dr.d).length ≤ 100:=by
     have:=congrArg List.length e
     rw [List.length_append] at this
     rw [List.length_map,List.length_map]
     omega
   have k:=lb3_ok (rows:=rows) (r:=r) (many:=many) (found:=found) (x4:=some (.sh (.int (o:Nat)))) x (q.2 x (by rw [e]; exact List.mem_append_right _ List.mem_cons_self)) hr ha
   refine aby k ⟨some (.sh (.str x.w)),some (.sh (x.re (oU r many)).to),?_⟩
   rw [List.map_append,List.map_append]
   rfl) ⟨_,_,rfl⟩
 have s2:qg (fV (o2 ixD (gvo 0) (gv 4))) (gT 2 (bO (gN 6) (bO (gN 7) j0))) gU (stT rows r many found (some (.sh (.int (o:Nat)))) (some (.ol [])) x6 x7) = .ok (.nx (stT rows r many found (some (.sh (.int (o:Nat)))) (some (.ol ((row.map (Dr.re (oU r many))).map Dr.d))) x6' x7')):=by
   have a:o2 ixD (gvo 0) (gv 4) (stT rows r many found (some (.sh (.int (o:Nat)))) (some (.ol [])) x6 x7) = .ok (.lst (row.map Dr.d)):=Ym (x:=cz rows) (y:=.int (o:Nat)) rfl rfl (by
     show atI (rows.map fun r=>D.lst (r.map Dr.d)) (o:Nat) = _
     exact fG (by rw [List.getElem?_map,g.2]; rfl))
   unfold qg fV
   rw [a]
   exact e1
 rw [fW s2]
 have s3:Rv 5 (ud 3 (gv 5)) (stT rows r many found (some (.sh (.int (o:Nat)))) (some (.ol ((row.map (Dr.re (oU r many))).map Dr.d))) x6' x7') = .ok (.nx (stT rows r many (found ++ [.lst ((row.map (Dr.re (oU r many))).map Dr.d)]) (some (.sh (.int (o:Nat)))) (some (.sh (.lst ((row.map (Dr.re (oU r many))).map Dr.d)))) x6' x7')):=by
   show ud 3 (gv 5) (stT rows r many found (some (.sh (.int (o:Nat)))) (some (.sh (.lst ((row.map (Dr.re (oU r many))).map Dr.d)))) x6' x7') = _
   exact Zi (i:=3) (ds:=found) rfl rfl (Nat.lt_of_le_of_lt hf (by decide)) rfl
 exact aby s3 ⟨_,_,_,rfl⟩
theorem F_turned {many acts r:Nat} {rows:List (List Dr)} (R:Rows many acts false rows) (hr:r < many) (h60:many ≤ 60) (h8:acts ≤ 8):gY [cz rows,.int (r:Nat)] = .ok (cz (turn r many rows)):=by
 show ((vG [some (.sh (cz rows)),some (.sh (.int (r:Nat))),none,none,none,none,none,none]).bind lZ).bD = _
 unfold vG
 have hl:o1 ji (gb 0) [some (.sh (cz rows)),some (.sh (.int (r:Nat))),none,none,none,none,none,none] = .ok (.int (many:Nat)):=by
   rw [len_l (ds:=rows.map fun r=>.lst (r.map Dr.d)) rfl,List.length_map,R.n]
 refine cI (δ':=[some (.sh (cz rows)),some (.sh (.int (r:Nat))),some (.sh (.lst (t8 (qx r many)))),none,none,none,none,none]) (lg (ord_ok hl rfl (fun _=>rfl) hr h60) rfl) ?_
 refine cI (δ':=stT rows r many [] none none none none) (acX (d:=[]) (af9 rfl (by simp)) rfl) ?_
 obtain ⟨δ',e1,x4,x5,x6,x7,rfl⟩:=Bq (body:=km) (tg:=gN 4) (fun o:Nat=>D.int (o:Nat)) (fun done δ=>∃ x4 x5 x6 x7,δ = stT rows r many (done.map fun o=>D.lst (((rows.getD o []).map (Dr.re (oU r many))).map Dr.d)) x4 x5 x6 x7) (qx r many) (stT rows r many [] none none none none) (by
   rintro o done rest δ e ⟨x4,x5,x6,x7,rfl⟩
   refine ⟨_,rfl,?_⟩
   have ho:o < many:=(uN hr o).mp (by rw [e]; exact List.mem_append_right _ List.mem_cons_self)
   have hd:(done.map fun o=>D.lst (((rows.getD o []).map (Dr.re (oU r many))).map Dr.d)).length ≤ 100:=by
     have:=congrArg List.length e
     rw [List.length_append,Jv hr] at this
     rw [List.length_map]
     omega
   refine nxP_mono (lb2_ok R hr ho h8 hd) ?_
   rintro δ ⟨x5,x6,x7,rfl⟩
   refine ⟨some (.sh (.int (o:Nat))),x5,x6,x7,?_⟩
   rw [List.map_append]
   rfl) ⟨_,_,_,_,rfl⟩
 refine cI (δ':=stT rows r many ((qx r many).map fun o=>D.lst (((rows.getD o []).map (Dr.re (oU r many))).map Dr.d)) x4 x5 x6 x7) (by
   unfold qg fV
   exact e1) ?_
 show Out.ok (D.lst _) = _
 unfold turn cz
 rw [List.map_map]
 rfl
end K6
namespace K6
open PySem L2 MX DL
section
variable {c many:Nat} {t:Bool} {ns:List (List Nat)} {rows:List (List Dr)} {δ:DSt} {fo:DSt→Out D}
end
section
variable {many acts:Nat} {rows:List (List Dr)}
end
theorem lt_ok {fa fb:DSt→Out D} {δ:DSt} {i j:Int} (h1:fa δ = .ok (.int i)) (h2:fb δ = .ok (.int j)):o2b ltD fa fb δ = .ok (decide (i < j)):=oR h1 h2 rfl
theorem gt_ok {fa fb:DSt→Out D} {δ:DSt} {i j:Int} (h1:fa δ = .ok (.int i)) (h2:fb δ = .ok (.int j)):o2b gtD fa fb δ = .ok (decide (i > j)):=oR h1 h2 rfl
theorem ix_ok {fa fb:DSt→Out D} {δ:DSt} {ds:List D} {n:Nat} {d:D} (h1:fa δ = .ok (.lst ds)) (h2:fb δ = .ok (.int (n:Nat))) (h:ds[n]? = some d):o2 ixD fa fb δ = .ok d:=Ym h1 h2 (by rw [RM,fG h])
theorem S6 {a b:DSt→Out Bool} {δ:DSt} {x y:Bool} (h1:a δ = .ok x) (h2:x = false→b δ = .ok y):orT a b δ = .ok (x || y):=by
 unfold orT
 rw [h1]
 cases x
 · simp only [Out.aQ,Bool.false_or]; exact h2 rfl
 · rfl
theorem agy (f:List (List Nat)):Fb (aC f) = some (f.map fun l=>V.str (ofL l)):=by
 unfold aC
 induction f with
 | nil=>rfl
 | cons x xs ih=>simp only [List.map_cons,Fb,Ji,ih]
theorem not_in (x:List Nat) (f:List (List Nat)):GJ (.str (ofL x)) (.lst (aC f)) = some (!decide (x ∈ f)):=by
 show ((match Ji (D.str (ofL x)),(zY (.lst (aC f))).bind Fb with | some v,some vs=>some (inV v vs) | _,_=>none).map (! ·)) = _
 simp only [Ji,zY,Option.bind_some,agy,inV,List.any_map,Option.map_some]
 congr 2
 induction f with
 | nil=>rfl
 | cons y f ih =>
   rw [List.any_cons,ih]
   have k:eqV (V.str (ofL y)) (V.str (ofL x)) = decide (y = x):=by
     show decide (ofL y = ofL x) = _
     by_cases h:y = x
     · rw [decide_eq_true h,decide_eq_true (by rw [h])]
     · rw [decide_eq_false h,decide_eq_false (fun z=>h (abz z))]
   show (eqV (V.str (ofL y)) (V.str (ofL x)) || decide (x ∈ f)) = _
   rw [k]
   by_cases h:y = x
   · subst h; simp
   · have h':¬ x = y:=fun e=>h e.symm
     simp [h,h']
theorem nine:Str.ofString "abcdefghi" = ofL ((List.range 9).map (97 + ·)):=by decide +kernel
theorem sign9:T8 (Str.ofString "abcdefghi") = (List.range 9).map fun i=>D.str (ofL [97 + i]):=by
 rw [nine]
 rfl
theorem cover:∀ (n:Nat) (L:List Nat),(∀ i,i < n→i ∈ L)→n ≤ L.length
 | 0,_,_=>Nat.zero_le _
 | n + 1,L,h=>by
   have hm:=h n (Nat.lt_succ_self n)
   have:=cover n (L.erase n) (fun i hi=>(List.mem_erase_of_ne (by omega)).mpr (h i (by omega)))
   rw [List.length_erase_of_mem hm] at this
   have:0 < L.length:=List.length_pos_of_mem hm
   omega
theorem aiM (ns:List (List Nat)) (h:ns.length ≤ 8):∃ i,i < 9∧[97 + i] ∉ ns:=by
 apply Classical.byContradiction
 intro hn
 have:9 ≤ (ns.map fun l=>l.headD 0 - 97).length:=cover 9 _ fun i hi=>by
   have hm:[97 + i] ∈ ns:=Classical.byContradiction fun z=>hn ⟨i,hi,z⟩
   exact List.mem_map.mpr ⟨_,hm,by simp⟩
 rw [List.length_map] at this
 omega
def pk (ns:List (List Nat)) (i:Nat):Option D:=if (!decide ([97 + i] ∈ ns)) = true then some (.str (ofL [97 + i])) else none
theorem sign_ok {le:DSt→Out D} (hle:le = gv 0) (ns:List (List Nat)) (hl:ns.length ≤ 8):∃ c:Nat,97 ≤ c∧c < 123∧[c] ∉ ns∧o2 ixD (j4 (cW [none,some 0] (strO (kc (.str "abcdefghi"))) (gN 0) (o2b GJ (gb 0) (gb 1)) le)) (kc (.int 0)) [some (.sh (.lst (aC ns)))] = .ok (.str (ofL [c])):=by
 subst hle
 have cm:=ahS (cap:=[none,some 0]) (fi:=strO (kc (.str "abcdefghi"))) (t:=o2b GJ (gb 0) (gb 1)) (fe:=gv 0) (δ:=[some (.sh (.lst (aC ns)))]) (fun i:Nat=>D.str (ofL [97 + i])) (pk ns) (List.range 9) (by show Out.ok (T8 (Str.ofString "abcdefghi")) = _; rw [sign9]) (by decide) (fun i _=>by
   unfold pk
   refine ⟨?_,fun y hy=>?_⟩
   · show o2b GJ (gb 0) (gb 1) [some (.sh (.str (ofL [97 + i]))),some (.sh (.lst (aC ns)))] = _
     rw [oR rfl rfl (not_in [97 + i] ns)]
     cases (!decide ([97 + i] ∈ ns)) <;> rfl
   · split at hy
     · cases hy; rfl
     · cases hy)
 have ne:(List.range 9).filterMap (pk ns) ≠ []:=fun z=>by
   obtain ⟨i,hi,hn⟩:=aiM ns hl
   have:D.str (ofL [97 + i]) ∈ (List.range 9).filterMap (pk ns):=List.mem_filterMap.mpr ⟨i,List.mem_range.mpr hi,by unfold pk; rw [decide_eq_false hn]; rfl⟩
   rw [z] at this
   cases this
 cases hf:(List.range 9).filterMap (pk ns) with
 | nil=>exact absurd hf ne
 | cons d r =>
   have hd:d ∈ (List.range 9).filterMap (pk ns):=by rw [hf]; exact List.mem_cons_self
   obtain ⟨i,hi,e⟩:=List.mem_filterMap.mp hd
   have hi:=List.mem_range.mp hi
   unfold pk at e
   split at e
   · rename_i z
     have hn:[97 + i] ∉ ns:=by simpa using z
     cases e
     rw [hf] at cm
     exact ⟨97 + i,by omega,by omega,hn,ix_ok (n:=0) (yS cm) rfl rfl⟩
   · cases e
theorem T9 {fa fb:DSt→Out D} {δ:DSt} {ns:List (List Nat)} {a:Nat} (h1:fa δ = .ok (.lst (aC ns))) (h2:fb δ = .ok (.int (a:Nat))):oSl fa (soI fb) noI δ = .ok (.lst (aC (ns.drop a))):=by
 unfold oSl noI soI
 rw [h1,h2]
 show Out.opt (some (D.lst (FZ (ns.map fun l=>D.str (ofL l)) (some (a:Int)) none))) = _
 rw [cut_drop]
 rfl
theorem ahy {fa fb:DSt→Out D} {δ:DSt} {ns:List (List Nat)} {a:Nat} (h1:fa δ = .ok (.lst (aC ns))) (h2:fb δ = .ok (.int (a:Nat))):oSl fa noI (soI fb) δ = .ok (.lst (aC (ns.take a))):=by
 unfold oSl noI soI
 rw [h1,h2]
 show Out.opt (some (D.lst (FZ (ns.map fun l=>D.str (ofL l)) none (some (a:Int))))) = _
 rw [cut_take]
 rfl
theorem slN_m1 {fa fb:DSt→Out D} {δ:DSt} {ns:List (List Nat)} (hn:1 ≤ ns.length) (h1:fa δ = .ok (.lst (aC ns))) (h2:fb δ = .ok (.int (-1))):oSl fa noI (soI fb) δ = .ok (.lst (aC (ns.take (ns.length - 1)))):=by
 unfold oSl noI soI
 rw [h1,h2]
 show Out.opt (some (D.lst (FZ (ns.map fun l=>D.str (ofL l)) none (some (-1))))) = _
 unfold FZ
 rw [HT.Tu,List.length_map]
 have:HT.sIx ns.length ns.length (some (-1)) = ns.length - 1:=by
   show (if (-1:Int) < 0 then ((-1:Int) + (ns.length:Int)).toNat else min (-1:Int).toNat ns.length) = _
   rw [if_pos (by decide)]
   omega
 rw [this,Nat.sub_zero,List.drop_zero,← List.map_take]
 rfl
theorem Yj {ns:List (List Nat)} {c:Nat} (h:ns.length ≤ 7) (ok:∀ l ∈ ns,NameL l) (nd:ns.Nodup) (hc:97 ≤ c∧c < 123) (hn:[c] ∉ ns):Names (ns ++ [[c]]):=by
 refine ⟨fun l hl=>?_,by rw [List.length_append]; simp,by rw [List.length_append]; simp; omega,?_⟩
 · rcases List.mem_append.mp hl with z | z
   · exact ok l z
   · rw [List.mem_singleton.mp z]
     exact ⟨by simp,by simp,fun x hx=>by rw [List.mem_singleton.mp hx]; exact hc⟩
 · exact List.nodup_append.mpr ⟨nd,by simp,fun a ha b hb z=>by rw [z,List.mem_singleton.mp hb] at ha; exact hn ha⟩
end K6
namespace K6
open PySem L2 MX DL
theorem aft (ns:List (List Nat)) (N:Names ns):∃ c:Nat,97 ≤ c∧c < 123∧[c] ∉ ns∧bC [.lst (aC ns)] = .ok (.str (ofL [c])):=by
 obtain ⟨c,h1,h2,h3,e⟩:=sign_ok (le:=wH) rfl ns N.hi
 refine ⟨c,h1,h2,h3,?_⟩
 show ((tG [some (.sh (.lst (aC ns)))]).bind lZ).bD = _
 unfold tG
 exact zb e
theorem Names.perm {a b:List (List Nat)} (p:a.Perm b) (N:Names a):Names b:=⟨fun l hl=>N.ok l (p.mem_iff.mpr hl),by rw [← p.length_eq]; exact N.lo,by rw [← p.length_eq]; exact N.hi,p.nodup_iff.mp N.nd⟩
def DQ (os:List (List (List Nat))):List D:=os.map fun n=>D.lst (aC n)
def Oth (ns:List (List Nat)) (os:List (List (List Nat))):Prop:=os.length ≤ 10∧∀ n ∈ os,Names n∧n ≠ ns
theorem Oth.add {ns n:List (List Nat)} {os:List (List (List Nat))} (h:∀ n ∈ os,Names n∧n ≠ ns) (N:Names n) (e:n ≠ ns):∀ m ∈ os ++ [n],Names m∧m ≠ ns:=fun m hm=>by
 rcases List.mem_append.mp hm with z | z
 · exact h m z
 · rw [List.mem_singleton.mp z]
   exact ⟨N,e⟩
def stW (ns:List (List Nat)) (c:Int) (x2 x3 x4:Option Sl):DSt:=[some (.sh (.lst (aC ns))),some (.sh (.int c)),x2,x3,x4]
theorem app_W {ns n:List (List Nat)} {c:Int} {x2 x3:Option Sl} {os:List (List (List Nat))} {f:DSt→Out D} (hl:os.length ≤ 10) (h:f (stW ns c x2 x3 (some (.ol (DQ os)))) = .ok (.lst (aC n))):ud 4 f (stW ns c x2 x3 (some (.ol (DQ os)))) = .ok (.nx (stW ns c x2 x3 (some (.ol (DQ (os ++ [n])))))):=by
 refine Zi (i:=4) (ds:=DQ os) rfl h (Nat.lt_of_le_of_lt (by unfold DQ; rw [List.length_map]; exact hl) (by decide)) ?_
 unfold DQ
 rw [List.map_append]
 rfl
theorem oO (a b:List (List Nat)):aC a ++ aC b = aC (a ++ b):=by unfold aC; rw [List.map_append]
theorem nlen (l:List (List Nat)):(aC l).length = l.length:=by simp [aC]
theorem aiq (ns:List (List Nat)) (N:Names ns) (c:Int):∃ os,gW [.lst (aC ns),.int c] = .ok (.lst (DQ os))∧os.length ≤ 10∧∀ n ∈ os,Names n∧n ≠ ns:=by
 have h1:=N.lo
 have h8:=N.hi
 obtain ⟨a,ea,ha⟩:=qY c (m:=ns.length) h1
 obtain ⟨k,k1,k2,k3,ek⟩:=aft ns N
 have an:∀ x2 x3 x4,cF (aj (oF 1 bC (aj (gv 0) aA)) aA) (stW ns c x2 x3 x4) = .ok (.lst (aC [[k]])):=fun x2 x3 x4=>l1_ok (nY (n:=1) (aP rfl rfl) rfl ek)
 have ln:∀ x2 x3 x4,o1 ji (gb 0) (stW ns c x2 x3 x4) = .ok (.int (ns.length:Nat)):=fun x2 x3 x4=>by rw [len_l (ds:=aC ns) rfl,nlen]
 have se:(ns.take a ++ ns.drop (a + 1)).Sublist ns:=by rw [← List.eraseIdx_eq_take_drop_succ]; exact List.eraseIdx_sublist _ _
 have sl:(ns.take a ++ ns.drop (a + 1)).length ≤ 7:=by rw [List.length_append,List.length_take,List.length_drop]; omega
 have N2:Names (ns.take a ++ ns.drop (a + 1) ++ [[k]]):=Yj sl (fun l hl=>N.ok l (se.subset hl)) (N.nd.sublist se) ⟨k1,k2⟩ (fun z=>k3 (se.subset z))
 have N1:Names (ns.take a ++ [[k]] ++ ns.drop (a + 1)):=N2.perm (by rw [List.append_assoc,List.append_assoc]; exact List.Perm.append_left _ List.perm_append_comm)
 have e1:ns.take a ++ [[k]] ++ ns.drop (a + 1) ≠ ns:=fun z=>k3 (by rw [← z]; simp)
 have e2:ns.take a ++ ns.drop (a + 1) ++ [[k]] ≠ ns:=fun z=>k3 (by rw [← z]; simp)
 show ∃ os,((vD (stW ns c none none none)).bind lZ).bD = _∧_
 unfold vD
 have p1:∀ x3 x4,o2 bZ (gv 2) (kc (.int 1)) (stW ns c (some (.sh (.int (a:Nat)))) x3 x4) = .ok (.int ((a + 1:Nat):Int)):=fun x3 x4=>Ym rfl rfl (by rw [ur]; rfl)
 have c3:o2 bZ (o2 bZ (oSl (gv 0) noI (soI (gv 2))) (cF (aj (oF 1 bC (aj (gv 0) aA)) aA))) (oSl (gv 0) (soI (o2 bZ (gv 2) (kc (.int 1)))) noI) (stW ns c (some (.sh (.int (a:Nat)))) none none) = .ok (.lst (aC (ns.take a ++ [[k]] ++ ns.drop (a + 1)))):=by
   rw [add_l (add_l (ahy (a:=a) rfl rfl) (an _ _ _) (by rw [nlen,nlen,List.length_take]; simp only [List.length_cons,List.length_nil]; omega)) (T9 (a:=a + 1) rfl (p1 _ _)) (by rw [List.length_append,nlen,nlen,nlen,List.length_take,List.length_drop]; simp only [List.length_cons,List.length_nil]; omega),oO,oO]
 have c4:∀ x3,o2 bZ (o2 bZ (oSl (gv 0) noI (soI (gv 2))) (oSl (gv 0) (soI (o2 bZ (gv 2) (kc (.int 1)))) noI)) (cF (aj (oF 1 bC (aj (gv 0) aA)) aA)) (stW ns c (some (.sh (.int (a:Nat)))) x3 none) = .ok (.lst (aC (ns.take a ++ ns.drop (a + 1) ++ [[k]]))):=fun x3=>by
   rw [add_l (add_l (ahy (a:=a) rfl rfl) (T9 (a:=a + 1) rfl (p1 _ _)) (by rw [nlen,nlen,List.length_take,List.length_drop]; omega)) (an _ _ _) (by rw [List.length_append,nlen,nlen,nlen,List.length_take,List.length_drop]; simp only [List.length_cons,List.length_nil]; omega),oO,oO]
 generalize hA:ns.take a ++ [[k]] ++ ns.drop (a + 1) = A at N1 e1 c3
 generalize hB:ns.take a ++ ns.drop (a + 1) ++ [[k]] = B at N2 e2 c4
 have s1:dJ 2 (o2 fX (gv 1) (o1 ji (gb 0))) (stW ns c none none none) = .ok (.nx (stW ns c (some (.sh (.int (a:Nat)))) none none)):=lg (d:=.int (a:Nat)) (by rw [← ea]; exact abu rfl (ln _ _ _) (by omega)) rfl
 have s2:dJ 3 (o2 bZ (o2 bZ (oSl (gv 0) noI (soI (gv 2))) (cF (aj (oF 1 bC (aj (gv 0) aA)) aA))) (oSl (gv 0) (soI (o2 bZ (gv 2) (kc (.int 1)))) noI)) (stW ns c (some (.sh (.int (a:Nat)))) none none) = .ok (.nx (stW ns c (some (.sh (.int (a:Nat)))) (some (.sh (.lst (aC A)))) none)):=lg c3 rfl
 have s3:lF 4 (zB (aj (gv 3) (aj (o2 bZ (o2 bZ (oSl (gv 0) noI (soI (gv 2))) (oSl (gv 0) (soI (o2 bZ (gv 2) (kc (.int 1)))) noI)) (cF (aj (oF 1 bC (aj (gv 0) aA)) aA))) aA))) (stW ns c (some (.sh (.int (a:Nat)))) (some (.sh (.lst (aC A)))) none) = .ok (.nx (stW ns c (some (.sh (.int (a:Nat)))) (some (.sh (.lst (aC A)))) (some (.ol (DQ [A,B]))))):=acX (d:=DQ [A,B]) (af9 (aP rfl (aP (c4 _) rfl)) (by simp [DQ])) rfl
 have O2:∀ n ∈ [A,B],Names n∧n ≠ ns:=fun n hn=>by
   rcases List.mem_cons.mp hn with z | z
   · rw [z]; exact ⟨N1,e1⟩
   · rw [List.mem_singleton.mp z]; exact ⟨N2,e2⟩
 have s4:∃ os,sIf (o2b ltD (o1 ji (gb 0)) (kc (.int 8))) (ud 4 (o2 bZ (gv 0) (cF (aj (oF 1 bC (aj (gv 0) aA)) aA)))) iz (stW ns c (some (.sh (.int (a:Nat)))) (some (.sh (.lst (aC A)))) (some (.ol (DQ [A,B])))) = .ok (.nx (stW ns c (some (.sh (.int (a:Nat)))) (some (.sh (.lst (aC A)))) (some (.ol (DQ os)))))∧os.length ≤ 3∧∀ n ∈ os,Names n∧n ≠ ns:=by
   have t:=lt_ok (fa:=o1 ji (gb 0)) (fb:=kc (.int 8)) (ln (some (.sh (.int (a:Nat)))) (some (.sh (.lst (aC A)))) (some (.ol (DQ [A,B])))) rfl
   by_cases q:ns.length < 8
   · rw [decide_eq_true (by omega)] at t
     refine ⟨[A,B] ++ [ns ++ [[k]]],?_,by simp,Oth.add O2 (Yj (by omega) N.ok N.nd ⟨k1,k2⟩ k3) (fun z=>by have:=congrArg List.length z; simp at this)⟩
     rw [Yp t]
     refine app_W (by simp) ?_
     rw [add_l (a:=aC ns) rfl (an _ _ _) (by rw [nlen,nlen]; simp only [List.length_cons,List.length_nil]; omega),oO]
   · rw [decide_eq_false (by omega)] at t
     refine ⟨[A,B],?_,by simp,O2⟩
     rw [Tt t]
     rfl
 obtain ⟨os,s4,ol,O3⟩:=s4
 have s5:∃ os',sIf (o2b gtD (o1 ji (gb 0)) (kc (.int 1))) (bF (ud 4 (o2 bZ (oSl (gv 0) (soI (kc (.int 1))) noI) (oSl (gv 0) noI (soI (kc (.int 1)))))) (ud 4 (oSl (gv 0) noI (soI (o1 yW (kc (.int 1))))))) iz (stW ns c (some (.sh (.int (a:Nat)))) (some (.sh (.lst (aC A)))) (some (.ol (DQ os)))) = .ok (.nx (stW ns c (some (.sh (.int (a:Nat)))) (some (.sh (.lst (aC A)))) (some (.ol (DQ os')))))∧os'.length ≤ 10∧∀ n ∈ os',Names n∧n ≠ ns:=by
   have t:=gt_ok (fa:=o1 ji (gb 0)) (fb:=kc (.int 1)) (ln (some (.sh (.int (a:Nat)))) (some (.sh (.lst (aC A)))) (some (.ol (DQ os)))) rfl
   by_cases q:1 < ns.length
   · rw [decide_eq_true (by omega)] at t
     have pm:(ns.drop 1 ++ ns.take 1).Perm ns:=(List.perm_append_comm).trans (by rw [List.take_append_drop])
     have n4:ns.drop 1 ++ ns.take 1 ≠ ns:=fun z=>by
       match ns,q,N.nd,z with
       | x :: y :: r,_,nd,z =>
         have:(y :: r) ++ [x] = x :: y :: r:=z
         have e:=(List.cons.inj this).1
         rw [e] at nd
         simp at nd
     have N5:Names (ns.take (ns.length - 1)):=⟨fun l hl=>N.ok l (List.mem_of_mem_take hl),by rw [List.length_take]; omega,by rw [List.length_take]; omega,N.nd.sublist (List.take_sublist _ _)⟩
     refine ⟨os ++ [ns.drop 1 ++ ns.take 1] ++ [ns.take (ns.length - 1)],?_,by simp; omega,Oth.add (Oth.add O3 (N.perm pm.symm) n4) N5 (fun z=>by have:=congrArg List.length z; rw [List.length_take] at this; omega)⟩
     rw [Yp t]
     rw [fW (app_W (n:=ns.drop 1 ++ ns.take 1) (by omega) (by rw [add_l (T9 (a:=1) rfl rfl) (ahy (a:=1) rfl rfl) (by rw [nlen,nlen,List.length_drop,List.length_take]; omega),oO]))]
     exact app_W (by simp; omega) (slN_m1 h1 rfl rfl)
   · rw [decide_eq_false (by omega)] at t
     refine ⟨os,?_,by omega,O3⟩
     rw [Tt t]
     rfl
 obtain ⟨os',s5,ol',O5⟩:=s5
 refine ⟨os',?_,ol',O5⟩
 rw [fW s1,fW s2,fW s3,fW s4,fW s5]
 rfl
def wD (ns:List (List Nat)):List (List Dr):=[ns.map fun _=>Dr.may 0]
theorem X3 (ns:List (List Nat)):Rows 1 ns.length false (wD ns):=by
 refine ⟨rfl,fun r hr=>?_⟩
 rw [List.mem_singleton.mp hr]
 refine ⟨by rw [List.length_map],fun x hx=>?_⟩
 obtain ⟨l,_,rfl⟩:=List.mem_map.mp hx
 exact Nat.zero_lt_one
theorem ah8 {ns:List (List Nat)} (N:Names ns) {le:DSt→Out D} (hle:∀ δ,le δ = cU (aj (kc (.str "may")) (aj (kc (.int 0)) aA)) δ) {δ:DSt} {f:DSt→Out D} (h:f δ = .ok (.lst (aC ns))):cF (aj (j4 (cW [none] (fV f) (gN 0) (fun _=>.ok true) le)) aA) δ = .ok (cz (wD ns)):=by
 have h8:=N.hi
 have e:=kj (cap:=[none]) (fi:=fV f) (fe:=le) (δ:=δ) (fun l:List Nat=>D.str (ofL l)) (fun _=>(Dr.may 0).d) ns (by unfold fV; rw [h]; rfl) (by omega) (fun l _=>by rw [hle]; exact adk (aP rfl (aP rfl rfl)) (by simp))
 rw [l1_ok (yS e)]
 unfold cz wD
 rw [List.map_cons,List.map_nil,List.map_map]
 rfl
theorem F_free {ns:List (List Nat)} (N:Names ns):bU [.lst (aC ns)] = .ok (plan aV ns (wD ns)):=by
 show (p6 [some (.sh (.lst (aC ns)))]).bind lZ = _
 unfold p6
 have s1:qH (oF 1 bI (aj (gv 0) aA)) [some (.sh (.lst (aC ns)))] = .ok (.nx [some (.sh (.lst (aC ns)))]):=by
   unfold qH
   rw [nY (n:=1) (fr:=aj (gv 0) aA) (ds:=[.lst (aC ns)]) (aP rfl rfl) rfl (F_acts ns N)]
   rfl
 have ei:qi [.lst (aC ns),cz (wD ns)] = .ok [("actions",.tup (aC ns)),("rooms",M6 (wD ns))]:=afw false 1 ns (wD ns) N (X3 ns) (by decide) (by decide)
 have s2:bR (oMk aV 2 qi (aj (gv 0) (aj (cF (aj (j4 (cW [none] (fV (gv 0)) (gN 0) (fun _=>.ok true) vV)) aA)) aA))) [some (.sh (.lst (aC ns)))] = .ok (.rt (plan aV ns (wD ns))):=aig (mk_ok (c:=aV) (n:=2) (ds:=[.lst (aC ns),cz (wD ns)]) (aP rfl (aP (ah8 (le:=vV) N (fun _=>rfl) rfl) rfl)) rfl ei)
 rw [fW s1,s2]
 rfl
theorem seq_ex {A B:DSt→Out Fl} {δ:DSt} {x:D} (h:A δ = .ex x):bF A B δ = .ex x:=by
 unfold bF
 rw [h]
 rfl
theorem afv {d:D} (h:bx [d] = .ok (.bl false)):bU [d] = .ex (bad (-1) (-1)):=by
 show (p6 [some (.sh d)]).bind lZ = _
 unfold p6
 have s1:qH (oF 1 bI (aj (gv 0) aA)) [some (.sh d)] = .ex (bad (-1) (-1)):=by
   unfold qH
   rw [oF_ex (n:=1) (fr:=aj (gv 0) aA) (ds:=[d]) (aP rfl rfl) rfl (acts_bad d h)]
   rfl
 rw [seq_ex s1]
 rfl
theorem Xg {p q:D} (h:dN [p,q] = .ex (.exc xH [])):dM [p,q] = .ok (.bl true):=by
 show ((vH [some (.sh p),some (.sh q),none,none]).bind lZ).bD = _
 unfold vH
 refine cI (δ':=[some (.sh p),some (.sh q),some (.sh .non),none]) rfl ?_
 refine cI (δ':=[none,none,some (.sh (.exc xH [])),none]) ?_ ?_
 · unfold sTry qH
   rw [oF_ex (n:=2) (fr:=aj (gv 0) (aj (gv 1) aA)) (ds:=[p,q]) (aP rfl (aP rfl rfl)) rfl h]
   rfl
 · exact zb rfl
def naL (ns:List (List Nat)):List D:=[.non,.int 0,.lst [],.str "ab",.tup (aC ns),.dK [(.inr "a",.int 0)],.lst [.str "a",.str "a"],.lst [.str "A"],.lst [.non],.lst [.str "abcdefghi"],.bl true,.lst [.str "a",.str ""]]
theorem na_bad (ns:List (List Nat)):∀ d ∈ naL ns,bx [d] = .ok (.bl false):=by
 intro d hd
 unfold naL at hd
 simp only [List.mem_cons,List.not_mem_nil,or_false] at hd
 rcases hd with rfl | rfl | rfl | rfl | rfl | rfl | rfl | rfl | rfl | rfl | rfl | rfl
 · exact wj _ rfl
 · exact wj _ rfl
 · exact acts_no2 _ (.inl rfl)
 · exact wj _ rfl
 · exact wj _ rfl
 · exact wj _ rfl
 · kernel_rfl
 · kernel_rfl
 · kernel_rfl
 · kernel_rfl
 · exact wj _ rfl
 · kernel_rfl
theorem lay2 (a b:Int):fU 50 (.tup [.int a,.int b]) = true:=by simp [fU,tV]
theorem YF (x:Int) {ns:List (List Nat)} (N:Names ns):fu [.int x,.lst (aC ns)] = .ok (.bl true):=by
 have h8:=N.hi
 show ((nj [some (.sh (.int x)),some (.sh (.lst (aC ns))),none,none,none]).bind lZ).bD = _
 unfold nj
 refine cI (δ':=[some (.sh (.int x)),some (.sh (.lst (aC ns))),some (.sh (.lst (naL ns))),none,none]) (lg (d:=.lst (naL ns)) (lst_ok (ds:=naL ns) ?_ (Js (by simp [naL]))) rfl) ?_
 · rfl
 refine cI (δ':=[some (.sh (.int x)),some (.sh (.lst (aC ns))),some (.sh (.lst (naL ns))),some (.sh .non),none]) rfl ?_
 obtain ⟨d,hd,ed⟩:=get_at (L:=naL ns) (f:=gv 0) (δ:=[some (.sh (.int x)),some (.sh (.lst (aC ns))),some (.sh (.lst (naL ns))),some (.sh .non),none]) (i:=2) (m:=12) (y:=x) rfl rfl rfl (by decide)
 refine cI (δ':=[none,none,none,some (.sh (.tup [.int (-1),.int (-1)])),none]) ?_ ?_
 · unfold afc qH
   rw [oF_ex (n:=1) (fr:=aj (o2 ixD (gvo 2) (o2 fX (gv 0) (kc (.int 12)))) aA) (ds:=[d]) (aP ed rfl) rfl (afv (na_bad ns d hd))]
   rfl
 · refine zb ?_
   unfold bV
   rw [oR (x:=.tup [.int (-1),.int (-1)]) (y:=.tup [.int (-1),.int (-1)]) (fa:=gb 3) rfl (adk (ds:=[.int (-1),.int (-1)]) rfl (by simp)) (aer (lay2 _ _))]
   rfl
end K6
namespace K6
open PySem L2 MX DL
theorem jX (x:Int) (i:Int) (c:Nat) (hx:x % 16 = i) (h:ixD (.str "aAzZ09 _-.\n~@\x5b`{") (.int i) = some (.str (ofL [c]))) {B:DSt→Out Fl} (k:((B [some (.sh (.int x)),some (.sh (.str (ofL [c]))),none,none,none,none]).bind lZ).bD = .ok (.bl true)):((bF (dJ 1 (o2 ixD (kc (.str "aAzZ09 _-.\n~@\x5b`{")) (o2 fX (gv 0) (kc (.int 16))))) B [some (.sh (.int x)),none,none,none,none,none]).bind lZ).bD = .ok (.bl true) :=
 cI (δ':=[some (.sh (.int x)),some (.sh (.str (ofL [c]))),none,none,none,none]) (lg (d:=.str (ofL [c])) (Ym rfl (abu rfl rfl (by decide)) (by rw [hx]; exact h)) rfl) k
theorem YD (x:Int):fj [.int x] = .ok (.bl true):=by
 have h0:0 ≤ x % 16:=Int.emod_nonneg _ (by decide)
 have h1:x % 16 < 16:=Int.emod_lt_of_pos _ (by decide)
 show ((m9 [some (.sh (.int x)),none,none,none,none,none]).bind lZ).bD = _
 unfold m9
 have hc:x % 16 = 0 ∨ x % 16 = 1 ∨ x % 16 = 2 ∨ x % 16 = 3 ∨ x % 16 = 4 ∨ x % 16 = 5 ∨ x % 16 = 6 ∨ x % 16 = 7 ∨ x % 16 = 8 ∨ x % 16 = 9 ∨ x % 16 = 10 ∨ x % 16 = 11 ∨ x % 16 = 12 ∨ x % 16 = 13 ∨ x % 16 = 14 ∨ x % 16 = 15:=by omega
 rcases hc with hx | hx | hx | hx | hx | hx | hx | hx | hx | hx | hx | hx | hx | hx | hx | hx
 · exact jX x 0 97 hx (by kernel_rfl) (by kernel_rfl)
 · exact jX x 1 65 hx (by kernel_rfl) (by kernel_rfl)
 · exact jX x 2 122 hx (by kernel_rfl) (by kernel_rfl)
 · exact jX x 3 90 hx (by kernel_rfl) (by kernel_rfl)
 · exact jX x 4 48 hx (by kernel_rfl) (by kernel_rfl)
 · exact jX x 5 57 hx (by kernel_rfl) (by kernel_rfl)
 · exact jX x 6 32 hx (by kernel_rfl) (by kernel_rfl)
 · exact jX x 7 95 hx (by kernel_rfl) (by kernel_rfl)
 · exact jX x 8 45 hx (by kernel_rfl) (by kernel_rfl)
 · exact jX x 9 46 hx (by kernel_rfl) (by kernel_rfl)
 · exact jX x 10 10 hx (by kernel_rfl) (by kernel_rfl)
 · exact jX x 11 126 hx (by kernel_rfl) (by kernel_rfl)
 · exact jX x 12 64 hx (by kernel_rfl) (by kernel_rfl)
 · exact jX x 13 91 hx (by kernel_rfl) (by kernel_rfl)
 · exact jX x 14 96 hx (by kernel_rfl) (by kernel_rfl)
 · exact jX x 15 123 hx (by kernel_rfl) (by kernel_rfl)
end K6
namespace K6
open PySem L2 MX DL
def stL (sc:List Int) (x1 x2 x3 x4 x5 x6 x7:Option Sl):DSt:=[some (.sh (.rol (sc.map .int))),x1,x2,x3,x4,x5,x6,x7]
theorem law_loop {sc:List Int} {c:Int} {nms n:List (List Nat)} {rows:List (List Dr)} {r:Int} {x3 x6:Option Sl} (N:Names nms) (Nn:Names n) (hne:n ≠ nms):Jr (stL sc (some (.sh (.int c))) (some (.sh (.lst (aC nms)))) x3 (some (.sh (plan aV nms rows))) (some (.sh (.int r))) x6 (some (.sh (.lst (aC n))))) = .ok (.nx (stL sc (some (.sh (.int c))) (some (.sh (.lst (aC nms)))) x3 (some (.sh (plan aV nms rows))) (some (.sh (.int r))) x6 (some (.sh (.lst (aC n)))))):=by
 unfold Jr
 generalize hδ:stL sc (some (.sh (.int c))) (some (.sh (.lst (aC nms)))) x3 (some (.sh (plan aV nms rows))) (some (.sh (.int r))) x6 (some (.sh (.lst (aC n)))) = δ
 have g4:gv 4 δ = .ok (plan aV nms rows):=by rw [← hδ]; rfl
 have g7:gv 7 δ = .ok (.lst (aC n)):=by rw [← hδ]; rfl
 have f7:oF 1 bU (aj (gv 7) aA) δ = .ok (plan aV n (wD n)):=nY (n:=1) (aP g7 rfl) rfl (F_free Nn)
 have u1:qu (tst (oF 2 dM (aj (gv 4) (aj (oF 1 bU (aj (gv 7) aA)) aA)))) δ = .ok false:=by
   unfold qu tst
   rw [nY (n:=2) (aP g4 (aP f7 rfl)) rfl (Xg (ady N Nn fun z=>hne z.symm))]
   rfl
 have u2:qu (tst (oF 2 dM (aj (oF 1 bU (aj (gv 7) aA)) (aj (gv 4) aA)))) δ = .ok false:=by
   unfold qu tst
   rw [nY (n:=2) (aP f7 (aP g4 rfl)) rfl (Xg (ady Nn N hne))]
   rfl
 rw [Tt (S6 (x:=false) (y:=false) u1 fun _=>u2)]
 rfl
abbrev tA (ns:List Int) (cell:Int) (nms:List (List Nat)) (x3 x4 x5 x6 x7:Option Sl):DSt:=stL ns (some (.sh (.int cell))) (some (.sh (.lst (aC nms)))) x3 x4 x5 x6 x7
abbrev tB (ns:List Int) (cell:Int) (nms:List (List Nat)) (rows:List (List Dr)) (r:Nat) (x6 x7:Option Sl):DSt:=tA ns cell nms (some (.sh (cz rows))) (some (.sh (plan aV nms rows))) (some (.sh (.int (r:Nat)))) x6 x7
abbrev tC (ns:List Int) (cell:Int) (nms:List (List Nat)) (rows:List (List Dr)) (r:Nat) (x7:Option Sl):DSt:=tB ns cell nms rows r (some (.sh (plan aV nms (wD nms)))) x7
theorem afx (ns:List Int) (hl:ns.length ≤ 63):F_law [.rol (ns.map .int)] = .ok (.bl true):=by
 have c0:=F_cell ns 0
 generalize ns.getD 0 0 = cell at c0
 simp only [Int.cast_ofNat_Int] at c0
 have m1:=iB cell 1 (by decide) (by decide)
 have m2:=iB cell 2 (by decide) (by decide)
 have m3:=iB cell 3 (by decide) (by decide)
 have m4:=iB cell 4 (by decide) (by decide)
 have m5:=iB cell 5 (by decide) (by decide)
 have m6:=iB cell 6 (by decide) (by decide)
 obtain ⟨k,ek,hk⟩:=qY (dq cell 1) (m:=8) (by decide)
 obtain ⟨k2,ek2,hk2⟩:=qY (dq cell 2) (m:=8) (by decide)
 simp only [Int.cast_ofNat_Int] at ek ek2
 obtain ⟨nms,en,N,hlen⟩:=F_names cell (1 + k) (by omega) (by omega)
 have ck:(1:Int) + (k:Int) = ((1 + k:Nat):Int):=by omega
 have ck2:(1:Int) + (k2:Int) = ((1 + k2:Nat):Int):=by omega
 have e5:(aC nms).length = nms.length:=by simp [aC]
 obtain ⟨cs,ec,_⟩:=cut_ints ns (some 1) (some 40)
 obtain ⟨rows,er,R⟩:=F_rooms cell (1 + k2) nms.length cs (by omega) (by omega) N.hi N.lo
 obtain ⟨r,e3,hr⟩:=qY (dq cell 3) (m:=1 + k2) (by omega)
 have P:Pl aV (1 + k2) false nms rows:=⟨.inr rfl,N,R,by omega,by omega⟩
 have ei:qi [.lst (aC nms),cz rows] = .ok [("actions",.tup (aC nms)),("rooms",M6 rows)]:=afw false (1 + k2) nms rows N R (by omega) (by omega)
 have PT:Pl aV (1 + k2) false nms (turn r (1 + k2) rows):=⟨.inr rfl,N,Lq R hr,by omega,by omega⟩
 have P0:Pl aV (1 + k2) false nms (turn 0 (1 + k2) rows):=⟨.inr rfl,N,Lq R (by omega),by omega,by omega⟩
 have PF:Pl aV 1 false nms (wD nms):=⟨.inr rfl,N,X3 nms,by omega,by omega⟩
 have b1:=adw P hr
 have b0:=adw (r:=0) P (by omega)
 have tt:=F_turned R hr (by omega) N.hi
 have z0:=ajt R (by omega)
 obtain ⟨os,eo,lo,ho⟩:=aiq nms N (dq cell 4)
 have ft:=F_free N
 show ((g_law (stL ns none none none none none none none)).bind lZ).bD = _
 unfold g_law
 have s1:dJ 1 (oF 2 d8 (aj (gv 0) (aj (kc (.int 0)) aA))) (stL ns none none none none none none none) = .ok (.nx (stL ns (some (.sh (.int cell))) none none none none none none)):=lg (d:=.int cell) (nY (n:=2) (aP rfl (aP rfl rfl)) rfl c0) rfl
 have mx:∀ (i:Int) (hm:aD [.int cell,.int i] = .ok (.int (dq cell i))) (x2 x3 x4 x5 x6 x7:Option Sl),oF 2 aD (aj (gv 1) (aj (kc (.int i)) aA)) (stL ns (some (.sh (.int cell))) x2 x3 x4 x5 x6 x7) = .ok (.int (dq cell i)):=fun i hm _ _ _ _ _ _=>nY (n:=2) (aP rfl (aP rfl rfl)) rfl hm
 have sz:∀ (i:Int) (j:Nat) (hm:aD [.int cell,.int i] = .ok (.int (dq cell i))) (hj:dq cell i % 8 = (j:Int)) (x2 x3 x4 x5 x6 x7:Option Sl),o2 bZ (kc (.int 1)) (o2 fX (oF 2 aD (aj (gv 1) (aj (kc (.int i)) aA))) (kc (.int 8))) (stL ns (some (.sh (.int cell))) x2 x3 x4 x5 x6 x7) = .ok (.int (1 + j:Nat)):=fun i j hm hj _ _ _ _ _ _=>Ym (x:=.int 1) (y:=.int (dq cell i % 8)) rfl (abu (mx i hm _ _ _ _ _ _) rfl (by decide)) (by rw [hj,ur]; congr 2)
 have s2:dJ 2 (oF 2 jm (aj (gv 1) (aj (o2 bZ (kc (.int 1)) (o2 fX (oF 2 aD (aj (gv 1) (aj (kc (.int 1)) aA))) (kc (.int 8)))) aA))) (stL ns (some (.sh (.int cell))) none none none none none none) = .ok (.nx (tA ns cell nms none none none none none)):=lg (d:=.lst (aC nms)) (nY (n:=2) (aP rfl (aP (sz 1 k m1 ek _ _ _ _ _ _) rfl)) rfl en) rfl
 have s3:dJ 3 (oF 4 jn (aj (gv 1) (aj (o2 bZ (kc (.int 1)) (o2 fX (oF 2 aD (aj (gv 1) (aj (kc (.int 2)) aA))) (kc (.int 8)))) (aj (o1 ji (gb 2)) (aj (oSl (gv 0) (soI (kc (.int 1))) (soI (kc (.int 40)))) aA))))) (tA ns cell nms none none none none none) = .ok (.nx (tA ns cell nms (some (.sh (cz rows))) none none none none)):=lg (d:=cz rows) (nY (n:=4) (ds:=[.int cell,.int (1 + k2:Nat),.int (nms.length:Nat),.lst (cs.map .int)]) (aP rfl (aP (sz 2 k2 m2 ek2 _ _ _ _ _ _) (aP (by rw [len_l (ds:=aC nms) rfl,e5]) (aP (sl_ok (x:=.rol (ns.map .int)) (l:=some 1) (h:=some 40) rfl rfl rfl (cut_rol ec)) rfl)))) rfl er) rfl
 have s4:dJ 4 (oMk aV 2 qi (aj (gv 2) (aj (gv 3) aA))) (tA ns cell nms (some (.sh (cz rows))) none none none none) = .ok (.nx (tA ns cell nms (some (.sh (cz rows))) (some (.sh (plan aV nms rows))) none none none)):=lg (d:=plan aV nms rows) (mk_ok (n:=2) (aP rfl (aP rfl rfl)) rfl ei) rfl
 have lr:o1 ji (gb 3) (tA ns cell nms (some (.sh (cz rows))) (some (.sh (plan aV nms rows))) none none none) = .ok (.int (1 + k2:Nat)):=by rw [len_l (ds:=rows.map fun r=>.lst (r.map Dr.d)) rfl,List.length_map,R.n]
 have s5:dJ 5 (o2 fX (oF 2 aD (aj (gv 1) (aj (kc (.int 3)) aA))) (o1 ji (gb 3))) (tA ns cell nms (some (.sh (cz rows))) (some (.sh (plan aV nms rows))) none none none) = .ok (.nx (tB ns cell nms rows r none none)):=lg (d:=.int (r:Nat)) (by rw [← e3]; exact abu (mx 3 m3 _ _ _ _ _ _) lr (by omega)) rfl
 have lrw:=Cv (R1 rows)
 have lnm:=Cv (KN nms N)
 have bg:∀ (x6 x7:Option Sl),oF 2 mF (aj (gv 4) (aj (gv 5) aA)) (tB ns cell nms rows r x6 x7) = .ok (plan aV nms (turn r (1 + k2) rows)):=fun _ _=>nY (n:=2) (aP rfl (aP rfl rfl)) rfl b1
 have s6:sIf (orT (o2b neD (oM "told" 1 (CV du) (oF 2 mF (aj (gv 4) (aj (gv 5) aA))) aA) (oF 2 gY (aj (gv 3) (aj (gv 5) aA)))) (orT (o2b neD (oM "told" 1 (CV du) (oF 2 mF (aj (gv 4) (aj (kc (.int 0)) aA))) aA) (gb 3)) (o2b neD (oM "told" 1 (CV du) (gv 4) aA) (gb 3)))) (bR (kc (.bl false))) iz (tB ns cell nms rows r none none) = .ok (.nx (tB ns cell nms rows r none none)):=by
   rw [Tt (S6 (x:=false) (y:=false) (oR (rW PT (bg _ _)) (nY (n:=2) (aP rfl (aP rfl rfl)) rfl tt) (Cv (R1 _))) fun _=>S6 (x:=false) (y:=false) (oR (x:=cz rows) (by rw [← z0]; exact rW P0 (nY (n:=2) (aP (by rw [z0]; rfl) (aP rfl rfl)) rfl (by rw [z0]; rw [z0] at b0; exact b0))) rfl lrw) fun _=>oR (rW P rfl) rfl lrw)]
   rfl
 have s7:dJ 6 (oF 1 bU (aj (gv 2) aA)) (tB ns cell nms rows r none none) = .ok (.nx (tC ns cell nms rows r none)):=lg (d:=plan aV nms (wD nms)) (nY (n:=1) (aP rfl rfl) rfl ft) rfl
 have s8:sIf (orT (o2b neD (oM "told" 1 (CV du) (gv 6) aA) (cF (aj (j4 (cW [none] (fV (gv 2)) (gN 0) (fun _=>.ok true) abn)) aA))) (o2b neD (oM "action_list" 1 (Pn bc) (gv 6) aA) (gb 2))) (bR (kc (.bl false))) iz (tC ns cell nms rows r none) = .ok (.nx (tC ns cell nms rows r none)):=by
   rw [Tt (S6 (x:=false) (y:=false) (oR (rW PF rfl) (ah8 (le:=abn) N (fun _=>rfl) rfl) (Cv (R1 _))) fun _=>oR (Qm rfl) rfl lnm)]
   rfl
 have s9:sIf (orT (o2b uc (oF 2 dN (aj (gv 4) (aj (gv 6) aA))) (kc .non)) (o2b neD (oM "action_list" 1 (Pn bc) (oF 2 mF (aj (gv 4) (aj (gv 5) aA))) aA) (gb 2))) (bR (kc (.bl false))) iz (tC ns cell nms rows r none) = .ok (.nx (tC ns cell nms rows r none)):=by
   rw [Tt (S6 (x:=false) (y:=false) (oR (x:=.non) (y:=.non) (nY (n:=2) (aP rfl (aP rfl rfl)) rfl (F_same N)) rfl rfl) fun _=>oR (Qm (bg _ _)) rfl lnm)]
   rfl
 obtain ⟨δ',e1,x7,rfl⟩:=PL (tg:=gN 7) (body:=Jr) (fun n:List (List Nat)=>D.lst (aC n)) (fun _ δ=>∃ x7,δ = tC ns cell nms rows r x7) os [] (tC ns cell nms rows r none) (by
   rintro n done δ ⟨x7,rfl⟩ hn
   exact ⟨_,rfl,aby (law_loop N (ho n hn).1 (ho n hn).2) ⟨some (.sh (.lst (aC n))),rfl⟩⟩) ⟨none,rfl⟩
 have s10:qg (fV (oF 2 gW (aj (gv 2) (aj (oF 2 aD (aj (gv 1) (aj (kc (.int 4)) aA))) aA)))) (gN 7) Jr (tC ns cell nms rows r none) = .ok (.nx (tC ns cell nms rows r x7)):=by
   unfold qg fV
   rw [nY (n:=2) (fr:=aj (gv 2) (aj (oF 2 aD (aj (gv 1) (aj (kc (.int 4)) aA))) aA)) (ds:=[.lst (aC nms),.int (dq cell 4)]) (aP rfl (aP (mx 4 m4 _ _ _ _ _ _) rfl)) rfl eo]
   exact e1
 rw [fW s1,fW s2,fW s3,fW s4,fW s5,fW s6,fW s7,fW s8,fW s9,fW s10]
 refine zb ?_
 unfold HQ
 rw [nY (n:=1) (fr:=aj (oF 2 aD (aj (gv 1) (aj (kc (.int 5)) aA))) aA) (ds:=[.int (dq cell 5)]) (aP (mx 5 m5 _ _ _ _ _ _) rfl) rfl (YD _)]
 rw [nY (n:=2) (fr:=aj (oF 2 aD (aj (gv 1) (aj (kc (.int 6)) aA))) (aj (gv 2) aA)) (ds:=[.int (dq cell 6),.lst (aC nms)]) (aP (mx 6 m6 _ _ _ _ _ _) (aP rfl rfl)) rfl (YF _ N)]
 rfl
end K6
namespace K6
open PySem L2 MX DL
def afr (K:PySem.W.Frag):Sp:=fun vs H Q _=>∃ (a:Addr) (ns:List Int),vs = [.ref a]∧SqL K H a (ns.map V.int)∧ns.length ≤ 63∧∀ H',Q (.bl true) H'
theorem ae9 {K:PySem.W.Frag} {Γ:Nat→Option Addr} {G:Hp}:∀ ns:List Int,aB K Γ G (ns.map V.int) (ns.map D.int)
 | []=>.nil
 | n :: r=>.cons (.int n) (ae9 r)
theorem law_sp {P:Program} {w:World} {K:PySem.W.Frag} {mg:Str→Option Value} {base:Heap} {t:Ad} {f:Addr} {fd:FuncData} (F:bf P w K mg base CX0 11 f fd ["_law_script"] (spD K (Ga t) 1 F_law)):bf P w K mg base CX0 11 f fd ["_law_script"] (afr K):=F.imp fun vs H Q E ⟨a,ns,e,hS,hl,k⟩=>by
 subst e
 refine ⟨rfl,H,[.rol (ns.map .int)],bz.refl H,.cons (.rol hS (ae9 ns)) .nil,?_⟩
 rw [afx ns hl]
 intro v G' H' st r
 cases r
 exact k H'
set_option maxHeartbeats 8000000 in
theorem all_mk {l:PySem.W.OpenLaw} {w:World} {K:PySem.W.Frag} {h:Heap} {mg:Str→Option Value} {fa:Addr} (X:K.In h) (G:h.Ns mainGlobals mg) (hfa:mg "law" = some (.ref fa))
   {mq:Addr} {cd_Door:ClassData}
   {eN:Addr} {cd_Must:ClassData}
   {jO:Addr} {cd_May:ClassData}
   {eQ:Addr} {cd_Shut:ClassData}
   {eU:Addr} {cd_Torn:ClassData}
   {cL:Addr} {cd_Draft:ClassData}
   {eO:Addr} {cd_Plan:ClassData}
   {cB:Addr} {cH:Value} {dH:Option Addr} {cdH:ClassData} {sH:Array (Option Value)} {c0H:Value} {d0H:Option Addr} {esH:Array DictEntry} {n0H:Nat} {s0H:Array (Option Value)}
   {bN De:Addr} {ag1 aje:Str} {af4:List Value} {ahA:List Str} {aho:List Value} {afQ:Bool} {sE:Option Bool} {agl:Option Addr} {agK agL agM agN agO:Option Value} {af7:Value} {agg:Option Addr} {Ru:Array DictEntry} {ag2:Nat} {ahz:Array (Option Value)}
   {mV:Addr}
   {dw Hm:Addr} {ai6 q_Unlike:Str} {aiA:List Value} {ajk:List Str} {ajh:List Value} {aix:Bool} {wz:Option Bool} {aiE:Option Addr} {aiV aiW aiX aiY aiZ:Option Value} {aiC:Value} {aiD:Option Addr} {XQ:Array DictEntry} {ai7:Nat} {ajj:Array (Option Value)}
   {gJ:Addr}
   {uC:Addr}
   {uD:Addr}
   {mW:Addr}
   {pU:Addr}
   {sY:Addr}
   {pW:Addr}
   {pX:Addr}
   {qN:Addr}
   {uA:Addr}
   {qO:Addr}
   {qP:Addr}
   {pq:Addr}
   {qM:Addr}
   {pA:Addr}
   {pB:Addr}
   {sZ:Addr}
   {wA:Addr}
   {tD:Addr}
   {tE:Addr}
   {cQ:Addr}
   {bQ:Addr}
   {gO:Addr}
   {gP:Addr}
   {ahE:Tok}
   {tk_MS:Tok}
   {tk_MA:Tok}
   {tk_MR:Tok}
   {qL:Addr}
   {uB:Addr}
   {Dj:Addr}
   {wB:Addr}
   {jt:Addr}
   {je:Addr}
   {Dk:Addr}
   {mZ:Addr}
   {qT:Addr}
   {uF:Addr}
   {uG:Addr}
   {uH:Addr}
   {pZ:Addr}
   {yd:Addr}
   {PK:Addr}
   {pY:Addr}
   {mY:Addr}
   {jr:Addr}
   {qQ:Addr}
   {uE:Addr}
   {qR:Addr}
   {pD:Addr}
   {iG:Addr}
   {mX:Addr}
   {pC:Addr}
   {pF:Addr}
   {iI:Addr}
   {f_law:Addr}
   {abB:Value} {aaa Y0:Option Addr} {acY:Array (Option Value)} {aa6 ZS ace Ii Zw:Value}
   {abG:Value} {aaf Y8:Option Addr} {ac3:Array (Option Value)} {abb Z0 acj Ip ZD:Value}
   {abI:Value} {aah Za:Option Addr} {ac5:Array (Option Value)} {abe Z2 acl Iu ZG:Value}
   {V4:Value} {Vo Uq:Option Addr} {WY:Array (Option Value)} {VG Vc Ws El UV:Value}
   {Oj:Value} {NK Nf:Option Addr} {Pb:Array (Option Value)} {Ob Nv OD zm Np:Value}
   {V5:Value} {Vp Ur:Option Addr} {W0:Array (Option Value)} {VH Vd Wt Em UW:Value}
   {abF:Value} {aae Y7:Option Addr} {ac2:Array (Option Value)} {aba ZZ aci Io ZC:Value}
   {abE:Value} {aad Y6:Option Addr} {ac1:Array (Option Value)} {aa9 ZX ach Im Zz:Value}
   {aeO:Value} {aei adP:Option Addr} {afl:Array (Option Value)} {aeD aed ae3 Mq ad6:Value}
   {abH:Value} {aag Y9:Option Addr} {ac4:Array (Option Value)} {abd Z1 ack Ir ZF:Value}
   {abJ:Value} {aai Zb:Option Addr} {ac6:Array (Option Value)} {abf Z3 acn Iv ZJ:Value}
   {V9:Value} {Vt Uv:Option Addr} {W5:Array (Option Value)} {VN Vh Wx Er U5:Value}
   {abD:Value} {aac Y5:Option Addr} {ac0:Array (Option Value)} {aa8 ZW acg Ik Zy:Value}
   {Wa:Value} {Vu Uw:Option Addr} {W6:Array (Option Value)} {VP Vi Wy Es U6:Value}
   {Wb:Value} {Vv Ux:Option Addr} {W7:Array (Option Value)} {VR Vj Wz Et U7:Value}
   {Sh:Value} {Rj Qz:Option Addr} {TY:Array (Option Value)} {RQ Rb Tc Av QX:Value}
   {V8:Value} {Vs Uu:Option Addr} {W4:Array (Option Value)} {VM Vg Ww Ep U4:Value}
   {Sq:Value} {Rk QB:Option Addr} {T3:Array (Option Value)} {RT Rc Te Aw QZ:Value}
   {Ss:Value} {Rm QC:Option Addr} {T4:Array (Option Value)} {RV Rf Tf Ax Q0:Value}
   {aeP:Value} {aej adQ:Option Addr} {afm:Array (Option Value)} {aeE aee ae4 Mr ad7:Value}
   {ag4:Value} {agm afR:Option Addr} {ahu:Array (Option Value)} {agQ agh ahf Q6 agb:Value}
   {aeQ:Value} {aek adR:Option Addr} {afn:Array (Option Value)} {aeF aef ae5 Ms ad8:Value}
   {aeR:Value} {ael adS:Option Addr} {afo:Array (Option Value)} {aeG aeg ae6 Mt ad9:Value}
   {abC:Value} {aab Y4:Option Addr} {acZ:Array (Option Value)} {aa7 ZV acf Ij Zx:Value}
   {ag5:Value} {agn afS:Option Addr} {ahv:Array (Option Value)} {agR agi ahg Q7 agc:Value}
   {ag6:Value} {ago afT:Option Addr} {ahw:Array (Option Value)} {agS agj ahh Q8 agd:Value}
   {Jt:Value} {Jd HN:Option Addr} {JG:Array (Option Value)} {Jq Jb Jz uy Ih:Value}
   {Oq:Value} {NZ Nj:Option Addr} {Pk:Array (Option Value)} {Og NB O6 zu Nu:Value}
   {ag7:Value} {agp afU:Option Addr} {ahx:Array (Option Value)} {agT agk ahi Q9 age:Value}
   {Oo:Value} {NT Ni:Option Addr} {Pj:Array (Option Value)} {Oe Nz O4 zr Nt:Value}
   {Wf:Value} {Vz UJ:Option Addr} {Xb:Array (Option Value)} {V3 Vn WL Ez Vb:Value}
   {abM:Value} {aal Ze:Option Addr} {ac9:Array (Option Value)} {abi Z6 acq IK ZM:Value}
   {abN:Value} {aam Zf:Option Addr} {ada:Array (Option Value)} {abj Z7 acr IV ZP:Value}
   {abP:Value} {aao Zh:Option Addr} {adc:Array (Option Value)} {abl Z9 acu Ja ZR:Value}
   {Cz:Value} {Bf zX:Option Addr} {CQ:Array (Option Value)} {Bw Bb CJ pR Ar:Value}
   {V6:Value} {Vq Us:Option Addr} {W2:Array (Option Value)} {VJ Ve Wu En U0:Value}
   {V7:Value} {Vr Ut:Option Addr} {W3:Array (Option Value)} {VL Vf Wv Eo U3:Value}
   {abO:Value} {aan Zg:Option Addr} {adb:Array (Option Value)} {abk Z8 acs IW ZQ:Value}
   {aeS:Value} {aen adT:Option Addr} {afp:Array (Option Value)} {aeH aeh ae7 Mu aea:Value}
   {of_begun:Value} {df_begun an_begun:Option Addr} {sf_begun:Array (Option Value)} {kV_begun dc_begun pm_begun aec ct_begun:Value}
   {abL:Value} {aak Zd:Option Addr} {ac8:Array (Option Value)} {abh Z5 acp Iz ZL:Value}
   {Om:Value} {NQ Nh:Option Addr} {Ph:Array (Option Value)} {Od Ny O1 zq Nr:Value}
   {Wc:Value} {Vw Uy:Option Addr} {W8:Array (Option Value)} {V0 Vk WD Eu U8:Value}
   {Wd:Value} {Vx Uz:Option Addr} {W9:Array (Option Value)} {V1 Vl WF Ew U9:Value}
   {abK:Value} {aaj Zc:Option Addr} {ac7:Array (Option Value)} {abg Z4 aco Iw ZK:Value}
   {We:Value} {Vy UG:Option Addr} {Xa:Array (Option Value)} {V2 Vm WK Ey Va:Value}
   {Sv:Value} {Ro QF:Option Addr} {T6:Array (Option Value)} {RX Rh Th Az Q4:Value}
   {GK:Value} {Gf Fw:Option Addr} {Hb:Array (Option Value)} {Gp Gb GZ sV FT:Value}
   {Ol:Value} {NP Ng:Option Addr} {Pg:Array (Option Value)} {Oc Nx OJ zp Nq:Value}
   {Su:Value} {Rn QD:Option Addr} {T5:Array (Option Value)} {RW Rg Tg Ay Q3:Value}
   {Sw:Value} {Rp QG:Option Addr} {T7:Array (Option Value)} {RZ Ri Ti Ba Q5:Value}
   {GP:Value} {Gg Fx:Option Addr} {Hc:Array (Option Value)} {Gq Gd G7 sW FW:Value}
   {of_law:Value} {df_law an_law:Option Addr} {sf_law:Array (Option Value)} {kV_law dc_law pm_law agf ct_law:Value}
   (afL:PySem.W.nsIn K mainGlobals "Door" = some (some (.ref mq)))
   (ab8:PySem.W.plainGet K mq Str.empty = true)
   (aaM:PySem.W.hasDictIn K mq = true)
   (acv:PySem.W.plainOver K mq = true)
   (acE:PySem.W.findIn K (.ref mq) "__setattr__" = some (some (.builtin "object.__setattr__")))
   (aaH:PySem.W.findIn K (.ref mq) "__class__" = some (some (.builtin "object.__class__")))
   (aaR:PySem.W.mroIn K mq (.type "object") = some true)
   (adl:PySem.W.typeIn K (.ref mq) = some (.type "type"))
   (QQ:PySem.W.clsIn K mq = some cd_Door)
   (afM:PySem.W.nsIn K mainGlobals "Must" = some (some (.ref eN)))
   (ab9:PySem.W.plainGet K eN Str.empty = true)
   (aaN:PySem.W.hasDictIn K eN = true)
   (acw:PySem.W.plainOver K eN = true)
   (acF:PySem.W.findIn K (.ref eN) "__setattr__" = some (some (.builtin "object.__setattr__")))
   (aaI:PySem.W.findIn K (.ref eN) "__class__" = some (some (.builtin "object.__class__")))
   (aaS:PySem.W.mroIn K eN (.type "object") = some true)
   (adm:PySem.W.typeIn K (.ref eN) = some (.type "type"))
   (QR:PySem.W.clsIn K eN = some cd_Must)
   (a_May:PySem.W.nsIn K mainGlobals "May" = some (some (.ref jO)))
   (ahe:PySem.W.plainGet K jO Str.empty = true)
   (agD:PySem.W.hasDictIn K jO = true)
   (ahj:PySem.W.plainOver K jO = true)
   (ahn:PySem.W.findIn K (.ref jO) "__setattr__" = some (some (.builtin "object.__setattr__")))
   (agC:PySem.W.findIn K (.ref jO) "__class__" = some (some (.builtin "object.__class__")))
   (agE:PySem.W.mroIn K jO (.type "object") = some true)
   (ahI:PySem.W.typeIn K (.ref jO) = some (.type "type"))
   (Zv:PySem.W.clsIn K jO = some cd_May)
   (afO:PySem.W.nsIn K mainGlobals "Shut" = some (some (.ref eQ)))
   (acb:PySem.W.plainGet K eQ Str.empty = true)
   (aaP:PySem.W.hasDictIn K eQ = true)
   (acy:PySem.W.plainOver K eQ = true)
   (acH:PySem.W.findIn K (.ref eQ) "__setattr__" = some (some (.builtin "object.__setattr__")))
   (aaK:PySem.W.findIn K (.ref eQ) "__class__" = some (some (.builtin "object.__class__")))
   (aaU:PySem.W.mroIn K eQ (.type "object") = some true)
   (ado:PySem.W.typeIn K (.ref eQ) = some (.type "type"))
   (QT:PySem.W.clsIn K eQ = some cd_Shut)
   (afP:PySem.W.nsIn K mainGlobals "Torn" = some (some (.ref eU)))
   (acd:PySem.W.plainGet K eU Str.empty = true)
   (aaQ:PySem.W.hasDictIn K eU = true)
   (acz:PySem.W.plainOver K eU = true)
   (acI:PySem.W.findIn K (.ref eU) "__setattr__" = some (some (.builtin "object.__setattr__")))
   (aaL:PySem.W.findIn K (.ref eU) "__class__" = some (some (.builtin "object.__class__")))
   (aaV:PySem.W.mroIn K eU (.type "object") = some true)
   (adp:PySem.W.typeIn K (.ref eU) = some (.type "type"))
   (QV:PySem.W.clsIn K eU = some cd_Torn)
   (YZ:PySem.W.nsIn K mainGlobals "Draft" = some (some (.ref cL)))
   (S7:PySem.W.plainGet K cL Str.empty = true)
   (RD:PySem.W.hasDictIn K cL = true)
   (Tj:PySem.W.plainOver K cL = true)
   (Tv:PySem.W.findIn K (.ref cL) "__setattr__" = some (some (.builtin "object.__setattr__")))
   (RC:PySem.W.findIn K (.ref cL) "__class__" = some (some (.builtin "object.__class__")))
   (RG:PySem.W.mroIn K cL (.type "object") = some true)
   (Ud:PySem.W.typeIn K (.ref cL) = some (.type "type"))
   (Kg:PySem.W.clsIn K cL = some cd_Draft)
   (afN:PySem.W.nsIn K mainGlobals "Plan" = some (some (.ref eO)))
   (aca:PySem.W.plainGet K eO Str.empty = true)
   (aaO:PySem.W.hasDictIn K eO = true)
   (acx:PySem.W.plainOver K eO = true)
   (acG:PySem.W.findIn K (.ref eO) "__setattr__" = some (some (.builtin "object.__setattr__")))
   (aaJ:PySem.W.findIn K (.ref eO) "__class__" = some (some (.builtin "object.__class__")))
   (aaT:PySem.W.mroIn K eO (.type "object") = some true)
   (adn:PySem.W.typeIn K (.ref eO) = some (.type "type"))
   (QS:PySem.W.clsIn K eO = some cd_Plan)
   (hn:PySem.W.specialIn K (.builtin "object.__class__") "__get__" = some (some (.builtin "getset_descriptor.__get__")))
   (htk:PySem.W.takesIn K (.builtin "object.__class__") = some true)
   (dX:PySem.W.findIn K (.ref cL) "actions" = some none)
   (cV:PySem.W.findIn K (.ref cL) "rooms" = some none)
   (oN:PySem.W.findIn K (.ref jO) "to" = some none)
   (kW:PySem.W.findIn K (.ref eN) "to" = some none)
   (eY:PySem.W.findIn K (.ref eO) "actions" = some none)
   (dR:PySem.W.findIn K (.ref eO) "rooms" = some none)
   (kY:PySem.W.findIn K (.ref eQ) "to" = some none)
   (kZ:PySem.W.findIn K (.ref eU) "to" = some none)
   (z_all:PySem.W.nsIn K mainGlobals "all" = some none)
   (ahJ:PySem.W.nsIn K mainGlobals "bool" = some none)
   (ahK:PySem.W.nsIn K mainGlobals "dict" = some none)
   (Dc:PySem.W.nsIn K mainGlobals "enumerate" = some none)
   (z_int:PySem.W.nsIn K mainGlobals "int" = some none)
   (zj:PySem.W.nsIn K mainGlobals "isinstance" = some none)
   (z_len:PySem.W.nsIn K mainGlobals "len" = some none)
   (ahL:PySem.W.nsIn K mainGlobals "list" = some none)
   (adt:PySem.W.nsIn K mainGlobals "range" = some none)
   (z_set:PySem.W.nsIn K mainGlobals "set" = some none)
   (z_str:PySem.W.nsIn K mainGlobals "str" = some none)
   (adu:PySem.W.nsIn K mainGlobals "tuple" = some none)
   (zW:PySem.W.nsIn K mainGlobals "HallError" = some (some (.ref cB)))
   (oH:K.lookup cB = some ⟨cH,dH,.cls cdH,sH⟩)
   (nH:K.lookup cdH.ns = some ⟨c0H,d0H,.dict esH n0H,s0H⟩)
   (eH:(esH.toList.all fun e=>match e.key with | .str _ _=>true | _=>false) = true)
   (iH:PySem.W.nsIn K cdH.ns "__init__" = some none)
   (tyH:PySem.W.typeIn K (.ref cB) = some (.type "type"))
   (h1H:PySem.W.specialIn K (.ref cB) "__getattribute__" = some (some (.builtin "type.__getattribute__")))
   (h2H:PySem.W.readsIn K cB (.type "type") = true)
   (h3H:PySem.W.findCls K (.ref cB) (.type "type") "__init__" = some (.val (.builtin "ValueError.__init__")))
   (suH:PySem.W.mroIn K cB (.type "BaseException") = some true)
   (Ka:PySem.W.nsIn K mainGlobals "BadPlan" = some (some (.ref bN)))
   (Ld:K.lookup bN = some (excClassObj ag1 aje bN De af4 (.ref cB :: MX.bmV) true ahA aho afQ sE agl agK agL agM agN agO "ValueError.__new__"))
   (K7:K.lookup De = some ⟨af7,agg,.dict Ru ag2,ahz⟩)
   (Ko:(Ru.toList.all fun e=>match e.key with | .str _ _=>true | _=>false) = true)
   (Gk:PySem.W.findIn K (.ref bN) "__getattribute__" = some (some (.builtin "BaseException.__getattribute__")))
   (Gn:PySem.W.findIn K (.ref bN) "__getattr__" = some none)
   (G9:PySem.W.findIn K (.ref bN) "__setattr__" = some (some (.builtin "object.__setattr__")))
   (sE:PySem.W.findIn K (.ref bN) "__class__" = some (some (.builtin "object.__class__")))
   (zg:PySem.W.mroIn K bN (.type "BaseException") = some true)
   (Hf:PySem.W.mroIn K bN (.type "object") = some true)
   (Gz:PySem.W.mroIn K bN (.ref cB) = some true)
   (GC:PySem.W.mroIn K bN (.ref bN) = some true)
   (Gr:PySem.W.keepIn K (.ref bN) = true)
   (Hg:PySem.W.typeIn K (.ref bN) = some (.type "type"))
   (eZ:PySem.W.findIn K (.ref bN) "room" = some none)
   (di:PySem.W.findIn K (.ref bN) "action" = some none)
   (Hj:PySem.W.nsIn K De "__init__" = some (some (.ref mV)))
   (Hi:PySem.W.isFn K (.ref mV) = true)
   (Qy:PySem.W.nsIn K mainGlobals "Unlike" = some (some (.ref dw)))
   (Sg:K.lookup dw = some (excClassObj ai6 q_Unlike dw Hm aiA (.ref cB :: MX.bmV) true ajk ajh aix wz aiE aiV aiW aiX aiY aiZ "ValueError.__new__"))
   (R6:K.lookup Hm = some ⟨aiC,aiD,.dict XQ ai7,ajj⟩)
   (Rt:(XQ.toList.all fun e=>match e.key with | .str _ _=>true | _=>false) = true)
   (Ku:PySem.W.findIn K (.ref dw) "__getattribute__" = some (some (.builtin "BaseException.__getattribute__")))
   (Kv:PySem.W.findIn K (.ref dw) "__getattr__" = some none)
   (Li:PySem.W.findIn K (.ref dw) "__setattr__" = some (some (.builtin "object.__setattr__")))
   (wz:PySem.W.findIn K (.ref dw) "__class__" = some (some (.builtin "object.__class__")))
   (Lk:PySem.W.mroIn K dw (.type "BaseException") = some true)
   (Ln:PySem.W.mroIn K dw (.type "object") = some true)
   (K1:PySem.W.mroIn K dw (.ref cB) = some true)
   (Kz:PySem.W.keepIn K (.ref dw) = true)
   (Lr:PySem.W.typeIn K (.ref dw) = some (.type "type"))
   (wQ:PySem.W.nsIn K Hm "__init__" = some none)
   (abp:PySem.W.makesIn K eN = true)
   (aaW:PySem.W.findIn K (.ref eN) "__init__" = some (some (.ref gJ)))
   (aa2:PySem.W.keepIn K (.ref eN) = true)
   (agZ:PySem.W.makesIn K jO = true)
   (agH:PySem.W.findIn K (.ref jO) "__init__" = some (some (.ref gJ)))
   (agP:PySem.W.keepIn K (.ref jO) = true)
   (abr:PySem.W.makesIn K eQ = true)
   (aaY:PySem.W.findIn K (.ref eQ) "__init__" = some (some (.ref uC)))
   (aa4:PySem.W.keepIn K (.ref eQ) = true)
   (abt:PySem.W.makesIn K eU = true)
   (aaZ:PySem.W.findIn K (.ref eU) "__init__" = some (some (.ref uD)))
   (aa5:PySem.W.keepIn K (.ref eU) = true)
   (R5:PySem.W.makesIn K cL = true)
   (RJ:PySem.W.findIn K (.ref cL) "__init__" = some (some (.ref mW)))
   (RP:PySem.W.keepIn K (.ref cL) = true)
   (abq:PySem.W.makesIn K eO = true)
   (aaX:PySem.W.findIn K (.ref eO) "__init__" = some (some (.ref mW)))
   (aa3:PySem.W.keepIn K (.ref eO) = true)
   (qU:PySem.W.isFn K (.ref gJ) = true)
   (yg:PySem.W.isFn K (.ref uC) = true)
   (yj:PySem.W.isFn K (.ref uD) = true)
   (pG:PySem.W.isFn K (.ref mW) = true)
   (w6:PySem.W.findIn K (.ref eN) "word" = some (some (.ref pU)))
   (z7:PySem.W.findIn K (.ref jO) "word" = some (some (.ref sY)))
   (xn:PySem.W.findIn K (.ref eQ) "word" = some (some (.ref pW)))
   (xr:PySem.W.findIn K (.ref eU) "word" = some (some (.ref pX)))
   (ye:PySem.W.isFn K (.ref pU) = true)
   (Bh:PySem.W.isFn K (.ref sY) = true)
   (yh:PySem.W.isFn K (.ref pW) = true)
   (yl:PySem.W.isFn K (.ref pX) = true)
   (Ei:PySem.W.findIn K (.ref eN) "needs" = some (some (.ref qN)))
   (HS:PySem.W.findIn K (.ref jO) "needs" = some (some (.ref uA)))
   (Ej:PySem.W.findIn K (.ref eQ) "needs" = some (some (.ref qO)))
   (Ek:PySem.W.findIn K (.ref eU) "needs" = some (some (.ref qP)))
   (Fe:PySem.W.isFn K (.ref qN) = true)
   (Jj:PySem.W.isFn K (.ref uA) = true)
   (Ff:PySem.W.isFn K (.ref qO) = true)
   (Fg:PySem.W.isFn K (.ref qP) = true)
   (z8:PySem.W.findIn K (.ref eN) "allows" = some (some (.ref pq)))
   (Eh:PySem.W.findIn K (.ref jO) "allows" = some (some (.ref qM)))
   (Aa:PySem.W.findIn K (.ref eQ) "allows" = some (some (.ref pA)))
   (Ac:PySem.W.findIn K (.ref eU) "allows" = some (some (.ref pB)))
   (Bj:PySem.W.isFn K (.ref pq) = true)
   (Fd:PySem.W.isFn K (.ref qM) = true)
   (Bl:PySem.W.isFn K (.ref pA) = true)
   (Bo:PySem.W.isFn K (.ref pB) = true)
   (z9:PySem.W.findIn K (.ref eN) "led" = some (some (.ref sZ)))
   (Fy:PySem.W.findIn K (.ref jO) "led" = some (some (.ref wA)))
   (Ab:PySem.W.findIn K (.ref eQ) "led" = some (some (.ref tD)))
   (Ae:PySem.W.findIn K (.ref eU) "led" = some (some (.ref tE)))
   (Bk:PySem.W.isFn K (.ref sZ) = true)
   (Gi:PySem.W.isFn K (.ref wA) = true)
   (Bm:PySem.W.isFn K (.ref tD) = true)
   (Bp:PySem.W.isFn K (.ref tE) = true)
   (wZ:PySem.W.findIn K (.ref eN) "told" = some (some (.ref cQ)))
   (zZ:PySem.W.findIn K (.ref jO) "told" = some (some (.ref cQ)))
   (xm:PySem.W.findIn K (.ref eQ) "told" = some (some (.ref cQ)))
   (xq:PySem.W.findIn K (.ref eU) "told" = some (some (.ref cQ)))
   (ju:PySem.W.isFn K (.ref cQ) = true)
   (iU:PySem.W.findIn K (.ref cL) "action_list" = some (some (.ref bQ)))
   (jT:PySem.W.findIn K (.ref eO) "action_list" = some (some (.ref bQ)))
   (fH:PySem.W.isFn K (.ref bQ) = true)
   (uT:PySem.W.findIn K (.ref cL) "many" = some (some (.ref gO)))
   (xg:PySem.W.findIn K (.ref eO) "many" = some (some (.ref gO)))
   (pH:PySem.W.isFn K (.ref gO) = true)
   (uU:PySem.W.findIn K (.ref cL) "told" = some (some (.ref gP)))
   (xj:PySem.W.findIn K (.ref eO) "told" = some (some (.ref gP)))
   (pI:PySem.W.isFn K (.ref gP) = true)
   (inD:PySem.W.findIn K (.ref mq) "__init__" = some (some (.ref gJ)))
   (ca1:PySem.W.specialIn K (.ref mq) "__getattribute__" = some (some (.builtin "type.__getattribute__")))
   (ca2:PySem.W.readsIn K mq (.type "type") = true)
   (ca3:PySem.W.findCls K (.ref mq) (.type "type") "__init__" = some (.val (.ref gJ)))
   (wy:PySem.W.nsIn K mainGlobals "LETTERS" = some (some (.str "abcdefghijklmnopqrstuvwxyz" ahE)))
   (mL:PySem.W.nsIn K mainGlobals "MOST_SIGNS" = some (some (.int 8 tk_MS)))
   (iZ:PySem.W.nsIn K mainGlobals "MOST_ACTIONS" = some (some (.int 8 tk_MA)))
   (mK:PySem.W.nsIn K mainGlobals "MOST_ROOMS" = some (some (.int 2000 tk_MR)))
   (uR:PySem.W.findIn K (.ref cL) "lets_torn" = some (some (.ref qL)))
   (vC:PySem.W.isFn K (.ref qL) = true)
   (xf:PySem.W.findIn K (.ref eO) "lets_torn" = some (some (.ref uB)))
   (yf:PySem.W.isFn K (.ref uB) = true)
   (wI:PySem.W.nsIn K mainGlobals "door_of" = some (some (.ref Dj)))
   (oK:PySem.W.nsIn K mainGlobals "is_name" = some (some (.ref wB)))
   (gm:PySem.W.nsIn K mainGlobals "is_action_list" = some (some (.ref jt)))
   (eF:PySem.W.nsIn K mainGlobals "need_actions" = some (some (.ref je)))
   (wJ:PySem.W.nsIn K mainGlobals "is_room" = some (some (.ref Dk)))
   (jk:PySem.W.nsIn K mainGlobals "is_told_door" = some (some (.ref mZ)))
   (nR:PySem.W.nsIn K mainGlobals "need_rooms" = some (some (.ref qT)))
   (qb:PySem.W.nsIn K mainGlobals "made_door" = some (some (.ref uF)))
   (qd:PySem.W.nsIn K mainGlobals "made_room" = some (some (.ref uG)))
   (qe:PySem.W.nsIn K mainGlobals "told_room" = some (some (.ref uH)))
   (jl:PySem.W.nsIn K mainGlobals "need_same" = some (some (.ref pZ)))
   (t7:PySem.W.nsIn K mainGlobals "led_room" = some (some (.ref yd)))
   (yU:PySem.W.nsIn K mainGlobals "begun" = some (some (.ref PK)))
   (fO:PySem.W.nsIn K mainGlobals "free_plan" = some (some (.ref pY)))
   (jj:PySem.W.nsIn K mainGlobals "_law_cell_at" = some (some (.ref mY)))
   (aZ:PySem.W.nsIn K mainGlobals "_law_mixed" = some (some (.ref jr)))
   (nP:PySem.W.nsIn K mainGlobals "_law_names" = some (some (.ref qQ)))
   (lD:PySem.W.nsIn K mainGlobals "_law_door" = some (some (.ref uE)))
   (nQ:PySem.W.nsIn K mainGlobals "_law_rooms" = some (some (.ref qR)))
   (j6:PySem.W.nsIn K mainGlobals "_law_turned" = some (some (.ref pD)))
   (fK:PySem.W.nsIn K mainGlobals "_law_names_told" = some (some (.ref iG)))
   (eE:PySem.W.nsIn K mainGlobals "_law_another" = some (some (.ref mX)))
   (j5:PySem.W.nsIn K mainGlobals "_law_others" = some (some (.ref pC)))
   (ig:PySem.W.nsIn K mainGlobals "_law_unlike" = some (some (.ref pF)))
   (fM:PySem.W.nsIn K mainGlobals "_law_no_actions" = some (some (.ref iI)))
   (m_law:PySem.W.nsIn K mainGlobals "law" = some (some (.ref f_law)))
   (BK:K.lookup gJ = some ⟨abB,aaa,.func (PySem.W.fnOf "__init__" "Door.__init__" (aO lG) (aL lG) (ak lG) .none aa6 ZS ace Y0 Ii Zw),acY⟩)
   (xJ:PySem.W.codeIn K Ii "Door.__init__" = true)
   (p8:PySem.W.keepIn K (.ref gJ) = true)
   (BW:K.lookup uC = some ⟨abG,aaf,.func (PySem.W.fnOf "__init__" "Shut.__init__" (aO lM) (aL lM) (ak lM) .none abb Z0 acj Y8 Ip ZD),ac3⟩)
   (xP:PySem.W.codeIn K Ip "Shut.__init__" = true)
   (By:PySem.W.keepIn K (.ref uC) = true)
   (BZ:K.lookup uD = some ⟨abI,aah,.func (PySem.W.fnOf "__init__" "Torn.__init__" (aO lO) (aL lO) (ak lO) .none abe Z2 acl Za Iu ZG),ac5⟩)
   (xR:PySem.W.codeIn K Iu "Torn.__init__" = true)
   (BJ:PySem.W.keepIn K (.ref uD) = true)
   (yF:K.lookup mW = some ⟨V4,Vo,.func (PySem.W.fnOf "__init__" "Draft.__init__" (aO jB) (aL jB) (ak jB) .none VG Vc Ws Uq El UV),WY⟩)
   (uY:PySem.W.codeIn K El "Draft.__init__" = true)
   (yr:PySem.W.keepIn K (.ref mW) = true)
   (tM:K.lookup mV = some ⟨Oj,NK,.func (PySem.W.fnOf "__init__" "BadPlan.__init__" (aO gw) (aL gw) (ak gw) .none Ob Nv OD Nf zm Np),Pb⟩)
   (qj:PySem.W.codeIn K zm "BadPlan.__init__" = true)
   (tL:PySem.W.keepIn K (.ref mV) = true)
   (yG:K.lookup qL = some ⟨V5,Vp,.func (PySem.W.fnOf "lets_torn" "Draft.lets_torn" (aO jC) (aL jC) (ak jC) .none VH Vd Wt Ur Em UW),W0⟩)
   (uZ:PySem.W.codeIn K Em "Draft.lets_torn" = true)
   (qW:PySem.W.keepIn K (.ref qL) = true)
   (BV:K.lookup uB = some ⟨abF,aae,.func (PySem.W.fnOf "lets_torn" "Plan.lets_torn" (aO lL) (aL lL) (ak lL) .none aba ZZ aci Y7 Io ZC),ac2⟩)
   (xO:PySem.W.codeIn K Io "Plan.lets_torn" = true)
   (uJ:PySem.W.keepIn K (.ref uB) = true)
   (BR:K.lookup pU = some ⟨abE,aad,.func (PySem.W.fnOf "word" "Must.word" (aO lK) (aL lK) (ak lK) .none aa9 ZX ach Y6 Im Zz),ac1⟩)
   (xN:PySem.W.codeIn K Im "Must.word" = true)
   (uI:PySem.W.keepIn K (.ref pU) = true)
   (Gs:K.lookup sY = some ⟨aeO,aei,.func (PySem.W.fnOf "word" "May.word" (aO oV) (aL oV) (ak oV) .none aeD aed ae3 adP Mq ad6),afl⟩)
   (Ak:PySem.W.codeIn K Mq "May.word" = true)
   (yu:PySem.W.keepIn K (.ref sY) = true)
   (BX:K.lookup pW = some ⟨abH,aag,.func (PySem.W.fnOf "word" "Shut.word" (aO lN) (aL lN) (ak lN) .none abd Z1 ack Y9 Ir ZF),ac4⟩)
   (xQ:PySem.W.codeIn K Ir "Shut.word" = true)
   (uK:PySem.W.keepIn K (.ref pW) = true)
   (Ca:K.lookup pX = some ⟨abJ,aai,.func (PySem.W.fnOf "word" "Torn.word" (aO lQ) (aL lQ) (ak lQ) .none abf Z3 acn Zb Iv ZJ),ac6⟩)
   (xT:PySem.W.codeIn K Iv "Torn.word" = true)
   (uL:PySem.W.keepIn K (.ref pX) = true)
   (yK:K.lookup qN = some ⟨V9,Vt,.func (PySem.W.fnOf "needs" "Must.needs" (aO jG) (aL jG) (ak jG) .none VN Vh Wx Uv Er U5),W5⟩)
   (vg:PySem.W.codeIn K Er "Must.needs" = true)
   (yx:PySem.W.keepIn K (.ref qN) = true)
   (BP:K.lookup uA = some ⟨abD,aac,.func (PySem.W.fnOf "needs" "May.needs" (aO lJ) (aL lJ) (ak lJ) .none aa8 ZW acg Y5 Ik Zy),ac0⟩)
   (xM:PySem.W.codeIn K Ik "May.needs" = true)
   (Bx:PySem.W.keepIn K (.ref uA) = true)
   (yL:K.lookup qO = some ⟨Wa,Vu,.func (PySem.W.fnOf "needs" "Shut.needs" (aO jH) (aL jH) (ak jH) .none VP Vi Wy Uw Es U6),W6⟩)
   (vh:PySem.W.codeIn K Es "Shut.needs" = true)
   (yC:PySem.W.keepIn K (.ref qO) = true)
   (yM:K.lookup qP = some ⟨Wb,Vv,.func (PySem.W.fnOf "needs" "Torn.needs" (aO jJ) (aL jJ) (ak jJ) .none VR Vj Wz Ux Et U7),W7⟩)
   (vm:PySem.W.codeIn K Et "Torn.needs" = true)
   (yE:PySem.W.keepIn K (.ref qP) = true)
   (vN:K.lookup pq = some ⟨Sh,Rj,.func (PySem.W.fnOf "allows" "Must.allows" (aO ik) (aL ik) (ak ik) .none RQ Rb Tc Qz Av QX),TY⟩)
   (sG:PySem.W.codeIn K Av "Must.allows" = true)
   (vK:PySem.W.keepIn K (.ref pq) = true)
   (yJ:K.lookup qM = some ⟨V8,Vs,.func (PySem.W.fnOf "allows" "May.allows" (aO jF) (aL jF) (ak jF) .none VM Vg Ww Uu Ep U4),W4⟩)
   (vf:PySem.W.codeIn K Ep "May.allows" = true)
   (yt:PySem.W.keepIn K (.ref qM) = true)
   (vO:K.lookup pA = some ⟨Sq,Rk,.func (PySem.W.fnOf "allows" "Shut.allows" (aO il) (aL il) (ak il) .none RT Rc Te QB Aw QZ),T3⟩)
   (sI:PySem.W.codeIn K Aw "Shut.allows" = true)
   (vL:PySem.W.keepIn K (.ref pA) = true)
   (vP:K.lookup pB = some ⟨Ss,Rm,.func (PySem.W.fnOf "allows" "Torn.allows" (aO ir) (aL ir) (ak ir) .none RV Rf Tf QC Ax Q0),T4⟩)
   (sJ:PySem.W.codeIn K Ax "Torn.allows" = true)
   (vM:PySem.W.keepIn K (.ref pB) = true)
   (Gu:K.lookup sZ = some ⟨aeP,aej,.func (PySem.W.fnOf "led" "Must.led" (aO oW) (aL oW) (ak oW) .none aeE aee ae4 adQ Mr ad7),afm⟩)
   (Al:PySem.W.codeIn K Mr "Must.led" = true)
   (yw:PySem.W.keepIn K (.ref sZ) = true)
   (KC:K.lookup wA = some ⟨ag4,agm,.func (PySem.W.fnOf "led" "May.led" (aO rF) (aL rF) (ak rF) .none agQ agh ahf afR Q6 agb),ahu⟩)
   (FJ:PySem.W.codeIn K Q6 "May.led" = true)
   (Dm:PySem.W.keepIn K (.ref wA) = true)
   (Gv:K.lookup tD = some ⟨aeQ,aek,.func (PySem.W.fnOf "led" "Shut.led" (aO oX) (aL oX) (ak oX) .none aeF aef ae5 adR Ms ad8),afn⟩)
   (Am:PySem.W.codeIn K Ms "Shut.led" = true)
   (yz:PySem.W.keepIn K (.ref tD) = true)
   (Gw:K.lookup tE = some ⟨aeR,ael,.func (PySem.W.fnOf "led" "Torn.led" (aO oY) (aL oY) (ak oY) .none aeG aeg ae6 adS Mt ad9),afo⟩)
   (An:PySem.W.codeIn K Mt "Torn.led" = true)
   (yD:PySem.W.keepIn K (.ref tE) = true)
   (BL:K.lookup cQ = some ⟨abC,aab,.func (PySem.W.fnOf "told" "Door.told" (aO lH) (aL lH) (ak lH) .none aa7 ZV acf Y4 Ij Zx),acZ⟩)
   (xK:PySem.W.codeIn K Ij "Door.told" = true)
   (jf:PySem.W.keepIn K (.ref cQ) = true)
   (KD:K.lookup Dj = some ⟨ag5,agn,.func (PySem.W.fnOf "door_of" "door_of" (aO rG) (aL rG) (ak rG) .none agR agi ahg afS Q7 agc),ahv⟩)
   (FN:PySem.W.codeIn K Q7 "door_of" = true)
   (rD:PySem.W.keepIn K (.ref Dj) = true)
   (KH:K.lookup wB = some ⟨ag6,ago,.func (PySem.W.fnOf "is_name" "is_name" (aO rH) (aL rH) (ak rH) .none agS agj ahh afT Q8 agd),ahw⟩)
   (FP:PySem.W.codeIn K Q8 "is_name" = true)
   (lz:PySem.W.keepIn K (.ref wB) = true)
   (oJ:K.lookup jt = some ⟨Jt,Jd,.func (PySem.W.fnOf "is_action_list" "is_action_list" (aO dZ) (aL dZ) (ak dZ) .none Jq Jb Jz HN uy Ih),JG⟩)
   (mO:PySem.W.codeIn K uy "is_action_list" = true)
   (dW:PySem.W.keepIn K (.ref jt) = true)
   (tU:K.lookup je = some ⟨Oq,NZ,.func (PySem.W.fnOf "need_actions" "need_actions" (aO gF) (aL gF) (ak gF) .none Og NB O6 Nj zu Nu),Pk⟩)
   (qt:PySem.W.codeIn K zu "need_actions" = true)
   (cT:PySem.W.keepIn K (.ref je) = true)
   (KJ:K.lookup Dk = some ⟨ag7,agp,.func (PySem.W.fnOf "is_room" "is_room" (aO rJ) (aL rJ) (ak rJ) .none agT agk ahi afU Q9 age),ahx⟩)
   (FQ:PySem.W.codeIn K Q9 "is_room" = true)
   (rE:PySem.W.keepIn K (.ref Dk) = true)
   (tR:K.lookup mZ = some ⟨Oo,NT,.func (PySem.W.fnOf "is_told_door" "is_told_door" (aO gD) (aL gD) (ak gD) .none Oe Nz O4 Ni zr Nt),Pj⟩)
   (qp:PySem.W.codeIn K zr "is_told_door" = true)
   (gk:PySem.W.keepIn K (.ref mZ) = true)
   (yQ:K.lookup qT = some ⟨Wf,Vz,.func (PySem.W.fnOf "need_rooms" "need_rooms" (aO jN) (aL jN) (ak jN) .none V3 Vn WL UJ Ez Vb),Xb⟩)
   (vy:PySem.W.codeIn K Ez "need_rooms" = true)
   (jz:PySem.W.keepIn K (.ref qT) = true)
   (Cg:K.lookup uF = some ⟨abM,aal,.func (PySem.W.fnOf "made_door" "made_door" (aO lV) (aL lV) (ak lV) .none abi Z6 acq Ze IK ZM),ac9⟩)
   (xW:PySem.W.codeIn K IK "made_door" = true)
   (lA:PySem.W.keepIn K (.ref uF) = true)
   (Ci:K.lookup uG = some ⟨abN,aam,.func (PySem.W.fnOf "made_room" "made_room" (aO lW) (aL lW) (ak lW) .none abj Z7 acr Zf IV ZP),ada⟩)
   (xX:PySem.W.codeIn K IV "made_room" = true)
   (lB:PySem.W.keepIn K (.ref uG) = true)
   (Ck:K.lookup uH = some ⟨abP,aao,.func (PySem.W.fnOf "told_room" "told_room" (aO lY) (aL lY) (ak lY) .none abl Z9 acu Zh Ja ZR),adc⟩)
   (xZ:PySem.W.codeIn K Ja "told_room" = true)
   (lC:PySem.W.keepIn K (.ref uH) = true)
   (jV:K.lookup bQ = some ⟨Cz,Bf,.func (PySem.W.fnOf "action_list" "Draft.action_list" (aO cJ) (aL cJ) (ak cJ) .none Bw Bb CJ zX pR Ar),CQ⟩)
   (jc:PySem.W.codeIn K pR "Draft.action_list" = true)
   (dD:PySem.W.keepIn K (.ref bQ) = true)
   (yH:K.lookup gO = some ⟨V6,Vq,.func (PySem.W.fnOf "many" "Draft.many" (aO jD) (aL jD) (ak jD) .none VJ Ve Wu Us En U0),W2⟩)
   (u9:PySem.W.codeIn K En "Draft.many" = true)
   (nu:PySem.W.keepIn K (.ref gO) = true)
   (yI:K.lookup gP = some ⟨V7,Vr,.func (PySem.W.fnOf "told" "Draft.told" (aO jE) (aL jE) (ak jE) .none VL Vf Wv Ut Eo U3),W3⟩)
   (vd:PySem.W.codeIn K Eo "Draft.told" = true)
   (nA:PySem.W.keepIn K (.ref gP) = true)
   (Cj:K.lookup pZ = some ⟨abO,aan,.func (PySem.W.fnOf "need_same" "need_same" (aO lX) (aL lX) (ak lX) .none abk Z8 acs Zg IW ZQ),adb⟩)
   (xY:PySem.W.codeIn K IW "need_same" = true)
   (gK:PySem.W.keepIn K (.ref pZ) = true)
   (Gx:K.lookup yd = some ⟨aeS,aen,.func (PySem.W.fnOf "led_room" "led_room" (aO oZ) (aL oZ) (ak oZ) .none aeH aeh ae7 adT Mu aea),afp⟩)
   (Ao:PySem.W.codeIn K Mu "led_room" = true)
   (oG:PySem.W.keepIn K (.ref yd) = true)
   (abm:K.lookup PK = some ⟨of_begun,df_begun,.func (PySem.W.fnOf "begun" "begun" (aO Dw) (aL Dw) (ak Dw) .none kV_begun dc_begun pm_begun an_begun aec ct_begun),sf_begun⟩)
   (QW:PySem.W.codeIn K aec "begun" = true)
   (uM:PySem.W.keepIn K (.ref PK) = true)
   (Ce:K.lookup pY = some ⟨abL,aak,.func (PySem.W.fnOf "free_plan" "free_plan" (aO lU) (aL lU) (ak lU) .none abh Z5 acp Zd Iz ZL),ac8⟩)
   (xV:PySem.W.codeIn K Iz "free_plan" = true)
   (dO:PySem.W.keepIn K (.ref pY) = true)
   (tQ:K.lookup mY = some ⟨Om,NQ,.func (PySem.W.fnOf "_law_cell_at" "_law_cell_at" (aO gB) (aL gB) (ak gB) .none Od Ny O1 Nh zq Nr),Ph⟩)
   (qm:PySem.W.codeIn K zq "_law_cell_at" = true)
   (gj:PySem.W.keepIn K (.ref mY) = true)
   (yN:K.lookup jr = some ⟨Wc,Vw,.func (PySem.W.fnOf "_law_mixed" "_law_mixed" (aO jK) (aL jK) (ak jK) .none V0 Vk WD Uy Eu U8),W8⟩)
   (vo:PySem.W.codeIn K Eu "_law_mixed" = true)
   (aW:PySem.W.keepIn K (.ref jr) = true)
   (yO:K.lookup qQ = some ⟨Wd,Vx,.func (PySem.W.fnOf "_law_names" "_law_names" (aO jL) (aL jL) (ak jL) .none V1 Vl WF Uz Ew U9),W9⟩)
   (vp:PySem.W.codeIn K Ew "_law_names" = true)
   (jx:PySem.W.keepIn K (.ref qQ) = true)
   (Cd:K.lookup uE = some ⟨abK,aaj,.func (PySem.W.fnOf "_law_door" "_law_door" (aO lR) (aL lR) (ak lR) .none abg Z4 aco Zc Iw ZK),ac7⟩)
   (xU:PySem.W.codeIn K Iw "_law_door" = true)
   (jg:PySem.W.keepIn K (.ref uE) = true)
   (yP:K.lookup qR = some ⟨We,Vy,.func (PySem.W.fnOf "_law_rooms" "_law_rooms" (aO jM) (aL jM) (ak jM) .none V2 Vm WK UG Ey Va),Xa⟩)
   (vq:PySem.W.codeIn K Ey "_law_rooms" = true)
   (jy:PySem.W.keepIn K (.ref qR) = true)
   (vR:K.lookup pD = some ⟨Sv,Ro,.func (PySem.W.fnOf "_law_turned" "_law_turned" (aO iw) (aL iw) (ak iw) .none RX Rh Th QF Az Q4),T6⟩)
   (sS:PySem.W.codeIn K Az "_law_turned" = true)
   (g8:PySem.W.keepIn K (.ref pD) = true)
   (nD:K.lookup iG = some ⟨GK,Gf,.func (PySem.W.fnOf "_law_names_told" "_law_names_told" (aO dj) (aL dj) (ak dj) .none Gp Gb GZ Fw sV FT),Hb⟩)
   (kE:PySem.W.codeIn K sV "_law_names_told" = true)
   (dg:PySem.W.keepIn K (.ref iG) = true)
   (tO:K.lookup mX = some ⟨Ol,NP,.func (PySem.W.fnOf "_law_another" "_law_another" (aO gA) (aL gA) (ak gA) .none Oc Nx OJ Ng zp Nq),Pg⟩)
   (ql:PySem.W.codeIn K zp "_law_another" = true)
   (cR:PySem.W.keepIn K (.ref mX) = true)
   (vQ:K.lookup pC = some ⟨Su,Rn,.func (PySem.W.fnOf "_law_others" "_law_others" (aO iu) (aL iu) (ak iu) .none RW Rg Tg QD Ay Q3),T5⟩)
   (sO:PySem.W.codeIn K Ay "_law_others" = true)
   (gZ:PySem.W.keepIn K (.ref pC) = true)
   (vU:K.lookup pF = some ⟨Sw,Rp,.func (PySem.W.fnOf "_law_unlike" "_law_unlike" (aO iy) (aL iy) (ak iy) .none RZ Ri Ti QG Ba Q5),T7⟩)
   (sU:PySem.W.codeIn K Ba "_law_unlike" = true)
   (fQ:PySem.W.keepIn K (.ref pF) = true)
   (nF:K.lookup iI = some ⟨GP,Gg,.func (PySem.W.fnOf "_law_no_actions" "_law_no_actions" (aO dm) (aL dm) (ak dm) .none Gq Gd G7 Fx sW FW),Hc⟩)
   (kI:PySem.W.codeIn K sW "_law_no_actions" = true)
   (dh:PySem.W.keepIn K (.ref iI) = true)
   (l_law:K.lookup f_law = some ⟨of_law,df_law,.func (PySem.W.fnOf "law" "law" (aO JC) (aL JC) (ak JC) .none kV_law dc_law pm_law an_law agf ct_law),sf_law⟩)
   (aga:PySem.W.codeIn K agf "law" = true)
   (k_law:PySem.W.keepIn K (.ref f_law) = true)
  :∃ fd:FuncData,(∀ (s:Shared) (v:Value),BindsTo s fd ⟨[v],[]⟩ [("_law_script",v)])∧∀ base:Heap,K.In base→base.Ns mainGlobals mg→bf l.prog w K mg base CX0 11 fa fd ["_law_script"] (afr K):=by
 have e:=hfa.symm.trans (PySem.W.mg_of X G m_law)
 cases e
 let t:Ad:=⟨mq,eN,jO,eQ,eU,cL,eO,bN,dw,De,Hm,cB⟩
 have tlH:=tail_mk oH (abw nH eH) iH
 have cH:PySem.W.clsIn K cB = some cdH:=by
   unfold PySem.W.clsIn
   rw [oH]
 obtain ⟨gG,ad1⟩:=exc_mk Ld tlH (abw K7 Ko) Gk Gn G9 zg Hf sE hn htk Gr
 obtain ⟨JR,af8⟩:=exc_mk Sg tlH (abw R6 Rt) Ku Kv Li Lk Ln wz hn htk Kz
 have kitx_BadPlan:PySem.W.kitOne K (.ref bN) (.ref bN) = some true:=by
   unfold PySem.W.kitOne
   rw [if_pos (by simp)]
 have aeI:PySem.W.kitOne K (.ref dw) (.ref dw) = some true:=by
   unfold PySem.W.kitOne
   rw [if_pos (by simp)]
 have catH:Xf K (Ga t) t.HallError fP:=fun c C hc hC=>by
   unfold fP at hc
   simp only [Bool.or_eq_true,beq_iff_eq] at hc
   rcases hc with rfl | rfl
   · cases hC; exact ags cH tyH Gz suH
   · cases hC; exact ags cH tyH K1 suH
 have Zu:Xf K (Ga t) t.BadPlan jb:=fun c C hc hC=>by
   unfold jb at hc
   simp only [beq_iff_eq] at hc
   subst hc
   cases hC
   exact ags ad1.choose_spec Hg GC zg
 have i_Door:qy K t.Door:=⟨⟨ab8,aaM,acv,acE⟩,aaH,hn,htk,aaR,adl,⟨_,QQ⟩⟩
 have Bt:qy K t.Must:=⟨⟨ab9,aaN,acw,acF⟩,aaI,hn,htk,aaS,adm,⟨_,QR⟩⟩
 have M3:qy K t.May:=⟨⟨ahe,agD,ahj,ahn⟩,agC,hn,htk,agE,ahI,⟨_,Zv⟩⟩
 have Bu:qy K t.Shut:=⟨⟨acb,aaP,acy,acH⟩,aaK,hn,htk,aaU,ado,⟨_,QT⟩⟩
 have Bv:qy K t.Torn:=⟨⟨acd,aaQ,acz,acI⟩,aaL,hn,htk,aaV,adp,⟨_,QV⟩⟩
 have pJ:qy K t.Draft:=⟨⟨S7,RD,Tj,Tv⟩,RC,hn,htk,RG,Ud,⟨_,Kg⟩⟩
 have vJ:qy K t.Plan:=⟨⟨aca,aaO,acx,acG⟩,aaJ,hn,htk,aaT,adn,⟨_,QS⟩⟩
 have T:Txt K mg t:=⟨PySem.W.mg_of X G afL,i_Door,PySem.W.mg_of X G afM,Bt,PySem.W.mg_of X G a_May,M3,PySem.W.mg_of X G afO,Bu,PySem.W.mg_of X G afP,Bv,PySem.W.mg_of X G YZ,pJ,PySem.W.mg_of X G afN,vJ,PySem.W.mg_of X G Ka,PySem.W.mg_of X G Qy,PySem.W.mg_of X G zW,⟨h1H,h2H,h3H⟩,gG,eZ,di,JR,wQ,catH,Zu,dX,cV,oN,kW,eY,dR,kY,kZ,PySem.W.mg_none_of X G z_all,PySem.W.mg_none_of X G ahJ,PySem.W.mg_none_of X G ahK,PySem.W.mg_none_of X G Dc,PySem.W.mg_none_of X G z_int,PySem.W.mg_none_of X G zj,PySem.W.mg_none_of X G z_len,PySem.W.mg_none_of X G ahL,PySem.W.mg_none_of X G adt,PySem.W.mg_none_of X G z_set,PySem.W.mg_none_of X G z_str,PySem.W.mg_none_of X G adu,isiX_ok Lr af8 ⟨⟨dw,rfl,JR.toExcGet,aeI⟩,trivial⟩,Jo tt_bool trivial,Jo tt_int trivial,Jo tt_list trivial,Jo tt_str trivial,Jo tt_tuple trivial,⟨_,PySem.W.mg_of X G wy,⟨_,rfl⟩⟩,⟨_,PySem.W.mg_of X G iZ,⟨_,rfl⟩⟩,⟨_,PySem.W.mg_of X G mK,⟨_,rfl⟩⟩,⟨_,PySem.W.mg_of X G mL,⟨_,rfl⟩⟩⟩
 have Ly:=aX (st:=lG) BK xJ p8
 have LR:=aX (st:=lM) BW xP By
 have Mf:=aX (st:=lO) BZ xR BJ
 have wY:=aX (st:=jB) yF uY yr
 have zQ:=aX (st:=gw) tM qj tL
 have Ht:=aX (st:=jC) yG uZ qW
 have LQ:=aX (st:=lL) BV xO uJ
 have LK:=aX (st:=lK) BR xN uI
 have Qt:=aX (st:=oV) Gs Ak yu
 have Ma:=aX (st:=lN) BX xQ uK
 have Mg:=aX (st:=lQ) Ca xT uL
 have Hx:=aX (st:=jG) yK vg yx
 have LC:=aX (st:=lJ) BP xM Bx
 have Hy:=aX (st:=jH) yL vh yC
 have Hz:=aX (st:=jJ) yM vm yE
 have Ea:=aX (st:=ik) vN sG vK
 have Hw:=aX (st:=jF) yJ vf yt
 have Eb:=aX (st:=il) vO sI vL
 have Ec:=aX (st:=ir) vP sJ vM
 have Qu:=aX (st:=oW) Gu Al yw
 have Xi:=aX (st:=rF) KC FJ Dm
 have Qv:=aX (st:=oX) Gv Am yz
 have Qw:=aX (st:=oY) Gw An yD
 have Lz:=aX (st:=lH) BL xK jf
 have Xj:=aX (st:=rG) KD FN rD
 have Xk:=aX (st:=rH) KH FP lz
 have wg:=aX (st:=dZ) oJ mO dW
 have zV:=aX (st:=gF) tU qt cT
 have Xl:=aX (st:=rJ) KJ FQ rE
 have zU:=aX (st:=gD) tR qp gk
 have HJ:=aX (st:=jN) yQ vy jz
 have Mj:=aX (st:=lV) Cg xW lA
 have Ml:=aX (st:=lW) Ci xX lB
 have Mp:=aX (st:=lY) Ck xZ lC
 have qC:=aX (st:=cJ) jV jc dD
 have Hu:=aX (st:=jD) yH u9 nu
 have Hv:=aX (st:=jE) yI vd nA
 have Mm:=aX (st:=lX) Cj xY gK
 have Qx:=aX (st:=oZ) Gx Ao oG
 have ahN:=aX (st:=Dw) abm QW uM
 have Mi:=aX (st:=lU) Ce xV dO
 have zT:=aX (st:=gB) tQ qm gj
 have HB:=aX (st:=jK) yN vo aW
 have HD:=aX (st:=jL) yO vp jx
 have Mh:=aX (st:=lR) Cd xU jg
 have HH:=aX (st:=jM) yP vq jy
 have Ef:=aX (st:=iw) vR sS g8
 have uo:=aX (st:=dj) nD kE dg
 have zR:=aX (st:=gA) tO ql cR
 have Ed:=aX (st:=iu) vQ sO gZ
 have Eg:=aX (st:=iy) vU sU fQ
 have uq:=aX (st:=dm) nF kI dh
 have U_law:=aX (st:=JC) l_law aga k_law
 refine ⟨PySem.W.fnOf "law" "law" (aO JC) (aL JC) (ak JC) .none kV_law dc_law pm_law an_law agf ct_law,fun s v=>.of_eq rfl,fun base _ _=>law_sp (t:=t) ?_⟩
 have ut:=Ly.binds (ps:=["self","to"]) fun _ _ _ _ _ _ us hl=>match us,hl with | [_,_],_=>rfl
 have adX:=LR.binds (ps:=["self"]) fun _ _ _ _ _ _ us hl=>match us,hl with | [_],_=>rfl
 have adZ:=Mf.binds (ps:=["self"]) fun _ _ _ _ _ _ us hl=>match us,hl with | [_],_=>rfl
 have ul:=abQ (P:=l.prog) (w:=w) (mg:=mg) (base:=base) Ly
 have ca:Dd K t.Door "__init__" (.ref gJ):=⟨ca1,ca2,ca3⟩
 have adE:=abV (P:=l.prog) (w:=w) (base:=base) LR T ul ca p8 ut
 have adG:=abX (P:=l.prog) (w:=w) (base:=base) Mf T ul ca p8 ut
 have J1:Ini l.prog w K mg base t.Must 1 ["self","to"] (spI K (Ga t) jY 1 wV):=⟨_,_,⟨abp,aaW,qU,aa2⟩,ok_to (t:=t) ul rfl Bt.cls kW,ut⟩
 have Xh:Ini l.prog w K mg base t.May 1 ["self","to"] (spI K (Ga t) uX 1 Qj):=⟨_,_,⟨agZ,agH,qU,agP⟩,ok_to (t:=t) ul rfl M3.cls oN,ut⟩
 have J6:Ini l.prog w K mg base t.Shut 2 ["self"] (spI K (Ga t) jP 0 wW):=⟨_,_,⟨abr,aaY,yg,aa4⟩,adE,adX⟩
 have J7:Ini l.prog w K mg base t.Torn 2 ["self"] (spI K (Ga t) jQ 0 zP):=⟨_,_,⟨abt,aaZ,yj,aa5⟩,adG,adZ⟩
 have adV:=LK.binds (ps:=["self"]) fun _ _ _ _ _ _ us hl=>match us,hl with | [_],_=>rfl
 have adC:=abT (P:=l.prog) (w:=w) (base:=base) (t:=t) LK T
 have afW:=Qt.binds (ps:=["self"]) fun _ _ _ _ _ _ us hl=>match us,hl with | [_],_=>rfl
 have afG:=aeT (P:=l.prog) (w:=w) (base:=base) (t:=t) Qt T
 have adY:=Ma.binds (ps:=["self"]) fun _ _ _ _ _ _ us hl=>match us,hl with | [_],_=>rfl
 have adF:=abW (P:=l.prog) (w:=w) (base:=base) (t:=t) Ma T
 have ad0:=Mg.binds (ps:=["self"]) fun _ _ _ _ _ _ us hl=>match us,hl with | [_],_=>rfl
 have adH:=abY (P:=l.prog) (w:=w) (base:=base) (t:=t) Mg T
 have b_Must_needs:=Hx.binds (ps:=["self"]) fun _ _ _ _ _ _ us hl=>match us,hl with | [_],_=>rfl
 have O_Must_needs:=Wk (P:=l.prog) (w:=w) (base:=base) (t:=t) Hx T
 have b_May_needs:=LC.binds (ps:=["self"]) fun _ _ _ _ _ _ us hl=>match us,hl with | [_],_=>rfl
 have O_May_needs:=abS (P:=l.prog) (w:=w) (base:=base) (t:=t) LC T
 have b_Shut_needs:=Hy.binds (ps:=["self"]) fun _ _ _ _ _ _ us hl=>match us,hl with | [_],_=>rfl
 have O_Shut_needs:=Wl (P:=l.prog) (w:=w) (base:=base) (t:=t) Hy T
 have b_Torn_needs:=Hz.binds (ps:=["self"]) fun _ _ _ _ _ _ us hl=>match us,hl with | [_],_=>rfl
 have O_Torn_needs:=Wm (P:=l.prog) (w:=w) (base:=base) (t:=t) Hz T
 have b_Must_allows:=Ea.binds (ps:=["self"]) fun _ _ _ _ _ _ us hl=>match us,hl with | [_],_=>rfl
 have O_Must_allows:=Sy (P:=l.prog) (w:=w) (base:=base) (t:=t) Ea T
 have b_May_allows:=Hw.binds (ps:=["self"]) fun _ _ _ _ _ _ us hl=>match us,hl with | [_],_=>rfl
 have O_May_allows:=Wj (P:=l.prog) (w:=w) (base:=base) (t:=t) Hw T
 have b_Shut_allows:=Eb.binds (ps:=["self"]) fun _ _ _ _ _ _ us hl=>match us,hl with | [_],_=>rfl
 have O_Shut_allows:=SJ (P:=l.prog) (w:=w) (base:=base) (t:=t) Eb T
 have b_Torn_allows:=Ec.binds (ps:=["self"]) fun _ _ _ _ _ _ us hl=>match us,hl with | [_],_=>rfl
 have O_Torn_allows:=SM (P:=l.prog) (w:=w) (base:=base) (t:=t) Ec T
 have afY:=Qu.binds (ps:=["self","to"]) fun _ _ _ _ _ _ us hl=>match us,hl with | [_,_],_=>rfl
 have afH:=aeU (P:=l.prog) (w:=w) (base:=base) (t:=t) Qu T J1
 have aiz:=Xi.binds (ps:=["self","to"]) fun _ _ _ _ _ _ us hl=>match us,hl with | [_,_],_=>rfl
 have ait:=ag8 (P:=l.prog) (w:=w) (base:=base) (t:=t) Xi T Xh
 have af0:=Qv.binds (ps:=["self","to"]) fun _ _ _ _ _ _ us hl=>match us,hl with | [_,_],_=>rfl
 have afI:=aeV (P:=l.prog) (w:=w) (base:=base) (t:=t) Qv T J6
 have af2:=Qw.binds (ps:=["self","to"]) fun _ _ _ _ _ _ us hl=>match us,hl with | [_,_],_=>rfl
 have afJ:=aeW (P:=l.prog) (w:=w) (base:=base) (t:=t) Qw T J7
 have afF:iK l.prog w K mg base (Ga t) "word" (spD K (Ga t) 1) 1 JL:=⟨⟨eN,pU,_,_,rfl,Bt.cls,⟨w6,ye,uI⟩,adC.mono (by decide),adV⟩,⟨jO,sY,_,_,rfl,M3.cls,⟨z7,Bh,yu⟩,afG.mono (by decide),afW⟩,⟨eQ,pW,_,_,rfl,Bu.cls,⟨xn,yh,uK⟩,adF.mono (by decide),adY⟩,⟨eU,pX,_,_,rfl,Bv.cls,⟨xr,yl,uL⟩,adH.mono (by decide),ad0⟩,trivial⟩
 have uw:=Lz.binds (ps:=["self"]) fun _ _ _ _ _ _ us hl=>match us,hl with | [_],_=>rfl
 have um:=abR (P:=l.prog) (w:=w) (base:=base) (t:=t) Lz T afF
 have Ke:=Xj.binds (ps:=["needs","allows","to"]) fun _ _ _ _ _ _ us hl=>match us,hl with | [_,_,_],_=>rfl
 have aiu:=ag9 (P:=l.prog) (w:=w) (base:=base) (t:=t) Xj T J1 Xh J7 J6
 have JS:Def l.prog w K mg base "door_of" 4 ["needs","allows","to"] (spD K (Ga t) 3 rB):=⟨_,_,aiu,Ke,PySem.W.mg_of X G wI,rD⟩
 have QH:=zQ.binds (ps:=["self","room","action"]) fun _ _ _ _ _ _ us hl=>match us,hl with | [_,_,_],_=>rfl
 have n6:XIni l.prog w K mg base t.Cu 1 ["self","room","action"] (spX2 t.BadPlan "room" "action"):=⟨_,_,Hj,Hi,Ot (t:=t) zQ T,QH⟩
 have wu:=Xk.binds (ps:=["thing"]) fun _ _ _ _ _ _ us hl=>match us,hl with | [_],_=>rfl
 have aiv:=aha (P:=l.prog) (w:=w) (base:=base) (t:=t) Xk T
 have rA:Def l.prog w K mg base "is_name" 1 ["thing"] (spD K (Ga t) 1 jo):=⟨_,_,aiv,wu,PySem.W.mg_of X G oK,lz⟩
 have n8:=wg.binds (ps:=["thing"]) fun _ _ _ _ _ _ us hl=>match us,hl with | [_],_=>rfl
 have J8:=Ju (P:=l.prog) (w:=w) (base:=base) (t:=t) wg T rA
 have nZ:Def l.prog w K mg base "is_action_list" 2 ["thing"] (spD K (Ga t) 1 bx):=⟨_,_,J8,n8,PySem.W.mg_of X G gm,dW⟩
 have iY:=zV.binds (ps:=["actions"]) fun _ _ _ _ _ _ us hl=>match us,hl with | [_],_=>rfl
 have Qs:=Ox (P:=l.prog) (w:=w) (base:=base) (t:=t) zV T nZ n6
 have d7:Qe l.prog w K mg base "need_actions" 3 ["actions"] (spD K (Ga t) 1 bI):=⟨_,_,Qs,iY,PySem.W.mg_of X G eF,cT⟩
 have Kf:=Xl.binds (ps:=["thing","many"]) fun _ _ _ _ _ _ us hl=>match us,hl with | [_,_],_=>rfl
 have aiw:=ahb (P:=l.prog) (w:=w) (base:=base) (t:=t) Xl T
 have JT:Def l.prog w K mg base "is_room" 1 ["thing","many"] (spD K (Ga t) 2 rC):=⟨_,_,aiw,Kf,PySem.W.mg_of X G wJ,rE⟩
 have sy:=zU.binds (ps:=["thing","many","torn_too"]) fun _ _ _ _ _ _ us hl=>match us,hl with | [_,_,_],_=>rfl
 have Qq:=Ow (P:=l.prog) (w:=w) (base:=base) (t:=t) zU T JT
 have rO:Def l.prog w K mg base "is_told_door" 2 ["thing","many","torn_too"] (spD K (Ga t) 3 f9):=⟨_,_,Qq,sy,PySem.W.mg_of X G jk,gk⟩
 have xF:=HJ.binds (ps:=["rows","many_actions","torn_too"]) fun _ _ _ _ _ _ us hl=>match us,hl with | [_,_,_],_=>rfl
 have YX:=Wr (P:=l.prog) (w:=w) (base:=base) (t:=t) HJ T n6 rO
 have qI:Qe l.prog w K mg base "need_rooms" 3 ["rows","many_actions","torn_too"] (spD K (Ga t) 3 fC):=⟨_,_,YX,xF,PySem.W.mg_of X G nR,jz⟩
 have Ag:=Mj.binds (ps:=["told"]) fun _ _ _ _ _ _ us hl=>match us,hl with | [_],_=>rfl
 have adK:=ab1 (P:=l.prog) (w:=w) (base:=base) (t:=t) Mj T JS
 have zJ:Def l.prog w K mg base "made_door" 5 ["told"] (spD K (Ga t) 1 iQ):=⟨_,_,adK,Ag,PySem.W.mg_of X G qb,lA⟩
 have Ah:=Ml.binds (ps:=["row"]) fun _ _ _ _ _ _ us hl=>match us,hl with | [_],_=>rfl
 have adL:=ab2 (P:=l.prog) (w:=w) (base:=base) (t:=t) Ml T zJ
 have uh:Def l.prog w K mg base "made_room" 6 ["row"] (spD K (Ga t) 1 iR):=⟨_,_,adL,Ah,PySem.W.mg_of X G qd,lB⟩
 have rW:iK l.prog w K mg base (Ga t) "told" (spD K (Ga t) 1) 2 uf:=⟨⟨eN,cQ,_,_,rfl,Bt.cls,⟨wZ,ju,jf⟩,um.mono (by decide),uw⟩,⟨jO,cQ,_,_,rfl,M3.cls,⟨zZ,ju,jf⟩,um.mono (by decide),uw⟩,⟨eQ,cQ,_,_,rfl,Bu.cls,⟨xm,ju,jf⟩,um.mono (by decide),uw⟩,⟨eU,cQ,_,_,rfl,Bv.cls,⟨xq,ju,jf⟩,um.mono (by decide),uw⟩,trivial⟩
 have Ai:=Mp.binds (ps:=["doors"]) fun _ _ _ _ _ _ us hl=>match us,hl with | [_],_=>rfl
 have adN:=ab4 (P:=l.prog) (w:=w) (base:=base) (t:=t) Mp T rW
 have zK:Def l.prog w K mg base "told_room" 3 ["doors"] (spF K (Ga t) 1 iT):=⟨_,_,adN,Ai,PySem.W.mg_of X G qe,lC⟩
 have Zk:=Ht.binds (ps:=["self"]) fun _ _ _ _ _ _ us hl=>match us,hl with | [_],_=>rfl
 have YQ:=Wg (P:=l.prog) (w:=w) (mg:=mg) (base:=base) Ht
 have adW:=LQ.binds (ps:=["self"]) fun _ _ _ _ _ _ us hl=>match us,hl with | [_],_=>rfl
 have adD:=abU (P:=l.prog) (w:=w) (mg:=mg) (base:=base) LQ
 have HW:=wY.binds (ps:=["self","actions","rows"]) fun _ _ _ _ _ _ us hl=>match us,hl with | [_,_,_],_=>rfl
 have N_Draft:Ini1 l.prog w K mg base t.Draft 7 ["self","actions","rows"] (spI K (Ga t) eV 2 I_Draft):=⟨_,_,⟨R5,RJ,pG,RP⟩,Fi (t:=t) wY T d7 qI uh rfl pJ.cls dX cV ⟨uR,vC,qW⟩ YQ Zk,HW⟩
 have wX:Ini1 l.prog w K mg base t.Plan 7 ["self","actions","rows"] (spI K (Ga t) aV 2 qi):=⟨_,_,⟨abq,aaX,pG,aa3⟩,Fi (t:=t) wY T d7 qI uh rfl vJ.cls eY dR ⟨xf,yf,uJ⟩ adD adW,HW⟩
 have qD:=qC.binds (ps:=["self"]) fun _ _ _ _ _ _ us hl=>match us,hl with | [_],_=>rfl
 have qz:=CG (P:=l.prog) (w:=w) (base:=base) (t:=t) qC T
 have HX:=Hu.binds (ps:=["self"]) fun _ _ _ _ _ _ us hl=>match us,hl with | [_],_=>rfl
 have Hn:=Wh (P:=l.prog) (w:=w) (base:=base) (t:=t) Hu T
 have HY:=Hv.binds (ps:=["self"]) fun _ _ _ _ _ _ us hl=>match us,hl with | [_],_=>rfl
 have Ho:=Wi (P:=l.prog) (w:=w) (base:=base) (t:=t) Hv T zK
 have bY:iK l.prog w K mg base (Ga t) "action_list" (spF K (Ga t) 1) 1 bc:=⟨⟨cL,bQ,_,_,rfl,pJ.cls,⟨iU,fH,dD⟩,qz.mono (by decide),qD⟩,⟨eO,bQ,_,_,rfl,vJ.cls,⟨jT,fH,dD⟩,qz.mono (by decide),qD⟩,trivial⟩
 have pQ:=Mm.binds (ps:=["one","other"]) fun _ _ _ _ _ _ us hl=>match us,hl with | [_,_],_=>rfl
 have adM:=ab3 (P:=l.prog) (w:=w) (base:=base) (t:=t) Mm T bY
 have lu:Qe l.prog w K mg base "need_same" 2 ["one","other"] (spD K (Ga t) 2 dN):=⟨_,_,adM,pQ,PySem.W.mg_of X G jl,gK⟩
 have M_led:iK l.prog w K mg base (Ga t) "led" (spD K (Ga t) 2) 4 JK:=⟨⟨eN,sZ,_,_,rfl,Bt.cls,⟨z9,Bk,yw⟩,afH.mono (by decide),afY⟩,⟨jO,wA,_,_,rfl,M3.cls,⟨Fy,Gi,Dm⟩,ait.mono (by decide),aiz⟩,⟨eQ,tD,_,_,rfl,Bu.cls,⟨Ab,Bm,yz⟩,afI.mono (by decide),af0⟩,⟨eU,tE,_,_,rfl,Bv.cls,⟨Ae,Bp,yD⟩,afJ.mono (by decide),af2⟩,trivial⟩
 have Fz:=Qx.binds (ps:=["doors","numbers"]) fun _ _ _ _ _ _ us hl=>match us,hl with | [_,_],_=>rfl
 have afK:=aeX (P:=l.prog) (w:=w) (base:=base) (t:=t) Qx T rW M_led
 have Fo:Def l.prog w K mg base "led_room" 5 ["doors","numbers"] (spD K (Ga t) 2 rP):=⟨_,_,afK,Fz,PySem.W.mg_of X G t7,oG⟩
 have Qn:iK l.prog w K mg base (Ga t) "many" (spD K (Ga t) 1) 1 CW:=⟨⟨cL,gO,_,_,rfl,pJ.cls,⟨uT,pH,nu⟩,Hn.mono (by decide),HX⟩,⟨eO,gO,_,_,rfl,vJ.cls,⟨xg,pH,nu⟩,Hn.mono (by decide),HX⟩,trivial⟩
 have Ib:=ahN.binds (ps:=["plan","room"]) fun _ _ _ _ _ _ us hl=>match us,hl with | [_,_],_=>rfl
 have O_begun:=ok_begun (P:=l.prog) (w:=w) (base:=base) (t:=t) ahN T Qn wX Fo bY
 have Yw:Def l.prog w K mg base "begun" 9 ["plan","room"] (spD K (Ga t) 2 mF):=⟨_,_,O_begun,Ib,PySem.W.mg_of X G yU,uM⟩
 have iW:=Mi.binds (ps:=["actions"]) fun _ _ _ _ _ _ us hl=>match us,hl with | [_],_=>rfl
 have adJ:=ab0 (P:=l.prog) (w:=w) (base:=base) (t:=t) Mi T d7 wX
 have lq:Qe l.prog w K mg base "free_plan" 9 ["actions"] (spD K (Ga t) 1 bU):=⟨_,_,adJ,iW,PySem.W.mg_of X G fO,dO⟩
 have sr:=zT.binds (ps:=["_law_script","_law_k"]) fun _ _ _ _ _ _ us hl=>match us,hl with | [_,_],_=>rfl
 have Qp:=Ov (P:=l.prog) (w:=w) (base:=base) (t:=t) zT T
 have rN:Def l.prog w K mg base "_law_cell_at" 1 ["_law_script","_law_k"] (spD K (Ga t) 2 d8):=⟨_,_,Qp,sr,PySem.W.mg_of X G jj,gj⟩
 have bu:=HB.binds (ps:=["_law_cell","_law_k"]) fun _ _ _ _ _ _ us hl=>match us,hl with | [_,_],_=>rfl
 have YS:=Wn (P:=l.prog) (w:=w) (base:=base) (t:=t) HB T
 have dG:Def l.prog w K mg base "_law_mixed" 1 ["_law_cell","_law_k"] (spD K (Ga t) 2 aD):=⟨_,_,YS,bu,PySem.W.mg_of X G aZ,aW⟩
 have xu:=HD.binds (ps:=["_law_cell","_law_many"]) fun _ _ _ _ _ _ us hl=>match us,hl with | [_,_],_=>rfl
 have YT:=Wo (P:=l.prog) (w:=w) (base:=base) (t:=t) HD T dG
 have wR:Def l.prog w K mg base "_law_names" 2 ["_law_cell","_law_many"] (spD K (Ga t) 2 jm):=⟨_,_,YT,xu,PySem.W.mg_of X G nP,jx⟩
 have ux:=Mh.binds (ps:=["_law_x","_law_many"]) fun _ _ _ _ _ _ us hl=>match us,hl with | [_,_],_=>rfl
 have adI:=abZ (P:=l.prog) (w:=w) (base:=base) (t:=t) Mh T
 have zH:Def l.prog w K mg base "_law_door" 1 ["_law_x","_law_many"] (spD K (Ga t) 2 gH):=⟨_,_,adI,ux,PySem.W.mg_of X G lD,jg⟩
 have xx:=HH.binds (ps:=["_law_cell","_law_many","_law_acts","_law_cells"]) fun _ _ _ _ _ _ us hl=>match us,hl with | [_,_,_,_],_=>rfl
 have YW:=Wq (P:=l.prog) (w:=w) (base:=base) (t:=t) HH T zH dG
 have wU:Def l.prog w K mg base "_law_rooms" 2 ["_law_cell","_law_many","_law_acts","_law_cells"] (spD K (Ga t) 4 jn):=⟨_,_,YW,xx,PySem.W.mg_of X G nQ,jy⟩
 have uW:=Ef.binds (ps:=["_law_rows","_law_room"]) fun _ _ _ _ _ _ us hl=>match us,hl with | [_,_],_=>rfl
 have Uo:=SQ (P:=l.prog) (w:=w) (base:=base) (t:=t) Ef T
 have uP:Def l.prog w K mg base "_law_turned" 1 ["_law_rows","_law_room"] (spD K (Ga t) 2 gY):=⟨_,_,Uo,uW,PySem.W.mg_of X G j6,g8⟩
 have mH:=uo.binds (ps:=["_law_cell"]) fun _ _ _ _ _ _ us hl=>match us,hl with | [_],_=>rfl
 have Hr:=GQ (P:=l.prog) (w:=w) (base:=base) (t:=t) uo T rA
 have my:Def l.prog w K mg base "_law_names_told" 2 ["_law_cell"] (spD K (Ga t) 1 fj):=⟨_,_,Hr,mH,PySem.W.mg_of X G fK,dg⟩
 have iV:=zR.binds (ps:=["_law_names_here"]) fun _ _ _ _ _ _ us hl=>match us,hl with | [_],_=>rfl
 have Qo:=Ou (P:=l.prog) (w:=w) (base:=base) (t:=t) zR T
 have rM:Def l.prog w K mg base "_law_another" 1 ["_law_names_here"] (spD K (Ga t) 1 bC):=⟨_,_,Qo,iV,PySem.W.mg_of X G eE,cR⟩
 have uV:=Ed.binds (ps:=["_law_names_here","_law_cell"]) fun _ _ _ _ _ _ us hl=>match us,hl with | [_,_],_=>rfl
 have Um:=SN (P:=l.prog) (w:=w) (base:=base) (t:=t) Ed T rM
 have uO:Def l.prog w K mg base "_law_others" 2 ["_law_names_here","_law_cell"] (spD K (Ga t) 2 gW):=⟨_,_,Um,uV,PySem.W.mg_of X G j5,gZ⟩
 have ph:=Eg.binds (ps:=["_law_one","_law_other"]) fun _ _ _ _ _ _ us hl=>match us,hl with | [_,_],_=>rfl
 have Up:=SX (P:=l.prog) (w:=w) (base:=base) (t:=t) Eg T lu
 have uQ:Def l.prog w K mg base "_law_unlike" 3 ["_law_one","_law_other"] (spD K (Ga t) 2 dM):=⟨_,_,Up,ph,PySem.W.mg_of X G ig,fQ⟩
 have mJ:=uq.binds (ps:=["_law_cell","_law_names_here"]) fun _ _ _ _ _ _ us hl=>match us,hl with | [_,_],_=>rfl
 have Hs:=GR (P:=l.prog) (w:=w) (base:=base) (t:=t) uq T lq
 have mz:Def l.prog w K mg base "_law_no_actions" 10 ["_law_cell","_law_names_here"] (spD K (Ga t) 2 fu):=⟨_,_,Hs,mJ,PySem.W.mg_of X G fM,dh⟩
 have v8:iK l.prog w K mg base (Ga t) "told" (spFF K (Ga t) 1) 4 du:=⟨⟨cL,gP,_,_,rfl,pJ.cls,⟨uU,pI,nA⟩,Ho.mono (by decide),HY⟩,⟨eO,gP,_,_,rfl,vJ.cls,⟨xj,pI,nA⟩,Ho.mono (by decide),HY⟩,trivial⟩
 exact ok_law U_law T rN wR dG wU wX v8 Yw uP lq bY lu uO uQ my mz
theorem walk {l:PySem.W.OpenLaw} {q:Program} {loose:List Str} {XP:(Str→Option Value)→Heap→Prop} {YP:World→Heap→Prop} {d:DefRec} {K:Params→PySem.W.Frag} (hn:l.most = some 63) (hdf:d.params.defaults = [])
   (hY:∀ (w:World) (h:Heap),YP w h→(K w.params).In h)
   (F:∀ (w:World) (mg:Str→Option Value) (fa:Addr) (h:Heap),(K w.params).In h→h.Ns mainGlobals mg→mg d.name = some (.ref fa) →
     ∃ fd:FuncData,(∀ (s:Shared) (u:Value),BindsTo s fd ⟨[u],[]⟩ [("_law_script",u)])∧∀ base:Heap,(K w.params).In base→base.Ns mainGlobals mg→bf l.prog w (K w.params) mg base CX0 11 fa fd ["_law_script"] (afr (K w.params))) :
   PySem.W.WalkO q loose XP YP l.row.toRowW d [] (fun f vs=>PySem.call f vs) :=
 L2.walk_of (n:=63) (k:=11) (x:="_law_script") (CX:=fun _=>CX0) (sp:=fun w=>afr (K w.params)) hn (by decide) hdf ⟨rfl,by decide,by decide⟩ hY F (fun _ _ a ns hl _ hS=>⟨a,ns,rfl,hS,hl,fun _=>rfl⟩) fun _ _ _ _ _ z=>z
end K6
namespace K6
open PySem PySem.W L2
noncomputable abbrev pw:Program:=PySem.Challenge.pw_mustmay_k04_begun_and_free
noncomputable section
abbrev hI (i:Int):Value:=.int i 0
abbrev hS (x:Str) (t:Nat):Value:=.str x t
abbrev hR (a:Addr):Value:=.ref a
abbrev hE (P:Params) (x:Str) (t:Nat) (v:Value):DictEntry:=⟨PyData.keyHash P x,.str x t,v⟩
abbrev hT (xs:List Value):Obj:=⟨.type "tuple",none,.seq (Array.mk xs) 0,Array.mk []⟩
abbrev hN (xs:List Value):Obj:=⟨.none,none,.fields (Array.mk xs),Array.mk []⟩
abbrev hK (xs:List Value):Obj:=⟨.type "code",none,.fields (Array.mk xs),Array.mk []⟩
abbrev hD (es:List DictEntry):Obj:=⟨.type "dict",none,.dict (Array.mk es) 0,Array.mk []⟩
abbrev hDn (n:Nat) (es:List DictEntry):Obj:=⟨.type "dict",none,.dict (Array.mk es) n,Array.mk []⟩
abbrev hC (n q:Str) (s:Stmt):Obj:=⟨.none,none,.func ⟨n,q,aO s,.stmts (aL s),ak s,0,[],.none,.none,.none,.none,none,.none,.none,0⟩,Array.mk []⟩
abbrev hF (n q:Str) (s:Stmt) (pm cd:Value):Obj:=⟨.type "function",none,.func ⟨n,q,aO s,.stmts (aL s),ak s,3,[],.none,.none,.none,pm,none,cd,.none,0⟩,Array.mk []⟩
abbrev nn (o:Obj) (a b:BT):BT:=.node o a b
abbrev lf (o:Obj):BT:=.node o .nil .nil
variable (P:Params)
def o0:=hK [hS "<module>" 182,hS "<module>" 183,hS "/claim/cut.py" 184,hI 1,hI 0,hI 0,hI 0,hI 0,hR 11,.bool false,hI 181,hR 12,.none,.none,.none,.none,hI 185,hI 1,hS "/claim/cut.py" 186]
def o1:Obj:=⟨(.type "frame"),none,.plain,Array.mk [some (hR 13),some (hR 3),some (hR 3),none,some (hS "__main__" 164),none,some (hR 0)]⟩
def o2:=hDn 50 [hE P "__name__" 165 (hS "law_mustmay_k04_begun_and_free" 707),hE P "__doc__" 166 .none,hE P "__package__" 167 .none,hE P "__loader__" 168 (.builtin "__main__.__loader__#opaque"),hE P "__spec__" 169 .none,hE P "__annotations__" 170 (hR 6),hE P "__builtins__" 171 (hR 4),hE P "__file__" 173 (hS "/claim/cut.py" 172),hE P "__cached__" 174 .none,hE P "_wall" 193 (hR 21),hE P "Door" 231 (hR 45),hE P "Must" 276 (hR 87),hE P "May" 321 (hR 127),hE P "Shut" 373 (hR 174),hE P "Torn" 425 (hR 221),hE P "door_of" 434 (hR 230),hE P "HallError" 454 (hR 240),hE P "BadPlan" 481 (hR 260),hE P "Unlike" 497 (hR 272),hE P "LETTERS" 501 (hS "abcdefghijklmnopqrstuvwxyz" 500),hE P "MOST_SIGNS" 503 (.int (8) 502),hE P "MOST_ACTIONS" 505 (.int (8) 504),hE P "MOST_ROOMS" 507 (.int (2000) 506),hE P "is_name" 513 (hR 279),hE P "is_action_list" 519 (hR 284),hE P "need_actions" 526 (hR 291),hE P "is_room" 534 (hR 298),hE P "is_told_door" 544 (hR 305),hE P "need_rooms" 557 (hR 312),hE P "made_door" 565 (hR 319),hE P "made_room" 571 (hR 324),hE P "told_room" 577 (hR 329),hE P "Draft" 657 (hR 391),hE P "Plan" 680 (hR 412),hE P "need_same" 688 (hR 421),hE P "led_room" 694 (hR 426),hE P "begun" 700 (hR 431),hE P "free_plan" 706 (hR 436),hE P "_law_cell_at" 716 (hR 443),hE P "_law_mixed" 725 (hR 450),hE P "_law_names" 731 (hR 455),hE P "_law_door" 739 (hR 462),hE P "_law_rooms" 745 (hR 467),hE P "_law_turned" 751 (hR 472),hE P "_law_names_told" 763 (hR 479),hE P "_law_others" 774 (hR 486),hE P "_law_another" 780 (hR 491),hE P "_law_unlike" 790 (hR 498),hE P "_law_no_actions" 801 (hR 505),hE P "law" 807 (hR 510)]
def o3:=hN [hI 1,hI 0,hR 20,hI 5,hI 0,hR 27,hI 12,hI 0,hR 55,hI 25,hI 0,hR 95,hI 38,hI 0,hR 135,hI 54,hI 0,hR 182,hI 70,hI 0,hR 229,hI 79,hI 0,hR 236,hI 81,hI 0,hR 249,hI 87,hI 0,hR 268,hI 94,hI 0,hR 278,hI 98,hI 0,hR 283,hI 102,hI 0,hR 290,hI 105,hI 0,hR 297,hI 107,hI 0,hR 304,hI 116,hI 0,hR 311,hI 125,hI 0,hR 318,hI 128,hI 0,hR 323,hI 130,hI 0,hR 328,hI 132,hI 0,hR 335,hI 161,hI 0,hR 401,hI 165,hI 0,hR 420,hI 168,hI 0,hR 425,hI 170,hI 0,hR 430,hI 174,hI 0,hR 435,hI 178,hI 0,hR 442,hI 182,hI 0,hR 449,hI 186,hI 0,hR 454,hI 198,hI 0,hR 461,hI 202,hI 0,hR 466,hI 209,hI 0,hR 471,hI 220,hI 0,hR 478,hI 230,hI 0,hR 485,hI 240,hI 0,hR 490,hI 242,hI 0,hR 497,hI 249,hI 0,hR 504,hI 257,hI 0,hR 509]
def o4:=hT [hS "k" 190]
def o5:=hC "_wall" "_wall" (top 0)
def o6:=hK [hS "_wall" 187,hS "_wall" 188,hS "/claim/cut.py" 189,hI 1,hI 1,hI 0,hI 0,hI 3,hR 15,.bool true,hI 181,hR 16,.none,hR 17,hR 18,hR 19,hI 191,hI 1,hS "/claim/cut.py" 192]
def o7:=hF "_wall" "_wall" (top 0) (hS "__main__" 164) (hR 20)
def o8:Obj:=⟨(.type "builtin_function_or_method"),none,(.fields (Array.mk [.builtin "type.__prepare__",.type "type"])),Array.mk []⟩
def o9:=hDn 6 [hE P "__module__" 203 (hS "mustmay.doors" 194),hE P "__qualname__" 205 (hS "Door" 204),hE P "__firstlineno__" 207 (.int (5) 206),hE P "__init__" 215 (hR 35),hE P "told" 222 (hR 42),hE P "__static_attributes__" 224 (hR 43)]
def o10:=hN [hI 7,hI 4,hR 34,hI 10,hI 4,hR 41]
def o11:=hK [hS "Door" 198,hS "Door" 199,hS "/claim/cut.py" 200,hI 5,hI 0,hI 0,hI 0,hI 0,hR 25,.bool false,hI 181,hR 26,.none,.none,.none,.none,hI 201,hI 5,hS "/claim/cut.py" 202]
def o12:Obj:=⟨(.type "frame"),none,.plain,Array.mk [some (hR 27),some (hR 3),some (hR 24),none,some (hS "mustmay.doors" 194),none,some (hR 0)]⟩
def o13:=hT [hS "self" 211,hS "to" 212]
def o14:=hC "__init__" "Door.__init__" (inClass (top 2) 0)
def o15:=hK [hS "__init__" 208,hS "Door.__init__" 209,hS "/claim/cut.py" 210,hI 7,hI 2,hI 0,hI 0,hI 3,hR 29,.bool true,hI 181,hR 30,.none,hR 31,hR 32,hR 33,hI 213,hI 7,hS "/claim/cut.py" 214]
def o16:=hF "__init__" "Door.__init__" (inClass (top 2) 0) (hS "mustmay.doors" 194) (hR 34)
def o17:=hT [hS "self" 219]
def o18:=hC "told" "Door.told" (inClass (top 2) 1)
def o19:=hK [hS "told" 216,hS "Door.told" 217,hS "/claim/cut.py" 218,hI 10,hI 1,hI 0,hI 0,hI 3,hR 36,.bool true,hI 181,hR 37,.none,hR 38,hR 39,hR 40,hI 220,hI 10,hS "/claim/cut.py" 221]
def o20:=hF "told" "Door.told" (inClass (top 2) 1) (hS "mustmay.doors" 194) (hR 41)
def o21:=hT [hS "to" 223]
def o22:=hDn 4 [hE P "__module__" 203 (hS "mustmay.doors" 194),hE P "__firstlineno__" 207 (.int (5) 206),hE P "__init__" 215 (hR 35),hE P "told" 222 (hR 42),hE P "__static_attributes__" 224 (hR 43),hE P "__dict__" 226 (hR 46),hE P "__weakref__" 228 (hR 47),hE P "__doc__" 229 .none]
def o23:Obj:=⟨(.type "type"),none,(.cls ⟨"Door",[.type "object"],[hR 45,.type "object"],44,"Door",true,[],[hR 87,hR 127,hR 174,hR 221],false,none,false⟩),Array.mk [none,none,some (hS "Door" 196),some (hS "Door" 204),some (.builtin "object.__new__"),some (.bool true)]⟩
def o24:Obj:=⟨(.type "getset_descriptor"),none,(.fields (Array.mk [hS "__dict__" 225,hR 45,.builtin "function.__dict__",.builtin "function.__dict__#set"])),Array.mk []⟩
def o25:Obj:=⟨(.type "getset_descriptor"),none,(.fields (Array.mk [hS "__weakref__" 227,hR 45,.builtin "ExceptionGroup.__weakref__",.none])),Array.mk []⟩
def o26:Obj:=⟨(.type "super"),none,(.fields (Array.mk [hR 45,hR 45,hR 45])),Array.mk []⟩
def o27:Obj:=⟨(.type "builtin_function_or_method"),none,(.fields (Array.mk [.builtin "object.__init_subclass__",hR 45])),Array.mk []⟩
def o28:=hDn 8 [hE P "__module__" 239 (hS "mustmay.doors" 194),hE P "__qualname__" 241 (hS "Must" 240),hE P "__firstlineno__" 243 (.int (12) 242),hE P "word" 250 (hR 63),hE P "needs" 257 (hR 70),hE P "allows" 264 (hR 77),hE P "led" 272 (hR 84),hE P "__static_attributes__" 273 (hR 85)]
def o29:=hN [hI 14,hI 4,hR 62,hI 17,hI 4,hR 69,hI 20,hI 4,hR 76,hI 23,hI 4,hR 83]
def o30:=hK [hS "Must" 234,hS "Must" 235,hS "/claim/cut.py" 236,hI 12,hI 0,hI 0,hI 0,hI 0,hR 53,.bool false,hI 181,hR 54,.none,.none,.none,.none,hI 237,hI 12,hS "/claim/cut.py" 238]
def o31:Obj:=⟨(.type "frame"),none,.plain,Array.mk [some (hR 55),some (hR 3),some (hR 52),none,some (hS "mustmay.doors" 194),none,some (hR 0)]⟩
def o32:=hT [hS "self" 247]
def o33:=hC "word" "Must.word" (inClass (top 3) 0)
def o34:=hK [hS "word" 244,hS "Must.word" 245,hS "/claim/cut.py" 246,hI 14,hI 1,hI 0,hI 0,hI 3,hR 57,.bool true,hI 181,hR 58,.none,hR 59,hR 60,hR 61,hI 248,hI 14,hS "/claim/cut.py" 249]
def o35:=hF "word" "Must.word" (inClass (top 3) 0) (hS "mustmay.doors" 194) (hR 62)
def o36:=hT [hS "self" 254]
def o37:=hC "needs" "Must.needs" (inClass (top 3) 1)
def o38:=hK [hS "needs" 251,hS "Must.needs" 252,hS "/claim/cut.py" 253,hI 17,hI 1,hI 0,hI 0,hI 3,hR 64,.bool true,hI 181,hR 65,.none,hR 66,hR 67,hR 68,hI 255,hI 17,hS "/claim/cut.py" 256]
def o39:=hF "needs" "Must.needs" (inClass (top 3) 1) (hS "mustmay.doors" 194) (hR 69)
def o40:=hT [hS "self" 261]
def o41:=hC "allows" "Must.allows" (inClass (top 3) 2)
def o42:=hK [hS "allows" 258,hS "Must.allows" 259,hS "/claim/cut.py" 260,hI 20,hI 1,hI 0,hI 0,hI 3,hR 71,.bool true,hI 181,hR 72,.none,hR 73,hR 74,hR 75,hI 262,hI 20,hS "/claim/cut.py" 263]
def o43:=hF "allows" "Must.allows" (inClass (top 3) 2) (hS "mustmay.doors" 194) (hR 76)
def o44:=hT [hS "self" 268,hS "to" 269]
def o45:=hC "led" "Must.led" (inClass (top 3) 3)
def o46:=hK [hS "led" 265,hS "Must.led" 266,hS "/claim/cut.py" 267,hI 23,hI 2,hI 0,hI 0,hI 3,hR 78,.bool true,hI 181,hR 79,.none,hR 80,hR 81,hR 82,hI 270,hI 23,hS "/claim/cut.py" 271]
def o47:=hF "led" "Must.led" (inClass (top 3) 3) (hS "mustmay.doors" 194) (hR 83)
def o48:=hDn 2 [hE P "__module__" 239 (hS "mustmay.doors" 194),hE P "__firstlineno__" 243 (.int (12) 242),hE P "word" 250 (hR 63),hE P "needs" 257 (hR 70),hE P "allows" 264 (hR 77),hE P "led" 272 (hR 84),hE P "__static_attributes__" 273 (hR 85),hE P "__doc__" 274 .none]
def o49:Obj:=⟨(.type "type"),none,(.cls ⟨"Must",[hR 45],[hR 87,hR 45,.type "object"],86,"Must",true,[],[],false,none,false⟩),Array.mk [some (hR 50),none,some (hS "Must" 232),some (hS "Must" 240),some (.builtin "object.__new__"),some (.bool true)]⟩
def o50:Obj:=⟨(.type "super"),none,(.fields (Array.mk [hR 87,hR 87,hR 87])),Array.mk []⟩
def o51:Obj:=⟨(.type "builtin_function_or_method"),none,(.fields (Array.mk [.builtin "object.__init_subclass__",hR 87])),Array.mk []⟩
def o52:=hDn 8 [hE P "__module__" 284 (hS "mustmay.doors" 194),hE P "__qualname__" 286 (hS "May" 285),hE P "__firstlineno__" 288 (.int (25) 287),hE P "word" 295 (hR 103),hE P "needs" 302 (hR 110),hE P "allows" 309 (hR 117),hE P "led" 317 (hR 124),hE P "__static_attributes__" 318 (hR 125)]
def o53:=hN [hI 27,hI 4,hR 102,hI 30,hI 4,hR 109,hI 33,hI 4,hR 116,hI 36,hI 4,hR 123]
def o54:=hK [hS "May" 279,hS "May" 280,hS "/claim/cut.py" 281,hI 25,hI 0,hI 0,hI 0,hI 0,hR 93,.bool false,hI 181,hR 94,.none,.none,.none,.none,hI 282,hI 25,hS "/claim/cut.py" 283]
def o55:Obj:=⟨(.type "frame"),none,.plain,Array.mk [some (hR 95),some (hR 3),some (hR 92),none,some (hS "mustmay.doors" 194),none,some (hR 0)]⟩
def o56:=hT [hS "self" 292]
def o57:=hC "word" "May.word" (inClass (top 4) 0)
def o58:=hK [hS "word" 289,hS "May.word" 290,hS "/claim/cut.py" 291,hI 27,hI 1,hI 0,hI 0,hI 3,hR 97,.bool true,hI 181,hR 98,.none,hR 99,hR 100,hR 101,hI 293,hI 27,hS "/claim/cut.py" 294]
def o59:=hF "word" "May.word" (inClass (top 4) 0) (hS "mustmay.doors" 194) (hR 102)
def o60:=hT [hS "self" 299]
def o61:=hC "needs" "May.needs" (inClass (top 4) 1)
def o62:=hK [hS "needs" 296,hS "May.needs" 297,hS "/claim/cut.py" 298,hI 30,hI 1,hI 0,hI 0,hI 3,hR 104,.bool true,hI 181,hR 105,.none,hR 106,hR 107,hR 108,hI 300,hI 30,hS "/claim/cut.py" 301]
def o63:=hF "needs" "May.needs" (inClass (top 4) 1) (hS "mustmay.doors" 194) (hR 109)
def o64:=hT [hS "self" 306]
def o65:=hC "allows" "May.allows" (inClass (top 4) 2)
def o66:=hK [hS "allows" 303,hS "May.allows" 304,hS "/claim/cut.py" 305,hI 33,hI 1,hI 0,hI 0,hI 3,hR 111,.bool true,hI 181,hR 112,.none,hR 113,hR 114,hR 115,hI 307,hI 33,hS "/claim/cut.py" 308]
def o67:=hF "allows" "May.allows" (inClass (top 4) 2) (hS "mustmay.doors" 194) (hR 116)
def o68:=hT [hS "self" 313,hS "to" 314]
def o69:=hC "led" "May.led" (inClass (top 4) 3)
def o70:=hK [hS "led" 310,hS "May.led" 311,hS "/claim/cut.py" 312,hI 36,hI 2,hI 0,hI 0,hI 3,hR 118,.bool true,hI 181,hR 119,.none,hR 120,hR 121,hR 122,hI 315,hI 36,hS "/claim/cut.py" 316]
def o71:=hF "led" "May.led" (inClass (top 4) 3) (hS "mustmay.doors" 194) (hR 123)
def o72:=hDn 2 [hE P "__module__" 284 (hS "mustmay.doors" 194),hE P "__firstlineno__" 288 (.int (25) 287),hE P "word" 295 (hR 103),hE P "needs" 302 (hR 110),hE P "allows" 309 (hR 117),hE P "led" 317 (hR 124),hE P "__static_attributes__" 318 (hR 125),hE P "__doc__" 319 .none]
def o73:Obj:=⟨(.type "type"),none,(.cls ⟨"May",[hR 45],[hR 127,hR 45,.type "object"],126,"May",true,[],[],false,none,false⟩),Array.mk [some (hR 90),none,some (hS "May" 277),some (hS "May" 285),some (.builtin "object.__new__"),some (.bool true)]⟩
def o74:Obj:=⟨(.type "super"),none,(.fields (Array.mk [hR 127,hR 127,hR 127])),Array.mk []⟩
def o75:Obj:=⟨(.type "builtin_function_or_method"),none,(.fields (Array.mk [.builtin "object.__init_subclass__",hR 127])),Array.mk []⟩
def o76:=hDn 9 [hE P "__module__" 329 (hS "mustmay.doors" 194),hE P "__qualname__" 331 (hS "Shut" 330),hE P "__firstlineno__" 333 (.int (38) 332),hE P "__init__" 340 (hR 143),hE P "word" 347 (hR 150),hE P "needs" 354 (hR 157),hE P "allows" 361 (hR 164),hE P "led" 369 (hR 171),hE P "__static_attributes__" 370 (hR 172)]
def o77:=hN [hI 40,hI 4,hR 142,hI 43,hI 4,hR 149,hI 46,hI 4,hR 156,hI 49,hI 4,hR 163,hI 52,hI 4,hR 170]
def o78:=hK [hS "Shut" 324,hS "Shut" 325,hS "/claim/cut.py" 326,hI 38,hI 0,hI 0,hI 0,hI 0,hR 133,.bool false,hI 181,hR 134,.none,.none,.none,.none,hI 327,hI 38,hS "/claim/cut.py" 328]
def o79:Obj:=⟨(.type "frame"),none,.plain,Array.mk [some (hR 135),some (hR 3),some (hR 132),none,some (hS "mustmay.doors" 194),none,some (hR 0)]⟩
def o80:=hT [hS "self" 337]
def o81:=hC "__init__" "Shut.__init__" (inClass (top 5) 0)
def o82:=hK [hS "__init__" 334,hS "Shut.__init__" 335,hS "/claim/cut.py" 336,hI 40,hI 1,hI 0,hI 0,hI 3,hR 137,.bool true,hI 181,hR 138,.none,hR 139,hR 140,hR 141,hI 338,hI 40,hS "/claim/cut.py" 339]
def o83:=hF "__init__" "Shut.__init__" (inClass (top 5) 0) (hS "mustmay.doors" 194) (hR 142)
def o84:=hT [hS "self" 344]
def o85:=hC "word" "Shut.word" (inClass (top 5) 1)
def o86:=hK [hS "word" 341,hS "Shut.word" 342,hS "/claim/cut.py" 343,hI 43,hI 1,hI 0,hI 0,hI 3,hR 144,.bool true,hI 181,hR 145,.none,hR 146,hR 147,hR 148,hI 345,hI 43,hS "/claim/cut.py" 346]
def o87:=hF "word" "Shut.word" (inClass (top 5) 1) (hS "mustmay.doors" 194) (hR 149)
def o88:=hT [hS "self" 351]
def o89:=hC "needs" "Shut.needs" (inClass (top 5) 2)
def o90:=hK [hS "needs" 348,hS "Shut.needs" 349,hS "/claim/cut.py" 350,hI 46,hI 1,hI 0,hI 0,hI 3,hR 151,.bool true,hI 181,hR 152,.none,hR 153,hR 154,hR 155,hI 352,hI 46,hS "/claim/cut.py" 353]
def o91:=hF "needs" "Shut.needs" (inClass (top 5) 2) (hS "mustmay.doors" 194) (hR 156)
def o92:=hT [hS "self" 358]
def o93:=hC "allows" "Shut.allows" (inClass (top 5) 3)
def o94:=hK [hS "allows" 355,hS "Shut.allows" 356,hS "/claim/cut.py" 357,hI 49,hI 1,hI 0,hI 0,hI 3,hR 158,.bool true,hI 181,hR 159,.none,hR 160,hR 161,hR 162,hI 359,hI 49,hS "/claim/cut.py" 360]
def o95:=hF "allows" "Shut.allows" (inClass (top 5) 3) (hS "mustmay.doors" 194) (hR 163)
def o96:=hT [hS "self" 365,hS "to" 366]
def o97:=hC "led" "Shut.led" (inClass (top 5) 4)
def o98:=hK [hS "led" 362,hS "Shut.led" 363,hS "/claim/cut.py" 364,hI 52,hI 2,hI 0,hI 0,hI 3,hR 165,.bool true,hI 181,hR 166,.none,hR 167,hR 168,hR 169,hI 367,hI 52,hS "/claim/cut.py" 368]
def o99:=hF "led" "Shut.led" (inClass (top 5) 4) (hS "mustmay.doors" 194) (hR 170)
def o100:=hDn 2 [hE P "__module__" 329 (hS "mustmay.doors" 194),hE P "__firstlineno__" 333 (.int (38) 332),hE P "__init__" 340 (hR 143),hE P "word" 347 (hR 150),hE P "needs" 354 (hR 157),hE P "allows" 361 (hR 164),hE P "led" 369 (hR 171),hE P "__static_attributes__" 370 (hR 172),hE P "__doc__" 371 .none]
def o101:Obj:=⟨(.type "type"),none,(.cls ⟨"Shut",[hR 45],[hR 174,hR 45,.type "object"],173,"Shut",true,[],[],false,none,false⟩),Array.mk [some (hR 130),none,some (hS "Shut" 322),some (hS "Shut" 330),some (.builtin "object.__new__"),some (.bool true)]⟩
def o102:Obj:=⟨(.type "super"),none,(.fields (Array.mk [hR 174,hR 174,hR 174])),Array.mk []⟩
def o103:Obj:=⟨(.type "builtin_function_or_method"),none,(.fields (Array.mk [.builtin "object.__init_subclass__",hR 174])),Array.mk []⟩
def o104:=hDn 9 [hE P "__module__" 381 (hS "mustmay.doors" 194),hE P "__qualname__" 383 (hS "Torn" 382),hE P "__firstlineno__" 385 (.int (54) 384),hE P "__init__" 392 (hR 190),hE P "word" 399 (hR 197),hE P "needs" 406 (hR 204),hE P "allows" 413 (hR 211),hE P "led" 421 (hR 218),hE P "__static_attributes__" 422 (hR 219)]
def o105:=hN [hI 56,hI 4,hR 189,hI 59,hI 4,hR 196,hI 62,hI 4,hR 203,hI 65,hI 4,hR 210,hI 68,hI 4,hR 217]
def o106:=hK [hS "Torn" 376,hS "Torn" 377,hS "/claim/cut.py" 378,hI 54,hI 0,hI 0,hI 0,hI 0,hR 180,.bool false,hI 181,hR 181,.none,.none,.none,.none,hI 379,hI 54,hS "/claim/cut.py" 380]
def o107:Obj:=⟨(.type "frame"),none,.plain,Array.mk [some (hR 182),some (hR 3),some (hR 179),none,some (hS "mustmay.doors" 194),none,some (hR 0)]⟩
def o108:=hT [hS "self" 389]
def o109:=hC "__init__" "Torn.__init__" (inClass (top 6) 0)
def o110:=hK [hS "__init__" 386,hS "Torn.__init__" 387,hS "/claim/cut.py" 388,hI 56,hI 1,hI 0,hI 0,hI 3,hR 184,.bool true,hI 181,hR 185,.none,hR 186,hR 187,hR 188,hI 390,hI 56,hS "/claim/cut.py" 391]
def o111:=hF "__init__" "Torn.__init__" (inClass (top 6) 0) (hS "mustmay.doors" 194) (hR 189)
def o112:=hT [hS "self" 396]
def o113:=hC "word" "Torn.word" (inClass (top 6) 1)
def o114:=hK [hS "word" 393,hS "Torn.word" 394,hS "/claim/cut.py" 395,hI 59,hI 1,hI 0,hI 0,hI 3,hR 191,.bool true,hI 181,hR 192,.none,hR 193,hR 194,hR 195,hI 397,hI 59,hS "/claim/cut.py" 398]
def o115:=hF "word" "Torn.word" (inClass (top 6) 1) (hS "mustmay.doors" 194) (hR 196)
def o116:=hT [hS "self" 403]
def o117:=hC "needs" "Torn.needs" (inClass (top 6) 2)
def o118:=hK [hS "needs" 400,hS "Torn.needs" 401,hS "/claim/cut.py" 402,hI 62,hI 1,hI 0,hI 0,hI 3,hR 198,.bool true,hI 181,hR 199,.none,hR 200,hR 201,hR 202,hI 404,hI 62,hS "/claim/cut.py" 405]
def o119:=hF "needs" "Torn.needs" (inClass (top 6) 2) (hS "mustmay.doors" 194) (hR 203)
def o120:=hT [hS "self" 410]
def o121:=hC "allows" "Torn.allows" (inClass (top 6) 3)
def o122:=hK [hS "allows" 407,hS "Torn.allows" 408,hS "/claim/cut.py" 409,hI 65,hI 1,hI 0,hI 0,hI 3,hR 205,.bool true,hI 181,hR 206,.none,hR 207,hR 208,hR 209,hI 411,hI 65,hS "/claim/cut.py" 412]
def o123:=hF "allows" "Torn.allows" (inClass (top 6) 3) (hS "mustmay.doors" 194) (hR 210)
def o124:=hT [hS "self" 417,hS "to" 418]
def o125:=hC "led" "Torn.led" (inClass (top 6) 4)
def o126:=hK [hS "led" 414,hS "Torn.led" 415,hS "/claim/cut.py" 416,hI 68,hI 2,hI 0,hI 0,hI 3,hR 212,.bool true,hI 181,hR 213,.none,hR 214,hR 215,hR 216,hI 419,hI 68,hS "/claim/cut.py" 420]
def o127:=hF "led" "Torn.led" (inClass (top 6) 4) (hS "mustmay.doors" 194) (hR 217)
def o128:=hDn 2 [hE P "__module__" 381 (hS "mustmay.doors" 194),hE P "__firstlineno__" 385 (.int (54) 384),hE P "__init__" 392 (hR 190),hE P "word" 399 (hR 197),hE P "needs" 406 (hR 204),hE P "allows" 413 (hR 211),hE P "led" 421 (hR 218),hE P "__static_attributes__" 422 (hR 219),hE P "__doc__" 423 .none]
def o129:Obj:=⟨(.type "type"),none,(.cls ⟨"Torn",[hR 45],[hR 221,hR 45,.type "object"],220,"Torn",true,[],[],false,none,false⟩),Array.mk [some (hR 177),none,some (hS "Torn" 374),some (hS "Torn" 382),some (.builtin "object.__new__"),some (.bool true)]⟩
def o130:Obj:=⟨(.type "super"),none,(.fields (Array.mk [hR 221,hR 221,hR 221])),Array.mk []⟩
def o131:Obj:=⟨(.type "builtin_function_or_method"),none,(.fields (Array.mk [.builtin "object.__init_subclass__",hR 221])),Array.mk []⟩
def o132:=hT [hS "needs" 429,hS "allows" 430,hS "to" 431]
def o133:=hC "door_of" "door_of" (top 7)
def o134:=hK [hS "door_of" 426,hS "door_of" 427,hS "/claim/cut.py" 428,hI 70,hI 3,hI 0,hI 0,hI 3,hR 224,.bool true,hI 181,hR 225,.none,hR 226,hR 227,hR 228,hI 432,hI 70,hS "/claim/cut.py" 433]
def o135:=hF "door_of" "door_of" (top 7) (hS "mustmay.doors" 194) (hR 229)
def o136:=hT [.type "ValueError"]
def o137:=hDn 4 [hE P "__module__" 444 (hS "mustmay.errors" 435),hE P "__qualname__" 446 (hS "HallError" 445),hE P "__firstlineno__" 448 (.int (79) 447),hE P "__static_attributes__" 449 (hR 238)]
def o138:=hK [hS "HallError" 439,hS "HallError" 440,hS "/claim/cut.py" 441,hI 79,hI 0,hI 0,hI 0,hI 0,hR 234,.bool false,hI 181,hR 235,.none,.none,.none,.none,hI 442,hI 79,hS "/claim/cut.py" 443]
def o139:Obj:=⟨(.type "frame"),none,.plain,Array.mk [some (hR 236),some (hR 3),some (hR 233),none,some (hS "mustmay.errors" 435),none,some (hR 0)]⟩
def o140:=hDn 3 [hE P "__module__" 444 (hS "mustmay.errors" 435),hE P "__firstlineno__" 448 (.int (79) 447),hE P "__static_attributes__" 449 (hR 238),hE P "__weakref__" 451 (hR 241),hE P "__doc__" 452 .none]
def o141:Obj:=⟨(.type "type"),none,(.cls ⟨"HallError",[.type "ValueError"],[hR 240,.type "ValueError",.type "Exception",.type "BaseException",.type "object"],239,"HallError",true,[],[hR 260,hR 272],false,none,false⟩),Array.mk [some (hR 231),none,some (hS "HallError" 437),some (hS "HallError" 445),some (.builtin "ValueError.__new__"),some (.bool true)]⟩
def o142:Obj:=⟨(.type "getset_descriptor"),none,(.fields (Array.mk [hS "__weakref__" 450,hR 240,.builtin "ExceptionGroup.__weakref__",.none])),Array.mk []⟩
def o143:Obj:=⟨(.type "super"),none,(.fields (Array.mk [hR 240,hR 240,hR 240])),Array.mk []⟩
def o144:Obj:=⟨(.type "builtin_function_or_method"),none,(.fields (Array.mk [.builtin "object.__init_subclass__",hR 240])),Array.mk []⟩
def o145:=hDn 5 [hE P "__module__" 462 (hS "mustmay.errors" 435),hE P "__qualname__" 464 (hS "BadPlan" 463),hE P "__firstlineno__" 466 (.int (81) 465),hE P "__init__" 475 (hR 257),hE P "__static_attributes__" 478 (hR 258)]
def o146:=hN [hI 83,hI 4,hR 256]
def o147:=hK [hS "BadPlan" 457,hS "BadPlan" 458,hS "/claim/cut.py" 459,hI 81,hI 0,hI 0,hI 0,hI 0,hR 247,.bool false,hI 181,hR 248,.none,.none,.none,.none,hI 460,hI 81,hS "/claim/cut.py" 461]
def o148:Obj:=⟨(.type "frame"),none,.plain,Array.mk [some (hR 249),some (hR 3),some (hR 246),none,some (hS "mustmay.errors" 435),none,some (hR 0)]⟩
def o149:=hT [hS "self" 470,hS "room" 471,hS "action" 472]
def o150:=hC "__init__" "BadPlan.__init__" (inClass (top 10) 0)
def o151:=hK [hS "__init__" 467,hS "BadPlan.__init__" 468,hS "/claim/cut.py" 469,hI 83,hI 3,hI 0,hI 0,hI 3,hR 251,.bool true,hI 181,hR 252,.none,hR 253,hR 254,hR 255,hI 473,hI 83,hS "/claim/cut.py" 474]
def o152:=hF "__init__" "BadPlan.__init__" (inClass (top 10) 0) (hS "mustmay.errors" 435) (hR 256)
def o153:=hT [hS "action" 476,hS "room" 477]
def o154:=hDn 2 [hE P "__module__" 462 (hS "mustmay.errors" 435),hE P "__firstlineno__" 466 (.int (81) 465),hE P "__init__" 475 (hR 257),hE P "__static_attributes__" 478 (hR 258),hE P "__doc__" 479 .none]
def o155:Obj:=⟨(.type "type"),none,(.cls ⟨"BadPlan",[hR 240],[hR 260,hR 240,.type "ValueError",.type "Exception",.type "BaseException",.type "object"],259,"BadPlan",true,[],[],false,none,false⟩),Array.mk [some (hR 244),none,some (hS "BadPlan" 455),some (hS "BadPlan" 463),some (.builtin "ValueError.__new__"),some (.bool true)]⟩
def o156:Obj:=⟨(.type "super"),none,(.fields (Array.mk [hR 260,hR 260,hR 260])),Array.mk []⟩
def o157:Obj:=⟨(.type "builtin_function_or_method"),none,(.fields (Array.mk [.builtin "object.__init_subclass__",hR 260])),Array.mk []⟩
def o158:=hDn 4 [hE P "__module__" 489 (hS "mustmay.errors" 435),hE P "__qualname__" 491 (hS "Unlike" 490),hE P "__firstlineno__" 493 (.int (87) 492),hE P "__static_attributes__" 494 (hR 270)]
def o159:=hK [hS "Unlike" 484,hS "Unlike" 485,hS "/claim/cut.py" 486,hI 87,hI 0,hI 0,hI 0,hI 0,hR 266,.bool false,hI 181,hR 267,.none,.none,.none,.none,hI 487,hI 87,hS "/claim/cut.py" 488]
def o160:Obj:=⟨(.type "frame"),none,.plain,Array.mk [some (hR 268),some (hR 3),some (hR 265),none,some (hS "mustmay.errors" 435),none,some (hR 0)]⟩
def o161:=hDn 2 [hE P "__module__" 489 (hS "mustmay.errors" 435),hE P "__firstlineno__" 493 (.int (87) 492),hE P "__static_attributes__" 494 (hR 270),hE P "__doc__" 495 .none]
def o162:Obj:=⟨(.type "type"),none,(.cls ⟨"Unlike",[hR 240],[hR 272,hR 240,.type "ValueError",.type "Exception",.type "BaseException",.type "object"],271,"Unlike",true,[],[],false,none,false⟩),Array.mk [some (hR 263),none,some (hS "Unlike" 482),some (hS "Unlike" 490),some (.builtin "ValueError.__new__"),some (.bool true)]⟩
def o163:Obj:=⟨(.type "super"),none,(.fields (Array.mk [hR 272,hR 272,hR 272])),Array.mk []⟩
def o164:Obj:=⟨(.type "builtin_function_or_method"),none,(.fields (Array.mk [.builtin "object.__init_subclass__",hR 272])),Array.mk []⟩
def o165:=hC "is_name" "is_name" (top 17)
def o166:=hK [hS "is_name" 508,hS "is_name" 509,hS "/claim/cut.py" 510,hI 94,hI 1,hI 0,hI 0,hI 3,hR 275,.bool true,hI 181,hR 276,.none,.none,.none,hR 277,hI 511,hI 94,hS "/claim/cut.py" 512]
def o167:=hF "is_name" "is_name" (top 17) (hS "mustmay.plans" 498) (hR 278)
def o168:=hC "is_action_list" "is_action_list" (top 18)
def o169:=hK [hS "is_action_list" 514,hS "is_action_list" 515,hS "/claim/cut.py" 516,hI 98,hI 1,hI 0,hI 0,hI 3,hR 280,.bool true,hI 181,hR 281,.none,.none,.none,hR 282,hI 517,hI 98,hS "/claim/cut.py" 518]
def o170:=hF "is_action_list" "is_action_list" (top 18) (hS "mustmay.plans" 498) (hR 283)
def o171:=hT [hS "actions" 523]
def o172:=hC "need_actions" "need_actions" (top 19)
def o173:=hK [hS "need_actions" 520,hS "need_actions" 521,hS "/claim/cut.py" 522,hI 102,hI 1,hI 0,hI 0,hI 3,hR 285,.bool true,hI 181,hR 286,.none,hR 287,hR 288,hR 289,hI 524,hI 102,hS "/claim/cut.py" 525]
def o174:=hF "need_actions" "need_actions" (top 19) (hS "mustmay.plans" 498) (hR 290)
def o175:=hT [hS "thing" 530,hS "many" 531]
def o176:=hC "is_room" "is_room" (top 20)
def o177:=hK [hS "is_room" 527,hS "is_room" 528,hS "/claim/cut.py" 529,hI 105,hI 2,hI 0,hI 0,hI 3,hR 292,.bool true,hI 181,hR 293,.none,hR 294,hR 295,hR 296,hI 532,hI 105,hS "/claim/cut.py" 533]
def o178:=hF "is_room" "is_room" (top 20) (hS "mustmay.plans" 498) (hR 297)
def o179:=hT [hS "thing" 538,hS "many" 539,hS "torn_too" 540,hS "word" 541]
def o180:=hC "is_told_door" "is_told_door" (top 21)
def o181:=hK [hS "is_told_door" 535,hS "is_told_door" 536,hS "/claim/cut.py" 537,hI 107,hI 3,hI 0,hI 0,hI 3,hR 299,.bool true,hI 181,hR 300,.none,hR 301,hR 302,hR 303,hI 542,hI 107,hS "/claim/cut.py" 543]
def o182:=hF "is_told_door" "is_told_door" (top 21) (hS "mustmay.plans" 498) (hR 304)
def o183:=hT [hS "rows" 548,hS "many_actions" 549,hS "torn_too" 550,hS "room" 551,hS "row" 552,hS "action" 553,hS "thing" 554]
def o184:=hC "need_rooms" "need_rooms" (top 22)
def o185:=hK [hS "need_rooms" 545,hS "need_rooms" 546,hS "/claim/cut.py" 547,hI 116,hI 3,hI 0,hI 0,hI 3,hR 306,.bool true,hI 181,hR 307,.none,hR 308,hR 309,hR 310,hI 555,hI 116,hS "/claim/cut.py" 556]
def o186:=hF "need_rooms" "need_rooms" (top 22) (hS "mustmay.plans" 498) (hR 311)
def o187:=hT [hS "told" 561,hS "word" 562]
def o188:=hC "made_door" "made_door" (top 23)
def o189:=hK [hS "made_door" 558,hS "made_door" 559,hS "/claim/cut.py" 560,hI 125,hI 1,hI 0,hI 0,hI 3,hR 313,.bool true,hI 181,hR 314,.none,hR 315,hR 316,hR 317,hI 563,hI 125,hS "/claim/cut.py" 564]
def o190:=hF "made_door" "made_door" (top 23) (hS "mustmay.plans" 498) (hR 318)
def o191:=hC "made_room" "made_room" (top 24)
def o192:=hK [hS "made_room" 566,hS "made_room" 567,hS "/claim/cut.py" 568,hI 128,hI 1,hI 0,hI 0,hI 3,hR 320,.bool true,hI 181,hR 321,.none,.none,.none,hR 322,hI 569,hI 128,hS "/claim/cut.py" 570]
def o193:=hF "made_room" "made_room" (top 24) (hS "mustmay.plans" 498) (hR 323)
def o194:=hC "told_room" "told_room" (top 25)
def o195:=hK [hS "told_room" 572,hS "told_room" 573,hS "/claim/cut.py" 574,hI 130,hI 1,hI 0,hI 0,hI 3,hR 325,.bool true,hI 181,hR 326,.none,.none,.none,hR 327,hI 575,hI 130,hS "/claim/cut.py" 576]
def o196:=hF "told_room" "told_room" (top 25) (hS "mustmay.plans" 498) (hR 328)
def o197:=hDn 12 [hE P "__module__" 585 (hS "mustmay.plans" 498),hE P "__qualname__" 587 (hS "Draft" 586),hE P "__firstlineno__" 589 (.int (132) 588),hE P "__init__" 595 (hR 341),hE P "lets_torn" 602 (hR 348),hE P "action_list" 609 (hR 355),hE P "many" 616 (hR 362),hE P "door" 626 (hR 369),hE P "told" 632 (hR 374),hE P "after" 640 (hR 381),hE P "is_finished" 647 (hR 388),hE P "__static_attributes__" 650 (hR 389)]
def o198:=hN [hI 134,hI 4,hR 340,hI 140,hI 4,hR 347,hI 143,hI 4,hR 354,hI 146,hI 4,hR 361,hI 149,hI 4,hR 368,hI 153,hI 4,hR 373,hI 156,hI 4,hR 380,hI 159,hI 4,hR 387]
def o199:=hK [hS "Draft" 580,hS "Draft" 581,hS "/claim/cut.py" 582,hI 132,hI 0,hI 0,hI 0,hI 0,hR 333,.bool false,hI 181,hR 334,.none,.none,.none,.none,hI 583,hI 132,hS "/claim/cut.py" 584]
def o200:Obj:=⟨(.type "frame"),none,.plain,Array.mk [some (hR 335),some (hR 3),some (hR 332),none,some (hS "mustmay.plans" 498),none,some (hR 0)]⟩
def o201:=hC "__init__" "Draft.__init__" (inClass (top 26) 0)
def o202:=hK [hS "__init__" 590,hS "Draft.__init__" 591,hS "/claim/cut.py" 592,hI 134,hI 3,hI 0,hI 0,hI 3,hR 337,.bool true,hI 181,hR 338,.none,.none,.none,hR 339,hI 593,hI 134,hS "/claim/cut.py" 594]
def o203:=hF "__init__" "Draft.__init__" (inClass (top 26) 0) (hS "mustmay.plans" 498) (hR 340)
def o204:=hT [hS "self" 599]
def o205:=hC "lets_torn" "Draft.lets_torn" (inClass (top 26) 1)
def o206:=hK [hS "lets_torn" 596,hS "Draft.lets_torn" 597,hS "/claim/cut.py" 598,hI 140,hI 1,hI 0,hI 0,hI 3,hR 342,.bool true,hI 181,hR 343,.none,hR 344,hR 345,hR 346,hI 600,hI 140,hS "/claim/cut.py" 601]
def o207:=hF "lets_torn" "Draft.lets_torn" (inClass (top 26) 1) (hS "mustmay.plans" 498) (hR 347)
def o208:=hT [hS "self" 606]
def o209:=hC "action_list" "Draft.action_list" (inClass (top 26) 2)
def o210:=hK [hS "action_list" 603,hS "Draft.action_list" 604,hS "/claim/cut.py" 605,hI 143,hI 1,hI 0,hI 0,hI 3,hR 349,.bool true,hI 181,hR 350,.none,hR 351,hR 352,hR 353,hI 607,hI 143,hS "/claim/cut.py" 608]
def o211:=hF "action_list" "Draft.action_list" (inClass (top 26) 2) (hS "mustmay.plans" 498) (hR 354)
def o212:=hT [hS "self" 613]
def o213:=hC "many" "Draft.many" (inClass (top 26) 3)
def o214:=hK [hS "many" 610,hS "Draft.many" 611,hS "/claim/cut.py" 612,hI 146,hI 1,hI 0,hI 0,hI 3,hR 356,.bool true,hI 181,hR 357,.none,hR 358,hR 359,hR 360,hI 614,hI 146,hS "/claim/cut.py" 615]
def o215:=hF "many" "Draft.many" (inClass (top 26) 3) (hS "mustmay.plans" 498) (hR 361)
def o216:=hT [hS "self" 620,hS "room" 621,hS "action" 622,hS "kept" 623]
def o217:=hC "door" "Draft.door" (inClass (top 26) 4)
def o218:=hK [hS "door" 617,hS "Draft.door" 618,hS "/claim/cut.py" 619,hI 149,hI 3,hI 0,hI 0,hI 3,hR 363,.bool true,hI 181,hR 364,.none,hR 365,hR 366,hR 367,hI 624,hI 149,hS "/claim/cut.py" 625]
def o219:=hF "door" "Draft.door" (inClass (top 26) 4) (hS "mustmay.plans" 498) (hR 368)
def o220:=hC "told" "Draft.told" (inClass (top 26) 5)
def o221:=hK [hS "told" 627,hS "Draft.told" 628,hS "/claim/cut.py" 629,hI 153,hI 1,hI 0,hI 0,hI 3,hR 370,.bool true,hI 181,hR 371,.none,.none,.none,hR 372,hI 630,hI 153,hS "/claim/cut.py" 631]
def o222:=hF "told" "Draft.told" (inClass (top 26) 5) (hS "mustmay.plans" 498) (hR 373)
def o223:=hT [hS "self" 636,hS "row" 637]
def o224:=hC "after" "Draft.after" (inClass (top 26) 6)
def o225:=hK [hS "after" 633,hS "Draft.after" 634,hS "/claim/cut.py" 635,hI 156,hI 2,hI 0,hI 0,hI 3,hR 375,.bool true,hI 181,hR 376,.none,hR 377,hR 378,hR 379,hI 638,hI 156,hS "/claim/cut.py" 639]
def o226:=hF "after" "Draft.after" (inClass (top 26) 6) (hS "mustmay.plans" 498) (hR 380)
def o227:=hT [hS "self" 644]
def o228:=hC "is_finished" "Draft.is_finished" (inClass (top 26) 7)
def o229:=hK [hS "is_finished" 641,hS "Draft.is_finished" 642,hS "/claim/cut.py" 643,hI 159,hI 1,hI 0,hI 0,hI 3,hR 382,.bool true,hI 181,hR 383,.none,hR 384,hR 385,hR 386,hI 645,hI 159,hS "/claim/cut.py" 646]
def o230:=hF "is_finished" "Draft.is_finished" (inClass (top 26) 7) (hS "mustmay.plans" 498) (hR 387)
def o231:=hT [hS "actions" 648,hS "rooms" 649]
def o232:=hDn 4 [hE P "__module__" 585 (hS "mustmay.plans" 498),hE P "__firstlineno__" 589 (.int (132) 588),hE P "__init__" 595 (hR 341),hE P "lets_torn" 602 (hR 348),hE P "action_list" 609 (hR 355),hE P "many" 616 (hR 362),hE P "door" 626 (hR 369),hE P "told" 632 (hR 374),hE P "after" 640 (hR 381),hE P "is_finished" 647 (hR 388),hE P "__static_attributes__" 650 (hR 389),hE P "__dict__" 652 (hR 392),hE P "__weakref__" 654 (hR 393),hE P "__doc__" 655 .none]
def o233:Obj:=⟨(.type "type"),none,(.cls ⟨"Draft",[.type "object"],[hR 391,.type "object"],390,"Draft",true,[],[hR 412],false,none,false⟩),Array.mk [none,none,some (hS "Draft" 578),some (hS "Draft" 586),some (.builtin "object.__new__"),some (.bool true)]⟩
def o234:Obj:=⟨(.type "getset_descriptor"),none,(.fields (Array.mk [hS "__dict__" 651,hR 391,.builtin "function.__dict__",.builtin "function.__dict__#set"])),Array.mk []⟩
def o235:Obj:=⟨(.type "getset_descriptor"),none,(.fields (Array.mk [hS "__weakref__" 653,hR 391,.builtin "ExceptionGroup.__weakref__",.none])),Array.mk []⟩
def o236:Obj:=⟨(.type "super"),none,(.fields (Array.mk [hR 391,hR 391,hR 391])),Array.mk []⟩
def o237:Obj:=⟨(.type "builtin_function_or_method"),none,(.fields (Array.mk [.builtin "object.__init_subclass__",hR 391])),Array.mk []⟩
def o238:=hDn 5 [hE P "__module__" 665 (hS "mustmay.plans" 498),hE P "__qualname__" 667 (hS "Plan" 666),hE P "__firstlineno__" 669 (.int (161) 668),hE P "lets_torn" 676 (hR 409),hE P "__static_attributes__" 677 (hR 410)]
def o239:=hN [hI 163,hI 4,hR 408]
def o240:=hK [hS "Plan" 660,hS "Plan" 661,hS "/claim/cut.py" 662,hI 161,hI 0,hI 0,hI 0,hI 0,hR 399,.bool false,hI 181,hR 400,.none,.none,.none,.none,hI 663,hI 161,hS "/claim/cut.py" 664]
def o241:Obj:=⟨(.type "frame"),none,.plain,Array.mk [some (hR 401),some (hR 3),some (hR 398),none,some (hS "mustmay.plans" 498),none,some (hR 0)]⟩
def o242:=hT [hS "self" 673]
def o243:=hC "lets_torn" "Plan.lets_torn" (inClass (top 27) 0)
def o244:=hK [hS "lets_torn" 670,hS "Plan.lets_torn" 671,hS "/claim/cut.py" 672,hI 163,hI 1,hI 0,hI 0,hI 3,hR 403,.bool true,hI 181,hR 404,.none,hR 405,hR 406,hR 407,hI 674,hI 163,hS "/claim/cut.py" 675]
def o245:=hF "lets_torn" "Plan.lets_torn" (inClass (top 27) 0) (hS "mustmay.plans" 498) (hR 408)
def o246:=hDn 2 [hE P "__module__" 665 (hS "mustmay.plans" 498),hE P "__firstlineno__" 669 (.int (161) 668),hE P "lets_torn" 676 (hR 409),hE P "__static_attributes__" 677 (hR 410),hE P "__doc__" 678 .none]
def o247:Obj:=⟨(.type "type"),none,(.cls ⟨"Plan",[hR 391],[hR 412,hR 391,.type "object"],411,"Plan",true,[],[],false,none,false⟩),Array.mk [some (hR 396),none,some (hS "Plan" 658),some (hS "Plan" 666),some (.builtin "object.__new__"),some (.bool true)]⟩
def o248:Obj:=⟨(.type "super"),none,(.fields (Array.mk [hR 412,hR 412,hR 412])),Array.mk []⟩
def o249:Obj:=⟨(.type "builtin_function_or_method"),none,(.fields (Array.mk [.builtin "object.__init_subclass__",hR 412])),Array.mk []⟩
def o250:=hT [hS "one" 684,hS "other" 685]
def o251:=hC "need_same" "need_same" (top 28)
def o252:=hK [hS "need_same" 681,hS "need_same" 682,hS "/claim/cut.py" 683,hI 165,hI 2,hI 0,hI 0,hI 3,hR 415,.bool true,hI 181,hR 416,.none,hR 417,hR 418,hR 419,hI 686,hI 165,hS "/claim/cut.py" 687]
def o253:=hF "need_same" "need_same" (top 28) (hS "mustmay.plans" 498) (hR 420)
def o254:=hC "led_room" "led_room" (top 29)
def o255:=hK [hS "led_room" 689,hS "led_room" 690,hS "/claim/cut.py" 691,hI 168,hI 2,hI 0,hI 0,hI 3,hR 422,.bool true,hI 181,hR 423,.none,.none,.none,hR 424,hI 692,hI 168,hS "/claim/cut.py" 693]
def o256:=hF "led_room" "led_room" (top 29) (hS "mustmay.plans" 498) (hR 425)
def o257:=hC "begun" "begun" (top 30)
def o258:=hK [hS "begun" 695,hS "begun" 696,hS "/claim/cut.py" 697,hI 170,hI 2,hI 0,hI 0,hI 3,hR 427,.bool true,hI 181,hR 428,.none,.none,.none,hR 429,hI 698,hI 170,hS "/claim/cut.py" 699]
def o259:=hF "begun" "begun" (top 30) (hS "mustmay.plans" 498) (hR 430)
def o260:=hC "free_plan" "free_plan" (top 31)
def o261:=hK [hS "free_plan" 701,hS "free_plan" 702,hS "/claim/cut.py" 703,hI 174,hI 1,hI 0,hI 0,hI 3,hR 432,.bool true,hI 181,hR 433,.none,.none,.none,hR 434,hI 704,hI 174,hS "/claim/cut.py" 705]
def o262:=hF "free_plan" "free_plan" (top 31) (hS "mustmay.plans" 498) (hR 435)
def o263:=hT [hS "_law_script" 712,hS "_law_k" 713]
def o264:=hC "_law_cell_at" "_law_cell_at" (top 33)
def o265:=hK [hS "_law_cell_at" 709,hS "_law_cell_at" 710,hS "/claim/cut.py" 711,hI 178,hI 2,hI 0,hI 0,hI 3,hR 437,.bool true,hI 181,hR 438,.none,hR 439,hR 440,hR 441,hI 714,hI 178,hS "/claim/cut.py" 715]
def o266:=hF "_law_cell_at" "_law_cell_at" (top 33) (hS "law_mustmay_k04_begun_and_free" 707) (hR 442)
def o267:=hT [hS "_law_cell" 720,hS "_law_k" 721,hS "_law_number" 722]
def o268:=hC "_law_mixed" "_law_mixed" (top 34)
def o269:=hK [hS "_law_mixed" 717,hS "_law_mixed" 718,hS "/claim/cut.py" 719,hI 182,hI 2,hI 0,hI 0,hI 3,hR 444,.bool true,hI 181,hR 445,.none,hR 446,hR 447,hR 448,hI 723,hI 182,hS "/claim/cut.py" 724]
def o270:=hF "_law_mixed" "_law_mixed" (top 34) (hS "law_mustmay_k04_begun_and_free" 707) (hR 449)
def o271:=hC "_law_names" "_law_names" (top 35)
def o272:=hK [hS "_law_names" 726,hS "_law_names" 727,hS "/claim/cut.py" 728,hI 186,hI 2,hI 0,hI 0,hI 3,hR 451,.bool true,hI 181,hR 452,.none,.none,.none,hR 453,hI 729,hI 186,hS "/claim/cut.py" 730]
def o273:=hF "_law_names" "_law_names" (top 35) (hS "law_mustmay_k04_begun_and_free" 707) (hR 454)
def o274:=hT [hS "_law_x" 735,hS "_law_many" 736]
def o275:=hC "_law_door" "_law_door" (top 36)
def o276:=hK [hS "_law_door" 732,hS "_law_door" 733,hS "/claim/cut.py" 734,hI 198,hI 2,hI 0,hI 0,hI 3,hR 456,.bool true,hI 181,hR 457,.none,hR 458,hR 459,hR 460,hI 737,hI 198,hS "/claim/cut.py" 738]
def o277:=hF "_law_door" "_law_door" (top 36) (hS "law_mustmay_k04_begun_and_free" 707) (hR 461)
def o278:=hC "_law_rooms" "_law_rooms" (top 37)
def o279:=hK [hS "_law_rooms" 740,hS "_law_rooms" 741,hS "/claim/cut.py" 742,hI 202,hI 4,hI 0,hI 0,hI 3,hR 463,.bool true,hI 181,hR 464,.none,.none,.none,hR 465,hI 743,hI 202,hS "/claim/cut.py" 744]
def o280:=hF "_law_rooms" "_law_rooms" (top 37) (hS "law_mustmay_k04_begun_and_free" 707) (hR 466)
def o281:=hC "_law_turned" "_law_turned" (top 38)
def o282:=hK [hS "_law_turned" 746,hS "_law_turned" 747,hS "/claim/cut.py" 748,hI 209,hI 2,hI 0,hI 0,hI 3,hR 468,.bool true,hI 181,hR 469,.none,.none,.none,hR 470,hI 749,hI 209,hS "/claim/cut.py" 750]
def o283:=hF "_law_turned" "_law_turned" (top 38) (hS "law_mustmay_k04_begun_and_free" 707) (hR 471)
def o284:=hT [hS "_law_cell" 755,hS "_law_sign" 756,hS "_law_some" 757,hS "_law_thing" 758,hS "_law_due" 759,hS "_law_found" 760]
def o285:=hC "_law_names_told" "_law_names_told" (top 39)
def o286:=hK [hS "_law_names_told" 752,hS "_law_names_told" 753,hS "/claim/cut.py" 754,hI 220,hI 1,hI 0,hI 0,hI 3,hR 473,.bool true,hI 181,hR 474,.none,hR 475,hR 476,hR 477,hI 761,hI 220,hS "/claim/cut.py" 762]
def o287:=hF "_law_names_told" "_law_names_told" (top 39) (hS "law_mustmay_k04_begun_and_free" 707) (hR 478)
def o288:=hT [hS "_law_names_here" 767,hS "_law_cell" 768,hS "_law_at" 769,hS "_law_changed" 770,hS "_law_found" 771]
def o289:=hC "_law_others" "_law_others" (top 40)
def o290:=hK [hS "_law_others" 764,hS "_law_others" 765,hS "/claim/cut.py" 766,hI 230,hI 2,hI 0,hI 0,hI 3,hR 480,.bool true,hI 181,hR 481,.none,hR 482,hR 483,hR 484,hI 772,hI 230,hS "/claim/cut.py" 773]
def o291:=hF "_law_others" "_law_others" (top 40) (hS "law_mustmay_k04_begun_and_free" 707) (hR 485)
def o292:=hC "_law_another" "_law_another" (top 41)
def o293:=hK [hS "_law_another" 775,hS "_law_another" 776,hS "/claim/cut.py" 777,hI 240,hI 1,hI 0,hI 0,hI 3,hR 487,.bool true,hI 181,hR 488,.none,.none,.none,hR 489,hI 778,hI 240,hS "/claim/cut.py" 779]
def o294:=hF "_law_another" "_law_another" (top 41) (hS "law_mustmay_k04_begun_and_free" 707) (hR 490)
def o295:=hT [hS "_law_one" 784,hS "_law_other" 785,hS "_law_found" 786,hS "e" 787]
def o296:=hC "_law_unlike" "_law_unlike" (top 42)
def o297:=hK [hS "_law_unlike" 781,hS "_law_unlike" 782,hS "/claim/cut.py" 783,hI 242,hI 2,hI 0,hI 0,hI 3,hR 492,.bool true,hI 181,hR 493,.none,hR 494,hR 495,hR 496,hI 788,hI 242,hS "/claim/cut.py" 789]
def o298:=hF "_law_unlike" "_law_unlike" (top 42) (hS "law_mustmay_k04_begun_and_free" 707) (hR 497)
def o299:=hT [hS "_law_cell" 794,hS "_law_names_here" 795,hS "_law_some" 796,hS "_law_found" 797,hS "e" 798]
def o300:=hC "_law_no_actions" "_law_no_actions" (top 43)
def o301:=hK [hS "_law_no_actions" 791,hS "_law_no_actions" 792,hS "/claim/cut.py" 793,hI 249,hI 2,hI 0,hI 0,hI 3,hR 499,.bool true,hI 181,hR 500,.none,hR 501,hR 502,hR 503,hI 799,hI 249,hS "/claim/cut.py" 800]
def o302:=hF "_law_no_actions" "_law_no_actions" (top 43) (hS "law_mustmay_k04_begun_and_free" 707) (hR 504)
def o303:=hC "law" "law" (top 44)
def o304:=hK [hS "law" 802,hS "law" 803,hS "/claim/cut.py" 804,hI 257,hI 1,hI 0,hI 0,hI 3,hR 506,.bool true,hI 181,hR 507,.none,.none,.none,hR 508,hI 805,hI 257,hS "/claim/cut.py" 806]
def o305:=hF "law" "law" (top 44) (hS "law_mustmay_k04_begun_and_free" 707) (hR 509)
def o306:=hDn 14 [hE P "__name__" 165 (hS "mustmay.doors" 194),hE P "__doc__" 166 .none,hE P "__package__" 167 .none,hE P "__loader__" 168 (.builtin "__main__.__loader__#opaque"),hE P "__spec__" 169 .none,hE P "__annotations__" 170 (hR 6),hE P "__builtins__" 171 (hR 4),hE P "__file__" 173 (hS "/claim/cut.py" 172),hE P "__cached__" 174 .none,hE P "_wall" 193 (hR 21),hE P "Door" 231 (hR 45),hE P "Must" 276 (hR 87),hE P "May" 321 (hR 127),hE P "Shut" 373 (hR 174)]
def o307:=hN [hI 1,hI 0,hR 20,hI 5,hI 0,hR 27,hI 12,hI 0,hR 55,hI 25,hI 0,hR 95,hI 38,hI 0,hR 135]
def o308:Obj:=⟨(.type "type"),none,(.cls ⟨"Door",[.type "object"],[hR 45,.type "object"],44,"Door",true,[],[hR 87,hR 127,hR 174],false,none,false⟩),Array.mk [none,none,some (hS "Door" 196),some (hS "Door" 204),some (.builtin "object.__new__"),some (.bool true)]⟩
def o309:=hDn 28 [hE P "__name__" 165 (hS "mustmay.plans" 498),hE P "__doc__" 166 .none,hE P "__package__" 167 .none,hE P "__loader__" 168 (.builtin "__main__.__loader__#opaque"),hE P "__spec__" 169 .none,hE P "__annotations__" 170 (hR 6),hE P "__builtins__" 171 (hR 4),hE P "__file__" 173 (hS "/claim/cut.py" 172),hE P "__cached__" 174 .none,hE P "_wall" 193 (hR 21),hE P "Door" 231 (hR 45),hE P "Must" 276 (hR 87),hE P "May" 321 (hR 127),hE P "Shut" 373 (hR 174),hE P "Torn" 425 (hR 221),hE P "door_of" 434 (hR 230),hE P "HallError" 454 (hR 240),hE P "BadPlan" 481 (hR 260),hE P "Unlike" 497 (hR 272),hE P "LETTERS" 501 (hS "abcdefghijklmnopqrstuvwxyz" 500),hE P "MOST_SIGNS" 503 (.int (8) 502),hE P "MOST_ACTIONS" 505 (.int (8) 504),hE P "MOST_ROOMS" 507 (.int (2000) 506),hE P "is_name" 513 (hR 279),hE P "is_action_list" 519 (hR 284),hE P "need_actions" 526 (hR 291),hE P "is_room" 534 (hR 298),hE P "is_told_door" 544 (hR 305)]
def o310:=hN [hI 1,hI 0,hR 20,hI 5,hI 0,hR 27,hI 12,hI 0,hR 55,hI 25,hI 0,hR 95,hI 38,hI 0,hR 135,hI 54,hI 0,hR 182,hI 70,hI 0,hR 229,hI 79,hI 0,hR 236,hI 81,hI 0,hR 249,hI 87,hI 0,hR 268,hI 94,hI 0,hR 278,hI 98,hI 0,hR 283,hI 102,hI 0,hR 290,hI 105,hI 0,hR 297,hI 107,hI 0,hR 304]
def HA:Heap:=⟨Array.mk [boot_o_0 P,boot_o_1 P,boot_o_2 P,boot_o_3 P,boot_o_4 P,boot_o_5 P,boot_o_6 P,boot_o_7 P,boot_o_8 P,boot_o_9 P,boot_o_10 P,hT [],hN [],o0,o1],{}⟩
def TB:BT:=(nn (boot_o_0 P) (nn (boot_o_1 P) (nn (boot_o_3 P) (lf (boot_o_7 P)) (lf (hT []))) (nn (boot_o_5 P) (lf (boot_o_9 P)) (lf o0))) (nn (boot_o_2 P) (nn (boot_o_4 P) (lf (boot_o_8 P)) (lf (hN []))) (nn (boot_o_6 P) (lf (boot_o_10 P)) (lf o1))))
def TF:BT:=(nn (boot_o_0 P) (nn (boot_o_1 P) (nn (o2 P) (nn (boot_o_7 P) (nn (hT []) (nn o13 (nn o35 (nn o73 (lf o150) (lf (hN []))) (nn (hT []) (lf o190) (lf (hT [])))) (nn o54 (nn (hN []) (lf o171) (lf (hT []))) (nn o131 (lf o208) (lf o287)))) (nn o25 (nn (hN []) (nn o83 (lf (o161 P)) (lf (hT []))) (nn o120 (lf o199) (lf (hT [])))) (nn (hT []) (nn o102 (lf o180) (lf o259)) (nn (o140 P) (lf o217) (lf (hT [])))))) (nn o8 (nn (hT []) (nn (hT []) (nn o78 (.node (hT [(hR 240)]) .nil .nil) (lf o233)) (nn (hN []) (lf o194) (lf o273))) (nn o59 (nn o96 (lf (hT [])) (lf (hN []))) (nn o136 (lf (hT [])) (lf (hT []))))) (nn o30 (nn o49 (nn (hT []) (lf o167) (lf o243)) (nn (hT []) (lf (hN [])) (lf o282))) (nn (hN []) (nn o107 (lf o185) (lf o263)) (nn (hT []) (lf (hT [])) (lf o300)))))) (nn (hT []) (nn o5 (nn o16 (nn (hT []) (nn o8 (lf (o154 P)) (lf o229)) (nn o113 (lf o192) (lf (hT [])))) (nn o56 (nn o94 (lf o174) (lf o251)) (nn (hT []) (lf o211) (lf (hT []))))) (nn o8 (nn o46 (nn (hT []) (lf (hT [])) (lf (hT []))) (nn o123 (lf o201) (lf o280))) (nn o65 (nn (o104 P) (lf (hN [])) (lf o261)) (nn o144 (lf (hN [])) (lf (hT [])))))) (nn o11 (nn o21 (nn o41 (nn o80 (lf (hN [])) (lf o237)) (nn o118 (lf o8) (lf (hT [])))) (nn (hT []) (nn o99 (lf (hT [])) (lf (hT []))) (nn (hN []) (lf (hT [])) (lf o294)))) (nn o32 (nn o8 (nn o89 (lf o169) (lf (o246 P))) (nn (hT []) (lf o206) (lf o284))) (nn o70 (nn (hT []) (lf o187) (lf o266)) (nn (hT []) (lf o224) (lf (hN [])))))))) (nn (boot_o_5 P) (nn (boot_o_9 P) (nn o4 (nn o14 (nn (hN []) (nn o75 (lf o152) (lf (hT []))) (nn o112 (lf (hN [])) (lf o269))) (nn (hT []) (nn (hT []) (lf o172) (lf o250)) (nn (hN []) (lf o209) (lf (hN []))))) (nn o27 (nn (hT []) (nn (hN []) (lf o163) (lf o240)) (nn o121 (lf (hT [])) (lf o278))) (nn o64 (.node (hT [(hR 45)]) (lf o182) (lf (hN []))) (nn o142 (lf o219) (lf o297))))) (nn (hT []) (nn o19 (nn o40 (nn (hT []) (lf (o158 P)) (lf o235)) (nn (hT []) (lf o196) (lf (hN [])))) (nn (hN []) (nn o97 (lf o177) (lf o255)) (nn (o137 P) (lf o214) (lf o292)))) (nn (hT []) (nn o51 (nn o88 (lf (hN [])) (lf o245)) (nn o126 (lf (hT [])) (lf (hT [])))) (nn (hT []) (nn (hN []) (lf (hT [])) (lf o264)) (nn o147 (lf o223) (lf o302)))))) (nn o0 (nn o7 (nn (hN []) (nn o38 (nn (hT []) (lf o156) (lf o231)) (nn o115 (lf (hT [])) (lf o271))) (nn o57 (nn (hT []) (lf (hN [])) (lf o253)) (nn o134 (lf (hN [])) (lf o290)))) (nn (hT []) (nn (hT []) (nn o86 (lf o165) (lf o242)) (nn (hN []) (lf o203) (lf (hN [])))) (nn o67 (nn o105 (lf (hT [])) (lf (hT []))) (nn o8 (lf o221) (lf o299))))) (nn (hT []) (nn o23 (nn o43 (nn o81 (lf o160) (lf o8)) (nn (hT []) (lf (hT [])) (lf o276))) (nn o62 (nn (o100 P) (lf o179) (lf o257)) (nn o139 (lf o216) (lf (hN []))))) (nn o33 (nn (hT []) (nn o91 (lf (hT [])) (lf o248)) (nn o129 (lf (hT [])) (lf o285))) (nn (hT []) (nn o110 (lf o188) (lf (hN []))) (nn o149 (lf o226) (lf o304)))))))) (nn (boot_o_2 P) (nn (boot_o_4 P) (nn (boot_o_8 P) (nn (hN []) (nn (hT []) (nn (hT []) (nn o74 (lf o151) (lf o227)) (nn (hN []) (lf (hT [])) (lf o268))) (nn o55 (nn o92 (lf (hT [])) (lf (hN []))) (nn (hT []) (lf (hT [])) (lf (hT []))))) (nn o26 (nn o44 (nn (hT []) (lf o162) (lf o239)) (nn (hT []) (lf o200) (lf (hN [])))) (nn (hN []) (nn o103 (lf o181) (lf (hT []))) (nn o141 (lf o218) (lf o296))))) (nn (o9 P) (nn o18 (nn (hN []) (nn o79 (lf o8) (lf o234)) (nn o116 (lf o195) (lf (hT [])))) (nn (hT []) (nn (hT []) (lf o176) (lf o254)) (nn o8 (lf o213) (lf (hN []))))) (nn o31 (nn o50 (nn (hN []) (lf (hT [])) (lf o244)) (nn o125 (lf o204) (lf o283))) (nn o68 (nn (hT []) (lf o186) (lf (hT []))) (nn o146 (lf (hN [])) (lf o301)))))) (nn o3 (nn o6 (nn (hT []) (nn o37 (nn (o76 P) (lf o155) (lf o230)) (nn o114 (lf o193) (lf (hN [])))) (nn (hT []) (nn o95 (lf (hT [])) (lf o252)) (nn o133 (lf (hT [])) (lf o289)))) (nn (o28 P) (nn o47 (nn o85 (lf (hN [])) (lf (hN []))) (nn (hT []) (lf o202) (lf (hT [])))) (nn o66 (nn (hT []) (lf o183) (lf o262)) (.node (hT [(hR 240)]) (lf o220) (lf (hN [])))))) (nn o12 (nn (o22 P) (nn o42 (nn (hT []) (lf o159) (.node (hT [(hR 391)]) .nil .nil)) (nn o119 (lf (o197 P)) (lf o275))) (nn o61 (nn (hT []) (lf (hN [])) (lf (hN []))) (nn o138 (lf (hN [])) (lf (hT []))))) (nn (hT []) (nn (o52 P) (nn o90 (lf o170) (lf o247)) (nn (o128 P) (lf o207) (lf (hT [])))) (nn o71 (nn o109 (lf (hT [])) (lf (hT []))) (nn (hN []) (lf o225) (lf o303))))))) (nn (boot_o_6 P) (nn (boot_o_10 P) (nn (hT []) (nn o15 (nn o36 (.node (hT [(hR 45)]) (lf o153) (lf o228)) (nn (hT []) (lf o191) (lf o270))) (nn (hN []) (nn o93 (lf o173) (lf (hT []))) (nn o132 (lf o210) (lf o288)))) (.node (hT [(hR 45)]) (nn o45 (nn o84 (lf o164) (lf o241)) (nn o122 (lf (hN [])) (lf o279))) (nn (hT []) (nn o8 (lf (hT [])) (lf o260)) (nn o143 (lf (hT [])) (lf o298))))) (nn o10 (nn o20 (nn (hT []) (nn (hN []) (lf (hT [])) (lf o236)) (nn o117 (lf (hT [])) (lf o274))) (nn o60 (nn o98 (lf o178) (lf o256)) (nn (hT []) (lf o215) (lf o293)))) (nn (hN []) (.node (hT [(hR 45)]) (nn (hT []) (lf o168) (lf (hT []))) (nn o127 (lf o205) (lf (hN [])))) (nn o69 (nn o108 (lf (hN [])) (lf o265)) (nn o148 (lf (hT [])) (lf (hT []))))))) (nn o1 (nn (hT []) (nn o17 (nn o39 (nn o77 (lf o157) (lf (o232 P))) (nn (hT []) (lf (hN [])) (lf o272))) (nn o58 (nn (hN []) (lf o175) (lf (hT []))) (nn o135 (lf o212) (lf o291)))) (nn o29 (nn (o48 P) (nn o87 (lf o166) (lf (hT []))) (nn o124 (lf (hT [])) (lf o281))) (nn (hT []) (nn o106 (lf o184) (lf (hN []))) (nn (o145 P) (lf o222) (lf (hT [])))))) (nn (hN []) (nn o24 (nn (hT []) (nn o82 (lf (hT [])) (lf (o238 P))) (nn (hN []) (lf o198) (lf o277))) (nn o63 (nn o101 (lf (hT [])) (lf o258)) (nn (hT []) (lf (hT [])) (lf o295)))) (nn o34 (nn o53 (nn (hT []) (lf (hN [])) (lf o249)) (nn o130 (lf (hN [])) (lf o286))) (nn (o72 P) (nn o111 (lf o189) (lf o267)) (nn (hT []) (lf (hT [])) (lf o305)))))))))
def TM0:BT:=(nn (boot_o_0 P) (nn (boot_o_1 P) (nn (o306 P) (nn (boot_o_7 P) (nn (hT []) (nn o13 (nn o35 (lf o73) .nil) (nn o54 (lf (hN [])) .nil)) (nn o25 (nn (hN []) (lf o83) .nil) (nn (hT []) (lf o102) .nil))) (nn o8 (nn (hT []) (nn (hT []) (lf o78) .nil) (nn o59 (lf o96) .nil)) (nn o30 (nn o49 (lf (hT [])) .nil) (lf (hN []))))) (nn (hT []) (nn o5 (nn o16 (nn (hT []) (lf o8) .nil) (nn o56 (lf o94) .nil)) (nn o8 (nn o46 (lf (hT [])) .nil) (lf o65))) (nn o11 (nn o21 (nn o41 (lf o80) .nil) (nn (hT []) (lf o99) .nil)) (nn o32 (nn o8 (lf o89) .nil) (lf o70))))) (nn (boot_o_5 P) (nn (boot_o_9 P) (nn o4 (nn o14 (nn (hN []) (lf o75) .nil) (nn (hT []) (lf (hT [])) .nil)) (nn o27 (nn (hT []) (lf (hN [])) .nil) (lf o64))) (nn (hT []) (nn o19 (nn o40 (lf (hT [])) .nil) (nn (hN []) (lf o97) .nil)) (nn (hT []) (nn o51 (lf o88) .nil) (lf (hT []))))) (nn o0 (nn o7 (nn (hN []) (nn o38 (lf (hT [])) .nil) (nn o57 (lf (hT [])) .nil)) (nn (hT []) (nn (hT []) (lf o86) .nil) (lf o67))) (nn (hT []) (nn o308 (nn o43 (lf o81) .nil) (nn o62 (lf (o100 P)) .nil)) (nn o33 (nn (hT []) (lf o91) .nil) (lf (hT []))))))) (nn (boot_o_2 P) (nn (boot_o_4 P) (nn (boot_o_8 P) (nn (hN []) (nn (hT []) (nn (hT []) (lf o74) .nil) (nn o55 (lf o92) .nil)) (nn o26 (nn o44 (lf (hT [])) .nil) (nn (hN []) (lf o103) .nil))) (nn (o9 P) (nn o18 (nn (hN []) (lf o79) .nil) (nn (hT []) (lf (hT [])) .nil)) (nn o31 (nn o50 (lf (hN [])) .nil) (lf o68)))) (nn o307 (nn o6 (nn (hT []) (nn o37 (lf (o76 P)) .nil) (nn (hT []) (lf o95) .nil)) (nn (o28 P) (nn o47 (lf o85) .nil) (lf o66))) (nn o12 (nn (o22 P) (nn o42 (lf (hT [])) .nil) (nn o61 (lf (hT [])) .nil)) (nn (hT []) (nn (o52 P) (lf o90) .nil) (lf o71))))) (nn (boot_o_6 P) (nn (boot_o_10 P) (nn (hT []) (nn o15 (nn o36 (.node (hT [(hR 45)]) .nil .nil) .nil) (nn (hN []) (lf o93) .nil)) (.node (hT [(hR 45)]) (nn o45 (lf o84) .nil) (lf (hT [])))) (nn o10 (nn o20 (nn (hT []) (lf (hN [])) .nil) (nn o60 (lf o98) .nil)) (nn (hN []) (.node (hT [(hR 45)]) (lf (hT [])) .nil) (lf o69)))) (nn o1 (nn (hT []) (nn o17 (nn o39 (lf o77) .nil) (nn o58 (lf (hN [])) .nil)) (nn o29 (nn (o48 P) (lf o87) .nil) (lf (hT [])))) (nn (hN []) (nn o24 (nn (hT []) (lf o82) .nil) (nn o63 (lf o101) .nil)) (nn o34 (nn o53 (lf (hT [])) .nil) (lf (o72 P))))))))
def TM1:BT:=(nn (boot_o_0 P) (nn (boot_o_1 P) (nn (o309 P) (nn (boot_o_7 P) (nn (hT []) (nn o13 (nn o35 (nn o73 (lf o150) .nil) (lf (hT []))) (nn o54 (nn (hN []) (lf o171) .nil) (lf o131))) (nn o25 (nn (hN []) (nn o83 (lf (o161 P)) .nil) (lf o120)) (nn (hT []) (nn o102 (lf o180) .nil) (lf (o140 P))))) (nn o8 (nn (hT []) (nn (hT []) (nn o78 (.node (hT [(hR 240)]) .nil .nil) .nil) (lf (hN []))) (nn o59 (nn o96 (lf (hT [])) .nil) (lf o136))) (nn o30 (nn o49 (nn (hT []) (lf o167) .nil) (lf (hT []))) (nn (hN []) (lf o107) (lf (hT [])))))) (nn (hT []) (nn o5 (nn o16 (nn (hT []) (nn o8 (lf (o154 P)) .nil) (lf o113)) (nn o56 (nn o94 (lf o174) .nil) (lf (hT [])))) (nn o8 (nn o46 (nn (hT []) (lf (hT [])) .nil) (lf o123)) (nn o65 (lf (o104 P)) (lf o144)))) (nn o11 (nn o21 (nn o41 (nn o80 (lf (hN [])) .nil) (lf o118)) (nn (hT []) (nn o99 (lf (hT [])) .nil) (lf (hN [])))) (nn o32 (nn o8 (nn o89 (lf o169) .nil) (lf (hT []))) (nn o70 (lf (hT [])) (lf (hT []))))))) (nn (boot_o_5 P) (nn (boot_o_9 P) (nn o4 (nn o14 (nn (hN []) (nn o75 (lf o152) .nil) (lf o112)) (nn (hT []) (nn (hT []) (lf o172) .nil) (lf (hN [])))) (nn o27 (nn (hT []) (nn (hN []) (lf o163) .nil) (lf o121)) (nn o64 (.node (hT [(hR 45)]) (lf o182) .nil) (lf o142)))) (nn (hT []) (nn o19 (nn o40 (nn (hT []) (lf (o158 P)) .nil) (lf (hT []))) (nn (hN []) (nn o97 (lf o177) .nil) (lf (o137 P)))) (nn (hT []) (nn o51 (nn o88 (lf (hN [])) .nil) (lf o126)) (nn (hT []) (lf (hN [])) (lf o147))))) (nn o0 (nn o7 (nn (hN []) (nn o38 (nn (hT []) (lf o156) .nil) (lf o115)) (nn o57 (nn (hT []) (lf (hN [])) .nil) (lf o134))) (nn (hT []) (nn (hT []) (nn o86 (lf o165) .nil) (lf (hN []))) (nn o67 (lf o105) (lf o8)))) (nn (hT []) (nn o23 (nn o43 (nn o81 (lf o160) .nil) (lf (hT []))) (nn o62 (nn (o100 P) (lf o179) .nil) (lf o139))) (nn o33 (nn (hT []) (nn o91 (lf (hT [])) .nil) (lf o129)) (nn (hT []) (lf o110) (lf o149))))))) (nn (boot_o_2 P) (nn (boot_o_4 P) (nn (boot_o_8 P) (nn (hN []) (nn (hT []) (nn (hT []) (nn o74 (lf o151) .nil) (lf (hN []))) (nn o55 (nn o92 (lf (hT [])) .nil) (lf (hT [])))) (nn o26 (nn o44 (nn (hT []) (lf o162) .nil) (lf (hT []))) (nn (hN []) (nn o103 (lf o181) .nil) (lf o141)))) (nn (o9 P) (nn o18 (nn (hN []) (nn o79 (lf o8) .nil) (lf o116)) (nn (hT []) (nn (hT []) (lf o176) .nil) (lf o8))) (nn o31 (nn o50 (nn (hN []) (lf (hT [])) .nil) (lf o125)) (nn o68 (lf (hT [])) (lf o146))))) (nn o310 (nn o6 (nn (hT []) (nn o37 (nn (o76 P) (lf o155) .nil) (lf o114)) (nn (hT []) (nn o95 (lf (hT [])) .nil) (lf o133))) (nn (o28 P) (nn o47 (nn o85 (lf (hN [])) .nil) (lf (hT []))) (nn o66 (lf (hT [])) (.node (hT [(hR 240)]) .nil .nil)))) (nn o12 (nn (o22 P) (nn o42 (nn (hT []) (lf o159) .nil) (lf o119)) (nn o61 (nn (hT []) (lf (hN [])) .nil) (lf o138))) (nn (hT []) (nn (o52 P) (nn o90 (lf o170) .nil) (lf (o128 P))) (nn o71 (lf o109) (lf (hN []))))))) (nn (boot_o_6 P) (nn (boot_o_10 P) (nn (hT []) (nn o15 (nn o36 (.node (hT [(hR 45)]) (lf o153) .nil) (lf (hT []))) (nn (hN []) (nn o93 (lf o173) .nil) (lf o132))) (.node (hT [(hR 45)]) (nn o45 (nn o84 (lf o164) .nil) (lf o122)) (nn (hT []) (lf o8) (lf o143)))) (nn o10 (nn o20 (nn (hT []) (nn (hN []) (lf (hT [])) .nil) (lf o117)) (nn o60 (nn o98 (lf o178) .nil) (lf (hT [])))) (nn (hN []) (.node (hT [(hR 45)]) (nn (hT []) (lf o168) .nil) (lf o127)) (nn o69 (lf o108) (lf o148))))) (nn o1 (nn (hT []) (nn o17 (nn o39 (nn o77 (lf o157) .nil) (lf (hT []))) (nn o58 (nn (hN []) (lf o175) .nil) (lf o135))) (nn o29 (nn (o48 P) (nn o87 (lf o166) .nil) (lf o124)) (nn (hT []) (lf o106) (lf (o145 P))))) (nn (hN []) (nn o24 (nn (hT []) (nn o82 (lf (hT [])) .nil) (lf (hN []))) (nn o63 (nn o101 (lf (hT [])) .nil) (lf (hT [])))) (nn o34 (nn o53 (nn (hT []) (lf (hN [])) .nil) (lf o130)) (nn (o72 P) (lf o111) (lf (hT [])))))))))
def HF:Heap:=⟨Array.mk [boot_o_0 P,boot_o_1 P,boot_o_2 P,o2 P,boot_o_4 P,boot_o_5 P,boot_o_6 P,boot_o_7 P,boot_o_8 P,boot_o_9 P,boot_o_10 P,hT [],o3,o0,o1,hT [],hN [],o4,hT [],o5,o6,o7,hT [],o8,o9 P,hT [],o10,o11,o12,hT [],hN [],o13,hT [],o14,o15,o16,hT [],hN [],o17,hT [],o18,o19,o20,o21,o22 P,o23,o24,o25,o26,o27,hT [(hR 45)],o8,o28 P,hT [],o29,o30,o31,hT [],hN [],o32,hT [],o33,o34,o35,hT [],hN [],o36,hT [],o37,o38,o39,hT [],hN [],o40,hT [],o41,o42,o43,hT [],hN [],o44,hT [],o45,o46,o47,hT [],o48 P,o49,o50,o51,hT [(hR 45)],o8,o52 P,hT [],o53,o54,o55,hT [],hN [],o56,hT [],o57,o58,o59,hT [],hN [],o60,hT [],o61,o62,o63,hT [],hN [],o64,hT [],o65,o66,o67,hT [],hN [],o68,hT [],o69,o70,o71,hT [],o72 P,o73,o74,o75,hT [(hR 45)],o8,o76 P,hT [],o77,o78,o79,hT [],hN [],o80,hT [],o81,o82,o83,hT [],hN [],o84,hT [],o85,o86,o87,hT [],hN [],o88,hT [],o89,o90,o91,hT [],hN [],o92,hT [],o93,o94,o95,hT [],hN [],o96,hT [],o97,o98,o99,hT [],o100 P,o101,o102,o103,hT [(hR 45)],o8,o104 P,hT [],o105,o106,o107,hT [],hN [],o108,hT [],o109,o110,o111,hT [],hN [],o112,hT [],o113,o114,o115,hT [],hN [],o116,hT [],o117,o118,o119,hT [],hN [],o120,hT [],o121,o122,o123,hT [],hN [],o124,hT [],o125,o126,o127,hT [],o128 P,o129,o130,o131,hT [],hN [],o132,hT [],o133,o134,o135,o136,o8,o137 P,hT [],hN [],o138,o139,hT [],o140 P,o141,o142,o143,o144,hT [(hR 240)],o8,o145 P,hT [],o146,o147,o148,hT [],hN [],o149,hT [],o150,o151,o152,o153,o154 P,o155,o156,o157,hT [(hR 240)],o8,o158 P,hT [],hN [],o159,o160,hT [],o161 P,o162,o163,o164,hT [],hN [],o165,o166,o167,hT [],hN [],o168,o169,o170,hT [],hN [],o171,hT [],o172,o173,o174,hT [],hN [],o175,hT [],o176,o177,o178,hT [],hN [],o179,hT [],o180,o181,o182,hT [],hN [],o183,hT [],o184,o185,o186,hT [],hN [],o187,hT [],o188,o189,o190,hT [],hN [],o191,o192,o193,hT [],hN [],o194,o195,o196,hT [],o8,o197 P,hT [],o198,o199,o200,hT [],hN [],o201,o202,o203,hT [],hN [],o204,hT [],o205,o206,o207,hT [],hN [],o208,hT [],o209,o210,o211,hT [],hN [],o212,hT [],o213,o214,o215,hT [],hN [],o216,hT [],o217,o218,o219,hT [],hN [],o220,o221,o222,hT [],hN [],o223,hT [],o224,o225,o226,hT [],hN [],o227,hT [],o228,o229,o230,o231,o232 P,o233,o234,o235,o236,o237,hT [(hR 391)],o8,o238 P,hT [],o239,o240,o241,hT [],hN [],o242,hT [],o243,o244,o245,hT [],o246 P,o247,o248,o249,hT [],hN [],o250,hT [],o251,o252,o253,hT [],hN [],o254,o255,o256,hT [],hN [],o257,o258,o259,hT [],hN [],o260,o261,o262,hT [],hN [],o263,hT [],o264,o265,o266,hT [],hN [],o267,hT [],o268,o269,o270,hT [],hN [],o271,o272,o273,hT [],hN [],o274,hT [],o275,o276,o277,hT [],hN [],o278,o279,o280,hT [],hN [],o281,o282,o283,hT [],hN [],o284,hT [],o285,o286,o287,hT [],hN [],o288,hT [],o289,o290,o291,hT [],hN [],o292,o293,o294,hT [],hN [],o295,hT [],o296,o297,o298,hT [],hN [],o299,hT [],o300,o301,o302,hT [],hN [],o303,o304,o305],{}⟩
def KK:Params→Frag:=fun P=>(nat_lit 2,boot_o_2 P) :: (nat_lit 3,o2 P) :: (nat_lit 15,hT []) :: (nat_lit 17,o4) :: (nat_lit 18,hT []) :: (nat_lit 20,o6) :: (nat_lit 21,o7) :: (nat_lit 29,hT []) :: (nat_lit 31,o13) :: (nat_lit 32,hT []) :: (nat_lit 34,o15) :: (nat_lit 35,o16) :: (nat_lit 36,hT []) :: (nat_lit 38,o17) :: (nat_lit 39,hT []) :: (nat_lit 41,o19) :: (nat_lit 42,o20) :: (nat_lit 43,o21) :: (nat_lit 44,o22 P) :: (nat_lit 45,o23) :: (nat_lit 46,o24) :: (nat_lit 47,o25) :: (nat_lit 50,hT [(hR 45)]) :: (nat_lit 57,hT []) :: (nat_lit 59,o32) :: (nat_lit 60,hT []) :: (nat_lit 62,o34) :: (nat_lit 63,o35) :: (nat_lit 64,hT []) :: (nat_lit 66,o36) :: (nat_lit 67,hT []) :: (nat_lit 69,o38) :: (nat_lit 70,o39) :: (nat_lit 71,hT []) :: (nat_lit 73,o40) :: (nat_lit 74,hT []) :: (nat_lit 76,o42) :: (nat_lit 77,o43) :: (nat_lit 78,hT []) :: (nat_lit 80,o44) :: (nat_lit 81,hT []) :: (nat_lit 83,o46) :: (nat_lit 84,o47) :: (nat_lit 85,hT []) :: (nat_lit 86,o48 P) :: (nat_lit 87,o49) :: (nat_lit 90,hT [(hR 45)]) :: (nat_lit 97,hT []) :: (nat_lit 99,o56) :: (nat_lit 100,hT []) :: (nat_lit 102,o58) :: (nat_lit 103,o59) :: (nat_lit 104,hT []) :: (nat_lit 106,o60) :: (nat_lit 107,hT []) :: (nat_lit 109,o62) :: (nat_lit 110,o63) :: (nat_lit 111,hT []) :: (nat_lit 113,o64) :: (nat_lit 114,hT []) :: (nat_lit 116,o66) :: (nat_lit 117,o67) :: (nat_lit 118,hT []) :: (nat_lit 120,o68) :: (nat_lit 121,hT []) :: (nat_lit 123,o70) :: (nat_lit 124,o71) :: (nat_lit 125,hT []) :: (nat_lit 126,o72 P) :: (nat_lit 127,o73) :: (nat_lit 130,hT [(hR 45)]) :: (nat_lit 137,hT []) :: (nat_lit 139,o80) :: (nat_lit 140,hT []) :: (nat_lit 142,o82) :: (nat_lit 143,o83) :: (nat_lit 144,hT []) :: (nat_lit 146,o84) :: (nat_lit 147,hT []) :: (nat_lit 149,o86) :: (nat_lit 150,o87) :: (nat_lit 151,hT []) :: (nat_lit 153,o88) :: (nat_lit 154,hT []) :: (nat_lit 156,o90) :: (nat_lit 157,o91) :: (nat_lit 158,hT []) :: (nat_lit 160,o92) :: (nat_lit 161,hT []) :: (nat_lit 163,o94) :: (nat_lit 164,o95) :: (nat_lit 165,hT []) :: (nat_lit 167,o96) :: (nat_lit 168,hT []) :: (nat_lit 170,o98) :: (nat_lit 171,o99) :: (nat_lit 172,hT []) :: (nat_lit 173,o100 P) :: (nat_lit 174,o101) :: (nat_lit 177,hT [(hR 45)]) :: (nat_lit 184,hT []) :: (nat_lit 186,o108) :: (nat_lit 187,hT []) :: (nat_lit 189,o110) :: (nat_lit 190,o111) :: (nat_lit 191,hT []) :: (nat_lit 193,o112) :: (nat_lit 194,hT []) :: (nat_lit 196,o114) :: (nat_lit 197,o115) :: (nat_lit 198,hT []) :: (nat_lit 200,o116) :: (nat_lit 201,hT []) :: (nat_lit 203,o118) :: (nat_lit 204,o119) :: (nat_lit 205,hT []) :: (nat_lit 207,o120) :: (nat_lit 208,hT []) :: (nat_lit 210,o122) :: (nat_lit 211,o123) :: (nat_lit 212,hT []) :: (nat_lit 214,o124) :: (nat_lit 215,hT []) :: (nat_lit 217,o126) :: (nat_lit 218,o127) :: (nat_lit 219,hT []) :: (nat_lit 220,o128 P) :: (nat_lit 221,o129) :: (nat_lit 224,hT []) :: (nat_lit 226,o132) :: (nat_lit 227,hT []) :: (nat_lit 229,o134) :: (nat_lit 230,o135) :: (nat_lit 231,o136) :: (nat_lit 238,hT []) :: (nat_lit 239,o140 P) :: (nat_lit 240,o141) :: (nat_lit 241,o142) :: (nat_lit 244,hT [(hR 240)]) :: (nat_lit 251,hT []) :: (nat_lit 253,o149) :: (nat_lit 254,hT []) :: (nat_lit 256,o151) :: (nat_lit 257,o152) :: (nat_lit 258,o153) :: (nat_lit 259,o154 P) :: (nat_lit 260,o155) :: (nat_lit 263,hT [(hR 240)]) :: (nat_lit 270,hT []) :: (nat_lit 271,o161 P) :: (nat_lit 272,o162) :: (nat_lit 275,hT []) :: (nat_lit 278,o166) :: (nat_lit 279,o167) :: (nat_lit 280,hT []) :: (nat_lit 283,o169) :: (nat_lit 284,o170) :: (nat_lit 285,hT []) :: (nat_lit 287,o171) :: (nat_lit 288,hT []) :: (nat_lit 290,o173) :: (nat_lit 291,o174) :: (nat_lit 292,hT []) :: (nat_lit 294,o175) :: (nat_lit 295,hT []) :: (nat_lit 297,o177) :: (nat_lit 298,o178) :: (nat_lit 299,hT []) :: (nat_lit 301,o179) :: (nat_lit 302,hT []) :: (nat_lit 304,o181) :: (nat_lit 305,o182) :: (nat_lit 306,hT []) :: (nat_lit 308,o183) :: (nat_lit 309,hT []) :: (nat_lit 311,o185) :: (nat_lit 312,o186) :: (nat_lit 313,hT []) :: (nat_lit 315,o187) :: (nat_lit 316,hT []) :: (nat_lit 318,o189) :: (nat_lit 319,o190) :: (nat_lit 320,hT []) :: (nat_lit 323,o192) :: (nat_lit 324,o193) :: (nat_lit 325,hT []) :: (nat_lit 328,o195) :: (nat_lit 329,o196) :: (nat_lit 337,hT []) :: (nat_lit 340,o202) :: (nat_lit 341,o203) :: (nat_lit 342,hT []) :: (nat_lit 344,o204) :: (nat_lit 345,hT []) :: (nat_lit 347,o206) :: (nat_lit 348,o207) :: (nat_lit 349,hT []) :: (nat_lit 351,o208) :: (nat_lit 352,hT []) :: (nat_lit 354,o210) :: (nat_lit 355,o211) :: (nat_lit 356,hT []) :: (nat_lit 358,o212) :: (nat_lit 359,hT []) :: (nat_lit 361,o214) :: (nat_lit 362,o215) :: (nat_lit 363,hT []) :: (nat_lit 365,o216) :: (nat_lit 366,hT []) :: (nat_lit 368,o218) :: (nat_lit 369,o219) :: (nat_lit 370,hT []) :: (nat_lit 373,o221) :: (nat_lit 374,o222) :: (nat_lit 375,hT []) :: (nat_lit 377,o223) :: (nat_lit 378,hT []) :: (nat_lit 380,o225) :: (nat_lit 381,o226) :: (nat_lit 382,hT []) :: (nat_lit 384,o227) :: (nat_lit 385,hT []) :: (nat_lit 387,o229) :: (nat_lit 388,o230) :: (nat_lit 389,o231) :: (nat_lit 390,o232 P) :: (nat_lit 391,o233) :: (nat_lit 392,o234) :: (nat_lit 393,o235) :: (nat_lit 396,hT [(hR 391)]) :: (nat_lit 403,hT []) :: (nat_lit 405,o242) :: (nat_lit 406,hT []) :: (nat_lit 408,o244) :: (nat_lit 409,o245) :: (nat_lit 410,hT []) :: (nat_lit 411,o246 P) :: (nat_lit 412,o247) :: (nat_lit 415,hT []) :: (nat_lit 417,o250) :: (nat_lit 418,hT []) :: (nat_lit 420,o252) :: (nat_lit 421,o253) :: (nat_lit 422,hT []) :: (nat_lit 425,o255) :: (nat_lit 426,o256) :: (nat_lit 427,hT []) :: (nat_lit 430,o258) :: (nat_lit 431,o259) :: (nat_lit 432,hT []) :: (nat_lit 435,o261) :: (nat_lit 436,o262) :: (nat_lit 437,hT []) :: (nat_lit 439,o263) :: (nat_lit 440,hT []) :: (nat_lit 442,o265) :: (nat_lit 443,o266) :: (nat_lit 444,hT []) :: (nat_lit 446,o267) :: (nat_lit 447,hT []) :: (nat_lit 449,o269) :: (nat_lit 450,o270) :: (nat_lit 451,hT []) :: (nat_lit 454,o272) :: (nat_lit 455,o273) :: (nat_lit 456,hT []) :: (nat_lit 458,o274) :: (nat_lit 459,hT []) :: (nat_lit 461,o276) :: (nat_lit 462,o277) :: (nat_lit 463,hT []) :: (nat_lit 466,o279) :: (nat_lit 467,o280) :: (nat_lit 468,hT []) :: (nat_lit 471,o282) :: (nat_lit 472,o283) :: (nat_lit 473,hT []) :: (nat_lit 475,o284) :: (nat_lit 476,hT []) :: (nat_lit 478,o286) :: (nat_lit 479,o287) :: (nat_lit 480,hT []) :: (nat_lit 482,o288) :: (nat_lit 483,hT []) :: (nat_lit 485,o290) :: (nat_lit 486,o291) :: (nat_lit 487,hT []) :: (nat_lit 490,o293) :: (nat_lit 491,o294) :: (nat_lit 492,hT []) :: (nat_lit 494,o295) :: (nat_lit 495,hT []) :: (nat_lit 497,o297) :: (nat_lit 498,o298) :: (nat_lit 499,hT []) :: (nat_lit 501,o299) :: (nat_lit 502,hT []) :: (nat_lit 504,o301) :: (nat_lit 505,o302) :: (nat_lit 506,hT []) :: (nat_lit 509,o304) :: (nat_lit 510,o305) :: []
def as:List Addr:=[2,3,15,17,18,20,21,29,31,32,34,35,36,38,39,41,42,43,44,45,46,47,50,57,59,60,62,63,64,66,67,69,70,71,73,74,76,77,78,80,81,83,84,85,86,87,90,97,99,100,102,103,104,106,107,109,110,111,113,114,116,117,118,120,121,123,124,125,126,127,130,137,139,140,142,143,144,146,147,149,150,151,153,154,156,157,158,160,161,163,164,165,167,168,170,171,172,173,174,177,184,186,187,189,190,191,193,194,196,197,198,200,201,203,204,205,207,208,210,211,212,214,215,217,218,219,220,221,224,226,227,229,230,231,238,239,240,241,244,251,253,254,256,257,258,259,260,263,270,271,272,275,278,279,280,283,284,285,287,288,290,291,292,294,295,297,298,299,301,302,304,305,306,308,309,311,312,313,315,316,318,319,320,323,324,325,328,329,337,340,341,342,344,345,347,348,349,351,352,354,355,356,358,359,361,362,363,365,366,368,369,370,373,374,375,377,378,380,381,382,384,385,387,388,389,390,391,392,393,396,403,405,406,408,409,410,411,412,415,417,418,420,421,422,425,426,427,430,431,432,435,436,437,439,440,442,443,444,446,447,449,450,451,454,455,456,458,459,461,462,463,466,467,468,471,472,473,475,476,478,479,480,482,483,485,486,487,490,491,492,494,495,497,498,499,501,502,504,505,506,509,510]
def vw:Program:=PySem.W.view pw [0,2,3,4,5,6,7,9,10,11,13,14,15,16,17,18,19,20,21,22,23,24,25,26,27,28,29,30,31,33,34,35,36,37,38,39,40,41,42,43,44]
def en:Env:={ scope:=pw.main.scope,locals:=mainNs,globals:=mainNs,cells:=[],code:=(hR 13),frame:=some 14 }
theorem hk:∀ P,as = (KK P).map (·.1):=fun _=>by kernel_rfl
noncomputable abbrev cE:Code:=.body (behindTheImports pw) en
noncomputable abbrev fB:List Frame:=[topFrame ⟨0,0,0,0⟩]
theorem t_pre (w:World) (os:OsState):topGo treeTable pw w 11 (some (.ref 6)) 12 ⟨boot_heap w.params,Array.mk [],boot_drawn,boot_toks,os⟩ (topStub pw) = some (⟨HA w.params,Array.mk [],{},187,os⟩,⟨denote treeTable cE,cE,⟨0,0,0,0⟩,fB⟩):=by kernel_rfl
theorem t_block (w:World) (os:OsState):segRun treeTable pw w 11 (some (.ref 6)) 1 1 ⟨HA w.params,Array.mk [],{},187,os⟩ (blockOf (behindTheImports pw) en cE ⟨0,0,0,0⟩ fB) = some (.next,(SharedT.mk (TB w.params) 15 {} (Array.mk []) {} 187 os).abs,cE,⟨0,0,0,0⟩):=by kernel_rfl
theorem t_body0 (w:World) (os:OsState):segRunT treeTable pw w 11 (some (.ref 6)) 1 1335 (SharedT.mk (TB w.params) 15 {} (Array.mk []) {} 187 os) (piecesOf ((behindTheImports pw).take 6) en cE ⟨0,0,0,0⟩ fB) = some (.next,(SharedT.mk (TM0 w.params) 177 {} (Array.mk []) {} 374 os),cE,⟨38,0,53,21⟩):=by kernel_rfl
theorem t_body1 (w:World) (os:OsState):segRunT treeTable pw w 11 (some (.ref 6)) 1 1244 (SharedT.mk (TM0 w.params) 177 {} (Array.mk []) {} 374 os) (piecesOf (((behindTheImports pw).drop 6).take 16) en cE ⟨38,0,53,21⟩ fB) = some (.next,(SharedT.mk (TM1 w.params) 306 {} (Array.mk []) {} 545 os),cE,⟨107,0,115,81⟩):=by kernel_rfl
theorem t_body2 (w:World) (os:OsState):segRunT treeTable pw w 11 (some (.ref 6)) 1 1269 (SharedT.mk (TM1 w.params) 306 {} (Array.mk []) {} 545 os) (piecesOf ((behindTheImports pw).drop 22) en cE ⟨107,0,115,81⟩ fB) = some (.next,(SharedT.mk (TF w.params) 511 {} (Array.mk []) {} 808 os),cE,⟨257,0,273,115⟩):=by kernel_rfl
theorem t_split:(behindTheImports pw) = ((behindTheImports pw).take 6) ++ ((((behindTheImports pw).drop 6).take 16) ++ (((behindTheImports pw).drop 22) ++ ([]))):=by kernel_rfl
theorem t_fin (w:World) (os:OsState):topRun treeTable pw w 11 (some (.ref 6)) 2 (SharedT.mk (TF w.params) 511 {} (Array.mk []) {} 808 os).abs ⟨doneF .next,cE,⟨257,0,273,115⟩,fB⟩ = some ⟨HF w.params,Array.mk [],{},808,os⟩:=by kernel_rfl
theorem t_run (w:World) (os:OsState):topRun treeTable pw w 11 (some (.ref 6)) (12 + (1 + (1335 + (1244 + (1269 + 2))))) ⟨boot_heap w.params,Array.mk [],boot_drawn,boot_toks,os⟩ (topStub pw) = some ⟨HF w.params,Array.mk [],{},808,os⟩ :=
 go_top (t_pre w os) (piece_block (q:=⟨0,0,0,0⟩) (t_block w os) (by
   have h:=piece_app (q:=⟨0,0,0,0⟩) (segRun_of (t_body0 w os)) (piece_app (q:=⟨0,0,0,0⟩) (segRun_of (t_body1 w os)) (piece_app (q:=⟨0,0,0,0⟩) (segRun_of (t_body2 w os)) (piece_nil (t_fin w os))))
   rw [← t_split] at h
   exact h))
theorem t_op (w:World):(fencedOpening treeTable pw w 7810).map (fun s=>(s.heap,s.gens,s.drawn,s.toks)) = some (boot_heap w.params,Array.mk [],boot_drawn,boot_toks):=boot_open (by kernel_rfl) (by decide) (fun s=>by kernel_rfl) w
theorem t_size (w:World):((boot_heap w.params).isNs mainGlobals && (Array.mk []:Array GenState).size == 0,(boot_heap w.params).objs.size,(boot_heap w.params).nsMap mainGlobals "__annotations__") = (true,11,(some (.ref 6))):=by kernel_rfl
theorem tk1 (w:World):staticsOk (importedModules pw.main.body) (boot_heap w.params) (HF w.params) = true:=by kernel_rfl
theorem tk2 (w:World):namesBound pw (HF w.params) = true:=by kernel_rfl
theorem tk3 (w:World) (os:OsState):gensDone ⟨HF w.params,Array.mk [],{},808,os⟩ = true:=by kernel_rfl
theorem tk4 (w:World):laidKept (boot_heap w.params) (HF w.params) = true:=by kernel_rfl
open PySem.Calls PyProof.Rows in
theorem tkc0 (w:World) (os:OsState):seen ((recsOf vw).map (·.name)) (ownsOf vw) [] (Shared.mk (HF w.params) #[] {} 808 os) = expectedOf vw:=by kernel_rfl
open PySem.Calls PyProof.Rows in
theorem tkc1 (w:World) (os:OsState):Heap.bltView (HF w.params) = bltViewBooted:=by kernel_rfl
open PySem.Calls PyProof.Rows in
theorem tkc2a (w:World) (os:OsState):Heap.keysOk (HF w.params) (looseW vw []) ((recsOf vw).map (·.name)) ((litsOf vw).map (·.1)) ((clssOf vw (looseW vw [])).map (·.name)) = true:=by kernel_rfl
open PySem.Calls PyProof.Rows in
theorem tkc2b (w:World) (os:OsState):Heap.accountedOkI (HF w.params) (importedModules pw.main.body) = true:=by kernel_rfl
open PySem.Calls PyProof.Rows in
theorem tkc2c (w:World) (os:OsState):Heap.isNs (HF w.params) mainGlobals = true:=by kernel_rfl
open PySem.Calls PyProof.Rows in
theorem tkc2d (w:World) (os:OsState):Heap.isNs (HF w.params) builtinsNs = true:=by kernel_rfl
open PySem.Calls PyProof.Rows in
theorem tkc2e (w:World) (os:OsState):tablesOk vw (HF w.params) = true:=by kernel_rfl
open PySem.Calls PyProof.Rows in
theorem tkc2f (w:World) (os:OsState):(fun s=>xlAt vw [] s && recOk (RowW.records PySem.Challenge.rw_mustmay_k04_begun_and_free.row.toRowW) s) ⟨HF w.params,Array.mk [],{},808,os⟩ = true:=by kernel_rfl
open PySem.Calls PyProof.Rows in
theorem tkc3 (w:World) (os:OsState):tabsOk vw ⟨HF w.params,Array.mk [],{},808,os⟩ = true:=by kernel_rfl
open PySem.Calls PyProof.Rows in
theorem tkc4 (w:World) (os:OsState):pinSeenD vw (drecsOf vw) ⟨HF w.params,Array.mk [],{},808,os⟩ = pinGoodD (drecsOf vw):=by kernel_rfl
open PySem.Calls PyProof.Rows in
theorem tkc5 (w:World) (os:OsState):plainSeenE vw (looseW vw []) ⟨HF w.params,Array.mk [],{},808,os⟩ = plainGoodE vw (looseW vw []):=by kernel_rfl
open PySem.Calls PyProof.Rows in
theorem tkc6 (w:World) (os:OsState):plainSeenD vw [] ⟨HF w.params,Array.mk [],{},808,os⟩ = plainGoodD vw []:=by kernel_rfl
open PySem.Calls PyProof.Rows in
theorem tkc7 (w:World) (os:OsState):wideSeen vw ⟨HF w.params,Array.mk [],{},808,os⟩ = wideGood vw:=by kernel_rfl
open PySem.Calls PyProof.Rows in
theorem tkc8 (w:World) (os:OsState):clsSeenW vw [] ⟨HF w.params,Array.mk [],{},808,os⟩ = clsGoodW vw []:=by kernel_rfl
theorem and7 {a b c d e f g:Bool} (h1:a = true) (h2:b = true) (h3:c = true) (h4:d = true) (h5:e = true) (h6:f = true) (h7:g = true):(a && b && c && d && e && f && g) = true:=by rw [h1,h2,h3,h4,h5,h6,h7]; rfl
theorem ext9 {A0 A1 A2 A3 A4 A5 A6 A7 A8:Type} {a0 b0:A0} {a1 b1:A1} {a2 b2:A2} {a3 b3:A3} {a4 b4:A4} {a5 b5:A5} {a6 b6:A6} {a7 b7:A7} {a8 b8:A8} (h0:a0 = b0) (h1:a1 = b1) (h2:a2 = b2) (h3:a3 = b3) (h4:a4 = b4) (h5:a5 = b5) (h6:a6 = b6) (h7:a7 = b7) (h8:a8 = b8):(a0,a1,a2,a3,a4,a5,a6,a7,a8) = (b0,b1,b2,b3,b4,b5,b6,b7,b8):=by rw [h0,h1,h2,h3,h4,h5,h6,h7,h8]
theorem tk5 (w:World) (os:OsState):(openSeen vw [] (importedModules pw.main.body) (fun s=>xlAt vw [] s && recOk (RowW.records PySem.Challenge.rw_mustmay_k04_begun_and_free.row.toRowW) s) true ⟨HF w.params,Array.mk [],{},808,os⟩) = openGood vw []:=by
 unfold openSeen openGood
 exact ext9 (tkc0 w os) (tkc1 w os) (and7 (tkc2a w os) (tkc2b w os) (tkc2c w os) (tkc2d w os) (tkc2e w os) (tkc2f w os) rfl) (tkc3 w os) (tkc4 w os) (tkc5 w os) (tkc6 w os) (tkc7 w os) (tkc8 w os)
theorem tk6 (w:World) (os:OsState):Hook.obs (kHook KK as hk) ⟨HF w.params,Array.mk [],{},808,os⟩ = Hook.val (kHook KK as hk) w:=by kernel_rfl
theorem t_left:LeftO pw vw [] (fun s=>xlAt vw [] s && recOk (RowW.records PySem.Challenge.rw_mustmay_k04_begun_and_free.row.toRowW) s) (Hook.obs (kHook KK as hk)) (Hook.val (kHook KK as hk)) 7810 true :=
 LeftO.of_pieces (H₀:=boot_heap) (H₁:=HF) (m₀:=11) (ann:=(some (.ref 6))) (M:=(12 + (1 + (1335 + (1244 + (1269 + 2)))))) t_op t_size t_run (by decide) fun w=>funext fun os=>Prod.ext (by dsimp only; rw [tk1,tk2,tk3,tk4]; rfl) (Prod.ext (tk5 w os) (tk6 w os))
end
end K6
namespace K6
open PySem PySem.W PyProof.Rows L2 MX DL
set_option maxRecDepth 100000 in
set_option maxHeartbeats 0 in
theorem aiL (w:World) (mg:Str→Option Value) (fa:Addr) (h:Heap) (KX:(KK w.params).In h) (G:h.Ns mainGlobals mg) (hmg:mg "law" = some (.ref fa)):∃ fd:FuncData,(∀ (s:Shared) (u:Value),BindsTo s fd ⟨[u],[]⟩ [("_law_script",u)])∧∀ base:Heap,(KK w.params).In base→base.Ns mainGlobals mg→bf PySem.Challenge.rw_mustmay_k04_begun_and_free.prog w (KK w.params) mg base CX0 11 fa fd ["_law_script"] (afr (KK w.params)):=by
 k_fill
 refine' all_mk (l:=PySem.Challenge.rw_mustmay_k04_begun_and_free) KX G hmg ?afL ?ab8 ?aaM ?acv ?acE ?aaH ?aaR ?adl ?QQ ?afM ?ab9 ?aaN ?acw ?acF ?aaI ?aaS ?adm ?QR ?a_May ?ahe ?agD ?ahj ?ahn ?agC ?agE ?ahI ?Zv ?afO ?acb ?aaP ?acy ?acH ?aaK ?aaU ?ado ?QT ?afP ?acd ?aaQ ?acz ?acI ?aaL ?aaV ?adp ?QV ?YZ ?S7 ?RD ?Tj ?Tv ?RC ?RG ?Ud ?Kg ?afN ?aca ?aaO ?acx ?acG ?aaJ ?aaT ?adn ?QS ?hn ?htk ?dX ?cV ?oN ?kW ?eY ?dR ?kY ?kZ ?z_all ?ahJ ?ahK ?Dc ?z_int ?zj ?z_len ?ahL ?adt ?z_set ?z_str ?adu ?zW ?oH ?nH ?eH ?iH ?tyH ?h1H ?h2H ?h3H ?suH ?Ka ?Ld ?K7 ?Ko ?Gk ?Gn ?G9 ?sE ?zg ?Hf ?Gz ?GC ?Gr ?Hg ?eZ ?di ?Hj ?Hi ?Qy ?Sg ?R6 ?Rt ?Ku ?Kv ?Li ?wz ?Lk ?Ln ?K1 ?Kz ?Lr ?wQ ?abp ?aaW ?aa2 ?agZ ?agH ?agP ?abr ?aaY ?aa4 ?abt ?aaZ ?aa5 ?R5 ?RJ ?RP ?abq ?aaX ?aa3 ?qU ?yg ?yj ?pG ?w6 ?z7 ?xn ?xr ?ye ?Bh ?yh ?yl ?Ei ?HS ?Ej ?Ek ?Fe ?Jj ?Ff ?Fg ?z8 ?Eh ?Aa ?Ac ?Bj ?Fd ?Bl ?Bo ?z9 ?Fy ?Ab ?Ae ?Bk ?Gi ?Bm ?Bp ?wZ ?zZ ?xm ?xq ?ju ?iU ?jT ?fH ?uT ?xg ?pH ?uU ?xj ?pI ?inD ?ca1 ?ca2 ?ca3 ?wy ?mL ?iZ ?mK ?uR ?vC ?xf ?yf ?wI ?oK ?gm ?eF ?wJ ?jk ?nR ?qb ?qd ?qe ?jl ?t7 ?yU ?fO ?jj ?aZ ?nP ?lD ?nQ ?j6 ?fK ?eE ?j5 ?ig ?fM ?m_law ?BK ?xJ ?p8 ?BW ?xP ?By ?BZ ?xR ?BJ ?yF ?uY ?yr ?tM ?qj ?tL ?yG ?uZ ?qW ?BV ?xO ?uJ ?BR ?xN ?uI ?Gs ?Ak ?yu ?BX ?xQ ?uK ?Ca ?xT ?uL ?yK ?vg ?yx ?BP ?xM ?Bx ?yL ?vh ?yC ?yM ?vm ?yE ?vN ?sG ?vK ?yJ ?vf ?yt ?vO ?sI ?vL ?vP ?sJ ?vM ?Gu ?Al ?yw ?KC ?FJ ?Dm ?Gv ?Am ?yz ?Gw ?An ?yD ?BL ?xK ?jf ?KD ?FN ?rD ?KH ?FP ?lz ?oJ ?mO ?dW ?tU ?qt ?cT ?KJ ?FQ ?rE ?tR ?qp ?gk ?yQ ?vy ?jz ?Cg ?xW ?lA ?Ci ?xX ?lB ?Ck ?xZ ?lC ?jV ?jc ?dD ?yH ?u9 ?nu ?yI ?vd ?nA ?Cj ?xY ?gK ?Gx ?Ao ?oG ?abm ?QW ?uM ?Ce ?xV ?dO ?tQ ?qm ?gj ?yN ?vo ?aW ?yO ?vp ?jx ?Cd ?xU ?jg ?yP ?vq ?jy ?vR ?sS ?g8 ?nD ?kE ?dg ?tO ?ql ?cR ?vQ ?sO ?gZ ?vU ?sU ?fQ ?nF ?kI ?dh ?l_law ?aga ?k_law
 (case afL=>k_is)
 (case ab8=>k_is)
 (case aaM=>k_is)
 (case acv=>k_is)
 (case acE=>k_is)
 (case aaH=>k_is)
 (case aaR=>k_is)
 (case adl=>k_is)
 (case QQ=>k_is)
 (case afM=>k_is)
 (case ab9=>k_is)
 (case aaN=>k_is)
 (case acw=>k_is)
 (case acF=>k_is)
 (case aaI=>k_is)
 (case aaS=>k_is)
 (case adm=>k_is)
 (case QR=>k_is)
 (case a_May=>k_is)
 (case ahe=>k_is)
 (case agD=>k_is)
 (case ahj=>k_is)
 (case ahn=>k_is)
 (case agC=>k_is)
 (case agE=>k_is)
 (case ahI=>k_is)
 (case Zv=>k_is)
 (case afO=>k_is)
 (case acb=>k_is)
 (case aaP=>k_is)
 (case acy=>k_is)
 (case acH=>k_is)
 (case aaK=>k_is)
 (case aaU=>k_is)
 (case ado=>k_is)
 (case QT=>k_is)
 (case afP=>k_is)
 (case acd=>k_is)
 (case aaQ=>k_is)
 (case acz=>k_is)
 (case acI=>k_is)
 (case aaL=>k_is)
 (case aaV=>k_is)
 (case adp=>k_is)
 (case QV=>k_is)
 (case YZ=>k_is)
 (case S7=>k_is)
 (case RD=>k_is)
 (case Tj=>k_is)
 (case Tv=>k_is)
 (case RC=>k_is)
 (case RG=>k_is)
 (case Ud=>k_is)
 (case Kg=>k_is)
 (case afN=>k_is)
 (case aca=>k_is)
 (case aaO=>k_is)
 (case acx=>k_is)
 (case acG=>k_is)
 (case aaJ=>k_is)
 (case aaT=>k_is)
 (case adn=>k_is)
 (case QS=>k_is)
 (case hn=>k_is)
 (case htk=>k_is)
 (case dX=>k_is)
 (case cV=>k_is)
 (case oN=>k_is)
 (case kW=>k_is)
 (case eY=>k_is)
 (case dR=>k_is)
 (case kY=>k_is)
 (case kZ=>k_is)
 (case z_all=>k_is)
 (case ahJ=>k_is)
 (case ahK=>k_is)
 (case Dc=>k_is)
 (case z_int=>k_is)
 (case zj=>k_is)
 (case z_len=>k_is)
 (case ahL=>k_is)
 (case adt=>k_is)
 (case z_set=>k_is)
 (case z_str=>k_is)
 (case adu=>k_is)
 (case zW=>k_is)
 (case oH=>k_is)
 (case nH=>k_is)
 (case eH=>rfl)
 (case iH=>k_is)
 (case tyH=>k_is)
 (case h1H=>k_is)
 (case h2H=>k_is)
 (case h3H=>k_is)
 (case suH=>k_is)
 (case Ka=>k_is)
 (case Ld=>k_is)
 (case K7=>k_is)
 (case Ko=>rfl)
 (case Gk=>k_is)
 (case Gn=>k_is)
 (case G9=>k_is)
 (case sE=>k_is)
 (case zg=>k_is)
 (case Hf=>k_is)
 (case Gz=>k_is)
 (case GC=>k_is)
 (case Gr=>k_is)
 (case Hg=>k_is)
 (case eZ=>k_is)
 (case di=>k_is)
 (case Hj=>k_is)
 (case Hi=>k_is)
 (case Qy=>k_is)
 (case Sg=>k_is)
 (case R6=>k_is)
 (case Rt=>rfl)
 (case Ku=>k_is)
 (case Kv=>k_is)
 (case Li=>k_is)
 (case wz=>k_is)
 (case Lk=>k_is)
 (case Ln=>k_is)
 (case K1=>k_is)
 (case Kz=>k_is)
 (case Lr=>k_is)
 (case wQ=>k_is)
 (case abp=>k_is)
 (case aaW=>k_is)
 (case aa2=>k_is)
 (case agZ=>k_is)
 (case agH=>k_is)
 (case agP=>k_is)
 (case abr=>k_is)
 (case aaY=>k_is)
 (case aa4=>k_is)
 (case abt=>k_is)
 (case aaZ=>k_is)
 (case aa5=>k_is)
 (case R5=>k_is)
 (case RJ=>k_is)
 (case RP=>k_is)
 (case abq=>k_is)
 (case aaX=>k_is)
 (case aa3=>k_is)
 (case qU=>k_is)
 (case yg=>k_is)
 (case yj=>k_is)
 (case pG=>k_is)
 (case w6=>k_is)
 (case z7=>k_is)
 (case xn=>k_is)
 (case xr=>k_is)
 (case ye=>k_is)
 (case Bh=>k_is)
 (case yh=>k_is)
 (case yl=>k_is)
 (case Ei=>k_is)
 (case HS=>k_is)
 (case Ej=>k_is)
 (case Ek=>k_is)
 (case Fe=>k_is)
 (case Jj=>k_is)
 (case Ff=>k_is)
 (case Fg=>k_is)
 (case z8=>k_is)
 (case Eh=>k_is)
 (case Aa=>k_is)
 (case Ac=>k_is)
 (case Bj=>k_is)
 (case Fd=>k_is)
 (case Bl=>k_is)
 (case Bo=>k_is)
 (case z9=>k_is)
 (case Fy=>k_is)
 (case Ab=>k_is)
 (case Ae=>k_is)
 (case Bk=>k_is)
 (case Gi=>k_is)
 (case Bm=>k_is)
 (case Bp=>k_is)
 (case wZ=>k_is)
 (case zZ=>k_is)
 (case xm=>k_is)
 (case xq=>k_is)
 (case ju=>k_is)
 (case iU=>k_is)
 (case jT=>k_is)
 (case fH=>k_is)
 (case uT=>k_is)
 (case xg=>k_is)
 (case pH=>k_is)
 (case uU=>k_is)
 (case xj=>k_is)
 (case pI=>k_is)
 (case inD=>k_is)
 (case ca1=>k_is)
 (case ca2=>k_is)
 (case ca3=>k_is)
 (case wy=>k_is)
 (case mL=>k_is)
 (case iZ=>k_is)
 (case mK=>k_is)
 (case uR=>k_is)
 (case vC=>k_is)
 (case xf=>k_is)
 (case yf=>k_is)
 (case wI=>k_is)
 (case oK=>k_is)
 (case gm=>k_is)
 (case eF=>k_is)
 (case wJ=>k_is)
 (case jk=>k_is)
 (case nR=>k_is)
 (case qb=>k_is)
 (case qd=>k_is)
 (case qe=>k_is)
 (case jl=>k_is)
 (case t7=>k_is)
 (case yU=>k_is)
 (case fO=>k_is)
 (case jj=>k_is)
 (case aZ=>k_is)
 (case nP=>k_is)
 (case lD=>k_is)
 (case nQ=>k_is)
 (case j6=>k_is)
 (case fK=>k_is)
 (case eE=>k_is)
 (case j5=>k_is)
 (case ig=>k_is)
 (case fM=>k_is)
 (case m_law=>k_is)
 (case BK=>k_is)
 (case xJ=>k_is)
 (case p8=>k_is)
 (case BW=>k_is)
 (case xP=>k_is)
 (case By=>k_is)
 (case BZ=>k_is)
 (case xR=>k_is)
 (case BJ=>k_is)
 (case yF=>k_is)
 (case uY=>k_is)
 (case yr=>k_is)
 (case tM=>k_is)
 (case qj=>k_is)
 (case tL=>k_is)
 (case yG=>k_is)
 (case uZ=>k_is)
 (case qW=>k_is)
 (case BV=>k_is)
 (case xO=>k_is)
 (case uJ=>k_is)
 (case BR=>k_is)
 (case xN=>k_is)
 (case uI=>k_is)
 (case Gs=>k_is)
 (case Ak=>k_is)
 (case yu=>k_is)
 (case BX=>k_is)
 (case xQ=>k_is)
 (case uK=>k_is)
 (case Ca=>k_is)
 (case xT=>k_is)
 (case uL=>k_is)
 (case yK=>k_is)
 (case vg=>k_is)
 (case yx=>k_is)
 (case BP=>k_is)
 (case xM=>k_is)
 (case Bx=>k_is)
 (case yL=>k_is)
 (case vh=>k_is)
 (case yC=>k_is)
 (case yM=>k_is)
 (case vm=>k_is)
 (case yE=>k_is)
 (case vN=>k_is)
 (case sG=>k_is)
 (case vK=>k_is)
 (case yJ=>k_is)
 (case vf=>k_is)
 (case yt=>k_is)
 (case vO=>k_is)
 (case sI=>k_is)
 (case vL=>k_is)
 (case vP=>k_is)
 (case sJ=>k_is)
 (case vM=>k_is)
 (case Gu=>k_is)
 (case Al=>k_is)
 (case yw=>k_is)
 (case KC=>k_is)
 (case FJ=>k_is)
 (case Dm=>k_is)
 (case Gv=>k_is)
 (case Am=>k_is)
 (case yz=>k_is)
 (case Gw=>k_is)
 (case An=>k_is)
 (case yD=>k_is)
 (case BL=>k_is)
 (case xK=>k_is)
 (case jf=>k_is)
 (case KD=>k_is)
 (case FN=>k_is)
 (case rD=>k_is)
 (case KH=>k_is)
 (case FP=>k_is)
 (case lz=>k_is)
 (case oJ=>k_is)
 (case mO=>k_is)
 (case dW=>k_is)
 (case tU=>k_is)
 (case qt=>k_is)
 (case cT=>k_is)
 (case KJ=>k_is)
 (case FQ=>k_is)
 (case rE=>k_is)
 (case tR=>k_is)
 (case qp=>k_is)
 (case gk=>k_is)
 (case yQ=>k_is)
 (case vy=>k_is)
 (case jz=>k_is)
 (case Cg=>k_is)
 (case xW=>k_is)
 (case lA=>k_is)
 (case Ci=>k_is)
 (case xX=>k_is)
 (case lB=>k_is)
 (case Ck=>k_is)
 (case xZ=>k_is)
 (case lC=>k_is)
 (case jV=>k_is)
 (case jc=>k_is)
 (case dD=>k_is)
 (case yH=>k_is)
 (case u9=>k_is)
 (case nu=>k_is)
 (case yI=>k_is)
 (case vd=>k_is)
 (case nA=>k_is)
 (case Cj=>k_is)
 (case xY=>k_is)
 (case gK=>k_is)
 (case Gx=>k_is)
 (case Ao=>k_is)
 (case oG=>k_is)
 (case abm=>k_is)
 (case QW=>k_is)
 (case uM=>k_is)
 (case Ce=>k_is)
 (case xV=>k_is)
 (case dO=>k_is)
 (case tQ=>k_is)
 (case qm=>k_is)
 (case gj=>k_is)
 (case yN=>k_is)
 (case vo=>k_is)
 (case aW=>k_is)
 (case yO=>k_is)
 (case vp=>k_is)
 (case jx=>k_is)
 (case Cd=>k_is)
 (case xU=>k_is)
 (case jg=>k_is)
 (case yP=>k_is)
 (case vq=>k_is)
 (case jy=>k_is)
 (case vR=>k_is)
 (case sS=>k_is)
 (case g8=>k_is)
 (case nD=>k_is)
 (case kE=>k_is)
 (case dg=>k_is)
 (case tO=>k_is)
 (case ql=>k_is)
 (case cR=>k_is)
 (case vQ=>k_is)
 (case sO=>k_is)
 (case gZ=>k_is)
 (case vU=>k_is)
 (case sU=>k_is)
 (case fQ=>k_is)
 (case nF=>k_is)
 (case kI=>k_is)
 (case dh=>k_is)
 (case l_law=>k_is)
 (case aga=>k_is)
 (case k_law=>k_is)
end K6
open PySem PySem.W PyProof.Rows
set_option maxRecDepth 100000 in
set_option maxHeartbeats 0 in
theorem PySem.Challenge.cw_mustmay_k04_begun_and_free_holds : PySem.Challenge.rw_mustmay_k04_begun_and_free.Holds := by
 w_on
 refine PySem.W.holds_law (by kernel_rfl) fun said=>?_
 refine holds_open (q:=K6.vw) (loose:=[]) (Xt:=fun s=>xlAt K6.vw [] s && recOk (RowW.records PySem.Challenge.rw_mustmay_k04_begun_and_free.row.toRowW) s) (XP:=XL K6.vw []) (Yf:=Hook.obs (kHook K6.KK K6.as K6.hk)) (Ya:=Hook.val (kHook K6.KK K6.as K6.hk)) (YP:=Hook.says (kHook K6.KK K6.as K6.hk)) (N:=7810) K6.t_left (Hook.of (kHook K6.KK K6.as K6.hk)) (Hook.keeps (kHook K6.KK K6.as K6.hk)) (fun s e=>xl_of s (Bool.and_eq_true_iff.mp e).1) XL.keeps (by rfl) (by rfl) (by rfl) (fun s e=>recFacts_of (Bool.and_eq_true_iff.mp e).2) (by rfl) said (by decide +kernel) ⟨rfl,rfl,rfl,rfl,rfl,by decide +kernel⟩ ?hw ?hc
 (case hw=>w_witness2)
 k_fill
 refine K6.walk (l:=PySem.Challenge.rw_mustmay_k04_begun_and_free) rfl rfl (fun w h Y=>PySem.W.kIn_of Y) ?F
 case F =>
   intro w mg fa h KX G hmg
   exact K6.aiL w mg fa h KX G hmg
