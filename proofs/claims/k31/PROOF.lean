import PyProof.Rows.All
import Wide.All
import OpenK.AllK
import Wide.FinOn
import Lean
import PyProof.EqAt
import PyProof.EqKinds
import PyProof.TupleCall
import PyProof.ExcClass2
import PyProof.NsCount
import PyProof.StationsW
import PyProof.PassesOwn
import PyProof.Commute
import PyProof.RulesAs
import PyProof.NsDelKeeps
import KE.KTryMore
import PySem.Challenge.RW_mustmay_k31_faults_at_rooms
set_option Elab.async false
set_option maxRecDepth 100000 in
set_option maxHeartbeats 0 in
theorem h_said : PySem.Challenge.rw_mustmay_k31_faults_at_rooms.wellSaid = true := by kernel_rfl
set_option maxRecDepth 100000 in
set_option maxHeartbeats 0 in
theorem h_bare : PySem.Challenge.rw_mustmay_k31_faults_at_rooms.row.prog.bare := ⟨rfl, rfl, rfl, rfl, rfl, by decide +kernel⟩
set_option Elab.async false
set_option linter.all false
set_option maxRecDepth 100000
namespace L2
open PySem PySem.Spec PyProof.Rows
abbrev Key:=Sum Int Str
def keyIs:Key→Value→Bool
 | .inl k,v=>Value.isInt k v
 | .inr x,v=>Value.isStrOf x v
def keyH (w:World):Key→Int
 | .inl k=>hashInt k
 | .inr x=>hashStr w x
theorem fG:∀ {k:Key} {v:Value},keyIs k v = true→(∃ i t,k = Sum.inl i∧v = Value.int i t) ∨ (∃ x t,k = Sum.inr x∧v = Value.str x t)
 | .inl i,v,h=>by
   obtain ⟨t,e⟩:=Value.isInt_shape (k:=i) (v:=v) h
   exact .inl ⟨i,t,rfl,e⟩
 | .inr x,v,h=>by
   obtain ⟨t,e⟩:=Value.isStrOf_shape (x:=x) (v:=v) h
   exact .inr ⟨x,t,rfl,e⟩
theorem key_ll (a b:Int):decide ((Sum.inl a:Key) = Sum.inl b) = (a == b):=by
 by_cases e:a = b
 · subst e; simp
 · have h:¬ (Sum.inl a:Key) = Sum.inl b:=fun q=>e (Sum.inl.inj q)
   rw [decide_eq_false h]
   exact (beq_eq_false_iff_ne.mpr e).symm
theorem key_rr (a b:Str):decide ((Sum.inr a:Key) = Sum.inr b) = decide (a = b):=by
 by_cases e:a = b
 · subst e; simp
 · have h:¬ (Sum.inr a:Key) = Sum.inr b:=fun q=>e (Sum.inr.inj q)
   rw [decide_eq_false h,decide_eq_false e]
theorem key_lr (a:Int) (b:Str):decide ((Sum.inl a:Key) = Sum.inr b) = false:=decide_eq_false (fun q=>nomatch q)
theorem key_rl (a:Str) (b:Int):decide ((Sum.inr a:Key) = Sum.inl b) = false:=decide_eq_false (fun q=>nomatch q)
def ab2 (prog:Program) (w:World):PySem.KeyKind prog w Key where
 is:=keyIs
 hash:=keyH w
 inj:=fun v a b ha hb=>by
   rcases fG ha with ⟨i,t,rfl,rfl⟩ | ⟨x,t,rfl,rfl⟩
   · rcases fG hb with ⟨j,u,rfl,e⟩ | ⟨y,u,rfl,e⟩
     · injection e with e1 _; rw [e1]
     · exact nomatch e
   · rcases fG hb with ⟨j,u,rfl,e⟩ | ⟨y,u,rfl,e⟩
     · exact nomatch e
     · injection e with e1 _; rw [e1]
 byValue:=fun k v h=>by
   rcases fG h with ⟨i,t,rfl,rfl⟩ | ⟨x,t,rfl,rfl⟩ <;> rfl
 pyHash:=fun hv h=>by
   rcases fG hv with ⟨i,t,rfl,rfl⟩ | ⟨x,t,rfl,rfl⟩
   · exact wpAny_pyHash_int h
   · exact wpAny_pyHash_str h
 eqBool:=fun hu hv h=>by
   rcases fG hu with ⟨i,t,rfl,rfl⟩ | ⟨x,t,rfl,rfl⟩
   · rcases fG hv with ⟨j,u,rfl,rfl⟩ | ⟨y,u,rfl,rfl⟩
     · rw [key_ll] at h; exact wpAny_eqBool_int h
     · rw [key_lr] at h; exact SeqAt.EqAt.int_str i t y u _ _ _ _ h
   · rcases fG hv with ⟨j,u,rfl,rfl⟩ | ⟨y,u,rfl,rfl⟩
     · rw [key_rl] at h; exact SeqAt.EqAt.str_int x t j u _ _ _ _ h
     · rw [key_rr] at h; exact wpAny_eqBool_str h
 «strs»:=fun k x t v h=>by
   rcases fG h with ⟨i,u,rfl,e⟩ | ⟨y,u,rfl,e⟩
   · exact nomatch e
   · injection e with e1 _
     subst e1
     cases v <;> rfl
end L2
namespace L2
open PySem PySem.Spec PyProof.Rows
inductive V where
 | non | bl (b:Bool) | int (i:Int) | str (x:Str) | byt (b:Array UInt8) | flt (b:UInt64) | ref (a:Addr) | ty (n:String)
 deriving DecidableEq
def RelV:V→Value→Prop
 | .non,u=>u = Value.none
 | .bl b,u=>u = Value.bool b
 | .int i,u=>∃ t,u = Value.int i t
 | .str x,u=>∃ t,u = Value.str x t
 | .byt b,u=>∃ t,u = Value.bytes b t
 | .flt b,u=>∃ t,u = Value.float b t
 | .ref a,u=>u = Value.ref a
 | .ty n,u=>u = Value.type n
abbrev Vals:List V→List Value→Prop:=Paired RelV
theorem Vals.length {xs:List V} {us:List Value} (r:Vals xs us):xs.length = us.length:=Paired.length r
theorem Vals.get:∀ {xs:List V} {us:List Value} {i:Nat} {x:V},Vals xs us→xs[i]? = some x→∃ u,us[i]? = some u∧RelV x u
 | _,_,_,_,.nil,e=>by simp at e
 | _,_,0,_,.cons r _,e=>by simp at e; subst e; exact ⟨_,rfl,r⟩
 | _,_,i + 1,x,.cons _ t,e=>by
   obtain ⟨u,h1,h2⟩:=Vals.get (i:=i) (x:=x) t (by simpa using e)
   exact ⟨u,by simpa using h1,h2⟩
theorem Vals.set {x:V} {u:Value} (r:RelV x u):∀ {xs:List V} {us:List Value} (i:Nat),Vals xs us→Vals (xs.set i x) (us.set i u)
 | _,_,_,.nil=>.nil
 | _,_,0,.cons _ t=>.cons r t
 | _,_,i + 1,.cons q t=>.cons q (Vals.set r i t)
theorem Vals.append:∀ {xs ys:List V} {us ws:List Value},Vals xs us→Vals ys ws→Vals (xs ++ ys) (us ++ ws)
 | _,_,_,_,.nil,s=>s
 | _,_,_,_,.cons r t,s=>.cons r (Vals.append t s)
theorem Vals.take:∀ {xs:List V} {us:List Value} (n:Nat),Vals xs us→Vals (xs.take n) (us.take n)
 | _,_,0,_=>.nil
 | _,_,_ + 1,.nil=>.nil
 | _,_,n + 1,.cons r t=>.cons r (Vals.take n t)
theorem Vals.drop:∀ {xs:List V} {us:List Value} (n:Nat),Vals xs us→Vals (xs.drop n) (us.drop n)
 | _,_,0,r=>r
 | _,_,_ + 1,.nil=>.nil
 | _,_,n + 1,.cons _ t=>Vals.drop n t
theorem Vals.none_of:∀ {xs:List V} {us:List Value} {i:Nat},Vals xs us→xs[i]? = none→us[i]? = none:=fun {xs us i} r e=>by
 have h1:=r.length
 have h2:xs.length ≤ i:=List.getElem?_eq_none_iff.mp e
 exact List.getElem?_eq_none_iff.mpr (by omega)
def Bb:Option V→Option Value→Prop
 | some v,some u=>RelV v u
 | none,none=>True
 | _,_=>False
def KV {κ:Type}:List (κ × V)→List (κ × Value)→Prop:=Paired fun (p:κ × V) (q:κ × Value)=>p.1 = q.1∧RelV p.2 q.2
def kV:Key→V
 | .inl i=>.int i
 | .inr x=>.str x
inductive HO where
 | lst (xs:List V)
 | tup (xs:List V)
 | dK (kvs:List (Key × V)) | dT (kvs:List (List Key × V))
 | set (S:Int→Bool) (n:Nat)
 | ins (C dx:Addr) (fs:List (Str × V))
 | own (x:Addr)
 | xd (fs:List (Str × V))
 | met (f x:Addr)
 | rng (lo hi:Int)
 | frz (o:Obj) (u:HO)
 | tbl (ps:Array Value)
 | ext (φ:Heap→Prop)
abbrev Hp:=Addr→Option HO
def upd (H:Hp) (a:Addr) (o:HO):Hp:=fun b=>if b = a then some o else H b
theorem aW {H:Hp} {a:Addr} {o:HO}:upd H a o a = some o:=by unfold upd; rw [if_pos rfl]
theorem aN {H:Hp} {a b:Addr} {o:HO} (h:b ≠ a):upd H a o b = H b:=by unfold upd; rw [if_neg h]
theorem bc {H:Hp} {a b:Addr} {o:HO} (h:H a = some o) (h':H b = none):a ≠ b:=by
 intro e; subst e; rw [h] at h'; cases h'
section
variable (P:Program) (w:World)
def gU (H:Hp) (h:Heap) (a:Addr):HO→Prop
 | .lst xs=>xs.length ≤ sizeLine∧∃ (its:List Value) (n:Nat),Vals xs its∧h.get? a = some { cls:=.type "list",data:=.seq its.toArray n }
 | .tup xs=>xs.length ≤ sizeLine∧∃ its:List Value,Vals xs its∧IsTup h a its.toArray
 | .dK kvs=>kvs.length ≤ sizeLine∧(a == sysModules) = false∧∃ vs,KV kvs vs∧h.DictOf (ab2 P w) a vs
 | .dT kvs=>kvs.length ≤ sizeLine∧(a == sysModules) = false∧∃ xs:List (List Key × Addr × Value),
     Paired (fun (p:List Key × V) (q:List Key × Addr × Value)=>p.1 = q.1∧H q.2.1 = some (.tup (p.1.map kV))∧RelV p.2 q.2.2) kvs xs ∧
     ∃ o es ep,h.get? a = some o∧o.ExactDict∧o.data = .dict es ep∧es.toList = xs.map (entryOfKey (tupleKind (ab2 P w)))∧(xs.map (·.1)).Nodup
 | .set S n=>h.SetOf (intKind P w) a S n
 | .ins C dx fs=>H dx = some (.own a)∧fs.length ≤ 1000∧dx ≠ a∧h.get? a = some (PySem.W.instObj C dx) ∧
     ∃ mA,h.Ns1 dx mA∧(∀ f,Bb (fs.lookup f) (mA f))∧PySem.Within mA (fs.map (·.1))
 | .own _=>∃ o,h.get? a = some o
 | .xd fs=>∃ mA,h.Ns1 a mA∧∀ f,Bb (fs.lookup f) (mA f)
 | .rng lo hi=>∃ t u v,h.get? a = some { cls:=.type "range",data:=.fields #[.int lo t,.int hi u,.int 1 v] }
 | .frz o u=>h.get? a = some o∧gU H h a u
 | .tbl ps=>h.get? a = some { cls:=.none,data:=.fields ps }
 | .met f x=>h.get? a = some (PySem.W.methodObj (.ref f) (.ref x))
 | .ext φ=>φ h∧(∃ o,h.get? a = some o)∧∀ h1 h2:Heap,φ h1→(∀ o,h1.get? a = some o→h2.get? a = some o)→φ h2
def HOk (H:Hp) (h:Heap):Prop:=∀ a o,H a = some o→gU P w H h a o
end
section
variable {P:Program} {w:World} {H H':Hp} {h h':Heap} {a:Addr} {o:HO}
theorem gU.lt (x:gU P w H h a o):a < h.objs.size:=by
 cases o with
 | lst xs=>obtain ⟨_,_,_,_,e⟩:=x; exact Heap.lt_size e
 | tup xs=>obtain ⟨_,_,_,p⟩:=x; exact p.lt
 | dK kvs=>obtain ⟨_,_,_,_,o,_,_,e,_⟩:=x; exact Heap.lt_size e
 | dT kvs=>obtain ⟨_,_,_,_,o,_,_,e,_⟩:=x; exact Heap.lt_size e
 | set S n=>obtain ⟨o,_,_,_,e,_⟩:=x; exact Heap.lt_size e
 | ins C dx fs=>obtain ⟨_,_,_,e,_⟩:=x; exact Heap.lt_size e
 | own y=>obtain ⟨_,e⟩:=x; exact Heap.lt_size e
 | xd fs=>obtain ⟨_,⟨_,_,_,e,_⟩,_⟩:=x; exact Heap.lt_size e
 | rng lo hi=>obtain ⟨_,_,_,e⟩:=x; exact Heap.lt_size e
 | frz ob u=>obtain ⟨e,_⟩:=x; exact Heap.lt_size e
 | tbl ps=>exact Heap.lt_size (show h.get? a = some _ from x)
 | met f y=>exact Heap.lt_size (show h.get? a = some _ from x)
 | ext φ=>obtain ⟨_,⟨_,e⟩,_⟩:=x; exact Heap.lt_size e
theorem Paired.mapP {α β:Type} {F G:α→β→Prop}:∀ {l₁:List α} {l₂:List β},Paired F l₁ l₂→(∀ a b,F a b→G a b)→Paired G l₁ l₂
 | _,_,.nil,_=>.nil
 | _,_,.cons r t,f=>.cons (f _ _ r) (Paired.mapP t f)
theorem gU.stay (x:gU P w H h a o) (k:∀ b u,(b = a ∨ H b = some (.own a))→h.get? b = some u→h'.get? b = some u)
   (ho:∀ b,H b = some (.own a)→H' b = some (.own a)) (ht:∀ b xs,H b = some (.tup xs)→H' b = some (.tup xs)):gU P w H' h' a o:=by
 induction o with
 | lst xs=>obtain ⟨z,its,n,r,e⟩:=x; exact ⟨z,its,n,r,k _ _ (.inl rfl) e⟩
 | tup xs=>obtain ⟨z,its,r,ob,e,c⟩:=x; exact ⟨z,its,r,ob,k _ _ (.inl rfl) e,c⟩
 | dK kvs=>obtain ⟨z,y,vs,r,ob,es,ep,e,c⟩:=x; exact ⟨z,y,vs,r,ob,es,ep,k _ _ (.inl rfl) e,c⟩
 | dT kvs =>
   obtain ⟨z,y,xs,r,ob,es,ep,e,c⟩:=x
   exact ⟨z,y,xs,Paired.mapP r fun p q z=>⟨z.1,ht _ _ z.2.1,z.2.2⟩,ob,es,ep,k _ _ (.inl rfl) e,c⟩
 | set S n=>obtain ⟨ob,es,ep,t,e,c⟩:=x; exact ⟨ob,es,ep,t,k _ _ (.inl rfl) e,c⟩
 | ins C dx fs =>
   obtain ⟨d,z,ne,e,mA,⟨od,es,ep,e2,c⟩,r⟩:=x
   exact ⟨ho _ d,z,ne,k _ _ (.inl rfl) e,mA,⟨od,es,ep,k _ _ (.inr d) e2,c⟩,r⟩
 | own y=>obtain ⟨ob,e⟩:=x; exact ⟨ob,k _ _ (.inl rfl) e⟩
 | xd fs=>obtain ⟨mA,⟨od,es,ep,e,c⟩,r⟩:=x; exact ⟨mA,⟨od,es,ep,k _ _ (.inl rfl) e,c⟩,r⟩
 | rng lo hi=>obtain ⟨t,u,v,e⟩:=x; exact ⟨t,u,v,k _ _ (.inl rfl) e⟩
 | frz ob u ih=>obtain ⟨e,q⟩:=x; exact ⟨k _ _ (.inl rfl) e,ih q⟩
 | tbl ps =>
   have e:h.get? a = some { cls:=.none,data:=.fields ps }:=x
   show h'.get? a = some { cls:=.none,data:=.fields ps }
   exact k a _ (.inl rfl) e
 | met f y =>
   have e:h.get? a = some (PySem.W.methodObj (.ref f) (.ref y)):=x
   show h'.get? a = some (PySem.W.methodObj (.ref f) (.ref y))
   exact k a _ (.inl rfl) e
 | ext φ=>obtain ⟨p,⟨o,e⟩,st⟩:=x; exact ⟨st _ _ p fun o q=>k _ _ (.inl rfl) q,⟨o,k _ _ (.inl rfl) e⟩,st⟩
theorem HOk.lt (x:HOk P w H h) (e:H a = some o):a < h.objs.size:=(x a o e).lt
theorem HOk.fresh (x:HOk P w H h) (e:h.objs.size ≤ a):H a = none:=by
 cases q:H a with
 | none=>rfl
 | some u=>exact absurd (Nat.lt_of_lt_of_le (x.lt q) e) (Nat.lt_irrefl _)
theorem HOk.kept (x:HOk P w H h) (k:∀ b u,h.get? b = some u→h'.get? b = some u):HOk P w H h':=fun a o e =>
 (x a o e).stay (fun b u _ q=>k b u q) (fun _ q=>q) fun _ _ q=>q
theorem HOk.laid (x:HOk P w H h) (k:∀ b u,h.get? b = some u→h'.get? b = some u) (hp:h.objs.size ≤ a) (new:gU P w (upd H a o) h' a o):HOk P w (upd H a o) h':=fun b u e=>by
 have hn:=x.fresh hp
 by_cases hb:b = a
 · subst hb; rw [aW] at e; cases e; exact new
 · rw [aN hb] at e
   exact (x b u e).stay (fun c v _ q=>k c v q) (fun c q=>by rw [aN (bc q hn)]; exact q) fun c xs q=>by rw [aN (bc q hn)]; exact q
end
def Rd (H:Hp) (a:Addr) (u:HO):Prop:=H a = some u ∨ ∃ o,H a = some (.frz o u)
theorem Rd.of {H:Hp} {a:Addr} {u:HO} (h:H a = some u):Rd H a u:=.inl h
theorem Rd.ok {P:Program} {w:World} {H:Hp} {h:Heap} {a:Addr} {u:HO} (r:Rd H a u) (x:HOk P w H h):gU P w H h a u:=by
 rcases r with r | ⟨o,r⟩
 · exact x a u r
 · obtain ⟨_,q⟩:=x a _ r
   exact q
def Mut:Option HO→Prop
 | some (.lst _)=>True
 | some (.dK _)=>True
 | some (.dT _)=>True
 | some (.set _ _)=>True
 | some (.ins _ _ _)=>True
 | some (.ext _)=>True
 | _=>False
section
variable {P:Program} {w:World} {H:Hp} {h h':Heap} {x e:Addr} {o':HO}
theorem HOk.write (ok:HOk P w H h) (mu:Mut (H x)) (he:e = x ∨ H e = some (.own x)) (k:∀ b u,b ≠ e→h.get? b = some u→h'.get? b = some u) (heo:∃ u,h'.get? e = some u)
   (new:gU P w (upd H x o') h' x o'):HOk P w (upd H x o') h':=fun b u q=>by
 have nown:∀ c y,H c = some (.own y)→c ≠ x:=fun c y r z=>by subst z; rw [r] at mu; exact mu
 have ntup:∀ c xs,H c = some (.tup xs)→c ≠ x:=fun c xs r z=>by subst z; rw [r] at mu; exact mu
 by_cases hb:b = x
 · subst hb; rw [aW] at q; cases q; exact new
 · rw [aN hb] at q
   by_cases hbe:b = e
   · have q':H b = some (.own x):=by
       rcases he with z | z
       · exact absurd (hbe.trans z) hb
       · rw [hbe]; exact z
     rw [q] at q'; cases q'
     obtain ⟨v,hv⟩:=heo
     exact ⟨v,by rw [hbe]; exact hv⟩
   · refine (ok b u q).stay (fun c v hc r=>k c v ?_ r) (fun c r=>by rw [aN (nown c b r)]; exact r) fun c xs r=>by rw [aN (ntup c xs r)]; exact r
     rcases hc with rfl | hc
     · exact hbe
     · rintro rfl
       rcases he with z | z
       · exact nown c b hc z
       · rw [hc] at z; cases z; exact hb rfl
end
structure Un (fs ex:List Addr) (H H':Hp) (h h':Heap):Prop where
 keep:∀ b o,h.get? b = some o→H b = none→b ∉ fs→b ∉ ex→h'.get? b = some o
 slot:∀ b o,h.get? b = some o→H b = none→b ∈ fs→b ∉ ex→∃ sl,h'.get? b = some { o with slots:=sl }
 free:∀ b o,h.get? b = some o→H b = none→b ∉ ex→H' b = none
 there:∀ b o,h.get? b = some o→b ∉ ex→∃ o',h'.get? b = some o'
 tups:∀ b xs,H b = some (.tup xs)→H' b = some (.tup xs)
 Es:∀ b o u,H b = some (.frz o u)→H' b = some (.frz o u)
 HJ:∀ b ps,H b = some (.tbl ps)→∃ more,H' b = some (.tbl (ps ++ more))
section
variable {fs fs' ex ex':List Addr} {H H1 H2:Hp} {h h1 h2 h':Heap} {a x e:Addr} {o:HO}
theorem Un.any (u:Un fs ex H H1 h h1) {b:Addr} {ob:Obj} (q:h.get? b = some ob) (n:H b = none) (hx:b ∉ ex):∃ sl,h1.get? b = some { ob with slots:=sl }:=by
 by_cases hb:b ∈ fs
 · exact u.slot b ob q n hb hx
 · exact ⟨ob.slots,u.keep b ob q n hb hx⟩
theorem Un.trans (a:Un fs ex H H1 h h1) (b:Un fs ex H1 H2 h1 h2):Un fs ex H H2 h h2 where
 keep:=fun c ob q n hc hx=>b.keep c ob (a.keep c ob q n hc hx) (a.free c ob q n hx) hc hx
 slot:=fun c ob q n hc hx=>by
   obtain ⟨sl,e1⟩:=a.slot c ob q n hc hx
   obtain ⟨sl',e2⟩:=b.slot c _ e1 (a.free c ob q n hx) hc hx
   exact ⟨sl',e2⟩
 free:=fun c ob q n hx=>by
   obtain ⟨o',e1⟩:=a.there c ob q hx
   exact b.free c o' e1 (a.free c ob q n hx) hx
 there:=fun c ob q hx=>by
   obtain ⟨o',e1⟩:=a.there c ob q hx
   exact b.there c o' e1 hx
 tups:=fun c xs q=>b.tups c xs (a.tups c xs q)
 Es:=fun c ob xs q=>b.Es c ob xs (a.Es c ob xs q)
 HJ:=fun c ps q=>by
   obtain ⟨m1,e1⟩:=a.HJ c ps q
   obtain ⟨m2,e2⟩:=b.HJ c _ e1
   exact ⟨m1 ++ m2,by rw [e2,Array.append_assoc]⟩
theorem Un.kept (k:∀ b u,h.get? b = some u→h'.get? b = some u):Un fs ex H H h h' :=
 ⟨fun b ob q _ _ _=>k b ob q,fun b ob q _ _ _=>⟨ob.slots,k b ob q⟩,fun _ _ _ n _=>n,fun b ob q _=>⟨ob,k b ob q⟩,fun _ _ q=>q,fun _ _ _ q=>q,fun _ ps q=>⟨#[],by rw [q]; simp⟩⟩
theorem Un.refl:Un fs ex H H h h:=Un.kept fun _ _ q=>q
theorem Un.laid (k:∀ b u,h.get? b = some u→h'.get? b = some u) (hp:h.objs.size ≤ a) (hn:H a = none):Un fs ex H (upd H a o) h h' where
 keep:=fun b u q _ _ _=>k b u q
 slot:=fun b u q _ _ _=>⟨u.slots,k b u q⟩
 free:=fun b u q n _=>by rw [aN (Nat.ne_of_lt (Nat.lt_of_lt_of_le (Heap.lt_size q) hp))]; exact n
 there:=fun b u q _=>⟨u,k b u q⟩
 tups:=fun b xs q=>by rw [aN (bc q hn)]; exact q
 Es:=fun b u xs q=>by rw [aN (bc q hn)]; exact q
 HJ:=fun b ps q=>⟨#[],by rw [aN (bc q hn),q]; simp⟩
theorem Un.write (mu:Mut (H x)) (he:e = x ∨ H e = some (.own x)) (k:∀ b u,b ≠ e→h.get? b = some u→h'.get? b = some u) (heo:∃ u,h'.get? e = some u):Un fs ex H (upd H x o) h h':=by
 have hx:∀ b,H b = none→b ≠ x:=fun b n z=>by subst z; rw [n] at mu; exact mu
 have hb:∀ b,H b = none→b ≠ e:=fun b n z=>by
   subst z
   rcases he with r | r
   · exact hx b n r
   · rw [n] at r; cases r
 have hm:∀ b u,H b = some u→¬ Mut (some u)→b ≠ x:=fun b u q nm z=>by subst z; rw [q] at mu; exact nm mu
 refine ⟨fun b u q n _ _=>k b u (hb b n) q,fun b u q n _ _=>⟨u.slots,k b u (hb b n) q⟩,fun b u q n _=>by rw [aN (hx b n)]; exact n,fun b u q _=>?_,
   fun b xs q=>by rw [aN (hm b _ q fun z=>z)]; exact q,fun b u xs q=>by rw [aN (hm b _ q fun z=>z)]; exact q,fun b ps q=>⟨#[],by rw [aN (hm b _ q fun z=>z),q]; simp⟩⟩
 by_cases hbe:b = e
 · subst hbe; exact heo
 · exact ⟨u,k b u hbe q⟩
theorem Un.mono (u:Un fs ex H H1 h h1) (hs:∀ b ∈ fs,b ∈ fs') (hx:∀ b ∈ ex,b ∈ ex'):Un fs' ex' H H1 h h1 :=
 ⟨fun b ob q n hb he=>u.keep b ob q n (fun z=>hb (hs b z)) fun z=>he (hx b z),fun _ _ q n _ he=>u.any q n fun z=>he (hx _ z),fun b ob q n he=>u.free b ob q n fun z=>he (hx b z),fun b ob q he=>u.there b ob q fun z=>he (hx b z),u.tups,u.Es,u.HJ⟩
end
def trk (h:Heap) (H:Hp):List Addr:=(List.range h.objs.size).filter fun a=>(H a).isSome
def hidT (h:Heap) (H:Hp):Heap:=PySem.W.hideAll h (trk h H)
theorem akd (h:Heap) (H:Hp):(hidT h H).objs.size = h.objs.size:=PySem.W.hideAll_size _ _
theorem hidT_get {h:Heap} {H:Hp} {b:Addr} {o:Obj} (e:h.get? b = some o) (n:H b = none):(hidT h H).get? b = some o :=
 PySem.W.hideAll_get _ e fun hm=>by
   have q:(H b).isSome = true:=(List.mem_filter.mp hm).2
   rw [n] at q; simp at q
theorem of_hidT {h:Heap} {H:Hp} {b:Addr} {o:Obj} (e:(hidT h H).get? b = some o):h.get? b = some o∧H b = none:=by
 have e':h.get? b = some o:=PySem.W.of_hideAll (trk h H) e
 refine ⟨e',?_⟩
 cases q:H b with
 | none=>rfl
 | some x =>
   have hm:b ∈ trk h H:=List.mem_filter.mpr ⟨List.mem_range.mpr (Heap.lt_size e'),by simp [q]⟩
   have z:(hidT h H).get? b = none:=PySem.W.hideAll_none (trk h H) hm
   rw [z] at e; cases e
def allNews (g h:Heap) (L:Addr):List (Addr × Obj):=(List.range h.objs.size).filterMap fun a=>if a = L ∨ (g.get? a).isSome = true then none else (h.get? a).map fun o=>(a,o)
def rest (g h:Heap) (L d:Addr):List (Addr × Obj):=(allNews g h L).filter fun p=>decide (p.1 ≠ d)
end L2
namespace L2
open PySem PySem.Spec PyProof.Rows
structure Mod (K:PySem.W.Frag) (mg:Str→Option Value) (base:Heap):Prop where
 kin:K.In base
 glob:base.Ns mainGlobals mg
 blt:∃ mb,base.Ns builtinsNs mb∧∀ x:Str,x ≠ "__name__"→mb x = bootBuiltins x
 nolimit:base.NoLimit
structure Cx where
 prog:Program
 w:World
 K:PySem.W.Frag
 mg:Str→Option Value
 base:Heap
 A:Around
 N:List Str
 s₀:Shared
 H₀:Hp
 env:Env
 outer:List Env
 stack:List Env
 ex:List Addr
 fn:Str→Bool
 calm:Bool
 pn:List (Addr × Obj)
 xe:Value→Shared→Prop
def frs (l:List Env):List Addr:=l.filterMap (·.frame)
abbrev Cx.fs (X:Cx):List Addr:=frs X.outer
def Vis (sc:Scope) (x:Str):Prop:=sc.names.lookup x = some .local ∨ sc.names.lookup x = some .cell ∨ sc.names.lookup x = some .free
def Loc (sc:Scope) (x:Str):Prop:=sc.names.lookup x = some .local ∨ sc.names.lookup x = some .cell
def Look (env:Env) (h:Heap) (m:Str→Option Value) (x:Str) (u:Value):Prop :=
 (env.kindOf x = some .local∧m x = some u) ∨ ((env.kindOf x = some .cell ∨ env.kindOf x = some .free)∧∃ c,env.cells.lookup x = some c∧h.IsCell c (some u))
structure Cx.Ok (X:Cx):Prop where
 mod:Mod X.K X.mg X.base
 kind:X.env.scope.kind = .function
 glob:X.env.globals = mainGlobals
 blt:X.env.builtins = builtinsNs
 above:X.s₀.heap.objs.size ≤ X.env.locals
 inj:∀ x y c,X.env.cells.lookup x = some c→X.env.cells.lookup y = some c→x = y
 has:∀ x,(X.env.kindOf x = some .cell ∨ X.env.kindOf x = some .free)→∃ c,X.env.cells.lookup x = some c
 cab:∀ x c,X.fn x = true→X.env.cells.lookup x = some c→X.s₀.heap.objs.size ≤ c
 hd:X.calm = true→X.A.handled = none
 frames:X.A.frames = some X.stack
 stk:X.stack = X.outer ∨ (X.stack = X.env :: X.outer∧X.env.frame = some X.env.locals)
 exf:∀ b ∈ X.ex,b ≠ X.env.locals∧∀ x c,X.env.cells.lookup x = some c→c ≠ b
 bs:∀ b o,X.base.get? b = some o→X.s₀.heap.get? b = some o∧X.H₀ b = none
 bsz:X.base.objs.size ≤ X.s₀.heap.objs.size
 bD:∀ b o,X.base.get? b = some o→b ∉ X.ex
 exfs:∀ b ∈ X.ex,b ∉ X.fs
 Et:X.s₀.heap.FunFrames X.base X.outer
 frf:∀ b ∈ X.fs,X.H₀ b = none
structure Inv (X:Cx) (pins:List (Addr × Obj)) (σ:List (Option V)) (H:Hp) (s:Shared):Prop where
 ok:X.Ok
 os:s.os = X.s₀.os
 bare:AllBare s.gens
 base:Un X.fs X.ex X.H₀ H X.s₀.heap s.heap
 loc:∃ m,s.heap.Ns X.env.locals m∧∀ (i:Nat) (x:Str) (v:V),X.N[i]? = some x→σ[i]? = some (some v)→Vis X.env.scope x→∃ u,RelV v u∧Look X.env s.heap m x u
 cell:∀ x c,X.env.cells.lookup x = some c→∃ v,s.heap.IsCell c v
 free:H X.env.locals = none
 qY:∀ x c,X.env.cells.lookup x = some c→H c = none
 pin:∀ p ∈ X.pn ++ pins,s.heap.get? p.1 = some p.2∧H p.1 = none∧p.1 ≠ X.env.locals∧p.1 ∉ X.fs∧∀ v,p.2.data ≠ .cell v
 hok:HOk X.prog X.w H s.heap
 len:σ.length = X.N.length
section
variable {X:Cx} {pins:List (Addr × Obj)} {σ:List (Option V)} {H H':Hp} {s:Shared} {h':Heap}
theorem Cx.Ok.nofr (ok:X.Ok) {b:Addr} {o:Obj} (e:X.base.get? b = some o):b ∉ X.fs:=fun hb=>by
 have:=(ok.Et.mem hb).1
 rw [e] at this; cases this
theorem Inv.bs (I:Inv X pins σ H s):∀ b o,X.base.get? b = some o→s.heap.get? b = some o∧H b = none:=fun b o e =>
 ⟨I.base.keep b o (I.ok.bs b o e).1 (I.ok.bs b o e).2 (I.ok.nofr e) (I.ok.bD b o e),I.base.free b o (I.ok.bs b o e).1 (I.ok.bs b o e).2 (I.ok.bD b o e)⟩
theorem Inv.bk (I:Inv X pins σ H s):∀ b o,X.base.get? b = some o→s.heap.get? b = some o:=fun b o e=>(I.bs b o e).1
theorem Inv.mod (I:Inv X pins σ H s):Mod X.K X.mg X.base:=I.ok.mod
theorem Inv.kIn (I:Inv X pins σ H s):X.K.In s.heap:=I.ok.mod.kin.keeps I.bk
theorem Inv.nolimit (I:Inv X pins σ H s):s.heap.NoLimit:=I.ok.mod.nolimit.keeps I.bk
theorem Inv.fr (I:Inv X pins σ H s):∃ m,Fr X.base X.env.locals s.heap m :=
 let ⟨m,hn,_⟩:=I.loc
 ⟨m,hn,I.bk,Nat.le_trans I.ok.bsz I.ok.above⟩
theorem Inv.lt (I:Inv X pins σ H s):X.env.locals < s.heap.objs.size:=let ⟨_,hn,_⟩:=I.loc; hn.lt
theorem Inv.sz (I:Inv X pins σ H s):X.s₀.heap.objs.size ≤ s.heap.objs.size:=Nat.le_trans I.ok.above (Nat.le_of_lt I.lt)
theorem Inv.nofs (I:Inv X pins σ H s) {a:Addr} (h:s.heap.objs.size ≤ a):a ∉ X.fs:=fun hb=>by
 obtain ⟨_,o,ho,_⟩:=I.ok.Et.mem hb
 exact absurd (Nat.lt_of_lt_of_le (Heap.lt_size ho) (Nat.le_trans I.sz h)) (Nat.lt_irrefl _)
theorem Inv.cne (I:Inv X pins σ H s):∀ x c,X.env.cells.lookup x = some c→c ≠ X.env.locals:=fun x c e z=>by
 obtain ⟨v,o,ho,hd⟩:=I.cell x c e
 obtain ⟨m,⟨o',es,ep,ho',hd',_⟩,_⟩:=I.loc
 rw [z,ho'] at ho; cases ho; rw [hd'] at hd; cases hd
theorem Inv.Et (I:Inv X pins σ H s):s.heap.FunFrames X.base X.outer:=by
 have all:∀ (l:List Env),(∀ b ∈ frs l,b ∈ X.fs)→X.s₀.heap.FunFrames X.base l→s.heap.FunFrames X.base l:=by
   intro l
   induction l with
   | nil=>intro _ _; trivial
   | cons env r ih =>
     intro hs hl
     obtain ⟨hk,⟨L,o,hf,hn,ho,hd⟩,hr⟩:=hl
     have hL:L ∈ X.fs:=hs L (by unfold frs; rw [List.filterMap_cons,hf]; exact List.mem_cons_self)
     obtain ⟨sl,e⟩:=I.base.slot L o ho (I.ok.frf L hL) hL fun z=>I.ok.exfs L z hL
     exact ⟨hk,⟨L,_,hf,hn,e,hd⟩,ih (fun b hb=>hs b (by unfold frs; rw [List.filterMap_cons,hf]; exact List.mem_cons_of_mem _ hb)) hr⟩
 exact all X.outer (fun _ hb=>hb) I.ok.Et
theorem Inv.stack (I:Inv X pins σ H s):s.heap.FunFrames X.base X.stack:=by
 rcases I.ok.stk with e | ⟨e,hf⟩
 · rw [e]; exact I.Et
 · rw [e]
   obtain ⟨m,hn,_⟩:=I.loc
   refine .cons (by rw [I.ok.kind]; decide) hf hn ?_ I.Et
   exact Heap.get?_none_of_le (Nat.le_trans I.ok.bsz I.ok.above)
theorem Inv.ai4 (I:Inv X pins σ H s):∀ b ∈ frs X.stack,b ∈ X.env.locals :: X.fs:=fun b hb=>by
 rcases I.ok.stk with e | ⟨e,hf⟩
 · rw [e] at hb; exact List.mem_cons_of_mem _ hb
 · rw [e] at hb
   unfold frs at hb
   rw [List.filterMap_cons,hf] at hb
   exact hb
theorem Inv.adS (I:Inv X pins σ H s):∀ b ∈ frs X.stack,H b = none:=fun b hb=>by
 rcases List.mem_cons.mp (I.ai4 b hb) with e | hb
 · rw [e]; exact I.free
 · obtain ⟨_,o,ho,_⟩:=I.ok.Et.mem hb
   exact I.base.free b o ho (I.ok.frf b hb) fun z=>I.ok.exfs b z hb
theorem Inv.step {g':Array GenState} {t':Nat} {d':Drawn} {ch:List Addr} (I:Inv X pins σ H s)
   (hch:∀ b ∈ ch,(b ∈ X.ex ∨ X.s₀.heap.objs.size ≤ b)∧b ≠ X.env.locals∧(∀ x c,X.env.cells.lookup x = some c→c ≠ b)∧∀ p ∈ X.pn ++ pins,p.1 ≠ b)
   (keep:∀ b o,b ≠ X.env.locals→b ∉ X.fs→b ∉ ch→s.heap.get? b = some o→H b = none→h'.get? b = some o)
   (slot:∀ b o,b ≠ X.env.locals→b ∈ X.fs→b ∉ ch→s.heap.get? b = some o→H b = none→∃ sl,h'.get? b = some { o with slots:=sl }) (free:∀ b o,b ∉ ch→s.heap.get? b = some o→H b = none→H' b = none)
   (there:∀ b o,b ∉ ch→s.heap.get? b = some o→∃ o',h'.get? b = some o')
   (tups:∀ b xs,H b = some (.tup xs)→H' b = some (.tup xs)) (Es:∀ b o u,H b = some (.frz o u)→H' b = some (.frz o u)) (HJ:∀ b ps,H b = some (.tbl ps)→∃ more,H' b = some (.tbl (ps ++ more)))
   (ns:∀ m,s.heap.Ns X.env.locals m→h'.Ns X.env.locals m) (hok:HOk X.prog X.w H' h') (hg:AllBare g') :
   Inv X pins σ H' { s with heap:=h',gens:=g',drawn:=d',toks:=t' }:=by
 have neL:∀ b o,X.s₀.heap.get? b = some o→b ≠ X.env.locals:=fun b o e=>Nat.ne_of_lt (Nat.lt_of_lt_of_le (Heap.lt_size e) I.ok.above)
 have neC:∀ b o,X.s₀.heap.get? b = some o→b ∉ X.ex→b ∉ ch:=fun b o e hx hb=>by
   rcases (hch b hb).1 with z | z
   · exact hx z
   · exact absurd (Nat.lt_of_lt_of_le (Heap.lt_size e) z) (Nat.lt_irrefl _)
 have cellK:∀ x c,X.env.cells.lookup x = some c→∀ v,s.heap.IsCell c v→h'.IsCell c v:=fun x c e v ⟨o,ho,hd⟩=>by
   have nch:c ∉ ch:=fun z=>(hch c z).2.2.1 x c e rfl
   by_cases hc:c ∈ X.fs
   · obtain ⟨sl,q⟩:=slot c o (I.cne x c e) hc nch ho (I.qY x c e)
     exact ⟨_,q,hd⟩
   · exact ⟨o,keep c o (I.cne x c e) hc nch ho (I.qY x c e),hd⟩
 refine ⟨I.ok,I.os,hg,⟨fun b o e n hb hx=>?_,fun b o e n hb hx=>?_,fun b o e n hx=>?_,fun b o e hx=>?_,fun b xs e=>tups b xs (I.base.tups b xs e),fun b o xs e=>Es b o xs (I.base.Es b o xs e),fun b ps e=>?_⟩,?_,fun x c e=>?_,?_,fun x c e=>?_,fun p hp=>?_,hok,I.len⟩
 · exact keep b o (neL b o e) hb (neC b o e hx) (I.base.keep b o e n hb hx) (I.base.free b o e n hx)
 · obtain ⟨sl,e1⟩:=I.base.slot b o e n hb hx
   obtain ⟨sl',e2⟩:=slot b _ (neL b o e) hb (neC b o e hx) e1 (I.base.free b o e n hx)
   exact ⟨sl',e2⟩
 · obtain ⟨o',e1⟩:=I.base.there b o e hx
   exact free b o' (neC b o e hx) e1 (I.base.free b o e n hx)
 · obtain ⟨o',e1⟩:=I.base.there b o e hx
   exact there b o' (neC b o e hx) e1
 · obtain ⟨m1,e1⟩:=I.base.HJ b ps e
   obtain ⟨m2,e2⟩:=HJ b _ e1
   exact ⟨m1 ++ m2,by rw [e2,Array.append_assoc]⟩
 · obtain ⟨m,hn,hl⟩:=I.loc
   refine ⟨m,ns m hn,fun i x v e1 e2 e3=>?_⟩
   obtain ⟨u,r,l⟩:=hl i x v e1 e2 e3
   refine ⟨u,r,?_⟩
   rcases l with l | ⟨k,c,e,z⟩
   · exact .inl l
   · exact .inr ⟨k,c,e,cellK x c e _ z⟩
 · obtain ⟨v,z⟩:=I.cell x c e
   exact ⟨v,cellK x c e v z⟩
 · obtain ⟨m,⟨o,_,_,ho,_⟩,_⟩:=I.loc
   exact free _ o (fun z=>(hch _ z).2.1 rfl) ho I.free
 · obtain ⟨v,o,ho,hd⟩:=I.cell x c e
   exact free c o (fun z=>(hch c z).2.2.1 x c e rfl) ho (I.qY x c e)
 · obtain ⟨e,n,ne,nf,d⟩:=I.pin p hp
   have nch:p.1 ∉ ch:=fun z=>(hch p.1 z).2.2.2 p hp rfl
   exact ⟨keep p.1 p.2 ne nf nch e n,free p.1 p.2 nch e n,ne,nf,d⟩
theorem Inv.un {t':Nat} (I:Inv X pins σ H s) (u:Un X.fs [] H H' s.heap h') (hok:HOk X.prog X.w H' h'):Inv X pins σ H' { s with heap:=h',toks:=t' }:=by
 obtain ⟨m,⟨o,es,ep,ho,r⟩,_⟩:=id I.loc
 obtain ⟨sl,hL⟩:=u.any ho I.free (by simp)
 exact I.step (g':=s.gens) (d':=s.drawn) (ch:=[]) (fun _ z=>nomatch z) (fun b o _ hb _ e n=>u.keep b o e n hb (by simp)) (fun b o _ hb _ e n=>u.slot b o e n hb (by simp)) (fun b o _ e n=>u.free b o e n (by simp)) (fun b o _ e=>u.there b o e (by simp)) u.tups u.Es u.HJ (fun m' hm=>by
   obtain ⟨o',es',ep',ho',r'⟩:=hm
   rw [ho] at ho'; cases ho'
   exact ⟨_,es',ep',hL,r'⟩) hok I.bare
theorem Inv.call {g':Array GenState} {t':Nat} {d':Drawn} {ch:List Addr} (I:Inv X pins σ H s) (u:Un (frs X.stack) ch H H' s.heap h') (hok:HOk X.prog X.w H' h') (hg:AllBare g')
   (hch:∀ b ∈ ch,(b ∈ X.ex ∨ X.s₀.heap.objs.size ≤ b)∧b ≠ X.env.locals∧(∀ x c,X.env.cells.lookup x = some c→c ≠ b)∧∀ p ∈ X.pn ++ pins,p.1 ≠ b) :
   Inv X pins σ H' { s with heap:=h',gens:=g',drawn:=d',toks:=t' }:=by
 obtain ⟨m,⟨o,es,ep,ho,r⟩,_⟩:=id I.loc
 obtain ⟨sl,hL⟩:=u.any ho I.free fun z=>(hch _ z).2.1 rfl
 exact I.step (ch:=ch) hch (fun b o hL hb hc e n=>u.keep b o e n (fun z=>(List.mem_cons.mp (I.ai4 b z)).elim hL hb) hc) (fun b o _ _ hc e n=>u.any e n hc) (fun b o hc e n=>u.free b o e n hc) (fun b o hc e=>u.there b o e hc) u.tups u.Es u.HJ (fun m' hm=>by
   obtain ⟨o',es',ep',ho',r'⟩:=hm
   rw [ho] at ho'; cases ho'
   exact ⟨_,es',ep',hL,r'⟩) hok hg
theorem Inv.turned {t':Nat} {it:Addr} (I:Inv X pins σ H s) (k:∀ b o,b ≠ it→s.heap.get? b = some o→h'.get? b = some o) (hn:H it = none) (hL:it ≠ X.env.locals)
   (h1:it ∈ X.ex ∨ X.s₀.heap.objs.size ≤ it) (h2:∀ x c,X.env.cells.lookup x = some c→c ≠ it) (h3:∀ p ∈ X.pn ++ pins,p.1 ≠ it):Inv X pins σ H { s with heap:=h',toks:=t' }:=by
 have nit:∀ b u,H b = some u→b ≠ it:=fun b u e z=>by rw [z,hn] at e; cases e
 refine I.step (g':=s.gens) (d':=s.drawn) (ch:=[it]) (fun b hb=>?_) (fun b o _ _ hc e _=>k b o (fun z=>hc (by simp [z])) e) (fun b o _ _ hc e _=>⟨o.slots,k b o (fun z=>hc (by simp [z])) e⟩) (fun _ _ _ _ n=>n)
   (fun b o hc e=>⟨o,k b o (fun z=>hc (by simp [z])) e⟩) (fun _ _ e=>e) (fun _ _ _ e=>e) (fun b ps e=>⟨#[],by rw [e]; simp⟩) (fun m hm=>?_) (fun b u e=>?_) I.bare
 · have e:b = it:=by simpa using hb
   subst e
   exact ⟨h1,hL,h2,h3⟩
 · obtain ⟨o,es,ep,ho,r⟩:=hm
   exact ⟨o,es,ep,k _ o (Ne.symm hL) ho,r⟩
 · refine (I.hok b u e).stay (fun c v hc q=>k c v ?_ q) (fun _ q=>q) fun _ _ q=>q
   rcases hc with z | z
   · rw [z]; exact nit b u e
   · exact nit c _ z
theorem Inv.tok (I:Inv X pins σ H s) (t:Nat):Inv X pins σ H { s with toks:=t }:=I.un (h':=s.heap) (t':=t) Un.refl I.hok
theorem Inv.kept {t':Nat} (I:Inv X pins σ H s) (k:∀ b u,s.heap.get? b = some u→h'.get? b = some u):Inv X pins σ H { s with heap:=h',toks:=t' }:=I.un (Un.kept k) (I.hok.kept k)
theorem Inv.laid {a:Addr} {o:HO} {t':Nat} (I:Inv X pins σ H s) (k:∀ b u,s.heap.get? b = some u→h'.get? b = some u) (hp:s.heap.objs.size ≤ a) (new:gU X.prog X.w (upd H a o) h' a o) :
   Inv X pins σ (upd H a o) { s with heap:=h',toks:=t' }:=I.un (Un.laid k hp (I.hok.fresh hp)) (I.hok.laid k hp new)
theorem Inv.write {x e:Addr} {o:HO} {t':Nat} (I:Inv X pins σ H s) (mu:Mut (H x)) (he:e = x ∨ H e = some (.own x)) (k:∀ b u,b ≠ e→s.heap.get? b = some u→h'.get? b = some u) (heo:∃ u,h'.get? e = some u)
   (new:gU X.prog X.w (upd H x o) h' x o):Inv X pins σ (upd H x o) { s with heap:=h',toks:=t' }:=I.un (Un.write mu he k heo) (I.hok.write mu he k heo new)
theorem Inv.weak {σ':List (Option V)} (I:Inv X pins σ H s) (hl:σ'.length = σ.length) (w:∀ (i:Nat) v,σ'[i]? = some (some v)→σ[i]? = some (some v)):Inv X pins σ' H s :=
 ⟨I.ok,I.os,I.bare,I.base,let ⟨m,hn,hl'⟩:=I.loc; ⟨m,hn,fun i x v e1 e2 e3=>hl' i x v e1 (w i v e2) e3⟩,I.cell,I.free,I.qY,I.pin,I.hok,hl.trans I.len⟩
theorem Inv.aju {pins':List (Addr × Obj)} (I:Inv X pins σ H s) (h:∀ p ∈ pins',s.heap.get? p.1 = some p.2∧H p.1 = none∧p.1 ≠ X.env.locals∧p.1 ∉ X.fs∧∀ v,p.2.data ≠ .cell v):Inv X pins' σ H s :=
 ⟨I.ok,I.os,I.bare,I.base,I.loc,I.cell,I.free,I.qY,fun p hp=>(List.mem_append.mp hp).elim (fun z=>I.pin p (List.mem_append_left _ z)) (h p),I.hok,I.len⟩
theorem Tq {N:List Str} (hN:N.Nodup) {i j:Nat} {x:Str} (a:N[i]? = some x) (b:N[j]? = some x):i = j:=by
 obtain ⟨h1,e1⟩:=List.getElem?_eq_some_iff.mp a
 obtain ⟨h2,e2⟩:=List.getElem?_eq_some_iff.mp b
 exact (List.getElem_inj hN).mp (e1.trans e2.symm)
theorem Ze {M:Model} {A:Around} {E:Value→Shared→Prop} {i:Nat} {x:Str} {v:V} {u:Value} {Q:Unit→Shared→Prop} (I:Inv X pins σ H s) (hN:X.N.Nodup) (hi:X.N[i]? = some x) (hx:Loc X.env.scope x) (r:RelV v u)
   (h:∀ s',Inv X pins (σ.set i (some v)) H s'→(∃ a,Heap.SameBut a s.heap s'.heap∧(a = X.env.locals ∨ X.env.cells.lookup x = some a))→Q () s') (hf:X.fn x = true ∨ X.env.scope.names.lookup x = some .local:=by first | exact .inl rfl | exact .inr rfl | assumption):wpAny M A (storeName X.env x u) Q E s:=by
 obtain ⟨m,hn,hl⟩:=id I.loc
 have hcls:(X.env.scope.kind == .class || (X.env.scope.kind == .module && X.env.locals != X.env.globals)) = false:=by rw [I.ok.kind]; rfl
 have hiσ:i < σ.length:=by rw [I.len]; exact (List.getElem?_eq_some_iff.mp hi).1
 have cne:=I.cne
 have tracked:∀ {a:Addr} {h':Heap},(∃ o,s.heap.get? a = some o∧H a = none)→Heap.SameBut a s.heap h'→HOk X.prog X.w H h':=fun {a h'} ha hs b ob e=>by
   obtain ⟨_,_,hfree⟩:=ha
   refine (I.hok b ob e).stay (fun c w' hc q=>(hs.2 c ?_).trans q) (fun _ q=>q) fun _ _ q=>q
   rintro rfl
   rcases hc with rfl | hc
   · rw [hfree] at e; cases e
   · rw [hfree] at hc; cases hc
 rcases hx with hk | hk
 · refine wpAny_storeName_local hk hn (fun h' hn' hs=>?_) hcls
   obtain ⟨oL,_,_,hoL,_⟩:=id hn
   refine h _ ⟨I.ok,I.os,I.bare,⟨fun b o e n hb hx=>?_,fun b o e n hb hx=>?_,I.base.free,fun b o e hx=>?_,I.base.tups,I.base.Es,I.base.HJ⟩,⟨_,hn',fun j y v' e1 e2 e3=>?_⟩,fun y c e=>?_,I.free,I.qY,fun p hp=>?_,tracked ⟨oL,hoL,I.free⟩ hs,by simpa using I.len⟩ ⟨_,hs,.inl rfl⟩
   · exact (hs.2 b (Nat.ne_of_lt (Nat.lt_of_lt_of_le (Heap.lt_size e) I.ok.above))).trans (I.base.keep b o e n hb hx)
   · obtain ⟨sl,e1⟩:=I.base.slot b o e n hb hx
     exact ⟨sl,(hs.2 b (Nat.ne_of_lt (Nat.lt_of_lt_of_le (Heap.lt_size e) I.ok.above))).trans e1⟩
   · obtain ⟨o',e1⟩:=I.base.there b o e hx
     exact ⟨o',(hs.2 b (Nat.ne_of_lt (Nat.lt_of_lt_of_le (Heap.lt_size e) I.ok.above))).trans e1⟩
   · by_cases hj:j = i
     · subst hj
       rw [hi] at e1; cases e1
       rw [List.getElem?_set_self hiσ] at e2
       cases e2
       exact ⟨u,r,.inl ⟨hk,by simp⟩⟩
     · rw [List.getElem?_set_ne (Ne.symm hj)] at e2
       obtain ⟨u',r',q⟩:=hl j y v' e1 e2 e3
       refine ⟨u',r',?_⟩
       rcases q with ⟨k,e⟩ | ⟨k,c,e,z⟩
       · refine .inl ⟨k,?_⟩
         have:y ≠ x:=fun e=>hj (Tq hN e1 (e ▸ hi))
         simp [this,e]
       · exact .inr ⟨k,c,e,z.sameBut hs (cne y c e)⟩
   · obtain ⟨w',z⟩:=I.cell y c e
     exact ⟨w',z.sameBut hs (cne y c e)⟩
   · obtain ⟨e,n,ne,nf,d⟩:=I.pin p hp
     exact ⟨(hs.2 p.1 ne).trans e,n,ne,nf,d⟩
 · have hfn:X.fn x = true:=by
     rcases hf with z | z
     · exact z
     · rw [z] at hk; cases hk
   obtain ⟨c,hc⟩:=I.ok.has x (.inl hk)
   obtain ⟨w',z⟩:=I.cell x c hc
   refine wpAny_storeName_cell I.ok.kind hk hc z (fun h' hc' hs=>?_)
   obtain ⟨oc,hoc,hocd⟩:=id z
   refine h { s with heap:=h' } ⟨I.ok,I.os,I.bare,⟨fun b o e n hb hx=>?_,fun b o e n hb hx=>?_,I.base.free,fun b o e hx=>?_,I.base.tups,I.base.Es,I.base.HJ⟩,⟨m,hn.sameBut hs (Ne.symm (cne x c hc)),fun j y v' e1 e2 e3=>?_⟩,fun y c' e=>?_,I.free,I.qY,fun p hp=>?_,tracked ⟨oc,hoc,I.qY x c hc⟩ hs,by simpa using I.len⟩ ⟨c,hs,.inr hc⟩
   · exact (hs.2 b (Nat.ne_of_lt (Nat.lt_of_lt_of_le (Heap.lt_size e) (I.ok.cab x c hfn hc)))).trans (I.base.keep b o e n hb hx)
   · obtain ⟨sl,e1⟩:=I.base.slot b o e n hb hx
     exact ⟨sl,(hs.2 b (Nat.ne_of_lt (Nat.lt_of_lt_of_le (Heap.lt_size e) (I.ok.cab x c hfn hc)))).trans e1⟩
   · obtain ⟨o',e1⟩:=I.base.there b o e hx
     exact ⟨o',(hs.2 b (Nat.ne_of_lt (Nat.lt_of_lt_of_le (Heap.lt_size e) (I.ok.cab x c hfn hc)))).trans e1⟩
   · by_cases hj:j = i
     · subst hj
       rw [hi] at e1; cases e1
       rw [List.getElem?_set_self hiσ] at e2
       cases e2
       exact ⟨u,r,.inr ⟨.inl hk,c,hc,hc'⟩⟩
     · rw [List.getElem?_set_ne (Ne.symm hj)] at e2
       obtain ⟨u',r',q⟩:=hl j y v' e1 e2 e3
       refine ⟨u',r',?_⟩
       rcases q with q | ⟨k,c',e,z'⟩
       · exact .inl q
       · refine .inr ⟨k,c',e,z'.sameBut hs ?_⟩
         rintro rfl
         exact hj (Tq hN e1 (I.ok.inj _ _ _ e hc ▸ hi))
   · by_cases hcc:c' = c
     · subst hcc; exact ⟨_,hc'⟩
     · obtain ⟨w2,z2⟩:=I.cell y c' e
       exact ⟨w2,z2.sameBut hs hcc⟩
   · obtain ⟨e,n,ne,nf,d⟩:=I.pin p hp
     refine ⟨(hs.2 p.1 ?_).trans e,n,ne,nf,d⟩
     intro q
     rw [q,hoc] at e
     have q':oc = p.2:=Option.some.inj e
     exact d w' (by rw [← q']; exact hocd)
theorem Kh {M:Model} {A:Around} {E:Value→Shared→Prop} {i:Nat} {x:Str} {v:V} {u:Value} {Q:Unit→Shared→Prop} (I:Inv X pins σ H s) (hN:X.N.Nodup) (hi:X.N[i]? = some x) (hx:Loc X.env.scope x) (r:RelV v u)
   (h:∀ s',Inv X pins (σ.set i (some v)) H s'→Q () s') (hf:X.fn x = true ∨ X.env.scope.names.lookup x = some .local:=by first | exact .inl rfl | exact .inr rfl | assumption):wpAny M A (storeName X.env x u) Q E s :=
 Ze I hN hi hx r (fun s' I' _=>h s' I') hf
theorem Inv.call' {s':Shared} {ch:List Addr} (I:Inv X pins σ H s) (ho:s'.os = s.os) (u:Un (frs X.stack) ch H H' s.heap s'.heap) (hok:HOk X.prog X.w H' s'.heap) (hg:AllBare s'.gens)
   (hch:∀ b ∈ ch,(b ∈ X.ex ∨ X.s₀.heap.objs.size ≤ b)∧b ≠ X.env.locals∧(∀ x c,X.env.cells.lookup x = some c→c ≠ b)∧∀ p ∈ X.pn ++ pins,p.1 ≠ b):Inv X pins σ H' s':=by
 obtain ⟨h',g',d',t',o'⟩:=s'
 have e:o' = s.os:=ho
 subst e
 exact I.call (g':=g') (t':=t') (d':=d') u hok hg hch
end
abbrev XK:=Value→Option Addr→Hp→Prop
abbrev St:=List (Option V)
abbrev VK:=V→Hp→Prop
abbrev TE:=St→Hp→VK→Prop
abbrev TT:=St→Hp→(Bool→Hp→Prop)→Prop
abbrev TA:=St→Hp→(List V→Hp→Prop)→Prop
structure Ends where
 nx:St→Hp→Prop
 rt:VK
 bk:St→Hp→Prop:=fun _ _=>False
 ct:St→Hp→Prop:=fun _ _=>False
abbrev TS:=Ends→St→Hp→Prop
def EP (X:Cx) (pins:List (Addr × Obj)) (σ:St) (Q:VK) (u:Value) (s':Shared):Prop:=∃ v H',Inv X pins σ H' s'∧RelV v u∧Q v H'
def TP (X:Cx) (pins:List (Addr × Obj)) (σ:St) (Q:Bool→Hp→Prop) (b:Bool) (s':Shared):Prop:=∃ H',Inv X pins σ H' s'∧Q b H'
def AP (X:Cx) (pins:List (Addr × Obj)) (σ:St) (Q:List V→Hp→Prop) (us:List Value) (s':Shared):Prop:=∃ vs H',Inv X pins σ H' s'∧Vals vs us∧Q vs H'
def SP (X:Cx) (pins:List (Addr × Obj)) (D:Ends) (f:Flow) (s':Shared):Prop :=
 match f with
 | .next=>∃ σ' H',Inv X pins σ' H' s'∧D.nx σ' H'
 | .brk=>∃ σ' H',Inv X pins σ' H' s'∧D.bk σ' H'
 | .cont=>∃ σ' H',Inv X pins σ' H' s'∧D.ct σ' H'
 | .ret u=>∃ v σ' H',Inv X pins σ' H' s'∧RelV v u∧D.rt v H'
def PE (X:Cx) (e:Expr) (t:TE):Prop :=
 ∀ (pins:List (Addr × Obj)) (s:Shared) (σ:St) (H:Hp) (Q:VK),Inv X pins σ H s→t σ H Q→wpAny (model X.prog X.w) X.A (eval e X.env) (EP X pins σ Q) X.xe s
def PT (X:Cx) (e:Expr) (t:TT):Prop :=
 ∀ (pins:List (Addr × Obj)) (s:Shared) (σ:St) (H:Hp) (Q:Bool→Hp→Prop),Inv X pins σ H s→t σ H Q→wpAny (model X.prog X.w) X.A (isTrue e X.env (eval e X.env)) (TP X pins σ Q) X.xe s
def PW (X:Cx) (e:Expr) (t:TT):Prop :=
 ∀ (whole:Sem Value) (pins:List (Addr × Obj)) (s:Shared) (σ:St) (H:Hp) (Q:Bool→Hp→Prop),Inv X pins σ H s→t σ H Q→wpAny (model X.prog X.w) X.A (isTrue e X.env whole) (TP X pins σ Q) X.xe s
theorem PW.pt {X:Cx} {e:Expr} {t:TT} (h:PW X e t):PT X e t:=h _
def PA (X:Cx) (es:List Expr) (t:TA):Prop :=
 ∀ (pos:Pos) (pins:List (Addr × Obj)) (s:Shared) (σ:St) (H:Hp) (Q:List V→Hp→Prop),Inv X pins σ H s→t σ H Q→wpAny (model X.prog X.w) X.A (spliced (backTo pos (starEach es X.env))) (AP X pins σ Q) X.xe s
def PS (X:Cx) (st:Stmt) (t:TS):Prop :=
 ∀ (pins:List (Addr × Obj)) (s:Shared) (σ:St) (H:Hp) (D:Ends),Inv X pins σ H s→t D σ H→wpAny (model X.prog X.w) X.A (exec st X.env) (SP X pins D) X.xe s
def PSs (X:Cx) (st:List Stmt) (t:TS):Prop :=
 ∀ (pins:List (Addr × Obj)) (s:Shared) (σ:St) (H:Hp) (D:Ends),Inv X pins σ H s→t D σ H→wpAny (model X.prog X.w) X.A (execs st X.env) (SP X pins D) X.xe s
theorem thn {α:Type} {t:Sem α} {Q Q':α→Shared→Prop} {M:Model} {A:Around} {E:Value→Shared→Prop} {s:Shared} (h:wpAny M A t Q E s) (hQ:∀ a s,Q a s→Q' a s):wpAny M A t Q' E s:=wpAny_mono h hQ fun _ _ x=>x
end L2
namespace L2
open PySem PySem.Spec PyProof.Rows
section
variable {X:Cx}
def DN (i:Nat):TE:=fun σ H Q=>∃ v,σ[i]? = some (some v)∧Q v H
def tC (v:V):TE:=fun _ H Q=>Q v H
theorem pe_var {i:Nat} {x:Str} {pos:Pos} (hN:X.N[i]? = some x) (hv:Vis X.env.scope x) (hd:(x == ("__debug__":Str)) = false:=by decide) (hcd:(x == ("__classdict__":Str)) = false:=by decide):PE X (.Name x pos) (DN i):=by
 intro pins s σ H Q I h
 obtain ⟨v,e,h⟩:=h
 obtain ⟨m,hn,hl⟩:=I.loc
 obtain ⟨u,r,l⟩:=hl i x v hN e hv
 have fin:EP X pins σ Q u s:=⟨v,H,I,r,h⟩
 rcases l with ⟨hk,hm⟩ | ⟨hk,c,hc,hcell⟩
 · exact wpAny_Name (wpAny_loadName_local I.ok.kind hk hn hm fin) hd
 · rcases hk with hk | hk
   · exact wpAny_Name (wpAny_loadName_cell I.ok.kind hk hc hcell fin) hd
   · exact wpAny_Name (wpAny_loadName_free I.ok.kind hk hc hcell fin hcd) hd
theorem pe_int {i j pos}:PE X (.Constant (.int i) j pos) (tC (.int i)):=fun _ _ _ H _ I h=>wpAny_Constant_int ⟨.int i,H,I.tok _,⟨_,rfl⟩,h⟩
theorem pe_bl {b j pos}:PE X (.Constant (.bool b) j pos) (tC (.bl b)):=fun _ _ _ H _ I h=>Constant_bool ⟨.bl b,H,I,rfl,h⟩
theorem aiA {j pos}:PE X (.Constant .none j pos) (tC .non):=fun _ _ _ H _ I h=>Constant_none ⟨.non,H,I,rfl,h⟩
theorem pe_str {x j pos}:PE X (.Constant (.str x) j pos) (tC (.str x)):=fun _ _ _ H _ I h=>Calls.Constant_str ⟨.str x,H,I.tok _,⟨_,rfl⟩,h⟩
def Gl (X:Cx) (x:Str):Prop:=X.env.kindOf x = some .globalImplicit
theorem zP {E:Value→Shared→Prop} {pins:List (Addr × Obj)} {s:Shared} {σ:St} {H:Hp} {x:Str} {u:Value} {pos:Pos} {Q:Value→Shared→Prop} (I:Inv X pins σ H s) (hg:Gl X x) (hm:X.mg x = some u) (h:Q u s)
   (hd:(x == ("__debug__":Str)) = false:=by decide):wpAny (model X.prog X.w) X.A (eval (.Name x pos) X.env) Q E s :=
 Calls.Name_function_global I.ok.kind hg (Calls.loadGlobal_global (by rw [I.ok.glob]; exact I.mod.glob.keeps I.bk) hm h) hd
theorem Tg {E:Value→Shared→Prop} {pins:List (Addr × Obj)} {s:Shared} {σ:St} {H:Hp} {x:Str} {u:Value} {pos:Pos} {Q:Value→Shared→Prop} (I:Inv X pins σ H s) (hg:Gl X x) (hm:X.mg x = none) (hv:bootBuiltins x = some u) (h:Q u s)
   (hn:x ≠ "__name__":=by decide) (hd:(x == ("__debug__":Str)) = false:=by decide):wpAny (model X.prog X.w) X.A (eval (.Name x pos) X.env) Q E s:=by
 obtain ⟨mb,h1,h2⟩:=I.mod.blt
 exact Calls.Name_function_global I.ok.kind hg (Calls.loadGlobal_builtin (by rw [I.ok.glob]; exact I.mod.glob.keeps I.bk) hm (by rw [I.ok.blt]; exact h1.keeps I.bk) ((h2 x hn).trans hv) h) hd
theorem Eo {x:Str} {v:V} {u:Value} {pos:Pos} (hg:Gl X x) (hm:X.mg x = some u) (r:RelV v u) (hd:(x == ("__debug__":Str)) = false:=by decide):PE X (.Name x pos) (tC v) :=
 fun _ _ _ H _ I h=>zP I hg hm ⟨v,H,I,r,h⟩ hd
theorem kJ {x:Str} {v:V} {u:Value} {pos:Pos} (hg:Gl X x) (hm:X.mg x = none) (hv:bootBuiltins x = some u) (r:RelV v u) (hn:x ≠ "__name__":=by decide) (hd:(x == ("__debug__":Str)) = false:=by decide):PE X (.Name x pos) (tC v) :=
 fun _ _ _ H _ I h=>Tg I hg hm hv ⟨v,H,I,r,h⟩ hn hd
variable {a b:Expr} {ta tb:TE} {pos:Pos}
variable {tA tB':TT} {rest:List Expr}
def tAnd (t u:TT):TT:=fun σ H Q=>t σ H fun c H1=>if c = true then u σ H1 Q else Q false H1
def tOr (t u:TT):TT:=fun σ H Q=>t σ H fun c H1=>if c = true then Q true H1 else u σ H1 Q
def tNot (t:TT):TT:=fun σ H Q=>t σ H fun c H1=>Q (!c) H1
theorem pw_and1 (ha:PT X a tA):PW X (.BoolOp .And [a] pos) tA:=by
 intro wh pins s σ H Q I h
 refine isTrue_and (thn (ha pins s σ H Q I h) fun c s1 e=>?_)
 cases c with
 | true=>exact isTrue_and_nil e
 | false=>exact e
theorem pw_or1 (ha:PT X a tA):PW X (.BoolOp .Or [a] pos) tA:=by
 intro wh pins s σ H Q I h
 refine isTrue_or (thn (ha pins s σ H Q I h) fun c s1 e=>?_)
 cases c with
 | false=>exact isTrue_or_nil e
 | true=>exact e
theorem pw_and (ha:PT X a tA) (hb:PW X (.BoolOp .And (b :: rest) pos) tB'):PW X (.BoolOp .And (a :: b :: rest) pos) (tAnd tA tB'):=by
 intro wh pins s σ H Q I h
 refine isTrue_and (thn (ha pins s σ H _ I h) fun c s1 ⟨H1,I1,q1⟩=>?_)
 cases c with
 | true=>exact hb wh pins s1 σ H1 Q I1 q1
 | false=>exact ⟨H1,I1,q1⟩
theorem pw_or (ha:PT X a tA) (hb:PW X (.BoolOp .Or (b :: rest) pos) tB'):PW X (.BoolOp .Or (a :: b :: rest) pos) (tOr tA tB'):=by
 intro wh pins s σ H Q I h
 refine isTrue_or (thn (ha pins s σ H _ I h) fun c s1 ⟨H1,I1,q1⟩=>?_)
 cases c with
 | true=>exact ⟨H1,I1,q1⟩
 | false=>exact hb wh pins s1 σ H1 Q I1 q1
theorem pt_not (ha:PT X a tA):PT X (.UnaryOp .Not a pos) (tNot tA):=by
 intro pins s σ H Q I h
 exact isTrue_not (ha pins s σ H (fun c H1=>Q (!c) H1) I h)
def tAndV (ta tb:TE):TE:=fun σ H Q=>ta σ H fun x H1=>∃ c,x = .bl c∧if c = true then tb σ H1 Q else Q (.bl false) H1
def tOrV (ta tb:TE):TE:=fun σ H Q=>ta σ H fun x H1=>∃ c,x = .bl c∧if c = true then Q (.bl true) H1 else tb σ H1 Q
def tNotV (ta:TE):TE:=fun σ H Q=>ta σ H fun x H1=>∃ c,x = .bl c∧Q (.bl (!c)) H1
theorem pe_one {op} {t:TE} (h:PE X a t):PE X (.BoolOp op [a] pos) t:=fun pins s σ H Q I hw=>BoolOp_one (h pins s σ H Q I hw)
theorem pe_and (ha:PE X a ta) (hb:PE X (.BoolOp .And (b :: rest) pos) tb):PE X (.BoolOp .And (a :: b :: rest) pos) (tAndV ta tb):=by
 intro pins s σ H Q I h
 refine BoolOp_and (thn (ha pins s σ H _ I h) fun v s1 ⟨x,H1,I1,r1,q1⟩=>?_)
 obtain ⟨c,rfl,q1⟩:=q1
 cases r1
 refine wpAny_truthy_bool ?_
 cases c with
 | true=>exact hb pins s1 σ H1 Q I1 q1
 | false=>exact ⟨.bl false,H1,I1,rfl,q1⟩
theorem pe_or (ha:PE X a ta) (hb:PE X (.BoolOp .Or (b :: rest) pos) tb):PE X (.BoolOp .Or (a :: b :: rest) pos) (tOrV ta tb):=by
 intro pins s σ H Q I h
 refine BoolOp_or (thn (ha pins s σ H _ I h) fun v s1 ⟨x,H1,I1,r1,q1⟩=>?_)
 obtain ⟨c,rfl,q1⟩:=q1
 cases r1
 refine wpAny_truthy_bool ?_
 cases c with
 | false=>exact hb pins s1 σ H1 Q I1 q1
 | true=>exact ⟨.bl true,H1,I1,rfl,q1⟩
theorem pe_not (ha:PE X a ta):PE X (.UnaryOp .Not a pos) (tNotV ta):=by
 intro pins s σ H Q I h
 refine UnaryOp_ (thn (ha pins s σ H _ I h) fun v s1 ⟨x,H1,I1,r1,q1⟩=>?_)
 obtain ⟨c,rfl,q1⟩:=q1
 cases r1
 exact not_of (wpAny_truthy_bool ⟨.bl (!c),H1,I1,rfl,q1⟩)
end
end L2
namespace L2
open PySem PySem.Spec PyProof.Rows
def SqL (K:PySem.W.Frag) (H:Hp) (a:Addr) (xs:List V):Prop :=
 Rd H a (.lst xs) ∨
   ∃ (o:Obj) (its:Array Value) (n:Nat),K.lookup a = some o∧o.cls = .type "list"∧o.dict = none∧o.data = .seq its n∧its.size ≤ sizeLine∧Vals xs its.toList
def SqT (K:PySem.W.Frag) (H:Hp) (a:Addr) (xs:List V):Prop :=
 Rd H a (.tup xs) ∨
   ∃ (o:Obj) (its:Array Value) (n:Nat),K.lookup a = some o∧o.cls = .type "tuple"∧o.data = .seq its n∧its.size ≤ sizeLine∧Vals xs its.toList
def absV:Value→Option V
 | .none=>some .non
 | .bool b=>some (.bl b)
 | .int i _=>some (.int i)
 | .str x _=>some (.str x)
 | .bytes b _=>some (.byt b)
 | .float b _=>some (.flt b)
 | .ref a=>some (.ref a)
 | .type n=>some (.ty n)
 | _=>none
theorem RelV.abs {x:V} {u:Value} (r:RelV x u):absV u = some x:=by
 cases x with
 | non=>cases r; rfl
 | bl _=>cases r; rfl
 | int _=>obtain ⟨t,rfl⟩:=r; rfl
 | str _=>obtain ⟨t,rfl⟩:=r; rfl
 | byt _=>obtain ⟨t,rfl⟩:=r; rfl
 | flt _=>obtain ⟨t,rfl⟩:=r; rfl
 | ref _=>cases r; rfl
 | ty _=>cases r; rfl
theorem RelV.inj {x y:V} {u:Value} (r:RelV x u) (q:RelV y u):x = y:=Option.some.inj (r.abs.symm.trans q.abs)
theorem Vals.inj:∀ {xs ys:List V} {us:List Value},Vals xs us→Vals ys us→xs = ys
 | _,_,_,.nil,.nil=>rfl
 | _,_,_,.cons r t,.cons r' t'=>by rw [r.inj r',Vals.inj t t']
section
variable {X:Cx} {pins:List (Addr × Obj)} {σ:St} {H:Hp} {s:Shared} {a:Addr} {xs ys:List V}
theorem SqL.of {K:PySem.W.Frag} (h:H a = some (.lst xs)):SqL K H a xs:=.inl (.inl h)
theorem SqT.of {K:PySem.W.Frag} (h:H a = some (.tup xs)):SqT K H a xs:=.inl (.inl h)
theorem Inv.list (I:Inv X pins σ H s) (h:SqL X.K H a xs):∃ its:List Value,Vals xs its∧PlainL s.heap a its.toArray∧xs.length ≤ sizeLine:=by
 rcases h with h | ⟨o,its,n,hk,hc,hd,hs,hz,r⟩
 · obtain ⟨z,its,n,r,e⟩:=h.ok I.hok
   exact ⟨its,r,⟨_,n,e,rfl,rfl,rfl⟩,z⟩
 · refine ⟨its.toList,r,⟨o,n,I.kIn a o hk,hc,hd,by simpa using hs⟩,?_⟩
   have e:=r.length
   simp only [Array.length_toList] at e
   omega
theorem Inv.tuple (I:Inv X pins σ H s) (h:SqT X.K H a xs):∃ its:List Value,Vals xs its∧IsTup s.heap a its.toArray∧xs.length ≤ sizeLine:=by
 rcases h with h | ⟨o,its,n,hk,hc,hs,hz,r⟩
 · obtain ⟨z,its,r,p⟩:=h.ok I.hok
   exact ⟨its,r,p,z⟩
 · refine ⟨its.toList,r,⟨o,I.kIn a o hk,hc,n,by simpa using hs⟩,?_⟩
   have e:=r.length
   simp only [Array.length_toList] at e
   omega
theorem Inv.afN (I:Inv X pins σ H s) (h:SqL X.K H a xs) (h':SqL X.K H a ys):xs = ys:=by
 obtain ⟨its,r,⟨o,n,e,_,_,d⟩,_⟩:=I.list h
 obtain ⟨its',r',⟨o',n',e',_,_,d'⟩,_⟩:=I.list h'
 rw [e] at e'; cases e'
 rw [d] at d'
 injection d' with d1 _
 have:its = its':=by simpa using congrArg Array.toList d1
 subst this
 exact r.inj r'
theorem Inv.akQ (I:Inv X pins σ H s) (h:SqT X.K H a xs) (h':SqT X.K H a ys):xs = ys:=by
 obtain ⟨its,r,⟨o,e,_,n,d⟩,_⟩:=I.tuple h
 obtain ⟨its',r',⟨o',e',_,n',d'⟩,_⟩:=I.tuple h'
 rw [e] at e'; cases e'
 rw [d] at d'
 injection d' with d1 _
 have:its = its':=by simpa using congrArg Array.toList d1
 subst this
 exact r.inj r'
end
abbrev Cx.wish (X:Cx) (E:Value→Shared→Prop):Cx:={ X with xe:=E }
abbrev Cx.nox (X:Cx):Cx:=X.wish fun _ _=>False
theorem Cx.Ok.wish {X:Cx} (ok:X.Ok) (E:Value→Shared→Prop):(X.wish E).Ok :=
 ⟨ok.mod,ok.kind,ok.glob,ok.blt,ok.above,ok.inj,ok.has,ok.cab,ok.hd,ok.frames,ok.stk,ok.exf,ok.bs,ok.bsz,ok.bD,ok.exfs,ok.Et,ok.frf⟩
theorem Cx.Ok.wJ {X:Cx} {E:Value→Shared→Prop} (ok:(X.wish E).Ok):X.Ok :=
 ⟨ok.mod,ok.kind,ok.glob,ok.blt,ok.above,ok.inj,ok.has,ok.cab,ok.hd,ok.frames,ok.stk,ok.exf,ok.bs,ok.bsz,ok.bD,ok.exfs,ok.Et,ok.frf⟩
section
variable {X:Cx} {pins:List (Addr × Obj)} {σ:St} {H:Hp} {s:Shared} {E:Value→Shared→Prop}
theorem Inv.wish (I:Inv X pins σ H s) (E:Value→Shared→Prop):Inv (X.wish E) pins σ H s:=⟨I.ok.wish E,I.os,I.bare,I.base,I.loc,I.cell,I.free,I.qY,I.pin,I.hok,I.len⟩
theorem Inv.wJ (I:Inv (X.wish E) pins σ H s):Inv X pins σ H s:=⟨I.ok.wJ,I.os,I.bare,I.base,I.loc,I.cell,I.free,I.qY,I.pin,I.hok,I.len⟩
theorem SP.wJ {D:Ends} {f:Flow} {s':Shared} (h:SP (X.wish E) pins D f s'):SP X pins D f s':=by
 cases f with
 | next=>obtain ⟨σ',H',I,q⟩:=h; exact ⟨σ',H',I.wJ,q⟩
 | brk=>obtain ⟨σ',H',I,q⟩:=h; exact ⟨σ',H',I.wJ,q⟩
 | cont=>obtain ⟨σ',H',I,q⟩:=h; exact ⟨σ',H',I.wJ,q⟩
 | ret u=>obtain ⟨v,σ',H',I,r,q⟩:=h; exact ⟨v,σ',H',I.wJ,r,q⟩
theorem PE.nox {e:Expr} {t:TE} (h:PE X.nox e t):PE X e t:=fun pins s σ H Q I hw =>
 wpAny_mono (h pins s σ H Q (I.wish _) hw) (fun _ _ ⟨v,H',I',r,q⟩=>⟨v,H',I'.wJ,r,q⟩) fun _ _ z=>False.elim z
theorem PT.nox {e:Expr} {t:TT} (h:PT X.nox e t):PT X e t:=fun pins s σ H Q I hw =>
 wpAny_mono (h pins s σ H Q (I.wish _) hw) (fun _ _ ⟨H',I',q⟩=>⟨H',I'.wJ,q⟩) fun _ _ z=>False.elim z
theorem PSs.nox {st:List Stmt} {t:TS} (h:PSs X.nox st t):PSs X st t:=fun pins s σ H D I hw =>
 wpAny_mono (h pins s σ H D (I.wish _) hw) (fun _ _ q=>q.wJ) fun _ _ z=>False.elim z
end
section
variable {X:Cx} {st:Stmt} {rest:List Stmt} {t u:TS} {e:Expr} {te:TE} {pos:Pos}
def tNext:TS:=fun D σ H=>D.nx σ H
def tSeq (t u:TS):TS:=fun D σ H=>t { D with nx:=u D } σ H
theorem pss_nil:PSs X [] tNext:=fun _ _ σ H _ I h=>wpAny_execs_nil ⟨σ,H,I,h⟩
theorem Dv (h1:PS X st t) (h2:PSs X rest u):PSs X (st :: rest) (tSeq t u):=by
 intro pins s σ H D I h
 refine wpAny_execs_cons (thn (h1 pins s σ H { D with nx:=u D } I h) fun f s1 q=>?_)
 cases f with
 | next =>
   obtain ⟨σ',H',I',q⟩:=q
   exact h2 pins s1 σ' H' D I' q
 | ret v=>exact q
 | brk=>exact q
 | cont=>exact q
theorem vp (h1:PS X st t):PSs X [st] t:=by
 intro pins s σ H D I h
 refine wpAny_execs_cons (thn (h1 pins s σ H D I h) fun f s1 q=>?_)
 cases f with
 | next=>exact wpAny_execs_nil q
 | ret v=>exact q
 | brk=>exact q
 | cont=>exact q
theorem Inv.quiet {pins:List (Addr × Obj)} {σ:St} {H:Hp} {s:Shared} (I:Inv X pins σ H s):interactive X.env = false:=by simp [interactive,I.ok.kind]
def Oh (te:TE):TS:=fun D σ H=>te σ H fun _ H1=>D.nx σ H1
theorem gR (he:PE X e te) (hs:swapsWith e none pos.line X.env = pure false:=by rfl):PS X (.Expr e pos) (Oh te):=by
 intro pins s σ H D I h
 exact wpAny_Expr_any (thn (he pins s σ H _ I h) fun v s1 ⟨x,H1,I1,r1,q1⟩=>⟨σ,H1,I1,q1⟩) I.quiet hs
def tRet (te:TE):TS:=fun D σ H=>te σ H D.rt
theorem Ul (he:PE X e te):PS X (.Return (some e) pos) (tRet te):=by
 intro pins s σ H D I h
 exact wpAny_Return_some (thn (he pins s σ H _ I h) fun v s1 ⟨x,H1,I1,r1,q1⟩=>⟨x,σ,H1,I1,r1,q1⟩)
def tIfS (c:TT) (t u:TS):TS:=fun D σ H=>c σ H fun b H1=>if b = true then t D σ H1 else u D σ H1
theorem ps_if {c:Expr} {a b:List Stmt} {tc:TT} (hc:PT X c tc) (ha:PSs X a t) (hb:PSs X b u):PS X (.If c a b pos) (tIfS tc t u):=by
 intro pins s σ H D I h
 refine wpAny_If (thn (hc pins s σ H _ I h) fun d s1 ⟨H1,I1,q1⟩=>?_)
 cases d with
 | true=>exact ha pins s1 σ H1 D I1 q1
 | false=>exact hb pins s1 σ H1 D I1 q1
def ai5:TS:=fun _ _ _=>False
theorem ps_never:PS X st ai5:=fun _ _ _ _ _ _ h=>h.elim
theorem akF {sts:List Stmt}:PSs X sts ai5:=fun _ _ _ _ _ _ h=>h.elim
end
abbrev TG:=V→St→Hp→(St→Hp→Prop)→Prop
abbrev TGs:=List V→St→Hp→(St→Hp→Prop)→Prop
def PG (X:Cx) (target:Expr) (t:TG):Prop :=
 ∀ (pins:List (Addr × Obj)) (s:Shared) (σ:St) (H:Hp) (v:V) (u:Value) (Q:St→Hp→Prop),Inv X pins σ H s→RelV v u→t v σ H Q →
   wpAny (model X.prog X.w) X.A (assign target X.env u) (fun _ s'=>∃ σ' H',Inv X pins σ' H' s'∧Q σ' H') X.xe s
def PGs (X:Cx) (ts:List Expr) (t:TGs):Prop :=
 ∀ (pins:List (Addr × Obj)) (s:Shared) (σ:St) (H:Hp) (vs:List V) (us:List Value) (Q:St→Hp→Prop),Inv X pins σ H s→Vals vs us→t vs σ H Q →
   wpAny (model X.prog X.w) X.A (assignInOrder ((assignEach ts X.env).map (·.2)) us) (fun _ s'=>∃ σ' H',Inv X pins σ' H' s'∧Q σ' H') X.xe s
abbrev TSet:=V→V→V→Hp→(Hp→Prop)→Prop
def PSet (X:Cx) (t:TSet):Prop :=
 ∀ (pins:List (Addr × Obj)) (s:Shared) (σ:St) (H:Hp) (o i v:V) (ov iv u:Value) (Q:Hp→Prop),Inv X pins σ H s→RelV o ov→RelV i iv→RelV v u→t o i v H Q →
   wpAny (model X.prog X.w) X.A (setItem ov iv u) (fun _ s'=>∃ H',Inv X pins σ H' s'∧Q H') X.xe s
abbrev TIp:=V→V→Hp→VK→Prop
def PIp (X:Cx) (op:Operator) (t:TIp):Prop :=
 ∀ (pins:List (Addr × Obj)) (s:Shared) (σ:St) (H:Hp) (x y:V) (v u:Value) (Q:VK),Inv X pins σ H s→RelV x v→RelV y u→t x y H Q →
   wpAny (model X.prog X.w) X.A (inplaceOp op v u) (EP X pins σ Q) X.xe s
section
variable {X:Cx} {pos:Pos}
def Sh (i:Nat):TG:=fun v σ H Q=>Q (σ.set i (some v)) H
theorem bG {i:Nat} {x:Str} (hN:X.N.Nodup) (hi:X.N[i]? = some x) (hx:Loc X.env.scope x) (hf:X.fn x = true ∨ X.env.scope.names.lookup x = some .local:=by first | exact .inl rfl | exact .inr rfl | assumption):PG X (.Name x pos) (Sh i):=by
 intro pins s σ H v u Q I r h
 exact wpAny_assign_Name (Kh I hN hi hx r (fun s' I'=>⟨_,H,I',h⟩) hf)
def gNil:TGs:=fun vs σ H Q=>vs = []∧Q σ H
def gCons (t:TG) (u:TGs):TGs:=fun vs σ H Q=>∃ v r,vs = v :: r∧t v σ H fun σ' H'=>u r σ' H' Q
theorem pgs_nil:PGs X [] gNil:=by
 intro pins s σ H vs us Q I r h
 obtain ⟨e,h⟩:=h
 subst e
 cases r
 exact assignInOrder_nil ⟨σ,H,I,h⟩
theorem fO {e:Expr} {es:List Expr} {t:TG} {u:TGs} (h1:PG X e t) (h2:PGs X es u)
   (hs:(assignEach (e :: es) X.env).map (·.2) = assign e X.env :: (assignEach es X.env).map (·.2):=by rfl):PGs X (e :: es) (gCons t u):=by
 intro pins s σ H vs us Q I r h
 obtain ⟨v,vr,e1,h⟩:=h
 subst e1
 cases r with
 | cons r rr =>
   rw [hs]
   refine assignInOrder_cons (thn (h1 pins s σ H _ _ _ I r h) fun _ s1 ⟨σ1,H1,I1,q1⟩=>?_)
   exact h2 pins s1 σ1 H1 _ _ Q I1 rr q1
def gTup (K:PySem.W.Frag) (n:Nat) (t:TGs):TG:=fun v σ H Q=>∃ a xs,v = .ref a∧SqT K H a xs∧xs.length = n∧t xs σ H Q
theorem Hy {es:List Expr} {k:Nat} {t:TGs} {n:Nat} (hc:X.calm = true) (h:PGs X es t)
   (hn:(assignEach es X.env).length = n:=by rfl) (hst:(assignEach es X.env).findIdx? (·.1) = none:=by rfl):PG X (.Tuple es k pos) (gTup X.K n t):=by
 intro pins s σ H v u Q I r hw
 obtain ⟨a,xs,e1,hq,hl,hw⟩:=hw
 subst e1
 cases r
 obtain ⟨its,rv,ht,hz⟩:=I.tuple hq
 refine assign_Tuple_tuple (I.ok.hd hc) ht (by simp [hn,← hl,rv.length]) hst fun h' hx=>?_
 have I1:Inv X pins σ H { s with heap:=h' }:=I.kept (t':=s.toks) fun b o e=>hx b o (Nat.ne_of_lt (Heap.lt_size e)) e
 exact h pins _ σ H xs _ Q I1 (by simpa using rv) hw
def gSub (to ti:TE) (t:TSet):TG:=fun v σ H Q=>to σ H fun o H1=>ti σ H1 fun i H2=>t o i v H2 fun H3=>Q σ H3
theorem pg_sub {o i:Expr} {to ti:TE} {t:TSet} (ho:PE X o to) (hi:PE X i ti) (hs:PSet X t)
   (ha:∀ v,assign (.Subscript o i pos) X.env v = (do
     let ov ← holding [v] (eval o X.env)
     let iv ← holding [v,ov] (eval i X.env)
     standAt pos
     holding [v,ov,iv] (setItem ov iv v)
     release [v,ov,iv] []):=by intro _; rfl):PG X (.Subscript o i pos) (gSub to ti t):=by
 intro pins s σ H v u Q I r h
 rw [ha]
 refine wpAny_bind (wpAny_holding (thn (ho pins s σ H _ I h) fun ov s1 ⟨x,H1,I1,r1,q1⟩=>?_))
 refine wpAny_bind (wpAny_holding (thn (hi pins s1 σ H1 _ I1 q1) fun iv s2 ⟨y,H2,I2,r2,q2⟩=>?_))
 refine wpAny_bind (wpAny_standAt (wpAny_bind (wpAny_holding (thn (hs pins s2 σ H2 x y v ov iv u _ I2 r1 r2 r q2) fun _ s3 ⟨H3,I3,q3⟩=>?_))))
 exact wpAny_release ⟨σ,H3,I3,q3⟩
def tAsg (te:TE) (g:TG):TS:=fun D σ H=>te σ H fun x H1=>g x σ H1 D.nx
theorem Uk {tg e:Expr} {te:TE} {g:TG} (he:PE X e te) (hg:PG X tg g) (hs:swapsWithSole [tg] e pos.line X.env = pure false:=by rfl) (hw:swappedStores [tg] e X.env = pure none:=by rfl)
   (h1:(assignEach [tg] X.env).map (·.2) = [assign tg X.env]:=by rfl):PS X (.Assign [tg] e pos) (tAsg te g):=by
 intro pins s σ H D I h
 refine wpAny_Assign_stores (thn (he pins s σ H _ I h) fun v s1 ⟨x,H1,I1,r1,q1⟩=>?_) hs hw
 rw [h1]
 exact thn (hg pins s1 σ H1 x v _ I1 r1 q1) fun _ s2 q=>q
theorem bu {i:Nat} {x:Str} {e:Expr} {te:TE} {pos':Pos} (hN:X.N.Nodup) (hi:X.N[i]? = some x) (hx:Loc X.env.scope x) (he:PE X e te) (hs:swapsWith e (some (.Name x pos')) pos.line X.env = pure false:=by rfl) (hf:X.fn x = true ∨ X.env.scope.names.lookup x = some .local:=by first | exact .inl rfl | exact .inr rfl | assumption) :
   PS X (.Assign [.Name x pos'] e pos) (tAsg te (Sh i)):=by
 intro pins s σ H D I h
 refine wpAny_Assign_Name (thn (he pins s σ H _ I h) fun v s1 ⟨y,H1,I1,r1,q1⟩=>?_) hs
 exact Kh I1 hN hi hx r1 (fun s2 I2=>⟨_,H1,I2,q1⟩) hf
def tAug (i:Nat) (te:TE) (ti:TIp):TS:=fun D σ H=>∃ x,σ[i]? = some (some x)∧te σ H fun y H1=>ti x y H1 fun z H2=>D.nx (σ.set i (some z)) H2
theorem aiK {i:Nat} {x:Str} {e:Expr} {te:TE} {op:Operator} {ti:TIp} {pos':Pos} (hN:X.N.Nodup) (hi:X.N[i]? = some x) (hx:Loc X.env.scope x) (he:PE X e te) (ho:PIp X op ti) (hf:X.fn x = true ∨ X.env.scope.names.lookup x = some .local:=by first | exact .inl rfl | exact .inr rfl | assumption) :
   PS X (.AugAssign (.Name x pos') op e pos) (tAug i te ti):=by
 intro pins s σ H D I h
 obtain ⟨v,e1,h⟩:=h
 obtain ⟨m,hn,hl⟩:=I.loc
 have vis:Vis X.env.scope x:=by rcases hx with k | k; exact .inl k; exact .inr (.inl k)
 obtain ⟨u,r,l⟩:=hl i x v hi e1 vis
 refine wpAny_AugAssign_Name ?_
 have go:wpAny (model X.prog X.w) X.A (eval e X.env) (fun w s₂=>wpAny (model X.prog X.w) X.A (inplaceOp op u w) (fun r s₃=>wpAny (model X.prog X.w) X.A (storeName X.env x r) (fun _=>SP X pins D .next) X.xe s₃) X.xe s₂) X.xe s:=by
   refine thn (he pins s σ H _ I h) fun w s1 ⟨y,H1,I1,r1,q1⟩=>?_
   refine thn (ho pins s1 σ H1 v y u w _ I1 r r1 q1) fun z s2 ⟨zv,H2,I2,r2,q2⟩=>?_
   exact Kh I2 hN hi hx r2 (fun s3 I3=>⟨_,H2,I3,q2⟩) hf
 rcases l with ⟨hk,hm⟩ | ⟨hk,c,hc,hcell⟩
 · exact wpAny_loadName_local I.ok.kind hk hn hm go
 · rcases hk with hk | hk
   · exact wpAny_loadName_cell I.ok.kind hk hc hcell go
   · rcases hx with k | k
     · have:X.env.scope.names.lookup x = some .free:=hk
       rw [k] at this; cases this
     · have:X.env.scope.names.lookup x = some .free:=hk
       rw [k] at this; cases this
def ipI (f:Int→Int→Int):TIp:=fun x y H Q=>∃ i j,x = .int i∧y = .int j∧Q (.int (f i j)) H
theorem ah5:PIp X .Add (ipI fun i j=>i + j):=by
 intro pins s σ H x y v u Q I r1 r2 h
 obtain ⟨i,j,e1,e2,q⟩:=h
 subst e1; subst e2
 obtain ⟨t,rfl⟩:=r1
 obtain ⟨t',rfl⟩:=r2
 exact iadd_int ⟨.int _,H,I.tok _,⟨_,rfl⟩,q⟩
end
section
variable {X:Cx} {pos:Pos}
def tWhile (c:TT) (tb:TS):TS:=fun D σ H=>∃ W:Nat→St→Hp→Prop,(∃ m,W m σ H)∧∀ m σ H,W m σ H →
 c σ H fun b H1=>if b = true then ∃ N:St→Hp→Prop,(∀ σ' H',N σ' H'→∃ m',m' < m∧W m' σ' H')∧tb { D with nx:=N,ct:=N,bk:=D.nx } σ H1 else D.nx σ H1
theorem ps_while {c:Expr} {body:List Stmt} {tc:TT} {tb:TS} (hp:PassesOwn (model X.prog X.w) X.A X.env X.xe) (hc:PT X c tc) (hb:PSs X body tb):PS X (.While c body [] pos) (tWhile tc tb):=by
 intro pins s σ H D I h
 obtain ⟨W,⟨m0,w0⟩,turn⟩:=h
 refine wpAny_While (codeAny_whileLoop (fun n s'=>∃ σ' H',Inv X pins σ' H' s'∧W n σ' H') ?_ m0 ⟨σ,H,I,w0⟩)
 rintro n s1 ⟨σ1,H1,I1,w1⟩
 refine wpAny_passesOwn hp (thn (hc pins s1 σ1 H1 _ I1 (turn n σ1 H1 w1)) fun b s2 ⟨H2,I2,q2⟩=>?_)
 cases b with
 | true =>
   obtain ⟨N,hN,q2⟩:=q2
   rw [if_pos rfl]
   refine wpAny_passesOwn hp (thn (hb pins s2 σ1 H2 _ I2 q2) fun f s3 q3=>?_)
   cases f with
   | next =>
     obtain ⟨σ3,H3,I3,n3⟩:=q3
     obtain ⟨m',hm,w3⟩:=hN σ3 H3 n3
     exact ⟨m',hm,σ3,H3,I3,w3⟩
   | cont =>
     obtain ⟨σ3,H3,I3,n3⟩:=q3
     obtain ⟨m',hm,w3⟩:=hN σ3 H3 n3
     exact ⟨m',hm,σ3,H3,I3,w3⟩
   | brk=>exact q3
   | ret v=>exact q3
 | false =>
   rw [if_neg Bool.false_ne_true]
   exact wpAny_execs_nil ⟨σ1,H2,I2,q2⟩
end
structure It where
 go:Nat→Hp→Prop
 yld:Nat→Hp→V→Hp→Prop
 stop:Nat→Hp→Prop
def Oi (X:Cx) (pins:List (Addr × Obj)) (H:Hp) (b:Addr):Prop :=
 H b = none∧b ≠ X.env.locals∧b ∉ X.fs∧(b ∈ X.ex ∨ X.s₀.heap.objs.size ≤ b)∧(∀ x c,X.env.cells.lookup x = some c→c ≠ b)∧∀ p ∈ X.pn ++ pins,p.1 ≠ b
theorem Inv.fpOk {X:Cx} {pins:List (Addr × Obj)} {σ:St} {H H':Hp} {s:Shared} {b:Addr} (I:Inv X pins σ H s) (hb:s.heap.objs.size ≤ b) (hn:H' b = none):Oi X pins H' b:=by
 refine ⟨hn,Nat.ne_of_gt (Nat.lt_of_lt_of_le I.lt hb),I.nofs hb,.inr (Nat.le_trans I.sz hb),fun x c e z=>?_,fun p hp z=>?_⟩
 · obtain ⟨v,q⟩:=I.cell x c e
   exact absurd (Nat.lt_of_lt_of_le q.lt (by rw [z]; exact hb)) (Nat.lt_irrefl _)
 · exact absurd (Nat.lt_of_lt_of_le (Heap.lt_size (I.pin p hp).1) (by rw [z]; exact hb)) (Nat.lt_irrefl _)
structure Turn (P:Program) (w:World) (K:PySem.W.Frag) (tg:Expr) (J:It) (fp:List Addr) (it:Addr) (tn:Nat→Heap→Prop):Prop where
 mem:it ∈ fp
 obj:∀ i h,tn i h→∀ b ∈ fp,∃ o,h.get? b = some o∧∀ v,o.data ≠ .cell v
 keep:∀ i h h',tn i h→(∀ b ∈ fp,∀ o,h.get? b = some o→h'.get? b = some o)→tn i h'
 item:∀ (X:Cx),X.prog = P→X.w = w→X.K = K→X.calm = true→∀ (i:Nat) (pins:List (Addr × Obj)) (s:Shared) (σ:St) (H:Hp) (E:Value→Shared→Prop),Inv X pins σ H s→(∀ b ∈ fp,Oi X pins H b)→tn i s.heap→J.go i H →
   wpAny (model P w) X.A (pyNext (.ref it)) (fun r s1=>∃ u,r = some u ∧
     wpAny (model P w) X.A (letOwnedTupleGo tg (.ref it) u) (fun _ s2=>∃ x H',Inv X pins σ H' s2∧RelV x u∧J.yld i H x H'∧tn (i + 1) s2.heap∧∀ b ∈ fp,H' b = none) E s1) E s
 done:∀ (X:Cx),X.prog = P→X.w = w→X.K = K→X.calm = true→∀ (i:Nat) (pins:List (Addr × Obj)) (s:Shared) (σ:St) (H:Hp) (E:Value→Shared→Prop),Inv X pins σ H s→(∀ b ∈ fp,Oi X pins H b)→tn i s.heap→J.stop i H →
   wpAny (model P w) X.A (pyNext (.ref it)) (fun r s1=>r = none∧Inv X pins σ H s1) E s
 self:∀ (A:Around) (i:Nat) (s:Shared) (Q:Value→Shared→Prop) (E:Value→Shared→Prop),tn i s.heap→Q (.ref it) s→wpAny (model P w) A (pyIter (.ref it)) Q E s
abbrev TI:=St→Hp→(It→Hp→Prop)→Prop
def PIE (X:Cx) (pins:List (Addr × Obj)) (σ:St) (tg:Expr) (R:It→Hp→Prop) (itv:Value) (s2:Shared):Prop :=
 ∃ (it:Addr) (fp:List Addr) (tn:Nat→Heap→Prop) (J:It) (H':Hp),itv = .ref it∧Inv X pins σ H' s2∧Turn X.prog X.w X.K tg J fp it tn∧tn 0 s2.heap∧(∀ b ∈ fp,Oi X pins H' b)∧R J H'
def PI (X:Cx) (tg iter:Expr) (wi:TI):Prop :=
 ∀ (pins:List (Addr × Obj)) (s:Shared) (σ:St) (H:Hp) (R:It→Hp→Prop),Inv X pins σ H s→wi σ H R →
   wpAny (model X.prog X.w) X.A (eval iter X.env) (fun v s1=>wpAny (model X.prog X.w) X.A (pyIter v) (PIE X pins σ tg R) X.xe s1) X.xe s
theorem afy {M:Model} {A:Around} {E:Value→Shared→Prop} {s:Shared} {tg:Expr} {it:Addr} {u:Value} {o:Obj} {n:String} {vs:Array Value} {Q:Unit→Shared→Prop} (ho:s.heap.get? it = some o) (hc:o.cls = .type n) (hd:o.data = .fields vs)
   (hn:["enumerate","zip","dict_itemiterator","dict_reverseitemiterator","odict_iterator","itertools.zip_longest","itertools.pairwise"].contains n = false) (hQ:Q () s):wpAny M A (letOwnedTupleGo tg (.ref it) u) Q E s:=by
 unfold letOwnedTupleGo
 cases tg <;> first
   | exact wpAny_pure hQ
   | (cases u <;> first
       | exact wpAny_pure hQ
       | (refine wpAny_bind (wpAny_load ho ?_)
          rw [hc,hd]
          show wpAny M A (if (["enumerate","zip","dict_itemiterator","dict_reverseitemiterator","odict_iterator","itertools.zip_longest","itertools.pairwise"].contains n && vs[0]? == some (rawInt _)) = true then _ else _) Q E s
          rw [if_neg (by intro h; rw [hn,Bool.false_and] at h; cases h)]
          exact wpAny_pure hQ))
def Itl (K:PySem.W.Frag) (a:Addr):It :=
 ⟨fun i H=>∃ xs x,SqL K H a xs∧xs[i]? = some x,fun i H x H'=>H' = H∧∀ xs,SqL K H a xs→xs[i]? = some x,fun i H=>∃ xs,SqL K H a xs∧xs.length ≤ i⟩
def Itt (K:PySem.W.Frag) (a:Addr):It :=
 ⟨fun i H=>∃ xs x,SqT K H a xs∧xs[i]? = some x,fun i H x H'=>H' = H∧∀ xs,SqT K H a xs→xs[i]? = some x,fun i H=>∃ xs,SqT K H a xs∧xs.length ≤ i⟩
def Itr (lo:Int) (n:Nat):It:=⟨fun i _=>i < n,fun i H x H'=>H' = H∧x = .int (lo + i),fun i _=>n ≤ i⟩
theorem akS {P:Program} {w:World} {K:PySem.W.Frag} {tg:Expr} (a it:Addr):Turn P w K tg (Itl K a) [it] it (fun i h=>h.IsListIter it a i) where
 mem:=by simp
 obj:=fun i h st b hb=>by
   have e:b = it:=by simpa using hb
   subst e
   obtain ⟨o,e,c,d⟩:=st
   exact ⟨o,e,fun v z=>by rw [d] at z; cases z⟩
 keep:=fun i h h' st k=>st.at fun o e=>k it (by simp) o e
 item:=by
   intro X hP hw hK hc i pins s σ H E I hf st hg
   subst hP hw hK
   obtain ⟨xs,x,hq,hx⟩:=hg
   obtain ⟨its,rv,p,hz⟩:=I.list hq
   obtain ⟨u,hu,ru⟩:=rv.get hx
   obtain ⟨f0,f1,f2,f3,f4,f5⟩:=hf it (by simp)
   refine wpAny_pyNext_list_item st p.isList (x:=u) (by simpa using hu) fun h' st' sb=>?_
   have I1:Inv X pins σ H { s with heap:=h' }:=I.turned (t':=s.toks) (fun b o hb e=>(sb.2 b hb).trans e) f0 f1 f3 f4 f5
   obtain ⟨o,e,c,d⟩:=id st'
   exact ⟨u,rfl,afy (s:={ s with heap:=h' }) e c d (by decide) ⟨x,H,I1,ru,⟨rfl,fun ys hy=>by rw [I.afN hy hq]; exact hx⟩,st',fun b hb=>(hf b hb).1⟩⟩
 done:=by
   intro X hP hw hK hc i pins s σ H E I hf st hg
   subst hP hw hK
   obtain ⟨xs,hq,hx⟩:=hg
   obtain ⟨its,rv,p,hz⟩:=I.list hq
   obtain ⟨f0,f1,f2,f3,f4,f5⟩:=hf it (by simp)
   have hl:=rv.length
   exact wpAny_pyNext_list_end (I.ok.hd hc) st p.isList (by simp; omega) fun h' eb=>⟨rfl,I.turned (t':=s.toks) (fun b o hb e=>eb b o hb e) f0 f1 f3 f4 f5⟩
 self:=fun _ _ _ _ _ st h=>wpAny_pyIter_listiter st h
theorem ai8 {P:Program} {w:World} {K:PySem.W.Frag} {tg:Expr} (a it:Addr):Turn P w K tg (Itt K a) [it] it (fun i h=>h.IsTupleIter it a i) where
 mem:=by simp
 obj:=fun i h st b hb=>by
   have e:b = it:=by simpa using hb
   subst e
   obtain ⟨o,e,c,d⟩:=st
   exact ⟨o,e,fun v z=>by rw [d] at z; cases z⟩
 keep:=fun i h h' st k=>st.at fun o e=>k it (by simp) o e
 item:=by
   intro X hP hw hK hc i pins s σ H E I hf st hg
   subst hP hw hK
   obtain ⟨xs,x,hq,hx⟩:=hg
   obtain ⟨its,rv,p,hz⟩:=I.tuple hq
   obtain ⟨u,hu,ru⟩:=rv.get hx
   obtain ⟨f0,f1,f2,f3,f4,f5⟩:=hf it (by simp)
   refine wpAny_pyNext_tuple_item st (show s.heap.IsTuple a its.toArray from p) (x:=u) (by simpa using hu) fun h' st' sb=>?_
   have I1:Inv X pins σ H { s with heap:=h' }:=I.turned (t':=s.toks) (fun b o hb e=>(sb.2 b hb).trans e) f0 f1 f3 f4 f5
   obtain ⟨o,e,c,d⟩:=id st'
   exact ⟨u,rfl,afy (s:={ s with heap:=h' }) e c d (by decide) ⟨x,H,I1,ru,⟨rfl,fun ys hy=>by rw [I.akQ hy hq]; exact hx⟩,st',fun b hb=>(hf b hb).1⟩⟩
 done:=by
   intro X hP hw hK hc i pins s σ H E I hf st hg
   subst hP hw hK
   obtain ⟨xs,hq,hx⟩:=hg
   obtain ⟨its,rv,p,hz⟩:=I.tuple hq
   obtain ⟨f0,f1,f2,f3,f4,f5⟩:=hf it (by simp)
   have hl:=rv.length
   exact wpAny_pyNext_tuple_end (I.ok.hd hc) st (show s.heap.IsTuple a its.toArray from p) (by simp; omega) fun h' eb=>⟨rfl,I.turned (t':=s.toks) (fun b o hb e=>eb b o hb e) f0 f1 f3 f4 f5⟩
 self:=fun _ _ _ _ _ st h=>wpAny_pyIter_tupleiter st h
theorem ai7 {P:Program} {w:World} {K:PySem.W.Frag} {tg:Expr} (it:Addr) (lo:Int) (n:Nat):Turn P w K tg (Itr lo n) [it] it (fun i h=>IsRangeIter h it (lo + (i:Nat) * 1) ((n:Int) - (i:Nat)) 1) where
 mem:=by simp
 obj:=fun i h st b hb=>by
   have e:b = it:=by simpa using hb
   subst e
   exact ⟨_,st,fun v z=>by
     have z':Data.fields _ = Data.cell v:=z
     cases z'⟩
 keep:=fun i h h' st k=>k it (by simp) _ st
 item:=by
   intro X hP hw hK hc i pins s σ H E I hf st hg
   subst hP hw hK
   obtain ⟨f0,f1,f2,f3,f4,f5⟩:=hf it (by simp)
   have W:=Walks.range (prog:=X.prog) (w:=X.w) (I.ok.hd hc) it lo 1 n
   refine W.item i s _ _ hg st fun v h' tk hv st' kk=>?_
   obtain ⟨t,rfl⟩:=hv
   have I1:Inv X pins σ H { s with heap:=h',toks:=tk }:=I.turned (fun b o hb e=>kk b o (by simpa using hb) e) f0 f1 f3 f4 f5
   refine ⟨_,rfl,afy (s:={ s with heap:=h',toks:=tk }) (n:="range_iterator") st' rfl rfl (by decide) ⟨.int (lo + i),H,I1,⟨t,?_⟩,⟨rfl,rfl⟩,st',fun b hb=>(hf b hb).1⟩⟩
   rw [Int.mul_one]
 done:=by
   intro X hP hw hK hc i pins s σ H E I hf st hg
   subst hP hw hK
   obtain ⟨f0,f1,f2,f3,f4,f5⟩:=hf it (by simp)
   exact wpAny_pyNext_range_end (I.ok.hd hc) st (by have:n ≤ i:=hg; omega) fun h' eb=>⟨rfl,I.turned (t':=s.toks) (fun b o hb e=>eb b o hb e) f0 f1 f3 f4 f5⟩
 self:=fun _ _ _ _ _ st h=>wpAny_pyIter_rangeiter st h
end L2
namespace L2
open PySem PySem.Spec PyProof.Rows
section
variable {X:Cx} {tg:Expr}
def iList (K:PySem.W.Frag) (tl:TE):TI:=fun σ H R=>tl σ H fun x H1=>∃ a,x = .ref a∧(∃ xs,SqL K H1 a xs)∧R (Itl K a) H1
def iTup (K:PySem.W.Frag) (tl:TE):TI:=fun σ H R=>tl σ H fun x H1=>∃ a,x = .ref a∧(∃ xs,SqT K H1 a xs)∧R (Itt K a) H1
theorem pi_list {l:Expr} {tl:TE} (hl:PE X l tl):PI X tg l (iList X.K tl):=by
 intro pins s σ H R I h
 refine thn (hl pins s σ H _ I h) fun v s1 ⟨x,H1,I1,r1,q1⟩=>?_
 obtain ⟨a,e,⟨xs,hq⟩,q⟩:=q1
 subst e
 cases r1
 obtain ⟨its,rv,p,hz⟩:=I1.list hq
 refine wpAny_pyIter_list p.isList ?_
 refine ⟨s1.heap.objs.size,[s1.heap.objs.size],_,_,H1,rfl,I1.kept (t':=s1.toks) fun b o e=>Heap.get?_push_of_some _ e,akS a _,⟨_,Heap.get?_push_size _ rfl,rfl,rfl⟩,fun b hb=>?_,q⟩
 have e:b = s1.heap.objs.size:=by simpa using hb
 subst e
 exact I1.fpOk (Nat.le_refl _) (I1.hok.fresh (Nat.le_refl _))
theorem pi_tup {l:Expr} {tl:TE} (hl:PE X l tl):PI X tg l (iTup X.K tl):=by
 intro pins s σ H R I h
 refine thn (hl pins s σ H _ I h) fun v s1 ⟨x,H1,I1,r1,q1⟩=>?_
 obtain ⟨a,e,⟨xs,hq⟩,q⟩:=q1
 subst e
 cases r1
 obtain ⟨its,rv,p,hz⟩:=I1.tuple hq
 refine wpAny_pyIter_tuple (show s1.heap.IsTuple a its.toArray from p) ?_
 refine ⟨s1.heap.objs.size,[s1.heap.objs.size],_,_,H1,rfl,I1.kept (t':=s1.toks) fun b o e=>Heap.get?_push_of_some _ e,ai8 a _,⟨_,Heap.get?_push_size _ rfl,rfl,rfl⟩,fun b hb=>?_,q⟩
 have e:b = s1.heap.objs.size:=by simpa using hb
 subst e
 exact I1.fpOk (Nat.le_refl _) (I1.hok.fresh (Nat.le_refl _))
theorem range_it {pins:List (Addr × Obj)} {σ:St} {H:Hp} {s:Shared} {R:It→Hp→Prop} {E:Value→Shared→Prop} {lo hi:Int} {t u v:Tok} {tk:Nat} (I:Inv X pins σ H s) (h1:-(2 ^ 62) ≤ lo) (h2:lo < 2 ^ 62) (h3:-(2 ^ 62) ≤ hi) (h4:hi < 2 ^ 62)
   (q:R (Itr lo (hi - lo).toNat) H):wpAny (model X.prog X.w) X.A (pyIter (.ref s.heap.objs.size)) (PIE X pins σ tg R) E { s with heap:=s.heap.push { cls:=.type "range",data:=.fields #[.int lo t,.int hi u,.int 1 v] },toks:=tk }:=by
 refine wpAny_pyIter_range (IsRange.new ..) (small_one h1 h2 h3 h4) ?_
 have I1:Inv X pins σ H { s with heap:=s.heap.push { cls:=.type "range",data:=.fields #[.int lo t,.int hi u,.int 1 v] },toks:=tk }:=I.kept fun b o e=>Heap.get?_push_of_some _ e
 refine ⟨(s.heap.push { cls:=.type "range",data:=.fields #[.int lo t,.int hi u,.int 1 v] }).objs.size,[(s.heap.push { cls:=.type "range",data:=.fields #[.int lo t,.int hi u,.int 1 v] }).objs.size],_,_,H,rfl,
   I1.kept (t':=tk) fun b o e=>Heap.get?_push_of_some _ e,ai7 _ lo (hi - lo).toNat,?_,fun b hb=>?_,q⟩
 · have e1:lo + ((0:Nat):Int) * 1 = lo:=by simp
   have e2:(((hi - lo).toNat:Nat):Int) - ((0:Nat):Int) = Builtin.Range.rangeSize lo hi 1:=by rw [rangeSize_one]; split <;> omega
   show IsRangeIter _ _ (lo + ((0:Nat):Int) * 1) ((((hi - lo).toNat:Nat):Int) - ((0:Nat):Int)) 1
   rw [e1,e2]
   exact Heap.get?_push_size _ rfl
 · have e:b = (s.heap.push { cls:=.type "range",data:=.fields #[.int lo t,.int hi u,.int 1 v] }).objs.size:=by simpa using hb
   subst e
   exact I1.fpOk (Nat.le_refl _) (I1.hok.fresh (Nat.le_refl _))
def iRng1 (ta:TA):TI:=fun σ H R=>ta σ H fun vs H1=>∃ j:Int,vs = [.int j]∧-(2 ^ 62) ≤ j∧j < 2 ^ 62∧R (Itr 0 j.toNat) H1
theorem akC {a:Expr} {ta:TA} {p pos:Pos} (hg:Gl X "range") (hm:X.mg "range" = none) (ha:PA X [a] ta) (hs:starEach [a] X.env = [(false,eval a X.env)]:=by rfl):PI X tg (.Call (.Name "range" p) [a] [] pos) (iRng1 ta):=by
 intro pins s σ H R I h
 refine Call_ (Tg I hg hm boot_range (PyProof.Rows.callWith_type1 (thn (ha pos pins s σ H _ I h) fun us s1 ⟨vs,H1,I1,r1,q1⟩=>?_) hs rfl))
 obtain ⟨j,e,q1,q2,q⟩:=q1
 subst e
 cases r1 with
 | cons r rr =>
   cases rr
   obtain ⟨t,rfl⟩:=r
   exact call_range_1 (range_it I1 (by omega) (by omega) q1 q2 (by simpa using q))
def tFor (wi:TI) (g:TG) (tb:TS):TS:=fun D σ H=>wi σ H fun J H1=>∃ W:Nat→Nat→St→Hp→Prop,(∃ m,W 0 m σ H1)∧∀ i m σ H,W i m σ H →
 (J.stop i H∧D.nx σ H) ∨ (J.go i H∧∃ N:St→Hp→Prop,(∀ σ' H',N σ' H'→∃ m',m' < m∧W (i + 1) m' σ' H')∧∀ x H',J.yld i H x H'→g x σ H' fun σ2 H2=>tb { D with nx:=N,ct:=N,bk:=D.nx } σ2 H2)
def Ub (fp:List Addr) (h:Heap):List (Addr × Obj):=fp.filterMap fun b=>(h.get? b).map fun o=>(b,o)
theorem zQ {fp:List Addr} {h:Heap} {b:Addr} {o:Obj} (hb:b ∈ fp) (e:h.get? b = some o):(b,o) ∈ Ub fp h:=List.mem_filterMap.mpr ⟨b,hb,by rw [e]; rfl⟩
theorem akx {fp:List Addr} {h:Heap} {p:Addr × Obj} (hp:p ∈ Ub fp h):p.1 ∈ fp∧h.get? p.1 = some p.2:=by
 obtain ⟨b,hb,e⟩:=List.mem_filterMap.mp hp
 cases q:h.get? b with
 | none=>rw [q] at e; cases e
 | some o =>
   rw [q] at e
   have e':(b,o) = p:=Option.some.inj e
   subst e'
   exact ⟨hb,q⟩
theorem Inv.pinned {pins:List (Addr × Obj)} {σ:St} {H:Hp} {s:Shared} {fp:List Addr} (I:Inv X pins σ H s) (hf:∀ b ∈ fp,Oi X pins H b) (ho:∀ b ∈ fp,∃ o,s.heap.get? b = some o∧∀ v,o.data ≠ .cell v):Inv X (pins ++ Ub fp s.heap) σ H s :=
 I.aju fun p hp=>(List.mem_append.mp hp).elim (fun z=>I.pin p (List.mem_append_right _ z)) fun z=>by
   obtain ⟨hb,e⟩:=akx z
   obtain ⟨f0,f1,f2,_⟩:=hf p.1 hb
   obtain ⟨o,e',d⟩:=ho p.1 hb
   rw [e] at e'; cases e'
   exact ⟨e,f0,f1,f2,d⟩
theorem Inv.Km {pins pl:List (Addr × Obj)} {σ:St} {H:Hp} {s:Shared} (I:Inv X (pins ++ pl) σ H s):Inv X pins σ H s:=I.aju fun p hp=>I.pin p (List.mem_append_right _ (List.mem_append_left _ hp))
theorem jm {iter:Expr} {body:List Stmt} {wi:TI} {g:TG} {tb:TS} {pos:Pos} (hp:PassesOwn (model X.prog X.w) X.A X.env X.xe) (hc:X.calm = true) (hi:PI X tg iter wi) (hg:PG X tg g) (hb:PSs X body tb)
   (hs:∀ x,foldedSetIterable iter X.env x = pure x:=by intro _; rfl):PS X (.For tg iter body [] pos) (tFor wi g tb):=by
 intro pins s σ H D I h
 refine wpAny_For (thn (hi pins s σ H _ I h) fun v s1 h1=>thn h1 fun itv s2 h2=>?_) hs
 obtain ⟨it,fp,tn,J,H2,e,I2,T,st2,f2,W,⟨m0,w0⟩,turn⟩:=h2
 subst e
 have stat:∀ {H':Hp},(∀ b ∈ fp,H' b = none)→∀ b ∈ fp,Oi X pins H' b:=fun hn b hb=>⟨hn b hb,(f2 b hb).2⟩
 refine codeAny_forLoop_any (fun n s'=>∃ i σ' H',Inv X pins σ' H' s'∧tn i s'.heap∧(∀ b ∈ fp,H' b = none)∧W i n σ' H') ?_ m0 ⟨0,σ,H2,I2,st2,fun b hb=>(f2 b hb).1,w0⟩
 rintro n s3 ⟨i,σ3,H3,I3,st3,fr3,w3⟩
 rcases turn i n σ3 H3 w3 with ⟨stop,qn⟩ | ⟨go,N,hN,step⟩
 · refine wpAny_passesOwn hp (thn (T.done X rfl rfl rfl hc i pins s3 σ3 H3 X.xe I3 (stat fr3) st3 stop) fun r s4 ⟨hr,I4⟩=>?_)
   subst hr
   exact wpAny_execs_nil ⟨σ3,H3,I4,qn⟩
 · refine wpAny_passesOwn hp (thn (T.item X rfl rfl rfl hc i pins s3 σ3 H3 X.xe I3 (stat fr3) st3 go) fun r s4 ⟨u,hr,h4⟩=>?_)
   subst hr
   refine wpAny_passesOwn hp (thn h4 fun _ s5 ⟨x,H5,I5,r5,y5,st5,fr5⟩=>?_)
   have I5':=I5.pinned (stat fr5) (T.obj _ _ st5)
   refine wpAny_passesOwn hp (thn (hg _ s5 σ3 H5 x u _ I5' r5 (step x H5 y5)) fun _ s6 ⟨σ6,H6,I6,q6⟩=>?_)
   refine wpAny_passesOwn hp (thn (hb _ s6 σ6 H6 _ I6 q6) fun f s7 q7=>?_)
   have again:∀ {σ7:St} {H7:Hp},Inv X (pins ++ Ub fp s5.heap) σ7 H7 s7→N σ7 H7→∃ m,m < n∧∃ i σ' H',Inv X pins σ' H' s7∧tn i s7.heap∧(∀ b ∈ fp,H' b = none)∧W i m σ' H':=fun {σ7 H7} I7 n7=>by
     obtain ⟨m',hm,w7⟩:=hN σ7 H7 n7
     refine ⟨m',hm,i + 1,σ7,H7,I7.Km,T.keep _ _ _ st5 fun b hb o e=>(I7.pin (b,o) (List.mem_append_right _ (List.mem_append_right _ (zQ hb e)))).1,fun b hb=>?_,w7⟩
     obtain ⟨o,e,d⟩:=T.obj _ _ st5 b hb
     exact (I7.pin (b,o) (List.mem_append_right _ (List.mem_append_right _ (zQ hb e)))).2.1
   cases f with
   | next=>obtain ⟨σ7,H7,I7,n7⟩:=q7; exact again I7 n7
   | cont=>obtain ⟨σ7,H7,I7,n7⟩:=q7; exact again I7 n7
   | brk=>obtain ⟨σ7,H7,I7,q7⟩:=q7; exact ⟨σ7,H7,I7.Km,q7⟩
   | ret v=>obtain ⟨x7,σ7,H7,I7,r7,q7⟩:=q7; exact ⟨x7,σ7,H7,I7.Km,r7,q7⟩
end
end L2
namespace L2
open PySem PySem.Spec PyProof.Rows
abbrev R2:=V→V→Hp→VK→Prop
def OpR (X:Cx) (f:Value→Value→Sem Value) (r:R2):Prop :=
 ∀ (pins:List (Addr × Obj)) (s:Shared) (σ:St) (H:Hp) (x y:V) (v u:Value) (Q:VK),Inv X pins σ H s→RelV x v→RelV y u→r x y H Q →
   wpAny (model X.prog X.w) X.A (f v u) (EP X pins σ Q) X.xe s
def UnR (X:Cx) (f:Value→Sem Value) (r:V→Hp→VK→Prop):Prop :=
 ∀ (pins:List (Addr × Obj)) (s:Shared) (σ:St) (H:Hp) (x:V) (v:Value) (Q:VK),Inv X pins σ H s→RelV x v→r x H Q →
   wpAny (model X.prog X.w) X.A (f v) (EP X pins σ Q) X.xe s
def tE (X:Cx) (f:Value) (r:List V→Hp→VK→Prop):Prop :=
 ∀ (pins:List (Addr × Obj)) (s:Shared) (σ:St) (H:Hp) (xs:List V) (us:List Value) (Q:VK),Inv X pins σ H s→Vals xs us→r xs H Q →
   wpAny (model X.prog X.w) X.A (call f us) (EP X pins σ Q) X.xe s
def TruR (X:Cx) (r:V→Hp→(Bool→Hp→Prop)→Prop):Prop :=
 ∀ (pins:List (Addr × Obj)) (s:Shared) (σ:St) (H:Hp) (x:V) (v:Value) (Q:Bool→Hp→Prop),Inv X pins σ H s→RelV x v→r x H Q →
   wpAny (model X.prog X.w) X.A (truthy v) (TP X pins σ Q) X.xe s
def tOp (r:R2) (ta tb:TE):TE:=fun σ H Q=>ta σ H fun x H1=>tb σ H1 fun y H2=>r x y H2 Q
def tUn (r:V→Hp→VK→Prop) (ta:TE):TE:=fun σ H Q=>ta σ H fun x H1=>r x H1 Q
def rI (C:Int→Int→Prop) (g:Int→Int→V):R2:=fun x y H Q=>∃ i j,x = .int i∧y = .int j∧C i j∧Q (g i j) H
def rI0 (g:Int→Int→V):R2:=fun x y H Q=>∃ i j,x = .int i∧y = .int j∧Q (g i j) H
def rU (g:Int→V):V→Hp→VK→Prop:=fun x H Q=>∃ i,x = .int i∧Q (g i) H
section
variable {X:Cx} {a b c:Expr} {ta tb tc:TE} {pos:Pos}
theorem binT (ha:PE X a ta) (hb:PE X b tb) {pins:List (Addr × Obj)} {s:Shared} {σ:St} {H:Hp} {R:V→V→Hp→Prop} (I:Inv X pins σ H s)
   (h:ta σ H fun x H1=>tb σ H1 fun y H2=>R x y H2) {Q:Value→Shared→Prop} {f:Value→Value→Sem Value}
   (hf:∀ v u s2 x y H2,Inv X pins σ H2 s2→RelV x v→RelV y u→R x y H2→wpAny (model X.prog X.w) X.A (f v u) Q X.xe s2) :
   wpAny (model X.prog X.w) X.A (eval a X.env) (fun v s₁=>wpAny (model X.prog X.w) X.A (eval b X.env) (fun u s₂=>wpAny (model X.prog X.w) X.A (f v u) Q X.xe s₂) X.xe s₁) X.xe s:=by
 refine thn (ha pins s σ H _ I h) fun v s1 ⟨x,H1,I1,r1,q1⟩=>?_
 refine thn (hb pins s1 σ H1 _ I1 q1) fun u s2 ⟨y,H2,I2,r2,q2⟩=>?_
 exact hf v u s2 x y H2 I2 r1 r2 q2
theorem agb {op:Operator} {r:R2} (ho:OpR X (binaryOp op) r) (ha:PE X a ta) (hb:PE X b tb):PE X (.BinOp a op b pos) (tOp r ta tb):=by
 intro pins s σ H Q I h
 exact wpAny_BinOp (binT ha hb I h fun v u s2 x y H2 I2 rx ry q=>ho pins s2 σ H2 x y v u Q I2 rx ry q)
theorem pe_un {op:UnaryOp} {r:V→Hp→VK→Prop} (ho:UnR X (unaryOp op) r) (ha:PE X a ta):PE X (.UnaryOp op a pos) (tUn r ta):=by
 intro pins s σ H Q I h
 exact UnaryOp_ (thn (ha pins s σ H _ I h) fun v s1 ⟨x,H1,I1,r1,q1⟩=>ho pins s1 σ H1 x v Q I1 r1 q1)
theorem opI {f:Value→Value→Sem Value} {C:Int→Int→Prop} {g:Int→Int→Int}
   (rule:∀ (i j:Int) (t u:Tok) (s:Shared) (Q:Value→Shared→Prop) (E:Value→Shared→Prop),C i j→Q (.int (g i j) s.toks) { s with toks:=s.toks + 1 }→wpAny (model X.prog X.w) X.A (f (.int i t) (.int j u)) Q E s) :
   OpR X f (rI C fun i j=>.int (g i j)):=by
 intro pins s σ H x y v u Q I rx ry h
 obtain ⟨i,j,rfl,rfl,hc,q⟩:=h
 obtain ⟨t,rfl⟩:=rx
 obtain ⟨t',rfl⟩:=ry
 exact rule i j t t' s _ _ hc ⟨.int (g i j),H,I.tok _,⟨_,rfl⟩,q⟩
theorem opI0 {f:Value→Value→Sem Value} {g:Int→Int→Int}
   (rule:∀ (i j:Int) (t u:Tok) (s:Shared) (Q:Value→Shared→Prop) (E:Value→Shared→Prop),Q (.int (g i j) s.toks) { s with toks:=s.toks + 1 }→wpAny (model X.prog X.w) X.A (f (.int i t) (.int j u)) Q E s) :
   OpR X f (rI0 fun i j=>.int (g i j)):=by
 intro pins s σ H x y v u Q I rx ry h
 obtain ⟨i,j,rfl,rfl,q⟩:=h
 obtain ⟨t,rfl⟩:=rx
 obtain ⟨t',rfl⟩:=ry
 exact rule i j t t' s _ _ ⟨.int (g i j),H,I.tok _,⟨_,rfl⟩,q⟩
theorem opB0 {f:Value→Value→Sem Value} {g:Int→Int→Bool}
   (rule:∀ (i j:Int) (t u:Tok) (s:Shared) (Q:Value→Shared→Prop) (E:Value→Shared→Prop),Q (.bool (g i j)) s→wpAny (model X.prog X.w) X.A (f (.int i t) (.int j u)) Q E s) :
   OpR X f (rI0 fun i j=>.bl (g i j)):=by
 intro pins s σ H x y v u Q I rx ry h
 obtain ⟨i,j,rfl,rfl,q⟩:=h
 obtain ⟨t,rfl⟩:=rx
 obtain ⟨t',rfl⟩:=ry
 exact rule i j t t' s _ _ ⟨.bl (g i j),H,I,rfl,q⟩
def CDiv (i j:Int):Prop:=0 < j∧j < 1073741824
def An (i j:Int):Prop:=(-(2 ^ 64) < i∧i < 2 ^ 64) ∨ (-(2 ^ 64) < j∧j < 2 ^ 64)
theorem An.ok {i j:Int} (h:An i j):IntMulOk i j:=by
 rcases h with ⟨h1,h2⟩ | ⟨h1,h2⟩
 · exact .of_left (intBits_le_64 h1 h2)
 · exact .of_right (intBits_le_64 h1 h2)
theorem op_add:OpR X (binaryOp .Add) (rI0 fun i j=>.int (i + j)):=opI0 fun _ _ _ _ _ _ _ q=>add_int q
theorem op_mul:OpR X (binaryOp .Mult) (rI An fun i j=>.int (i * j)):=opI fun _ _ _ _ _ _ _ hc q=>mul_int q hc.ok
theorem op_fdiv:OpR X (binaryOp .FloorDiv) (rI CDiv fun i j=>.int (i / j)):=opI fun i j _ _ _ _ _ hc q=>by
 have h1:(0:Int) < j:=hc.1
 have h2:j < 1073741824:=hc.2
 exact floordiv_int (by omega) (by rw [Int.fdiv_eq_ediv_of_nonneg i (by omega)]; exact q) (.inl (PyProof.noPylong_small (by omega)))
theorem op_mod:OpR X (binaryOp .Mod) (rI (fun _ j=>0 < j) fun i j=>.int (i % j)):=opI fun i j _ _ _ _ _ hc q=>by
 have h1:(0:Int) < j:=hc
 exact mod_int' (by omega) (by rw [Int.fmod_eq_emod_of_nonneg i (by omega)]; exact q)
theorem op_and:OpR X (binaryOp .BitAnd) (rI0 fun i j=>.int (Builtin.bitAnd i j)):=opI0 fun _ _ _ _ _ _ _ q=>and_int q
theorem unI {f:Value→Sem Value} {g:Int→Int}
   (rule:∀ (i:Int) (t:Tok) (s:Shared) (Q:Value→Shared→Prop) (E:Value→Shared→Prop),Q (.int (g i) s.toks) { s with toks:=s.toks + 1 }→wpAny (model X.prog X.w) X.A (f (.int i t)) Q E s) :
   UnR X f (rU fun i=>.int (g i)):=by
 intro pins s σ H x v Q I rx h
 obtain ⟨i,rfl,q⟩:=h
 obtain ⟨t,rfl⟩:=rx
 exact rule i t s _ _ ⟨.int (g i),H,I.tok _,⟨_,rfl⟩,q⟩
theorem un_neg:UnR X (unaryOp .USub) (rU fun i=>.int (-i)):=unI fun _ _ _ _ _ q=>neg_int q
end
section
variable {X:Cx} {a b c:Expr} {ta tb tc:TE} {pos:Pos}
theorem ahS {pins:List (Addr × Obj)} {σ:St} {H:Hp} {s:Shared} {Q:VK} {k k':Bool} (I:Inv X pins σ H s) (q:Q (.bl k) H) (e:k = k'):EP X pins σ Q (.bool k') s:=by
 subst e
 exact ⟨.bl k,H,I,rfl,q⟩
theorem op_lt:OpR X (compareOp .Lt) (rI0 fun i j=>.bl (decide (i < j))):=opB0 fun _ _ _ _ _ _ _ q=>lt_int q
theorem op_le:OpR X (compareOp .LtE) (rI0 fun i j=>.bl (decide (i ≤ j))):=opB0 fun _ _ _ _ _ _ _ q=>le_int q
theorem op_gt:OpR X (compareOp .Gt) (rI0 fun i j=>.bl (decide (j < i))):=opB0 fun _ _ _ _ _ _ _ q=>gt_int q
theorem akB:OpR X (compareOp .In) (fun x y H Q=>∃ i j,x = .str i∧y = .str j∧Q (.bl (!(Builtin.Str.occurrences j i 0 j.length 1).isEmpty)) H):=by
 intro pins s σ H x y v u Q I rx ry h
 obtain ⟨i,j,rfl,rfl,q⟩:=h
 obtain ⟨t,rfl⟩:=rx
 obtain ⟨t',rfl⟩:=ry
 exact in_str (ahS I q rfl)
theorem op_isN:OpR X (compareOp .Is) (fun x y H Q=>y = .non∧Q (.bl (decide (x = .non))) H):=by
 intro pins s σ H x y v u Q I rx ry h
 obtain ⟨rfl,q⟩:=h
 cases ry
 refine is_none_gen (ahS I q ?_)
 cases x <;> first
   | (cases rx; rfl)
   | (obtain ⟨t,rfl⟩:=rx; rfl)
theorem acM:OpR X (compareOp .NotIn) (fun x y H Q=>∃ i j,x = .str i∧y = .str j∧Q (.bl (!(!(Builtin.Str.occurrences j i 0 j.length 1).isEmpty))) H):=by
 intro pins s σ H x y v u Q I rx ry h
 obtain ⟨i,j,rfl,rfl,q⟩:=h
 obtain ⟨t,rfl⟩:=rx
 obtain ⟨t',rfl⟩:=ry
 exact notIn_str (ahS I q rfl)
theorem OpR.or {f:Value→Value→Sem Value} {r r':R2} (h:OpR X f r) (h':OpR X f r'):OpR X f (fun x y H Q=>r x y H Q ∨ r' x y H Q):=by
 intro pins s σ H x y v u Q I rx ry q
 rcases q with q | q
 · exact h pins s σ H x y v u Q I rx ry q
 · exact h' pins s σ H x y v u Q I rx ry q
theorem Hw (b:Expr) {op:CmpOp} (h:op ≠ .In:=by decide) (h2:op ≠ .NotIn:=by decide):behindInMarks op b = false:=by
 have e1:(op == CmpOp.In) = false:=by cases op <;> first | rfl | exact absurd rfl h
 have e2:(op == CmpOp.NotIn) = false:=by cases op <;> first | rfl | exact absurd rfl h2
 cases b <;> simp [behindInMarks,e1,e2]
theorem acN {op:CmpOp} {r:R2} (ho:OpR X (compareOp op) r) (ha:PE X a ta) (hb:PE X b tb) (hm:behindInMarks op b = false):PE X (.Compare a [op] [b] pos) (tOp r ta tb):=by
 intro pins s σ H Q I h
 exact wpAny_Compare1 (binT ha hb I h fun v u s2 x y H2 I2 rx ry q=>ho pins s2 σ H2 x y v u Q I2 rx ry q) hm
def tTest (t:TE):TT:=fun σ H Q=>t σ H fun x H'=>∃ k,x = .bl k∧Q k H'
theorem Ep {op:CmpOp} {r:R2} (ho:OpR X (compareOp op) r) (ha:PE X a ta) (hb:PE X b tb) (hm:behindInMarks op b = false):PT X (.Compare a [op] [b] pos) (tTest (tOp r ta tb)):=by
 intro pins s σ H Q I h
 refine wpAny_isTrue_Compare1 (thn (ha pins s σ H _ I h) fun v s1 ⟨x,H1,I1,r1,q1⟩=>thn (hb pins s1 σ H1 _ I1 q1) fun u s2 ⟨y,H2,I2,r2,q2⟩ =>
   thn (ho pins s2 σ H2 x y v u _ I2 r1 r2 q2) fun c s3 ⟨z,H3,I3,r3,k,e,q3⟩=>?_) hm
 subst e
 cases r3
 exact wpAny_truthy_bool ⟨H3,I3,q3⟩
def U3 (r r':R2) (ta tb tc:TE):TE:=fun σ H Q=>ta σ H fun x H1=>tb σ H1 fun y H2=>r x y H2 fun z H3=>∃ k,z = .bl k ∧
 (if k = true then tc σ H3 fun w' H4=>r' y w' H4 Q else Q (.bl false) H3)
theorem pe_chain {op op':CmpOp} {r r':R2} (ho:OpR X (compareOp op) r) (ho':OpR X (compareOp op') r') (ha:PE X a ta) (hb:PE X b tb) (hc:PE X c tc)
   (hm:lastMarks [op,op'] [b,c] = false:=by with_unfolding_all rfl):PE X (.Compare a [op,op'] [b,c] pos) (U3 r r' ta tb tc):=by
 intro pins s σ H Q I h
 refine Compare_chain (thn (ha pins s σ H _ I h) fun v s1 ⟨x,H1,I1,r1,q1⟩=>chain_link (thn (hb pins s1 σ H1 _ I1 q1) fun u s2 ⟨y,H2,I2,r2,q2⟩ =>
   thn (ho pins s2 σ H2 x y v u _ I2 r1 r2 q2) fun d s3 ⟨z,H3,I3,r3,k,e,q3⟩=>?_)) hm
 subst e
 cases r3
 refine wpAny_truthy_bool ?_
 cases k with
 | false=>exact ite_ff ⟨.bl false,H3,I3,rfl,q3⟩
 | true=>exact ite_tt (chain_last (thn (hc pins s3 σ H3 _ I3 q3) fun w' s4 ⟨z',H4,I4,r4,q4⟩=>ho' pins s4 σ H4 y z' u w' Q I4 r2 r4 q4))
theorem pt_chain {op op':CmpOp} {r r':R2} (ho:OpR X (compareOp op) r) (ho':OpR X (compareOp op') r') (ha:PE X a ta) (hb:PE X b tb) (hc:PE X c tc)
   (hm:lastMarks [op,op'] [b,c] = false:=by with_unfolding_all rfl):PT X (.Compare a [op,op'] [b,c] pos) (tTest (U3 r r' ta tb tc)):=by
 intro pins s σ H Q I h
 refine isTrue_chain (thn (ha pins s σ H _ I h) fun v s1 ⟨x,H1,I1,r1,q1⟩=>test_link (thn (hb pins s1 σ H1 _ I1 q1) fun u s2 ⟨y,H2,I2,r2,q2⟩ =>
   thn (ho pins s2 σ H2 x y v u _ I2 r1 r2 q2) fun d s3 ⟨z,H3,I3,r3,k,e,q3⟩=>?_)) hm
 subst e
 cases r3
 refine wpAny_truthy_bool ?_
 cases k with
 | false =>
   obtain ⟨k',e',q'⟩:=q3
   cases e'
   exact ite_ff ⟨H3,I3,q'⟩
 | true =>
   refine ite_tt (test_last (thn (hc pins s3 σ H3 _ I3 q3) fun w' s4 ⟨z',H4,I4,r4,q4⟩=>thn (ho' pins s4 σ H4 y z' u w' _ I4 r2 r4 q4) fun d' s5 ⟨z2,H5,I5,r5,k2,e2,q5⟩=>?_))
   subst e2
   cases r5
   exact wpAny_truthy_bool ⟨H5,I5,q5⟩
def TruV (K:PySem.W.Frag) (x:V) (H:Hp) (k:Bool):Prop :=
 match x with
 | .non=>k = false
 | .bl b=>k = b
 | .int i=>k = (i != 0)
 | .str y=>y.length ≤ sizeLine∧k = ((y.length:Int) != 0)
 | .byt y=>y.size ≤ sizeLine∧k = ((y.size:Int) != 0)
 | .ref p=>(∃ xs,SqL K H p xs∧k = !xs.isEmpty) ∨ (∃ xs,SqT K H p xs∧k = !xs.isEmpty) ∨ ∃ kvs,H p = some (.dK kvs)∧k = !kvs.isEmpty
 | _=>False
theorem ah6 {κ:Type} {kvs:List (κ × V)} {vs:List (κ × Value)} (r:KV kvs vs):(!vs.isEmpty) = !kvs.isEmpty:=by
 cases r <;> rfl
theorem SN {xs:List V} {its:List Value} (r:Vals xs its):(!its.toArray.isEmpty) = !xs.isEmpty:=by
 cases r <;> simp
theorem Hu:(sizeLine:Nat) < 2 ^ 63:=by rw [sizeLine_eq]; decide
theorem tru_ok:TruR X (fun x H Q=>∃ k,TruV X.K x H k∧Q k H):=by
 intro pins s σ H x v Q I rx h
 obtain ⟨k,e,q⟩:=h
 have hl:=Hu
 have hs:sizeLine = 16777216:=sizeLine_eq
 cases x with
 | non =>
   cases rx
   have e':k = false:=e
   subst e'
   exact truthy_none ⟨H,I,q⟩
 | bl b =>
   cases rx
   have e':k = b:=e
   subst e'
   exact wpAny_truthy_bool ⟨H,I,q⟩
 | int i =>
   obtain ⟨t,rfl⟩:=rx
   have e':k = (i != 0):=e
   subst e'
   exact PySem.P.truthy_int ⟨H,I,q⟩
 | str y =>
   obtain ⟨t,rfl⟩:=rx
   obtain ⟨hy,e'⟩:y.length ≤ sizeLine∧k = ((y.length:Int) != 0):=e
   subst e'
   exact PySem.P.truthy_str (by omega) ⟨H,I.tok _,q⟩
 | byt y =>
   obtain ⟨t,rfl⟩:=rx
   obtain ⟨hy,e'⟩:y.size ≤ sizeLine∧k = ((y.size:Int) != 0):=e
   subst e'
   exact PySem.W.truthy_bytes (by omega) ⟨H,I.tok _,q⟩
 | ref p =>
   cases rx
   have e':(∃ xs,SqL X.K H p xs∧k = !xs.isEmpty) ∨ (∃ xs,SqT X.K H p xs∧k = !xs.isEmpty) ∨ ∃ kvs,H p = some (.dK kvs)∧k = !kvs.isEmpty:=e
   rcases e' with ⟨xs,hx,e'⟩ | ⟨xs,hx,e'⟩ | ⟨kvs,hx,e'⟩
   · subst e'
     obtain ⟨its,r,pl,hz⟩:=I.list hx
     have hlen:=r.length
     exact wpAny_truthy_list pl.isList (by simp only [List.size_toArray]; omega) ⟨H,I.tok _,by rw [SN r]; exact q⟩
   · subst e'
     obtain ⟨its,r,pl,hz⟩:=I.tuple hx
     have hlen:=r.length
     exact truthy_tuple pl (by simp only [List.size_toArray]; omega) ⟨H,I.tok _,by rw [SN r]; exact q⟩
   · subst e'
     obtain ⟨hz,hS,vs,r,m⟩:kvs.length ≤ sizeLine∧(p == sysModules) = false∧∃ vs,KV kvs vs∧s.heap.DictOf (ab2 X.prog X.w) p vs:=I.hok p _ hx
     have hlen:kvs.length = vs.length:=Paired.length r
     exact wpAny_truthy_dict hS m (by omega) ⟨H,I.tok _,by rw [ah6 r]; exact q⟩
 | _=>exact (show False from e).elim
theorem pt_truth (ha:PE X a ta) (he:∀ whole,isTrue a X.env whole = (do let v ← whole; standAt a.pos; holding [v] (truthy v))) :
   PT X a (fun σ H Q=>ta σ H fun x H'=>∃ k,TruV X.K x H' k∧Q k H'):=by
 intro pins s σ H Q I h
 exact isTrue_plain (thn (ha pins s σ H _ I h) fun v s1 ⟨x,H1,I1,r1,q1⟩=>tru_ok pins s1 σ H1 x v Q I1 r1 q1) (he _)
theorem aiz:OpR X (binaryOp .Add) (fun x y H Q=>∃ i j,x = .str i∧y = .str j∧i.length + j.length ≤ sizeLine∧Q (.str (i ++ j)) H):=by
 intro pins s σ H x y v u Q I rx ry h
 obtain ⟨i,j,rfl,rfl,hz,q⟩:=h
 obtain ⟨t,rfl⟩:=rx
 obtain ⟨t',rfl⟩:=ry
 exact add_str (fun t' tk=>⟨.str (i ++ j),H,I.tok _,⟨_,rfl⟩,q⟩) hz
theorem vals1 {x:V} {us:List Value} (r:Vals [x] us):∃ u,us = [u]∧RelV x u:=by
 cases r with
 | cons r1 r2=>cases r2; exact ⟨_,rfl,r1⟩
theorem ajU:tE X (.type "int") (fun xs H Q=>(∃ i,xs = [.int i]∧Q (.int i) H) ∨ ∃ k,xs = [.bl k]∧Q (.int (if k then 1 else 0)) H):=by
 intro pins s σ H xs us Q I r h
 rcases h with ⟨i,rfl,q⟩ | ⟨k,rfl,q⟩
 · obtain ⟨u,rfl,t,rfl⟩:=vals1 r
   exact call_int_int ⟨.int i,H,I,⟨_,rfl⟩,q⟩
 · obtain ⟨u,rfl,r1⟩:=vals1 r
   cases r1
   exact call_int_bool ⟨.int (if k then 1 else 0),H,I.tok _,⟨_,rfl⟩,q⟩
end
end L2
namespace L2
open PySem PySem.Spec PyProof.Rows
structure ObjM (h:Heap) (x dx C:Addr) (mA:Str→Option Value):Prop where
 obj:h.get? x = some (PySem.W.instObj C dx)
 ns:h.Ns1 dx mA
 ne:dx ≠ x
theorem aks {h:Heap} {dx:Addr} {mA:Str→Option Value} (n:h.Ns1 dx mA):∃ od,h.get? dx = some od∧∀ name,PySem.W.lookIn name od = some (mA name):=by
 obtain ⟨o,es,ep,ho,hd,hk,_,hm⟩:=n
 refine ⟨o,ho,fun name=>?_⟩
 have e:=hm name
 unfold nsFind findBy at e
 rw [← Array.find?_toList] at e
 unfold PySem.W.lookIn
 rw [hd]
 dsimp only
 split
 · rename_i y q
   rw [q] at e
   exact congrArg some e
 · rename_i q
   rw [q] at e
   have a:es.toList.any (·.refKey) = false:=by
     rw [List.any_eq_false]
     intro y hy
     obtain ⟨z,t,hkey⟩:=hk y (Array.mem_toList_iff.mp hy)
     simp [DictEntry.refKey,hkey]
   have a':¬ es.toList.any (·.refKey) = true:=by rw [a]; exact Bool.false_ne_true
   rw [if_neg a']
   exact congrArg some e
theorem ObjM.look {h:Heap} {x dx C:Addr} {mA:Str→Option Value} (I:ObjM h x dx C mA):∃ od,PySem.W.InstAt h x (PySem.W.instObj C dx) C (some od)∧∀ name,PySem.W.lookIn name od = some (mA name) :=
 let ⟨od,ho,hl⟩:=aks I.ns
 ⟨od,⟨I.obj,rfl,rfl,ho⟩,hl⟩
section
variable {prog:Program} {w:World} {A:Around} {E:Value→Shared→Prop} {s:Shared} {K:PySem.W.Frag} {x dx C f:Addr} {mA:Str→Option Value} {name:Str} {v:Value}
theorem get_map {expr:Bool} {Q:Value→Shared→Prop} (X:K.In s.heap) (I:ObjM s.heap x dx C mA) (hg:PySem.W.plainGet K C name = true) (hh:PySem.W.hasDictIn K C = true)
   (ha:PySem.W.findIn K (.ref C) name = some none) (hv:mA name = some v) (hv':PySem.W.handedIn v = true) (h:Q v { s with toks:=s.toks + 1 }) :
   wpAny (model prog w) A (getAttr (.ref x) name expr) Q E s:=by
 obtain ⟨od,J,hl⟩:=I.look
 exact PySem.W.get_value X J (PySem.W.plainGet_of hg).1 (PySem.W.findObj_own hh ha rfl (by rw [hl,hv])) hv' h
theorem get_meth {pl:Sem Bool} {Q:Value × List Value→Shared→Prop} (X:K.In s.heap) (I:ObjM s.heap x dx C mA) (hg:PySem.W.plainGet K C name = true)
   (hf:PySem.W.findIn K (.ref C) name = some (some (.ref f))) (ht:PySem.W.isFn K (.ref f) = true) (hv:mA name = none) (h:Q (.ref f,[.ref x]) s) :
   wpAny (model prog w) A (getMethod (.ref x) name pl) Q E s:=by
 obtain ⟨od,J,hl⟩:=I.look
 exact PySem.W.method_fn X J (PySem.W.plainGet_of hg).1 (PySem.W.plainGet_of hg).2 hf (beq_iff_eq.mp ht) (by show (PySem.W.lookIn name od).map (·.isSome) = some false; rw [hl,hv]; rfl) h
theorem set_map {ns:List Str} {Q:Unit→Shared→Prop} (X:K.In s.heap) (I:ObjM s.heap x dx C mA)
   (hs:PySem.W.findIn K (.ref C) "__setattr__" = some (some (.builtin "object.__setattr__"))) (hp:PySem.W.plainOver K C = true) (ht:PySem.W.takerIn K C name = some none) (hh:PySem.W.hasDictIn K C = true)
   (hw:PySem.Within mA ns) (hsz:ns.length ≤ sizeLine)
   (h:∀ h',ObjM h' x dx C (fun y=>if y = name then some v else mA y)→Heap.SameBut dx s.heap h'→Q () { s with heap:=h',toks:=s.toks + 2 }) :
   wpAny (model prog w) A (setAttr (.ref x) name v) Q E s:=by
 obtain ⟨od,J,hl⟩:=I.look
 refine PySem.W.set_plain X J hs (PySem.W.osa_open (s:={ s with toks:=s.toks + 1 }) (r:=none) X J hp ht fun b=>?_)
 obtain ⟨cd,hc,hd'⟩:=PySem.W.any_some hh
 have hx:s.heap.get? x = some ⟨.ref C,some dx,.plain,#[]⟩:=I.obj
 refine wpAny_bind (wpAny_pure (wpAny_bind (wpAny_bind (wpAny_loadPart hx (wpAny_bind (PySem.W.Looks.here (s:={ s with toks:=s.toks + 1 }) (PySem.W.looks_clsIn X hc) ?_))))))
 rw [hd']
 refine wpAny_pure (a:=some dx) (wpAny_bind (wpAny_pure (wpAny_bind ?_)))
 refine wpAny_nsSet1 (s:={ s with toks:=s.toks + 1 }) I.ns fun h' hn2 hs2=>?_
 obtain ⟨oD,esD,epD,hoD,hdD,hcD⟩:=hn2.count (PySem.Within.cons name v hw)
 refine wpAny_bind (wpAny_lookBehind hoD (by rw [hdD]; exact pastItsLine_dict (Nat.le_trans hcD (by rw [List.length_cons]; omega))) ?_)
 exact wpAny_pure (h _ ⟨(hs2.2 _ (Ne.symm I.ne)).trans I.obj,hn2,I.ne⟩ hs2)
theorem make_map {R:Result→Shared→Prop} {vs:List Value} {kw:List (Str × Value)} (X:K.In s.heap) (hm:PySem.W.makesIn K C = true)
   (hi:PySem.W.findIn K (.ref C) "__init__" = some (some (.ref f))) (hf:PySem.W.typeIn K (.ref f) = some (.type "function"))
   (h:codeAny (model prog w) (A.under (.builtin "type.__call__" ⟨.ref C :: vs,kw⟩)) (.call (.ref f) ⟨.ref (s.heap.objs.size + 1) :: vs,kw⟩) (PySem.W.InitBack (s.heap.objs.size + 1) R)
     { s with heap:=(s.heap.push PySem.W.emptyDict).push (PySem.W.instObj C s.heap.objs.size) }) :
   codeAny (model prog w) A (.call (.ref C) ⟨vs,kw⟩) R s:=by
 obtain ⟨hh,g,d,t,os⟩:=s
 exact PySem.W.make_core (PySem.W.makes_of X hm) (PySem.W.looks_findIn X hi) (fun self=>PySem.W.bind_fn X self hf) (.inl rfl) h
end
def pq (f:Str) (v:V):List (Str × V)→List (Str × V)
 | []=>[(f,v)]
 | (g,x) :: r=>if g = f then (g,v) :: r else (g,x) :: pq f v r
theorem Oa (f g:Str) (v:V):∀ fs:List (Str × V),(pq f v fs).lookup g = if g = f then some v else fs.lookup g
 | []=>by
   show List.lookup g [(f,v)] = _
   by_cases h:g = f
   · have hb:(g == f) = true:=beq_iff_eq.mpr h
     simp only [List.lookup,hb,if_pos h]
   · have hb:(g == f) = false:=beq_eq_false_iff_ne.mpr h
     simp only [List.lookup,hb,if_neg h]
 | (k,x) :: r=>by
   have ih:=Oa f g v r
   rw [show pq f v ((k,x) :: r) = (if k = f then (k,v) :: r else (k,x) :: pq f v r) from rfl]
   by_cases hk:k = f
   · rw [if_pos hk]
     by_cases h:g = k
     · have hb:(g == k) = true:=beq_iff_eq.mpr h
       simp only [List.lookup,hb,if_pos (h.trans hk)]
     · have hb:(g == k) = false:=beq_eq_false_iff_ne.mpr h
       simp only [List.lookup,hb,if_neg (fun e:g = f=>h (e.trans hk.symm))]
   · rw [if_neg hk]
     by_cases h:g = k
     · have hb:(g == k) = true:=beq_iff_eq.mpr h
       simp only [List.lookup,hb,if_neg (fun e:g = f=>hk (h.symm.trans e))]
     · have hb:(g == k) = false:=beq_eq_false_iff_ne.mpr h
       simp only [List.lookup,hb]
       exact ih
theorem Lw (f:Str) (v:V):∀ fs:List (Str × V),f ∈ (pq f v fs).map (·.1)∧∀ g,g ∈ fs.map (·.1)→g ∈ (pq f v fs).map (·.1)
 | []=>⟨by simp [pq],fun g h=>by simp at h⟩
 | (k,x) :: r=>by
   obtain ⟨i1,i2⟩:=Lw f v r
   rw [show pq f v ((k,x) :: r) = (if k = f then (k,v) :: r else (k,x) :: pq f v r) from rfl]
   by_cases hk:k = f
   · rw [if_pos hk]
     subst hk
     exact ⟨by simp,fun g h=>by simpa using h⟩
   · rw [if_neg hk]
     refine ⟨?_,fun g h=>?_⟩
     · rw [List.map_cons]
       exact List.mem_cons_of_mem _ i1
     · rw [List.map_cons] at h ⊢
       rcases List.mem_cons.mp h with e | e
       · exact List.mem_cons.mpr (.inl e)
       · exact List.mem_cons_of_mem _ (i2 g e)
theorem N8 (f:Str) (v:V):∀ fs:List (Str × V),(pq f v fs).length ≤ fs.length + 1
 | []=>by simp [pq]
 | (k,x) :: r=>by
   have ih:=N8 f v r
   rw [show pq f v ((k,x) :: r) = (if k = f then (k,v) :: r else (k,x) :: pq f v r) from rfl]
   by_cases hk:k = f
   · rw [if_pos hk,List.length_cons,List.length_cons]; omega
   · rw [if_neg hk,List.length_cons,List.length_cons]; omega
theorem Bb.some_of {v:V} {o:Option Value} (r:Bb (some v) o):∃ u,o = some u∧RelV v u:=by
 cases o with
 | none=>exact (show False from r).elim
 | some u=>exact ⟨u,rfl,r⟩
theorem Bb.none_of {o:Option Value} (r:Bb none o):o = none:=by
 cases o with
 | none=>rfl
 | some u=>exact (show False from r).elim
theorem akc {v:V} {u:Value} (r:RelV v u):PySem.W.handedIn u = true:=by
 cases v with
 | non=>cases (show u = Value.none from r); rfl
 | bl b=>cases (show u = Value.bool b from r); rfl
 | int i=>obtain ⟨t,e⟩:=(show ∃ t,u = Value.int i t from r); cases e; rfl
 | str x=>obtain ⟨t,e⟩:=(show ∃ t,u = Value.str x t from r); cases e; rfl
 | byt b=>obtain ⟨t,e⟩:=(show ∃ t,u = Value.bytes b t from r); cases e; rfl
 | flt b=>obtain ⟨t,e⟩:=(show ∃ t,u = Value.float b t from r); cases e; rfl
 | ref a=>cases (show u = Value.ref a from r); rfl
 | ty n=>cases (show u = Value.type n from r); rfl
section
variable {P:Program} {w:World} {H H':Hp} {h h':Heap} {a C dx:Addr} {fs fs':List (Str × V)}
theorem Qo (hok:HOk P w H h) (e:H a = some (.ins C dx fs)):∃ mA,ObjM h a dx C mA∧(∀ f,Bb (fs.lookup f) (mA f))∧PySem.Within mA (fs.map (·.1))∧fs.length ≤ 1000∧H dx = some (.own a):=by
 obtain ⟨d,z,ne,ob,mA,n,r,q⟩:=(show gU P w H h a (.ins C dx fs) from hok a _ e)
 exact ⟨mA,⟨ob,n,ne⟩,r,q,z,d⟩
end
structure Cls (K:PySem.W.Frag) (C:Addr):Prop where
 pg:PySem.W.plainGet K C Str.empty = true
 hd:PySem.W.hasDictIn K C = true
 po:PySem.W.plainOver K C = true
 sa:PySem.W.findIn K (.ref C) "__setattr__" = some (some (.builtin "object.__setattr__"))
theorem Cls.get {K:PySem.W.Frag} {C:Addr} (c:Cls K C) (f:Str):PySem.W.plainGet K C f = true:=c.pg
def d7 (K:PySem.W.Frag) (C:Addr) (f:Str):Prop:=PySem.W.findIn K (.ref C) f = some none
theorem d7.taker {K:PySem.W.Frag} {C:Addr} {f:Str} (n:d7 K C f):PySem.W.takerIn K C f = some none:=by
 unfold PySem.W.takerIn
 rw [show PySem.W.findIn K (.ref C) f = some none from n]
 rfl
structure Con (K:PySem.W.Frag) (C:Addr) (f:Str) (v:V) (u:Value):Prop where
 at_:PySem.W.findIn K (.ref C) f = some (some u)
 rel:RelV v u
 get:PySem.W.specialIn K u "__get__" = some none
 cp:PySem.W.copiedNames.contains f = false
structure Meth (K:PySem.W.Frag) (C:Addr) (m:Str) (f:Addr):Prop where
 at_:PySem.W.findIn K (.ref C) m = some (some (.ref f))
 fn:PySem.W.isFn K (.ref f) = true
 kp:PySem.W.keepIn K (.ref f) = true
section
variable {X:Cx} {pins:List (Addr × Obj)} {σ:St} {H:Hp} {s:Shared} {a C dx:Addr} {fs:List (Str × V)} {f:Str} {v:V} {A:Around} {E:Value→Shared→Prop}
theorem ah0 {b:Bool} {Q:Value→Shared→Prop} (I:Inv X pins σ H s) (e:H a = some (.ins C dx fs)) (c:Cls X.K C) (n:d7 X.K C f) (l:fs.lookup f = some v)
   (h:∀ u s',Inv X pins σ H s'→RelV v u→Q u s'):wpAny (model X.prog X.w) A (getAttr (.ref a) f b) Q E s:=by
 obtain ⟨mA,O,r,_,_,_⟩:=Qo I.hok e
 obtain ⟨u,hu,ru⟩:=Bb.some_of (v:=v) (o:=mA f) (by rw [← l]; exact r f)
 exact get_map I.kIn O (c.get f) c.hd n hu (akc ru) (h u _ (I.tok _) ru)
theorem Ss {m:Str} {g:Addr} {pl:Sem Bool} {Q:Value × List Value→Shared→Prop} (I:Inv X pins σ H s) (e:H a = some (.ins C dx fs)) (c:Cls X.K C) (k:Meth X.K C m g) (l:fs.lookup m = none)
   (h:Q (.ref g,[.ref a]) s):wpAny (model X.prog X.w) A (getMethod (.ref a) m pl) Q E s:=by
 obtain ⟨mA,O,r,_,_,_⟩:=Qo I.hok e
 have hn:mA m = none:=Bb.none_of (by rw [← l]; exact r m)
 exact get_meth I.kIn O (c.get m) k.at_ k.fn hn h
theorem aiW {y:V} {u:Value} {Q:Unit→Shared→Prop} (I:Inv X pins σ H s) (e:H a = some (.ins C dx fs)) (c:Cls X.K C) (n:d7 X.K C f) (hl:fs.length < 1000) (ry:RelV y u)
   (h:∀ s',Inv X pins σ (upd H a (.ins C dx (pq f y fs))) s'→Q () s'):wpAny (model X.prog X.w) A (setAttr (.ref a) f u) Q E s:=by
 obtain ⟨mA,O,r,wi,_,ho⟩:=Qo I.hok e
 have hz:(fs.map (·.1)).length ≤ sizeLine:=by rw [List.length_map,sizeLine_eq]; omega
 refine set_map I.kIn O c.sa c.po n.taker c.hd wi hz fun h' O' sb=>h _ ?_
 have hd:∃ o,h'.get? dx = some o:=let ⟨o,_,_,e',_⟩:=O'.ns; ⟨o,e'⟩
 refine I.write (x:=a) (e:=dx) (by rw [e]; exact True.intro) (.inr ho) (fun b q hb z=>(sb.2 b hb).trans z) hd ?_
 refine ⟨by rw [aN O.ne]; exact ho,?_,O.ne,O'.obj,_,O'.ns,fun g=>?_,fun g hg=>?_⟩
 · have:=N8 f y fs; omega
 · show Bb ((pq f y fs).lookup g) (if g = f then some u else mA g)
   rw [Oa]
   by_cases q:g = f
   · rw [if_pos q,if_pos q]; exact ry
   · rw [if_neg q,if_neg q]; exact r g
 · by_cases q:g = f
   · rw [q]; exact (Lw f y fs).1
   · refine (Lw f y fs).2 g (wi g fun z=>hg ?_)
     show (if g = f then some u else mA g) = none
     rw [if_neg q]; exact z
theorem Inv.made (I:Inv X pins σ H s):Inv X pins σ (upd (upd H s.heap.objs.size (.own (s.heap.objs.size + 1))) (s.heap.objs.size + 1) (.ins C s.heap.objs.size []))
   { s with heap:=(s.heap.push PySem.W.emptyDict).push (PySem.W.instObj C s.heap.objs.size) }:=by
 have e1:(s.heap.push PySem.W.emptyDict).get? s.heap.objs.size = some PySem.W.emptyDict:=Heap.get?_push_size s.heap rfl
 have e2:((s.heap.push PySem.W.emptyDict).push (PySem.W.instObj C s.heap.objs.size)).get? (s.heap.objs.size + 1) = some (PySem.W.instObj C s.heap.objs.size):=by
   have:=Heap.get?_push_size (s.heap.push PySem.W.emptyDict) (o:=PySem.W.instObj C s.heap.objs.size) rfl
   rwa [Heap.size_push] at this
 have e3:(s.heap.push PySem.W.emptyDict).Ns s.heap.objs.size (fun _=>none):=⟨PySem.W.emptyDict,#[],_,e1,rfl,(fun e he=>absurd he (by simp)),fun _=>rfl⟩
 have I1:=I.laid (a:=s.heap.objs.size) (o:=.own (s.heap.objs.size + 1)) (h':=s.heap.push PySem.W.emptyDict) (t':=s.toks) (fun b u q=>Heap.get?_push_of_some _ q) (Nat.le_refl _) ⟨_,e1⟩
 refine I1.laid (a:=s.heap.objs.size + 1) (o:=.ins C s.heap.objs.size []) (t':=s.toks) (fun b u q=>Heap.get?_push_of_some _ q) (Nat.le_of_eq (Heap.size_push _ _)) ?_
 have ne:s.heap.objs.size ≠ s.heap.objs.size + 1:=Nat.ne_of_lt (Nat.lt_succ_self _)
 refine ⟨by rw [aN ne,aW],Nat.zero_le _,ne,e2,fun _=>none,(Heap.Ns1.of_empty e3).at fun o q=>Heap.get?_push_of_some _ q,fun _=>True.intro,fun y hy=>absurd rfl hy⟩
theorem attr_of {prog:Program} {w:World} {env:Env} {e:Expr} {f:Str} {pos:Pos} {s:Shared} {Q:Value→Shared→Prop} (hb:attributeBase e f env (eval e env) = eval e env)
   (h:wpAny (model prog w) A (eval e env) (fun o s₁=>wpAny (model prog w) A (getAttr o f true) Q E s₁) E s):wpAny (model prog w) A (eval (.Attribute e f pos) env) Q E s :=
 Attribute_any_ h (by rw [arm_eval_Attribute,hb])
end
def tFld (K:PySem.W.Frag) (ta:TE) (f:Str):TE:=fun σ H Q=>ta σ H fun x H1=>∃ a C dx fs v,x = .ref a∧H1 a = some (.ins C dx fs)∧Cls K C∧d7 K C f∧fs.lookup f = some v∧Q v H1
def sFld (K:PySem.W.Frag) (ta tv:TE) (f:Str):TS:=fun D σ H=>tv σ H fun y H1=>ta σ H1 fun x H2=>∃ a C dx fs,x = .ref a∧H2 a = some (.ins C dx fs)∧Cls K C∧d7 K C f∧fs.length < 1000 ∧
 D.nx σ (upd H2 a (.ins C dx (pq f y fs)))
section
variable {X:Cx} {o e value:Expr} {f:Str} {pos pos' tpos:Pos} {ta tv:TE}
theorem pe_fld (he:PE X e ta) (hb:attributeBase e f X.env (eval e X.env) = eval e X.env):PE X (.Attribute e f pos) (tFld X.K ta f):=by
 intro pins s σ H Q I h
 refine attr_of hb (thn (he pins s σ H _ I h) fun u s1 ⟨x,H1,I1,rx,a,C,dx,fs,v,ex,ea,c,n,l,q⟩=>?_)
 subst ex
 obtain rfl:u = Value.ref a:=rx
 exact ah0 I1 ea c n l fun u' s2 I2 ru=>⟨v,H1,I2,ru,q⟩
theorem aiL (ha:PE X o ta) (hv:PE X value tv) (hs:swapsWith value (some (.Attribute o f pos')) pos.line X.env = pure false):PS X (.Assign [.Attribute o f pos'] value pos) (sFld X.K ta tv f):=by
 intro pins s σ H D I h
 refine plainObj_wpAny_Assign_Attribute (thn (hv pins s σ H _ I h) fun u s1 ⟨y,H1,I1,ry,q⟩=>thn (ha pins s1 σ H1 _ I1 q) fun ov s2 ⟨x,H2,I2,rx,a,C,dx,fs,ex,ea,c,n,l,q2⟩=>?_) hs
 subst ex
 obtain rfl:ov = Value.ref a:=rx
 exact aiW I2 ea c n l ry fun s3 I3=>⟨σ,_,I3,q2⟩
end
section
variable {X:Cx} {pins:List (Addr × Obj)} {σ:St} {H:Hp} {s:Shared} {A:Around} {E:Value→Shared→Prop} {Q:Value→Shared→Prop} {c:Value} {b:Bool}
inductive KQ (K:PySem.W.Frag) (H:Hp):V→Value→Prop where
 | non:KQ K H .non (.type "NoneType")
 | bl (x:Bool):KQ K H (.bl x) (.type "bool")
 | int (i:Int):KQ K H (.int i) (.type "int")
 | str (x:Str):KQ K H (.str x) (.type "str")
 | flt (x:UInt64):KQ K H (.flt x) (.type "float")
 | lst {a:Addr} {xs:List V} (e:H a = some (.lst xs)):KQ K H (.ref a) (.type "list")
 | frz {a:Addr} {o:Obj} {xs:List V} (e:H a = some (.frz o (.lst xs))):KQ K H (.ref a) (.type "list")
 | tup {a:Addr} {xs:List V} (e:H a = some (.tup xs)):KQ K H (.ref a) (.type "tuple")
 | dK {a:Addr} {kvs:List (Key × V)} (e:H a = some (.dK kvs)):KQ K H (.ref a) (.type "dict")
 | dT {a:Addr} {kvs:List (List Key × V)} (e:H a = some (.dT kvs)):KQ K H (.ref a) (.type "dict")
 | ins {a C dx:Addr} {fs:List (Str × V)} (e:H a = some (.ins C dx fs)) (cl:Cls K C) (ha:PySem.W.findIn K (.ref C) "__class__" = some (some (.builtin "object.__class__")))
     (hn:PySem.W.specialIn K (.builtin "object.__class__") "__get__" = some (some (.builtin "getset_descriptor.__get__"))) (htk:PySem.W.takesIn K (.builtin "object.__class__") = some true)
     (hm:PySem.W.mroIn K C (.type "object") = some true):KQ K H (.ref a) (.ref C)
theorem akj {x:V} {u t:Value} (I:Inv X pins σ H s) (rx:RelV x u) (ty:KQ X.K H x t) (e:PySem.W.kitOne X.K t c = some b) (h:∀ tk,Q (.bool b) { s with toks:=tk }) :
   wpAny (model X.prog X.w) A (call (.builtin "isinstance") [u,c]) Q E s:=by
 cases ty with
 | non=>cases (show u = Value.none from rx); exact PySem.W.kia_one PySem.W.kitx_none I.kIn True.intro e (fun z=>nomatch z) h
 | bl y=>cases (show u = Value.bool y from rx); exact PySem.W.kia_one PySem.W.kitx_bool I.kIn True.intro e (fun z=>nomatch z) h
 | int i=>obtain ⟨t,q⟩:=(show ∃ t,u = Value.int i t from rx); cases q; exact PySem.W.kia_one PySem.W.kitx_int I.kIn True.intro e (fun z=>nomatch z) h
 | str y=>obtain ⟨t,q⟩:=(show ∃ t,u = Value.str y t from rx); cases q; exact PySem.W.kia_one PySem.W.kitx_str I.kIn True.intro e (fun z=>nomatch z) h
 | flt y=>obtain ⟨t,q⟩:=(show ∃ t,u = Value.float y t from rx); cases q; exact PySem.W.kia_one PySem.W.kitx_float I.kIn True.intro e (fun z=>nomatch z) h
 | @lst a xs ea =>
   cases (show u = Value.ref a from rx)
   obtain ⟨_,_,n,_,h1⟩:=(show gU X.prog X.w H s.heap a (.lst xs) from I.hok a _ ea)
   exact PySem.W.kia_one PySem.W.kitx_list I.kIn ⟨_,h1,rfl⟩ e (fun z=>nomatch z) h
 | @frz a ob xs ea =>
   cases (show u = Value.ref a from rx)
   obtain ⟨_,_,_,n,_,h1⟩:=(show gU X.prog X.w H s.heap a (.frz ob (.lst xs)) from I.hok a _ ea)
   exact PySem.W.kia_one PySem.W.kitx_list I.kIn ⟨_,h1,rfl⟩ e (fun z=>nomatch z) h
 | @tup a xs ea =>
   cases (show u = Value.ref a from rx)
   obtain ⟨_,_,_,p⟩:=(show gU X.prog X.w H s.heap a (.tup xs) from I.hok a _ ea)
   obtain ⟨o,h1,h2,_⟩:=p
   exact PySem.W.kia_one PySem.W.kitx_tuple I.kIn ⟨o,h1,h2⟩ e (fun z=>nomatch z) h
 | @dK a kvs ea =>
   cases (show u = Value.ref a from rx)
   obtain ⟨_,_,vs,_,p⟩:=(show gU X.prog X.w H s.heap a (.dK kvs) from I.hok a _ ea)
   obtain ⟨o,es,ep,h1,h2,_⟩:=p
   exact PySem.W.kia_one PySem.W.kitx_dict I.kIn ⟨o,h1,h2.1⟩ e (fun z=>nomatch z) h
 | @dT a kvs ea =>
   cases (show u = Value.ref a from rx)
   obtain ⟨_,_,xs,_,o,es,ep,h1,h2,_⟩:=(show gU X.prog X.w H s.heap a (.dT kvs) from I.hok a _ ea)
   exact PySem.W.kia_one PySem.W.kitx_dict I.kIn ⟨o,h1,h2.1⟩ e (fun z=>nomatch z) h
 | @ins a C dx fs ea cl ha hn htk hm =>
   cases (show u = Value.ref a from rx)
   obtain ⟨mA,O,_⟩:=Qo I.hok ea
   obtain ⟨od,J,_⟩:=O.look
   exact PySem.W.kia_one (PySem.W.kitx_own (cl.get _) cl.hd ha hn htk hm) I.kIn J e (fun z=>nomatch z) h
end
end L2
namespace L2
open PySem PySem.Spec PyProof.Rows
structure iW (k:Nat) (A:Around):Prop where
 hd:A.handled = none
 dp:A.depth + 3 * k + 5 < recursionLimit
 un:A.units + 16 * k + 200 < cLine
theorem iW.mono {j k:Nat} {A:Around} (r:iW k A) (h:j ≤ k):iW j A:=⟨r.hd,by have:=r.dp; omega,by have:=r.un; omega⟩
theorem iW.deeper {k:Nat} {A:Around} (r:iW (k + 1) A) (env:Env):iW k (A.deeper env) :=
 ⟨r.hd,by have:=r.dp; show A.depth + 1 + 3 * k + 5 < _; omega,by have:=r.un; show A.units + 3 + 16 * k + 200 < _; omega⟩
theorem iW.in1 {k:Nat} {A:Around} (r:iW (k + 1) A):iW k A.in1 :=
 ⟨r.hd,by have:=r.dp; show A.depth + 3 * k + 5 < _; omega,by have:=r.un; show A.units + 1 + 16 * k + 200 < _; omega⟩
theorem aig {A:Around} {C:Addr} {us:List Value} {kw:List (Str × Value)}:(A.under (.builtin "type.__call__" ⟨.ref C :: us,kw⟩)).depth = A.depth + 1:=by
 first | rfl | simp [Around.under,Code.weight,Code.isCreation,Code.isGuard,Code.isCaller,Code.frames,Code.isFrame,guardIds]
theorem aih {A:Around} {C:Addr} {us:List Value} {kw:List (Str × Value)}:(A.under (.builtin "type.__call__" ⟨.ref C :: us,kw⟩)).units = A.units + 1:=by
 first | rfl | simp [Around.under,Code.cUnits,Code.frames,Code.isFrame]
theorem iW.make {k:Nat} {A:Around} (r:iW (k + 1) A) (C:Addr) (us:List Value) (kw:List (Str × Value)):iW k (A.under (.builtin "type.__call__" ⟨.ref C :: us,kw⟩)) :=
 ⟨r.hd,by have:=r.dp; rw [aig]; omega,by have:=r.un; rw [aih]; omega⟩
theorem iW.depth {k:Nat} {A:Around} (r:iW k A):A.depth < recursionLimit:=by have:=r.dp; omega
theorem iW.units {k:Nat} {A:Around} (r:iW k A):A.units + 64 < cLine:=by have:=r.un; omega
def Kl:TA:=fun _ H Q=>Q [] H
def Aj (ta:TE) (tr:TA):TA:=fun σ H Q=>ta σ H fun x H1=>tr σ H1 fun xs H2=>Q (x :: xs) H2
section
variable {X:Cx} {e:Expr} {es:List Expr} {te:TE} {t:TA} {pos:Pos}
theorem dU:PA X [] Kl:=fun _ _ _ _ H Q I h=>Calls.spliced_nil ⟨[],H,I,.nil,h⟩
theorem bW (ha:PE X e te) (hr:PA X es t) (hs:starEach (e :: es) X.env = (false,eval e X.env) :: starEach es X.env:=by rfl):PA X (e :: es) (Aj te t):=by
 intro pos pins s σ H Q I h
 rw [hs]
 show wpAny _ _ (spliced ((false,eval e X.env) :: backTo pos (starEach es X.env))) _ _ s
 refine Calls.spliced_cons (thn (ha pins s σ H _ I h) fun u s1 ⟨x,H1,I1,r1,q1⟩=>?_)
 exact thn (hr pos pins s1 σ H1 _ I1 q1) fun us s2 ⟨xs,H2,I2,r2,q2⟩=>⟨x :: xs,H2,I2,.cons r1 r2,q2⟩
def tTup (t:TA):TE:=fun σ H Q=>t σ H fun xs H1=>xs.length ≤ sizeLine∧∀ p,H1 p = none→Q (.ref p) (upd H1 p (.tup xs))
def tLst (t:TA):TE:=fun σ H Q=>t σ H fun xs H1=>xs.length ≤ sizeLine∧∀ p,H1 p = none→Q (.ref p) (upd H1 p (.lst xs))
theorem pe_tup {x1} (h:PA X es t):PE X (.Tuple es x1 pos) (tTup t):=by
 intro pins s σ H Q I hq
 refine wpAny_Tuple_spliced (thn (h pos pins s σ H _ I hq) fun us s1 ⟨xs,H1,I1,r,z,q⟩=>⟨by rw [← r.length]; exact z,?_⟩)
 have hf:H1 s1.heap.objs.size = none:=I1.hok.fresh (Nat.le_refl _)
 refine ⟨.ref s1.heap.objs.size,upd H1 s1.heap.objs.size (.tup xs),I1.laid (t':=s1.toks) (fun b u e=>Heap.get?_push_of_some _ e) (Nat.le_refl _) ?_,rfl,q _ hf⟩
 exact ⟨z,us,r,⟨_,Heap.get?_push_size _ rfl,rfl,_,rfl⟩⟩
theorem pe_lst (h:PA X es t):PE X (.List es pos) (tLst t):=by
 intro pins s σ H Q I hq
 refine wpAny_List_spliced (thn (h pos pins s σ H _ I hq) fun us s1 ⟨xs,H1,I1,r,z,q⟩=>⟨by rw [← r.length]; exact z,?_⟩)
 have hf:H1 s1.heap.objs.size = none:=I1.hok.fresh (Nat.le_refl _)
 refine ⟨.ref s1.heap.objs.size,upd H1 s1.heap.objs.size (.lst xs),I1.laid (t':=s1.toks) (fun b u e=>Heap.get?_push_of_some _ e) (Nat.le_refl _) ?_,rfl,q _ hf⟩
 exact ⟨z,us,0,r,Heap.get?_push_size _ rfl⟩
end
abbrev Sp:=List V→Hp→VK→XK→Prop
abbrev CXT:=List Env→Hp→Shared→XK→Value→Shared→Prop
structure Env0 (P:Program) (w:World) (K:PySem.W.Frag) (mg:Str→Option Value) (base:Heap) (A:Around) (outer:List Env) (s:Shared) (H:Hp):Prop where
 frames:A.frames = some outer
 mod:Mod K mg base
 bs:∀ b o,base.get? b = some o→s.heap.get? b = some o∧H b = none
 bsz:base.objs.size ≤ s.heap.objs.size
 Et:s.heap.FunFrames base outer
 frf:∀ b ∈ frs outer,H b = none
 hok:HOk P w H s.heap
 bare:AllBare s.gens
def CE (outer:List Env) (P:Program) (w:World) (H:Hp) (s:Shared) (Q:VK) (u:Value) (s':Shared):Prop :=
 ∃ v H',s'.os = s.os∧AllBare s'.gens∧Un (frs outer) [] H H' s.heap s'.heap∧HOk P w H' s'.heap∧RelV v u∧Q v H'
def CR (CX:CXT) (outer:List Env) (P:Program) (w:World) (H:Hp) (s:Shared) (Q:VK) (E:XK) (r:Result) (s':Shared):Prop :=
 match r with
 | .ok (.ret u)=>CE outer P w H s Q u s'
 | .ok _=>False
 | .error e=>CX outer H s E e s'
structure bx (P:Program) (w:World) (K:PySem.W.Frag) (mg:Str→Option Value) (base:Heap) (CX:CXT) (k:Nat) (f:Addr) (fd:FuncData) (ps:List Str) (sp:Sp):Prop where
 len:∀ vs H Q E,sp vs H Q E→vs.length = ps.length
 run:∀ (A:Around) (outer:List Env) (s:Shared) (H:Hp) (args:Args) (us:List Value) (vs:List V) (Q:VK) (E:XK),iW k A→Env0 P w K mg base A outer s H→BindsTo s fd args (ps.zip us)→Vals vs us→sp vs H Q E →
   codeAny (model P w) A (.call (.ref f) args) (CR CX outer P w H s Q E) s
theorem bx.mono {P:Program} {w:World} {K:PySem.W.Frag} {mg:Str→Option Value} {base:Heap} {CX:CXT} {j k:Nat} {f:Addr} {fd:FuncData} {ps:List Str} {sp:Sp} (F:bx P w K mg base CX j f fd ps sp) (h:j ≤ k) :
   bx P w K mg base CX k f fd ps sp:=⟨F.len,fun A outer s H args us vs Q E hr=>F.run A outer s H args us vs Q E (hr.mono h)⟩
theorem bx.imp {P:Program} {w:World} {K:PySem.W.Frag} {mg:Str→Option Value} {base:Heap} {CX:CXT} {k:Nat} {f:Addr} {fd:FuncData} {ps:List Str} {sp sp':Sp} (F:bx P w K mg base CX k f fd ps sp)
   (h:∀ vs H Q E,sp' vs H Q E→sp vs H Q E):bx P w K mg base CX k f fd ps sp' :=
 ⟨fun vs H Q E q=>F.len vs H Q E (h _ _ _ _ q),fun A outer s H args us vs Q E hr he hb hv hs=>F.run A outer s H args us vs Q E hr he hb hv (h _ _ _ _ hs)⟩
theorem Env0.make {P:Program} {w:World} {K:PySem.W.Frag} {mg:Str→Option Value} {base:Heap} {A:Around} {outer:List Env} {s:Shared} {H:Hp} (e:Env0 P w K mg base A outer s H) (C:Addr) (us:List Value) (kw:List (Str × Value)) :
   Env0 P w K mg base (A.under (.builtin "type.__call__" ⟨.ref C :: us,kw⟩)) outer s H:=⟨by first | exact e.frames | (simpa [Around.under,Code.envs,Code.isFrame,pushEnvs] using e.frames),e.mod,e.bs,e.bsz,e.Et,e.frf,e.hok,e.bare⟩
theorem Env0.in1 {P:Program} {w:World} {K:PySem.W.Frag} {mg:Str→Option Value} {base:Heap} {A:Around} {outer:List Env} {s:Shared} {H:Hp} (e:Env0 P w K mg base A outer s H) :
   Env0 P w K mg base A.in1 outer s H:=⟨e.frames,e.mod,e.bs,e.bsz,e.Et,e.frf,e.hok,e.bare⟩
section
variable {X:Cx} {pins:List (Addr × Obj)} {σ:St} {H:Hp} {s s':Shared}
theorem Inv.env0 (I:Inv X pins σ H s):Env0 X.prog X.w X.K X.mg X.base X.A X.stack s H :=
 ⟨I.ok.frames,I.ok.mod,I.bs,Nat.le_trans I.ok.bsz I.sz,I.stack,I.adS,I.hok,I.bare⟩
theorem Inv.after {Q:VK} {u:Value} (I:Inv X pins σ H s) (h:CE X.stack X.prog X.w H s Q u s'):EP X pins σ Q u s':=by
 obtain ⟨v,H',os,bare,un,hok,r,q⟩:=h
 obtain ⟨hh,g,d,t,os'⟩:=s'
 obtain rfl:os' = s.os:=os
 exact ⟨v,H',I.call (h':=hh) (g':=g) (d':=d) (t':=t) (ch:=[]) un hok bare (fun b z=>absurd z (by simp)),r,q⟩
end
def Zf (sp:Sp) (dvs:List V) (E:XK) (t:TA):TE:=fun σ H Q=>t σ H fun vs H1=>sp (vs ++ dvs) H1 Q E
def tMeth (C:Addr) (m:Str) (sp:Sp) (dvs:List V) (E:XK) (ta:TE) (t:TA):TE:=fun σ H Q=>ta σ H fun x H1=>∃ a dx fs,x = .ref a∧H1 a = some (.ins C dx fs)∧fs.lookup m = none ∧
 t σ H1 fun vs H2=>sp (x :: (vs ++ dvs)) H2 Q E
def tMake (C:Addr) (sp:Sp) (dvs:List V) (E:XK) (t:TA):TE:=fun σ H Q=>t σ H fun vs H1=>∀ x dx,H1 x = none→H1 dx = none→dx ≠ x →
 sp (.ref x :: (vs ++ dvs)) (upd (upd H1 dx (.own x)) x (.ins C dx [])) (fun v H2=>v = .non∧Q (.ref x) H2) E
def Binds (K:PySem.W.Frag) (fd:FuncData) (ps:List Str) (ds:List Value):Prop :=
 ∀ (s:Shared) (us:List Value),K.In s.heap→(us ++ ds).length = ps.length→BindsTo s fd ⟨us,[]⟩ (ps.zip (us ++ ds))
theorem Binds.all {K:PySem.W.Frag} {fd:FuncData} {ps:List Str} (h:∀ us:List Value,us.length = ps.length→bindArgs fd ⟨us,[]⟩ = pure (ps.zip us)):Binds K fd ps []:=fun s us _ hl=>by
 rw [List.append_nil] at hl ⊢
 exact .of_eq (h us hl)
def oh (CX:CXT) (X:Cx) (E:XK):Prop:=∀ (pins:List (Addr × Obj)) (σ:St) (H:Hp) (s:Shared) (e:Value) (s':Shared),Inv X pins σ H s→CX X.stack H s E e s'→X.xe e s'
section
variable {X:Cx} {CX:CXT} {k:Nat} {f C:Addr} {fd:FuncData} {ps:List Str} {sp:Sp} {dvs:List V} {ds:List Value} {E:XK} {x m:Str} {p pos apos:Pos} {e o:Expr} {es:List Expr} {ta:TE} {t:TA}
theorem adg {pins:List (Addr × Obj)} {σ:St} {H:Hp} {s:Shared} {Q:VK} {us:List Value} {vs:List V} (F:bx X.prog X.w X.K X.mg X.base CX k f fd ps sp) (hr:iW k X.A) (hb:Binds X.K fd ps ds) (hd:Vals dvs ds) (hx:oh CX X E)
   (I:Inv X pins σ H s) (r:Vals vs us) (h:sp (vs ++ dvs) H Q E):wpAny (model X.prog X.w) X.A (call (.ref f) us) (EP X pins σ Q) X.xe s:=by
 have r2:Vals (vs ++ dvs) (us ++ ds):=r.append hd
 have hl:(us ++ ds).length = ps.length:=by rw [← r2.length]; exact F.len _ _ _ _ h
 refine wpAny_call (codeAny_mono (F.run X.A X.stack s H ⟨us,[]⟩ (us ++ ds) (vs ++ dvs) Q E hr I.env0 (hb s us I.kIn hl) r2 h) fun r s' hq=>?_)
 cases r with
 | error e=>exact hx pins σ H s e s' I hq
 | ok fl =>
   cases fl with
   | ret u=>exact I.after hq
   | next=>exact False.elim hq
   | brk=>exact False.elim hq
   | cont=>exact False.elim hq
theorem aP (F:bx X.prog X.w X.K X.mg X.base CX k f fd ps sp) (hr:iW k X.A) (hg:Gl X x) (hm:X.mg x = some (.ref f)) (hk:PySem.W.keepIn X.K (.ref f) = true) (hb:Binds X.K fd ps ds) (hd:Vals dvs ds) (hx:oh CX X E)
   (ha:PA X (e :: es) t) (hdb:(x == ("__debug__":Str)) = false:=by decide) (he:starEach (e :: es) X.env = (false,eval e X.env) :: starEach es X.env:=by rfl) (hpl:(backTo pos (starEach es X.env)).any (·.1) = false:=by rfl) :
   PE X (.Call (.Name x p) (e :: es) [] pos) (Zf sp dvs E t):=by
 intro pins s σ H Q I h
 refine wpAny_Call_Name_kw (zP I hg hm ?_ hdb)
 refine PySem.W.callWith_K (h₀:=X.base) I.ok.mod.kin hk (thn (ha pos pins s σ H _ I h) fun us s1 ⟨vs,H1,I1,r,q⟩=>⟨I1.kIn,?_⟩) he hpl
 exact adg F hr hb hd hx I1 r q
theorem pe_meth0 {pl:Sem Bool} (he:PE X o ta) (c:Cls X.K C) (hm:Meth X.K C m f) (F:bx X.prog X.w X.K X.mg X.base CX k f fd ps sp) (hr:iW k X.A) (hb:Binds X.K fd ps ds) (hd:Vals dvs ds) (hx:oh CX X E)
   (ht:eval (.Call (.Attribute o m apos) [] [] pos) X.env = (do
     let ov ← eval o X.env
     standAt apos.atName
     let (f,first) ← holding [ov] (getMethod ov m pl)
     callWith pos f first (backTo pos (starEach [] X.env)) (backToKw pos (keywordEach [] X.env))):=by rfl) :
   PE X (.Call (.Attribute o m apos) [] [] pos) (tMeth C m sp dvs E ta Kl):=by
 intro pins s σ H Q I h
 refine PySem.W.methodCall_KW (pl:=pl) (thn (he pins s σ H _ I h) fun u s1 ⟨x,H1,I1,rx,a,dx,fs,ex,ea,l,q⟩=>?_) ht
 subst ex
 obtain rfl:u = Value.ref a:=rx
 refine Ss I1 ea c hm l ?_
 exact PySem.W.callWith_K0 (first:=[.ref a]) I1.kIn hm.kp (adg (us:=[.ref a]) (vs:=[.ref a]) F hr hb hd hx I1 (.cons rfl .nil) q)
structure Mk (K:PySem.W.Frag) (C f:Addr):Prop where
 makes:PySem.W.makesIn K C = true
 init:PySem.W.findIn K (.ref C) "__init__" = some (some (.ref f))
 fn:PySem.W.isFn K (.ref f) = true
 kp:PySem.W.keepIn K (.ref C) = true
theorem agm {pins:List (Addr × Obj)} {σ:St} {H:Hp} {s:Shared} {Q:VK} {us:List Value} {vs:List V} (M:Mk X.K C f) (F:bx X.prog X.w X.K X.mg X.base CX k f fd ps sp) (hr:iW (k + 1) X.A) (hb:Binds X.K fd ps ds) (hd:Vals dvs ds)
   (hx:oh CX X E) (I:Inv X pins σ H s) (r:Vals vs us)
   (h:∀ x dx,H x = none→H dx = none→dx ≠ x→sp (.ref x :: (vs ++ dvs)) (upd (upd H dx (.own x)) x (.ins C dx [])) (fun v H2=>v = .non∧Q (.ref x) H2) E) :
   wpAny (model X.prog X.w) X.A (call (.ref C) us) (EP X pins σ Q) X.xe s:=by
 have hq:=h (s.heap.objs.size + 1) s.heap.objs.size (I.hok.fresh (Nat.le_succ _)) (I.hok.fresh (Nat.le_refl _)) (Nat.ne_of_lt (Nat.lt_succ_self _))
 have I2:=Inv.made (C:=C) I
 have r2:Vals (V.ref (s.heap.objs.size + 1) :: (vs ++ dvs)) (Value.ref (s.heap.objs.size + 1) :: (us ++ ds)):=.cons rfl (r.append hd)
 have hl:(Value.ref (s.heap.objs.size + 1) :: us ++ ds).length = ps.length:=by
   have e:=r2.length
   rw [F.len _ _ _ _ hq] at e
   exact e.symm
 refine wpAny_call (make_map (f:=f) I.kIn M.makes M.init (beq_iff_eq.mp M.fn) (codeAny_mono (F.run _ X.stack _ _ ⟨Value.ref (s.heap.objs.size + 1) :: us,[]⟩ (Value.ref (s.heap.objs.size + 1) :: (us ++ ds)) _ _ E (hr.make C us [])
   (I2.env0.make C us []) (hb _ (Value.ref (s.heap.objs.size + 1) :: us) I2.kIn hl) r2 hq) fun r s' hq'=>?_))
 cases r with
 | error e=>exact hx pins σ _ _ e s' I2 hq'
 | ok fl =>
   cases fl with
   | ret u =>
     obtain ⟨v,H',I3,rv,ev,q3⟩:=I2.after hq'
     subst ev
     exact ⟨rv,⟨V.ref (s.heap.objs.size + 1),H',I3,rfl,q3⟩⟩
   | next=>exact False.elim hq'
   | brk=>exact False.elim hq'
   | cont=>exact False.elim hq'
theorem nF (M:Mk X.K C f) (F:bx X.prog X.w X.K X.mg X.base CX k f fd ps sp) (hr:iW (k + 1) X.A) (hg:Gl X x) (hm:X.mg x = some (.ref C)) (hb:Binds X.K fd ps ds) (hd:Vals dvs ds) (hx:oh CX X E)
   (ha:PA X (e :: es) t) (hdb:(x == ("__debug__":Str)) = false:=by decide) (he:starEach (e :: es) X.env = (false,eval e X.env) :: starEach es X.env:=by rfl) (hpl:(backTo pos (starEach es X.env)).any (·.1) = false:=by rfl) :
   PE X (.Call (.Name x p) (e :: es) [] pos) (tMake C sp dvs E t):=by
 intro pins s σ H Q I h
 refine wpAny_Call_Name_kw (zP I hg hm ?_ hdb)
 refine PySem.W.callWith_K (h₀:=X.base) I.ok.mod.kin M.kp (thn (ha pos pins s σ H _ I h) fun us s1 ⟨vs,H1,I1,r,q⟩=>⟨I1.kIn,?_⟩) he hpl
 exact agm M F hr hb hd hx I1 r q
theorem J7 (M:Mk X.K C f) (F:bx X.prog X.w X.K X.mg X.base CX k f fd ps sp) (hr:iW (k + 1) X.A) (hg:Gl X x) (hm:X.mg x = some (.ref C)) (hb:Binds X.K fd ps ds) (hd:Vals dvs ds) (hx:oh CX X E)
   (hdb:(x == ("__debug__":Str)) = false:=by decide):PE X (.Call (.Name x p) [] [] pos) (tMake C sp dvs E Kl):=by
 intro pins s σ H Q I h
 refine wpAny_Call_Name_kw (zP I hg hm ?_ hdb)
 exact PySem.W.callWith_K0 I.kIn M.kp (agm (us:=[]) M F hr hb hd hx I .nil h)
end
section
variable {X:Cx} {CX:CXT} {k:Nat} {f C:Addr} {fd:FuncData} {ps ks:List Str} {sp:Sp} {E:XK} {x m:Str} {p pos apos kpos:Pos} {e o:Expr} {es:List Expr} {kws:List Keyword} {te ta:TE} {t tk:TA} {nm:Option Str}
structure KBinds (K:PySem.W.Frag) (fd:FuncData) (ps ks:List Str) (g:List Value→List Value→List Value) (gV:List V→List V→List V):Prop where
 to:∀ (s:Shared) (us ws:List Value),K.In s.heap→(g us ws).length = ps.length→BindsTo s fd ⟨us,ks.zip ws⟩ (ps.zip (g us ws))
 rel:∀ {vs:List V} {us:List Value} {zs:List V} {ws:List Value},Vals vs us→Vals zs ws→Vals (gV vs zs) (g us ws)
variable {g:List Value→List Value→List Value} {gV:List V→List V→List V}
end
structure aM (N P:List Str) (sc:Scope):Prop where
 kind:sc.kind = .function
 co:sc.isCoroutine = false
 gen:sc.isGenerator = false
 nd:N.Nodup
 pre:N.take P.length = P
 par:∀ x ∈ P,sc.names.lookup x = some .local ∨ sc.names.lookup x = some .cell
 nofree:∀ y ∈ sc.names,y.2 ≠ .free
theorem YJ {kindOf:Str→Option NameKind} {x:Str}:∀ {binds:List (Str × Value)} {m:Str→Option Value},(∀ v,(x,v) ∉ binds)→bindL kindOf binds m x = m x
 | [],_,_=>rfl
 | (n,v) :: r,m,h=>by
   unfold bindL
   rw [YJ fun w hw=>h w (List.mem_cons_of_mem _ hw)]
   split
   · have:x ≠ n:=by rintro rfl; exact h v List.mem_cons_self
     simp [this]
   · rfl
theorem YG {kindOf:Str→Option NameKind} {x:Str}:∀ {binds:List (Str × Value)} {m:Str→Option Value},(∀ v,(x,v) ∉ binds)→bindC kindOf binds m x = m x
 | [],_,_=>rfl
 | (n,v) :: r,m,h=>by
   unfold bindC
   rw [YG fun w hw=>h w (List.mem_cons_of_mem _ hw)]
   split
   · rfl
   · have:x ≠ n:=by rintro rfl; exact h v List.mem_cons_self
     simp [this]
theorem YH {kindOf:Str→Option NameKind} {x:Str} {v:Value}:∀ {P:List Str} {vs:List Value} {i:Nat} {m:Str→Option Value},P.Nodup→P[i]? = some x→vs[i]? = some v→kindOf x = some .local →
   bindL kindOf (P.zip vs) m x = some v
 | [],_,_,_,_,h,_,_=>by simp at h
 | _ :: _,[],_,_,_,_,h,_=>by simp at h
 | p :: P,w :: vs,0,m,nd,h1,h2,hk=>by
   simp at h1 h2; subst h1; subst h2
   show bindL kindOf ((p,w) :: P.zip vs) m p = _
   unfold bindL
   rw [YJ fun v hv=>(List.nodup_cons.mp nd).1 (List.of_mem_zip hv).1,if_pos hk]
   simp
 | p :: P,w :: vs,i + 1,m,nd,h1,h2,hk=>by
   show bindL kindOf ((p,w) :: P.zip vs) m x = _
   unfold bindL
   exact YH (i:=i) (List.nodup_cons.mp nd).2 (by simpa using h1) (by simpa using h2) hk
theorem YF {kindOf:Str→Option NameKind} {x:Str} {v:Value}:∀ {P:List Str} {vs:List Value} {i:Nat} {m:Str→Option Value},P.Nodup→P[i]? = some x→vs[i]? = some v→kindOf x ≠ some .local →
   bindC kindOf (P.zip vs) m x = some v
 | [],_,_,_,_,h,_,_=>by simp at h
 | _ :: _,[],_,_,_,_,h,_=>by simp at h
 | p :: P,w :: vs,0,m,nd,h1,h2,hk=>by
   simp at h1 h2; subst h1; subst h2
   show bindC kindOf ((p,w) :: P.zip vs) m p = _
   unfold bindC
   rw [YG fun v hv=>(List.nodup_cons.mp nd).1 (List.of_mem_zip hv).1,if_neg hk]
   simp
 | p :: P,w :: vs,i + 1,m,nd,h1,h2,hk=>by
   show bindC kindOf ((p,w) :: P.zip vs) m x = _
   unfold bindC
   exact YF (i:=i) (List.nodup_cons.mp nd).2 (by simpa using h1) (by simpa using h2) hk
def start (N:List Str) (vs:List V):St:=vs.map some ++ List.replicate (N.length - vs.length) none
def O1 (CX:CXT) (P:Program) (w:World) (K:PySem.W.Frag) (mg:Str→Option Value) (base:Heap) (N:List Str) (qual:Str) (scope:Scope) (f:Addr) (cd:Value) (A:Around) (outer:List Env) (s:Shared) (H:Hp) (E:XK):Cx where
 prog:=P
 w:=w
 K:=K
 mg:=mg
 base:=base
 A:=A.deeper (envOfC qual scope s.heap.objs.size f cd)
 N:=N
 s₀:=s
 H₀:=H
 env:=envOfC qual scope s.heap.objs.size f cd
 outer:=outer
 stack:=envOfC qual scope s.heap.objs.size f cd :: outer
 ex:=[]
 calm:=true
 fn:=fun _=>true
 pn:=[]
 xe:=fun e s'=>wpAny (model P w) (A.deeper (envOfC qual scope s.heap.objs.size f cd)) (leaving (envOfC qual scope s.heap.objs.size f cd) e) (fun _ s''=>CX outer H s E e s'') (fun e' s''=>CX outer H s E e' s'') s'
theorem aeL {sc:Scope} {n:Nat} {x:Str} (h:sc.names.lookup x = some .cell):∃ c,(cellsFrom n sc.names []).lookup x = some c:=by
 have q:=PySem.W.cellsFrom_some sc.names n [] (.inl h)
 exact Option.isSome_iff_exists.mp q
theorem akg {CX:CXT} {P:Program} {w:World} {K:PySem.W.Frag} {mg:Str→Option Value} {base:Heap} {N ps:List Str} {qual:Str} {scope:Scope} {f:Addr} {cd:Value} {A:Around} {outer:List Env} {s s1:Shared} {H:Hp} {E:XK} {us:List Value} {vs:List V}
   (S:aM N ps scope) (hd:A.handled = none) (e0:Env0 P w K mg base A outer s H) (hl:vs.length = ps.length) (r:Vals vs us)
   (x:InCallC s s.heap.objs.size (bindL (envOfC qual scope s.heap.objs.size f cd).kindOf (ps.zip us) fun _=>none) (cellsFrom (s.heap.objs.size + 1) scope.names []) (bindC (envOfC qual scope s.heap.objs.size f cd).kindOf (ps.zip us) fun _=>none) s1) :
   Inv (O1 CX P w K mg base N qual scope f cd A outer s H E) [] (start N vs) H s1:=by
 have hpl:ps.length ≤ N.length:=by have:=congrArg List.length S.pre; rw [List.length_take] at this; omega
 obtain ⟨h1,tk,rfl,hk⟩:=x.done
 have noA:∀ b:Addr,b ∉ (O1 CX P w K mg base N qual scope f cd A outer s H E).ex:=fun b z=>absurd (show b ∈ ([]:List Addr) from z) (by simp)
 refine ⟨⟨e0.mod,S.kind,rfl,rfl,Nat.le_refl _,fun y z c h1 h2=>?_,fun y hy=>?_,fun y c _ h=>?_,fun _=>hd,Around.frames_deeper e0.frames,.inr ⟨rfl,rfl⟩,fun b z=>absurd z (noA b),e0.bs,e0.bsz,fun b _ _=>noA b,fun b z=>absurd z (noA b),e0.Et,e0.frf⟩,
   rfl,e0.bare,Un.kept hk,⟨_,x.toInCall.ns,fun i y v h1 h2 h3=>?_⟩,fun y c h=>⟨_,x.cell y c h⟩,e0.hok.fresh (Nat.le_refl _),fun y c h=>?_,fun p hp=>absurd (show p ∈ ([]:List (Addr × Obj)) from hp) (by simp),e0.hok.kept hk,?_⟩
 · exact name_of_addr x.apart (PySem.mem_of_lookup h1) (PySem.mem_of_lookup h2)
 · have hy:scope.names.lookup y = some .cell ∨ scope.names.lookup y = some .free:=hy
   rcases hy with hy | hy
   · exact aeL hy
   · exact absurd rfl (S.nofree _ (PySem.mem_of_lookup hy))
 · exact Nat.le_of_lt (x.above y c (PySem.mem_of_lookup h))
 · have hi:i < vs.length:=by
     unfold start at h2
     by_cases hi:i < vs.length
     · exact hi
     · rw [List.getElem?_append_right (by simpa using hi)] at h2
       rw [List.getElem?_replicate] at h2
       split at h2 <;> cases h2
   have ha:vs[i]? = some v:=by
     unfold start at h2
     rw [List.getElem?_append_left (by simpa using hi),List.getElem?_map] at h2
     cases e:vs[i]? with
     | none=>rw [e] at h2; cases h2
     | some a=>rw [e] at h2; cases h2; rfl
   obtain ⟨u,hu,rv⟩:=r.get ha
   have hp:ps[i]? = some y:=by
     rw [← S.pre,List.getElem?_take_of_lt (by omega)]; exact h1
   have ndP:ps.Nodup:=by rw [← S.pre]; exact S.nd.sublist (List.take_sublist _ _)
   refine ⟨u,rv,?_⟩
   rcases S.par y (List.mem_of_getElem? hp) with k | k
   · exact .inl ⟨k,YH ndP hp hu k⟩
   · obtain ⟨c,e⟩:=aeL (n:=s.heap.objs.size + 1) k
     refine .inr ⟨.inl k,c,e,?_⟩
     have q:=x.cell y c e
     rw [YF ndP hp hu (by show scope.names.lookup y ≠ _; rw [k]; decide)] at q
     exact q
 · exact e0.hok.fresh (Nat.le_of_lt (x.above y c (PySem.mem_of_lookup h)))
 · unfold start
   show _ = N.length
   rw [List.length_append,List.length_map,List.length_replicate]
   omega
theorem fn_of {CX:CXT} {P:Program} {w:World} {K:PySem.W.Frag} {mg:Str→Option Value} {base:Heap} {k:Nat} {f:Addr} {name qual:Str} {params:Arguments} {body:List Stmt} {scope:Scope} {dV kV doc pm cdv ct oc:Value} {an od:Option Addr}
   {osl:Array (Option Value)} {N ps:List Str} {sp:Sp} (lk:K.lookup f = some ⟨oc,od,.func (PySem.W.fnOf name qual params body scope dV kV doc pm an cdv ct),osl⟩) (hcd:PySem.W.codeIn K cdv qual = true) (S:aM N ps scope)
   (len:∀ vs H Q E,sp vs H Q E→vs.length = ps.length)
   (hbody:∀ (A:Around) (outer:List Env) (s:Shared) (H:Hp) (vs:List V) (Q:VK) (E:XK),iW k (A.deeper (envOfC qual scope s.heap.objs.size f cdv))→sp vs H Q E →
     ∃ t,PSs (O1 CX P w K mg base N qual scope f cdv A outer s H E) body t∧t { nx:=fun _ H'=>Q .non H',rt:=Q } (start N vs) H) :
   bx P w K mg base CX (k + 1) f (PySem.W.fnOf name qual params body scope dV kV doc pm an cdv ct) ps sp:=by
 refine ⟨len,fun A outer s H args us vs Q E hr e0 hb r hsp=>?_⟩
 have hl:=len _ _ _ _ hsp
 have KX:K.In s.heap:=e0.mod.kin.keeps fun b o e=>(e0.bs b o e).1
 have lim:s.heap.NoLimit:=e0.mod.nolimit.keeps fun b o e=>(e0.bs b o e).1
 have hkind:∀ y ∈ ps.zip us,scope.names.lookup y.1 = some .local ∨ (scope.names.lookup y.1 = some .cell∧((cellsFrom (s.heap.objs.size + 1) scope.names []).lookup y.1).isSome = true):=fun ⟨n,v⟩ hy=>by
   rcases S.par n (List.of_mem_zip hy).1 with q | q
   · exact .inl q
   · exact .inr ⟨q,PySem.W.cellsFrom_some _ _ _ (.inl q)⟩
 refine codeAny_call_function hr.depth (KX _ _ lk) rfl S.co S.gen rfl (PySem.W.codeRec_of KX hcd) (hb _ _ _ _ ?_)
 refine wpAny_newFunctionEnv_cells S.kind hkind fun env he s1 x=>?_
 subst he
 refine ⟨lim.keeps x.toInCall.keep,codeAny_func ?_⟩
 obtain ⟨t,ht,hq⟩:=hbody A outer s H vs Q E (hr.deeper _) hsp
 have I:Inv (O1 CX P w K mg base N qual scope f cdv A outer s H E) [] (start N vs) H s1:=akg S hr.hd e0 hl r x
 refine wpAny_mono (ht [] s1 (start N vs) H _ I hq) (fun fl s' hs=>?_) fun e s' hs=>hs
 have fin:∀ {σ':St} {H':Hp} {v:V} {u:Value},Inv (O1 CX P w K mg base N qual scope f cdv A outer s H E) [] σ' H' s'→RelV v u→Q v H'→CE outer P w H s Q u s' :=
   fun {σ' H' v u} J rv q=>⟨v,H',J.os,J.bare,J.base,J.hok,rv,q⟩
 cases fl with
 | ret u =>
   obtain ⟨v,σ',H',J,rv,q⟩:=hs
   exact fin J rv q
 | next =>
   obtain ⟨σ',H',J,q⟩:=hs
   exact fin (v:=V.non) (u:=Value.none) J rfl q
 | brk =>
   obtain ⟨_,_,_,q⟩:=hs
   exact False.elim q
 | cont =>
   obtain ⟨_,_,_,q⟩:=hs
   exact False.elim q
end L2
namespace L2
open PySem PySem.Spec PyProof.Rows
section
variable {X:Cx} {x:Str} {p pos:Pos} {e:Expr} {es:List Expr} {t:TA} {id T:String} {r:List V→Hp→VK→Prop}
def tCB (r:List V→Hp→VK→Prop) (t:TA):TE:=fun σ H Q=>t σ H fun vs H1=>r vs H1 Q
theorem J6 (hc:tE X (.builtin id) r) (hg:Gl X x) (hm:X.mg x = none) (hv:bootBuiltins x = some (.builtin id)) (ha:PA X (e :: es) t) (hn:x ≠ "__name__":=by decide) (hdb:(x == ("__debug__":Str)) = false:=by decide)
   (he:starEach (e :: es) X.env = (false,eval e X.env) :: starEach es X.env:=by rfl) (hpl:(backTo pos (starEach es X.env)).any (·.1) = false:=by rfl):PE X (.Call (.Name x p) (e :: es) [] pos) (tCB r t):=by
 intro pins s σ H Q I h
 refine wpAny_Call_Name_kw (Tg I hg hm hv ?_ hn hdb)
 exact PyProof.Rows.callWith_builtin1 (thn (ha pos pins s σ H _ I h) fun us s1 ⟨vs,H1,I1,r1,q1⟩=>hc pins s1 σ H1 vs us Q I1 r1 q1) he hpl
theorem En (hc:tE X (.type T) r) (hg:Gl X x) (hm:X.mg x = none) (hv:bootBuiltins x = some (.type T)) (ha:PA X (e :: es) t) (hn:x ≠ "__name__":=by decide) (hdb:(x == ("__debug__":Str)) = false:=by decide)
   (he:starEach (e :: es) X.env = (false,eval e X.env) :: starEach es X.env:=by rfl) (hpl:(backTo pos (starEach es X.env)).any (·.1) = false:=by rfl):PE X (.Call (.Name x p) (e :: es) [] pos) (tCB r t):=by
 intro pins s σ H Q I h
 refine wpAny_Call_Name_kw (Tg I hg hm hv ?_ hn hdb)
 exact PyProof.Rows.callWith_type1 (thn (ha pos pins s σ H _ I h) fun us s1 ⟨vs,H1,I1,r1,q1⟩=>hc pins s1 σ H1 vs us Q I1 r1 q1) he hpl
end
end L2
namespace HT
open PySem PyProof.Rows
section
open PySem.SeqAt
open PySem.AutoSeq1 (wpAny_loadPart')
open PySem.MeetsSeq PySem.MeetsSeq2 PySem.MeetsSeq3
end
section
variable {prog:Program} {w:World} {A:Around} {E:Value→Shared→Prop} {s:Shared}
def sIx (n d:Nat):Option Int→Nat
 | none=>d
 | some v=>if v < 0 then (v + (n:Int)).toNat else min v.toNat n
theorem Ur (n d:Nat):sIx n d none = d:=rfl
theorem ajx (n d k:Nat):sIx n d (some (k:Int)) = min k n:=by
 show (if (k:Int) < 0 then ((k:Int) + (n:Int)).toNat else min (k:Int).toNat n) = min k n
 rw [if_neg (by omega),Int.toNat_natCast]
end
end HT
namespace L2
open PySem PySem.Spec PyProof.Rows
abbrev TO:=St→Hp→(Option Int→Hp→Prop)→Prop
def PO (X:Cx) (e:Option Expr) (t:TO):Prop :=
 ∀ (pins:List (Addr × Obj)) (s:Shared) (σ:St) (H:Hp) (Q:Option Int→Hp→Prop),Inv X pins σ H s→t σ H Q →
   wpAny (model X.prog X.w) X.A (evalPart e X.env) (fun u s'=>∃ o H',Inv X pins σ H' s'∧IsPart u o∧Q o H') X.xe s
def tNoPart:TO:=fun _ H Q=>Q none H
def tPart (t:TE):TO:=fun σ H Q=>t σ H fun x H1=>∃ i,x = .int i∧Q (some i) H1
section
variable {X:Cx} {e:Expr} {te:TE} {lo hi:Option Expr} {tl th:TO} {pos p2:Pos}
theorem po_none:PO X none tNoPart:=by
 intro pins s σ H Q I h
 rw [evalPart_none]
 exact wpAny_pure ⟨none,H,I,.none,h⟩
theorem po_some (h:PE X e te):PO X (some e) (tPart te):=by
 intro pins s σ H Q I hw
 rw [evalPart_some]
 refine thn (h pins s σ H _ I hw) fun u s1 ⟨x,H1,I1,r1,q1⟩=>?_
 obtain ⟨i,rfl,q⟩:=q1
 obtain ⟨t,rfl⟩:=r1
 exact ⟨some i,H1,I1,.int i t,q⟩
def SlR (X:Cx) (r:V→Option Int→Option Int→Hp→VK→Prop):Prop :=
 ∀ (pins:List (Addr × Obj)) (s:Shared) (σ:St) (H:Hp) (x:V) (v vl vu:Value) (lo hi:Option Int) (sl:Addr) (Q:VK),Inv X pins σ H s→RelV x v→s.heap.IsSliceOf sl vl vu .none→IsPart vl lo→IsPart vu hi→r x lo hi H Q →
   ∃ T id,typeLookup (.type T) "__getitem__" = pure (some (.builtin id))∧s.TypeIs v T∧wpAny (model X.prog X.w) X.A (getItem v (.ref sl)) (EP X pins σ Q) X.xe s
theorem SlR.or {r r':V→Option Int→Option Int→Hp→VK→Prop} (h:SlR X r) (h':SlR X r'):SlR X (fun x lo hi H Q=>r x lo hi H Q ∨ r' x lo hi H Q):=by
 intro pins s σ H x v vl vu lo hi sl Q I rx hs pl pu q
 rcases q with q | q
 · exact h pins s σ H x v vl vu lo hi sl Q I rx hs pl pu q
 · exact h' pins s σ H x v vl vu lo hi sl Q I rx hs pl pu q
def tSl (r:V→Option Int→Option Int→Hp→VK→Prop) (te:TE) (tl th:TO):TE:=fun σ H Q=>te σ H fun x H1=>tl σ H1 fun l H2=>th σ H2 fun u H3=>r x l u H3 Q
theorem pe_slice {r:V→Option Int→Option Int→Hp→VK→Prop} (hr:SlR X r) (he:PE X e te) (hl:PO X lo tl) (hu:PO X hi th):PE X (.Subscript e (.Slice lo hi none p2) pos) (tSl r te tl th):=by
 intro pins s σ H Q I h
 refine Subscript_ (thn (he pins s σ H _ I h) fun v s1 ⟨x,H1,I1,r1,q1⟩=>?_)
 refine wpAny_Slice (thn (hl pins s1 σ H1 _ I1 q1) fun vl s2 ⟨l,H2,I2,pl,q2⟩=>thn (hu pins s2 σ H2 _ I2 q2) fun vu s3 ⟨u,H3,I3,pu,q3⟩=>?_)
 rw [evalPart_none]
 refine wpAny_pure ?_
 have I4:Inv X pins σ H3 { s3 with heap:=s3.heap.push { cls:=.type "slice",data:=.fields #[vl,vu,.none] } }:=I3.kept (t':=s3.toks) fun b ob q=>Heap.get?_push_of_some _ q
 obtain ⟨T,id,hT,ht,hg⟩:=hr pins { s3 with heap:=s3.heap.push { cls:=.type "slice",data:=.fields #[vl,vu,.none] } } σ H3 x v vl vu l u s3.heap.objs.size Q I4 r1 (Heap.IsSliceOf.new ..) pl pu q3
 show wpAny (model X.prog X.w) X.A (subscriptTail e (.Slice lo hi none p2) v (.ref s3.heap.objs.size)) (EP X pins σ Q) X.xe { s3 with heap:=s3.heap.push { cls:=.type "slice",data:=.fields #[vl,vu,.none] } }
 exact tail_any (ops:=[.ref s3.heap.objs.size,v]) ht hT hg (by with_unfolding_all rfl)
def cutV (xs:List V) (lo hi:Option Int):List V:=(xs.drop (HT.sIx xs.length 0 lo)).take (HT.sIx xs.length xs.length hi - HT.sIx xs.length 0 lo)
theorem aeY (xs:List V) (lo hi:Option Int):(cutV xs lo hi).length ≤ xs.length:=by
 unfold cutV
 rw [List.length_take,List.length_drop]
 omega
end
end L2
namespace L2
open PySem PySem.Spec PyProof.Rows
def ixN (n:Nat) (i:Int):Option Nat:=if 0 ≤ i then (if i < n then some i.toNat else none) else if -(n:Int) ≤ i then some (i + n).toNat else none
def atI {α:Type} (xs:List α) (i:Int):Option α:=(ixN xs.length i).bind fun j=>xs[j]?
theorem abC {n:Nat} {i:Int} {j:Nat} (h:ixN n i = some j):seqIndex? i n = some j∧j < n∧-(n:Int) ≤ i∧i < n:=by
 unfold ixN at h
 by_cases h0:0 ≤ i
 · rw [if_pos h0] at h
   by_cases h1:i < n
   · rw [if_pos h1] at h
     have e:i.toNat = j:=Option.some.inj h
     exact ⟨by rw [seqIndex_of h0 h1,e],by omega,by omega,h1⟩
   · rw [if_neg h1] at h; cases h
 · rw [if_neg h0] at h
   by_cases h1:-(n:Int) ≤ i
   · rw [if_pos h1] at h
     have e:(i + n).toNat = j:=Option.some.inj h
     exact ⟨by rw [seqIndex_neg (by omega) h1,e],by omega,h1,by omega⟩
   · rw [if_neg h1] at h; cases h
theorem Z8 {α:Type} {xs:List α} {i:Int} {v:α} (h:atI xs i = some v):∃ j,seqIndex? i xs.length = some j∧xs[j]? = some v∧j < xs.length∧-(xs.length:Int) ≤ i∧i < xs.length:=by
 unfold atI at h
 cases e:ixN xs.length i with
 | none=>rw [e] at h; cases h
 | some j =>
   rw [e] at h
   obtain ⟨h1,h2,h3,h4⟩:=abC e
   exact ⟨j,h1,h,h2,h3,h4⟩
theorem fY {α:Type} {xs:List α} {j:Nat} {v:α} (h:xs[j]? = some v):atI xs (j:Int) = some v:=by
 have hj:j < xs.length:=(List.getElem?_eq_some_iff.mp h).1
 have e:ixN xs.length (j:Int) = some j:=by
   unfold ixN
   rw [if_pos (by omega),if_pos (by omega)]; simp
 unfold atI; rw [e]; exact h
def Qf (b:Expr):Prop:=∀ o i,subscripted b false o i = operate [o,i] (getItem o i)
def IxR (X:Cx) (r:R2):Prop :=
 ∀ (value slice:Expr) (pins:List (Addr × Obj)) (s:Shared) (σ:St) (H:Hp) (x y:V) (v u:Value) (Q:VK),Inv X pins σ H s→RelV x v→RelV y u→r x y H Q →
   subscripted slice false v u = operate [v,u] (getItem v u)→wpAny (model X.prog X.w) X.A (subscriptTail value slice v u) (EP X pins σ Q) X.xe s
def MtR (X:Cx) (id:String) (r:V→List V→Hp→VK→Prop):Prop :=
 ∀ (pins:List (Addr × Obj)) (s:Shared) (σ:St) (H:Hp) (x:V) (xs:List V) (v:Value) (us:List Value) (Q:VK),Inv X pins σ H s→RelV x v→Vals xs us→r x xs H Q →
   wpAny (model X.prog X.w) X.A (call (.builtin id) (v :: us)) (EP X pins σ Q) X.xe s
section
variable {X:Cx} {a b:Expr} {ta tb:TE} {pos:Pos}
theorem IxR.or {r r':R2} (h:IxR X r) (h':IxR X r'):IxR X (fun x y H Q=>r x y H Q ∨ r' x y H Q):=by
 intro value slice pins s σ H x y v u Q I rx ry q hs
 rcases q with q | q
 · exact h value slice pins s σ H x y v u Q I rx ry q hs
 · exact h' value slice pins s σ H x y v u Q I rx ry q hs
theorem MtR.or {id:String} {r r':V→List V→Hp→VK→Prop} (h:MtR X id r) (h':MtR X id r'):MtR X id (fun x xs H Q=>r x xs H Q ∨ r' x xs H Q):=by
 intro pins s σ H x xs v us Q I rx rs q
 rcases q with q | q
 · exact h pins s σ H x xs v us Q I rx rs q
 · exact h' pins s σ H x xs v us Q I rx rs q
theorem pe_ix {r:R2} (hr:IxR X r) (ha:PE X a ta) (hb:PE X b tb) (hs:Qf b):PE X (.Subscript a b pos) (tOp r ta tb):=by
 intro pins s σ H Q I h
 exact Subscript_ (binT ha hb I h fun v u s2 x y H2 I2 rx ry q=>hr a b pins s2 σ H2 x y v u Q I2 rx ry q (hs _ _))
def rIxL (K:PySem.W.Frag):R2:=fun x y H Q=>∃ p xs i v,x = .ref p∧y = .int i∧SqL K H p xs∧atI xs i = some v∧Q v H
def rIxT (K:PySem.W.Frag):R2:=fun x y H Q=>∃ p xs i v,x = .ref p∧y = .int i∧SqT K H p xs∧atI xs i = some v∧Q v H
def rIxS:R2:=fun x y H Q=>∃ z i c,x = .str z∧y = .int i∧z.length ≤ sizeLine∧atI z.cps.toList i = some c∧Q (.str ⟨#[c]⟩) H
theorem ajn:IxR X (rIxL X.K):=by
 intro value slice pins s σ H x y v u Q I rx ry h hs
 obtain ⟨p,xs,i,z,rfl,rfl,hq,he,q⟩:=h
 cases rx
 obtain ⟨t,rfl⟩:=ry
 obtain ⟨its,r,pl,hz⟩:=I.list hq
 obtain ⟨j,h1,h2,h3,h4,h5⟩:=Z8 he
 obtain ⟨w,ew,rw'⟩:=r.get h2
 have hl:=r.length
 have hn:=Hu
 have fin:EP X pins σ Q w s:=⟨z,H,I,rw',q⟩
 by_cases h0:0 ≤ i
 · have hj:i.toNat = j:=by
     rw [seqIndex_of h0 h5] at h1
     exact Option.some.inj h1
   exact item_listR pl.isList h0 (by omega) (by rw [hj]; simpa using ew) fin hs
 · have hj:(i + (its.toArray.size:Int)).toNat = j:=by
     rw [seqIndex_neg (by omega) h4] at h1
     rw [List.size_toArray,← hl]
     exact Option.some.inj h1
   exact subscriptTail_builtinR (x:=w) pl.isList.typeIs slot_list_getitem.lookup
     (wpAny_getItem_list_neg (Q:=fun r s'=>r = w∧EP X pins σ Q r s') pl.isList (by omega) (by rw [List.size_toArray] <;> omega) (by omega) (by rw [hj]; simpa using ew) ⟨rfl,fin⟩) hs
theorem ix_tup:IxR X (rIxT X.K):=by
 intro value slice pins s σ H x y v u Q I rx ry h hs
 obtain ⟨p,xs,i,z,rfl,rfl,hq,he,q⟩:=h
 cases rx
 obtain ⟨t,rfl⟩:=ry
 obtain ⟨its,r,pl,hz⟩:=I.tuple hq
 obtain ⟨j,h1,h2,h3,h4,h5⟩:=Z8 he
 obtain ⟨w,ew,rw'⟩:=r.get h2
 have hl:=r.length
 have hn:=Hu
 have fin:EP X pins σ Q w s:=⟨z,H,I,rw',q⟩
 exact subscriptTail_builtinR (x:=w) pl.typeIs slot_tuple_getitem.lookup
   (getItem_tuple (j:=j) (Q:=fun r s'=>r = w∧EP X pins σ Q r s') pl (by omega) (by omega) (by rw [List.size_toArray,← hl]; exact h1) (by simpa using ew) ⟨rfl,fin⟩) hs
theorem ix_str:IxR X rIxS:=by
 intro value slice pins s σ H x y v u Q I rx ry h hs
 obtain ⟨z,i,c,rfl,rfl,hz,he,q⟩:=h
 obtain ⟨t,rfl⟩:=rx
 obtain ⟨t',rfl⟩:=ry
 obtain ⟨j,h1,h2,h3,h4,h5⟩:=Z8 he
 have hl:z.cps.toList.length = z.length:=by simp [Str.length]
 rw [hl] at h1 h4 h5
 have hn:=Hu
 exact tail_any (typeIs_str s z t) slot_str_getitem.lookup (getItem_str (c:=c) (by
   have e1:decide (i < -(2 ^ 63:Int)) = false:=decide_eq_false (by omega)
   have e2:decide (i ≥ 2 ^ 63) = false:=decide_eq_false (by omega)
   rw [e1,e2,Bool.or_false]) (by rw [h1]; simpa using h2) ⟨.str ⟨#[c]⟩,H,I.tok _,⟨_,rfl⟩,q⟩) hs
def rIx (K:PySem.W.Frag):R2:=fun x y H Q=>rIxL K x y H Q ∨ rIxT K x y H Q ∨ rIxS x y H Q
theorem ix_seq:IxR X (rIx X.K):=ajn.or (ix_tup.or ix_str)
theorem aii (its:List Value) (n j:Nat) (u:Value):Obj.mapSeq (·.setIfInBounds j u) { cls:=.type "list",data:=.seq its.toArray n } = { cls:=.type "list",data:=.seq (its.set j u).toArray n }:=by
 simp [Obj.mapSeq]
theorem Inv.lst {pins:List (Addr × Obj)} {σ:St} {H:Hp} {s:Shared} {p:Addr} {xs:List V} (I:Inv X pins σ H s) (h:H p = some (.lst xs)) :
   ∃ (its:List Value) (n:Nat),Vals xs its∧s.heap.get? p = some { cls:=.type "list",data:=.seq its.toArray n }∧xs.length ≤ sizeLine:=by
 obtain ⟨z,its,n,r,e⟩:=I.hok p _ h
 exact ⟨its,n,r,e,z⟩
theorem Inv.lstUpd {pins:List (Addr × Obj)} {σ:St} {H:Hp} {s:Shared} {p:Addr} {xs ys:List V} {its its':List Value} {n n':Nat} {f:Obj→Obj} (I:Inv X pins σ H s) (h:H p = some (.lst xs))
   (ho:s.heap.get? p = some { cls:=.type "list",data:=.seq its.toArray n }) (hf:f { cls:=.type "list",data:=.seq its.toArray n } = { cls:=.type "list",data:=.seq its'.toArray n' }) (r:Vals ys its') (hz:ys.length ≤ sizeLine) (t:Nat) :
   Inv X pins σ (upd H p (.lst ys)) { s with heap:=s.heap.update p f,toks:=t }:=by
 have e:(s.heap.update p f).get? p = some { cls:=.type "list",data:=.seq its'.toArray n' }:=by
   rw [Heap.get?_update_self f ho (by rw [hf] <;> rfl),hf]
 refine I.write (x:=p) (e:=p) (by rw [h]; trivial) (.inl rfl) (fun b u hb q=>(Heap.get?_update_other _ _ (Ne.symm hb)).trans q) ⟨_,e⟩ ?_
 exact ⟨hz,its',n',r,e⟩
def rSetL:V→V→V→Hp→(Hp→Prop)→Prop:=fun o i v H Q=>∃ p xs k j,o = .ref p∧i = .int k∧H p = some (.lst xs)∧ixN xs.length k = some j∧Q (upd H p (.lst (xs.set j v)))
theorem set_list:PSet X rSetL:=by
 intro pins s σ H o i v ov iv u Q I ro ri rv h
 obtain ⟨p,xs,k,j,rfl,rfl,hp,hj,q⟩:=h
 cases ro
 obtain ⟨t,rfl⟩:=ri
 obtain ⟨its,n,r,ho,hz⟩:=I.lst hp
 obtain ⟨h1,h2,h3,h4⟩:=abC hj
 have hl:=r.length
 have hn:=Hu
 have I':Inv X pins σ (upd H p (.lst (xs.set j v))) { s with heap:=s.heap.update p (Obj.mapSeq (·.setIfInBounds j u)) } :=
   I.lstUpd hp ho (aii its n j u) (r.set rv j) (by rw [List.length_set]; exact hz) s.toks
 by_cases h0:0 ≤ k
 · have hk:k.toNat = j:=by
     rw [seqIndex_of h0 h4] at h1
     exact Option.some.inj h1
   exact PySem.W.ki_setAt ho h0 (by omega) (by rw [List.size_toArray,← hl]; exact h4) (by rw [hk]; exact ⟨_,I',q⟩)
 · have hk:(k + (its.toArray.size:Int)).toNat = j:=by
     rw [seqIndex_neg (by omega) h3] at h1
     rw [List.size_toArray,← hl]
     exact Option.some.inj h1
   exact PySem.W.ki_setBack ho (by omega) (by rw [List.size_toArray,← hl]; exact h3) (by omega) (by rw [hk]; exact ⟨_,I',q⟩)
theorem adP (lo hi:Option Int) (n:Nat):(sliceBounds lo hi none n).1 = ((HT.sIx n 0 lo:Nat):Int)∧(sliceBounds lo hi none n).2.1 = ((HT.sIx n n hi:Nat):Int)∧(sliceBounds lo hi none n).2.2 = 1:=by
 refine ⟨?_,?_,rfl⟩
 · cases lo with
   | none=>simp [sliceBounds,HT.sIx]
   | some i =>
     simp only [sliceBounds,HT.sIx,Option.getD_none,show (1:Int) > 0 by decide,if_true]
     by_cases h:i < 0
     · simp only [h,if_true] <;> omega
     · simp only [h,if_false] <;> omega
 · cases hi with
   | none=>simp [sliceBounds,HT.sIx]
   | some i =>
     simp only [sliceBounds,HT.sIx,Option.getD_none,show (1:Int) > 0 by decide,if_true]
     by_cases h:i < 0
     · simp only [h,if_true] <;> omega
     · simp only [h,if_false] <;> omega
theorem Yp (its:List Value) (lo hi:Option Int):slicePick its.toArray lo hi none = ((its.drop (HT.sIx its.length 0 lo)).take (HT.sIx its.length its.length hi - HT.sIx its.length 0 lo)).toArray:=by
 obtain ⟨h1,h2,h3⟩:=adP lo hi its.toArray.size
 unfold slicePick
 rw [h1,h2,h3]
 simp only [sliceRange_one,pick_run,List.size_toArray] <;> rfl
def rSlL (K:PySem.W.Frag):V→Option Int→Option Int→Hp→VK→Prop:=fun x lo hi H Q=>∃ a xs,x = .ref a∧SqL K H a xs∧∀ p,H p = none→Q (.ref p) (upd H p (.lst (cutV xs lo hi)))
theorem sl_list:SlR X (rSlL X.K):=by
 intro pins s σ H x v vl vu lo hi sl Q I rx hs pl pu h
 obtain ⟨a,xs,rfl,hx,q⟩:=h
 cases rx
 obtain ⟨its,r,ht,hz⟩:=I.list hx
 have hlen:=r.length
 refine ⟨"list",_,slot_list_getitem.lookup,ht.isList.typeIs,?_⟩
 refine wpAny_getItem_list_slice ht.isList hs pl pu .none (by simp) ?_ (by rw [List.size_toArray] <;> omega)
 rw [Yp,← hlen]
 refine ⟨.ref s.heap.objs.size,_,I.laid (t':=s.toks) (o:=.lst (cutV xs lo hi)) (fun b ob q=>Heap.get?_push_of_some _ q) (Nat.le_refl _) ?_,rfl,q _ (I.hok.fresh (Nat.le_refl _))⟩
 exact ⟨Nat.le_trans (aeY xs lo hi) hz,_,0,(r.drop (HT.sIx xs.length 0 lo)).take (HT.sIx xs.length xs.length hi - HT.sIx xs.length 0 lo),Heap.get?_push_size _ rfl⟩
def Ac:V→Bool
 | .non=>true
 | .bl _=>true
 | .int _=>true
 | .str _=>true
 | _=>false
def eqV:V→V→Bool
 | .non,.non=>true
 | .bl a,.bl b=>a == b
 | .bl a,.int b=>(if a then 1 else 0) == b
 | .int a,.bl b=>a == (if b then 1 else 0)
 | .int a,.int b=>a == b
 | .str a,.str b=>a == b
 | _,_=>false
theorem eqAt_V {A:Around} {s:Shared} {y x:V} {u v:Value} (ry:RelV y u) (rx:RelV x v) (fy:Ac y = true) (fx:Ac x = true):SeqAt.EqAt A s u v (eqV y x):=by
 cases y with
 | non =>
   cases ry
   cases x with
   | non=>cases rx; exact SeqAt.EqAt.same _
   | bl b=>cases rx; exact SeqAt.EqAt.none_bool b
   | int b=>obtain ⟨t,rfl⟩:=rx; exact SeqAt.EqAt.none_int b t
   | str b=>obtain ⟨t,rfl⟩:=rx; exact SeqAt.EqAt.none_str b t
   | _=>exact absurd (show false = true from fx) Bool.false_ne_true
 | bl a =>
   cases ry
   cases x with
   | non=>cases rx; exact SeqAt.EqAt.bool_none a
   | bl b=>cases rx; exact SeqAt.EqAt.bool_bool a b
   | int b=>obtain ⟨t,rfl⟩:=rx; exact SeqAt.EqAt.bool_int a b t
   | str b=>obtain ⟨t,rfl⟩:=rx; exact SeqAt.EqAt.bool_str a b t
   | _=>exact absurd (show false = true from fx) Bool.false_ne_true
 | int a =>
   obtain ⟨t',rfl⟩:=ry
   cases x with
   | non=>cases rx; exact SeqAt.EqAt.int_none a t'
   | bl b=>cases rx; exact SeqAt.EqAt.int_bool a t' b
   | int b=>obtain ⟨t,rfl⟩:=rx; exact SeqAt.EqAt.int_int a t' b t
   | str b=>obtain ⟨t,rfl⟩:=rx; exact SeqAt.EqAt.int_str a t' b t
   | _=>exact absurd (show false = true from fx) Bool.false_ne_true
 | str a =>
   obtain ⟨t',rfl⟩:=ry
   cases x with
   | non=>cases rx; exact SeqAt.EqAt.str_none a t'
   | bl b=>cases rx; exact SeqAt.EqAt.str_bool a t' b
   | int b=>obtain ⟨t,rfl⟩:=rx; exact SeqAt.EqAt.str_int a t' b t
   | str b=>obtain ⟨t,rfl⟩:=rx; exact SeqAt.EqAt.str_str a t' b t
   | _=>exact absurd (show false = true from fx) Bool.false_ne_true
 | _=>exact absurd (show false = true from fy) Bool.false_ne_true
def eqU (x:V) (u:Value):Bool:=match u with
 | .none=>eqV .non x
 | .bool b=>eqV (.bl b) x
 | .int i _=>eqV (.int i) x
 | .str z _=>eqV (.str z) x
 | _=>false
theorem eqU_of {x y:V} {u:Value} (r:RelV y u) (f:Ac y = true):eqU x u = eqV y x:=by
 cases y with
 | non=>cases r; rfl
 | bl b=>cases r; rfl
 | int i=>obtain ⟨t,rfl⟩:=r; rfl
 | str z=>obtain ⟨t,rfl⟩:=r; rfl
 | _=>exact absurd (show false = true from f) Bool.false_ne_true
theorem Iv {x:V}:∀ {xs:List V} {us:List Value},Vals xs us→xs.all Ac = true→us.any (eqU x) = xs.any fun y=>eqV y x
 | _,_,.nil,_=>rfl
 | y :: xs,u :: us,.cons r t,f=>by
   rw [List.all_cons,Bool.and_eq_true] at f
   rw [List.any_cons,List.any_cons,eqU_of r f.1,Iv t f.2]
theorem Do {A:Around} {s:Shared} {x:V} {v:Value} (rx:RelV x v) (fx:Ac x = true):∀ {xs:List V} {us:List Value},Vals xs us→xs.all Ac = true→∀ u ∈ us,SeqAt.EqAt A s u v (eqU x u)
 | _,_,.nil,_=>fun u hu=>by cases hu
 | y :: xs,u :: us,.cons r t,f=>fun u' hu=>by
   rw [List.all_cons,Bool.and_eq_true] at f
   rcases List.mem_cons.mp hu with rfl | hu
   · rw [eqU_of r f.1]; exact eqAt_V r rx f.1 fx
   · exact Do rx fx t f.2 u' hu
def inV (x:V) (xs:List V):Bool:=xs.any fun y=>eqV y x
def rIn (K:PySem.W.Frag) (neg:Bool):R2:=fun x y H Q=>∃ p xs,y = .ref p∧(SqL K H p xs ∨ SqT K H p xs)∧Ac x = true∧xs.all Ac = true∧Q (.bl (if neg then !inV x xs else inV x xs)) H
theorem akA:OpR X (compareOp .In) (rIn X.K false):=by
 intro pins s σ H x y v u Q I rx ry h
 obtain ⟨p,xs,rfl,hq,fx,fs,q⟩:=h
 cases ry
 rcases hq with hq | hq
 · obtain ⟨its,r,pl,hz⟩:=I.list hq
   refine SeqAt.in_listAt (eqU x) pl.isList (fun w hw=>Do rx fx r fs w (by simpa using hw)) ⟨.bl _,H,I,rfl,?_⟩
   rw [show its.toArray.any (eqU x) = its.any (eqU x) by simp,Iv r fs]
   exact q
 · obtain ⟨its,r,pl,hz⟩:=I.tuple hq
   refine SeqAt.in_tupleAt (eqU x) pl (fun w hw=>Do rx fx r fs w (by simpa using hw)) ⟨.bl _,H,I,rfl,?_⟩
   rw [show its.toArray.any (eqU x) = its.any (eqU x) by simp,Iv r fs]
   exact q
theorem acL:OpR X (compareOp .NotIn) (rIn X.K true):=by
 intro pins s σ H x y v u Q I rx ry h
 obtain ⟨p,xs,rfl,hq,fx,fs,q⟩:=h
 cases ry
 rcases hq with hq | hq
 · obtain ⟨its,r,pl,hz⟩:=I.list hq
   refine SeqAt.notIn_listAt (eqU x) pl.isList (fun w hw=>Do rx fx r fs w (by simpa using hw)) ⟨.bl _,H,I,rfl,?_⟩
   rw [show its.toArray.any (eqU x) = its.any (eqU x) by simp,Iv r fs]
   exact q
 · obtain ⟨its,r,pl,hz⟩:=I.tuple hq
   refine SeqAt.notIn_tupleAt (eqU x) pl (fun w hw=>Do rx fx r fs w (by simpa using hw)) ⟨.bl _,H,I,rfl,?_⟩
   rw [show its.toArray.any (eqU x) = its.any (eqU x) by simp,Iv r fs]
   exact q
theorem aaf:tE X (.builtin "len") (fun xs H Q=>∃ p ys,xs = [.ref p]∧(SqL X.K H p ys ∨ SqT X.K H p ys)∧Q (.int ys.length) H):=by
 intro pins s σ H xs us Q I r h
 obtain ⟨p,ys,rfl,hq,q⟩:=h
 obtain ⟨u,rfl,rx⟩:=vals1 r
 cases rx
 have hn:=Hu
 rcases hq with hq | hq
 · obtain ⟨its,r',pl,hz⟩:=I.list hq
   have hlen:=r'.length
   exact Calls.call_len_list pl.isList (by simp only [List.size_toArray] <;> omega) ⟨.int ys.length,H,I.tok _,⟨s.toks + 1,by rw [List.size_toArray,hlen]⟩,q⟩
 · obtain ⟨its,r',pl,hz⟩:=I.tuple hq
   have hlen:=r'.length
   exact len_tuple pl (by simp only [List.size_toArray] <;> omega) ⟨.int ys.length,H,I.tok _,⟨s.toks + 1,by rw [List.size_toArray,hlen]⟩,q⟩
theorem aag:tE X (.builtin "len") (fun xs H Q=>∃ z,xs = [.str z]∧z.length ≤ sizeLine∧Q (.int z.length) H):=by
 intro pins s σ H xs us Q I r h
 obtain ⟨z,rfl,hz,q⟩:=h
 obtain ⟨u,rfl,t,rfl⟩:=vals1 r
 have hn:=Hu
 exact len_str (by omega) ⟨.int z.length,H,I.tok _,⟨_,rfl⟩,q⟩
theorem tE.or {f:Value} {r r':List V→Hp→VK→Prop} (h:tE X f r) (h':tE X f r'):tE X f (fun xs H Q=>r xs H Q ∨ r' xs H Q):=by
 intro pins s σ H xs us Q I rs q
 rcases q with q | q
 · exact h pins s σ H xs us Q I rs q
 · exact h' pins s σ H xs us Q I rs q
theorem aah:tE X (.type "list") (fun xs H Q=>∃ p ys,xs = [.ref p]∧(SqL X.K H p ys ∨ SqT X.K H p ys)∧∀ l,H l = none→Q (.ref l) (upd H l (.lst ys))):=by
 intro pins s σ H xs us Q I r h
 obtain ⟨p,ys,rfl,hq,q⟩:=h
 obtain ⟨u,rfl,rx⟩:=vals1 r
 cases rx
 have fin:∀ (its:List Value),Vals ys its→ys.length ≤ sizeLine→∀ (h':Heap) (c':Nat),(∀ b o',s.heap.get? b = some o'→h'.get? b = some o') →
     h'.get? s.heap.objs.size = some { cls:=.type "list",dict:=none,data:=.seq its.toArray c',slots:=#[] }→EP X pins σ Q (.ref s.heap.objs.size) { s with heap:=h' }:=fun its r' hz h' c' kp e =>
   ⟨.ref s.heap.objs.size,_,I.laid (t':=s.toks) kp (Nat.le_refl _) (show gU X.prog X.w _ h' _ (.lst ys) from ⟨hz,its,c',r',e⟩),rfl,q _ (I.hok.fresh (Nat.le_refl _))⟩
 rcases hq with hq | hq
 · obtain ⟨its,r',pl,hz⟩:=I.list hq
   have hlen:=r'.length
   obtain ⟨o,ho,hc,n,hd⟩:=pl.isList
   exact call_list_seq p (.inl rfl) ho hc hd (fun h' c' kp e=>fin its r' hz h' c' kp e) (by simp only [List.size_toArray] <;> omega)
 · obtain ⟨its,r',pl,hz⟩:=I.tuple hq
   have hlen:=r'.length
   obtain ⟨o,ho,hc,n,hd⟩:=pl
   exact call_list_seq p (.inr rfl) ho hc hd (fun h' c' kp e=>fin its r' hz h' c' kp e) (by simp only [List.size_toArray] <;> omega)
theorem VF:tE X (.type "tuple") (fun xs H Q=>∃ p ys,xs = [.ref p]∧((SqL X.K H p ys∧∀ l,H l = none→Q (.ref l) (upd H l (.tup ys))) ∨ (SqT X.K H p ys∧Q (.ref p) H))):=by
 intro pins s σ H xs us Q I r h
 obtain ⟨p,ys,rfl,h⟩:=h
 obtain ⟨u,rfl,rx⟩:=vals1 r
 cases rx
 rcases h with ⟨hq,q⟩ | ⟨hq,q⟩
 · obtain ⟨its,r',pl,hz⟩:=I.list hq
   have hlen:=r'.length
   refine call_tuple_list pl.isList (fun h' kp=>?_) (by simp only [List.size_toArray] <;> omega)
   have I1:Inv X pins σ H { s with heap:=h' }:=I.kept (t':=s.toks) kp
   have I2:Inv X pins σ (upd H h'.objs.size (.tup ys)) { s with heap:=h'.push { cls:=.type "tuple",data:=.seq its.toArray } } :=
     I1.laid (t':=s.toks) (fun b o e=>Heap.get?_push_of_some _ e) (Nat.le_refl _) (show gU X.prog X.w _ _ _ (.tup ys) from ⟨hz,its,r',IsTup.new _ _⟩)
   exact ⟨.ref h'.objs.size,_,I2,rfl,q _ (I1.hok.fresh (Nat.le_refl _))⟩
 · obtain ⟨its,r',pl,hz⟩:=I.tuple hq
   exact call_tuple_same pl ⟨.ref p,H,I,rfl,q⟩
def tyV (K:PySem.W.Frag) (T:String) (x:V) (H:Hp):Prop:=match x with
 | .str _=>T = "str"
 | .int _=>T = "int"
 | .ref p=>(T = "list"∧∃ xs,SqL K H p xs) ∨ (T = "tuple"∧∃ o,K.lookup p = some o∧o.cls = .type "tuple"∧o.dict = none) ∨
     (T = "dict"∧((∃ kvs,H p = some (.dK kvs)) ∨ ∃ kvs,H p = some (.dT kvs))) ∨ (T = "set"∧∃ S n,H p = some (.set S n))
 | _=>False
theorem tyV_is {pins:List (Addr × Obj)} {σ:St} {H:Hp} {s:Shared} {T:String} {x:V} {v:Value} (I:Inv X pins σ H s) (r:RelV x v) (ty:tyV X.K T x H) :
   s.TypeIs v T∧∀ a,v = .ref a→∃ ob,s.heap.get? a = some ob∧ob.dict = none:=by
 cases x with
 | str z =>
   obtain ⟨t,rfl⟩:=r
   cases (show T = "str" from ty)
   exact ⟨typeIs_str s z t,fun _ e=>nomatch e⟩
 | int i =>
   obtain ⟨t,rfl⟩:=r
   cases (show T = "int" from ty)
   exact ⟨typeIs_int s i t,fun _ e=>nomatch e⟩
 | ref p =>
   cases r
   rcases ty with ⟨rfl,xs,hq⟩ | ⟨rfl,o,hk,hc,hd⟩ | ⟨rfl,hk⟩ | ⟨rfl,S,n,hk⟩
   · obtain ⟨its,_,pl,_⟩:=I.list hq
     refine ⟨pl.isList.typeIs,fun a e=>?_⟩
     cases e
     obtain ⟨o,n,e,c,hd,_⟩:=pl
     exact ⟨o,e,hd⟩
   · refine ⟨⟨o,I.kIn p o hk,hc⟩,fun a e=>?_⟩
     cases e
     exact ⟨o,I.kIn _ o hk,hd⟩
   · have z:∃ o,s.heap.get? p = some o∧o.ExactDict:=by
       rcases hk with ⟨kvs,hk⟩ | ⟨kvs,hk⟩
       · obtain ⟨_,_,_,_,o,_,_,e,ex,_⟩:=I.hok p _ hk
         exact ⟨o,e,ex⟩
       · obtain ⟨_,_,_,_,o,_,_,e,ex,_⟩:=I.hok p _ hk
         exact ⟨o,e,ex⟩
     obtain ⟨o,e,ex⟩:=z
     refine ⟨⟨o,e,ex.1⟩,fun a e2=>?_⟩
     cases e2
     exact ⟨o,e,ex.2.1⟩
   · obtain ⟨o,_,_,_,e,ex,_⟩:=I.hok p _ hk
     refine ⟨⟨o,e,ex.1⟩,fun a e2=>?_⟩
     cases e2
     exact ⟨o,e,ex.2.1⟩
 | _=>exact False.elim ty
def tBM (K:PySem.W.Frag) (T:String) (r:V→List V→Hp→VK→Prop) (to:TE) (t:TA):TE:=fun σ H Q=>to σ H fun x H1=>tyV K T x H1∧t σ H1 fun xs H2=>r x xs H2 Q
variable {o e:Expr} {es:List Expr} {to:TE} {t:TA} {name:Str} {apos cpos:Pos} {T id:String} {r:V→List V→Hp→VK→Prop}
theorem J1 (pa:PlainAttrs T) (slot:Slot T name id) (hty:typeOf (.builtin id) = pure (.type "method_descriptor")) (hm:MtR X id r) (ho:PE X o to) (ha:PA X (e :: es) t)
   (hbase:attributeBase o name X.env (eval o X.env) = eval o X.env:=by rfl)
   (hfew:((backTo cpos (starEach (e :: es) X.env)).all (fun x=>!x.1) && (backToKw cpos (keywordEach [] X.env)).all (fun x=>x.1.isSome)
     && decide ((e :: es).length + ([]:List Keyword).length + (if ([]:List Keyword).isEmpty then 0 else 1) < 30)) = true:=by rfl)
   (hline:(apos.endLine == cpos.line) = true:=by rfl) (hs:starEach (e :: es) X.env = (false,eval e X.env) :: starEach es X.env:=by rfl) (hplain:(backTo cpos (starEach es X.env)).any (·.1) = false:=by rfl) :
   PE X (.Call (.Attribute o name apos) (e :: es) [] cpos) (tBM X.K T r to t):=by
 intro pins s σ H Q I h
 refine wpAny_Call_method_late hbase hfew hline rfl (thn (ho pins s σ H _ I h) fun v s1 ⟨x,H1,I1,r1,ty,q1⟩=>?_)
 obtain ⟨h1,h2⟩:=tyV_is I1 r1 ty
 refine ⟨T,id,pa,slot,hty,h1,h2,?_⟩
 have hA:=ha cpos pins s1 σ H1 _ I1 q1
 rw [hs] at hA ⊢
 refine Calls.callWith_builtin (by show (false || (backTo cpos (starEach es X.env)).any (·.1)) = false; rw [hplain] <;> rfl) (Calls.evalArgs_plain ?_)
 exact thn hA fun us s2 ⟨vs,H2,I2,r2,q2⟩=>hm pins s2 σ H2 x vs v us Q I2 r1 r2 q2
end
end L2
namespace L2
open PySem PySem.Spec PyProof.Rows
def MtM (X:Cx) (id:String) (r:V→List V→Hp→VK→Prop):Prop :=
 ∀ (pins:List (Addr × Obj)) (s:Shared) (σ:St) (H:Hp) (x:V) (xs:List V) (v:Value) (us:List Value) (Q:VK),Inv X pins σ H s→RelV x v→Vals xs us→r x xs H Q →
   wpAny (model X.prog X.w) X.A (call (.builtin id) (v :: us)) (EP X pins σ Q) X.xe s
theorem Vals.one:∀ {x:V} {us:List Value},Vals [x] us→∃ u,us = [u]∧RelV x u
 | _,_,.cons r .nil=>⟨_,rfl,r⟩
theorem Vals.zero:∀ {us:List Value},Vals [] us→us = []
 | _,.nil=>rfl
theorem Vals.reverse {xs:List V} {us:List Value} (h:Vals xs us):Vals xs.reverse us.reverse:=by
 induction h with
 | nil=>exact .nil
 | cons r t ih=>rw [List.reverse_cons,List.reverse_cons]; exact Vals.append ih (.cons r .nil)
theorem Vals.rep {xs:List V} {us:List Value} (h:Vals xs us):∀ k:Nat,Vals (List.replicate k xs).flatten (List.replicate k us).flatten
 | 0=>.nil
 | k + 1=>by
   rw [List.replicate_succ,List.replicate_succ,List.flatten_cons,List.flatten_cons]
   exact Vals.append h (Vals.rep h k)
theorem foldl_rep (its:List Value):∀ (k:Nat) (acc:List Value),
   List.foldl (fun x1 x2=>x1 ++ x2) acc.toArray (List.replicate k its.toArray) = (acc ++ (List.replicate k its).flatten).toArray
 | 0,acc=>by simp
 | k + 1,acc=>by
   have e:acc.toArray ++ its.toArray = (acc ++ its).toArray:=by simp
   have e2:(acc ++ its) ++ (List.replicate k its).flatten = acc ++ (List.replicate (k + 1) its).flatten:=by
     rw [List.replicate_succ,List.flatten_cons,List.append_assoc]
   rw [← e2,← foldl_rep its k (acc ++ its),← e,List.replicate_succ,List.foldl_cons]
section
variable {X:Cx} {pins:List (Addr × Obj)} {σ:St} {H:Hp} {s:Shared} {l b:Addr} {xs ys zs:List V}
theorem Inv.lset {its its':List Value} {n:Nat} {f:Array Value→Array Value} {t':Nat} (I:Inv X pins σ H s) (hH:H l = some (.lst xs))
   (e:s.heap.get? l = some { cls:=.type "list",data:=.seq its.toArray n }) (hf:f its.toArray = its'.toArray) (hv:Vals ys its') (hz:ys.length ≤ sizeLine) :
   Inv X pins σ (upd H l (.lst ys)) { s with heap:=s.heap.update l (Obj.mapSeq f),toks:=t' }:=by
 have q:=PySem.IsL.update e f
 rw [hf] at q
 refine I.write (x:=l) (e:=l) (by rw [hH]; exact trivial) (.inl rfl) (fun b' u hb hu=>(Heap.get?_update_other s.heap (Obj.mapSeq f) (Ne.symm hb)).trans hu) ⟨_,q⟩ ?_
 exact ⟨hz,its',_,hv,q⟩
theorem Inv.lnew {its:List Value} {t':Nat} (I:Inv X pins σ H s) (hv:Vals ys its) (hz:ys.length ≤ sizeLine) :
   Inv X pins σ (upd H s.heap.objs.size (.lst ys)) { s with heap:=s.heap.push { cls:=.type "list",data:=.seq its.toArray },toks:=t' } :=
 I.laid (fun _ _ q=>Heap.get?_push_of_some _ q) (Nat.le_refl _) ⟨hz,its,0,hv,Heap.get?_push_size _ rfl⟩
theorem Inv.fresh (I:Inv X pins σ H s):H s.heap.objs.size = none:=I.hok.fresh (Nat.le_refl _)
theorem Inv.lstM (I:Inv X pins σ H s) (hH:H l = some (.lst xs)):xs.length ≤ sizeLine∧∃ (its:List Value) (n:Nat),Vals xs its∧xs.length = its.length∧s.heap.get? l = some { cls:=.type "list",data:=.seq its.toArray n }:=by
 obtain ⟨z,its,n,r,e⟩:=I.hok l _ hH
 exact ⟨z,its,n,r,r.length,e⟩
theorem afQ {n:Nat} (h:n ≤ sizeLine):Builtin.List.listTooLong n = false:=by
 unfold Builtin.List.listTooLong
 exact decide_eq_false (by omega)
end
section
variable {X:Cx}
def ajv:V→List V→Hp→VK→Prop:=fun x vs H Q=>∃ l xs y,x = .ref l∧vs = [y]∧H l = some (.lst xs)∧xs.length < sizeLine∧Q .non (upd H l (.lst (xs ++ [y])))
theorem lB:MtM X "list.append" ajv:=by
 intro pins s σ H x vs v us Q I rx rv h
 obtain ⟨l,xs,y,rfl,rfl,hH,hz,q⟩:=h
 cases rx
 obtain ⟨u,rfl,ru⟩:=rv.one
 obtain ⟨z,its,n,r,hl,e⟩:=I.lstM hH
 refine call_meets F.slot_list_append ⟨_,e,rfl⟩ F.entry_list_append (F.args_list_append_2 _ _) (PySem.list_append l its.toArray n u (by rw [List.size_toArray]; omega)) ⟨e,?_⟩
 refine ⟨.non,_,I.lset (its':=its ++ [u]) hH e (by simp) (r.append (.cons ru .nil)) ?_,rfl,q⟩
 rw [List.length_append,List.length_singleton]
 omega
def ajw:V→List V→Hp→VK→Prop:=fun x vs H Q=>∃ l b xs zs,x = .ref l∧vs = [.ref b]∧H l = some (.lst xs)∧H b = some (.lst zs)∧xs.length + zs.length ≤ sizeLine∧Q .non (upd H l (.lst (xs ++ zs)))
theorem Za:MtM X "list.extend" ajw:=by
 intro pins s σ H x vs v us Q I rx rv h
 obtain ⟨l,b,xs,zs,rfl,rfl,hH,hB,hz,q⟩:=h
 cases rx
 obtain ⟨u,rfl,ru⟩:=rv.one
 cases ru
 obtain ⟨z,its,n,r,hl,e⟩:=I.lstM hH
 obtain ⟨z2,its2,n2,r2,hl2,e2⟩:=I.lstM hB
 have hsz:its.toArray.size + its2.toArray.size ≤ sizeLine:=by rw [List.size_toArray,List.size_toArray]; omega
 have hlong:¬ (!its.toArray.isEmpty && Builtin.List.listTooLong (its.toArray.size + its2.toArray.size)) = true:=by
   rw [afQ hsz,Bool.and_false]
   exact Bool.false_ne_true
 refine call_meets F.slot_list_extend ⟨_,e,rfl⟩ F.entry_list_extend (F.args_list_extend_2 _ _)
   (AutoSeq1.list_extend_list_list_0 l its.toArray n b its2.toArray n2 hlong (by rw [List.size_toArray]; omega) (by omega)) ⟨e,e2,?_⟩
 refine ⟨.non,_,I.lset (its':=its ++ its2) hH e (by simp) (r.append r2) ?_,rfl,q⟩
 rw [List.length_append]
 omega
def rCat:R2:=fun x y H Q=>∃ l b xs zs,x = .ref l∧y = .ref b∧H l = some (.lst xs)∧H b = some (.lst zs)∧xs.length + zs.length ≤ sizeLine∧∀ p,H p = none→Q (.ref p) (upd H p (.lst (xs ++ zs)))
theorem op_cat:OpR X (binaryOp .Add) rCat:=by
 intro pins s σ H x y v u Q I rx ry h
 obtain ⟨l,b,xs,zs,rfl,rfl,hH,hB,hz,q⟩:=h
 cases rx
 cases ry
 obtain ⟨z,its,n,r,hl,e⟩:=I.lstM hH
 obtain ⟨z2,its2,n2,r2,hl2,e2⟩:=I.lstM hB
 refine PySem.P.add_list e e2 ?_ (by rw [List.size_toArray,List.size_toArray]; omega)
 have ea:its.toArray ++ its2.toArray = (its ++ its2).toArray:=by simp
 rw [ea]
 exact ⟨.ref _,_,I.lnew (t':=s.toks) (r.append r2) (by rw [List.length_append]; omega),rfl,q _ I.fresh⟩
def rRep:R2:=fun x y H Q=>∃ l k xs,x = .ref l∧y = .int k∧H l = some (.lst xs)∧-(2 ^ 63) ≤ k∧k < 2 ^ 63∧xs.length * k.toNat ≤ sizeLine ∧
 ∀ p,H p = none→Q (.ref p) (upd H p (.lst (List.replicate k.toNat xs).flatten))
theorem len_rep {α:Type} (xs:List α) (k:Nat):(List.replicate k xs).flatten.length = k * xs.length:=by
 induction k with
 | zero=>simp
 | succ k ih=>rw [List.replicate_succ,List.flatten_cons,List.length_append,ih,Nat.succ_mul,Nat.add_comm]
theorem op_rep:OpR X (binaryOp .Mult) rRep:=by
 intro pins s σ H x y v u Q I rx ry h
 obtain ⟨l,k,xs,rfl,rfl,hH,h1,h2,hz,q⟩:=h
 cases rx
 obtain ⟨t,rfl⟩:=ry
 obtain ⟨z,its,n,r,hl,e⟩:=I.lstM hH
 have hlen:its.toArray.size * k.toNat ≤ sizeLine:=by rw [List.size_toArray,← hl]; exact hz
 have hcap:¬ its.toArray.size * k.toNat > (2 ^ 63 - 1) / 8:=by
   have:(sizeLine:Nat) ≤ (2 ^ 63 - 1) / 8:=by decide
   omega
 have hfit:¬ (!Builtin.List.listFitsIndex k) = true:=by
   rw [fitsIndex_both h1 h2]
   exact Bool.false_ne_true
 have hlong:¬ Builtin.List.listTooLong (its.toArray.size * k.toNat) = true:=by
   rw [afQ hlen]
   exact Bool.false_ne_true
 have hnew:List.foldl (fun x1 x2=>x1 ++ x2) #[] (List.replicate (if its.toArray.isEmpty = true then 0 else k.toNat) its.toArray) = (List.replicate k.toNat its).flatten.toArray:=by
   have f0:∀ m:Nat,List.foldl (fun x1 x2=>x1 ++ x2) #[] (List.replicate m its.toArray) = (List.replicate m its).flatten.toArray:=fun m=>by
     have:=foldl_rep its m []
     rw [List.nil_append] at this
     exact this
   rw [f0]
   cases its with
   | nil=>simp
   | cons a r'=>rw [if_neg (by simp)]
 refine wpAny_binaryOp_repeat_ref (T:="list") (U:="int") (by decide) ⟨_,e,rfl⟩ (fun s'=>typeIs_int s' k t) noFill_list_mul F.fills_int_mul F.slot_int_rmul repeat_list F.slot_int_index.lookup
   (call_meets F.slot_int_rmul (typeIs_int s k t) F.entry_int_rmul (F.args_int_rmul_2 _ _) (int___rmul___int_list k t l its.toArray n)
     ⟨e,rfl,⟨_,e,rfl⟩,call_meets F.slot_list_mul ⟨_,e,rfl⟩ F.entry_list_mul (F.args_list_mul_2 _ _) (AutoListH.list___mul___list_int_3 l its.toArray n k t hfit hcap hlong) ⟨e,?_⟩⟩)
 rw [hnew]
 exact ⟨.ref _,_,I.lnew (t':=s.toks) (r.rep k.toNat) (by rw [len_rep,Nat.mul_comm]; exact hz),rfl,q _ I.fresh⟩
end
section
variable {prog:Program} {w:World} {A:Around} {E:Value→Shared→Prop} {s:Shared}
end
section
variable {X:Cx}
end
end L2
namespace Att
open PySem PySem.W PySem.Calls PyProof.Rows
theorem Pa {P:Params} {h:Heap}:∀ (ns:List Int) (vs:List Value),WellAll P h vs (ns.map WData.int)→IntsAre vs ns:=by
 intro ns
 induction ns with
 | nil =>
   intro vs w
   rw [List.map_nil] at w
   cases w
   exact .nil
 | cons n ns ih =>
   intro vs w
   rw [List.map_cons] at w
   cases w with
   | cons a b =>
     cases a
     exact .cons _ _ (ih _ b)
theorem akJ {l:OpenLaw} {n:Nat} (hn:l.most = some n) {P:Params} {h:Heap} {args:List WData} {vals:List Value}
   (hpre:l.row.toRowW.claim.pre args = true) (hwl:WellAll P h vals args) :
   ∃ a vs ns,vals = [Value.ref a]∧args = [WData.list (ns.map WData.int)]∧h.get? a = some { cls:=.type "list",data:=.seq vs.toArray }∧IntsAre vs ns∧ns.length ≤ n:=by
 have hsh:WShape.hasAll [] args [.list .int] = true:=(pre_splitW hpre).1
 have hc:l.pre.holds [] { args:=args } = true:=(pre_splitW hpre).2
 obtain ⟨d,r,rfl,h1,h2⟩:=hasAllW_cons hsh
 obtain rfl:=hasAllW_nil h2
 obtain ⟨xs,rfl,h3⟩:=hasW_list h1
 obtain ⟨ns,rfl⟩:=items_int h3
 have hlen:ns.length ≤ n:=by
   unfold OpenLaw.pre at hc
   have h4:(WTm.not (.lt (.lit (.int (n:Int))) (.len (.arg 0)))).holds [] { args:=[.list (ns.map .int)] } = true:=by
     have h4:=(holds_andW hc).1
     rw [hn] at h4
     exact h4
   have h5:=condW_of h4 (w_not (w_lt w_lit (w_len_list (w_arg rfl))))
   rw [List.length_map] at h5
   refine Nat.le_of_not_lt fun q=>?_
   have q':(n:Int) < ((ns.length:Nat):Int):=by omega
   first
     | (rw [decide_eq_true q'] at h5; exact absurd h5 (by decide))
     | (simp at h5; omega)
 cases hwl with
 | cons w1 w2 =>
   cases w2
   cases w1 with
   | list ho hall=>exact ⟨_,_,ns,rfl,rfl,ho,Pa ns _ hall,hlen⟩
theorem akE (l:OpenLaw) (args:List WData):l.row.toRowW.claim.post args (.bool true) args = true :=
 postW_of (r:=l.row.toRowW) (X:=(true == true))
   (show WShape.has [] (.bool true) .bool = true by first | rfl | decide | simp [WShape.has,WShape.arms,WShape.armsAll])
   (show (WTm.eq .res (.lit (.bool true))).value [] { args:=args,res:=some (.bool true),after:=args } = some (.bool (true == true)) from w_eq_bool (w_res rfl) w_lit) rfl
theorem aeC {l:OpenLaw} {n:Nat} {q:Program} {loose:List Str} {XP:(Str→Option Value)→Heap→Prop} {YP:World→Heap→Prop} {d:DefRec}
   (hn:l.most = some n) (hdf:d.params.defaults = [])
   (call:∀ (w:World) (s₀ s₁:Shared) (mg mb:Str→Option Value) (fa:Addr) (o:Obj) (pm cd doc:Value) (a:Addr) (vs:List Value) (ns:List Int),
     Ground q loose [] XP w s₀ mg mb s₁.heap→YP w s₁.heap →
     s₁.heap.get? fa = some o→o.data = .func (docDef d.name d.params d.body d.scope pm cd doc)→s₁.heap.CodeRec cd d.name→mg d.name = some (.ref fa) →
     s₁.heap.get? a = some { cls:=.type "list",data:=.seq vs.toArray }→IntsAre vs ns→ns.length ≤ n→s₁.gens = #[] →
     codeAny (model l.prog w) callerA (.call (.ref fa) ⟨[.ref a],[]⟩) (fun r s'=>r = .ok (.ret (.bool true))∧OldK s₁.heap s'.heap∧s'.os = s₁.os∧AllBare s'.gens) s₁) :
   WalkO q loose XP YP l.row.toRowW d [] (fun f vs=>PySem.call f vs):=by
 intro w s₀ s₁ mg mb G Y fa o pm cd doc dV kV ho hd hcd hD hmg hg args vals as hpre hlay hrd hwl hlo
 obtain rfl:dV = .none:=Dflts.none hD hdf
 obtain rfl:kV = .none:=Dflts.noKw hD
 obtain ⟨a,vs,ns,rfl,rfl,hobj,hints,hlen⟩:=akJ hn hpre hwl
 refine enter_call (codeAny_mono (call w s₀ s₁ mg mb fa o pm cd doc a vs ns G Y ho (fd_plain hd) hcd hmg hobj hints hlen hg) fun r s' hq=>?_)
 obtain ⟨rfl,h2,h3,h4⟩:=hq
 exact ⟨.inl ⟨.bool true,.bool true,[],rfl,fun _=>rfl,.bool true,akE l _,fun _=>⟨List.Pairwise.nil,fun _ hm=>(nomatch hm)⟩⟩,h2,h3,h4⟩
section
variable {prog:Program} {w:World} {A:Around} {E:Value→Shared→Prop} {s:Shared} {K:Frag}
end
end Att
namespace L2
open PySem PySem.Spec PyProof.Rows
theorem Zg:∀ {vs:List Value} {ns:List Int},IntsAre vs ns→Vals (ns.map V.int) vs
 | _,_,.nil=>.nil
 | _,_,.cons n t h=>.cons ⟨t,rfl⟩ (Zg h)
def Only (H:Hp):Prop:=∀ b,H b = none ∨ ∃ o xs,H b = some (.frz o (.lst xs))
theorem law_call {P:Program} {w:World} {K:PySem.W.Frag} {mg mb:Str→Option Value} {CX:CXT} {k:Nat} {fa a:Addr} {fd:FuncData} {x:Str} {sp:Sp} {s₁:Shared} {vs:List Value} {ns:List Int}
   (KX:K.In s₁.heap) (hns:s₁.heap.Ns mainGlobals mg) (hb:s₁.heap.Ns builtinsNs mb) (hbb:∀ x:Str,x ≠ "__name__"→mb x = bootBuiltins x) (hlim:s₁.heap.NoLimit) (hg:s₁.gens = #[])
   (ha:s₁.heap.get? a = some { cls:=.type "list",data:=.seq vs.toArray }) (hi:IntsAre vs ns) (hl:ns.length ≤ sizeLine) (hr:iW k callerA)
   (F:∀ base:Heap,K.In base→base.Ns mainGlobals mg→bx P w K mg base CX k fa fd [x] sp) (hbind:∀ (s:Shared) (u:Value),BindsTo s fd ⟨[u],[]⟩ [(x,u)])
   (hsp:∀ H:Hp,Only H→SqL K H a (ns.map V.int)→sp [.ref a] H (fun v _=>v = .bl true) fun _ _ _=>False)
   (hCX:∀ H e s',CX [] H s₁ (fun _ _ _=>False) e s'→False) :
   codeAny (model P w) callerA (.call (.ref fa) ⟨[.ref a],[]⟩) (fun r s'=>r = .ok (.ret (.bool true))∧OldK s₁.heap s'.heap∧s'.os = s₁.os∧AllBare s'.gens) s₁:=by
 have rv:=Zg hi
 have lenV:=hi.length
 have core:∀ H:Hp,Only H→SqL K H a (ns.map V.int)→HOk P w H s₁.heap→(∀ b,H b ≠ none→b = a)→(H a ≠ none→K.lookup a = none) →
     codeAny (model P w) callerA (.call (.ref fa) ⟨[.ref a],[]⟩) (fun r s'=>r = .ok (.ret (.bool true))∧OldK s₁.heap s'.heap∧s'.os = s₁.os∧AllBare s'.gens) s₁:=by
   intro H hO hS hok hA hK
   have base_of:∀ {b:Addr} {o:Obj},s₁.heap.get? b = some o→H b = none→(hidT s₁.heap H).get? b = some o:=fun e n=>hidT_get e n
   have noA:∀ {b:Addr} {o:Obj} {es:Array DictEntry} {ep:Nat},s₁.heap.get? b = some o→o.data = .dict es ep→H b = none:=fun {b o es ep} e d=>by
     cases q:H b with
     | none=>rfl
     | some u =>
       have e':b = a:=hA b (by rw [q]; simp)
       subst e'
       rw [ha] at e; cases e
       have d':Data.seq vs.toArray _ = Data.dict es ep:=d
       cases d'
   have nsK:∀ {b:Addr} {m:Str→Option Value},s₁.heap.Ns b m→(hidT s₁.heap H).Ns b m:=fun {b m} ⟨o,es,ep,e,d,r⟩=>⟨o,es,ep,base_of e (noA e d),d,r⟩
   have hKb:K.In (hidT s₁.heap H):=fun b o e=>base_of (KX b o e) (by
     cases q:H b with
     | none=>rfl
     | some u =>
       have e':b = a:=hA b (by rw [q]; simp)
       subst e'
       rw [hK (by rw [q]; simp)] at e; cases e)
   have hM:Mod K mg (hidT s₁.heap H):=⟨hKb,nsK hns,⟨mb,nsK hb,hbb⟩,let ⟨mc,h1,h2⟩:=hlim; ⟨mc,nsK h1,h2⟩⟩
   have e0:Env0 P w K mg (hidT s₁.heap H) callerA [] s₁ H:=⟨rfl,hM,fun b o e=>of_hidT e,Nat.le_of_eq (akd _ _),trivial,fun b hb=>absurd (show b ∈ ([]:List Addr) from hb) (by simp),hok,.of_eq hg⟩
   refine codeAny_mono ((F _ hKb (nsK hns)).run callerA [] s₁ H ⟨[.ref a],[]⟩ [.ref a] [.ref a] _ _ hr e0 (hbind s₁ (.ref a)) (.cons rfl .nil) (hsp H hO hS)) fun r s' h=>?_
   cases r with
   | error e=>exact (hCX H e s' h).elim
   | ok fl =>
     cases fl with
     | next=>exact False.elim h
     | brk=>exact False.elim h
     | cont=>exact False.elim h
     | ret u =>
       obtain ⟨v,H',os,bare,un,hok',r',q⟩:=h
       have q':v = .bl true:=q
       subst q'
       obtain rfl:u = Value.bool true:=r'
       refine ⟨rfl,OldK.of_keep fun b o e=>?_,os,bare⟩
       cases q:H b with
       | none=>exact un.keep b o e q (by intro z; exact absurd (show b ∈ ([]:List Addr) from z) (by simp)) (by simp)
       | some u =>
         rcases hO b with z | ⟨ob,xs,z⟩
         · rw [q] at z; cases z
         · have z2:=un.Es b ob _ z
           obtain ⟨e1,_⟩:=hok b _ z
           obtain ⟨e2,_⟩:=hok' b _ z2
           rw [e] at e1; cases e1
           exact e2
 cases hk:K.lookup a with
 | some o =>
   have e:=KX a o hk
   rw [ha] at e
   cases e
   refine core (fun _=>none) (fun _=>.inl rfl) (.inr ⟨_,vs.toArray,_,hk,rfl,rfl,rfl,by rw [List.size_toArray,lenV]; exact hl,by simpa using rv⟩) (fun b u z=>by have z':(none:Option HO) = some u:=z; cases z') (fun b z=>absurd rfl z) fun z=>absurd rfl z
 | none =>
   refine core (fun b=>if b = a then some (.frz { cls:=.type "list",data:=.seq vs.toArray } (.lst (ns.map V.int))) else none) (fun b=>?_) (.inl (.inr ⟨{ cls:=.type "list",data:=.seq vs.toArray },if_pos rfl⟩)) (fun b u z=>?_) (fun b z=>?_) fun _=>hk
   · by_cases hb:b = a
     · exact .inr ⟨_,_,if_pos hb⟩
     · exact .inl (if_neg hb)
   · by_cases hb:b = a
     · have z':=(if_pos hb).symm.trans z
       cases z'
       subst hb
       exact ⟨ha,by rw [List.length_map]; exact hl,vs,_,rv,ha⟩
     · have z':=(if_neg hb).symm.trans z
       cases z'
   · by_cases hb:b = a
     · exact hb
     · exact absurd (if_neg hb) z
end L2
namespace L2
open PySem PySem.Spec PyProof.Rows
theorem walk_of {l:PySem.W.OpenLaw} {n k:Nat} {q:Program} {loose:List Str} {XP:(Str→Option Value)→Heap→Prop} {YP:World→Heap→Prop} {d:DefRec} {K:Params→PySem.W.Frag} {CX:World→CXT} {sp:World→Sp} {x:Str}
   (hn:l.most = some n) (hn2:n ≤ sizeLine) (hdf:d.params.defaults = []) (hr:iW k callerA)
   (hY:∀ (w:World) (h:Heap),YP w h→(K w.params).In h)
   (F:∀ (w:World) (mg:Str→Option Value) (fa:Addr) (h:Heap),(K w.params).In h→h.Ns mainGlobals mg→mg d.name = some (.ref fa) →
     ∃ fd:FuncData,(∀ (s:Shared) (u:Value),BindsTo s fd ⟨[u],[]⟩ [(x,u)]) ∧
       ∀ base:Heap,(K w.params).In base→base.Ns mainGlobals mg→bx l.prog w (K w.params) mg base (CX w) k fa fd [x] (sp w))
   (hsp:∀ (w:World) (H:Hp) (a:Addr) (ns:List Int),ns.length ≤ n→Only H→SqL (K w.params) H a (ns.map V.int)→sp w [.ref a] H (fun v _=>v = .bl true) fun _ _ _=>False)
   (hCX:∀ (w:World) (H:Hp) (s:Shared) (e:Value) (s':Shared),CX w [] H s (fun _ _ _=>False) e s'→False) :
   PySem.W.WalkO q loose XP YP l.row.toRowW d [] (fun f vs=>PySem.call f vs):=by
 refine Att.aeC hn hdf fun w s₀ s₁ mg mb fa o pm cd doc a vs ns G Y ho hd hcd hmg hobj hints hlen hg=>?_
 have KX:=hY w _ Y
 obtain ⟨fd,hb,hF⟩:=F w mg fa _ KX G.T.g hmg
 exact law_call KX G.T.g G.T.b G.T.builtins G.T.nolimit hg hobj hints (Nat.le_trans hlen hn2) hr hF hb (fun H hO hS=>hsp w H a ns hlen hO hS) fun H e s'=>hCX w H s₁ e s'
end L2
namespace L2
open PySem PySem.Spec PyProof.Rows
def inClass (s:Stmt) (j:Nat):Stmt:=match s with
 | .ClassDef _ _ _ body _ _ _ _ _ _ _=>body.getD j (.Pass ⟨0,0,0,0⟩)
 | _=>.Pass ⟨0,0,0,0⟩
def aK (s:Stmt):Arguments:=match s with
 | .FunctionDef _ a _ _ _ _ _ _ _ _=>a
 | _=>{ posonlyargs:=[],args:=[],vararg:=none,kwonlyargs:=[],kw_defaults:=[],kwarg:=none,defaults:=[] }
def aH (s:Stmt):List Stmt:=match s with
 | .FunctionDef _ _ b _ _ _ _ _ _ _=>b
 | _=>[]
def ao (s:Stmt):Scope:=match s with
 | .FunctionDef _ _ _ _ _ _ sc _ _ _=>sc
 | _=>{ kind:=.function,names:=[],isGenerator:=false,isCoroutine:=false }
abbrev CX0:CXT:=fun _ _ _ _ _ _=>False
abbrev E0:XK:=fun _ _ _=>False
theorem pass0 {X:Cx}:oh CX0 X E0:=fun _ _ _ _ _ _ _ h=>h.elim
structure Fun (K:PySem.W.Frag) (x qual:Str) (st:Stmt) (f:Addr) (fd:FuncData):Prop where
 ex:∃ (oc:Value) (od:Option Addr) (kV doc pm:Value) (an:Option Addr) (cdv ct:Value) (osl:Array (Option Value)),
   fd = PySem.W.fnOf x qual (aK st) (aH st) (ao st) .none kV doc pm an cdv ct∧K.lookup f = some ⟨oc,od,.func fd,osl⟩∧PySem.W.codeIn K cdv qual = true
 kp:PySem.W.keepIn K (.ref f) = true
section
variable {P:Program} {w:World} {K:PySem.W.Frag} {mg:Str→Option Value} {base:Heap}
theorem Fun.ok {x qual:Str} {st:Stmt} {f:Addr} {fd:FuncData} {N ps:List Str} {k:Nat} {sp:Sp} (F:Fun K x qual st f fd) (S:aM N ps (ao st)) (len:∀ vs H Q E,sp vs H Q E→vs.length = ps.length)
   (hbody:∀ (cdv:Value) (A:Around) (outer:List Env) (s:Shared) (H:Hp) (vs:List V) (Q:VK) (E:XK),iW k (A.deeper (envOfC qual (ao st) s.heap.objs.size f cdv))→sp vs H Q E →
     ∃ t,PSs (O1 CX0 P w K mg base N qual (ao st) f cdv A outer s H E).nox (aH st) t∧t { nx:=fun _ H'=>Q .non H',rt:=Q } (start N vs) H):bx P w K mg base CX0 (k + 1) f fd ps sp:=by
 obtain ⟨oc,od,kV,doc,pm,an,cdv,ct,osl,rfl,lk,hcd⟩:=F.ex
 refine fn_of lk hcd S len fun A outer s H vs Q E hr hsp=>?_
 obtain ⟨t,h,q⟩:=hbody cdv A outer s H vs Q E hr hsp
 exact ⟨t,h.nox,q⟩
theorem Fun.binds {x qual:Str} {st:Stmt} {f:Addr} {fd:FuncData} {ps:List Str} (F:Fun K x qual st f fd)
   (h:∀ (kV doc pm:Value) (an:Option Addr) (cdv ct:Value) (us:List Value),us.length = ps.length→bindArgs (PySem.W.fnOf x qual (aK st) (aH st) (ao st) .none kV doc pm an cdv ct) ⟨us,[]⟩ = pure (ps.zip us)):Binds K fd ps []:=by
 obtain ⟨oc,od,kV,doc,pm,an,cdv,ct,osl,rfl,lk,hcd⟩:=F.ex
 exact .all (h kV doc pm an cdv ct)
theorem aZ {x qual:Str} {st:Stmt} {f:Addr} {oc:Value} {od an:Option Addr} {osl:Array (Option Value)} {kV doc pm cdv ct:Value} (l:K.lookup f = some ⟨oc,od,.func (PySem.W.fnOf x qual (aK st) (aH st) (ao st) .none kV doc pm an cdv ct),osl⟩)
   (c:PySem.W.codeIn K cdv qual = true) (k:PySem.W.keepIn K (.ref f) = true):Fun K x qual st f (PySem.W.fnOf x qual (aK st) (aH st) (ao st) .none kV doc pm an cdv ct):=⟨⟨oc,od,kV,doc,pm,an,cdv,ct,osl,rfl,l,c⟩,k⟩
end
section
variable {X:Cx}
theorem pv (i:Nat) {x:Str} {pos:Pos} (hN:X.N[i]? = some x:=by rfl) (hv:Vis X.env.scope x:=by first | exact Or.inl rfl | exact Or.inr (Or.inl rfl) | exact Or.inr (Or.inr rfl)) (hd:(x == ("__debug__":Str)) = false:=by decide)
   (hcd:(x == ("__classdict__":Str)) = false:=by decide):PE X (.Name x pos) (DN i):=pe_var hN hv hd hcd
end
def bL (H H':Hp):Prop:=∀ b o,H b = some o→H' b = some o
theorem bL.refl (H:Hp):bL H H:=fun _ _ h=>h
theorem bL.trans {H H1 H2:Hp} (a:bL H H1) (b:bL H1 H2):bL H H2:=fun c o h=>b c o (a c o h)
theorem bL.free {H H':Hp} (e:bL H H') {l:Addr} (h:H' l = Option.none):H l = Option.none:=by
 cases q:H l with
 | none=>rfl
 | some o =>
   rw [e l o q] at h
   cases h
theorem bL.seq {K:PySem.W.Frag} {H H':Hp} {a:Addr} {xs:List V} (e:bL H H') (h:SqL K H a xs):SqL K H' a xs:=by
 rcases h with (h | ⟨o,h⟩) | h
 · exact .inl (.inl (e _ _ h))
 · exact .inl (.inr ⟨o,e _ _ h⟩)
 · exact .inr h
end L2
set_option maxHeartbeats 1000000
namespace MX
open PySem
section
variable {prog:Program} {w:World} {A:Around} {E:Value→Shared→Prop} {h:Heap} {g:Array GenState} {d:Drawn} {t:Nat} {os:OsState}
variable {nm q:Str} {C N:Addr} {bs bm bmB:List Value} {hdct:Bool} {sn:List Str} {sub:List Value} {ab:Bool} {col:Option Bool} {dd:Option Addr} {k0 k1 k2 k3 k5:Option Value} {B newId initId:String}
theorem ajT (F:ExcBaseFacts B newId initId bmB) (T:OwnTail h bmB bm) {mN:Str→Option Value} {vs:List Value} {Q:Value→Shared→Prop}
   (hC:h.get? C = some (excClassObj nm q C N bs bm hdct sn sub ab col dd k0 k1 k2 k3 k5 newId)) (hn:h.Ns N mN) (hi:mN "__init__" = none) (hz:vs.length ≤ sizeLine)
   (k:∀ h' e,Heap.MadeExcOf h h' e (.ref C) vs→Q (.ref e) ⟨h',g,d,t,os⟩):wpAny (model prog w) A (call (.ref C) vs) Q E ⟨h,g,d,t,os⟩ :=
 wpAny_call_exc_subT (hrest:=hz) F T hC hn hi k
end
section
variable {prog:Program} {w:World} {A:Around} {E:Value→Shared→Prop} {h:Heap} {g:Array GenState} {d:Drawn} {t:Nat} {os:OsState} {x C:Addr} {ox:Obj} {cd:ClassData} {name:Str} {v:Value} {tk:Tok}
open Builtin Builtin.ObjectAttr
end
end MX
namespace MX
open PySem PySem.W PySem.Calls PyProof.Rows Builtin Builtin.ObjectAttr
abbrev bmV:List Value:=[.type "ValueError",.type "Exception",.type "BaseException",.type "object"]
def onlyRefs:List Value→Bool
 | []=>true
 | .ref _ :: r=>onlyRefs r
 | _=>false
structure ExcGet (K:Frag) (C:Addr):Prop where
 ga:findIn K (.ref C) "__getattribute__" = some (some (.builtin "BaseException.__getattribute__"))
 gh:findIn K (.ref C) "__getattr__" = some none
 sa:findIn K (.ref C) "__setattr__" = some (some (.builtin "object.__setattr__"))
 sub:mroIn K C (.type "BaseException") = some true
 top:mroIn K C (.type "object") = some true
 cl:findIn K (.ref C) "__class__" = some (some (.builtin "object.__class__"))
 get:specialIn K (.builtin "object.__class__") "__get__" = some (some (.builtin "getset_descriptor.__get__"))
 tk:takesIn K (.builtin "object.__class__") = some true
 cls:∃ cd l,clsIn K C = some cd∧cd.hasDict = true∧cd.mro = l ++ bmV∧onlyRefs l = true
section
variable {prog:Program} {w:World} {A:Around} {E:Value→Shared→Prop} {s:Shared} {K:Frag} {x C:Addr} {ox:Obj} {od:Option Obj} {name:Str}
theorem excBy {fill expr:Bool} {tk:Tok} {Q:Value→Shared→Prop} {v:Value} (G:ExcGet K C) (X:K.In s.heap) (I:InstAt s.heap x ox C od) (hh:handedIn v = true)
   (hf:wpAny (model prog w) A.in1 (Builtin.«object.__getattribute__» ⟨[.ref x,.str name tk],[]⟩) (fun fin s'=>fin = .done (.ret v)∧Q v s') (fun _ _=>False) s) :
   wpAny (model prog w) A (getAttrBy (.ref x) (.str name tk) fill expr) Q E s:=by
 have L0:=I.type (M:=model prog w)
 have L1:=looks_findIn (M:=model prog w) X G.ga
 have L2:Looks (model prog w) s.heap (hookBefore (.ref C)) none:=looks_findIn (M:=model prog w) X G.gh
 have b:=PySem.F.attr_ValueError.ga.bind (.ref x)
 unfold getAttrBy
 refine wpAny_holding (wpAny_bind (L0.here (wpAny_bind (L1.here ?_))))
 have c1:(onTheHeap (Value.ref C) && Value.builtin "BaseException.__getattribute__" == Value.builtin "object.__getattribute__") = false:=by
   rw [show (Value.builtin "BaseException.__getattribute__" == Value.builtin "object.__getattribute__") = false by decide +kernel]
   simp
 show wpAny _ _ (if (onTheHeap (Value.ref C) && Value.builtin "BaseException.__getattribute__" == Value.builtin "object.__getattribute__") = true then _ else _) _ _ _
 rw [c1,if_neg Bool.false_ne_true]
 unfold getAttrByItsOwn
 refine wpAny_bind (L2.here (wpAny_bind (wpAny_attempt (wpAny_holding ?_))))
 have c2:callGetattribute (.ref x) (.str name tk) (.builtin "BaseException.__getattribute__") expr = boundAndCalled (.builtin "BaseException.__getattribute__") (.ref x) (.str name tk):=by cases expr <;> rfl
 rw [c2]
 unfold boundAndCalled
 rw [b]
 refine wpAny_bind (wpAny_pure ?_)
 have hk:builtinKind "BaseException.__getattribute__" = some .slot:=by decide +kernel
 have hs:splitId "BaseException.__getattribute__" = some ("BaseException","__getattribute__"):=by decide +kernel
 show wpAny (model prog w) A (call (.builtin "BaseException.__getattribute__") [.ref x,.str name tk]) _ _ s
 have sub:Looks (model prog w) s.heap (isInstance (.ref x) (.type "BaseException")) true:=L0.andThen (looks_mroIn X G.sub)
 refine wpAny_call (codeAny_call_builtin PySem.F.attr_ValueError.ga.plain PySem.F.entry_bexc_ga (@check_slot (model prog w) _ _ s "BaseException.__getattribute__" "BaseException" "__getattribute__" (.ref x) [.str name tk] [] _ hk hs sub (PySem.F.args_bexc_ga (.ref x) (.str name tk)) ?_))
 refine wpAny_mono hf (fun fin s' z=>?_) fun _ _ z=>z.elim
 obtain ⟨rfl,z⟩:=z
 show wpAny _ _ (handedOut v) _ _ _
 rw [handedOut_of hh]
 exact wpAny_pure z
theorem excClass {Q:Option Value→Shared→Prop} (G:ExcGet K C) (X:K.In s.heap) (I:InstAt s.heap x ox C od) (h:Q (some (.ref C)) { s with toks:=s.toks + 1 }) :
   wpAny (model prog w) A (getAttr? (.ref x) "__class__") Q E s:=by
 obtain ⟨cd,l,hc,hd,hm,hr⟩:=G.cls
 have hf:findObj K C od "__class__" = some (.bind (.builtin "getset_descriptor.__get__") (.builtin "object.__class__")):=by
   unfold findObj
   rw [hc,Option.bind_some,G.cl,Option.bind_some]
   dsimp only
   rw [G.get,Option.bind_some]
   dsimp only
   rw [G.tk,Option.bind_some]
 unfold getAttr? getAttrBy?
 refine wpAny_bind (wpAny_mkText (wpAny_bind (wpAny_attempt (excBy (v:=.ref C) (s:={ s with toks:=s.toks + 1 }) G X I rfl ?_))))
 · obtain ⟨hp,g,d,t,os⟩:=s
   have L0:=I.type (M:=model prog w)
   have L3:=looks_find (M:=model prog w) X I hf
   unfold Builtin.«object.__getattribute__»
   repeat (first | with_reducible refine wpAny_call ?_ | lk)
   refine class_get X I G.top ?_
   exact wpAny_pure ⟨rfl,wpAny_pure h⟩
theorem excKit (G:ExcGet K C):KitX K (.ref x) (.ref C) (fun h=>InstAt h x ox C od) where
 ty:=fun _ _ _ I=>I.type
 it:=fun _ _ X _=>by
   obtain ⟨cd,l,hc,_⟩:=G.cls
   unfold clsIn at hc
   split at hc
   · rename_i ho
     intro A' Q' E' s' k q
     unfold isType loadHead
     exact wpAny_bind (wpAny_loadPart (k _ _ (X _ _ ho)) (wpAny_pure q))
   · cases hc
 ne:=fun h tp dd its n sl X htp=>by
   obtain ⟨cd,l,hc,_⟩:=G.cls
   refine Bool.eq_false_iff.mpr fun q=>?_
   obtain rfl:C = tp:=Value.ref.inj (beq_iff_eq.mp q)
   unfold clsIn at hc
   split at hc
   · rename_i ho
     have z:=(X _ _ ho).symm.trans htp
     cases z
   · cases hc
 ca:=fun X I k=>excClass G X I k
end
end MX
namespace L2
open PySem PySem.Spec PyProof.Rows
section
variable {prog:Program} {w:World} {A:Around} {R:Result→Shared→Prop} {s:Shared}
theorem aeO {elt tg iter:Expr} {ifs:List Expr} {sc:Scope} {pos:Pos} {it acc:Value} {env:Env} (J:Nat→Shared→Prop)
   (turn:∀ n s,J n s→wpAny (model prog w) A (pyNext it) (fun r s1=>match r with
     | none=>R (.ok .next) s1
     | some v=>wpAny (model prog w) A (letOwnedTupleGo tg it v) (fun _ s2=>wpAny (model prog w) A (assign tg env v) (fun _ s3 =>
         wpAny (model prog w) A (forIn ifs true fun c r=>if r = true then do let ok ← isTrue c env (eval c env); pure (ForInStep.yield ok) else pure (ForInStep.yield r)) (fun ok s4 =>
           if ok = true then wpAny (model prog w) A (eval elt env) (fun x s5=>wpAny (model prog w) A (call (.builtin "list.append") [acc,x]) (fun _ s6=>∃ m,m < n∧J m s6) (fun _ _=>False) s5) (fun _ _=>False) s4
           else ∃ m,m < n∧J m s4) (fun _ _=>False) s3) (fun _ _=>False) s2) (fun _ _=>False) s1) (fun _ _=>False) s)
   (n:Nat) (h:J n s):codeAny (model prog w) A (.compLoop (.ListComp elt [⟨tg,iter,ifs,0⟩] sc pos) 0 it acc env) R s:=by
 refine codeAny_loop rfl J (fun n s hJ=>?_) n h
 show wpAny _ A ((compTurn (.ListComp elt [⟨tg,iter,ifs,0⟩] sc pos) 0 it acc env).onRaise (fun x=>do noteFrame x env; theTreesLotGoes x)) _ _ s
 refine wpAny_noted ?_
 rw [compTurn_list]
 refine wpAny_bind (wpAny_standAt (wpAny_bind (wpAny_mono (turn n s hJ) (fun r s1 h1=>?_) fun _ _ z=>z.elim)))
 cases r with
 | none=>exact wpAny_pure h1
 | some v =>
   refine wpAny_bind (wpAny_mono h1 (fun _ s2 h2=>?_) fun _ _ z=>z.elim)
   refine wpAny_bind (wpAny_mono h2 (fun _ s3 h3=>?_) fun _ _ z=>z.elim)
   refine wpAny_bind (wpAny_mono h3 (fun ok s4 h4=>?_) fun _ _ z=>z.elim)
   cases ok with
   | false=>exact wpAny_pure ⟨rfl,h4⟩
   | true =>
     refine wpAny_bind (wpAny_bind (wpAny_mono h4 (fun x s5 h5=>?_) fun _ _ z=>z.elim))
     exact wpAny_bind (wpAny_mono h5 (fun _ s6 h6=>wpAny_pure (wpAny_pure ⟨rfl,h6⟩)) fun _ _ z=>z.elim)
end
abbrev cJ (X:Cx) (N':List Str) (sc:Scope) (cl:List (Str × Addr)) (s₀:Shared) (H₀:Hp) (C:Addr) (fp:List Addr) (pn:List (Addr × Obj)):Cx :=
 { X with N:=N',s₀:=s₀,H₀:=H₀,env:=compEnvC sc cl C X.env,outer:=X.stack,ex:=fp,fn:=fun _=>false,pn:=pn,xe:=fun _ _=>False }
def CellsOk (X:Cx):List (Str × Addr)→Prop
 | []=>True
 | (y,c) :: r=>(X.env.cells.lookup y = some c∧(X.env.kindOf y = some .cell ∨ X.env.kindOf y = some .free))∧CellsOk X r
def Mz (X:Cx) (sc:Scope) (cl:List (Str × Addr)):List Str→List (Option Nat)→Prop
 | [],[]=>True
 | y :: r,o :: q=>(match o with
     | none=>True
     | some j=>X.N[j]? = some y∧(cl.lookup y).isSome = true∧((relabel sc X.env).names.lookup y = some .cell ∨ (relabel sc X.env).names.lookup y = some .free))∧Mz X sc cl r q
 | _,_=>False
def capS (cap:List (Option Nat)) (σ:St):St:=cap.map fun o=>match o with | none=>none | some j=>(σ[j]?).join
structure Zh (X:Cx) (sc:Scope) (cl:List (Str × Addr)) (N':List Str) (cap:List (Option Nat)):Prop where
 clos:closureFor sc X.env = pure cl
 kind:sc.kind = .function
 ab9:(sc.names.all fun y=>y.2 != .cell) = true
 locals:(sc.names.all fun y=>y.2 != .local || sc.names.lookup y.1 == some .local) = true
 frees:(sc.names.all fun y=>y.2 != .free || (cl.lookup y.1).isSome) = true
 cells:CellsOk X cl
 caps:Mz X sc cl N' cap
theorem CellsOk.get {X:Cx}:∀ {cl:List (Str × Addr)} {y:Str} {c:Addr},CellsOk X cl→cl.lookup y = some c→X.env.cells.lookup y = some c∧(X.env.kindOf y = some .cell ∨ X.env.kindOf y = some .free)
 | [],_,_,_,e=>by simp at e
 | (z,d) :: r,y,c,h,e=>by
   by_cases q:y = z
   · subst q
     simp only [List.lookup_cons,beq_self_eq_true] at e
     cases e
     exact h.1
   · have q':(y == z) = false:=beq_eq_false_iff_ne.mpr q
     simp only [List.lookup_cons,q'] at e
     exact CellsOk.get h.2 e
theorem Mz.get {X:Cx} {sc:Scope} {cl:List (Str × Addr)}:∀ {N':List Str} {cap:List (Option Nat)} {i j:Nat} {y:Str},Mz X sc cl N' cap→N'[i]? = some y→cap[i]? = some (some j) →
   X.N[j]? = some y∧(cl.lookup y).isSome = true∧((relabel sc X.env).names.lookup y = some .cell ∨ (relabel sc X.env).names.lookup y = some .free)
 | [],_,_,_,_,_,e,_=>by simp at e
 | _ :: _,[],_,_,_,_,_,e=>by simp at e
 | z :: r,o :: q,0,j,y,h,e1,e2=>by
   simp at e1 e2
   subst e1 e2
   exact h.1
 | z :: r,o :: q,i + 1,j,y,h,e1,e2=>Mz.get (i:=i) h.2 (by simpa using e1) (by simpa using e2)
theorem Mz.len {X:Cx} {sc:Scope} {cl:List (Str × Addr)}:∀ {N':List Str} {cap:List (Option Nat)},Mz X sc cl N' cap→cap.length = N'.length
 | [],[],_=>rfl
 | [],_ :: _,h=>h.elim
 | _ :: _,[],h=>h.elim
 | _ :: _,_ :: _,h=>by simp [Mz.len h.2]
theorem Un.sameBut {fs ex:List Addr} {H H':Hp} {h h' h'':Heap} {C:Addr} (u:Un fs ex H H' h h') (sb:Heap.SameBut C h' h'') (hC:h.get? C = none):Un fs ex H H' h h'':=by
 have ne:∀ b o,h.get? b = some o→b ≠ C:=fun b o e z=>by rw [z,hC] at e; cases e
 refine ⟨fun b o e n h1 h2=>(sb.2 b (ne b o e)).trans (u.keep b o e n h1 h2),fun b o e n h1 h2=>?_,u.free,fun b o e hx=>?_,u.tups,u.Es,u.HJ⟩
 · obtain ⟨sl,q⟩:=u.slot b o e n h1 h2
   exact ⟨sl,(sb.2 b (ne b o e)).trans q⟩
 · obtain ⟨o',q⟩:=u.there b o e hx
   exact ⟨o',(sb.2 b (ne b o e)).trans q⟩
theorem HOk.sameBut {P:Program} {w:World} {H:Hp} {h h':Heap} {C:Addr} (x:HOk P w H h) (sb:Heap.SameBut C h h') (hC:H C = none):HOk P w H h':=fun b o e=>by
 refine (x b o e).stay (fun c u hc q=>(sb.2 c ?_).trans q) (fun _ q=>q) fun _ _ q=>q
 rintro rfl
 rcases hc with z | z
 · rw [← z,hC] at e; cases e
 · rw [hC] at z; cases z
def PIfs (X:Cx) (ifs:List Expr) (t:TT):Prop :=
 ∀ (pins:List (Addr × Obj)) (s:Shared) (σ:St) (H:Hp) (Q:Bool→Hp→Prop),Inv X pins σ H s→t σ H Q →
   wpAny (model X.prog X.w) X.A (forIn ifs true fun c r=>if r = true then do let ok ← isTrue c X.env (eval c X.env); pure (ForInStep.yield ok) else pure (ForInStep.yield r)) (TP X pins σ Q) X.xe s
def tTrue:TT:=fun _ H Q=>Q true H
theorem pf_nil {X:Cx}:PIfs X [] tTrue:=fun _ _ _ H _ I h=>wpAny_tests_nil ⟨H,I,h⟩
theorem pf_one {X:Cx} {c:Expr} {t:TT} (h:PT X c t):PIfs X [c] t:=fun pins s σ H Q I hw=>wpAny_tests_one (h pins s σ H Q I hw)
def CompGo (J:It) (g:TG) (tt:TT) (te:TE) (acc:Addr) (τ0:St) (H1:Hp) (Q:VK):Prop:=∃ W:Nat→Nat→List V→St→Hp→Prop,
 (∃ m,W 0 m [] τ0 (upd H1 acc (.lst [])))∧∀ i m ys τ H,W i m ys τ H→H acc = some (.lst ys)∧ys.length < sizeLine ∧
   ((J.stop i H∧Q (.ref acc) H) ∨ (J.go i H∧∀ x H',J.yld i H x H'→g x τ H' fun τ2 H2=>tt τ2 H2 fun b H3 =>
     if b = true then te τ2 H3 fun y H4=>H4 acc = some (.lst ys)∧∃ m',m' < m∧W (i + 1) m' (ys ++ [y]) τ2 (upd H4 acc (.lst (ys ++ [y])))
     else ∃ m',m' < m∧W (i + 1) m' ys τ2 H3))
def U4 (cap:List (Option Nat)) (wi:TI) (g:TG) (tt:TT) (te:TE):TE:=fun σ H Q=>wi σ H fun J H1=>∀ acc,H1 acc = none→CompGo J g tt te acc (capS cap σ) H1 Q
section
variable {X:Cx} {tg iter elt:Expr} {ifs:List Expr} {sc:Scope} {pos:Pos} {cl:List (Str × Addr)} {N':List Str} {cap:List (Option Nat)} {wi:TI} {g:TG} {tt:TT} {te:TE}
theorem inv_comp {pins:List (Addr × Obj)} {σ:St} {H:Hp} {s:Shared} {fp:List Addr} {h1:Heap} (S:Zh X sc cl N' cap) (I:Inv X pins σ H s) (hf:∀ b ∈ fp,Oi X pins H b) (hlt:∀ b ∈ fp,b < s.heap.objs.size)
   (hns:h1.Ns s.heap.objs.size (fun x=>([]:List (Str × Value)).reverse.lookup x)) (keep:∀ b o,s.heap.get? b = some o→h1.get? b = some o) :
   Inv (cJ X N' sc cl s H s.heap.objs.size fp (X.pn ++ pins)) [] (capS cap σ) H { s with heap:=h1 }:=by
 have nC:∀ b o,s.heap.get? b = some o→b ≠ s.heap.objs.size:=fun b o e=>Nat.ne_of_lt (Heap.lt_size e)
 have fsub:∀ b,b ≠ X.env.locals→b ∉ X.fs→b ∉ frs X.stack:=fun b h1 h2 z=>(List.mem_cons.mp (I.ai4 b z)).elim h1 h2
 refine ⟨⟨I.ok.mod,?_,I.ok.glob,I.ok.blt,Nat.le_refl _,fun x y c e1 e2=>?_,fun x hx=>?_,fun x c e=>absurd e (by simp),I.ok.hd,I.ok.frames,.inl rfl,fun b hb=>?_,I.bs,Nat.le_trans I.ok.bsz I.sz,fun b o e hb=>?_,fun b hb=>?_,I.stack,I.adS⟩,
   rfl,I.bare,Un.kept keep,⟨_,hns,fun i y v e1 e2 e3=>?_⟩,fun y c e=>?_,I.hok.fresh (Nat.le_refl _),fun y c e=>?_,fun p hp=>?_,I.hok.kept keep,?_⟩
 · show (relabel sc X.env).kind = .function
   exact S.kind
 · exact I.ok.inj _ _ c (S.cells.get e1).1 (S.cells.get e2).1
 ·
   have key:∀ k,(relabel sc X.env).names.lookup x = some k→k ≠ .local→k ≠ .globalImplicit→(x,NameKind.free) ∈ sc.names ∨ (x,k) ∈ sc.names:=fun k hk h1 h2=>by
     obtain ⟨⟨n,k0⟩,hm,e⟩:=List.mem_map.mp (PySem.mem_of_lookup hk)
     dsimp only at e
     split at e
     · rename_i q
       have q1:k0 = NameKind.free:=by
         rw [Bool.and_eq_true,Bool.and_eq_true] at q
         exact beq_iff_eq.mp q.1.1
       cases e
       subst q1
       exact .inl hm
     · cases e
       exact .inr hm
   have fin:(x,NameKind.free) ∈ sc.names→∃ c,cl.lookup x = some c:=fun hm=>by
     have z:=List.all_eq_true.mp S.frees _ hm
     simp only [bne_self_eq_false,Bool.false_or] at z
     exact Option.isSome_iff_exists.mp z
   have hx:(relabel sc X.env).names.lookup x = some .cell ∨ (relabel sc X.env).names.lookup x = some .free:=hx
   rcases hx with hx | hx
   · rcases key _ hx (by decide) (by decide) with z | z
     · exact fin z
     · exact absurd (List.all_eq_true.mp S.ab9 _ z) (by simp)
   · rcases key _ hx (by decide) (by decide) with z | z <;> exact fin z
 · obtain ⟨_,_,_,_,h5,_⟩:=hf b hb
   exact ⟨Nat.ne_of_lt (hlt b hb),fun x c e=>h5 x c (S.cells.get e).1⟩
 · obtain ⟨_,_,_,h4,_,_⟩:=hf b hb
   rcases h4 with z | z
   · exact I.ok.bD b o e z
   · exact absurd (Nat.lt_of_lt_of_le (Nat.lt_of_lt_of_le (Heap.lt_size e) I.ok.bsz) z) (Nat.lt_irrefl _)
 · obtain ⟨_,h2,h3,_,_,_⟩:=hf b hb
   exact fsub b h2 h3
 ·
   unfold capS at e2
   rw [List.getElem?_map] at e2
   cases ec:cap[i]? with
   | none=>rw [ec] at e2; cases e2
   | some o =>
     rw [ec] at e2
     cases o with
     | none=>cases e2
     | some j =>
       have e2:(σ[j]?).join = some v:=Option.some.inj e2
       obtain ⟨hj,hs,hk⟩:=S.caps.get e1 ec
       obtain ⟨c,hc⟩:=Option.isSome_iff_exists.mp hs
       obtain ⟨c1,c2⟩:=S.cells.get hc
       have ej:σ[j]? = some (some v):=by
         cases q:σ[j]? with
         | none=>rw [q] at e2; cases e2
         | some z=>rw [q] at e2; exact congrArg some e2
       obtain ⟨m,hm,hl⟩:=id I.loc
       obtain ⟨u,ru,lk⟩:=hl j y v hj ej (c2.elim (fun z=>.inr (.inl z)) fun z=>.inr (.inr z))
       refine ⟨u,ru,?_⟩
       rcases lk with ⟨z,_⟩ | ⟨_,c',e',⟨oc,eo,ed⟩⟩
       · rcases c2 with q | q <;> · rw [q] at z; cases z
       · rw [c1] at e'
         cases e'
         exact .inr ⟨hk,c,hc,oc,keep _ _ eo,ed⟩
 · obtain ⟨v,o,e1,e2⟩:=I.cell y c (S.cells.get e).1
   exact ⟨v,o,keep _ _ e1,e2⟩
 · exact I.qY y c (S.cells.get e).1
 · have hp:p ∈ X.pn ++ pins:=by simpa using hp
   obtain ⟨e,n,ne,nf,d⟩:=I.pin p hp
   exact ⟨keep _ _ e,n,nC _ _ e,fsub _ ne nf,d⟩
 · show (capS cap σ).length = N'.length
   unfold capS
   rw [List.length_map]
   exact S.caps.len
theorem Tf {pp:Pos} {use:Option (Value→Sem Unit)} {Q':Value→Shared→Prop} {pins:List (Addr × Obj)} {s:Shared} {σ:St} {H:Hp} {Q:VK} (S:Zh X sc cl N' cap) (hc:X.calm = true) (hi:PI X tg iter wi) (hg:∀ s₀ H₀ C fp pn,PG (cJ X N' sc cl s₀ H₀ C fp pn) tg g) (ht:∀ s₀ H₀ C fp pn,PIfs (cJ X N' sc cl s₀ H₀ C fp pn) ifs tt)
   (he:∀ s₀ H₀ C fp pn,PE (cJ X N' sc cl s₀ H₀ C fp pn) elt te) (hs:∀ x,foldedSetIterable iter X.env x = pure x) (I:Inv X pins σ H s) (h:U4 cap wi g tt te σ H Q)
   (fin:∀ (s6:Shared) (C a:Addr) (H6:Hp) (m:Str→Option Value),s6.heap.Ns C m→Oi X pins H6 C→(∀ h',Heap.SameBut C s6.heap h'→Inv X pins σ H6 { s6 with heap:=h' })→Q (.ref a) H6→compPost (model X.prog X.w) X.A X.xe use Q' (.ref a) C (.ok .next) s6) :
   wpAny (model X.prog X.w) X.A (comprehension (.ListComp elt [⟨tg,iter,ifs,0⟩] sc pos) sc X.env pp (newList []) false (eval iter X.env) use) Q' X.xe s:=by
 have ab9:∀ y ∈ sc.names,y.2 ≠ .cell:=fun y hy z=>absurd (List.all_eq_true.mp S.ab9 y hy) (by rw [z]; decide)
 have locals:∀ y ∈ sc.names,y.2 = .local→sc.names.lookup y.1 = some .local:=fun y hy z=>by
   have q:=List.all_eq_true.mp S.locals y hy
   rw [z] at q
   simpa using q
 refine wpAny_comprehension_free (use:=use) rfl hs S.clos S.kind locals (thn (hi pins s σ H _ I h) fun v s1 h1=>thn h1 fun itv s2 h2=>?_)
 obtain ⟨it,fp,tn,J,H2,e,I2,T,st2,f2,hR⟩:=h2
 subst e
 have nAcc:H2 s2.heap.objs.size = none:=I2.hok.fresh (Nat.le_refl _)
 obtain ⟨W,⟨m0,w0⟩,step⟩:=hR s2.heap.objs.size nAcc
 refine wpAny_newObj_type (wpAny_newFunctionEnv ab9 (by intro y hy; simp at hy) (fun h1 hns hsb=>?_) S.kind)
 have I3:Inv X pins σ (upd H2 s2.heap.objs.size (.lst [])) { s2 with heap:=s2.heap.push { cls:=.type "list",data:=.seq ([]:List Value).toArray } } :=
   I2.laid (t':=s2.toks) (fun b u e=>Heap.get?_push_of_some _ e) (Nat.le_refl _) ⟨Nat.zero_le _,[],0,.nil,Heap.get?_push_size _ rfl⟩
 have fpn:∀ b ∈ fp,b < s2.heap.objs.size:=fun b hb=>by
   obtain ⟨o,e,_⟩:=T.obj _ _ st2 b hb
   exact Heap.lt_size e
 have f3:∀ b ∈ fp,Oi X pins (upd H2 s2.heap.objs.size (.lst [])) b:=fun b hb=>⟨by rw [aN (Nat.ne_of_lt (fpn b hb))]; exact (f2 b hb).1,(f2 b hb).2⟩
 have hC:(s2.heap.push { cls:=.type "list",data:=.seq ([]:List Value).toArray }).get? (s2.heap.push { cls:=.type "list",data:=.seq ([]:List Value).toArray }).objs.size = none:=Heap.get?_none_of_le (Nat.le_refl _)
 have keep:∀ b o,(s2.heap.push { cls:=.type "list",data:=.seq ([]:List Value).toArray }).get? b = some o→h1.get? b = some o:=fun b o e =>
   (hsb.2 b (Nat.ne_of_lt (Heap.lt_size e))).trans (Heap.get?_push_of_some _ e)
 have I4:=inv_comp S I3 f3 (fun b hb=>by
   show b < (s2.heap.push _).objs.size
   rw [Heap.size_push]
   exact Nat.lt_succ_of_lt (fpn b hb)) hns keep
 have fpc:∀ {H':Hp},(∀ b ∈ fp,H' b = none)→∀ b ∈ fp,Oi (cJ X N' sc cl { s2 with heap:=s2.heap.push { cls:=.type "list",data:=.seq ([]:List Value).toArray } } (upd H2 s2.heap.objs.size (.lst [])) (s2.heap.push { cls:=.type "list",data:=.seq ([]:List Value).toArray }).objs.size fp (X.pn ++ pins)) [] H' b :=
   fun hn b hb=>⟨hn b hb,(I4.ok.exf b hb).1,I4.ok.exfs b hb,.inl hb,(I4.ok.exf b hb).2,fun p hp=>(f2 b hb).2.2.2.2.2 p (by simpa using hp)⟩
 have loop:∀ s5:Shared,(∃ i m ys τ H',Inv (cJ X N' sc cl { s2 with heap:=s2.heap.push { cls:=.type "list",data:=.seq ([]:List Value).toArray } } (upd H2 s2.heap.objs.size (.lst [])) (s2.heap.push { cls:=.type "list",data:=.seq ([]:List Value).toArray }).objs.size fp (X.pn ++ pins)) [] τ H' s5 ∧
     tn i s5.heap∧(∀ b ∈ fp,H' b = none)∧W i m ys τ H')→codeAny (model X.prog X.w) X.A (.compLoop (.ListComp elt [⟨tg,iter,ifs,0⟩] sc pos) 0 (.ref it) (.ref s2.heap.objs.size) (compEnvC sc cl (s2.heap.push { cls:=.type "list",data:=.seq ([]:List Value).toArray }).objs.size X.env))
     (compPost (model X.prog X.w) X.A X.xe use Q' (.ref s2.heap.objs.size) (s2.heap.push { cls:=.type "list",data:=.seq ([]:List Value).toArray }).objs.size) s5:=by
   rintro s5 ⟨i0,m0',ys0,τ0,H0',I0,st0,fr0,w0'⟩
   refine aeO (fun n s'=>∃ i ys τ H',Inv (cJ X N' sc cl { s2 with heap:=s2.heap.push { cls:=.type "list",data:=.seq ([]:List Value).toArray } } (upd H2 s2.heap.objs.size (.lst [])) (s2.heap.push { cls:=.type "list",data:=.seq ([]:List Value).toArray }).objs.size fp (X.pn ++ pins)) [] τ H' s' ∧
     tn i s'.heap∧(∀ b ∈ fp,H' b = none)∧W i n ys τ H') ?_ m0' ⟨i0,ys0,τ0,H0',I0,st0,fr0,w0'⟩
   rintro n s' ⟨i,ys,τ,H',I',st,fr,wv⟩
   obtain ⟨hacc,hlen,alt⟩:=step i n ys τ H' wv
   rcases alt with ⟨stop,q⟩ | ⟨go,stp⟩
   · refine thn (T.done (cJ X N' sc cl { s2 with heap:=s2.heap.push { cls:=.type "list",data:=.seq ([]:List Value).toArray } } (upd H2 s2.heap.objs.size (.lst [])) (s2.heap.push { cls:=.type "list",data:=.seq ([]:List Value).toArray }).objs.size fp (X.pn ++ pins)) rfl rfl rfl hc i [] s' τ H' _ I' (fpc fr) st stop) fun r s6 ⟨hr,I6⟩=>?_
     subst hr
     obtain ⟨m,hn,_⟩:=id I6.loc
     refine fin s6 _ _ H' m hn (I2.fpOk (by rw [Heap.size_push]; exact Nat.le_succ _) I6.free) (fun h' sb=>?_) q
     have un:Un (frs X.stack) fp H2 H' s2.heap h':=(Un.laid (o:=.lst []) (h':=s2.heap.push { cls:=.type "list",data:=.seq ([]:List Value).toArray }) (fun b u e=>Heap.get?_push_of_some _ e) (Nat.le_refl _) nAcc).trans (I6.base.sameBut sb hC)
     exact I2.call' (s':={ s6 with heap:=h' }) (ch:=fp) I6.os un (I6.hok.sameBut sb I6.free) I6.bare fun b hb=>⟨(f2 b hb).2.2.2.1,(f2 b hb).2.1,(f2 b hb).2.2.2.2.1,(f2 b hb).2.2.2.2.2⟩
   · refine thn (T.item (cJ X N' sc cl { s2 with heap:=s2.heap.push { cls:=.type "list",data:=.seq ([]:List Value).toArray } } (upd H2 s2.heap.objs.size (.lst [])) (s2.heap.push { cls:=.type "list",data:=.seq ([]:List Value).toArray }).objs.size fp (X.pn ++ pins)) rfl rfl rfl hc i [] s' τ H' _ I' (fpc fr) st go) fun r s6 ⟨u,hr,h6⟩=>?_
     subst hr
     refine thn h6 fun _ s7 ⟨x,H7,I7,rx,y7,st7,fr7⟩=>?_
     have I7':=I7.pinned (fpc fr7) (T.obj _ _ st7)
     refine thn (hg _ _ _ _ _ _ s7 τ H7 x u _ I7' rx (stp x H7 y7)) fun _ s8 ⟨τ8,H8,I8,q8⟩=>?_
     refine thn (ht _ _ _ _ _ _ s8 τ8 H8 _ I8 q8) fun ok s9 ⟨H9,I9,q9⟩=>?_
     have again:∀ {τa:St} {Ha:Hp} {sa:Shared} {ysa:List V},Inv (cJ X N' sc cl { s2 with heap:=s2.heap.push { cls:=.type "list",data:=.seq ([]:List Value).toArray } } (upd H2 s2.heap.objs.size (.lst [])) (s2.heap.push { cls:=.type "list",data:=.seq ([]:List Value).toArray }).objs.size fp (X.pn ++ pins)) ([] ++ Ub fp s7.heap) τa Ha sa →
         (∃ m',m' < n∧W (i + 1) m' ysa τa Ha)→∃ m',m' < n∧∃ i ys τ H',Inv (cJ X N' sc cl { s2 with heap:=s2.heap.push { cls:=.type "list",data:=.seq ([]:List Value).toArray } } (upd H2 s2.heap.objs.size (.lst [])) (s2.heap.push { cls:=.type "list",data:=.seq ([]:List Value).toArray }).objs.size fp (X.pn ++ pins)) [] τ H' sa ∧
           tn i sa.heap∧(∀ b ∈ fp,H' b = none)∧W i m' ys τ H':=fun {τa Ha sa ysa} Ia ⟨m',lt,wa⟩=>by
       refine ⟨m',lt,i + 1,ysa,τa,Ha,Ia.Km,T.keep _ _ _ st7 fun b hb o e=>(Ia.pin (b,o) (List.mem_append_right _ (List.mem_append_right _ (zQ hb e)))).1,fun b hb=>?_,wa⟩
       obtain ⟨o,e,_⟩:=T.obj _ _ st7 b hb
       exact (Ia.pin (b,o) (List.mem_append_right _ (List.mem_append_right _ (zQ hb e)))).2.1
     cases ok with
     | false=>exact again I9 q9
     | true =>
       refine thn (he _ _ _ _ _ _ s9 τ8 H9 _ I9 q9) fun v s10 ⟨y,H10,I10,ry,ha,hw⟩=>?_
       refine thn (lB _ s10 τ8 H10 (.ref s2.heap.objs.size) [y] (.ref s2.heap.objs.size) [v] (fun _ Hq=>Hq = upd H10 s2.heap.objs.size (.lst (ys ++ [y]))) I10 rfl (.cons ry .nil) ⟨_,_,_,rfl,rfl,ha,hlen,rfl⟩) fun _ s11 ⟨_,H11,I11,_,e11⟩=>?_
       subst e11
       exact again I11 hw
 have start:∃ i m ys τ H',Inv (cJ X N' sc cl { s2 with heap:=s2.heap.push { cls:=.type "list",data:=.seq ([]:List Value).toArray } } (upd H2 s2.heap.objs.size (.lst [])) (s2.heap.push { cls:=.type "list",data:=.seq ([]:List Value).toArray }).objs.size fp (X.pn ++ pins)) [] τ H' { s2 with heap:=h1 } ∧
     tn i h1∧(∀ b ∈ fp,H' b = none)∧W i m ys τ H' :=
   ⟨0,m0,[],capS cap σ,_,I4,T.keep _ _ _ st2 fun b hb o e=>keep _ _ (Heap.get?_push_of_some _ e),fun b hb=>(f3 b hb).1,w0⟩
 exact codeAny_compStart_list (loop _ start) (T.self _ 0 _ _ _ (T.keep _ _ _ st2 fun b hb o e=>keep _ _ (Heap.get?_push_of_some _ e)) (loop _ start))
theorem uG (S:Zh X sc cl N' cap) (hc:X.calm = true) (hi:PI X tg iter wi) (hg:∀ s₀ H₀ C fp pn,PG (cJ X N' sc cl s₀ H₀ C fp pn) tg g) (ht:∀ s₀ H₀ C fp pn,PIfs (cJ X N' sc cl s₀ H₀ C fp pn) ifs tt)
   (he:∀ s₀ H₀ C fp pn,PE (cJ X N' sc cl s₀ H₀ C fp pn) elt te) (hs:∀ x,foldedSetIterable iter X.env x = pure x:=by intro _; rfl) :
   PE X (.ListComp elt [⟨tg,iter,ifs,0⟩] sc pos) (U4 cap wi g tt te):=by
 intro pins s σ H Q I h
 rw [eval_ListComp]
 exact Tf (use:=none) (Q':=EP X pins σ Q) S hc hi hg ht he hs I h fun s6 C a H6 m hn _ hI q=>⟨m,hn,fun h' sb=>⟨.ref a,H6,hI h' sb,rfl,q⟩⟩
theorem aiM {i:Nat} {x:Str} {pos' spos:Pos} (S:Zh X sc cl N' cap) (hc:X.calm = true) (hN:X.N.Nodup) (hi':X.N[i]? = some x) (hx:Loc X.env.scope x) (hi:PI X tg iter wi) (hg:∀ s₀ H₀ C fp pn,PG (cJ X N' sc cl s₀ H₀ C fp pn) tg g) (ht:∀ s₀ H₀ C fp pn,PIfs (cJ X N' sc cl s₀ H₀ C fp pn) ifs tt)
   (he:∀ s₀ H₀ C fp pn,PE (cJ X N' sc cl s₀ H₀ C fp pn) elt te) (hsw:swapsWith (.ListComp elt [⟨tg,iter,ifs,0⟩] sc pos) (some (.Name x pos')) spos.line X.env = pure true) (hs:∀ x,foldedSetIterable iter X.env x = pure x:=by intro _; rfl)
   (hf:X.fn x = true ∨ X.env.scope.names.lookup x = some .local:=by first | exact .inl rfl | exact .inr rfl | assumption) :
   PS X (.Assign [.Name x pos'] (.ListComp elt [⟨tg,iter,ifs,0⟩] sc pos) spos) (tAsg (U4 cap wi g tt te) (Sh i)):=by
 intro pins s σ H D I h
 rw [exec_Assign_Name_used _ _ _ _ hsw]
 refine wpAny_bind (wpAny_standAt (wpAny_bind ?_))
 show wpAny _ _ (do let _ ← comprehension (.ListComp elt [⟨tg,iter,ifs,0⟩] sc pos) sc X.env _ (newList []) false (eval iter X.env) (some (assign (.Name x pos') X.env))) _ _ s
 refine wpAny_bind (wpAny_mono (Tf (use:=some (assign (.Name x pos') X.env)) (Q':=fun _ s'=>SP X pins D .next s') S hc hi hg ht he hs I h fun s6 C a H6 m hn fp hI q=>?_) (fun _ s' hq=>wpAny_pure (wpAny_pure hq)) fun _ _ e=>e)
 refine wpAny_assign_Name (Ze (v:=.ref a) (hI _ (Heap.SameBut.refl _ _)) hN hi' hx rfl (fun s7 I7 ⟨a7,sb7,ha7⟩=>?_) hf)
 have ne:C ≠ a7:=by
   rintro rfl
   rcases ha7 with e | e
   · exact fp.2.1 e
   · exact fp.2.2.2.2.1 _ _ e rfl
 refine ⟨m,hn.sameBut sb7 ne,fun h' sb=>?_⟩
 have un:Un (frs X.stack) [C] H6 H6 s7.heap h':=by
   have k:∀ b o,s7.heap.get? b = some o→b ∉ [C]→h'.get? b = some o:=fun b o e n=>(sb.2 b (fun z=>n (by simp [z]))).trans e
   exact ⟨fun b o e _ _ n=>k b o e n,fun b o e _ _ n=>⟨o.slots,k b o e n⟩,fun _ _ _ n _=>n,fun b o e n=>⟨o,k b o e n⟩,fun _ _ q=>q,fun _ _ _ q=>q,fun _ ps q=>⟨#[],by simpa using q⟩⟩
 refine ⟨_,H6,I7.call' (s':={ s7 with heap:=h' }) (ch:=[C]) rfl un (I7.hok.sameBut sb fp.1) I7.bare fun b hb=>?_,q⟩
 obtain rfl:=List.mem_singleton.mp hb
 exact ⟨fp.2.2.2.1,fp.2.1,fp.2.2.2.2.1,fp.2.2.2.2.2⟩
end
end L2
namespace L2
open PySem PySem.Spec PyProof.Rows
theorem agE {H:Hp} {a:Addr} {o:HO} (e:H a = some o):upd H a o = H:=by
 funext b
 unfold upd
 split
 · rename_i q; rw [q,e]
 · rfl
section
variable {X:Cx} {pins:List (Addr × Obj)} {σ:St} {H:Hp} {s:Shared} {h':Heap}
theorem Inv.ai9 {ch:List Addr} {a:Addr} {o:HO} {t':Nat} (I:Inv X pins σ H s) (hch:∀ b ∈ ch,Oi X pins H b) (k:∀ b u,b ∉ ch→s.heap.get? b = some u→h'.get? b = some u) (ha:s.heap.objs.size ≤ a)
   (new:gU X.prog X.w (upd H a o) h' a o):Inv X pins σ (upd H a o) { s with heap:=h',toks:=t' }:=by
 have hn:H a = none:=I.hok.fresh ha
 have nch:∀ b u,H b = some u→b ∉ ch:=fun b u e z=>by rw [(hch b z).1] at e; cases e
 have nea:∀ b u,s.heap.get? b = some u→b ≠ a:=fun b u e=>Nat.ne_of_lt (Nat.lt_of_lt_of_le (Heap.lt_size e) ha)
 refine I.step (g':=s.gens) (d':=s.drawn) (ch:=ch) (fun b hb=>?_) (fun b u _ _ hc e _=>k b u hc e) (fun b u _ _ hc e _=>⟨u.slots,k b u hc e⟩) (fun b u hc e n=>by rw [aN (nea b u e)]; exact n) (fun b u hc e=>⟨u,k b u hc e⟩)
   (fun b xs e=>by rw [aN (bc e hn)]; exact e) (fun b u xs e=>by rw [aN (bc e hn)]; exact e) (fun b ps e=>⟨#[],by rw [aN (bc e hn),e]; simp⟩) (fun m hm=>?_) (fun b u e=>?_) I.bare
 · obtain ⟨_,h2,_,h4,h5,h6⟩:=hch b hb
   exact ⟨h4,h2,h5,h6⟩
 · obtain ⟨o',es,ep,ho,r⟩:=hm
   exact ⟨o',es,ep,k _ o' (fun z=>(hch _ z).2.1 rfl) ho,r⟩
 · by_cases hb:b = a
   · subst hb
     rw [aW] at e
     cases e
     exact new
   · rw [aN hb] at e
     refine (I.hok b u e).stay (fun c v hc q=>k c v ?_ q) (fun c q=>by rw [aN (bc q hn)]; exact q) fun c xs q=>by rw [aN (bc q hn)]; exact q
     rcases hc with z | z
     · rw [z]; exact nch b u e
     · exact nch c _ z
end
def Ite (K:PySem.W.Frag) (a:Addr):It :=
 ⟨fun i H=>∃ xs x,SqL K H a xs∧xs[i]? = some x,fun i H v H'=>∃ p x,v = .ref p∧H p = none∧H' = upd H p (.tup [.int i,x])∧∀ xs,SqL K H a xs→xs[i]? = some x,fun i H=>∃ xs,SqL K H a xs∧xs.length ≤ i⟩
theorem akR {P:Program} {w:World} {K:PySem.W.Frag} {es:List Expr} {kk:Nat} {tp:Pos} (a e it:Addr) (hne:e ≠ it) :
   Turn P w K (.Tuple es kk tp) (Ite K a) [e,it] e (fun i h=>(∃ old,IsEnum h e it (i:Nat) old)∧h.IsListIter it a i) where
 mem:=by simp
 obj:=fun i h st b hb=>by
   obtain ⟨⟨old,s1⟩,s2⟩:=st
   rcases List.mem_cons.mp hb with z | z
   · subst z
     exact ⟨_,s1,fun v q=>by
       have q':Data.fields _ = Data.cell v:=q
       cases q'⟩
   · have z:b = it:=by simpa using z
     subst z
     obtain ⟨o,e1,c,d⟩:=s2
     exact ⟨o,e1,fun v q=>by rw [d] at q; cases q⟩
 keep:=fun i h h' st k=>by
   obtain ⟨⟨old,s1⟩,s2⟩:=st
   exact ⟨⟨old,k e (by simp) _ s1⟩,s2.at fun o q=>k it (by simp) o q⟩
 item:=by
   intro X hP hw hK hc i pins s σ H E I hf st hg
   subst hP hw hK
   obtain ⟨xs,x,hq,hx⟩:=hg
   obtain ⟨⟨old,s1⟩,s2⟩:=st
   obtain ⟨its,rv,p,hz⟩:=I.list hq
   obtain ⟨u,hu,ru⟩:=rv.get hx
   refine wpAny_pyNext_enum_item s1 s2 p.isList (x:=u) (by simpa using hu) hne fun h1 eo li tu sz kk'=>⟨_,rfl,wpAny_letOwnedTupleGo_enum eo fun h2 ie sb=>?_⟩
   have hp:H s.heap.objs.size = none:=I.hok.fresh (Nat.le_refl _)
   have lt1:e < s.heap.objs.size:=Heap.lt_size s1
   have ne1:s.heap.objs.size ≠ e:=Nat.ne_of_gt lt1
   have tu2:h2.get? s.heap.objs.size = some { cls:=.type "tuple",data:=.seq #[.int i s.toks,u] }:=(sb.2 _ ne1).trans tu
   have I2:Inv X pins σ (upd H s.heap.objs.size (.tup [.int i,x])) { s with heap:=h2,toks:=s.toks + 1 }:=I.ai9 (ch:=[e,it]) hf (fun b o hb q=>by
       have hb1:b ≠ e:=fun z=>hb (by simp [z])
       have hb2:b ≠ it:=fun z=>hb (by simp [z])
       exact (sb.2 b hb1).trans (kk' b o hb1 hb2 q)) (Nat.le_refl _) ⟨by show 2 ≤ sizeLine; decide,[.int i s.toks,u],.cons ⟨_,rfl⟩ (.cons ru .nil),_,tu2,rfl,0,rfl⟩
   refine ⟨.ref s.heap.objs.size,_,I2,rfl,⟨_,x,rfl,hp,rfl,fun ys hy=>by rw [I.afN hy hq]; exact hx⟩,⟨⟨u,?_⟩,?_⟩,fun b hb=>?_⟩
   · have q:IsEnum h2 e it ((i:Int) + 1) u:=ie
     rw [show ((i:Int) + 1) = ((i + 1:Nat):Int) by omega] at q
     exact q
   · obtain ⟨o,e1,r⟩:=li
     exact ⟨o,(sb.2 it (Ne.symm hne)).trans e1,r⟩
   · have lt2:b < s.heap.objs.size:=by
       rcases List.mem_cons.mp hb with z | z
       · rw [z]; exact lt1
       · have z:b = it:=by simpa using z
         rw [z]
         obtain ⟨o,e1,_⟩:=s2
         exact Heap.lt_size e1
     rw [aN (Nat.ne_of_lt lt2)]
     exact (hf b hb).1
 done:=by
   intro X hP hw hK hc i pins s σ H E I hf st hg
   subst hP hw hK
   obtain ⟨xs,hq,hx⟩:=hg
   obtain ⟨⟨old,s1⟩,s2⟩:=st
   obtain ⟨its,rv,p,hz⟩:=I.list hq
   obtain ⟨f0,f1,f2,f3,f4,f5⟩:=hf it (by simp)
   have hl:=rv.length
   exact wpAny_pyNext_enum_end (I.ok.hd hc) s1 s2 p.isList (by simp; omega) fun h' eb=>⟨rfl,I.turned (t':=s.toks) (fun b o hb q=>eb b o hb q) f0 f1 f3 f4 f5⟩
 self:=fun _ _ _ _ _ st h=>wpAny_pyIter_enum st.1.choose_spec h
section
variable {X:Cx}
def iEnum (K:PySem.W.Frag) (ta:TA):TI:=fun σ H R=>ta σ H fun vs H1=>∃ a,vs = [.ref a]∧(∃ xs,SqL K H1 a xs)∧R (Ite K a) H1
theorem pi_enum {es:List Expr} {kk:Nat} {tp:Pos} {l:Expr} {ta:TA} {p pos:Pos} (hg:Gl X "enumerate") (hm:X.mg "enumerate" = none) (ha:PA X [l] ta) (hs:starEach [l] X.env = [(false,eval l X.env)]:=by rfl) :
   PI X (.Tuple es kk tp) (.Call (.Name "enumerate" p) [l] [] pos) (iEnum X.K ta):=by
 intro pins s σ H R I h
 refine Call_ (Tg I hg hm PyProof.Rows.boot_enumerate (PyProof.Rows.callWith_type1 (thn (ha pos pins s σ H _ I h) fun us s1 ⟨vs,H1,I1,r1,q1⟩=>?_) hs rfl))
 obtain ⟨a,e,⟨xs,hq⟩,q⟩:=q1
 subst e
 cases r1 with
 | cons r rr =>
   cases rr
   cases r
   obtain ⟨its,rv,pl,hz⟩:=I1.list hq
   refine call_enumerate_list pl.isList fun h' ie li sz kp=>?_
   refine wpAny_pyIter_enum (it:=s1.heap.objs.size) (i:=0) (old:=.none) ie ?_
   have I2:Inv X pins σ H1 { s1 with heap:=h' }:=I1.kept (t':=s1.toks) kp
   refine ⟨s1.heap.objs.size + 1,[s1.heap.objs.size + 1,s1.heap.objs.size],_,_,H1,rfl,I2,akR a (s1.heap.objs.size + 1) s1.heap.objs.size (Nat.succ_ne_self _),⟨⟨.none,ie⟩,li⟩,fun b hb=>?_,q⟩
   have hb':s1.heap.objs.size ≤ b:=by
     rcases List.mem_cons.mp hb with z | z
     · rw [z]; exact Nat.le_succ _
     · have z:b = s1.heap.objs.size:=by simpa using z
       exact Nat.le_of_eq z.symm
   obtain ⟨g1,g2,g3,g4,g5,g6⟩:=I1.fpOk hb' (I1.hok.fresh hb')
   exact ⟨g1,g2,g3,g4,g5,g6⟩
end
section
variable {X:Cx} {e:Expr} {es:List Expr} {pos:Pos}
end
end L2
namespace L2
open PySem PySem.Spec PyProof.Rows MX
section
variable {X:Cx} {CX:CXT} {k:Nat} {f C:Addr} {fd:FuncData} {ps:List Str} {sp:Sp} {dvs:List V} {ds:List Value} {E:XK} {x m:Str} {p pos apos:Pos} {e:Expr} {es:List Expr} {t:TA}
structure HS (K:PySem.W.Frag) (C:Addr) (m:Str) (v:Value):Prop where
 sp:PySem.W.specialIn K (.ref C) "__getattribute__" = some (some (.builtin "type.__getattribute__"))
 rd:PySem.W.readsIn K C (.type "type") = true
 at_:PySem.W.findCls K (.ref C) (.type "type") m = some (.val v)
theorem aga {pl:Sem Bool} (F:bx X.prog X.w X.K X.mg X.base CX k f fd ps sp) (hr:iW k X.A) (hg:Gl X x) (hm:X.mg x = some (.ref C)) (ca:HS X.K C m (.ref f)) (hk:PySem.W.keepIn X.K (.ref f) = true) (hb:Binds X.K fd ps ds) (hd:Vals dvs ds) (hx:oh CX X E)
   (ha:PA X (e :: es) t) (hdb:(x == ("__debug__":Str)) = false:=by decide) (he:starEach (e :: es) X.env = (false,eval e X.env) :: starEach es X.env:=by rfl) (hpl:(backTo pos (starEach es X.env)).any (·.1) = false:=by rfl)
   (ht:eval (.Call (.Attribute (.Name x p) m apos) (e :: es) [] pos) X.env = (do
     let ov ← eval (.Name x p) X.env
     standAt apos.atName
     let (f,first) ← holding [ov] (getMethod ov m pl)
     callWith pos f first (backTo pos (starEach (e :: es) X.env)) (backToKw pos (keywordEach [] X.env))):=by rfl) :
   PE X (.Call (.Attribute (.Name x p) m apos) (e :: es) [] pos) (Zf sp dvs E t):=by
 intro pins s σ H Q I h
 refine PySem.W.methodCall_KW (pl:=pl) (zP I hg hm ?_ hdb) ht
 refine PySem.W.method_cls I.kIn ca.sp (PySem.W.cls_value I.kIn ca.rd ca.at_ rfl ?_)
 have I1:=I.tok (s.toks + 1)
 refine PySem.W.callWith_K (first:=[]) (h₀:=X.base) I.ok.mod.kin hk (thn (ha pos pins _ σ H _ I1 h) fun us s1 ⟨vs,H1,I2,r,q⟩=>⟨I2.kIn,?_⟩) he hpl
 exact adg F hr hb hd hx I2 r q
end
def excP (n:Bool) (C:Addr) (dd:Option Addr) (e:Addr) (h:Heap):Prop:=∃ o vs t,h.get? e = some o∧o.cls = .ref C∧o.dict = dd∧o.data = .fields vs∧vs[0]? = some (.ref t)∧(n = true→vs = #[.ref t,.none,.none,.none,.bool false,.none])
def xdP (fs:List (Str × V)) (d:Addr) (h:Heap):Prop:=∃ mA,h.Ns1 d mA∧(∀ f,Bb (fs.lookup f) (mA f))∧PySem.Within mA (fs.map (·.1))
abbrev HO.exc (n:Bool) (C:Addr) (dd:Option Addr) (e:Addr):HO:=.ext (excP n C dd e)
abbrev HO.xds (fs:List (Str × V)) (d:Addr):HO:=.ext (xdP fs d)
theorem excP.ok {P:Program} {w:World} {H:Hp} {h:Heap} {n:Bool} {C e:Addr} {dd:Option Addr} (x:excP n C dd e h):gU P w H h e (.exc n C dd e):=by
 refine ⟨x,?_,fun h1 h2 y k=>?_⟩
 · obtain ⟨o,_,_,q,_⟩:=x
   exact ⟨o,q⟩
 · obtain ⟨o,vs,t,q,r⟩:=y
   exact ⟨o,vs,t,k o q,r⟩
theorem xdP.ok {P:Program} {w:World} {H:Hp} {h:Heap} {fs:List (Str × V)} {d:Addr} (x:xdP fs d h):gU P w H h d (.xds fs d):=by
 refine ⟨x,?_,fun h1 h2 y k=>?_⟩
 · obtain ⟨_,⟨o,_,_,q,_⟩,_⟩:=x
   exact ⟨o,q⟩
 · obtain ⟨mA,⟨o,es,ep,q,r⟩,z⟩:=y
   exact ⟨mA,⟨o,es,ep,k o q,r⟩,z⟩
structure ExcC (K:PySem.W.Frag) (C N:Addr):Prop extends ExcGet K C where
 obj:∃ nm q bs bm sn sub ab col dd k0 k1 k2 k3 k5,K.lookup C = some (excClassObj nm q C N bs bm true sn sub ab col dd k0 k1 k2 k3 k5 "ValueError.__new__")∧PySem.W.tailIn K bmV bm = true
 ns:PySem.W.nsOkIn K N = true
 kp:PySem.W.keepIn K (.ref C) = true
section
variable {X:Cx} {CX:CXT} {k:Nat} {f C N:Addr} {fd:FuncData} {ps:List Str} {sp:Sp} {dvs:List V} {ds:List Value} {E:XK} {x m:Str} {p pos apos:Pos} {e:Expr} {es:List Expr} {t:TA}
def tMakeP (C:Addr) (t:TA):TE:=fun σ H Q=>t σ H fun vs H1=>vs.length ≤ 1000∧∀ a,H1 a = none→Q (.ref a) (upd H1 a (.exc true C none a))
theorem Inv.laidN {pins:List (Addr × Obj)} {σ:St} {H:Hp} {s:Shared} {h':Heap} {a:Addr} {o:HO} {t':Nat} (I:Inv X pins σ H s) (kp:∀ b u,s.heap.get? b = some u→h'.get? b = some u) (hn:s.heap.get? a = none) (new:gU X.prog X.w (upd H a o) h' a o) :
   H a = none∧Inv X pins σ (upd H a o) { s with heap:=h',toks:=t' }:=by
 have hH:H a = none:=by
   cases q:H a with
   | none=>rfl
   | some u =>
     obtain ⟨ob,e⟩:∃ ob,s.heap.get? a = some ob:=by
       have:=I.hok a u q
       cases u with
       | lst xs=>obtain ⟨_,_,_,_,e⟩:=this; exact ⟨_,e⟩
       | tup xs=>obtain ⟨_,_,_,ob,e,_⟩:=this; exact ⟨ob,e⟩
       | dK kvs=>obtain ⟨_,_,_,_,ob,_,_,e,_⟩:=this; exact ⟨ob,e⟩
       | dT kvs=>obtain ⟨_,_,_,_,ob,_,_,e,_⟩:=this; exact ⟨ob,e⟩
       | set S n=>obtain ⟨ob,_,_,_,e,_⟩:=this; exact ⟨ob,e⟩
       | ins C dx fs=>obtain ⟨_,_,_,e,_⟩:=this; exact ⟨_,e⟩
       | own y=>obtain ⟨ob,e⟩:=this; exact ⟨ob,e⟩
       | xd fs=>obtain ⟨_,⟨ob,_,_,e,_⟩,_⟩:=this; exact ⟨ob,e⟩
       | rng lo hi=>obtain ⟨_,_,_,e⟩:=this; exact ⟨_,e⟩
       | frz ob u=>obtain ⟨e,_⟩:=this; exact ⟨ob,e⟩
       | tbl ps=>exact ⟨_,(show s.heap.get? a = some _ from this)⟩
       | met f y=>exact ⟨_,(show s.heap.get? a = some _ from this)⟩
       | ext φ=>obtain ⟨_,⟨ob,e⟩,_⟩:=this; exact ⟨ob,e⟩
     rw [hn] at e
     cases e
 refine ⟨hH,I.un ⟨fun b u q _ _ _=>kp b u q,fun b u q _ _ _=>⟨u.slots,kp b u q⟩,fun b u q n _=>?_,fun b u q _=>⟨u,kp b u q⟩,fun b xs q=>by rw [aN (bc q hH)]; exact q,fun b u xs q=>by rw [aN (bc q hH)]; exact q,fun b ps q=>⟨#[],by rw [aN (bc q hH),q]; simp⟩⟩ fun b u q=>?_⟩
 · rw [aN (by rintro rfl; rw [hn] at q; cases q)]
   exact n
 · by_cases hb:b = a
   · subst hb
     rw [aW] at q
     cases q
     exact new
   · rw [aN hb] at q
     exact (I.hok b u q).stay (fun c v _ z=>kp c v z) (fun c z=>by rw [aN (bc z hH)]; exact z) fun c xs z=>by rw [aN (bc z hH)]; exact z
theorem pe_makeP (M:ExcC X.K C N) (hi:PySem.W.nsIn X.K N "__init__" = some none) (hg:Gl X x) (hm:X.mg x = some (.ref C)) (ha:PA X (e :: es) t) (hdb:(x == ("__debug__":Str)) = false:=by decide) (he:starEach (e :: es) X.env = (false,eval e X.env) :: starEach es X.env:=by rfl)
   (hpl:(backTo pos (starEach es X.env)).any (·.1) = false:=by rfl):PE X (.Call (.Name x p) (e :: es) [] pos) (tMakeP C t):=by
 intro pins s σ H Q I h
 refine wpAny_Call_Name_kw (zP I hg hm ?_ hdb)
 refine PySem.W.callWith_K (h₀:=X.base) I.ok.mod.kin M.kp (thn (ha pos pins s σ H _ I h) fun us s1 ⟨vs,H1,I1,r,hz,q⟩=>⟨I1.kIn,?_⟩) he hpl
 obtain ⟨nm,qn,bs,bm,sn,sub,ab,col,dd,k0,k1,k2,k3,k5,lk,tl⟩:=M.obj
 have G:s1.heap.Ns N (s1.heap.nsMap N):=.of_isNs (PySem.W.isNs_of_in I1.kIn M.ns)
 obtain ⟨hp,g,d,tk,os⟩:=s1
 refine ajT PySem.F.excBase_ValueError (PySem.W.tail_of_in I1.kIn tl) (I1.kIn _ _ lk) G (PySem.W.ns_none_of I1.kIn G hi) (by rw [List.nil_append,← r.length]; exact Nat.le_trans hz (by rw [sizeLine_eq]; decide)) fun h' a mk=>?_
 obtain ⟨tt,e1,_,_⟩:=mk.there
 obtain ⟨nH,I2⟩:=I1.laidN (t':=tk) (o:=.exc true C none a) mk.keeps mk.new (excP.ok ⟨_,_,tt,e1,rfl,rfl,rfl,rfl,fun _=>rfl⟩)
 exact ⟨.ref a,_,I2,rfl,q a nH⟩
end
end L2
namespace L2
open PySem PySem.Spec PyProof.Rows MX
section
variable {X:Cx} {pins:List (Addr × Obj)} {σ:St} {H:Hp} {s:Shared} {h':Heap}
end
section
variable {X:Cx} {o e value:Expr} {f:Str} {pos pos':Pos} {ta tv:TE}
inductive TyX (K:PySem.W.Frag) (H:Hp):V→Value→Prop where
 | of {x:V} {t:Value} (h:KQ K H x t):TyX K H x t
 | e0 {n:Bool} {a C:Addr} (h:H a = some (.exc n C none a)) (g:ExcGet K C):TyX K H (.ref a) (.ref C)
 | e1 {n:Bool} {a C d:Addr} {fs:List (Str × V)} (h:H a = some (.exc n C (some d) a)) (h':H d = some (.xds fs d)) (g:ExcGet K C):TyX K H (.ref a) (.ref C)
def clsV:V→Value
 | .ref C=>.ref C
 | .ty n=>.type n
 | _=>.none
def rIsi (K:PySem.W.Frag) (xs:List V) (H:Hp) (Q:VK):Prop:=∃ x c t b,xs = [x,c]∧(c = .ref (match c with | .ref C=>C | _=>0) ∨ c = .ty (match c with | .ty n=>n | _=>""))∧TyX K H x t∧PySem.W.kitOne K t (clsV c) = some b∧Q (.bl b) H
theorem call_isi:tE X (.builtin "isinstance") (rIsi X.K):=by
 intro pins s σ H xs us Q I r h
 obtain ⟨x,c,t,b,rfl,hc,ty,ek,q⟩:=h
 cases r with
 | @cons _ u _ _ rx rr =>
   cases rr with
   | @cons _ cu _ _ rc rr =>
     cases rr
     have ec:cu = clsV c:=by
       rcases hc with z | z <;> · rw [z] at rc ⊢; exact rc
     subst ec
     have fin:∀ tk,EP X pins σ Q (.bool b) { s with toks:=tk }:=fun tk=>⟨.bl b,H,I.tok tk,rfl,q⟩
     cases ty with
     | of ty=>exact akj I rx ty ek fin
     | @e0 n a C hH G =>
       cases rx
       obtain ⟨⟨ob,vs,t0,e1,e2,e3,e4,e5⟩,_,_⟩:=I.hok a _ hH
       have IA:PySem.W.InstAt s.heap a ob C none:=⟨e1,e2,by unfold PySem.W.notCls; rw [e4],by rw [e3]; trivial⟩
       exact PySem.W.kia_one (excKit G) I.kIn IA ek (fun z=>nomatch z) fin
     | @e1 n a C d fs hH hD G =>
       cases rx
       obtain ⟨⟨ob,vs,t0,e1,e2,e3,e4,e5⟩,_,_⟩:=I.hok a _ hH
       obtain ⟨⟨mA,n1,rl,wi⟩,_,_⟩:=I.hok d _ hD
       obtain ⟨oD,esD,epD,eD,_⟩:=n1
       have IA:PySem.W.InstAt s.heap a ob C (some oD):=⟨e1,e2,by unfold PySem.W.notCls; rw [e4],by rw [e3]; exact eD⟩
       exact PySem.W.kia_one (excKit G) I.kIn IA ek (fun z=>nomatch z) fin
end
theorem kit_sub {K:PySem.W.Frag} {t:Value} {C:Addr} {cd:ClassData} {b:Bool} (h1:PySem.W.clsIn K C = some cd) (h2:PySem.W.typeIn K (.ref C) = some (.type "type")) (h3:PySem.W.subIn K t (.ref C) = some b) (h4:t = .ref C→b = true):PySem.W.kitOne K t (.ref C) = some b:=by
 unfold PySem.W.kitOne
 by_cases q:(t == Value.ref C) = true
 · rw [if_pos q,h4 (beq_iff_eq.mp q)]
 · rw [if_neg q]
   unfold PySem.W.kitCls
   dsimp only
   rw [h1,h2,if_pos (by simp)]
   exact h3
end L2
namespace L2
open PySem PySem.Spec PyProof.Rows
mutual
inductive Ky (K:PySem.W.Frag) (H:Hp):V→PyData→Prop
 | non:Ky K H .non .none
 | bl (b:Bool):Ky K H (.bl b) (.bool b)
 | int (i:Int):Ky K H (.int i) (.int i)
 | str (x:Str):Ky K H (.str x) (.str x)
 | lst {a:Addr} {xs:List V} {ds:List PyData} (h:SqL K H a xs) (r:lY K H xs ds):Ky K H (.ref a) (.list ds)
 | tup {a:Addr} {xs:List V} {ds:List PyData} (h:SqT K H a xs) (r:lY K H xs ds):Ky K H (.ref a) (.tuple ds)
inductive lY (K:PySem.W.Frag) (H:Hp):List V→List PyData→Prop
 | nil:lY K H [] []
 | cons {x:V} {xs:List V} {d:PyData} {ds:List PyData} (h:Ky K H x d) (r:lY K H xs ds):lY K H (x :: xs) (d :: ds)
end
section
variable {X:Cx} {pins:List (Addr × Obj)} {σ:St} {H:Hp} {s:Shared}
mutual
theorem Ky.reads (I:Inv X pins σ H s):∀ {x:V} {d:PyData} {u:Value},Ky X.K H x d→RelV x u→∃ as,Reads s.heap u d as
 | _,_,_,.non,r=>by cases r; exact ⟨_,.none⟩
 | _,_,_,.bl b,r=>by cases r; exact ⟨_,.bool b⟩
 | _,_,_,.int i,r=>by obtain ⟨t,rfl⟩:=r; exact ⟨_,.int i t⟩
 | _,_,_,.str x,r=>by obtain ⟨t,rfl⟩:=r; exact ⟨_,.str x t⟩
 | _,_,_,.lst h q,r=>by
   cases r
   obtain ⟨its,rv,p,_⟩:=I.list h
   obtain ⟨as,z⟩:=lY.reads I q rv
   obtain ⟨o,e,c,n,dd⟩:=p.isList
   exact ⟨_,.list e c dd (by simpa using z)⟩
 | _,_,_,.tup h q,r=>by
   cases r
   obtain ⟨its,rv,p,_⟩:=I.tuple h
   obtain ⟨as,z⟩:=lY.reads I q rv
   obtain ⟨o,e,c,n,dd⟩:=p
   exact ⟨_,.tuple e c dd (by simpa using z)⟩
theorem lY.reads (I:Inv X pins σ H s):∀ {xs:List V} {ds:List PyData} {us:List Value},lY X.K H xs ds→Vals xs us→∃ as,ReadsAll s.heap us ds as
 | _,_,_,.nil,.nil=>⟨_,.nil⟩
 | _,_,_,.cons h q,.cons r rr=>by
   obtain ⟨as,z⟩:=Ky.reads I h r
   obtain ⟨bs,y⟩:=lY.reads I q rr
   exact ⟨_,.cons z y⟩
end
end
def rEqD (K:PySem.W.Frag) (neg:Bool):R2:=fun x y H Q=>∃ da db,Ky K H x da∧Ky K H y db∧da.canLay0 = true∧db.canLay0 = true∧da.depth ≤ 50∧Q (.bl (PyData.eqv da db != neg)) H
section
variable {X:Cx}
theorem op_eqD (hu:X.A.units + 64 < cLine):OpR X (compareOp .Eq) (rEqD X.K false):=by
 intro pins s σ H x y v u Q I rx ry h
 obtain ⟨da,db,d1,d2,c1,c2,dp,q⟩:=h
 obtain ⟨as,r1⟩:=d1.reads I rx
 obtain ⟨bs,r2⟩:=d2.reads I ry
 exact SeqAt.compareEq_reads r1 r2 c1 c2 (by omega) ⟨.bl (PyData.eqv da db),H,I,rfl,by simpa using q⟩
theorem op_neD (hu:X.A.units + 64 < cLine):OpR X (compareOp .NotEq) (rEqD X.K true):=by
 intro pins s σ H x y v u Q I rx ry h
 obtain ⟨da,db,d1,d2,c1,c2,dp,q⟩:=h
 obtain ⟨as,r1⟩:=d1.reads I rx
 obtain ⟨bs,r2⟩:=d2.reads I ry
 exact SeqAt.compareNe_reads r1 r2 c1 c2 (by omega) ⟨.bl (!PyData.eqv da db),H,I,rfl,by simpa using q⟩
theorem op_mulS:OpR X (binaryOp .Mult) (fun x y H Q=>∃ i n,x = .str i∧y = .int n∧i.length ≤ 1000∧0 ≤ n∧n ≤ 1000∧Q (.str (Txt.mul i n)) H):=by
 intro pins s σ H x y v u Q I rx ry h
 obtain ⟨i,n,rfl,rfl,h1,h2,h3,q⟩:=h
 obtain ⟨t,rfl⟩:=rx
 obtain ⟨t',rfl⟩:=ry
 exact PySem.SB.mul (mulOk_of 1000 1000 h1 (by omega) (by omega) (by decide) (by decide)) fun t'' k=>⟨.str (Txt.mul i n),H,I.tok k,⟨_,rfl⟩,q⟩
end
end L2
namespace L2
open PySem PySem.Spec PyProof.Rows
section
variable {κ:Type} [DecidableEq κ]
def HR (kvs:List (κ × V)) (k:κ):Option V:=(kvs.find? fun kv=>decide (kv.1 = k)).map (·.2)
def putK (kvs:List (κ × V)) (k:κ) (v:V):List (κ × V) :=
 if (kvs.any fun kv=>decide (kv.1 = k)) = true then kvs.map (fun kv=>if kv.1 = k then (kv.1,v) else kv) else kvs ++ [(k,v)]
def dropK (kvs:List (κ × V)) (k:κ):List (κ × V):=kvs.filter fun kv=>decide (kv.1 ≠ k)
theorem Kp {p:κ × V} {r:List (κ × V)} {k:κ} (e:p.1 = k):HR (p :: r) k = some p.2:=by simp [HR,List.find?_cons,e]
theorem Ko {p:κ × V} {r:List (κ × V)} {k:κ} (e:¬ p.1 = k):HR (p :: r) k = HR r k:=by simp [HR,List.find?_cons,e]
theorem U9 (k:κ):∀ kvs:List (κ × V),(kvs.any fun kv=>decide (kv.1 = k)) = (HR kvs k).isSome
 | []=>rfl
 | p :: r=>by
   rw [List.any_cons]
   by_cases e:p.1 = k
   · simp only [Kp e,decide_eq_true e,Bool.true_or,Option.isSome_some]
   · rw [Ko e,decide_eq_false e,Bool.false_or]; exact U9 k r
theorem Bb.aki {o:Option V} {u:Option Value} (r:Bb o u):o.isSome = u.isSome:=by
 cases o with
 | none=>cases u with
   | none=>rfl
   | some _=>exact (show False from r).elim
 | some _=>cases u with
   | none=>exact (show False from r).elim
   | some _=>rfl
theorem Bb.getD {o:Option V} {u:Option Value} {d:V} {d':Value} (r:Bb o u) (rd:RelV d d'):RelV (o.getD d) (u.getD d'):=by
 cases o with
 | none=>cases u with
   | none=>exact rd
   | some _=>exact (show False from r).elim
 | some _=>cases u with
   | none=>exact (show False from r).elim
   | some _=>exact r
theorem KV.val {kvs:List (κ × V)} {vs:List (κ × Value)} (r:KV kvs vs) (k:κ):Bb (HR kvs k) (valueAt vs k):=by
 unfold KV at r
 induction r with
 | nil=>exact True.intro
 | @cons p q ps qs h t ih =>
   obtain ⟨h1,h2⟩:=h
   by_cases e:p.1 = k
   · have e':q.1 = k:=h1.symm.trans e
     have b:valueAt (q :: qs) k = some q.2:=by simp [valueAt,List.find?_cons,e']
     rw [Kp e,b]; exact h2
   · have e':¬ q.1 = k:=fun z=>e (h1.trans z)
     have b:valueAt (q :: qs) k = valueAt qs k:=by simp [valueAt,List.find?_cons,e']
     rw [Ko e,b]; exact ih
theorem KV.any {kvs:List (κ × V)} {vs:List (κ × Value)} (r:KV kvs vs) (k:κ):(kvs.any fun kv=>decide (kv.1 = k)) = vs.any fun kv=>decide (kv.1 = k):=by
 unfold KV at r
 induction r with
 | nil=>rfl
 | cons h t ih=>rw [List.any_cons,List.any_cons,ih,h.1]
theorem KV.repl {kvs:List (κ × V)} {vs:List (κ × Value)} (r:KV kvs vs) (k:κ) {y:V} {u:Value} (ry:RelV y u) :
   KV (kvs.map fun kv=>if kv.1 = k then (kv.1,y) else kv) (vs.map fun kv=>if kv.1 = k then (kv.1,u) else kv):=by
 unfold KV at r ⊢
 induction r with
 | nil=>exact .nil
 | @cons p q ps qs h t ih =>
   rw [List.map_cons,List.map_cons]
   refine .cons ?_ ih
   obtain ⟨h1,h2⟩:=h
   by_cases e:p.1 = k
   · rw [if_pos e,if_pos (h1.symm.trans e)]; exact ⟨h1,ry⟩
   · rw [if_neg e,if_neg (fun z=>e (h1.trans z))]; exact ⟨h1,h2⟩
theorem KV.put {kvs:List (κ × V)} {vs:List (κ × Value)} (r:KV kvs vs) (k:κ) {y:V} {u:Value} (ry:RelV y u):KV (putK kvs k y) (stored vs k u):=by
 unfold putK stored
 rw [r.any k]
 by_cases e:(vs.any fun kv=>decide (kv.1 = k)) = true
 · rw [if_pos e,if_pos e]; exact r.repl k ry
 · rw [if_neg e,if_neg e]; exact Paired.snoc r ⟨rfl,ry⟩
theorem KV.drop {kvs:List (κ × V)} {vs:List (κ × Value)} (r:KV kvs vs) (k:κ):KV (dropK kvs k) (without vs k):=by
 unfold KV at r ⊢
 unfold dropK without
 induction r with
 | nil=>exact .nil
 | @cons p q ps qs h t ih =>
   obtain ⟨h1,h2⟩:=h
   rw [List.filter_cons,List.filter_cons]
   by_cases e:p.1 = k
   · have a:¬ decide (p.1 ≠ k) = true:=by simp [e]
     have b:¬ decide (q.1 ≠ k) = true:=by simp [h1.symm.trans e]
     rw [if_neg a,if_neg b]; exact ih
   · have e':¬ q.1 = k:=fun z=>e (h1.trans z)
     have a:decide (p.1 ≠ k) = true:=by simp [e]
     have b:decide (q.1 ≠ k) = true:=by simp [e']
     rw [if_pos a,if_pos b]; exact .cons ⟨h1,h2⟩ ih
theorem KV.length {kvs:List (κ × V)} {vs:List (κ × Value)} (r:KV kvs vs):kvs.length = vs.length:=Paired.length r
end
abbrev KT (H:Hp):List (List Key × V)→List (List Key × Addr × Value)→Prop:=Paired fun p q=>p.1 = q.1∧H q.2.1 = some (.tup (p.1.map kV))∧RelV p.2 q.2.2
theorem KT.val {H:Hp} {kvs:List (List Key × V)} {xs:List (List Key × Addr × Value)} (r:KT H kvs xs) (k:List Key):Bb (HR kvs k) ((atKey xs k).map (·.2)):=by
 induction r with
 | nil=>exact True.intro
 | @cons p q ps qs h t ih =>
   obtain ⟨h1,_,h2⟩:=h
   by_cases e:p.1 = k
   · have e':q.1 = k:=h1.symm.trans e
     have b:atKey (q :: qs) k = some q.2:=by simp [atKey,List.find?_cons,e']
     rw [Kp e,b]; exact h2
   · have e':¬ q.1 = k:=fun z=>e (h1.trans z)
     have b:atKey (q :: qs) k = atKey qs k:=by simp [atKey,List.find?_cons,e']
     rw [Ko e,b]; exact ih
theorem KT.repl {H:Hp} {kvs:List (List Key × V)} {xs:List (List Key × Addr × Value)} (r:KT H kvs xs) (k:List Key) {y:V} {u:Value} (ry:RelV y u) :
   KT H (kvs.map fun kv=>if kv.1 = k then (kv.1,y) else kv) (xs.map (putAt k u)):=by
 induction r with
 | nil=>exact .nil
 | @cons p q ps qs h t ih =>
   rw [List.map_cons,List.map_cons]
   refine .cons ?_ ih
   obtain ⟨h1,h2,h3⟩:=h
   unfold putAt
   by_cases e:p.1 = k
   · rw [if_pos e,if_pos (h1.symm.trans e)]; exact ⟨h1,h2,ry⟩
   · rw [if_neg e,if_neg (fun z=>e (h1.trans z))]; exact ⟨h1,h2,h3⟩
theorem KT.put {H:Hp} {kvs:List (List Key × V)} {xs:List (List Key × Addr × Value)} (r:KT H kvs xs) (k:List Key) {b:Addr} {y:V} {u:Value} (hb:H b = some (.tup (k.map kV))) (ry:RelV y u) :
   KT H (putK kvs k y) (storedH xs k b u):=by
 have e:(kvs.any fun kv=>decide (kv.1 = k)) = (atKey xs k).isSome:=by
   rw [U9,(r.val k).aki,Option.isSome_map]
 unfold putK storedH
 rw [e]
 by_cases q:(atKey xs k).isSome = true
 · rw [if_pos q,if_pos q]; exact r.repl k ry
 · rw [if_neg q,if_neg q]; exact Paired.snoc r ⟨rfl,hb,ry⟩
theorem KT.keeps {H H':Hp} {kvs:List (List Key × V)} {xs:List (List Key × Addr × Value)} (r:KT H kvs xs) (ht:∀ b ys,H b = some (.tup ys)→H' b = some (.tup ys)):KT H' kvs xs :=
 Paired.mapP r fun _ _ z=>⟨z.1,ht _ _ z.2.1,z.2.2⟩
section
variable {P:Program} {w:World} {H:Hp} {h:Heap} {a:Addr}
end
def DGet (H:Hp) (a:Addr) (y:V) (r:Option V):Prop :=
 (∃ kvs k,Rd H a (.dK kvs)∧y = kV k∧r = HR kvs k) ∨ ∃ kvs k b,Rd H a (.dT kvs)∧y = .ref b∧H b = some (.tup (k.map kV))∧r = HR kvs k
def DPut (H:Hp) (a:Addr) (y v:V) (H':Hp):Prop :=
 (∃ kvs k,H a = some (.dK kvs)∧y = kV k∧kvs.length < sizeLine∧H' = upd H a (.dK (putK kvs k v))) ∨
 ∃ kvs k b,H a = some (.dT kvs)∧y = .ref b∧H b = some (.tup (k.map kV))∧kvs.length < sizeLine∧H' = upd H a (.dT (putK kvs k v))
theorem DGet.k {H:Hp} {a:Addr} {kvs:List (Key × V)} {k:Key} (e:H a = some (.dK kvs)):DGet H a (kV k) (HR kvs k):=.inl ⟨kvs,k,.inl e,rfl,rfl⟩
theorem DGet.t {H:Hp} {a b:Addr} {kvs:List (List Key × V)} {k:List Key} (e:H a = some (.dT kvs)) (eb:H b = some (.tup (k.map kV))):DGet H a (.ref b) (HR kvs k):=.inr ⟨kvs,k,b,.inl e,rfl,eb,rfl⟩
theorem DPut.k {H:Hp} {a:Addr} {kvs:List (Key × V)} {k:Key} {v:V} (e:H a = some (.dK kvs)) (hl:kvs.length < sizeLine):DPut H a (kV k) v (upd H a (.dK (putK kvs k v))):=.inl ⟨kvs,k,e,rfl,hl,rfl⟩
theorem DPut.t {H:Hp} {a b:Addr} {kvs:List (List Key × V)} {k:List Key} {v:V} (e:H a = some (.dT kvs)) (eb:H b = some (.tup (k.map kV))) (hl:kvs.length < sizeLine) :
   DPut H a (.ref b) v (upd H a (.dT (putK kvs k v))):=.inr ⟨kvs,k,b,e,rfl,eb,hl,rfl⟩
section
variable {X:Cx} {pins:List (Addr × Obj)} {σ:St} {H:Hp} {s:Shared} {a:Addr} {y v:V} {u r:Value} {o:Option V} {A:Around} {E:Value→Shared→Prop}
end
section
variable {X:Cx} {pins:List (Addr × Obj)} {σ:St} {H:Hp} {s:Shared} {a:Addr} {kvs:List (Key × V)} {k:Key} {u:Value} {A:Around} {E:Value→Shared→Prop}
end
section
variable {X:Cx} {o i e value:Expr} {pos pos' tpos:Pos} {td ty tv:TE}
end
section
variable {X:Cx} {pos:Pos}
end
structure M1 (X:Cx) (o:Expr) (m:Str) (apos:Pos) (e:Expr) (cpos:Pos):Prop where
 base:attributeBase o m X.env (eval o X.env) = eval o X.env
 few:((backTo cpos (starEach [e] X.env)).all (fun x=>!x.1) && (backToKw cpos (keywordEach [] X.env)).all (fun x=>x.1.isSome)
   && decide (([e]:List Expr).length + ([]:List Keyword).length + (if ([]:List Keyword).isEmpty then 0 else 1) < 30)) = true
 line:(apos.endLine == cpos.line) = true
 trees:backTo cpos (starEach [e] X.env) = [(false,eval e X.env)]
structure M2 (X:Cx) (o:Expr) (m:Str) (apos:Pos) (e f:Expr) (cpos:Pos):Prop where
 base:attributeBase o m X.env (eval o X.env) = eval o X.env
 few:((backTo cpos (starEach [e,f] X.env)).all (fun x=>!x.1) && (backToKw cpos (keywordEach [] X.env)).all (fun x=>x.1.isSome)
   && decide (([e,f]:List Expr).length + ([]:List Keyword).length + (if ([]:List Keyword).isEmpty then 0 else 1) < 30)) = true
 line:(apos.endLine == cpos.line) = true
 trees:backTo cpos (starEach [e,f] X.env) = [(false,eval e X.env),(false,eval f X.env)]
section
variable {X:Cx} {pins:List (Addr × Obj)} {σ:St} {H:Hp} {s:Shared} {a:Addr} {y d:V} {u r:Value} {o:Option V} {A:Around} {E:Value→Shared→Prop}
end
section
variable {X:Cx} {o e f:Expr} {apos cpos:Pos} {td ty tx:TE}
end
section
variable {X:Cx} {pins:List (Addr × Obj)} {σ:St} {H:Hp} {s:Shared} {a:Addr} {kvs:List (Key × V)} {A:Around} {E:Value→Shared→Prop}
end
section
variable {X:Cx} {pins:List (Addr × Obj)} {σ:St} {H:Hp} {s:Shared} {a:Addr} {y:V} {u:Value} {A:Around} {E:Value→Shared→Prop}
end
end L2
namespace DL
open PySem PySem.Spec PyProof.Rows MX L2
inductive D where
 | non | bl (b:Bool) | int (i:Int) | str (x:Str) | ty (n:String) | cls (c:Nat)
 | lst (xs:List D) | tup (xs:List D) | rol (xs:List D) | rot (xs:List D)
 | dK (kvs:List (Key × D)) | dT (kvs:List (List Key × D))
 | obj (c:Nat) (fs:List (Str × D)) | exc (c:Nat) (fs:List (Str × D))
inductive Out (α:Type) where
 | ok (a:α) | ex (x:D) | stuck
namespace Out
def bind {α β:Type} (o:Out α) (k:α→Out β):Out β:=match o with
 | .ok a=>k a
 | .ex x=>.ex x
 | .stuck=>.stuck
def opt {α:Type}:Option α→Out α
 | some a=>.ok a
 | none=>.stuck
def bD {α:Type}:Out α→Out α
 | .ok a=>.ok a
 | _=>.stuck
@[simp] theorem bK {α β:Type} (a:α) (k:α→Out β):(Out.ok a).bind k = k a:=rfl
@[simp] theorem Qh {α β:Type} (x:D) (k:α→Out β):(Out.ex x).bind k = .ex x:=rfl
@[simp] theorem yg {α β:Type} (k:α→Out β):(Out.stuck:Out α).bind k = .stuck:=rfl
@[simp] theorem nD {α:Type} (a:α):opt (some a) = .ok a:=rfl
@[simp] theorem J0 {α:Type}:(opt none:Out α) = .stuck:=rfl
@[simp] theorem zR {α:Type} (a:α):bD (Out.ok a) = .ok a:=rfl
end Out
def wpO {α:Type} (o:Out α) (P:α→Prop) (R:D→Prop):Prop:=match o with
 | .ok a=>P a
 | .ex x=>R x
 | .stuck=>False
theorem au {α β:Type} {o:Out α} {k:α→Out β} {P:β→Prop} {R:D→Prop} (h:wpO (o.bind k) P R):wpO o (fun a=>wpO (k a) P R) R:=by
 cases o <;> exact h
theorem wpO.mono {α:Type} {o:Out α} {P P':α→Prop} {R R':D→Prop} (h:wpO o P R) (k:∀ a,P a→P' a) (r:∀ x,R x→R' x):wpO o P' R':=by
 cases o with
 | ok a=>exact k a h
 | ex x=>exact r x h
 | stuck=>exact h
theorem cB {α:Type} {o:Option α} {P:α→Prop} {R:D→Prop} (h:wpO (Out.opt o) P R):∃ a,o = some a∧P a:=by
 cases o with
 | none=>exact False.elim h
 | some a=>exact ⟨a,rfl,h⟩
theorem il {α:Type} {o:Out α} {P:α→Prop} {R R':D→Prop} (h:wpO o.bD P R):wpO o P R':=by
 cases o with
 | ok a=>exact h
 | ex x=>exact False.elim h
 | stuck=>exact h
section
variable (K:PySem.W.Frag) (Γ:Nat→Option Addr)
mutual
inductive Rep (G:Hp):V→D→Prop
 | non:Rep G .non .non
 | bl (b:Bool):Rep G (.bl b) (.bl b)
 | int (i:Int):Rep G (.int i) (.int i)
 | str (x:Str):Rep G (.str x) (.str x)
 | ty (n:String):Rep G (.ty n) (.ty n)
 | cls {c:Nat} {C:Addr} (h:Γ c = some C):Rep G (.ref C) (.cls c)
 | lst {a:Addr} {vs:List V} {ds:List D} (h:G a = some (.lst vs)) (r:aF G vs ds):Rep G (.ref a) (.lst ds)
 | tup {a:Addr} {vs:List V} {ds:List D} (h:G a = some (.tup vs)) (r:aF G vs ds):Rep G (.ref a) (.tup ds)
 | rol {a:Addr} {vs:List V} {ds:List D} (h:SqL K G a vs) (r:aF G vs ds):Rep G (.ref a) (.rol ds)
 | rot {a:Addr} {vs:List V} {ds:List D} (h:SqT K G a vs) (r:aF G vs ds):Rep G (.ref a) (.rot ds)
 | dK {a:Addr} {kvs:List (Key × V)} {kds:List (Key × D)} (h:G a = some (.dK kvs)) (r:nO G kvs kds):Rep G (.ref a) (.dK kds)
 | dT {a:Addr} {kvs:List (List Key × V)} {kds:List (List Key × D)} (h:G a = some (.dT kvs)) (r:RepT G kvs kds):Rep G (.ref a) (.dT kds)
 | obj {a:Addr} {c:Nat} {C dx:Addr} {fs:List (Str × V)} {fds:List (Str × D)} (h:G a = some (.ins C dx fs)) (g:Γ c = some C) (r:my G fs fds):Rep G (.ref a) (.obj c fds)
 | e0 {n:Bool} {a:Addr} {c:Nat} {C:Addr} (h:G a = some (.exc n C none a)) (g:Γ c = some C):Rep G (.ref a) (.exc c [])
 | e1 {n:Bool} {a:Addr} {c:Nat} {C d:Addr} {fs:List (Str × V)} {fds:List (Str × D)} (h:G a = some (.exc n C (some d) a)) (h':G d = some (.xds fs d)) (g:Γ c = some C) (r:my G fs fds):Rep G (.ref a) (.exc c fds)
inductive aF (G:Hp):List V→List D→Prop
 | nil:aF G [] []
 | cons {v:V} {vs:List V} {d:D} {ds:List D} (h:Rep G v d) (r:aF G vs ds):aF G (v :: vs) (d :: ds)
inductive my (G:Hp):List (Str × V)→List (Str × D)→Prop
 | nil:my G [] []
 | cons {f:Str} {v:V} {fs:List (Str × V)} {d:D} {fds:List (Str × D)} (h:Rep G v d) (r:my G fs fds):my G ((f,v) :: fs) ((f,d) :: fds)
inductive nO (G:Hp):List (Key × V)→List (Key × D)→Prop
 | nil:nO G [] []
 | cons {k:Key} {v:V} {fs:List (Key × V)} {d:D} {fds:List (Key × D)} (h:Rep G v d) (r:nO G fs fds):nO G ((k,v) :: fs) ((k,d) :: fds)
inductive RepT (G:Hp):List (List Key × V)→List (List Key × D)→Prop
 | nil:RepT G [] []
 | cons {k:List Key} {v:V} {fs:List (List Key × V)} {d:D} {fds:List (List Key × D)} (h:Rep G v d) (r:RepT G fs fds):RepT G ((k,v) :: fs) ((k,d) :: fds)
end
end
section
variable {K:PySem.W.Frag} {Γ:Nat→Option Addr} {G G':Hp}
theorem SqT.same (e:bL G G') {a:Addr} {xs:List V} (h:SqT K G a xs):SqT K G' a xs:=by
 rcases h with h | h
 · rcases h with h | ⟨o,h⟩
   · exact .inl (.inl (e _ _ h))
   · exact .inl (.inr ⟨o,e _ _ h⟩)
 · exact .inr h
mutual
theorem Rep.mono (e:bL G G'):∀ {v:V} {d:D},Rep K Γ G v d→Rep K Γ G' v d
 | _,_,.non=>.non
 | _,_,.bl b=>.bl b
 | _,_,.int i=>.int i
 | _,_,.str x=>.str x
 | _,_,.ty n=>.ty n
 | _,_,.cls h=>.cls h
 | _,_,.lst h r=>.lst (e _ _ h) (aF.mono e r)
 | _,_,.tup h r=>.tup (e _ _ h) (aF.mono e r)
 | _,_,.rol h r=>.rol (e.seq h) (aF.mono e r)
 | _,_,.rot h r=>.rot (SqT.same e h) (aF.mono e r)
 | _,_,.dK h r=>.dK (e _ _ h) (nO.mono e r)
 | _,_,.dT h r=>.dT (e _ _ h) (RepT.mono e r)
 | _,_,.obj h g r=>.obj (e _ _ h) g (my.mono e r)
 | _,_,.e0 h g=>.e0 (e _ _ h) g
 | _,_,.e1 h h' g r=>.e1 (e _ _ h) (e _ _ h') g (my.mono e r)
theorem aF.mono (e:bL G G'):∀ {v:List V} {d:List D},aF K Γ G v d→aF K Γ G' v d
 | _,_,.nil=>.nil
 | _,_,.cons h r=>.cons (Rep.mono e h) (aF.mono e r)
theorem my.mono (e:bL G G'):∀ {v:List (Str × V)} {d:List (Str × D)},my K Γ G v d→my K Γ G' v d
 | _,_,.nil=>.nil
 | _,_,.cons h r=>.cons (Rep.mono e h) (my.mono e r)
theorem nO.mono (e:bL G G'):∀ {v:List (Key × V)} {d:List (Key × D)},nO K Γ G v d→nO K Γ G' v d
 | _,_,.nil=>.nil
 | _,_,.cons h r=>.cons (Rep.mono e h) (nO.mono e r)
theorem RepT.mono (e:bL G G'):∀ {v:List (List Key × V)} {d:List (List Key × D)},RepT K Γ G v d→RepT K Γ G' v d
 | _,_,.nil=>.nil
 | _,_,.cons h r=>.cons (Rep.mono e h) (RepT.mono e r)
end
theorem aF.length:∀ {vs:List V} {ds:List D},aF K Γ G vs ds→vs.length = ds.length
 | _,_,.nil=>rfl
 | _,_,.cons _ r=>by rw [List.length_cons,List.length_cons,r.length]
theorem aF.get:∀ {vs:List V} {ds:List D} {i:Nat} {d:D},aF K Γ G vs ds→ds[i]? = some d→∃ v,vs[i]? = some v∧Rep K Γ G v d
 | _,_,_,_,.nil,e=>by simp at e
 | _,_,0,_,.cons h _,e=>by simp at e; subst e; exact ⟨_,rfl,h⟩
 | _,_,i + 1,d,.cons _ r,e=>by
   obtain ⟨v,h1,h2⟩:=aF.get (i:=i) (d:=d) r (by simpa using e)
   exact ⟨v,by simpa using h1,h2⟩
theorem aF.append:∀ {vs ws:List V} {ds es:List D},aF K Γ G vs ds→aF K Γ G ws es→aF K Γ G (vs ++ ws) (ds ++ es)
 | _,_,_,_,.nil,s=>s
 | _,_,_,_,.cons h r,s=>.cons h (r.append s)
theorem aF.take:∀ {vs:List V} {ds:List D} (n:Nat),aF K Γ G vs ds→aF K Γ G (vs.take n) (ds.take n)
 | _,_,0,_=>by simpa using aF.nil
 | _,_,_ + 1,.nil=>.nil
 | _,_,n + 1,.cons h r=>.cons h (r.take n)
theorem aF.drop:∀ {vs:List V} {ds:List D} (n:Nat),aF K Γ G vs ds→aF K Γ G (vs.drop n) (ds.drop n)
 | _,_,0,r=>r
 | _,_,_ + 1,.nil=>.nil
 | _,_,n + 1,.cons _ r=>r.drop n
theorem aF.set {v:V} {d:D} (h:Rep K Γ G v d):∀ {vs:List V} {ds:List D} (n:Nat),aF K Γ G vs ds→aF K Γ G (vs.set n v) (ds.set n d)
 | _,_,_,.nil=>.nil
 | _,_,0,.cons _ r=>.cons h r
 | _,_,n + 1,.cons h' r=>.cons h' (aF.set h n r)
theorem aF.rep {vs:List V} {ds:List D} (h:aF K Γ G vs ds):∀ k:Nat,aF K Γ G (List.replicate k vs).flatten (List.replicate k ds).flatten
 | 0=>.nil
 | k + 1=>by
   rw [List.replicate_succ,List.replicate_succ,List.flatten_cons,List.flatten_cons]
   exact h.append (h.rep k)
theorem aF.reverse {vs:List V} {ds:List D} (h:aF K Γ G vs ds):aF K Γ G vs.reverse ds.reverse:=by
 induction vs generalizing ds with
 | nil=>cases h; exact .nil
 | cons v vs ih =>
   cases h with
   | cons h r =>
     rw [List.reverse_cons,List.reverse_cons]
     exact (ih r).append (.cons h .nil)
theorem my.look {f:Str}:∀ {fs:List (Str × V)} {fds:List (Str × D)} {d:D},my K Γ G fs fds→fds.lookup f = some d→∃ v,fs.lookup f = some v∧Rep K Γ G v d
 | _,_,_,.nil,e=>by simp at e
 | _,_,d,.cons (f:=g) h r,e=>by
   by_cases q:f = g
   · subst q
     simp only [List.lookup_cons,beq_self_eq_true] at e
     cases e
     exact ⟨_,by simp [List.lookup_cons],h⟩
   · have q':(f == g) = false:=beq_eq_false_iff_ne.mpr q
     simp only [List.lookup_cons,q'] at e
     obtain ⟨v,h1,h2⟩:=r.look e
     exact ⟨v,by simp only [List.lookup_cons,q']; exact h1,h2⟩
theorem my.none {f:Str}:∀ {fs:List (Str × V)} {fds:List (Str × D)},my K Γ G fs fds→fds.lookup f = none→fs.lookup f = none
 | _,_,.nil,_=>rfl
 | _,_,.cons (f:=g) h r,e=>by
   by_cases q:f = g
   · subst q
     simp only [List.lookup_cons,beq_self_eq_true] at e
     cases e
   · have q':(f == g) = false:=beq_eq_false_iff_ne.mpr q
     simp only [List.lookup_cons,q'] at e ⊢
     exact r.none e
theorem my.length:∀ {fs:List (Str × V)} {fds:List (Str × D)},my K Γ G fs fds→fs.length = fds.length
 | _,_,.nil=>rfl
 | _,_,.cons _ r=>by rw [List.length_cons,List.length_cons,r.length]
def putD (f:Str) (d:D):List (Str × D)→List (Str × D)
 | []=>[(f,d)]
 | (g,e) :: r=>if g = f then (g,d) :: r else (g,e) :: putD f d r
theorem my.put {f:Str} {v:V} {d:D} (h:Rep K Γ G v d):∀ {fs:List (Str × V)} {fds:List (Str × D)},my K Γ G fs fds→my K Γ G (pq f v fs) (putD f d fds)
 | _,_,.nil=>.cons h .nil
 | _,_,.cons (f:=g) h' r=>by
   unfold pq putD
   by_cases q:g = f
   · rw [if_pos q,if_pos q]; exact .cons h r
   · rw [if_neg q,if_neg q]; exact .cons h' (my.put h r)
end
structure Step (G H G' H':Hp):Prop where
 gg:bL G G'
 hh:bL H H'
 gh:bL G' H'
 sep:∀ b,H b ≠ none→G b = none→G' b = none
theorem Step.refl {G H:Hp} (s:bL G H):Step G H G H:=⟨bL.refl _,bL.refl _,s,fun _ _ h=>h⟩
theorem Step.trans {G H G1 H1 G2 H2:Hp} (a:Step G H G1 H1) (b:Step G1 H1 G2 H2):Step G H G2 H2 :=
 ⟨a.gg.trans b.gg,a.hh.trans b.hh,b.gh,fun x h g=>b.sep x (fun q=>by
   cases e:H x with
   | none=>exact h e
   | some o=>rw [a.hh _ _ e] at q; cases q) (a.sep x h g)⟩
theorem bL.up {H:Hp} {p:Addr} {o:HO} (h:H p = none):bL H (upd H p o):=fun b u q=>by rw [aN (bc q h)]; exact q
theorem aR {G H:Hp} (s:bL G H) {p:Addr} (h:H p = none):G p = none:=s.free h
theorem Step.new {G H:Hp} (s:bL G H) {p:Addr} {o:HO} (h:H p = none):Step G H (upd G p o) (upd H p o):=by
 refine ⟨bL.up (aR s h),bL.up h,fun b u q=>?_,fun b hb g=>?_⟩
 · by_cases e:b = p
   · subst e; rw [aW] at q ⊢; exact q
   · rw [aN e] at q ⊢; exact s _ _ q
 · have e:b ≠ p:=fun e=>hb (e ▸ h)
   rw [aN e]; exact g
theorem Step.aside {G H:Hp} (s:bL G H) {p:Addr} {o:HO} (h:H p = none):Step G H G (upd H p o) :=
 ⟨bL.refl _,bL.up h,s.trans (bL.up h),fun _ _ g=>g⟩
inductive Mx where
 | own (ds:List D) | fix (d:D)
def Mx.d:Mx→D
 | .own ds=>.lst ds
 | .fix d=>d
inductive Sl where
 | sh (d:D) | ol (ds:List D) | oll (dss:List (List D)) | od (kvs:List (Key × D)) | odT (kvs:List (List Key × D)) | omx (es:List Mx)
abbrev DSt:=List (Option Sl)
section
variable (K:PySem.W.Frag) (Γ:Nat→Option Addr) (G0 H0 G H:Hp) (O:Addr→Option Nat)
inductive Inner (i:Nat):List V→List (List D)→Prop
 | nil:Inner i [] []
 | cons {b:Addr} {vs ws:List V} {ds:List D} {dss:List (List D)} (h:H b = some (.lst ws)) (g:G b = none) (h0:H0 b = none) (o:O b = some i) (r:aF K Γ G ws ds) (n:V.ref b ∉ vs) (t:Inner i vs dss):Inner i (.ref b :: vs) (ds :: dss)
inductive bH (i:Nat):List V→List Mx→List Addr→Prop
 | nil:bH i [] [] []
 | own {b:Addr} {vs ws:List V} {ds:List D} {es:List Mx} {bs:List Addr} (h:H b = some (.lst ws)) (g:G b = none) (h0:H0 b = none) (o:O b = some i) (r:aF K Γ G ws ds) (n:b ∉ bs) (t:bH i vs es bs):bH i (.ref b :: vs) (.own ds :: es) (b :: bs)
 | fix {v:V} {vs:List V} {d:D} {es:List Mx} {bs:List Addr} (r:Rep K Γ G v d) (t:bH i vs es bs):bH i (v :: vs) (.fix d :: es) bs
def dN (i:Nat) (v:V):Sl→Prop
 | .sh d=>Rep K Γ G v d
 | .ol ds=>∃ a vs,v = .ref a∧H a = some (.lst vs)∧G a = none∧H0 a = none∧O a = some i∧aF K Γ G vs ds
 | .oll dss=>∃ a vs,v = .ref a∧H a = some (.lst vs)∧G a = none∧H0 a = none∧O a = some i∧V.ref a ∉ vs∧Inner K Γ H0 G H O i vs dss
 | .od kvs=>∃ a vs,v = .ref a∧H a = some (.dK vs)∧G a = none∧H0 a = none∧O a = some i∧nO K Γ G vs kvs
 | .odT kvs=>∃ a vs,v = .ref a∧H a = some (.dT vs)∧G a = none∧H0 a = none∧O a = some i∧RepT K Γ G vs kvs
 | .omx es=>∃ a vs bs,v = .ref a∧H a = some (.lst vs)∧G a = none∧H0 a = none∧O a = some i∧a ∉ bs∧bH K Γ H0 G H O i vs es bs
def Slots (σ:L2.St) (δ:DSt):Prop:=∃ O:Addr→Option Nat,∀ i s,δ[i]? = some (some s)→∃ v,σ[i]? = some (some v)∧dN K Γ H0 G H O i v s
structure SR (σ:L2.St) (δ:DSt):Prop where
 st:Step G0 H0 G H
 len:δ.length = σ.length
 sl:Slots K Γ H0 G H σ δ
end
section
variable {K:PySem.W.Frag} {Γ:Nat→Option Addr} {G0 H0 G H G' H':Hp} {O:Addr→Option Nat} {σ:L2.St} {δ:DSt}
theorem Inner.step (s:Step G H G' H') {i:Nat}:∀ {vs:List V} {dss:List (List D)},Inner K Γ H0 G H O i vs dss→Inner K Γ H0 G' H' O i vs dss
 | _,_,.nil=>.nil
 | _,_,.cons h g h0 o r n t=>.cons (s.hh _ _ h) (s.sep _ (by rw [h]; exact fun q=>nomatch q) g) h0 o (r.mono s.gg) n (t.step s)
theorem bH.step (s:Step G H G' H') {i:Nat}:∀ {vs:List V} {es:List Mx} {bs:List Addr},bH K Γ H0 G H O i vs es bs→bH K Γ H0 G' H' O i vs es bs
 | _,_,_,.nil=>.nil
 | _,_,_,.own h g h0 o r n t=>.own (s.hh _ _ h) (s.sep _ (by rw [h]; exact fun q=>nomatch q) g) h0 o (r.mono s.gg) n (t.step s)
 | _,_,_,.fix r t=>.fix (r.mono s.gg) (t.step s)
theorem dN.step (s:Step G H G' H') {i:Nat} {v:V} {x:Sl} (h:dN K Γ H0 G H O i v x):dN K Γ H0 G' H' O i v x:=by
 have sp:∀ {a:Addr} {o:HO},H a = some o→G a = none→G' a = none:=fun h g=>s.sep _ (by rw [h]; exact fun q=>nomatch q) g
 cases x with
 | sh d=>exact Rep.mono s.gg h
 | ol ds =>
   obtain ⟨a,vs,e,h1,h2,h3,h4,h5⟩:=h
   exact ⟨a,vs,e,s.hh _ _ h1,sp h1 h2,h3,h4,h5.mono s.gg⟩
 | oll ds =>
   obtain ⟨a,vs,e,h1,h2,h3,h4,h5,h6⟩:=h
   exact ⟨a,vs,e,s.hh _ _ h1,sp h1 h2,h3,h4,h5,h6.step s⟩
 | od ds =>
   obtain ⟨a,vs,e,h1,h2,h3,h4,h5⟩:=h
   exact ⟨a,vs,e,s.hh _ _ h1,sp h1 h2,h3,h4,h5.mono s.gg⟩
 | odT ds =>
   obtain ⟨a,vs,e,h1,h2,h3,h4,h5⟩:=h
   exact ⟨a,vs,e,s.hh _ _ h1,sp h1 h2,h3,h4,h5.mono s.gg⟩
 | omx ds =>
   obtain ⟨a,vs,bs,e,h1,h2,h3,h4,h5,h6⟩:=h
   exact ⟨a,vs,bs,e,s.hh _ _ h1,sp h1 h2,h3,h4,h5,h6.step s⟩
theorem SR.step (S:SR K Γ G0 H0 G H σ δ) (s:Step G H G' H'):SR K Γ G0 H0 G' H' σ δ:=by
 obtain ⟨O,q⟩:=S.sl
 refine ⟨S.st.trans s,S.len,O,fun i x e=>?_⟩
 obtain ⟨v,h1,h2⟩:=q i x e
 exact ⟨v,h1,h2.step s⟩
theorem SR.set (S:SR K Γ G0 H0 G H σ δ) {i:Nat} {v:V} {d:D} (r:Rep K Γ G v d):SR K Γ G0 H0 G H (σ.set i (some v)) (δ.set i (some (.sh d))):=by
 obtain ⟨O,q⟩:=S.sl
 refine ⟨S.st,by rw [List.length_set,List.length_set]; exact S.len,O,fun j x e=>?_⟩
 by_cases ij:i = j
 · subst ij
   rw [List.getElem?_set_self'] at e
   cases h:δ[i]? with
   | none=>rw [h] at e; simp at e
   | some y =>
     rw [h] at e
     simp at e
     have lt:i < σ.length:=by rw [← S.len]; exact (List.getElem?_eq_some_iff.mp h).1
     subst e
     exact ⟨v,by rw [List.getElem?_set_self lt],r⟩
 · rw [List.getElem?_set_ne ij] at e
   obtain ⟨v',h1,h2⟩:=q j x e
   exact ⟨v',by rw [List.getElem?_set_ne ij]; exact h1,h2⟩
theorem SR.drop (S:SR K Γ G0 H0 G H σ δ) {δ':DSt} (hl:δ'.length = δ.length) (h:∀ (i:Nat) x,δ'[i]? = some (some x)→δ[i]? = some (some x)):SR K Γ G0 H0 G H σ δ':=by
 obtain ⟨O,q⟩:=S.sl
 exact ⟨S.st,hl.trans S.len,O,fun i x e=>q i x (h i x e)⟩
end
inductive bQ (K:PySem.W.Frag) (Γ:Nat→Option Addr) (H G' H':Hp):List V→List (List D)→Prop
 | nil:bQ K Γ H G' H' [] []
 | cons {b:Addr} {vs ws:List V} {ds:List D} {dss:List (List D)} (f:H b = none) (h:H' b = some (.lst ws)) (g:G' b = none) (r:aF K Γ G' ws ds) (n:V.ref b ∉ vs) (t:bQ K Γ H G' H' vs dss):bQ K Γ H G' H' (.ref b :: vs) (ds :: dss)
section
variable (K:PySem.W.Frag) (Γ:Nat→Option Addr) (E:XK)
def okD (G H:Hp) (Q:VK) (d:D):Prop:=∀ v G' H',Step G H G' H'→Rep K Γ G' v d→Q v H'
def exD (G H:Hp) (x:D):Prop:=∀ a G' H',Step G H G' H'→Rep K Γ G' (.ref a) x→E (.ref a) none H'
def teD (f:DSt→Out D):TE:=fun σ H Q=>∃ G0 H0 G δ,SR K Γ G0 H0 G H σ δ∧wpO (f δ) (okD K Γ G H Q) (exD K Γ E G H)
def ttD (f:DSt→Out Bool):TT:=fun σ H Q=>∃ G0 H0 G δ,SR K Γ G0 H0 G H σ δ∧wpO (f δ) (fun b=>∀ G' H',Step G H G' H'→Q b H') (exD K Γ E G H)
def taD (f:DSt→Out (List D)):TA:=fun σ H Q=>∃ G0 H0 G δ,SR K Γ G0 H0 G H σ δ∧wpO (f δ) (fun ds=>∀ vs G' H',Step G H G' H'→aF K Γ G' vs ds→Q vs H') (exD K Γ E G H)
def tbD (f:DSt→Out D):TE:=fun σ H Q=>∃ G0 H0 G δ,SR K Γ G0 H0 G H σ δ∧wpO (f δ) (fun d=>∀ v G' H',Step G H G' H'→Rep K Γ H' v d→Q v H') (exD K Γ E G H)
inductive Fl where
 | nx (δ:DSt) | rt (d:D) | bk (δ:DSt) | ct (δ:DSt) | rl (ds:List D) | rll (dss:List (List D))
def FlOk (G0 H0:Hp) (N:Ends):Fl→Prop
 | .nx δ=>∀ σ G H,SR K Γ G0 H0 G H σ δ→N.nx σ H
 | .rt d=>∀ v G H,Step G0 H0 G H→Rep K Γ G v d→N.rt v H
 | .bk δ=>∀ σ G H,SR K Γ G0 H0 G H σ δ→N.bk σ H
 | .ct δ=>∀ σ G H,SR K Γ G0 H0 G H σ δ→N.ct σ H
 | .rl ds=>∀ a vs G H,Step G0 H0 G H→H0 a = none→H a = some (.lst vs)→G a = none→aF K Γ G vs ds→N.rt (.ref a) H
 | .rll dss=>∀ a vs G H,Step G0 H0 G H→H0 a = none→H a = some (.lst vs)→G a = none→V.ref a ∉ vs→bQ K Γ H0 G H vs dss→N.rt (.ref a) H
def tsD (g:DSt→Out Fl):TS:=fun N σ H=>∃ G0 H0 G δ,SR K Γ G0 H0 G H σ δ∧wpO (g δ) (FlOk K Γ G0 H0 N) (exD K Γ E G0 H0)
end
section
variable {K:PySem.W.Frag} {Γ:Nat→Option Addr} {E:XK} {G H G1 H1:Hp}
theorem okD.step {Q:VK} {d:D} (h:okD K Γ G H Q d) (s:Step G H G1 H1):okD K Γ G1 H1 Q d:=fun v G' H' s' r=>h v G' H' (s.trans s') r
theorem exD.step {x:D} (h:exD K Γ E G H x) (s:Step G H G1 H1):exD K Γ E G1 H1 x:=fun v G' H' s' r=>h v G' H' (s.trans s') r
end
abbrev DE (X:Cx) (Γ:Nat→Option Addr) (E:XK) (e:Expr) (f:DSt→Out D):Prop:=PE X e (teD X.K Γ E f)
abbrev DB (X:Cx) (Γ:Nat→Option Addr) (E:XK) (e:Expr) (f:DSt→Out D):Prop:=PE X e (tbD X.K Γ E f)
abbrev DT (X:Cx) (Γ:Nat→Option Addr) (E:XK) (e:Expr) (f:DSt→Out Bool):Prop:=PT X e (ttD X.K Γ E f)
abbrev DW (X:Cx) (Γ:Nat→Option Addr) (E:XK) (e:Expr) (f:DSt→Out Bool):Prop:=PW X e (ttD X.K Γ E f)
abbrev DA (X:Cx) (Γ:Nat→Option Addr) (E:XK) (es:List Expr) (f:DSt→Out (List D)):Prop:=PA X es (taD X.K Γ E f)
abbrev DS (X:Cx) (Γ:Nat→Option Addr) (E:XK) (st:Stmt) (g:DSt→Out Fl):Prop:=PS X st (tsD X.K Γ E g)
abbrev DSs (X:Cx) (Γ:Nat→Option Addr) (E:XK) (st:List Stmt) (g:DSt→Out Fl):Prop:=PSs X st (tsD X.K Γ E g)
section
variable {X:Cx}
theorem PE.imp {e:Expr} {t t':TE} (h:PE X e t) (k:∀ σ H Q,t' σ H Q→t σ H Q):PE X e t':=fun pins s σ H Q I q=>h pins s σ H Q I (k _ _ _ q)
theorem PT.imp {e:Expr} {t t':TT} (h:PT X e t) (k:∀ σ H Q,t' σ H Q→t σ H Q):PT X e t':=fun pins s σ H Q I q=>h pins s σ H Q I (k _ _ _ q)
theorem PW.imp {e:Expr} {t t':TT} (h:PW X e t) (k:∀ σ H Q,t' σ H Q→t σ H Q):PW X e t':=fun wh pins s σ H Q I q=>h wh pins s σ H Q I (k _ _ _ q)
theorem PA.imp {e:List Expr} {t t':TA} (h:PA X e t) (k:∀ σ H Q,t' σ H Q→t σ H Q):PA X e t':=fun p pins s σ H Q I q=>h p pins s σ H Q I (k _ _ _ q)
theorem PS.imp {e:Stmt} {t t':TS} (h:PS X e t) (k:∀ D σ H,t' D σ H→t D σ H):PS X e t':=fun pins s σ H Q I q=>h pins s σ H Q I (k _ _ _ q)
theorem PSs.imp {e:List Stmt} {t t':TS} (h:PSs X e t) (k:∀ D σ H,t' D σ H→t D σ H):PSs X e t':=fun pins s σ H Q I q=>h pins s σ H Q I (k _ _ _ q)
end
end DL
namespace DL
open PySem PySem.Spec PyProof.Rows MX L2
def gv (i:Nat):DSt→Out D:=fun δ=>match δ[i]? with
 | some (some (.sh d))=>.ok d
 | _=>.stuck
def slD:Sl→D
 | .sh d=>d
 | .ol ds=>.lst ds
 | .oll dss=>.lst (dss.map .lst)
 | .od kvs=>.dK kvs
 | .odT kvs=>.dT kvs
 | .omx es=>.lst (es.map Mx.d)
def gb (i:Nat):DSt→Out D:=fun δ=>match δ[i]? with
 | some (some s)=>.ok (slD s)
 | _=>.stuck
section
variable {X:Cx} {Γ:Nat→Option Addr} {E:XK} {e a b c:Expr} {pos:Pos}
theorem aq (i:Nat) {x:Str} (h:PE X (.Name x pos) (DN i)):DE X Γ E (.Name x pos) (gv i):=PE.imp h fun σ H Q ⟨G0,H0,G,δ,S,w⟩=>by
 unfold gv at w
 split at w
 · rename_i d e
   obtain ⟨O,q⟩:=S.sl
   obtain ⟨v,h1,h2⟩:=q i _ e
   exact ⟨v,h1,w v G H (.refl S.st.gh) h2⟩
 · exact False.elim w
theorem Inner.rep {K:PySem.W.Frag} {H0 G H:Hp} {O:Addr→Option Nat} (s:bL G H) {i:Nat}:∀ {vs:List V} {dss:List (List D)},Inner K Γ H0 G H O i vs dss→aF K Γ H vs (dss.map .lst)
 | _,_,.nil=>.nil
 | _,_,.cons h g h0 o r n t=>.cons (.lst h (r.mono s)) (t.rep s)
theorem bH.rep {K:PySem.W.Frag} {H0 G H:Hp} {O:Addr→Option Nat} (s:bL G H) {i:Nat}:∀ {vs:List V} {es:List Mx} {bs:List Addr},bH K Γ H0 G H O i vs es bs→aF K Γ H vs (es.map Mx.d)
 | _,_,_,.nil=>.nil
 | _,_,_,.own h g h0 o r n t=>.cons (.lst h (r.mono s)) (t.rep s)
 | _,_,_,.fix r t=>.cons (r.mono s) (t.rep s)
theorem dN.rep {K:PySem.W.Frag} {H0 G H:Hp} {O:Addr→Option Nat} (s:bL G H) {i:Nat} {v:V} {x:Sl} (h:dN K Γ H0 G H O i v x):Rep K Γ H v (slD x):=by
 cases x with
 | sh d=>exact Rep.mono s h
 | ol ds=>obtain ⟨a,vs,e,h1,h2,h3,h4,h5⟩:=h; subst e; exact .lst h1 (h5.mono s)
 | oll ds=>obtain ⟨a,vs,e,h1,h2,h3,h4,h5,h6⟩:=h; subst e; exact .lst h1 (h6.rep s)
 | od ds=>obtain ⟨a,vs,e,h1,h2,h3,h4,h5⟩:=h; subst e; exact .dK h1 (h5.mono s)
 | odT ds=>obtain ⟨a,vs,e,h1,h2,h3,h4,h5⟩:=h; subst e; exact .dT h1 (h5.mono s)
 | omx ds=>obtain ⟨a,vs,bs,e,h1,h2,h3,h4,h5,h6⟩:=h; subst e; exact .lst h1 (h6.rep s)
theorem aO (i:Nat) {x:Str} (h:PE X (.Name x pos) (DN i)):DB X Γ E (.Name x pos) (gb i):=PE.imp h fun σ H Q ⟨G0,H0,G,δ,S,w⟩=>by
 unfold gb at w
 split at w
 · rename_i d e
   obtain ⟨O,q⟩:=S.sl
   obtain ⟨v,h1,h2⟩:=q i _ e
   exact ⟨v,h1,w v G H (.refl S.st.gh) (h2.rep S.st.gh)⟩
 · exact False.elim w
theorem aQ {f:DSt→Out D} (h:DE X Γ E e f):DB X Γ E e f:=PE.imp h fun σ H Q ⟨G0,H0,G,δ,S,w⟩ =>
 ⟨G0,H0,G,δ,S,w.mono (fun d k v G' H' s r=>k v G' H' s (r.mono s.gh)) fun _ k=>k⟩
theorem de_c {v:V} {d:D} (h:PE X e (tC v)) (r:∀ G,Rep X.K Γ G v d):DE X Γ E e (fun _=>.ok d):=PE.imp h fun σ H Q ⟨G0,H0,G,δ,S,w⟩=>w v G H (.refl S.st.gh) (r G)
theorem aC {i j}:DE X Γ E (.Constant (.int i) j pos) (fun _=>.ok (.int i)):=de_c pe_int fun _=>.int i
theorem qX {i j}:DE X Γ E (.Constant (.bool i) j pos) (fun _=>.ok (.bl i)):=de_c pe_bl fun _=>.bl i
theorem yF {j}:DE X Γ E (.Constant .none j pos) (fun _=>.ok .non):=de_c aiA fun _=>.non
theorem cg {x j}:DE X Γ E (.Constant (.str x) j pos) (fun _=>.ok (.str x)):=de_c pe_str fun _=>.str x
def o2 (g:D→D→Option D) (fa fb:DSt→Out D):DSt→Out D:=fun δ=>(fa δ).bind fun x=>(fb δ).bind fun y=>.opt (g x y)
def DR2 (K:PySem.W.Frag) (Γ:Nat→Option Addr) (r:R2) (g:D→D→Option D):Prop :=
 ∀ G H x y dx dy d Q,bL G H→Rep K Γ G x dx→Rep K Γ G y dy→g dx dy = some d→okD K Γ G H Q d→r x y H Q
theorem d2 {r:R2} {g:D→D→Option D} {fa fb:DSt→Out D} (hr:DR2 X.K Γ r g) (h:PE X e (tOp r (teD X.K Γ E fa) (teD X.K Γ E fb))):DE X Γ E e (o2 g fa fb):=PE.imp h fun σ H Q ⟨G0,H0,G,δ,S,w⟩=>by
 refine ⟨G0,H0,G,δ,S,(au w).mono (fun x w v G1 H1 s1 r1=>?_) fun _ k=>k⟩
 refine ⟨G0,H0,G1,δ,S.step s1,(au w).mono (fun y w u G2 H2 s2 r2=>?_) fun _ k=>k.step s1⟩
 obtain ⟨d,e,k⟩:=cB w
 exact hr G2 H2 v u x y d Q s2.gh (r1.mono s2.gg) r2 e (k.step (s1.trans s2))
def o2b (g:D→D→Option Bool) (fa fb:DSt→Out D):DSt→Out Bool:=fun δ=>(fa δ).bind fun x=>(fb δ).bind fun y=>.opt (g x y)
def bV (f:DSt→Out Bool):DSt→Out D:=fun δ=>(f δ).bind fun b=>.ok (.bl b)
def DRB (K:PySem.W.Frag) (Γ:Nat→Option Addr) (r:R2) (g:D→D→Option Bool):Prop :=
 ∀ H x y dx dy b Q,Rep K Γ H x dx→Rep K Γ H y dy→g dx dy = some b→Q (.bl b) H→r x y H Q
theorem d2b {r:R2} {g:D→D→Option Bool} {fa fb:DSt→Out D} (hr:DRB X.K Γ r g) (h:PE X e (tOp r (tbD X.K Γ E fa) (tbD X.K Γ E fb))):DE X Γ E e (bV (o2b g fa fb)):=PE.imp h fun σ H Q ⟨G0,H0,G,δ,S,w⟩=>by
 refine ⟨G0,H0,G,δ,S,(au (au w)).mono (fun x w v G1 H1 s1 r1=>?_) fun _ k=>k⟩
 refine ⟨G0,H0,G1,δ,S.step s1,(au w).mono (fun y w u G2 H2 s2 r2=>?_) fun _ k=>k.step s1⟩
 obtain ⟨d,e,k⟩:=cB w
 exact hr H2 v u x y d Q (r1.mono s2.hh) r2 e (k _ G2 H2 (s1.trans s2) (.bl d))
theorem d2t {r:R2} {g:D→D→Option Bool} {fa fb:DSt→Out D} (hr:DRB X.K Γ r g) (h:PT X e (tTest (tOp r (tbD X.K Γ E fa) (tbD X.K Γ E fb)))):DT X Γ E e (o2b g fa fb):=PT.imp h fun σ H Q ⟨G0,H0,G,δ,S,w⟩=>by
 refine ⟨G0,H0,G,δ,S,(au w).mono (fun x w v G1 H1 s1 r1=>?_) fun _ k=>k⟩
 refine ⟨G0,H0,G1,δ,S.step s1,(au w).mono (fun y w u G2 H2 s2 r2=>?_) fun _ k=>k.step s1⟩
 obtain ⟨d,e,k⟩:=cB w
 exact hr H2 v u x y d _ (r1.mono s2.hh) r2 e ⟨d,rfl,k G2 H2 (s1.trans s2)⟩
def dG:D→D→Option D
 | .int i,.int j=>some (.int (i + j))
 | .str i,.str j=>if i.length + j.length ≤ sizeLine then some (.str (i ++ j)) else none
 | .lst i,.lst j=>if i.length + j.length ≤ sizeLine then some (.lst (i ++ j)) else none
 | _,_=>none
def subD:D→D→Option D
 | .int i,.int j=>some (.int (i - j))
 | _,_=>none
instance (i j:Int):Decidable (An i j):=by unfold An; infer_instance
instance (i j:Int):Decidable (CDiv i j):=by unfold CDiv; infer_instance
def oW:D→D→Option D
 | .int i,.int j=>if An i j then some (.int (i * j)) else none
 | .str i,.int j=>if i.length ≤ 1000∧0 ≤ j∧j ≤ 1000 then some (.str (Txt.mul i j)) else none
 | .lst i,.int j=>if -(2 ^ 63) ≤ j∧j < 2 ^ 63∧i.length * j.toNat ≤ sizeLine then some (.lst (List.replicate j.toNat i).flatten) else none
 | _,_=>none
def gJ:D→D→Option D
 | .int i,.int j=>if CDiv i j then some (.int (i / j)) else none
 | _,_=>none
def cC:D→D→Option D
 | .int i,.int j=>if 0 < j then some (.int (i % j)) else none
 | _,_=>none
theorem dr_add {K:PySem.W.Frag}:DR2 K Γ (fun x y H Q=>(rI0 fun i j=>.int (i + j)) x y H Q ∨ (∃ i j,x = .str i∧y = .str j∧i.length + j.length ≤ sizeLine∧Q (.str (i ++ j)) H) ∨ rCat x y H Q) dG:=by
 intro G H x y dx dy d Q s rx ry e k
 unfold dG at e
 split at e
 · cases e; cases rx; cases ry; exact .inl ⟨_,_,rfl,rfl,k _ G H (.refl s) (.int _)⟩
 · split at e
   · cases e; cases rx; cases ry; rename_i h; exact .inr (.inl ⟨_,_,rfl,rfl,h,k _ G H (.refl s) (.str _)⟩)
   · cases e
 · split at e
   · cases e
     rename_i h
     cases rx with
     | lst h1 r1 =>
       cases ry with
       | lst h2 r2 =>
         refine .inr (.inr ⟨_,_,_,_,rfl,rfl,s _ _ h1,s _ _ h2,by rw [r1.length,r2.length]; exact h,fun p hp=>k _ _ _ (.new s hp) (.lst aW ?_)⟩)
         exact (r1.append r2).mono (bL.up (aR s hp))
   · cases e
 · cases e
theorem c7 {fa fb:DSt→Out D} (ha:DE X Γ E a fa) (hb:DE X Γ E b fb):DE X Γ E (.BinOp a .Add b pos) (o2 dG fa fb):=d2 dr_add (agb (op_add.or (aiz.or op_cat)) ha hb)
theorem dr_mul {K:PySem.W.Frag}:DR2 K Γ (fun x y H Q=>(rI An fun i j=>.int (i * j)) x y H Q ∨ (∃ i n,x = .str i∧y = .int n∧i.length ≤ 1000∧0 ≤ n∧n ≤ 1000∧Q (.str (Txt.mul i n)) H) ∨ rRep x y H Q) oW:=by
 intro G H x y dx dy d Q s rx ry e k
 unfold oW at e
 split at e
 · split at e
   · rename_i h; cases e; cases rx; cases ry; exact .inl ⟨_,_,rfl,rfl,h,k _ G H (.refl s) (.int _)⟩
   · cases e
 · split at e
   · rename_i h; cases e; cases rx; cases ry; exact .inr (.inl ⟨_,_,rfl,rfl,h.1,h.2.1,h.2.2,k _ G H (.refl s) (.str _)⟩)
   · cases e
 · split at e
   · rename_i h
     cases e
     cases ry
     cases rx with
     | lst h1 r1 =>
       refine .inr (.inr ⟨_,_,_,rfl,rfl,s _ _ h1,h.1,h.2.1,by rw [r1.length]; exact h.2.2,fun p hp=>k _ _ _ (.new s hp) (.lst aW ?_)⟩)
       exact (r1.rep _).mono (bL.up (aR s hp))
   · cases e
 · cases e
theorem mH {fa fb:DSt→Out D} (ha:DE X Γ E a fa) (hb:DE X Γ E b fb):DE X Γ E (.BinOp a .Mult b pos) (o2 oW fa fb):=d2 dr_mul (agb (op_mul.or (op_mulS.or op_rep)) ha hb)
theorem kj {fa fb:DSt→Out D} (ha:DE X Γ E a fa) (hb:DE X Γ E b fb):DE X Γ E (.BinOp a .FloorDiv b pos) (o2 gJ fa fb):=d2 (fun G H x y dx dy d Q s rx ry e k=>by
 unfold gJ at e
 split at e
 · split at e
   · rename_i h; cases e; cases rx; cases ry; exact ⟨_,_,rfl,rfl,h,k _ G H (.refl s) (.int _)⟩
   · cases e
 · cases e) (agb op_fdiv ha hb)
theorem cD {fa fb:DSt→Out D} (ha:DE X Γ E a fa) (hb:DE X Γ E b fb):DE X Γ E (.BinOp a .Mod b pos) (o2 cC fa fb):=d2 (fun G H x y dx dy d Q s rx ry e k=>by
 unfold cC at e
 split at e
 · split at e
   · rename_i h; cases e; cases rx; cases ry; exact ⟨_,_,rfl,rfl,h,k _ G H (.refl s) (.int _)⟩
   · cases e
 · cases e) (agb op_mod ha hb)
def o1 (g:D→Option D) (fa:DSt→Out D):DSt→Out D:=fun δ=>(fa δ).bind fun x=>.opt (g x)
def negD:D→Option D
 | .int i=>some (.int (-i))
 | _=>none
theorem de_neg {fa:DSt→Out D} (ha:DE X Γ E a fa):DE X Γ E (.UnaryOp .USub a pos) (o1 negD fa):=PE.imp (pe_un un_neg ha) fun σ H Q ⟨G0,H0,G,δ,S,w⟩=>by
 refine ⟨G0,H0,G,δ,S,(au w).mono (fun x w v G1 H1 s1 r1=>?_) fun _ k=>k⟩
 obtain ⟨d,e,k⟩:=cB w
 unfold negD at e
 split at e
 · cases e; cases r1; exact ⟨_,rfl,k _ G1 H1 s1 (.int _)⟩
 · cases e
def cmpI (p:Int→Int→Bool):D→D→Option Bool
 | .int i,.int j=>some (p i j)
 | _,_=>none
theorem Ea {K:PySem.W.Frag} {p:Int→Int→Bool}:DRB K Γ (rI0 fun i j=>.bl (p i j)) (cmpI p):=fun H x y dx dy b Q rx ry e k=>by
 unfold cmpI at e
 split at e
 · cases e; cases rx; cases ry; exact ⟨_,_,rfl,rfl,k⟩
 · cases e
abbrev ltD:D→D→Option Bool:=cmpI fun i j=>decide (i < j)
abbrev leD:D→D→Option Bool:=cmpI fun i j=>decide (i ≤ j)
abbrev gtD:D→D→Option Bool:=cmpI fun i j=>decide (j < i)
mutual
def toPy:D→Option PyData
 | .non=>some .none
 | .bl b=>some (.bool b)
 | .int i=>some (.int i)
 | .str x=>some (.str x)
 | .lst xs=>(toPyL xs).map .list
 | .rol xs=>(toPyL xs).map .list
 | .tup xs=>(toPyL xs).map .tuple
 | .rot xs=>(toPyL xs).map .tuple
 | _=>none
def toPyL:List D→Option (List PyData)
 | []=>some []
 | d :: r=>match toPy d,toPyL r with
   | some p,some q=>some (p :: q)
   | _,_=>none
end
mutual
theorem Rep.deep {K:PySem.W.Frag} {H:Hp}:∀ {v:V} {d:D} {p:PyData},Rep K Γ H v d→toPy d = some p→Ky K H v p
 | _,_,_,.non,e=>by simp only [toPy] at e; cases e; exact .non
 | _,_,_,.bl b,e=>by simp only [toPy] at e; cases e; exact .bl b
 | _,_,_,.int b,e=>by simp only [toPy] at e; cases e; exact .int b
 | _,_,_,.str b,e=>by simp only [toPy] at e; cases e; exact .str b
 | _,_,_,.lst h r,e=>by
   simp only [toPy] at e
   obtain ⟨q,e1,rfl⟩:=Option.map_eq_some_iff.mp e
   exact .lst (SqL.of h) (aF.deep r e1)
 | _,_,_,.rol h r,e=>by
   simp only [toPy] at e
   obtain ⟨q,e1,rfl⟩:=Option.map_eq_some_iff.mp e
   exact .lst h (aF.deep r e1)
 | _,_,_,.tup h r,e=>by
   simp only [toPy] at e
   obtain ⟨q,e1,rfl⟩:=Option.map_eq_some_iff.mp e
   exact .tup (SqT.of h) (aF.deep r e1)
 | _,_,_,.rot h r,e=>by
   simp only [toPy] at e
   obtain ⟨q,e1,rfl⟩:=Option.map_eq_some_iff.mp e
   exact .tup h (aF.deep r e1)
 | _,_,_,.ty n,e=>by simp only [toPy] at e; cases e
 | _,_,_,.cls h,e=>by simp only [toPy] at e; cases e
 | _,_,_,.dK h r,e=>by simp only [toPy] at e; cases e
 | _,_,_,.dT h r,e=>by simp only [toPy] at e; cases e
 | _,_,_,.obj h g r,e=>by simp only [toPy] at e; cases e
 | _,_,_,.e0 h g,e=>by simp only [toPy] at e; cases e
 | _,_,_,.e1 h h' g r,e=>by simp only [toPy] at e; cases e
theorem aF.deep {K:PySem.W.Frag} {H:Hp}:∀ {v:List V} {d:List D} {p:List PyData},aF K Γ H v d→toPyL d = some p→lY K H v p
 | _,_,_,.nil,e=>by simp only [toPyL] at e; cases e; exact .nil
 | _,_,_,.cons (d:=d) (ds:=ds) h r,e=>by
   simp only [toPyL] at e
   cases h1:toPy d with
   | none=>rw [h1] at e; cases e
   | some p =>
     cases h2:toPyL ds with
     | none=>rw [h1,h2] at e; cases e
     | some q =>
       rw [h1,h2] at e
       cases e
       exact .cons (Rep.deep h h1) (aF.deep r h2)
end
def layP (p:PyData):Bool:=p.canLay0 && decide (p.depth ≤ 50)
def eqD (x y:D):Option Bool:=match toPy x,toPy y with
 | some p,some q=>if layP p && layP q then some (PyData.eqv p q) else none
 | _,_=>none
def neD (x y:D):Option Bool:=(eqD x y).map (! ·)
theorem afm {x y:D} {b:Bool} (h:eqD x y = some b):∃ p q,toPy x = some p∧toPy y = some q∧p.canLay0 = true∧q.canLay0 = true∧p.depth ≤ 50∧PyData.eqv p q = b:=by
 unfold eqD at h
 split at h
 · rename_i p q h1 h2
   split at h
   · rename_i z
     unfold layP at z
     simp only [Bool.and_eq_true,decide_eq_true_eq] at z
     exact ⟨p,q,h1,h2,z.1.1,z.2.1,z.1.2,Option.some.inj h⟩
   · cases h
 · cases h
theorem drb_eq {K:PySem.W.Frag}:DRB K Γ (rEqD K false) eqD:=fun H x y dx dy b Q rx ry e k=>by
 obtain ⟨p,q,h1,h2,c1,c2,c3,e⟩:=afm e
 exact ⟨p,q,rx.deep h1,ry.deep h2,c1,c2,c3,by rw [e]; simpa using k⟩
theorem drb_ne {K:PySem.W.Frag}:DRB K Γ (rEqD K true) neD:=fun H x y dx dy b Q rx ry e k=>by
 obtain ⟨b',e',rfl⟩:=Option.map_eq_some_iff.mp e
 obtain ⟨p,q,h1,h2,c1,c2,c3,e⟩:=afm e'
 exact ⟨p,q,rx.deep h1,ry.deep h2,c1,c2,c3,by rw [e]; simpa using k⟩
def Hd:D→Bool
 | .non=>true
 | _=>false
def Pb (x y:D):Option Bool:=match y with
 | .non=>some (Hd x)
 | _=>none
def notND (x y:D):Option Bool:=match y with
 | .non=>some (!Hd x)
 | _=>none
theorem Rep.isNon {K:PySem.W.Frag} {H:Hp} {v:V} {d:D} (r:Rep K Γ H v d):decide (v = .non) = Hd d:=by
 cases r <;> first | rfl | exact decide_eq_false (fun q=>nomatch q)
theorem drb_is {K:PySem.W.Frag}:DRB K Γ (fun x y H Q=>y = .non∧Q (.bl (decide (x = .non))) H) Pb:=fun H x y dx dy b Q rx ry e k=>by
 unfold Pb at e
 split at e
 · cases e; cases ry; exact ⟨rfl,by rw [rx.isNon]; exact k⟩
 · cases e
def JD:D→Option V
 | .non=>some .non
 | .bl b=>some (.bl b)
 | .int i=>some (.int i)
 | .str x=>some (.str x)
 | _=>none
def FP:List D→Option (List V)
 | []=>some []
 | d :: r=>match JD d,FP r with
   | some v,some vs=>some (v :: vs)
   | _,_=>none
theorem Rep.flat {K:PySem.W.Frag} {H:Hp} {v u:V} {d:D} (r:Rep K Γ H v d) (e:JD d = some u):v = u∧Ac v = true:=by
 cases r <;> simp only [JD] at e <;> cases e <;> exact ⟨rfl,rfl⟩
theorem aF.flat {K:PySem.W.Frag} {H:Hp}:∀ {vs us:List V} {ds:List D},aF K Γ H vs ds→FP ds = some us→vs = us∧vs.all Ac = true
 | _,_,_,.nil,e=>by simp only [FP] at e; cases e; exact ⟨rfl,rfl⟩
 | _,_,_,.cons (d:=d) (ds:=ds) h r,e=>by
   simp only [FP] at e
   cases h1:JD d with
   | none=>rw [h1] at e; cases e
   | some p =>
     cases h2:FP ds with
     | none=>rw [h1,h2] at e; cases e
     | some q =>
       rw [h1,h2] at e
       cases e
       obtain ⟨e1,f1⟩:=h.flat h1
       obtain ⟨e2,f2⟩:=r.flat h2
       exact ⟨by rw [e1,e2],by rw [List.all_cons,f1,f2]; rfl⟩
def Bj:D→Option (List D)
 | .lst xs=>some xs
 | .rol xs=>some xs
 | .tup xs=>some xs
 | .rot xs=>some xs
 | _=>none
theorem Rep.seq {K:PySem.W.Frag} {H:Hp} {v:V} {d:D} {ds:List D} (r:Rep K Γ H v d) (e:Bj d = some ds):∃ a vs,v = .ref a∧(SqL K H a vs ∨ SqT K H a vs)∧aF K Γ H vs ds:=by
 cases r <;> simp only [Bj] at e <;> cases e
 · exact ⟨_,_,rfl,.inl (SqL.of ‹_›),‹_›⟩
 · exact ⟨_,_,rfl,.inr (SqT.of ‹_›),‹_›⟩
 · exact ⟨_,_,rfl,.inl ‹_›,‹_›⟩
 · exact ⟨_,_,rfl,.inr ‹_›,‹_›⟩
def inD (x y:D):Option Bool:=match x,y with
 | .str i,.str j=>some (!(Builtin.Str.occurrences j i 0 j.length 1).isEmpty)
 | x,y=>match JD x,(Bj y).bind FP with
   | some v,some vs=>some (inV v vs)
   | _,_=>none
def Dq (x y:D):Option Bool:=(inD x y).map (! ·)
theorem afz {K:PySem.W.Frag} {H:Hp} {x y:V} {dx dy:D} {b:Bool} (rx:Rep K Γ H x dx) (ry:Rep K Γ H y dy) (h:inD dx dy = some b) :
   (∃ i j,x = .str i∧y = .str j∧b = !(Builtin.Str.occurrences j i 0 j.length 1).isEmpty) ∨ ∃ p xs,y = .ref p∧(SqL K H p xs ∨ SqT K H p xs)∧Ac x = true∧xs.all Ac = true∧b = inV x xs:=by
 unfold inD at h
 split at h
 · cases h; cases rx; cases ry; exact .inl ⟨_,_,rfl,rfl,rfl⟩
 · cases h1:JD dx with
   | none=>rw [h1] at h; cases h
   | some v =>
     cases h2:Bj dy with
     | none=>rw [h1,h2] at h; cases h
     | some ds =>
       rw [h1,h2] at h
       dsimp only [Option.bind_some] at h
       cases h3:FP ds with
       | none=>rw [h3] at h; cases h
       | some vs =>
         rw [h3] at h
         cases h
         obtain ⟨e1,f1⟩:=rx.flat h1
         obtain ⟨a,ws,e2,sq,ra⟩:=ry.seq h2
         obtain ⟨e3,f3⟩:=ra.flat h3
         exact .inr ⟨a,ws,e2,sq,f1,f3,by rw [e1,e3]⟩
theorem drb_in {K:PySem.W.Frag}:DRB K Γ (fun x y H Q=>(∃ i j,x = .str i∧y = .str j∧Q (.bl (!(Builtin.Str.occurrences j i 0 j.length 1).isEmpty)) H) ∨ rIn K false x y H Q) inD:=fun H x y dx dy b Q rx ry e k=>by
 rcases afz rx ry e with ⟨i,j,e1,e2,rfl⟩ | ⟨p,xs,e1,sq,f1,f2,rfl⟩
 · exact .inl ⟨i,j,e1,e2,k⟩
 · exact .inr ⟨p,xs,e1,sq,f1,f2,k⟩
theorem aj3 {K:PySem.W.Frag}:DRB K Γ (fun x y H Q=>(∃ i j,x = .str i∧y = .str j∧Q (.bl (!(!(Builtin.Str.occurrences j i 0 j.length 1).isEmpty))) H) ∨ rIn K true x y H Q) Dq:=fun H x y dx dy b Q rx ry e k=>by
 obtain ⟨b',e',rfl⟩:=Option.map_eq_some_iff.mp e
 rcases afz rx ry e' with ⟨i,j,e1,e2,rfl⟩ | ⟨p,xs,e1,sq,f1,f2,rfl⟩
 · exact .inl ⟨i,j,e1,e2,k⟩
 · exact .inr ⟨p,xs,e1,sq,f1,f2,k⟩
section
variable {fa fb:DSt→Out D} (hu:X.A.units + 64 < cLine) (ha:DB X Γ E a fa) (hb:DB X Γ E b fb)
theorem YL (hu:X.A.units + 64 < cLine) (ha:DB X Γ E a fa) (hb:DB X Γ E b fb):DE X Γ E (.Compare a [.Eq] [b] pos) (bV (o2b eqD fa fb)):=d2b drb_eq (acN (op_eqD hu) ha hb (Hw _))
theorem de_is (ha:DB X Γ E a fa) (hb:DB X Γ E b fb):DE X Γ E (.Compare a [.Is] [b] pos) (bV (o2b Pb fa fb)):=d2b drb_is (acN op_isN ha hb (Hw _))
theorem de_in (ha:DB X Γ E a fa) (hb:DB X Γ E b fb) (hm:behindInMarks .In b = false:=by rfl):DE X Γ E (.Compare a [.In] [b] pos) (bV (o2b inD fa fb)):=d2b drb_in (acN (akB.or akA) ha hb hm)
theorem dt_lt (ha:DB X Γ E a fa) (hb:DB X Γ E b fb):DT X Γ E (.Compare a [.Lt] [b] pos) (o2b ltD fa fb):=d2t Ea (Ep op_lt ha hb (Hw _))
theorem dt_gt (ha:DB X Γ E a fa) (hb:DB X Γ E b fb):DT X Γ E (.Compare a [.Gt] [b] pos) (o2b gtD fa fb):=d2t Ea (Ep op_gt ha hb (Hw _))
theorem jZ (hu:X.A.units + 64 < cLine) (ha:DB X Γ E a fa) (hb:DB X Γ E b fb):DT X Γ E (.Compare a [.Eq] [b] pos) (o2b eqD fa fb):=d2t drb_eq (Ep (op_eqD hu) ha hb (Hw _))
theorem R5 (hu:X.A.units + 64 < cLine) (ha:DB X Γ E a fa) (hb:DB X Γ E b fb):DT X Γ E (.Compare a [.NotEq] [b] pos) (o2b neD fa fb):=d2t drb_ne (Ep (op_neD hu) ha hb (Hw _))
theorem dt_is (ha:DB X Γ E a fa) (hb:DB X Γ E b fb):DT X Γ E (.Compare a [.Is] [b] pos) (o2b Pb fa fb):=d2t drb_is (Ep op_isN ha hb (Hw _))
theorem afj (ha:DB X Γ E a fa) (hb:DB X Γ E b fb) (hm:behindInMarks .NotIn b = false:=by rfl):DT X Γ E (.Compare a [.NotIn] [b] pos) (o2b Dq fa fb):=d2t aj3 (Ep (acM.or acL) ha hb hm)
end
def o3 (g g':D→D→Option Bool) (fa fb fc:DSt→Out D):DSt→Out Bool:=fun δ=>(fa δ).bind fun x=>(fb δ).bind fun y=>(Out.opt (g x y)).bind fun k=>if k = true then (fc δ).bind fun z=>.opt (g' y z) else .ok false
theorem d3_aux {r r':R2} {g g':D→D→Option Bool} {fa fb fc:DSt→Out D} (hr:DRB X.K Γ r g) (hr':DRB X.K Γ r' g') {P:Bool→Hp→Prop} {σ:L2.St} {H:Hp}
   (w:ttD X.K Γ E (o3 g g' fa fb fc) σ H P):U3 r r' (tbD X.K Γ E fa) (tbD X.K Γ E fb) (tbD X.K Γ E fc) σ H fun v H'=>∃ k,v = .bl k∧P k H':=by
 obtain ⟨G0,H0,G,δ,S,w⟩:=w
 refine ⟨G0,H0,G,δ,S,(au w).mono (fun x w v G1 H1 s1 r1=>?_) fun _ k=>k⟩
 refine ⟨G0,H0,G1,δ,S.step s1,(au w).mono (fun y w u G2 H2 s2 r2=>?_) fun _ k=>k.step s1⟩
 obtain ⟨k,e,w⟩:=cB (au w)
 refine hr H2 v u x y k _ (r1.mono s2.hh) r2 e ⟨k,rfl,?_⟩
 cases k with
 | false =>
   rw [if_neg Bool.false_ne_true] at w ⊢
   exact ⟨false,rfl,w G2 H2 (s1.trans s2)⟩
 | true =>
   rw [if_pos rfl] at w ⊢
   refine ⟨G0,H0,G2,δ,(S.step s1).step s2,(au w).mono (fun z w t G3 H3 s3 r3=>?_) fun _ k=>k.step (s1.trans s2)⟩
   obtain ⟨k,e,w⟩:=cB w
   exact hr' H3 u t y z k _ (r2.mono s3.hh) r3 e ⟨k,rfl,w G3 H3 ((s1.trans s2).trans s3)⟩
theorem d3t {r r':R2} {g g':D→D→Option Bool} {fa fb fc:DSt→Out D} (hr:DRB X.K Γ r g) (hr':DRB X.K Γ r' g') (h:PT X e (tTest (U3 r r' (tbD X.K Γ E fa) (tbD X.K Γ E fb) (tbD X.K Γ E fc)))):DT X Γ E e (o3 g g' fa fb fc):=PT.imp h fun σ H Q w=>d3_aux hr hr' w
theorem d3v {r r':R2} {g g':D→D→Option Bool} {fa fb fc:DSt→Out D} (hr:DRB X.K Γ r g) (hr':DRB X.K Γ r' g') (h:PE X e (U3 r r' (tbD X.K Γ E fa) (tbD X.K Γ E fb) (tbD X.K Γ E fc))):DE X Γ E e (bV (o3 g g' fa fb fc)):=PE.imp h fun σ H Q ⟨G0,H0,G,δ,S,w⟩=>by
 have w:=au w
 refine ⟨G0,H0,G,δ,S,(au w).mono (fun x w v G1 H1 s1 r1=>?_) fun _ k=>k⟩
 refine ⟨G0,H0,G1,δ,S.step s1,(au w).mono (fun y w u G2 H2 s2 r2=>?_) fun _ k=>k.step s1⟩
 obtain ⟨k,e,w⟩:=cB (au w)
 refine hr H2 v u x y k _ (r1.mono s2.hh) r2 e ⟨k,rfl,?_⟩
 cases k with
 | false =>
   rw [if_neg Bool.false_ne_true] at w ⊢
   exact w _ G2 H2 (s1.trans s2) (.bl _)
 | true =>
   rw [if_pos rfl] at w ⊢
   refine ⟨G0,H0,G2,δ,(S.step s1).step s2,(au w).mono (fun z w t G3 H3 s3 r3=>?_) fun _ k=>k.step (s1.trans s2)⟩
   obtain ⟨k,e,w⟩:=cB w
   exact hr' H3 u t y z k _ (r2.mono s3.hh) r3 e (w _ G3 H3 ((s1.trans s2).trans s3) (.bl _))
theorem aba {fa fb fc:DSt→Out D} (ha:DB X Γ E a fa) (hb:DB X Γ E b fb) (hc:DB X Γ E c fc) (hm:lastMarks [.LtE,.LtE] [b,c] = false:=by with_unfolding_all rfl):DT X Γ E (.Compare a [.LtE,.LtE] [b,c] pos) (o3 leD leD fa fb fc):=d3t Ea Ea (pt_chain op_le op_le ha hb hc hm)
theorem de_lelt {fa fb fc:DSt→Out D} (ha:DB X Γ E a fa) (hb:DB X Γ E b fb) (hc:DB X Γ E c fc) (hm:lastMarks [.LtE,.Lt] [b,c] = false:=by with_unfolding_all rfl):DE X Γ E (.Compare a [.LtE,.Lt] [b,c] pos) (bV (o3 leD ltD fa fb fc)):=d3v Ea Ea (pe_chain op_le op_lt ha hb hc hm)
def truD:D→Option Bool
 | .non=>some false
 | .bl b=>some b
 | .int i=>some (i != 0)
 | .str y=>if y.length ≤ sizeLine then some ((y.length:Int) != 0) else none
 | .lst xs=>some (!xs.isEmpty)
 | .rol xs=>some (!xs.isEmpty)
 | .tup xs=>some (!xs.isEmpty)
 | .rot xs=>some (!xs.isEmpty)
 | .dK xs=>some (!xs.isEmpty)
 | _=>none
def tst (f:DSt→Out D):DSt→Out Bool:=fun δ=>(f δ).bind fun d=>.opt (truD d)
theorem Em {K:PySem.W.Frag} {H:Hp} {vs:List V} {ds:List D} (r:aF K Γ H vs ds):(!ds.isEmpty) = !vs.isEmpty:=by cases r <;> rfl
theorem akh {K:PySem.W.Frag} {H:Hp} {vs:List (Key × V)} {ds:List (Key × D)} (r:nO K Γ H vs ds):(!ds.isEmpty) = !vs.isEmpty:=by cases r <;> rfl
theorem Rep.tru {K:PySem.W.Frag} {H:Hp} {v:V} {d:D} {k:Bool} (r:Rep K Γ H v d) (e:truD d = some k):TruV K v H k:=by
 cases r <;> simp only [truD] at e
 case non=>cases e; exact rfl
 case bl=>cases e; exact rfl
 case int=>cases e; exact rfl
 case str =>
   split at e
   · cases e; exact ⟨‹_›,rfl⟩
   · cases e
 case lst h r=>cases e; rw [Em r]; exact .inl ⟨_,SqL.of h,rfl⟩
 case rol h r=>cases e; rw [Em r]; exact .inl ⟨_,h,rfl⟩
 case tup h r=>cases e; rw [Em r]; exact .inr (.inl ⟨_,SqT.of h,rfl⟩)
 case rot h r=>cases e; rw [Em r]; exact .inr (.inl ⟨_,h,rfl⟩)
 case dK h r=>cases e; rw [akh r]; exact .inr (.inr ⟨_,h,rfl⟩)
 all_goals cases e
theorem iK {f:DSt→Out D} (h:DB X Γ E e f) (he:∀ whole,isTrue e X.env whole = (do let v ← whole; standAt e.pos; holding [v] (truthy v)):=by intro _; rfl):DT X Γ E e (tst f):=PT.imp (pt_truth h he) fun σ H Q ⟨G0,H0,G,δ,S,w⟩=>by
 refine ⟨G0,H0,G,δ,S,(au w).mono (fun x w v G1 H1 s1 r1=>?_) fun _ k=>k⟩
 obtain ⟨k,e,q⟩:=cB w
 exact ⟨k,r1.tru e,q G1 H1 s1⟩
def uK (f g:DSt→Out Bool):DSt→Out Bool:=fun δ=>(f δ).bind fun k=>if k = true then g δ else .ok false
def orT (f g:DSt→Out Bool):DSt→Out Bool:=fun δ=>(f δ).bind fun k=>if k = true then .ok true else g δ
def qw (f:DSt→Out Bool):DSt→Out Bool:=fun δ=>(f δ).bind fun k=>.ok (!k)
variable {rest:List Expr} {ft gt:DSt→Out Bool}
theorem yK (ha:DT X Γ E a ft):DW X Γ E (.BoolOp .And [a] pos) ft:=pw_and1 ha
theorem Ck (ha:DT X Γ E a ft):DW X Γ E (.BoolOp .Or [a] pos) ft:=pw_or1 ha
theorem GF (ha:DT X Γ E a ft) (hb:DW X Γ E (.BoolOp .And (b :: rest) pos) gt):DW X Γ E (.BoolOp .And (a :: b :: rest) pos) (uK ft gt):=PW.imp (pw_and ha hb) fun σ H Q ⟨G0,H0,G,δ,S,w⟩=>by
 refine ⟨G0,H0,G,δ,S,(au w).mono (fun k w G1 H1 s1=>?_) fun _ k=>k⟩
 cases k with
 | false=>rw [if_neg Bool.false_ne_true] at w ⊢; exact w G1 H1 s1
 | true=>rw [if_pos rfl] at w ⊢; exact ⟨G0,H0,G1,δ,S.step s1,w.mono (fun b q G2 H2 s2=>q G2 H2 (s1.trans s2)) fun _ k=>k.step s1⟩
theorem Jx (ha:DT X Γ E a ft) (hb:DW X Γ E (.BoolOp .Or (b :: rest) pos) gt):DW X Γ E (.BoolOp .Or (a :: b :: rest) pos) (orT ft gt):=PW.imp (pw_or ha hb) fun σ H Q ⟨G0,H0,G,δ,S,w⟩=>by
 refine ⟨G0,H0,G,δ,S,(au w).mono (fun k w G1 H1 s1=>?_) fun _ k=>k⟩
 cases k with
 | true=>rw [if_pos rfl] at w ⊢; exact w G1 H1 s1
 | false=>rw [if_neg Bool.false_ne_true] at w ⊢; exact ⟨G0,H0,G1,δ,S.step s1,w.mono (fun b q G2 H2 s2=>q G2 H2 (s1.trans s2)) fun _ k=>k.step s1⟩
theorem GD (h:DW X Γ E e ft):DT X Γ E e ft:=L2.PW.pt h
theorem jV (ha:DT X Γ E a ft):DT X Γ E (.UnaryOp .Not a pos) (qw ft):=PT.imp (pt_not ha) fun σ H Q ⟨G0,H0,G,δ,S,w⟩ =>
 ⟨G0,H0,G,δ,S,(au w).mono (fun k w G1 H1 s1=>w G1 H1 s1) fun _ k=>k⟩
def asB:D→Option Bool
 | .bl b=>some b
 | _=>none
def K1 (f g:DSt→Out D):DSt→Out D:=fun δ=>(f δ).bind fun d=>(Out.opt (asB d)).bind fun k=>if k = true then g δ else .ok (.bl false)
def orV (f g:DSt→Out D):DSt→Out D:=fun δ=>(f δ).bind fun d=>(Out.opt (asB d)).bind fun k=>if k = true then .ok (.bl true) else g δ
def Tr (f:DSt→Out D):DSt→Out D:=fun δ=>(f δ).bind fun d=>(Out.opt (asB d)).bind fun k=>.ok (.bl (!k))
theorem Rep.asB {K:PySem.W.Frag} {H:Hp} {v:V} {d:D} {k:Bool} (r:Rep K Γ H v d) (e:asB d = some k):v = .bl k:=by
 cases r <;> simp only [DL.asB] at e <;> cases e; rfl
variable {fa fb:DSt→Out D}
theorem Gy {op} (ha:DE X Γ E a fa):DE X Γ E (.BoolOp op [a] pos) fa:=pe_one ha
theorem Ce (ha:DE X Γ E a fa) (hb:DE X Γ E (.BoolOp .And (b :: rest) pos) fb):DE X Γ E (.BoolOp .And (a :: b :: rest) pos) (K1 fa fb):=PE.imp (pe_and ha hb) fun σ H Q ⟨G0,H0,G,δ,S,w⟩=>by
 refine ⟨G0,H0,G,δ,S,(au w).mono (fun x w v G1 H1 s1 r1=>?_) fun _ k=>k⟩
 obtain ⟨k,e,w⟩:=cB (au w)
 refine ⟨k,r1.asB e,?_⟩
 cases k with
 | false=>rw [if_neg Bool.false_ne_true] at w ⊢; exact w _ G1 H1 s1 (.bl false)
 | true=>rw [if_pos rfl] at w ⊢; exact ⟨G0,H0,G1,δ,S.step s1,w.mono (fun b q=>q.step s1) fun _ k=>k.step s1⟩
theorem de_or (ha:DE X Γ E a fa) (hb:DE X Γ E (.BoolOp .Or (b :: rest) pos) fb):DE X Γ E (.BoolOp .Or (a :: b :: rest) pos) (orV fa fb):=PE.imp (pe_or ha hb) fun σ H Q ⟨G0,H0,G,δ,S,w⟩=>by
 refine ⟨G0,H0,G,δ,S,(au w).mono (fun x w v G1 H1 s1 r1=>?_) fun _ k=>k⟩
 obtain ⟨k,e,w⟩:=cB (au w)
 refine ⟨k,r1.asB e,?_⟩
 cases k with
 | true=>rw [if_pos rfl] at w ⊢; exact w _ G1 H1 s1 (.bl true)
 | false=>rw [if_neg Bool.false_ne_true] at w ⊢; exact ⟨G0,H0,G1,δ,S.step s1,w.mono (fun b q=>q.step s1) fun _ k=>k.step s1⟩
theorem aaO (ha:DE X Γ E a fa):DE X Γ E (.UnaryOp .Not a pos) (Tr fa):=PE.imp (pe_not ha) fun σ H Q ⟨G0,H0,G,δ,S,w⟩=>by
 refine ⟨G0,H0,G,δ,S,(au w).mono (fun x w v G1 H1 s1 r1=>?_) fun _ k=>k⟩
 obtain ⟨k,e,w⟩:=cB (au w)
 exact ⟨k,r1.asB e,w _ G1 H1 s1 (.bl _)⟩
def ifV (t:DSt→Out Bool) (f g:DSt→Out D):DSt→Out D:=fun δ=>(t δ).bind fun k=>if k = true then f δ else g δ
def aG:DSt→Out (List D):=fun _=>.ok []
def ak (f:DSt→Out D) (r:DSt→Out (List D)):DSt→Out (List D):=fun δ=>(f δ).bind fun d=>(r δ).bind fun ds=>.ok (d :: ds)
variable {es:List Expr} {fr:DSt→Out (List D)}
theorem aD:DA X Γ E [] aG:=PA.imp dU fun σ H Q ⟨G0,H0,G,δ,S,w⟩=>w _ G H (.refl S.st.gh) .nil
theorem aj (ha:DE X Γ E e fa) (hr:DA X Γ E es fr) (hs:starEach (e :: es) X.env = (false,eval e X.env) :: starEach es X.env:=by rfl):DA X Γ E (e :: es) (ak fa fr):=PA.imp (bW ha hr hs) fun σ H Q ⟨G0,H0,G,δ,S,w⟩=>by
 refine ⟨G0,H0,G,δ,S,(au w).mono (fun x w v G1 H1 s1 r1=>?_) fun _ k=>k⟩
 refine ⟨G0,H0,G1,δ,S.step s1,(au w).mono (fun ds w vs G2 H2 s2 r2=>?_) fun _ k=>k.step s1⟩
 exact w _ G2 H2 (s1.trans s2) (.cons (r1.mono s2.gg) r2)
def cZ (f:DSt→Out (List D)):DSt→Out D:=fun δ=>(f δ).bind fun ds=>if ds.length ≤ sizeLine then .ok (.tup ds) else .stuck
def jl (f:DSt→Out (List D)):DSt→Out D:=fun δ=>(f δ).bind fun ds=>if ds.length ≤ sizeLine then .ok (.lst ds) else .stuck
theorem fQ {x1} (h:DA X Γ E es fr):DE X Γ E (.Tuple es x1 pos) (cZ fr):=PE.imp (pe_tup h) fun σ H Q ⟨G0,H0,G,δ,S,w⟩=>by
 refine ⟨G0,H0,G,δ,S,(au w).mono (fun ds w vs G1 H1 s1 r1=>?_) fun _ k=>k⟩
 split at w
 · rename_i h
   exact ⟨by rw [r1.length]; exact h,fun p hp=>w _ _ _ (s1.trans (.new s1.gh hp)) (.tup aW (r1.mono (bL.up (aR s1.gh hp))))⟩
 · exact False.elim w
theorem yE (h:DA X Γ E es fr):DE X Γ E (.List es pos) (jl fr):=PE.imp (pe_lst h) fun σ H Q ⟨G0,H0,G,δ,S,w⟩=>by
 refine ⟨G0,H0,G,δ,S,(au w).mono (fun ds w vs G1 H1 s1 r1=>?_) fun _ k=>k⟩
 split at w
 · rename_i h
   exact ⟨by rw [r1.length]; exact h,fun p hp=>w _ _ _ (s1.trans (.new s1.gh hp)) (.lst aW (r1.mono (bL.up (aR s1.gh hp))))⟩
 · exact False.elim w
theorem aF.atI {K:PySem.W.Frag} {H:Hp} {vs:List V} {ds:List D} {i:Int} {d:D} (r:aF K Γ H vs ds) (e:atI ds i = some d):∃ v,atI vs i = some v∧Rep K Γ H v d:=by
 unfold L2.atI at e ⊢
 rw [r.length]
 cases q:ixN ds.length i with
 | none=>rw [q] at e; cases e
 | some j =>
   rw [q] at e
   exact r.get e
def ixD:D→D→Option D
 | .str z,.int i=>if z.length ≤ sizeLine then (atI z.cps.toList i).map fun c=>.str ⟨#[c]⟩ else none
 | x,.int i=>(Bj x).bind fun ds=>atI ds i
 | _,_=>none
theorem dr_ix {K:PySem.W.Frag}:DR2 K Γ (rIx K) ixD:=by
 intro G H x y dx dy d Q s rx ry e k
 unfold ixD at e
 split at e
 · split at e
   · obtain ⟨c,e1,rfl⟩:=Option.map_eq_some_iff.mp e
     cases rx; cases ry
     exact .inr (.inr ⟨_,_,c,rfl,rfl,‹_›,e1,k _ G H (.refl s) (.str _)⟩)
   · cases e
 · cases ry
   obtain ⟨ds,e1,e2⟩:=Option.bind_eq_some_iff.mp e
   obtain ⟨a,vs,rfl,sq,ra⟩:=rx.seq e1
   obtain ⟨v,h1,h2⟩:=ra.atI e2
   rcases sq with sq | sq
   · exact .inl ⟨a,vs,_,v,rfl,rfl,s.seq sq,h1,k _ G H (.refl s) h2⟩
   · exact .inr (.inl ⟨a,vs,_,v,rfl,rfl,SqT.same s sq,h1,k _ G H (.refl s) h2⟩)
 · cases e
theorem wV (ha:DE X Γ E a fa) (hb:DE X Γ E b fb) (hs:Qf b:=by exact fun _ _=>rfl):DE X Γ E (.Subscript a b pos) (o2 ixD fa fb):=d2 dr_ix (pe_ix ix_seq ha hb hs)
def gvo (i:Nat):DSt→Out D:=fun δ=>match δ[i]? with
 | some (some (.sh d))=>.ok d
 | some (some (.ol ds))=>.ok (.lst ds)
 | _=>.stuck
theorem d8 (i:Nat) {x:Str} {p:Pos} (h:PE X (.Name x p) (DN i)) (hb:DE X Γ E b fb) (hs:Qf b:=by exact fun _ _=>rfl):DE X Γ E (.Subscript (.Name x p) b pos) (o2 ixD (gvo i) fb):=PE.imp (pe_ix ix_seq h hb hs) fun σ H Q ⟨G0,H0,G,δ,S,w⟩=>by
 obtain ⟨O,q⟩:=id S.sl
 unfold o2 gvo at w
 split at w
 · rename_i d e
   obtain ⟨v,h1,h2⟩:=q i _ e
   refine ⟨v,h1,G0,H0,G,δ,S,(au (o:=fb δ) w).mono (fun y w u G2 H2 s2 r2=>?_) fun _ k=>k⟩
   obtain ⟨d,e,k⟩:=cB w
   exact dr_ix G2 H2 v u _ y d Q s2.gh (Rep.mono s2.gg h2) r2 e (k.step s2)
 · rename_i ds e
   obtain ⟨v,h1,a,vs,ev,ha,ga,h0,hO,ra⟩:=q i _ e
   subst ev
   refine ⟨_,h1,G0,H0,G,δ,S,(au (o:=fb δ) w).mono (fun y w u G2 H2 s2 r2=>?_) fun _ k=>k⟩
   obtain ⟨d,e,k⟩:=cB w
   unfold ixD at e
   split at e
   · exact absurd (‹D.lst ds = D.str _›) (fun q=>by cases q)
   · cases r2
     obtain ⟨ds',e1,e2⟩:=Option.bind_eq_some_iff.mp e
     cases e1
     obtain ⟨v,h1,h2⟩:=ra.atI e2
     exact .inl ⟨a,vs,_,v,rfl,rfl,SqL.of (s2.hh _ _ ha),h1,k _ G2 H2 s2 (h2.mono s2.gg)⟩
   · cases e
 · exact False.elim w
def DRC (K:PySem.W.Frag) (Γ:Nat→Option Addr) (r:List V→Hp→VK→Prop) (g:List D→Option D):Prop :=
 ∀ G H vs ds d Q,bL G H→aF K Γ G vs ds→g ds = some d→okD K Γ G H Q d→r vs H Q
def oC (g:List D→Option D) (f:DSt→Out (List D)):DSt→Out D:=fun δ=>(f δ).bind fun ds=>.opt (g ds)
theorem dC {r:List V→Hp→VK→Prop} {g:List D→Option D} (hr:DRC X.K Γ r g) (h:PE X e (tCB r (taD X.K Γ E fr))):DE X Γ E e (oC g fr):=PE.imp h fun σ H Q ⟨G0,H0,G,δ,S,w⟩=>by
 refine ⟨G0,H0,G,δ,S,(au w).mono (fun ds w vs G1 H1 s1 r1=>?_) fun _ k=>k⟩
 obtain ⟨d,e,k⟩:=cB w
 exact hr G1 H1 vs ds d Q s1.gh r1 e (k.step s1)
def DRC1 (K:PySem.W.Frag) (Γ:Nat→Option Addr) (r:List V→Hp→VK→Prop) (g:D→Option D):Prop :=
 ∀ G H v dx d Q,bL G H→Rep K Γ H v dx→g dx = some d→okD K Γ G H Q d→r [v] H Q
theorem dC1 {r:List V→Hp→VK→Prop} {g:D→Option D} (hr:DRC1 X.K Γ r g) (h:PE X e (tCB r (Aj (tbD X.K Γ E fa) Kl))):DE X Γ E e (o1 g fa):=PE.imp h fun σ H Q ⟨G0,H0,G,δ,S,w⟩=>by
 refine ⟨G0,H0,G,δ,S,(au w).mono (fun x w v G1 H1 s1 r1=>?_) fun _ k=>k⟩
 obtain ⟨d,e,k⟩:=cB w
 exact hr G1 H1 v x d Q s1.gh r1 e (k.step s1)
def fK:D→Option D
 | .str z=>if z.length ≤ sizeLine then some (.int z.length) else none
 | x=>(Bj x).map fun ds=>.int ds.length
theorem drc_len {K:PySem.W.Frag}:DRC1 K Γ (fun xs H Q=>(∃ p ys,xs = [.ref p]∧(SqL K H p ys ∨ SqT K H p ys)∧Q (.int ys.length) H) ∨ ∃ z,xs = [.str z]∧z.length ≤ sizeLine∧Q (.int z.length) H) fK:=by
 intro G H v dx d Q s r e k
 unfold fK at e
 split at e
 · split at e
   · cases e; cases r; exact .inr ⟨_,rfl,‹_›,k _ G H (.refl s) (.int _)⟩
   · cases e
 · obtain ⟨ds,e1,rfl⟩:=Option.map_eq_some_iff.mp e
   obtain ⟨a,vs,rfl,sq,ra⟩:=r.seq e1
   exact .inl ⟨a,vs,rfl,sq,by rw [ra.length]; exact k _ G H (.refl s) (.int _)⟩
variable {p:Pos}
theorem dO (hg:Gl X "len") (hm:X.mg "len" = none) (ha:DB X Γ E a fa) (hs:starEach [a] X.env = [(false,eval a X.env)]:=by rfl):DE X Γ E (.Call (.Name "len" p) [a] [] pos) (o1 fK fa) :=
 dC1 drc_len (J6 (aaf.or aag) hg hm PySem.boot_len (bW ha dU (by rw [hs]; rfl)) (by decide) (by decide) (by rw [hs]; rfl) (by rfl))
def intD:D→Option D
 | .int i=>some (.int i)
 | .bl k=>some (.int (if k then 1 else 0))
 | _=>none
theorem de_int1 (hg:Gl X "int") (hm:X.mg "int" = none) (ha:DE X Γ E a fa) (hs:starEach [a] X.env = [(false,eval a X.env)]:=by rfl):DE X Γ E (.Call (.Name "int" p) [a] [] pos) (o1 intD fa) :=
 dC1 (fun G H v dx d Q s r e k=>by
   unfold intD at e
   split at e
   · cases e; cases r; exact .inl ⟨_,rfl,k _ G H (.refl s) (.int _)⟩
   · cases e; cases r; exact .inr ⟨_,rfl,k _ G H (.refl s) (.int _)⟩
   · cases e) (En ajU hg hm (by decide +kernel) (bW (aQ ha) dU (by rw [hs]; rfl)) (by decide) (by decide) (by rw [hs]; rfl) (by rfl))
def maxD:List D→Option D
 | [.int i,.int j]=>some (.int (if j > i then j else i))
 | _=>none
def minD:List D→Option D
 | [.int i,.int j]=>some (.int (if j < i then j else i))
 | _=>none
def HN:D→Option D
 | .lst xs=>some (.tup xs)
 | .rol xs=>some (.tup xs)
 | .tup xs=>some (.tup xs)
 | _=>none
theorem RT (hg:Gl X "tuple") (hm:X.mg "tuple" = none) (ha:DE X Γ E a fa) (hs:starEach [a] X.env = [(false,eval a X.env)]:=by rfl):DE X Γ E (.Call (.Name "tuple" p) [a] [] pos) (oC (fun ds=>match ds with | [x]=>HN x | _=>none) (ak fa aG)) :=
 dC (fun G H vs ds d Q s r e k=>by
   cases r with
   | nil=>cases e
   | cons r1 r2 =>
     cases r2 with
     | cons _ _=>cases e
     | nil =>
       dsimp only at e
       unfold HN at e
       split at e
       · cases e
         cases r1 with
         | lst h ra=>exact ⟨_,_,rfl,.inl ⟨s.seq (SqL.of h),fun l hl=>k _ _ _ (.new s hl) (.tup aW (ra.mono (bL.up (aR s hl))))⟩⟩
       · cases e
         cases r1 with
         | rol h ra=>exact ⟨_,_,rfl,.inl ⟨s.seq h,fun l hl=>k _ _ _ (.new s hl) (.tup aW (ra.mono (bL.up (aR s hl))))⟩⟩
       · cases e
         cases r1 with
         | tup h ra=>exact ⟨_,_,rfl,.inr ⟨SqT.of (s _ _ h),k _ G H (.refl s) (.tup h ra)⟩⟩
       · cases e) (En VF hg hm (by decide +kernel) (aj ha aD (by rw [hs]; rfl)) (by decide) (by decide) (by rw [hs]; rfl) (by rfl))
end
end DL
namespace DL
open PySem PySem.Spec PyProof.Rows MX L2
section
variable {K:PySem.W.Frag} {Γ:Nat→Option Addr} {G0 H0 G H G' H':Hp} {O O':Addr→Option Nat} {σ:L2.St} {δ:DSt}
theorem Inner.reO (k:∀ b,H b ≠ none→O' b = O b) {i:Nat}:∀ {vs:List V} {dss:List (List D)},Inner K Γ H0 G H O i vs dss→Inner K Γ H0 G H O' i vs dss
 | _,_,.nil=>.nil
 | _,_,.cons h g h0 o r n t=>.cons h g h0 (by rw [k _ (by rw [h]; exact fun q=>nomatch q)]; exact o) r n (t.reO k)
theorem bH.reO (k:∀ b,H b ≠ none→O' b = O b) {i:Nat}:∀ {vs:List V} {es:List Mx} {bs:List Addr},bH K Γ H0 G H O i vs es bs→bH K Γ H0 G H O' i vs es bs
 | _,_,_,.nil=>.nil
 | _,_,_,.own h g h0 o r n t=>.own h g h0 (by rw [k _ (by rw [h]; exact fun q=>nomatch q)]; exact o) r n (t.reO k)
 | _,_,_,.fix r t=>.fix r (t.reO k)
theorem dN.reO {i:Nat} {v:V} {x:Sl} (h:dN K Γ H0 G H O i v x) (k:∀ b,H b ≠ none→O' b = O b):dN K Γ H0 G H O' i v x:=by
 have kk:∀ {a:Addr} {o:HO},H a = some o→O' a = O a:=fun h=>k _ (by rw [h]; exact fun q=>nomatch q)
 cases x with
 | sh d=>exact h
 | ol ds=>obtain ⟨a,vs,e,h1,h2,h3,h4,h5⟩:=h; exact ⟨a,vs,e,h1,h2,h3,(kk h1).trans h4,h5⟩
 | oll ds=>obtain ⟨a,vs,e,h1,h2,h3,h4,h5,h6⟩:=h; exact ⟨a,vs,e,h1,h2,h3,(kk h1).trans h4,h5,h6.reO k⟩
 | od ds=>obtain ⟨a,vs,e,h1,h2,h3,h4,h5⟩:=h; exact ⟨a,vs,e,h1,h2,h3,(kk h1).trans h4,h5⟩
 | odT ds=>obtain ⟨a,vs,e,h1,h2,h3,h4,h5⟩:=h; exact ⟨a,vs,e,h1,h2,h3,(kk h1).trans h4,h5⟩
 | omx ds=>obtain ⟨a,vs,bs,e,h1,h2,h3,h4,h5,h6⟩:=h; exact ⟨a,vs,bs,e,h1,h2,h3,(kk h1).trans h4,h5,h6.reO k⟩
theorem Inner.frame {i j:Nat} (ij:j ≠ i) (hh:∀ b,O b ≠ some i→H' b = H b) (gg:bL G G') (gn:∀ b,O b ≠ some i→G b = none→G' b = none):∀ {vs:List V} {dss:List (List D)},Inner K Γ H0 G H O j vs dss→Inner K Γ H0 G' H' O j vs dss
 | _,_,.nil=>.nil
 | _,_,.cons h g h0 o r n t=>.cons ((hh _ (by rw [o]; exact fun q=>ij (Option.some.inj q))).trans h) (gn _ (by rw [o]; exact fun q=>ij (Option.some.inj q)) g) h0 o (r.mono gg) n (t.frame ij hh gg gn)
theorem bH.frame {i j:Nat} (ij:j ≠ i) (hh:∀ b,O b ≠ some i→H' b = H b) (gg:bL G G') (gn:∀ b,O b ≠ some i→G b = none→G' b = none):∀ {vs:List V} {es:List Mx} {bs:List Addr},bH K Γ H0 G H O j vs es bs→bH K Γ H0 G' H' O j vs es bs
 | _,_,_,.nil=>.nil
 | _,_,_,.own h g h0 o r n t=>.own ((hh _ (by rw [o]; exact fun q=>ij (Option.some.inj q))).trans h) (gn _ (by rw [o]; exact fun q=>ij (Option.some.inj q)) g) h0 o (r.mono gg) n (t.frame ij hh gg gn)
 | _,_,_,.fix r t=>.fix (r.mono gg) (t.frame ij hh gg gn)
theorem dN.frame {i j:Nat} {v:V} {x:Sl} (h:dN K Γ H0 G H O j v x) (ij:j ≠ i) (hh:∀ b,O b ≠ some i→H' b = H b) (gg:bL G G') (gn:∀ b,O b ≠ some i→G b = none→G' b = none):dN K Γ H0 G' H' O j v x:=by
 have nz:∀ {a:Addr},O a = some j→O a ≠ some i:=fun o=>by rw [o]; exact fun q=>ij (Option.some.inj q)
 cases x with
 | sh d=>exact Rep.mono gg h
 | ol ds=>obtain ⟨a,vs,e,h1,h2,h3,h4,h5⟩:=h; exact ⟨a,vs,e,(hh _ (nz h4)).trans h1,gn _ (nz h4) h2,h3,h4,h5.mono gg⟩
 | oll ds=>obtain ⟨a,vs,e,h1,h2,h3,h4,h5,h6⟩:=h; exact ⟨a,vs,e,(hh _ (nz h4)).trans h1,gn _ (nz h4) h2,h3,h4,h5,h6.frame ij hh gg gn⟩
 | od ds=>obtain ⟨a,vs,e,h1,h2,h3,h4,h5⟩:=h; exact ⟨a,vs,e,(hh _ (nz h4)).trans h1,gn _ (nz h4) h2,h3,h4,h5.mono gg⟩
 | odT ds=>obtain ⟨a,vs,e,h1,h2,h3,h4,h5⟩:=h; exact ⟨a,vs,e,(hh _ (nz h4)).trans h1,gn _ (nz h4) h2,h3,h4,h5.mono gg⟩
 | omx ds=>obtain ⟨a,vs,bs,e,h1,h2,h3,h4,h5,h6⟩:=h; exact ⟨a,vs,bs,e,(hh _ (nz h4)).trans h1,gn _ (nz h4) h2,h3,h4,h5,h6.frame ij hh gg gn⟩
theorem Slots.put {i:Nat} {v:V} {x:Sl} (hl:δ.length = σ.length) (q:∀ j s,δ[j]? = some (some s)→j ≠ i→∃ v,σ[j]? = some (some v)∧dN K Γ H0 G H O j v s) (n:dN K Γ H0 G H O i v x):Slots K Γ H0 G H (σ.set i (some v)) (δ.set i (some x)):=by
 refine ⟨O,fun j y e=>?_⟩
 by_cases ij:i = j
 · subst ij
   rw [List.getElem?_set_self'] at e
   cases h:δ[i]? with
   | none=>rw [h] at e; simp at e
   | some z =>
     rw [h] at e
     simp at e
     have lt:i < σ.length:=by rw [← hl]; exact (List.getElem?_eq_some_iff.mp h).1
     subst e
     exact ⟨v,by rw [List.getElem?_set_self lt],n⟩
 · rw [List.getElem?_set_ne ij] at e
   obtain ⟨v',h1,h2⟩:=q j y e (fun z=>ij z.symm)
   exact ⟨v',by rw [List.getElem?_set_ne ij]; exact h1,h2⟩
theorem Uy {α:Type} {l:List α} {i:Nat} {x:α} (h:l[i]? = some x):l.set i x = l:=by
 obtain ⟨lt,e⟩:=List.getElem?_eq_some_iff.mp h
 subst e
 exact List.set_getElem_self lt
theorem SR.setl (S:SR K Γ G0 H0 G H σ δ) (s:Step G H G' H') {i:Nat} {a:Addr} {vs:List V} {ds:List D} (f:H a = none) (h:H' a = some (.lst vs)) (g:G' a = none) (r:aF K Γ G' vs ds) :
   SR K Γ G0 H0 G' H' (σ.set i (some (.ref a))) (δ.set i (some (.ol ds))):=by
 obtain ⟨O,q⟩:=S.sl
 have k:∀ b,H b ≠ none→(fun b=>if b = a then some i else O b) b = O b:=fun b hb=>by
   have:b ≠ a:=fun z=>hb (z ▸ f)
   simp [this]
 refine ⟨S.st.trans s,by rw [List.length_set,List.length_set]; exact S.len,Slots.put (O:=fun b=>if b = a then some i else O b) S.len (fun j y e ij=>?_) ⟨a,vs,rfl,h,g,aR S.st.hh f,by simp,r⟩⟩
 obtain ⟨v,h1,h2⟩:=q j y e
 exact ⟨v,h1,(h2.reO k).step s⟩
theorem bQ.mem {G' H':Hp}:∀ {vs:List V} {dss:List (List D)},bQ K Γ H G' H' vs dss→∀ b,V.ref b ∈ vs→H b = none∧H' b ≠ none
 | _,_,.nil,b,hb=>by cases hb
 | _,_,.cons f h g r n t,b,hb=>by
   rcases List.mem_cons.mp hb with z | z
   · cases z; exact ⟨f,by rw [h]; exact fun q=>nomatch q⟩
   · exact t.mem b z
theorem bQ.inner {i:Nat} {vs₀:List V} (h0:∀ b,H b = none→H0 b = none) (o:∀ b,V.ref b ∈ vs₀→O b = some i):∀ {vs:List V} {dss:List (List D)},(∀ b,V.ref b ∈ vs→V.ref b ∈ vs₀)→bQ K Γ H G' H' vs dss→Inner K Γ H0 G' H' O i vs dss
 | _,_,_,.nil=>.nil
 | _,_,m,.cons f h g r n t=>.cons h g (h0 _ f) (o _ (m _ List.mem_cons_self)) r n (bQ.inner h0 o (fun b hb=>m b (List.mem_cons_of_mem _ hb)) t)
theorem SR.setll (S:SR K Γ G0 H0 G H σ δ) (s:Step G H G' H') {i:Nat} {a:Addr} {vs:List V} {dss:List (List D)} (f:H a = none) (h:H' a = some (.lst vs)) (g:G' a = none) (n:V.ref a ∉ vs) (r:bQ K Γ H G' H' vs dss) :
   SR K Γ G0 H0 G' H' (σ.set i (some (.ref a))) (δ.set i (some (.oll dss))):=by
 obtain ⟨O,q⟩:=S.sl
 have k:∀ b,H b ≠ none→(fun b=>if b = a ∨ V.ref b ∈ vs then some i else O b) b = O b:=fun b hb=>by
   have h1:b ≠ a:=fun z=>hb (z ▸ f)
   have h2:V.ref b ∉ vs:=fun z=>hb (r.mem b z).1
   simp [h1,h2]
 refine ⟨S.st.trans s,by rw [List.length_set,List.length_set]; exact S.len,Slots.put (O:=fun b=>if b = a ∨ V.ref b ∈ vs then some i else O b) S.len (fun j y e ij=>?_) ⟨a,vs,rfl,h,g,aR S.st.hh f,by simp,n,r.inner (vs₀:=vs) (fun b z=>aR S.st.hh z) (fun b z=>by simp [z]) fun _ z=>z⟩⟩
 obtain ⟨v,h1,h2⟩:=q j y e
 exact ⟨v,h1,(h2.reO k).step s⟩
theorem SR.write (S:SR K Γ G0 H0 G H σ δ) (q:∀ i s,δ[i]? = some (some s)→∃ v,σ[i]? = some (some v)∧dN K Γ H0 G H O i v s) {i:Nat} {a:Addr} {o:HO} {v:V} {x:Sl} (g:G a = none) (h0:H0 a = none) (oa:O a = some i) (hv:σ[i]? = some (some v))
   (n:dN K Γ H0 G (upd H a o) O i v x):SR K Γ G0 H0 G (upd H a o) σ (δ.set i (some x)):=by
 have hh:∀ b,O b ≠ some i→upd H a o b = H b:=fun b hb=>aN fun z=>hb (z ▸ oa)
 refine ⟨⟨S.st.gg,fun b u e=>?_,fun b u e=>?_,S.st.sep⟩,by rw [List.length_set]; exact S.len,?_⟩
 · rw [aN (bc e h0)]; exact S.st.hh _ _ e
 · rw [aN (bc e g)]; exact S.st.gh _ _ e
 · have z:=Slots.put (v:=v) (i:=i) (x:=x) S.len (fun j y e ij=>by
     obtain ⟨v',h1,h2⟩:=q j y e
     exact ⟨v',h1,h2.frame ij hh (bL.refl _) (fun _ _ g=>g)⟩) n
   rwa [Uy hv] at z
def lV (G H:Hp) (p:Addr→Bool):Hp:=fun b=>if p b = true then H b else G b
theorem SR.afr (S:SR K Γ G0 H0 G H σ δ) (q:∀ i s,δ[i]? = some (some s)→∃ v,σ[i]? = some (some v)∧dN K Γ H0 G H O i v s) {i:Nat} (p:Addr→Bool) (hp:∀ b,p b = true→O b = some i∧G b = none∧H0 b = none) {v:V} {d:D} (hv:σ[i]? = some (some v))
   (n:Rep K Γ (lV G H p) v d):SR K Γ G0 H0 (lV G H p) H σ (δ.set i (some (.sh d))):=by
 have gg:bL G (lV G H p):=fun b u e=>by
   unfold lV
   split
   · rw [(hp b ‹_›).2.1] at e; cases e
   · exact e
 have gn:∀ b,O b ≠ some i→G b = none→lV G H p b = none:=fun b hb g=>by
   unfold lV
   split
   · exact absurd (hp b ‹_›).1 hb
   · exact g
 refine ⟨⟨S.st.gg.trans gg,S.st.hh,fun b u e=>?_,fun b hb g0=>?_⟩,by rw [List.length_set]; exact S.len,?_⟩
 · unfold lV at e
   split at e
   · exact e
   · exact S.st.gh _ _ e
 · unfold lV
   split
   · exact absurd (hp b ‹_›).2.2 hb
   · exact S.st.sep b hb g0
 · have z:=Slots.put (v:=v) (i:=i) (x:=.sh d) S.len (fun j y e ij=>by
     obtain ⟨v',h1,h2⟩:=q j y e
     exact ⟨v',h1,h2.frame ij (fun _ _=>rfl) gg gn⟩) n
   rwa [Uy hv] at z
theorem Inner.facts {i:Nat}:∀ {vs:List V} {dss:List (List D)},Inner K Γ H0 G H O i vs dss→∀ b,V.ref b ∈ vs→O b = some i∧G b = none∧H0 b = none
 | _,_,.nil,b,hb=>by cases hb
 | _,_,.cons h g h0 o r n t,b,hb=>by
   rcases List.mem_cons.mp hb with z | z
   · cases z; exact ⟨o,g,h0⟩
   · exact t.facts b z
theorem Inner.frozen {i:Nat} {p:Addr→Bool} (gg:bL G (lV G H p)):∀ {vs:List V} {dss:List (List D)},(∀ b,V.ref b ∈ vs→p b = true)→Inner K Γ H0 G H O i vs dss→aF K Γ (lV G H p) vs (dss.map .lst)
 | _,_,_,.nil=>.nil
 | _,_,m,.cons h g h0 o r n t=>.cons (.lst (by unfold lV; rw [if_pos (m _ List.mem_cons_self)]; exact h) (r.mono gg)) (Inner.frozen gg (fun b' hb=>m b' (List.mem_cons_of_mem _ hb)) t)
theorem bH.facts {i:Nat}:∀ {vs:List V} {es:List Mx} {bs:List Addr},bH K Γ H0 G H O i vs es bs→∀ b ∈ bs,O b = some i∧G b = none∧H0 b = none
 | _,_,_,.nil,b,hb=>by cases hb
 | _,_,_,.own h g h0 o r n t,b,hb=>by
   rcases List.mem_cons.mp hb with z | z
   · cases z; exact ⟨o,g,h0⟩
   · exact t.facts b z
 | _,_,_,.fix r t,b,hb=>t.facts b hb
theorem bH.frozen {i:Nat} {p:Addr→Bool} (gg:bL G (lV G H p)):∀ {vs:List V} {es:List Mx} {bs:List Addr},(∀ b ∈ bs,p b = true)→bH K Γ H0 G H O i vs es bs→aF K Γ (lV G H p) vs (es.map Mx.d)
 | _,_,_,_,.nil=>.nil
 | _,_,_,m,.own h g h0 o r n t=>.cons (.lst (by unfold lV; rw [if_pos (m _ List.mem_cons_self)]; exact h) (r.mono gg)) (bH.frozen gg (fun b' hb=>m b' (List.mem_cons_of_mem _ hb)) t)
 | _,_,_,m,.fix r t=>.cons (r.mono gg) (bH.frozen gg m t)
def frzS:Sl→Sl
 | .sh d=>.sh d
 | .ol ds=>.sh (.lst ds)
 | .oll dss=>.sh (.lst (dss.map .lst))
 | .od kvs=>.sh (.dK kvs)
 | .odT kvs=>.sh (.dT kvs)
 | .omx es=>.sh (.lst (es.map Mx.d))
def frz (i:Nat) (δ:DSt):DSt:=match δ[i]? with
 | some (some s)=>δ.set i (some (frzS s))
 | _=>δ
theorem mW {p:Addr→Bool} (hp:∀ b,p b = true→G b = none):bL G (lV G H p):=fun b u e=>by
 unfold lV
 split
 · rw [hp b ‹_›] at e; cases e
 · exact e
theorem SR.freeze (S:SR K Γ G0 H0 G H σ δ) (i:Nat):∃ G',SR K Γ G0 H0 G' H σ (frz i δ):=by
 obtain ⟨O,q⟩:=id S.sl
 unfold frz
 split
 · rename_i s e
   obtain ⟨v,hv,h⟩:=q i s e
   cases s with
   | sh d=>exact ⟨G,by rw [show frzS (.sh d) = .sh d from rfl,Uy e]; exact S⟩
   | ol ds =>
     obtain ⟨a,vs,ev,h1,h2,h3,h4,h5⟩:=h
     subst ev
     have hp:∀ b,decide (b = a) = true→O b = some i∧G b = none∧H0 b = none:=fun b z=>by obtain rfl:=of_decide_eq_true z; exact ⟨h4,h2,h3⟩
     exact ⟨_,S.afr q (fun b=>decide (b = a)) hp hv (.lst (by unfold lV; rw [if_pos (by simp)]; exact h1) (h5.mono (mW fun b z=>(hp b z).2.1)))⟩
   | oll ds =>
     obtain ⟨a,vs,ev,h1,h2,h3,h4,h5,h6⟩:=h
     subst ev
     have hp:∀ b,decide (b = a ∨ V.ref b ∈ vs) = true→O b = some i∧G b = none∧H0 b = none:=fun b z=>by
       rcases of_decide_eq_true z with z | z
       · subst z; exact ⟨h4,h2,h3⟩
       · exact h6.facts b z
     exact ⟨_,S.afr q (fun b=>decide (b = a ∨ V.ref b ∈ vs)) hp hv (.lst (by unfold lV; rw [if_pos (by simp)]; exact h1) (h6.frozen (mW fun b z=>(hp b z).2.1) fun b hb=>by simp [hb]))⟩
   | od ds =>
     obtain ⟨a,vs,ev,h1,h2,h3,h4,h5⟩:=h
     subst ev
     have hp:∀ b,decide (b = a) = true→O b = some i∧G b = none∧H0 b = none:=fun b z=>by obtain rfl:=of_decide_eq_true z; exact ⟨h4,h2,h3⟩
     exact ⟨_,S.afr q (fun b=>decide (b = a)) hp hv (.dK (by unfold lV; rw [if_pos (by simp)]; exact h1) (h5.mono (mW fun b z=>(hp b z).2.1)))⟩
   | odT ds =>
     obtain ⟨a,vs,ev,h1,h2,h3,h4,h5⟩:=h
     subst ev
     have hp:∀ b,decide (b = a) = true→O b = some i∧G b = none∧H0 b = none:=fun b z=>by obtain rfl:=of_decide_eq_true z; exact ⟨h4,h2,h3⟩
     exact ⟨_,S.afr q (fun b=>decide (b = a)) hp hv (.dT (by unfold lV; rw [if_pos (by simp)]; exact h1) (h5.mono (mW fun b z=>(hp b z).2.1)))⟩
   | omx ds =>
     obtain ⟨a,vs,bs,ev,h1,h2,h3,h4,h5,h6⟩:=h
     subst ev
     have hp:∀ b,decide (b = a ∨ b ∈ bs) = true→O b = some i∧G b = none∧H0 b = none:=fun b z=>by
       rcases of_decide_eq_true z with z | z
       · subst z; exact ⟨h4,h2,h3⟩
       · exact h6.facts b z
     exact ⟨_,S.afr q (fun b=>decide (b = a ∨ b ∈ bs)) hp hv (.lst (by unfold lV; rw [if_pos (by simp)]; exact h1) (h6.frozen (mW fun b z=>(hp b z).2.1) fun b hb=>by simp [hb]))⟩
 · exact ⟨G,S⟩
end
section
variable (K:PySem.W.Frag) (Γ:Nat→Option Addr) (E:XK)
def okF (G H:Hp) (Q:VK) (ds:List D):Prop:=∀ a vs G' H',Step G H G' H'→H a = none→H' a = some (.lst vs)→G' a = none→aF K Γ G' vs ds→Q (.ref a) H'
def okFF (G H:Hp) (Q:VK) (dss:List (List D)):Prop:=∀ a vs G' H',Step G H G' H'→H a = none→H' a = some (.lst vs)→G' a = none→V.ref a ∉ vs→bQ K Γ H G' H' vs dss→Q (.ref a) H'
def tfD (f:DSt→Out (List D)):TE:=fun σ H Q=>∃ G0 H0 G δ,SR K Γ G0 H0 G H σ δ∧wpO (f δ) (okF K Γ G H Q) (exD K Γ E G H)
def tffD (f:DSt→Out (List (List D))):TE:=fun σ H Q=>∃ G0 H0 G δ,SR K Γ G0 H0 G H σ δ∧wpO (f δ) (okFF K Γ G H Q) (exD K Γ E G H)
end
abbrev DF (X:Cx) (Γ:Nat→Option Addr) (E:XK) (e:Expr) (f:DSt→Out (List D)):Prop:=PE X e (tfD X.K Γ E f)
section
variable {X:Cx} {Γ:Nat→Option Addr} {E:XK} {e a b c:Expr} {pos:Pos} {es:List Expr} {fa fb:DSt→Out D} {fr:DSt→Out (List D)}
theorem bQ.frozen {K:PySem.W.Frag} {G0 H0 G H:Hp} {p:Addr→Bool} (gg:bL G (lV G H p)):∀ {vs:List V} {dss:List (List D)},(∀ b,V.ref b ∈ vs→p b = true)→bQ K Γ H0 G H vs dss→aF K Γ (lV G H p) vs (dss.map .lst)
 | _,_,_,.nil=>.nil
 | _,_,m,.cons f h g r n t=>.cons (.lst (by unfold lV; rw [if_pos (m _ List.mem_cons_self)]; exact h) (r.mono gg)) (bQ.frozen (G0:=G0) gg (fun b' hb=>m b' (List.mem_cons_of_mem _ hb)) t)
theorem bQ.gnone {K:PySem.W.Frag} {H G' H':Hp}:∀ {vs:List V} {dss:List (List D)},bQ K Γ H G' H' vs dss→∀ b,V.ref b ∈ vs→G' b = none
 | _,_,.nil,b,hb=>by cases hb
 | _,_,.cons f h g r n t,b,hb=>by
   rcases List.mem_cons.mp hb with z | z
   · cases z; exact g
   · exact t.gnone b z
theorem Step.frz {G H G' H':Hp} (s:Step G H G' H') (p:Addr→Bool) (hp:∀ b,p b = true→G' b = none∧H b = none):Step G H (lV G' H' p) H' :=
 ⟨s.gg.trans (mW fun b z=>(hp b z).1),s.hh,fun b u e=>by
   unfold lV at e
   split at e
   · exact e
   · exact s.gh _ _ e,fun b hb g=>by
   unfold lV
   split
   · exact absurd (hp b ‹_›).2 hb
   · exact s.sep b hb g⟩
def Eu (f:DSt→Out (List D)):DSt→Out D:=fun δ=>(f δ).bind fun ds=>.ok (.lst ds)
def lstVV (f:DSt→Out (List (List D))):DSt→Out D:=fun δ=>(f δ).bind fun dss=>.ok (.lst (dss.map .lst))
theorem RP {f:DSt→Out (List D)} (h:DF X Γ E e f):DE X Γ E e (Eu f):=PE.imp h fun σ H Q ⟨G0,H0,G,δ,S,w⟩=>by
 refine ⟨G0,H0,G,δ,S,(au w).mono (fun ds w a vs G1 H1 s1 f h g r=>?_) fun _ k=>k⟩
 have hp:∀ b,decide (b = a) = true→G1 b = none∧H b = none:=fun b z=>by obtain rfl:=of_decide_eq_true z; exact ⟨g,f⟩
 exact w _ _ H1 (s1.frz (fun b=>decide (b = a)) hp) (.lst (by unfold lV; rw [if_pos (by simp)]; exact h) (r.mono (mW fun b z=>(hp b z).1)))
def tV (f:DSt→Out (List D)):DSt→Out (List D):=fun δ=>(f δ).bind fun ds=>if ds.length ≤ sizeLine then .ok ds else .stuck
theorem yH (h:DA X Γ E es fr):DF X Γ E (.List es pos) (tV fr):=PE.imp (pe_lst h) fun σ H Q ⟨G0,H0,G,δ,S,w⟩=>by
 refine ⟨G0,H0,G,δ,S,(au w).mono (fun ds w vs G1 H1 s1 r1=>?_) fun _ k=>k⟩
 split at w
 · rename_i h
   exact ⟨by rw [r1.length]; exact h,fun p hp=>w p vs G1 _ (s1.trans (.aside s1.gh hp)) (aR s1.hh hp) aW (aR s1.gh hp) r1⟩
 · exact False.elim w
def uI (f:DSt→Out D):DSt→Out (List D):=fun δ=>(f δ).bind fun d=>.opt (Bj d)
theorem ajf {p:Pos} (hg:Gl X "list") (hm:X.mg "list" = none) (ha:DE X Γ E a fa) (hs:starEach [a] X.env = [(false,eval a X.env)]:=by rfl):DF X Γ E (.Call (.Name "list" p) [a] [] pos) (uI fa) :=
 PE.imp (En aah hg hm (by decide +kernel) (bW ha dU (by rw [hs]; rfl)) (by decide) (by decide) (by rw [hs]; rfl) (by rfl)) fun σ H Q ⟨G0,H0,G,δ,S,w⟩=>by
   refine ⟨G0,H0,G,δ,S,(au w).mono (fun d w v G1 H1 s1 r1=>?_) fun _ k=>k⟩
   obtain ⟨ds,e,w⟩:=cB w
   obtain ⟨a,vs,rfl,sq,ra⟩:=r1.seq e
   exact ⟨a,vs,rfl,sq.imp (fun z=>s1.gh.seq z) (fun z=>SqT.same s1.gh z),fun l hl=>w l vs G1 _ (s1.trans (.aside s1.gh hl)) (aR s1.hh hl) aW (aR s1.gh hl) ra⟩
end
section
variable {X:Cx} {Γ:Nat→Option Addr} {E:XK} {e a b c:Expr} {pos:Pos} {es:List Expr} {fa fb:DSt→Out D} {fr:DSt→Out (List D)} {ft:DSt→Out Bool} {st:Stmt} {rest sa sb:List Stmt} {g g':DSt→Out Fl}
def fW:DSt→Out Fl:=fun δ=>.ok (.nx δ)
def bh (g g':DSt→Out Fl):DSt→Out Fl:=fun δ=>(g δ).bind fun fl=>match fl with
 | .nx δ'=>g' δ'
 | fl=>.ok fl
theorem bR:DSs X Γ E [] fW:=PSs.imp pss_nil fun N σ H ⟨G0,H0,G,δ,S,w⟩=>w σ G H S
theorem az (h1:DS X Γ E st g) (h2:DSs X Γ E rest g'):DSs X Γ E (st :: rest) (bh g g'):=PSs.imp (Dv h1 h2) fun N σ H ⟨G0,H0,G,δ,S,w⟩=>by
 refine ⟨G0,H0,G,δ,S,(au w).mono (fun fl w=>?_) fun _ k=>k⟩
 cases fl with
 | nx δ'=>exact fun σ' G' H' S'=>⟨G0,H0,G',δ',S',w⟩
 | rt d=>exact w
 | bk d=>exact w
 | ct d=>exact w
 | rl d=>exact w
 | rll d=>exact w
theorem aB (h1:DS X Γ E st g):DSs X Γ E [st] g:=vp h1
theorem R4 (i:Nat) (h:DS X Γ E st g):DS X Γ E st (fun δ=>g (frz i δ)):=PS.imp h fun N σ H ⟨G0,H0,G,δ,S,w⟩=>by
 obtain ⟨G',S'⟩:=S.freeze i
 exact ⟨G0,H0,G',_,S',w⟩
def nG (f:DSt→Out D):DSt→Out Fl:=fun δ=>(f δ).bind fun _=>.ok (.nx δ)
theorem uR (he:DE X Γ E e fa) (hs:swapsWith e none pos.line X.env = pure false:=by rfl):DS X Γ E (.Expr e pos) (nG fa):=PS.imp (gR he hs) fun N σ H ⟨G0,H0,G,δ,S,w⟩ =>
 ⟨G0,H0,G,δ,S,(au w).mono (fun d w v G' H' s r=>w σ G' H' (S.step s)) fun x k=>exD.step k S.st⟩
theorem Jv:DS X Γ E st (fun _=>.stuck):=PS.imp ps_never fun N σ H ⟨G0,H0,G,δ,S,w⟩=>w
def bY (f:DSt→Out D):DSt→Out Fl:=fun δ=>(f δ).bind fun d=>.ok (.rt d)
theorem aY (he:DE X Γ E e fa):DS X Γ E (.Return (some e) pos) (bY fa):=PS.imp (Ul he) fun N σ H ⟨G0,H0,G,δ,S,w⟩ =>
 ⟨G0,H0,G,δ,S,(au w).mono (fun d w v G' H' s r=>w v G' H' (S.st.trans s) r) fun x k=>exD.step k S.st⟩
def sRetf (f:DSt→Out (List D)):DSt→Out Fl:=fun δ=>(f δ).bind fun d=>.ok (.rl d)
theorem ds_retf (he:DF X Γ E e fr):DS X Γ E (.Return (some e) pos) (sRetf fr):=PS.imp (Ul he) fun N σ H ⟨G0,H0,G,δ,S,w⟩ =>
 ⟨G0,H0,G,δ,S,(au w).mono (fun d w a vs G' H' s f h g r=>w a vs G' H' (S.st.trans s) (aR S.st.hh f) h g r) fun x k=>exD.step k S.st⟩
theorem bQ.reF {K:PySem.W.Frag} {H H2 G' H':Hp} (k:∀ b,H b = none→H2 b = none):∀ {vs:List V} {dss:List (List D)},bQ K Γ H G' H' vs dss→bQ K Γ H2 G' H' vs dss
 | _,_,.nil=>.nil
 | _,_,.cons f h g r n t=>.cons (k _ f) h g r n (bQ.reF k t)
def Us (i:Nat):DSt→Out Fl:=fun δ=>match δ[i]? with
 | some (some (.sh d))=>.ok (.rt d)
 | some (some (.ol ds))=>.ok (.rl ds)
 | some (some (.oll dss))=>.ok (.rll dss)
 | _=>.stuck
theorem Inner.toN {K:PySem.W.Frag} {H0 G H:Hp} {O:Addr→Option Nat} {i:Nat}:∀ {vs:List V} {dss:List (List D)},Inner K Γ H0 G H O i vs dss→bQ K Γ H0 G H vs dss
 | _,_,.nil=>.nil
 | _,_,.cons h g h0 o r n t=>.cons h0 h g r n t.toN
theorem Jw (i:Nat) {x:Str} {p:Pos} (hv:PE X (.Name x p) (DN i)):DS X Γ E (.Return (some (.Name x p)) pos) (Us i):=PS.imp (Ul hv) fun N σ H ⟨G0,H0,G,δ,S,w⟩=>by
 obtain ⟨O,q⟩:=id S.sl
 unfold Us at w
 split at w
 · rename_i d e
   obtain ⟨v,hv,h⟩:=q i _ e
   exact ⟨v,hv,w v G H S.st h⟩
 · rename_i d e
   obtain ⟨v,hv,a,vs,ev,h1,h2,h3,h4,h5⟩:=q i _ e
   subst ev
   exact ⟨_,hv,w a vs G H S.st h3 h1 h2 h5⟩
 · rename_i d e
   obtain ⟨v,hv,a,vs,ev,h1,h2,h3,h4,h5,h6⟩:=q i _ e
   subst ev
   exact ⟨_,hv,w a vs G H S.st h3 h1 h2 h5 h6.toN⟩
 · exact False.elim w
def sIf (t:DSt→Out Bool) (g g':DSt→Out Fl):DSt→Out Fl:=fun δ=>(t δ).bind fun k=>if k = true then g δ else g' δ
theorem cU (hc:DT X Γ E c ft) (ha:DSs X Γ E sa g) (hb:DSs X Γ E sb g'):DS X Γ E (.If c sa sb pos) (sIf ft g g'):=PS.imp (ps_if hc ha hb) fun N σ H ⟨G0,H0,G,δ,S,w⟩=>by
 refine ⟨G0,H0,G,δ,S,(au w).mono (fun k w G1 H1 s1=>?_) fun x k=>exD.step k S.st⟩
 cases k with
 | true=>rw [if_pos rfl] at w ⊢; exact ⟨G0,H0,G1,δ,S.step s1,w⟩
 | false=>rw [if_neg Bool.false_ne_true] at w ⊢; exact ⟨G0,H0,G1,δ,S.step s1,w⟩
def tgD (K:PySem.W.Frag) (Γ:Nat→Option Addr) (f:D→DSt→Option DSt):TG:=fun v σ H Q=>∃ G0 H0 G δ d δ',SR K Γ G0 H0 G H σ δ∧Rep K Γ G v d∧f d δ = some δ'∧∀ σ',SR K Γ G0 H0 G H σ' δ'→Q σ' H
def tgsD (K:PySem.W.Frag) (Γ:Nat→Option Addr) (f:List D→DSt→Option DSt):TGs:=fun vs σ H Q=>∃ G0 H0 G δ ds δ',SR K Γ G0 H0 G H σ δ∧aF K Γ G vs ds∧f ds δ = some δ'∧∀ σ',SR K Γ G0 H0 G H σ' δ'→Q σ' H
abbrev DG (X:Cx) (Γ:Nat→Option Addr) (e:Expr) (f:D→DSt→Option DSt):Prop:=PG X e (tgD X.K Γ f)
abbrev DGs (X:Cx) (Γ:Nat→Option Addr) (es:List Expr) (f:List D→DSt→Option DSt):Prop:=PGs X es (tgsD X.K Γ f)
theorem PG.imp {e:Expr} {t t':TG} (h:PG X e t) (k:∀ v σ H Q,t' v σ H Q→t v σ H Q):PG X e t':=fun pins s σ H v u Q I r q=>h pins s σ H v u Q I r (k _ _ _ _ q)
theorem PGs.imp {e:List Expr} {t t':TGs} (h:PGs X e t) (k:∀ v σ H Q,t' v σ H Q→t v σ H Q):PGs X e t':=fun pins s σ H v u Q I r q=>h pins s σ H v u Q I r (k _ _ _ _ q)
def gN (i:Nat):D→DSt→Option DSt:=fun d δ=>some (δ.set i (some (.sh d)))
theorem bF {i:Nat} {x:Str} (h:PG X (.Name x pos) (Sh i)):DG X Γ (.Name x pos) (gN i):=PG.imp h fun v σ H Q ⟨G0,H0,G,δ,d,δ',S,r,e,q⟩=>by
 cases e
 exact q _ (S.set r)
def mX:List D→DSt→Option DSt:=fun ds δ=>match ds with
 | []=>some δ
 | _=>none
def cz (f:D→DSt→Option DSt) (g:List D→DSt→Option DSt):List D→DSt→Option DSt:=fun ds δ=>match ds with
 | d :: r=>(f d δ).bind (g r)
 | []=>none
theorem yI:DGs X Γ [] mX:=PGs.imp pgs_nil fun vs σ H Q ⟨G0,H0,G,δ,ds,δ',S,r,e,q⟩=>by
 cases r with
 | nil=>cases e; exact ⟨rfl,q _ S⟩
 | cons _ _=>cases e
theorem fj {f:D→DSt→Option DSt} {h:List D→DSt→Option DSt} (h1:DG X Γ e f) (h2:DGs X Γ es h) (hh:∀ {t:TG} {u:TGs},PG X e t→PGs X es u→PGs X (e :: es) (gCons t u)):DGs X Γ (e :: es) (cz f h):=PGs.imp (hh h1 h2) fun vs σ H Q ⟨G0,H0,G,δ,ds,δ',S,r,e,q⟩=>by
 cases r with
 | nil=>cases e
 | cons r1 r2 =>
   unfold cz at e
   obtain ⟨δ1,e1,e2⟩:=Option.bind_eq_some_iff.mp e
   exact ⟨_,_,rfl,G0,H0,G,δ,_,δ1,S,r1,e1,fun σ' S'=>⟨G0,H0,G,δ1,_,δ',S',r2,e2,q⟩⟩
def gT (n:Nat) (f:List D→DSt→Option DSt):D→DSt→Option DSt:=fun d δ=>match d with
 | .tup ds=>if ds.length = n then f ds δ else none
 | _=>none
theorem Gz {f:List D→DSt→Option DSt} {n:Nat} (hh:∀ {t:TGs},PGs X es t→PG X e (gTup X.K n t)) (h:DGs X Γ es f):DG X Γ e (gT n f):=PG.imp (hh h) fun v σ H Q ⟨G0,H0,G,δ,d,δ',S,r,e,q⟩=>by
 unfold gT at e
 split at e
 · split at e
   · cases r with
     | tup h1 r1=>exact ⟨_,_,rfl,SqT.of (S.st.gh _ _ h1),by rw [r1.length]; assumption,G0,H0,G,δ,_,δ',S,r1,e,q⟩
   · cases e
 · cases e
def Ka (f:DSt→Out D) (g:D→DSt→Option DSt):DSt→Out Fl:=fun δ=>(f δ).bind fun d=>(Out.opt (g d δ)).bind fun δ'=>.ok (.nx δ')
theorem aa9 {tg:Expr} {f:D→DSt→Option DSt} (hh:∀ {te:TE} {g:TG},PE X e te→PG X tg g→PS X (.Assign [tg] e pos) (tAsg te g)) (he:DE X Γ E e fa) (hg:DG X Γ tg f):DS X Γ E (.Assign [tg] e pos) (Ka fa f):=PS.imp (hh he hg) fun N σ H ⟨G0,H0,G,δ,S,w⟩=>by
 refine ⟨G0,H0,G,δ,S,(au w).mono (fun d w v G1 H1 s1 r1=>?_) fun x k=>exD.step k S.st⟩
 obtain ⟨δ',e,w⟩:=cB (au w)
 exact ⟨G0,H0,G1,δ,d,δ',S.step s1,r1,e,fun σ' S'=>w σ' G1 H1 S'⟩
def bZ (i:Nat) (f:DSt→Out D):DSt→Out Fl:=fun δ=>(f δ).bind fun d=>.ok (.nx (δ.set i (some (.sh d))))
theorem bJ (i:Nat) {x:Str} {pos':Pos} (hh:∀ {te:TE},PE X e te→PS X (.Assign [.Name x pos'] e pos) (tAsg te (Sh i))) (he:DE X Γ E e fa):DS X Γ E (.Assign [.Name x pos'] e pos) (bZ i fa):=PS.imp (hh he) fun N σ H ⟨G0,H0,G,δ,S,w⟩ =>
 ⟨G0,H0,G,δ,S,(au w).mono (fun d w v G1 H1 s1 r1=>w _ G1 H1 ((S.step s1).set r1)) fun x k=>exD.step k S.st⟩
def rn (i:Nat) (f:DSt→Out (List D)):DSt→Out Fl:=fun δ=>(f δ).bind fun d=>.ok (.nx (δ.set i (some (.ol d))))
theorem rB (i:Nat) {x:Str} {pos':Pos} (hh:∀ {te:TE},PE X e te→PS X (.Assign [.Name x pos'] e pos) (tAsg te (Sh i))) (he:DF X Γ E e fr):DS X Γ E (.Assign [.Name x pos'] e pos) (rn i fr):=PS.imp (hh he) fun N σ H ⟨G0,H0,G,δ,S,w⟩ =>
 ⟨G0,H0,G,δ,S,(au w).mono (fun d w a vs G1 H1 s1 f h g r=>w _ G1 H1 (S.setl s1 f h g r)) fun x k=>exD.step k S.st⟩
def Dw (i:Nat) (f:DSt→Out (List (List D))):DSt→Out Fl:=fun δ=>(f δ).bind fun d=>.ok (.nx (δ.set i (some (.oll d))))
end
end DL
namespace DL
open PySem PySem.Spec PyProof.Rows MX L2
section
variable {X:Cx} {Γ:Nat→Option Addr} {E:XK} {e a b c:Expr} {pos:Pos} {es:List Expr} {fa fb:DSt→Out D} {fr:DSt→Out (List D)} {ft:DSt→Out Bool} {st:Stmt} {rest sa sb:List Stmt} {g g':DSt→Out Fl}
def xq (i:Nat) (f:DSt→Out D):DSt→Out Fl:=fun δ=>match δ[i]? with
 | some (some (.ol ds))=>(f δ).bind fun d=>if ds.length < sizeLine then .ok (.nx (δ.set i (some (.ol (ds ++ [d]))))) else .stuck
 | _=>.stuck
theorem GC (i:Nat) {x m:Str} {p apos cpos:Pos} (hv:PE X (.Name x p) (DN i)) (he:DE X Γ E e fa) (hh:∀ {to te:TE},PE X (.Name x p) to→PE X e te→PS X (.Expr (.Call (.Attribute (.Name x p) m apos) [e] [] cpos) pos) (Oh (tBM X.K "list" ajv to (Aj te Kl)))) :
   DS X Γ E (.Expr (.Call (.Attribute (.Name x p) m apos) [e] [] cpos) pos) (xq i fa) :=
 PS.imp (hh hv he) fun N σ H ⟨G0,H0,G,δ,S,w⟩=>by
   obtain ⟨O,q⟩:=id S.sl
   unfold xq at w
   split at w
   · rename_i ds ei
     obtain ⟨v,hvi,h⟩:=id (q i _ ei)
     obtain ⟨aa,vs,ev,h1,h2,h3,h4,h5⟩:=h
     subst ev
     refine ⟨_,hvi,.inl ⟨rfl,vs,SqL.of h1⟩,G0,H0,G,δ,S,(au w).mono (fun d w u G1 H1 s1 r1=>?_) fun x k=>exD.step k S.st⟩
     split at w
     · rename_i hz
       have S1:=S.step s1
       have q1:∀ i s,δ[i]? = some (some s)→∃ v,σ[i]? = some (some v)∧dN X.K Γ H0 G1 H1 O i v s:=fun j y e=>by
         obtain ⟨v',z1,z2⟩:=q j y e
         exact ⟨v',z1,z2.step s1⟩
       refine ⟨aa,vs,u,rfl,rfl,s1.hh _ _ h1,by rw [h5.length]; exact hz,w σ G1 _ (S1.write q1 (s1.sep aa (by rw [h1]; exact fun z=>nomatch z) h2) h3 h4 hvi ?_)⟩
       exact ⟨aa,vs ++ [u],rfl,aW,s1.sep aa (by rw [h1]; exact fun z=>nomatch z) h2,h3,h4,(h5.mono s1.gg).append (.cons r1 .nil)⟩
     · exact False.elim w
   · exact False.elim w
def sAppl (i:Nat) (f:DSt→Out (List D)):DSt→Out Fl:=fun δ=>match δ[i]? with
 | some (some (.oll dss))=>(f δ).bind fun d=>if dss.length < sizeLine then .ok (.nx (δ.set i (some (.oll (dss ++ [d]))))) else .stuck
 | some (some (.ol []))=>(f δ).bind fun d=>.ok (.nx (δ.set i (some (.oll [d]))))
 | _=>.stuck
theorem Inner.length {K:PySem.W.Frag} {H0 G H:Hp} {O:Addr→Option Nat} {i:Nat}:∀ {vs:List V} {dss:List (List D)},Inner K Γ H0 G H O i vs dss→vs.length = dss.length
 | _,_,.nil=>rfl
 | _,_,.cons h g h0 o r n t=>by rw [List.length_cons,List.length_cons,t.length]
theorem Inner.updI {K:PySem.W.Frag} {H0 G H:Hp} {O:Addr→Option Nat} {i:Nat} {a:Addr} {o:HO}:∀ {vs:List V} {dss:List (List D)},V.ref a ∉ vs→Inner K Γ H0 G H O i vs dss→Inner K Γ H0 G (upd H a o) O i vs dss
 | _,_,_,.nil=>.nil
 | _,_,m,.cons h g h0 oo r n t=>.cons ((aN fun z=>m (by rw [z]; exact List.mem_cons_self)).trans h) g h0 oo r n (Inner.updI (fun z=>m (List.mem_cons_of_mem _ z)) t)
theorem Inner.snoc {K:PySem.W.Frag} {H0 G H:Hp} {O:Addr→Option Nat} {i:Nat} {b:Addr} {ws:List V} {ds:List D} (h:H b = some (.lst ws)) (g:G b = none) (h0:H0 b = none) (o:O b = some i) (r:aF K Γ G ws ds):∀ {vs:List V} {dss:List (List D)},V.ref b ∉ vs→Inner K Γ H0 G H O i vs dss→Inner K Γ H0 G H O i (vs ++ [.ref b]) (dss ++ [ds])
 | _,_,_,.nil=>.cons h g h0 o r (by simp) .nil
 | _,_,m,.cons h' g' h0' o' r' n' t=>.cons h' g' h0' o' r' (fun z=>by
     rcases List.mem_append.mp z with z | z
     · exact n' z
     · exact m (by rw [List.mem_singleton.mp z]; exact List.mem_cons_self)) (Inner.snoc h g h0 o r (fun z=>m (List.mem_cons_of_mem _ z)) t)
def sExt (i:Nat) (f:DSt→Out D):DSt→Out Fl:=fun δ=>match δ[i]? with
 | some (some (.ol ds))=>(f δ).bind fun d=>match d with
   | .lst zs=>if ds.length + zs.length ≤ sizeLine then .ok (.nx (δ.set i (some (.ol (ds ++ zs))))) else .stuck
   | _=>.stuck
 | _=>.stuck
theorem ds_ext (i:Nat) {x m:Str} {p apos cpos:Pos} (hv:PE X (.Name x p) (DN i)) (he:DE X Γ E e fa) (hh:∀ {to te:TE},PE X (.Name x p) to→PE X e te→PS X (.Expr (.Call (.Attribute (.Name x p) m apos) [e] [] cpos) pos) (Oh (tBM X.K "list" ajw to (Aj te Kl)))) :
   DS X Γ E (.Expr (.Call (.Attribute (.Name x p) m apos) [e] [] cpos) pos) (sExt i fa) :=
 PS.imp (hh hv he) fun N σ H ⟨G0,H0,G,δ,S,w⟩=>by
   obtain ⟨O,q⟩:=id S.sl
   unfold sExt at w
   split at w
   · rename_i ds ei
     obtain ⟨v,hvi,aa,vs,ev,h1,h2,h3,h4,h5⟩:=id (q i _ ei)
     subst ev
     refine ⟨_,hvi,.inl ⟨rfl,vs,SqL.of h1⟩,G0,H0,G,δ,S,(au w).mono (fun d w u G1 H1 s1 r1=>?_) fun x k=>exD.step k S.st⟩
     split at w
     · rename_i zs
       split at w
       · rename_i hz
         have S1:=S.step s1
         have q1:∀ i s,δ[i]? = some (some s)→∃ v,σ[i]? = some (some v)∧dN X.K Γ H0 G1 H1 O i v s:=fun j y e=>by
           obtain ⟨v',z1,z2⟩:=q j y e
           exact ⟨v',z1,z2.step s1⟩
         cases r1 with
         | lst hb rb =>
           refine ⟨aa,_,vs,_,rfl,rfl,s1.hh _ _ h1,s1.gh _ _ hb,by rw [h5.length,rb.length]; exact hz,w σ G1 _ (S1.write q1 (s1.sep aa (by rw [h1]; exact fun z=>nomatch z) h2) h3 h4 hvi ?_)⟩
           exact ⟨aa,_,rfl,aW,s1.sep aa (by rw [h1]; exact fun z=>nomatch z) h2,h3,h4,(h5.mono s1.gg).append rb⟩
       · exact False.elim w
     · exact False.elim w
   · exact False.elim w
def sClr (i:Nat):DSt→Out Fl:=fun δ=>match δ[i]? with
 | some (some (.ol _))=>.ok (.nx (δ.set i (some (.ol []))))
 | some (some (.oll _))=>.ok (.nx (δ.set i (some (.ol []))))
 | _=>.stuck
theorem Inner.at {K:PySem.W.Frag} {H0 G H:Hp} {O:Addr→Option Nat} {i:Nat}:∀ {vs:List V} {dss:List (List D)} {j:Nat} {ds:List D},Inner K Γ H0 G H O i vs dss→dss[j]? = some ds→∃ b ws,vs[j]? = some (.ref b)∧H b = some (.lst ws)∧G b = none∧H0 b = none∧O b = some i∧aF K Γ G ws ds
 | _,_,_,_,.nil,e=>by simp at e
 | _,_,0,_,.cons h g h0 o r n t,e=>by simp at e; subst e; exact ⟨_,_,rfl,h,g,h0,o,r⟩
 | _,_,j + 1,_,.cons h g h0 o r n t,e=>by
   obtain ⟨b,ws,z1,z⟩:=Inner.at (j:=j) t (by simpa using e)
   exact ⟨b,ws,by simpa using z1,z⟩
theorem Inner.put {K:PySem.W.Frag} {H0 G H:Hp} {O:Addr→Option Nat} {i:Nat} {b:Addr} {ws:List V} {ds:List D} (r:aF K Γ G ws ds):∀ {vs:List V} {dss:List (List D)} {j:Nat},Inner K Γ H0 G H O i vs dss→vs[j]? = some (.ref b)→Inner K Γ H0 G (upd H b (.lst ws)) O i vs (dss.set j ds)
 | _,_,_,.nil,e=>by simp at e
 | _,_,0,.cons h g h0 o r' n t,e=>by
   simp at e
   subst e
   exact .cons aW g h0 o r n (Inner.updI n t)
 | _,_,j + 1,.cons (b:=b') (vs:=vs') h g h0 o r' n t,e=>by
   have e':vs'[j]? = some (V.ref b):=by simpa using e
   have ne:b' ≠ b:=fun z=>n (by rw [z]; exact List.mem_of_getElem? e')
   exact .cons ((aN ne).trans h) g h0 o r' n (Inner.put (j:=j) r t e')
def sClr2 (i:Nat) (fk:DSt→Out D):DSt→Out Fl:=fun δ=>match δ[i]? with
 | some (some (.oll dss))=>(fk δ).bind fun k=>match k with
   | .int k=>match ixN dss.length k with
     | some j=>.ok (.nx (δ.set i (some (.oll (dss.set j [])))))
     | none=>.stuck
   | _=>.stuck
 | _=>.stuck
theorem ixN_lt {n:Nat} {i:Int} {j:Nat} (h:ixN n i = some j):j < n:=(abC h).2.1
def sPut (i:Nat) (fe fk:DSt→Out D):DSt→Out Fl:=fun δ=>(fe δ).bind fun d=>match δ[i]? with
 | some (some (.ol ds))=>(fk δ).bind fun k=>match k with
   | .int k=>match ixN ds.length k with
     | some j=>.ok (.nx (δ.set i (some (.ol (ds.set j d)))))
     | none=>.stuck
   | _=>.stuck
 | _=>.stuck
def Od (i:Nat) (fe fk fl:DSt→Out D):DSt→Out Fl:=fun δ=>(fe δ).bind fun d=>match δ[i]? with
 | some (some (.oll dss))=>(fk δ).bind fun k=>match k with
   | .int k=>match ixN dss.length k with
     | some j=>(fl δ).bind fun l=>match l with
       | .int l=>match ixN (dss.getD j []).length l with
         | some m=>.ok (.nx (δ.set i (some (.oll (dss.set j ((dss.getD j []).set m d))))))
         | none=>.stuck
       | _=>.stuck
     | none=>.stuck
   | _=>.stuck
 | _=>.stuck
theorem ds_put2 (i:Nat) {x:Str} {p p2 p3:Pos} {fc:DSt→Out D} (hv:PE X (.Name x p) (DN i)) (he:DE X Γ E e fa) (hb:DE X Γ E b fb) (hc:DE X Γ E c fc) (hh:∀ {te to ti:TE},PE X e te→PE X (.Subscript (.Name x p) b p3) to→PE X c ti→PS X (.Assign [.Subscript (.Subscript (.Name x p) b p3) c p2] e pos) (tAsg te (gSub to ti rSetL))) (hs:Qf b:=by exact fun _ _=>rfl) :
   DS X Γ E (.Assign [.Subscript (.Subscript (.Name x p) b p3) c p2] e pos) (Od i fa fb fc) :=
 PS.imp (hh he (pe_ix ajn hv hb hs) hc) fun N σ H ⟨G0,H0,G,δ,S,w⟩=>by
   refine ⟨G0,H0,G,δ,S,(au w).mono (fun d w u G1 H1 s1 r1=>?_) fun x k=>exD.step k S.st⟩
   have S1:=S.step s1
   obtain ⟨O,q⟩:=id S1.sl
   split at w
   · rename_i dss ei
     obtain ⟨v,hvi,aa,vs,ev,h1,h2,h3,h4,h5,h6⟩:=id (q i _ ei)
     subst ev
     refine ⟨_,hvi,G0,H0,G1,δ,S1,(au w).mono (fun d2 w u2 G2 H2 s2 r2=>?_) fun x k=>exD.step k S1.st⟩
     split at w
     · rename_i k
       split at w
       · rename_i j hj
         cases r2
         have S2:=S1.step s2
         have lt:=ixN_lt hj
         have I6:=h6.step s2
         obtain ⟨bb,ws,z1,z2,z3,z4,z5,z6⟩:=I6.at (j:=j) (ds:=dss[j]) (by simp [lt])
         have gd:dss.getD j [] = dss[j]:=by simp [lt]
         refine ⟨aa,vs,k,.ref bb,rfl,rfl,SqL.of (s2.hh _ _ h1),by unfold atI; rw [h6.length,hj]; exact z1,G0,H0,G2,δ,S2,(au w).mono (fun d3 w u3 G3 H3 s3 r3=>?_) fun x k=>exD.step k S2.st⟩
         split at w
         · rename_i l
           split at w
           · rename_i m hm
             cases r3
             have S3:=S2.step s3
             have I7:=I6.step s3
             have q1:∀ i s,δ[i]? = some (some s)→∃ v,σ[i]? = some (some v)∧dN X.K Γ H0 G3 H3 O i v s:=fun j y e=>by
               obtain ⟨v',z1,z2⟩:=q j y e
               exact ⟨v',z1,(z2.step s2).step s3⟩
             have ga:G3 aa = none:=s3.sep aa (by rw [s2.hh _ _ h1]; exact fun z=>nomatch z) (s2.sep aa (by rw [h1]; exact fun z=>nomatch z) h2)
             have gb:G3 bb = none:=s3.sep bb (by rw [z2]; exact fun z=>nomatch z) z3
             have ne:aa ≠ bb:=fun z=>h5 (by rw [z]; exact List.mem_of_getElem? z1)
             rw [gd] at hm w
             refine ⟨bb,ws,l,m,rfl,rfl,s3.hh _ _ z2,by rw [z6.length]; exact hm,w σ G3 _ (S3.write q1 gb z4 z5 hvi ?_)⟩
             exact ⟨aa,vs,rfl,(aN ne).trans (s3.hh _ _ (s2.hh _ _ h1)),ga,h3,h4,h5,I7.put (aF.set (r1.mono (s2.trans s3).gg) m (z6.mono s3.gg)) z1⟩
           · exact False.elim w
         · exact False.elim w
       · exact False.elim w
     · exact False.elim w
   · exact False.elim w
structure Yl (K:PySem.W.Frag) (Γ:Nat→Option Addr) (G1:Hp) (J:It) (ds:List D):Prop where
 go:∀ i H,bL G1 H→i < ds.length→J.go i H
 yld:∀ i G H x H' d,bL G1 G→bL G H→J.yld i H x H'→ds[i]? = some d→∃ G',Step G H G' H'∧Rep K Γ G' x d
 stop:∀ i H,bL G1 H→ds.length ≤ i→J.stop i H
def tiD (K:PySem.W.Frag) (Γ:Nat→Option Addr) (E:XK) (f:DSt→Out (List D)):TI:=fun σ H R=>∃ G0 H0 G δ,SR K Γ G0 H0 G H σ δ∧wpO (f δ) (fun ds=>∀ J G' H',Step G H G' H'→Yl K Γ G' J ds→R J H') (exD K Γ E G H)
abbrev DI (X:Cx) (Γ:Nat→Option Addr) (E:XK) (tg iter:Expr) (f:DSt→Out (List D)):Prop:=PI X tg iter (tiD X.K Γ E f)
theorem PI.imp {tg iter:Expr} {t t':TI} (h:PI X tg iter t) (k:∀ σ H R,t' σ H R→t σ H R):PI X tg iter t':=fun pins s σ H R I q=>h pins s σ H R I (k _ _ _ q)
theorem ajB {K:PySem.W.Frag} {G:Hp} {a:Addr} {vs:List V} {ds:List D} (h:SqL K G a vs) (r:aF K Γ G vs ds):Yl K Γ G (Itl K a) ds:=by
 refine ⟨fun i H s lt=>?_,fun i G' H x H' d s s' y e=>?_,fun i H s le=>⟨vs,s.seq h,by rw [r.length]; exact le⟩⟩
 · obtain ⟨v,e,_⟩:=r.get (i:=i) (d:=ds[i]) (by simp [lt])
   exact ⟨vs,v,s.seq h,e⟩
 · obtain ⟨rfl,y⟩:=y
   obtain ⟨v,e1,e2⟩:=r.get e
   have:=y vs ((s.trans s').seq h)
   rw [e1] at this
   cases this
   exact ⟨G',.refl s',e2.mono s⟩
theorem yl_tup {K:PySem.W.Frag} {G:Hp} {a:Addr} {vs:List V} {ds:List D} (h:SqT K G a vs) (r:aF K Γ G vs ds):Yl K Γ G (Itt K a) ds:=by
 refine ⟨fun i H s lt=>?_,fun i G' H x H' d s s' y e=>?_,fun i H s le=>⟨vs,SqT.same s h,by rw [r.length]; exact le⟩⟩
 · obtain ⟨v,e,_⟩:=r.get (i:=i) (d:=ds[i]) (by simp [lt])
   exact ⟨vs,v,SqT.same s h,e⟩
 · obtain ⟨rfl,y⟩:=y
   obtain ⟨v,e1,e2⟩:=r.get e
   have:=y vs (SqT.same (s.trans s') h)
   rw [e1] at this
   cases this
   exact ⟨G',.refl s',e2.mono s⟩
theorem pi_or {tg iter:Expr} {w w':TI} (h:PI X tg iter w) (h':PI X tg iter w'):PI X tg iter (fun σ H R=>w σ H R ∨ w' σ H R):=fun pins s σ H R I q=>by
 rcases q with q | q
 · exact h pins s σ H R I q
 · exact h' pins s σ H R I q
theorem Ci {tg:Expr} (ha:DE X Γ E a fa):DI X Γ E tg a (uI fa):=PI.imp (pi_or (pi_list ha) (pi_tup ha)) fun σ H R ⟨G0,H0,G,δ,S,w⟩=>by
 unfold uI at w
 cases h:fa δ with
 | stuck=>rw [h] at w; exact False.elim w
 | ex x=>rw [h] at w; exact .inl ⟨G0,H0,G,δ,S,by rw [h]; exact w⟩
 | ok d =>
   rw [h] at w
   obtain ⟨ds,e,k⟩:=cB w
   cases d <;> simp only [Bj] at e <;> cases e
   · refine .inl ⟨G0,H0,G,δ,S,?_⟩
     rw [h]
     intro v G1 H1 s1 r1
     cases r1 with
     | lst h r=>exact ⟨_,rfl,⟨_,SqL.of (s1.gh _ _ h)⟩,k _ G1 H1 s1 (ajB (SqL.of h) r)⟩
   · refine .inr ⟨G0,H0,G,δ,S,?_⟩
     rw [h]
     intro v G1 H1 s1 r1
     cases r1 with
     | tup h r=>exact ⟨_,rfl,⟨_,SqT.of (s1.gh _ _ h)⟩,k _ G1 H1 s1 (yl_tup (SqT.of h) r)⟩
   · refine .inl ⟨G0,H0,G,δ,S,?_⟩
     rw [h]
     intro v G1 H1 s1 r1
     cases r1 with
     | rol h r=>exact ⟨_,rfl,⟨_,s1.gh.seq h⟩,k _ G1 H1 s1 (ajB h r)⟩
   · refine .inr ⟨G0,H0,G,δ,S,?_⟩
     rw [h]
     intro v G1 H1 s1 r1
     cases r1 with
     | rot h r=>exact ⟨_,rfl,⟨_,SqT.same s1.gh h⟩,k _ G1 H1 s1 (yl_tup h r)⟩
def rngL (lo:Int) (n:Nat):List D:=(List.range n).map fun i=>.int (lo + (i:Nat))
theorem yl_rng {K:PySem.W.Frag} {G:Hp} {lo:Int} {n:Nat}:Yl K Γ G (Itr lo n) (rngL lo n):=by
 have hl:(rngL lo n).length = n:=by simp [rngL]
 refine ⟨fun i H s lt=>by rw [hl] at lt; exact lt,fun i G' H x H' d s s' y e=>?_,fun i H s le=>by rw [hl] at le; exact le⟩
 obtain ⟨rfl,rfl⟩:=y
 unfold rngL at e
 rw [List.getElem?_map] at e
 obtain ⟨j,e1,e2⟩:=Option.map_eq_some_iff.mp e
 obtain ⟨lt,e3⟩:=List.getElem?_eq_some_iff.mp e1
 rw [List.getElem_range] at e3
 subst e2 e3
 exact ⟨G',.refl s',.int _⟩
def HB (f:DSt→Out D):DSt→Out (List D):=fun δ=>(f δ).bind fun d=>match d with
 | .int j=>if -(2 ^ 62) ≤ j∧j < 2 ^ 62 then .ok (rngL 0 j.toNat) else .stuck
 | _=>.stuck
theorem gj {tg:Expr} {p:Pos} (hg:Gl X "range") (hm:X.mg "range" = none) (ha:DE X Γ E a fa) (hs:starEach [a] X.env = [(false,eval a X.env)]:=by rfl):DI X Γ E tg (.Call (.Name "range" p) [a] [] pos) (HB fa) :=
 PI.imp (akC hg hm (bW ha dU (by rw [hs]; rfl)) hs) fun σ H R ⟨G0,H0,G,δ,S,w⟩=>by
   refine ⟨G0,H0,G,δ,S,(au w).mono (fun d w v G1 H1 s1 r1=>?_) fun _ k=>k⟩
   split at w
   · split at w
     · rename_i h; cases r1; exact ⟨_,rfl,h.1,h.2,w _ G1 H1 s1 yl_rng⟩
     · exact False.elim w
   · exact False.elim w
def FN:Nat→List D→List D
 | _,[]=>[]
 | n,d :: ds=>.tup [.int n,d] :: FN (n + 1) ds
theorem YQ:∀ (ds:List D) (n i:Nat),(FN n ds)[i]? = (ds[i]?).map fun d=>.tup [.int ((n + i:Nat):Int),d]
 | [],n,i=>by simp [FN]
 | d :: ds,n,0=>by simp [FN]
 | d :: ds,n,i + 1=>by
   have:=YQ ds (n + 1) i
   simp only [FN,List.getElem?_cons_succ]
   rw [this]
   congr 1
   funext d
   congr 2
   simp only [List.cons.injEq,D.int.injEq,and_true]
   omega
theorem YS (ds:List D):∀ n,(FN n ds).length = ds.length:=by
 induction ds with
 | nil=>intro n; rfl
 | cons d ds ih=>intro n; simp [FN,ih]
theorem ajA {K:PySem.W.Frag} {G:Hp} {a:Addr} {vs:List V} {ds:List D} (h:SqL K G a vs) (r:aF K Γ G vs ds):Yl K Γ G (Ite K a) (FN 0 ds):=by
 refine ⟨fun i H s lt=>?_,fun i G' H x H' d s s' y e=>?_,fun i H s le=>⟨vs,s.seq h,by rw [YS] at le; rw [r.length]; exact le⟩⟩
 · rw [YS] at lt
   obtain ⟨v,e,_⟩:=r.get (i:=i) (d:=ds[i]) (by simp [lt])
   exact ⟨vs,v,s.seq h,e⟩
 · obtain ⟨p,x0,rfl,hp,rfl,y⟩:=y
   rw [YQ] at e
   obtain ⟨d0,e0,rfl⟩:=Option.map_eq_some_iff.mp e
   obtain ⟨v,e1,e2⟩:=r.get e0
   have:=y vs ((s.trans s').seq h)
   rw [e1] at this
   cases this
   refine ⟨_,.new s' hp,.tup aW (.cons ?_ (.cons ((e2.mono s).mono (bL.up (aR s' hp))) .nil))⟩
   rw [Nat.zero_add]
   exact .int _
def Mf:D→Option (List D)
 | .lst xs=>some xs
 | .rol xs=>some xs
 | _=>none
def enum (f:DSt→Out D):DSt→Out (List D):=fun δ=>(f δ).bind fun d=>(Out.opt (Mf d)).bind fun ds=>.ok (FN 0 ds)
theorem aa5 {es':List Expr} {kk:Nat} {tp p:Pos} (hg:Gl X "enumerate") (hm:X.mg "enumerate" = none) (ha:DE X Γ E a fa) (hs:starEach [a] X.env = [(false,eval a X.env)]:=by rfl):DI X Γ E (.Tuple es' kk tp) (.Call (.Name "enumerate" p) [a] [] pos) (enum fa) :=
 PI.imp (pi_enum hg hm (bW ha dU (by rw [hs]; rfl)) hs) fun σ H R ⟨G0,H0,G,δ,S,w⟩=>by
   refine ⟨G0,H0,G,δ,S,(au w).mono (fun d w v G1 H1 s1 r1=>?_) fun _ k=>k⟩
   obtain ⟨ds,e,w⟩:=cB (au w)
   unfold Mf at e
   split at e
   · cases e
     cases r1 with
     | lst h r=>exact ⟨_,rfl,⟨_,SqL.of (s1.gh _ _ h)⟩,w _ G1 H1 s1 (ajA (SqL.of h) r)⟩
   · cases e
     cases r1 with
     | rol h r=>exact ⟨_,rfl,⟨_,s1.gh.seq h⟩,w _ G1 H1 s1 (ajA h r)⟩
   · cases e
def wX (tg:D→DSt→Option DSt) (body:DSt→Out Fl):List D→DSt→Out Fl
 | [],δ=>.ok (.nx δ)
 | d :: ds,δ=>(Out.opt (tg d δ)).bind fun δ1=>(body δ1).bind fun fl=>match fl with
   | .nx δ2=>wX tg body ds δ2
   | .ct δ2=>wX tg body ds δ2
   | .bk δ2=>.ok (.nx δ2)
   | fl=>.ok fl
def ig (fi:DSt→Out (List D)) (tg:D→DSt→Option DSt) (body:DSt→Out Fl):DSt→Out Fl:=fun δ=>(fi δ).bind fun ds=>wX tg body ds δ
def un2 (H0 G1:Hp):Hp:=fun b=>match H0 b with
 | some o=>some o
 | none=>G1 b
theorem uJ {H0 G1:Hp} {b:Addr}:un2 H0 G1 b = none ↔ H0 b = none∧G1 b = none:=by
 unfold un2
 cases h:H0 b <;> simp
theorem un2_some {H0 G1:Hp} {b:Addr} {o:HO} (h:un2 H0 G1 b = some o):H0 b = some o ∨ G1 b = some o:=by
 unfold un2 at h
 cases h0:H0 b with
 | none=>rw [h0] at h; exact .inr h
 | some u=>rw [h0] at h; exact .inl h
theorem Inner.reH {K:PySem.W.Frag} {H0 H0' G H:Hp} {O:Addr→Option Nat} {i:Nat} (k:∀ b,H0 b = none→G b = none→H0' b = none):∀ {vs:List V} {dss:List (List D)},Inner K Γ H0 G H O i vs dss→Inner K Γ H0' G H O i vs dss
 | _,_,.nil=>.nil
 | _,_,.cons h g h0 o r n t=>.cons h g (k _ h0 g) o r n (Inner.reH k t)
theorem bH.reH {K:PySem.W.Frag} {H0 H0' G H:Hp} {O:Addr→Option Nat} {i:Nat} (k:∀ b,H0 b = none→G b = none→H0' b = none):∀ {vs:List V} {es:List Mx} {bs:List Addr},bH K Γ H0 G H O i vs es bs→bH K Γ H0' G H O i vs es bs
 | _,_,_,.nil=>.nil
 | _,_,_,.own h g h0 o r n t=>.own h g (k _ h0 g) o r n (bH.reH k t)
 | _,_,_,.fix r t=>.fix r (bH.reH k t)
theorem dN.reH {K:PySem.W.Frag} {H0 H0' G H:Hp} {O:Addr→Option Nat} {i:Nat} {v:V} {x:Sl} (h:dN K Γ H0 G H O i v x) (k:∀ b,H0 b = none→G b = none→H0' b = none):dN K Γ H0' G H O i v x:=by
 cases x with
 | sh d=>exact h
 | ol ds=>obtain ⟨a,vs,e,h1,h2,h3,h4,h5⟩:=h; exact ⟨a,vs,e,h1,h2,k _ h3 h2,h4,h5⟩
 | oll ds=>obtain ⟨a,vs,e,h1,h2,h3,h4,h5,h6⟩:=h; exact ⟨a,vs,e,h1,h2,k _ h3 h2,h4,h5,h6.reH k⟩
 | od ds=>obtain ⟨a,vs,e,h1,h2,h3,h4,h5⟩:=h; exact ⟨a,vs,e,h1,h2,k _ h3 h2,h4,h5⟩
 | odT ds=>obtain ⟨a,vs,e,h1,h2,h3,h4,h5⟩:=h; exact ⟨a,vs,e,h1,h2,k _ h3 h2,h4,h5⟩
 | omx ds=>obtain ⟨a,vs,bs,e,h1,h2,h3,h4,h5,h6⟩:=h; exact ⟨a,vs,bs,e,h1,h2,k _ h3 h2,h4,h5,h6.reH k⟩
theorem SR.later {K:PySem.W.Frag} {G0 H0 G1 H1 G H:Hp} {σ:L2.St} {δ:DSt} (s1:Step G0 H0 G1 H1) (S:SR K Γ G0 H0 G H σ δ) (s:bL G1 G):SR K Γ G1 (un2 H0 G1) G H σ δ:=by
 refine ⟨⟨s,fun b o e=>?_,S.st.gh,fun b hb g=>?_⟩,S.len,?_⟩
 · rcases un2_some e with e | e
   · exact S.st.hh _ _ e
   · exact S.st.gh _ _ (s _ _ e)
 · have h0:H0 b ≠ none:=fun z=>hb (uJ.mpr ⟨z,g⟩)
   exact S.st.sep b h0 (s1.gg.free g)
 · obtain ⟨O,q⟩:=S.sl
   refine ⟨O,fun i x e=>?_⟩
   obtain ⟨v,h1,h2⟩:=q i x e
   exact ⟨v,h1,h2.reH fun b z g=>uJ.mpr ⟨z,s.free g⟩⟩
theorem Step.back {G0 H0 G1 H1 G H:Hp} (s1:Step G0 H0 G1 H1) (s:Step G1 (un2 H0 G1) G H):Step G0 H0 G H :=
 ⟨s1.gg.trans s.gg,fun b o e=>s.hh _ _ (by unfold un2; rw [e]),s.gh,fun b hb g=>s.sep b (fun z=>hb (uJ.mp z).1) (s1.sep b hb g)⟩
theorem SR.back {K:PySem.W.Frag} {G0 H0 G1 H1 G H:Hp} {σ:L2.St} {δ:DSt} (s1:Step G0 H0 G1 H1) (S:SR K Γ G1 (un2 H0 G1) G H σ δ):SR K Γ G0 H0 G H σ δ:=by
 refine ⟨s1.back S.st,S.len,?_⟩
 obtain ⟨O,q⟩:=S.sl
 refine ⟨O,fun i x e=>?_⟩
 obtain ⟨v,h1,h2⟩:=q i x e
 exact ⟨v,h1,h2.reH fun b z _=>(uJ.mp z).1⟩
theorem jd {tg iter:Expr} {body:List Stmt} {fi:DSt→Out (List D)} {t:D→DSt→Option DSt} (hh:∀ {wi:TI} {g:TG} {tb:TS},PI X tg iter wi→PG X tg g→PSs X body tb→PS X (.For tg iter body [] pos) (tFor wi g tb)) (hi:DI X Γ E tg iter fi) (hg:DG X Γ tg t) (hb:DSs X Γ E body g) :
   DS X Γ E (.For tg iter body [] pos) (ig fi t g):=PS.imp (hh hi hg hb) fun N σ H ⟨G0,H0,G,δ,S,w⟩=>by
 refine ⟨G0,H0,G,δ,S,(au w).mono (fun ds w J G1 H1 s1 Y=>?_) fun x k=>exD.step k S.st⟩
 have sb:Step G0 H0 G1 H1:=S.st.trans s1
 refine ⟨fun i m σ H=>∃ G δ,SR X.K Γ G0 H0 G H σ δ∧bL G1 G∧m = ds.length - i∧i ≤ ds.length∧wpO (wX t g (ds.drop i) δ) (FlOk X.K Γ G0 H0 N) (exD X.K Γ E G0 H0),⟨_,G1,δ,S.step s1,bL.refl _,rfl,Nat.zero_le _,w⟩,?_⟩
 rintro i m σ H ⟨G2,δ2,S2,s2,rfl,hi,w⟩
 by_cases lt:i < ds.length
 · refine .inr ⟨Y.go i H (s2.trans S2.st.gh) lt,fun σ' H'=>∃ G δ,SR X.K Γ G0 H0 G H' σ' δ∧bL G1 G∧wpO (wX t g (ds.drop (i + 1)) δ) (FlOk X.K Γ G0 H0 N) (exD X.K Γ E G0 H0),fun σ' H' ⟨G',δ',a1,a2,a3⟩=>⟨ds.length - (i + 1),by omega,G',δ',a1,a2,rfl,lt,a3⟩,fun x H' y=>?_⟩
   obtain ⟨G3,s3,r3⟩:=Y.yld i G2 H x H' ds[i] s2 S2.st.gh y (by simp [lt])
   rw [List.drop_eq_getElem_cons lt] at w
   obtain ⟨δ3,e3,w⟩:=cB (au w)
   have S3:=(S2.step s3).later sb (s2.trans s3.gg)
   refine ⟨G1,un2 H0 G1,G3,δ2,ds[i],δ3,S3,r3,e3,fun σ4 S4=>?_⟩
   refine ⟨G1,un2 H0 G1,G3,δ3,S4,(au w).mono (fun fl w=>?_) fun x k a G' H' s' r'=>k a G' H' (sb.back s') r'⟩
   cases fl with
   | nx δ'=>exact fun σ' G' H' S'=>⟨G',δ',S'.back sb,S'.st.gg,w⟩
   | ct δ'=>exact fun σ' G' H' S'=>⟨G',δ',S'.back sb,S'.st.gg,w⟩
   | bk δ'=>exact fun σ' G' H' S'=>w σ' G' H' (S'.back sb)
   | rt d=>exact fun v G' H' s' r'=>w v G' H' (sb.back s') r'
   | rl d=>exact fun a vs G' H' s' f h g r=>w a vs G' H' (sb.back s') (uJ.mp f).1 h g r
   | rll d=>exact fun a vs G' H' s' f h g n r=>w a vs G' H' (sb.back s') (uJ.mp f).1 h g n (r.reF fun b z=>(uJ.mp z).1)
 · obtain rfl:i = ds.length:=by omega
   rw [List.drop_length] at w
   exact .inl ⟨Y.stop _ H (s2.trans S2.st.gh) (Nat.le_refl _),w σ G2 H S2⟩
def whD (t:DSt→Out Bool) (body:DSt→Out Fl):Nat→DSt→Out Fl
 | 0,_=>.stuck
 | n + 1,δ=>(t δ).bind fun k=>if k = true then (body δ).bind fun fl=>match fl with
     | .nx δ2=>whD t body n δ2
     | .ct δ2=>whD t body n δ2
     | .bk δ2=>.ok (.nx δ2)
     | fl=>.ok fl
   else .ok (.nx δ)
theorem ds_while {body:List Stmt} (fuel:DSt→Nat) (hh:∀ {tc:TT} {tb:TS},PT X c tc→PSs X body tb→PS X (.While c body [] pos) (tWhile tc tb)) (hc:DT X Γ E c ft) (hb:DSs X Γ E body g) :
   DS X Γ E (.While c body [] pos) (fun δ=>whD ft g (fuel δ) δ):=PS.imp (hh hc hb) fun N σ H ⟨G0,H0,G,δ,S,w⟩=>by
 refine ⟨fun m σ H=>∃ G δ,SR X.K Γ G0 H0 G H σ δ∧wpO (whD ft g m δ) (FlOk X.K Γ G0 H0 N) (exD X.K Γ E G0 H0),⟨_,G,δ,S,w⟩,?_⟩
 rintro m σ H ⟨G2,δ2,S2,w⟩
 cases m with
 | zero=>exact False.elim w
 | succ n =>
   refine ⟨G0,H0,G2,δ2,S2,(au w).mono (fun k w G3 H3 s3=>?_) fun x k=>exD.step k S2.st⟩
   cases k with
   | false=>rw [if_neg Bool.false_ne_true] at w ⊢; exact w σ G3 H3 (S2.step s3)
   | true =>
     rw [if_pos rfl] at w ⊢
     refine ⟨fun σ' H'=>∃ G δ,SR X.K Γ G0 H0 G H' σ' δ∧wpO (whD ft g n δ) (FlOk X.K Γ G0 H0 N) (exD X.K Γ E G0 H0),fun σ' H' ⟨G',δ',a1,a3⟩=>⟨n,Nat.lt_succ_self n,G',δ',a1,a3⟩,G0,H0,G3,δ2,S2.step s3,(au w).mono (fun fl w=>?_) fun x k=>k⟩
     cases fl with
     | nx δ'=>exact fun σ' G' H' S'=>⟨G',δ',S',w⟩
     | ct δ'=>exact fun σ' G' H' S'=>⟨G',δ',S',w⟩
     | bk δ'=>exact w
     | rt d=>exact w
     | rl d=>exact w
     | rll d=>exact w
def capD (cap:List (Option Nat)) (δ:DSt):DSt:=cap.map fun o=>match o with
 | none=>none
 | some j=>match δ[j]? with
   | some (some (.sh d))=>some (.sh d)
   | _=>none
def Jb {α:Type} (tg:D→DSt→Option DSt) (t:DSt→Out Bool) (fe:DSt→Out α):List D→DSt→Out (List α)
 | [],_=>.ok []
 | d :: ds,δ=>(Out.opt (tg d δ)).bind fun δ1=>(t δ1).bD.bind fun k=>if k = true then (fe δ1).bD.bind fun y=>(Jb tg t fe ds δ1).bind fun ys=>.ok (y :: ys) else Jb tg t fe ds δ1
def nR {α:Type} (cap:List (Option Nat)) (fi:DSt→Out (List D)) (tg:D→DSt→Option DSt) (t:DSt→Out Bool) (fe:DSt→Out α):DSt→Out (List α):=fun δ=>(fi δ).bind fun ds=>if ds.length < sizeLine then Jb tg t fe ds (capD cap δ) else .stuck
abbrev DTs (X:Cx) (Γ:Nat→Option Addr) (E:XK) (ifs:List Expr) (f:DSt→Out Bool):Prop:=PIfs X ifs (ttD X.K Γ E f)
theorem Ec:DTs X Γ E [] (fun _=>.ok true):=fun pins s σ H Q I ⟨G0,H0,G,δ,S,w⟩=>pf_nil pins s σ H Q I (w G H (.refl S.st.gh))
theorem ajg (h:DT X Γ E c ft):DTs X Γ E [c] ft:=pf_one h
theorem SR.cap {K:PySem.W.Frag} {G0 H0 G H:Hp} {σ:L2.St} {δ:DSt} (S:SR K Γ G0 H0 G H σ δ) (cap:List (Option Nat)):SR K Γ G H G H (capS cap σ) (capD cap δ):=by
 refine ⟨.refl S.st.gh,by simp [capS,capD],fun _=>none,fun i x e=>?_⟩
 obtain ⟨O,q⟩:=S.sl
 unfold capD at e
 rw [List.getElem?_map] at e
 obtain ⟨o,e1,e2⟩:=Option.map_eq_some_iff.mp e
 cases o with
 | none=>cases e2
 | some j =>
   dsimp only at e2
   split at e2
   · rename_i d ej
     cases e2
     obtain ⟨v,h1,h2⟩:=q j _ ej
     exact ⟨v,by unfold capS; rw [List.getElem?_map,e1]; simp [h1],h2⟩
   · cases e2
def Ys (δ:DSt):Prop:=∀ (i:Nat) x,δ[i]? = some (some x)→∃ d,x = .sh d
def ShT (t:D→DSt→Option DSt):Prop:=∀ d δ δ',t d δ = some δ'→Ys δ→Ys δ'
theorem sh_cap (cap:List (Option Nat)) (δ:DSt):Ys (capD cap δ):=fun i x e=>by
 unfold capD at e
 rw [List.getElem?_map] at e
 obtain ⟨o,e1,e2⟩:=Option.map_eq_some_iff.mp e
 cases o with
 | none=>cases e2
 | some j =>
   dsimp only at e2
   split at e2
   · cases e2; exact ⟨_,rfl⟩
   · cases e2
theorem sh_n (i:Nat):ShT (gN i):=fun d δ δ' e h j x ej=>by
 cases e
 rw [List.getElem?_set] at ej
 split at ej
 · split at ej
   · cases ej; exact ⟨_,rfl⟩
   · cases ej
 · exact h j x ej
theorem SR.beside {K:PySem.W.Frag} {G0 H0 G H:Hp} {σ:L2.St} {δ:DSt} (S:SR K Γ G0 H0 G H σ δ) (sh:Ys δ) {a:Addr} {o:HO} (g:G a = none) (h0:H0 a = none):SR K Γ G0 H0 G (upd H a o) σ δ:=by
 have sx:=S.st
 refine ⟨⟨sx.gg,fun b u e=>by rw [aN (bc e h0)]; exact sx.hh _ _ e,fun b u e=>by rw [aN (bc e g)]; exact sx.gh _ _ e,sx.sep⟩,S.len,?_⟩
 obtain ⟨O,q⟩:=S.sl
 refine ⟨O,fun i x e=>?_⟩
 obtain ⟨d,rfl⟩:=sh i x e
 exact q i _ e
theorem afc {cap:List (Option Nat)} {fi:DSt→Out (List D)} {t:D→DSt→Option DSt} {ft:DSt→Out Bool} {fe:DSt→Out D} (sh:ShT t) (σ:L2.St) (H:Hp) (Q:VK):tfD X.K Γ E (nR cap fi t ft fe) σ H Q→U4 cap (tiD X.K Γ E fi) (tgD X.K Γ t) (ttD X.K Γ E0 ft) (teD X.K Γ E0 fe) σ H Q:=fun ⟨G0,H0,G,δ,S,w⟩=>by
 refine ⟨G0,H0,G,δ,S,(au w).mono (fun ds w J G1 H1 s1 Y=>?_) fun x k=>k⟩
 by_cases hz:ds.length < sizeLine
 · rw [if_pos hz] at w
   intro acc hacc
   have Sc:=(S.step s1).cap cap
   refine ⟨fun i m ys τ H=>∃ G δ done,Step G1 H1 G H∧SR X.K Γ G1 H1 G H τ δ∧Ys δ∧H acc = some (.lst ys)∧G acc = none∧aF X.K Γ G ys done∧m = ds.length - i∧i ≤ ds.length∧ys.length ≤ i ∧
     wpO (Jb t ft fe (ds.drop i) δ) (fun rest=>∀ G' H' vs,Step G1 H1 G' H'→H' acc = some (.lst vs)→G' acc = none→aF X.K Γ G' vs (done ++ rest)→Q (.ref acc) H') (fun _=>True),?_,?_⟩
   · have g1:G1 acc = none:=aR s1.gh hacc
     have st:=Step.aside s1.gh (o:=.lst []) hacc
     refine ⟨_,G1,_,[],st,Sc.step st,sh_cap _ _,aW,g1,.nil,rfl,Nat.zero_le _,Nat.le_refl _,w.mono (fun rest k G' H' vs s' h' g' r'=>k acc vs G' H' (s1.trans s') (aR s1.hh hacc) h' g' r') fun _ _=>trivial⟩
   · rintro i m ys τ H ⟨G2,δ2,done,st,S2,sh2,h2,g2,r2,rfl,hi,hl,w⟩
     refine ⟨h2,Nat.lt_of_le_of_lt (Nat.le_trans hl hi) hz,?_⟩
     by_cases lt:i < ds.length
     · refine .inr ⟨Y.go i H (st.gg.trans st.gh) lt,fun x H' y=>?_⟩
       obtain ⟨G3,s3,r3⟩:=Y.yld i G2 H x H' ds[i] st.gg st.gh y (by simp [lt])
       rw [List.drop_eq_getElem_cons lt] at w
       obtain ⟨δ3,e3,w⟩:=cB (au w)
       refine ⟨G1,H1,G3,δ2,ds[i],δ3,S2.step s3,r3,e3,fun σ4 S4=>?_⟩
       have w:=il (R':=exD X.K Γ E0 G3 H') (au w)
       refine ⟨G1,H1,G3,δ3,S4,w.mono (fun k w G5 H5 s5=>?_) fun _ k=>k⟩
       have s25:=s3.trans s5
       have sh3:=sh _ _ _ e3 sh2
       cases k with
       | false =>
         rw [if_neg Bool.false_ne_true] at w
         dsimp only
         rw [if_neg Bool.false_ne_true]
         exact ⟨_,Nat.sub_lt_sub_left lt (Nat.lt_succ_self i),G5,δ3,done,st.trans s25,S4.step s5,sh3,s25.hh _ _ h2,s25.sep acc (by rw [h2]; exact fun z=>nomatch z) g2,r2.mono s25.gg,rfl,lt,Nat.le_succ_of_le hl,w⟩
       | true =>
         rw [if_pos rfl] at w
         dsimp only
         rw [if_pos rfl]
         have w:=il (R':=exD X.K Γ E0 G5 H5) (au w)
         refine ⟨G1,H1,G5,δ3,S4.step s5,w.mono (fun y w v G6 H6 s6 r6=>?_) fun _ k=>k⟩
         have s26:=s25.trans s6
         have h6:=s26.hh _ _ h2
         have g6:G6 acc = none:=s26.sep acc (by rw [h2]; exact fun z=>nomatch z) g2
         have n1:H1 acc = none:=hacc
         refine ⟨h6,_,Nat.sub_lt_sub_left lt (Nat.lt_succ_self i),G6,δ3,done ++ [y],?_,?_,sh3,aW,g6,(r2.mono s26.gg).append (.cons r6 .nil),rfl,lt,by rw [List.length_append]; exact Nat.succ_le_succ hl,?_⟩
         · have sx:=st.trans s26
           exact ⟨sx.gg,fun b u e=>by rw [aN (bc e n1)]; exact sx.hh _ _ e,fun b u e=>by rw [aN (bc e g6)]; exact sx.gh _ _ e,sx.sep⟩
         · exact ((S4.step s5).step s6).beside sh3 g6 n1
         · refine (au w).mono (fun rest k G' H' vs s' h' g' r'=>k G' H' vs s' h' g' (by simpa using r')) fun _ k=>k
     · obtain rfl:i = ds.length:=by omega
       rw [List.drop_length] at w
       exact .inl ⟨Y.stop _ H (st.gg.trans st.gh) (Nat.le_refl _),w G2 H ys st h2 g2 (by simpa using r2)⟩
 · rw [if_neg hz] at w
   exact False.elim w
theorem yG {tg iter elt:Expr} {ifs:List Expr} {sc:Scope} {cl:List (Str × Addr)} {N':List Str} {cap:List (Option Nat)} {fi:DSt→Out (List D)} {t:D→DSt→Option DSt} {ft:DSt→Out Bool} {fe:DSt→Out D}
   (hh:∀ {wi:TI} {g:TG} {tt:TT} {te:TE},PI X tg iter wi→(∀ s₀ H₀ C fp pn,PG (cJ X N' sc cl s₀ H₀ C fp pn) tg g)→(∀ s₀ H₀ C fp pn,PIfs (cJ X N' sc cl s₀ H₀ C fp pn) ifs tt)→(∀ s₀ H₀ C fp pn,PE (cJ X N' sc cl s₀ H₀ C fp pn) elt te)→PE X (.ListComp elt [⟨tg,iter,ifs,0⟩] sc pos) (U4 cap wi g tt te))
   (hi:DI X Γ E tg iter fi) (sh:ShT t) (hg:∀ s₀ H₀ C fp pn,PG (cJ X N' sc cl s₀ H₀ C fp pn) tg (tgD X.K Γ t)) (ht:∀ s₀ H₀ C fp pn,PIfs (cJ X N' sc cl s₀ H₀ C fp pn) ifs (ttD X.K Γ E0 ft)) (he:∀ s₀ H₀ C fp pn,PE (cJ X N' sc cl s₀ H₀ C fp pn) elt (teD X.K Γ E0 fe)) :
   DF X Γ E (.ListComp elt [⟨tg,iter,ifs,0⟩] sc pos) (nR cap fi t ft fe):=PE.imp (hh hi hg ht he) (afc sh)
theorem bQ.snoc {K:PySem.W.Frag} {H G' H':Hp} {b:Addr} {ws:List V} {ds:List D} (f:H b = none) (h:H' b = some (.lst ws)) (g:G' b = none) (r:aF K Γ G' ws ds):∀ {vs:List V} {dss:List (List D)},V.ref b ∉ vs→bQ K Γ H G' H' vs dss→bQ K Γ H G' H' (vs ++ [.ref b]) (dss ++ [ds])
 | _,_,_,.nil=>.cons f h g r (by simp) .nil
 | _,_,m,.cons f' h' g' r' n' t=>.cons f' h' g' r' (fun z=>by
     rcases List.mem_append.mp z with z | z
     · exact n' z
     · exact m (by rw [List.mem_singleton.mp z]; exact List.mem_cons_self)) (bQ.snoc f h g r (fun z=>m (List.mem_cons_of_mem _ z)) t)
theorem bQ.step {K:PySem.W.Frag} {H G H1 G2 H2:Hp} (s:Step G H1 G2 H2):∀ {vs:List V} {dss:List (List D)},bQ K Γ H G H1 vs dss→bQ K Γ H G2 H2 vs dss
 | _,_,.nil=>.nil
 | _,_,.cons f h g r n t=>.cons f (s.hh _ _ h) (s.sep _ (by rw [h]; exact fun q=>nomatch q) g) (r.mono s.gg) n (bQ.step s t)
theorem bQ.updI {K:PySem.W.Frag} {H G' H':Hp} {a:Addr} {o:HO}:∀ {vs:List V} {dss:List (List D)},V.ref a ∉ vs→bQ K Γ H G' H' vs dss→bQ K Γ H G' (upd H' a o) vs dss
 | _,_,_,.nil=>.nil
 | _,_,m,.cons f h g r n t=>.cons f ((aN fun z=>m (by rw [z]; exact List.mem_cons_self)).trans h) g r n (bQ.updI (fun z=>m (List.mem_cons_of_mem _ z)) t)
theorem bQ.length {K:PySem.W.Frag} {H G' H':Hp}:∀ {vs:List V} {dss:List (List D)},bQ K Γ H G' H' vs dss→vs.length = dss.length
 | _,_,.nil=>rfl
 | _,_,.cons f h g r n t=>by rw [List.length_cons,List.length_cons,t.length]
theorem aa4 {cap:List (Option Nat)} {fi:DSt→Out (List D)} {t:D→DSt→Option DSt} {ft:DSt→Out Bool} {fe:DSt→Out (List D)} (sh:ShT t) (σ:L2.St) (H:Hp) (Q:VK):tffD X.K Γ E (nR cap fi t ft fe) σ H Q→U4 cap (tiD X.K Γ E fi) (tgD X.K Γ t) (ttD X.K Γ E0 ft) (tfD X.K Γ E0 fe) σ H Q:=fun ⟨G0,H0,G,δ,S,w⟩=>by
 refine ⟨G0,H0,G,δ,S,(au w).mono (fun ds w J G1 H1 s1 Y=>?_) fun x k=>k⟩
 by_cases hz:ds.length < sizeLine
 · rw [if_pos hz] at w
   intro acc hacc
   have Sc:=(S.step s1).cap cap
   refine ⟨fun i m ys τ H=>∃ G δ done,Step G1 H1 G H∧SR X.K Γ G1 H1 G H τ δ∧Ys δ∧H acc = some (.lst ys)∧G acc = none∧V.ref acc ∉ ys∧bQ X.K Γ H1 G H ys done∧m = ds.length - i∧i ≤ ds.length∧ys.length ≤ i ∧
     wpO (Jb t ft fe (ds.drop i) δ) (fun rest=>∀ G' H' vs,Step G1 H1 G' H'→H' acc = some (.lst vs)→G' acc = none→V.ref acc ∉ vs→bQ X.K Γ H1 G' H' vs (done ++ rest)→Q (.ref acc) H') (fun _=>True),?_,?_⟩
   · have g1:G1 acc = none:=aR s1.gh hacc
     have st:=Step.aside s1.gh (o:=.lst []) hacc
     refine ⟨_,G1,_,[],st,Sc.step st,sh_cap _ _,aW,g1,(by simp),.nil,rfl,Nat.zero_le _,Nat.le_refl _,w.mono (fun rest k G' H' vs s' h' g' n' r'=>k acc vs G' H' (s1.trans s') (aR s1.hh hacc) h' g' n' (r'.reF fun b z=>aR s1.hh z)) fun _ _=>trivial⟩
   · rintro i m ys τ H ⟨G2,δ2,done,st,S2,sh2,h2,g2,n2,r2,rfl,hi,hl,w⟩
     refine ⟨h2,Nat.lt_of_le_of_lt (Nat.le_trans hl hi) hz,?_⟩
     by_cases lt:i < ds.length
     · refine .inr ⟨Y.go i H (st.gg.trans st.gh) lt,fun x H' y=>?_⟩
       obtain ⟨G3,s3,r3⟩:=Y.yld i G2 H x H' ds[i] st.gg st.gh y (by simp [lt])
       rw [List.drop_eq_getElem_cons lt] at w
       obtain ⟨δ3,e3,w⟩:=cB (au w)
       refine ⟨G1,H1,G3,δ2,ds[i],δ3,S2.step s3,r3,e3,fun σ4 S4=>?_⟩
       have w:=il (R':=exD X.K Γ E0 G3 H') (au w)
       refine ⟨G1,H1,G3,δ3,S4,w.mono (fun k w G5 H5 s5=>?_) fun _ k=>k⟩
       have s25:=s3.trans s5
       have sh3:=sh _ _ _ e3 sh2
       cases k with
       | false =>
         rw [if_neg Bool.false_ne_true] at w
         dsimp only
         rw [if_neg Bool.false_ne_true]
         exact ⟨_,Nat.sub_lt_sub_left lt (Nat.lt_succ_self i),G5,δ3,done,st.trans s25,S4.step s5,sh3,s25.hh _ _ h2,s25.sep acc (by rw [h2]; exact fun z=>nomatch z) g2,n2,r2.step s25,rfl,lt,Nat.le_succ_of_le hl,w⟩
       | true =>
         rw [if_pos rfl] at w
         dsimp only
         rw [if_pos rfl]
         have w:=il (R':=exD X.K Γ E0 G5 H5) (au w)
         refine ⟨G1,H1,G5,δ3,S4.step s5,w.mono (fun y w bb wv G6 H6 s6 fb hb gb rb=>?_) fun _ k=>k⟩
         have s26:=s25.trans s6
         have h6:=s26.hh _ _ h2
         have g6:G6 acc = none:=s26.sep acc (by rw [h2]; exact fun z=>nomatch z) g2
         have n1:H1 acc = none:=hacc
         have neb:acc ≠ bb:=fun z=>by
           have:=s25.hh _ _ h2
           rw [z,fb] at this
           cases this
         have nbm:V.ref bb ∉ ys:=fun z=>(r2.step s25).mem bb z |>.2 fb
         have f1:H1 bb = none:=aR ((st.trans s25).hh) fb
         refine ⟨h6,_,Nat.sub_lt_sub_left lt (Nat.lt_succ_self i),G6,δ3,done ++ [y],?_,?_,sh3,aW,g6,(fun z=>by
           rcases List.mem_append.mp z with z | z
           · exact n2 z
           · exact neb (V.ref.inj (List.mem_singleton.mp z))),bQ.snoc f1 ((aN (Ne.symm neb)).trans hb) gb rb nbm (bQ.updI n2 (r2.step s26)),rfl,lt,by rw [List.length_append]; exact Nat.succ_le_succ hl,?_⟩
         · have sx:=st.trans s26
           exact ⟨sx.gg,fun b u e=>by rw [aN (bc e n1)]; exact sx.hh _ _ e,fun b u e=>by rw [aN (bc e g6)]; exact sx.gh _ _ e,sx.sep⟩
         · exact ((S4.step s5).step s6).beside sh3 g6 n1
         · refine (au w).mono (fun rest k G' H' vs s' h' g' n' r'=>k G' H' vs s' h' g' n' (by simpa using r')) fun _ k=>k
     · obtain rfl:i = ds.length:=by omega
       rw [List.drop_length] at w
       exact .inl ⟨Y.stop _ H (st.gg.trans st.gh) (Nat.le_refl _),w G2 H ys st h2 g2 n2 (by simpa using r2)⟩
 · rw [if_neg hz] at w
   exact False.elim w
section
variable {tg iter elt:Expr} {ifs:List Expr} {sc:Scope} {cl:List (Str × Addr)} {N':List Str} {cap:List (Option Nat)} {fi:DSt→Out (List D)} {t:D→DSt→Option DSt} {ft:DSt→Out Bool} {x:Str} {pos' spos:Pos}
theorem aj4 (i:Nat) {fe:DSt→Out (List D)}
   (hh:∀ {wi:TI} {g:TG} {tt:TT} {te:TE},PI X tg iter wi→(∀ s₀ H₀ C fp pn,PG (cJ X N' sc cl s₀ H₀ C fp pn) tg g)→(∀ s₀ H₀ C fp pn,PIfs (cJ X N' sc cl s₀ H₀ C fp pn) ifs tt)→(∀ s₀ H₀ C fp pn,PE (cJ X N' sc cl s₀ H₀ C fp pn) elt te)→PS X (.Assign [.Name x pos'] (.ListComp elt [⟨tg,iter,ifs,0⟩] sc pos) spos) (tAsg (U4 cap wi g tt te) (Sh i)))
   (hi:DI X Γ E tg iter fi) (sh:ShT t) (hg:∀ s₀ H₀ C fp pn,PG (cJ X N' sc cl s₀ H₀ C fp pn) tg (tgD X.K Γ t)) (ht:∀ s₀ H₀ C fp pn,PIfs (cJ X N' sc cl s₀ H₀ C fp pn) ifs (ttD X.K Γ E0 ft)) (he:∀ s₀ H₀ C fp pn,PE (cJ X N' sc cl s₀ H₀ C fp pn) elt (tfD X.K Γ E0 fe)) :
   DS X Γ E (.Assign [.Name x pos'] (.ListComp elt [⟨tg,iter,ifs,0⟩] sc pos) spos) (Dw i (nR cap fi t ft fe)):=PS.imp (hh hi hg ht he) fun N σ H ⟨G0,H0,G,δ,S,w⟩=>aa4 sh _ _ _
 ⟨G0,H0,G,δ,S,(au w).mono (fun d w a vs G1 H1 s1 f h g n r=>w _ G1 H1 (S.setll s1 f h g n r)) fun x k=>exD.step k S.st⟩
end
end
end DL
namespace DL
open PySem PySem.Spec PyProof.Rows MX L2
def nM (n:Nat) (ds:List D):DSt:=ds.map (fun d=>some (.sh d)) ++ List.replicate (n - ds.length) none
def gO:Fl→Out D
 | .nx _=>.ok .non
 | .rt d=>.ok d
 | .rl ds=>.ok (.lst ds)
 | .rll dss=>.ok (.lst (dss.map .lst))
 | _=>.stuck
def endF:Fl→Out (List D)
 | .rl ds=>.ok ds
 | _=>.stuck
def endFF:Fl→Out (List (List D))
 | .rll ds=>.ok ds
 | _=>.stuck
def cQ (n:Nat) (g:DSt→Out Fl) (ds:List D):Out D:=(g (nM n ds)).bind gO
def runL (n:Nat) (g:DSt→Out Fl) (ds:List D):Out (List D):=(g (nM n ds)).bind endF
def runLL (n:Nat) (g:DSt→Out Fl) (ds:List D):Out (List (List D)):=(g (nM n ds)).bind endFF
def spF (K:PySem.W.Frag) (Γ:Nat→Option Addr) (n:Nat) (F:List D→Out (List D)):Sp:=fun vs H Q E=>vs.length = n∧∃ G ds,bL G H∧aF K Γ G vs ds∧wpO (F ds) (okF K Γ G H Q) (exD K Γ E G H)
def spFF (K:PySem.W.Frag) (Γ:Nat→Option Addr) (n:Nat) (F:List D→Out (List (List D))):Sp:=fun vs H Q E=>vs.length = n∧∃ G ds,bL G H∧aF K Γ G vs ds∧wpO (F ds) (okFF K Γ G H Q) (exD K Γ E G H)
def spD (K:PySem.W.Frag) (Γ:Nat→Option Addr) (n:Nat) (F:List D→Out D):Sp:=fun vs H Q E=>vs.length = n∧∃ G ds,bL G H∧aF K Γ G vs ds∧wpO (F ds) (okD K Γ G H Q) (exD K Γ E G H)
theorem SR.Qx {K:PySem.W.Frag} {Γ:Nat→Option Addr} {G H:Hp} {vs:List V} {ds:List D} {N:List Str} (s:bL G H) (r:aF K Γ G vs ds):SR K Γ G H G H (L2.start N vs) (nM N.length ds):=by
 refine ⟨.refl s,by simp [nM,L2.start,r.length],fun _=>none,fun i x e=>?_⟩
 unfold nM at e
 by_cases h:i < ds.length
 · rw [List.getElem?_append_left (by simpa using h),List.getElem?_map] at e
   obtain ⟨d,e1,e2⟩:=Option.map_eq_some_iff.mp e
   cases e2
   obtain ⟨v,h1,h2⟩:=r.get e1
   refine ⟨v,?_,h2⟩
   unfold L2.start
   rw [List.getElem?_append_left (by rw [List.length_map,r.length]; exact h),List.getElem?_map,h1]
   rfl
 · rw [List.getElem?_append_right (by simpa using h),List.getElem?_replicate] at e
   split at e <;> cases e
theorem ahU {K:PySem.W.Frag} {Γ:Nat→Option Addr} {G H:Hp} {Q:VK} {ds:List D} (q:okD K Γ G H Q (.lst ds)):okF K Γ G H Q ds:=fun a vs G1 H1 s1 f h g r=>by
 have hp:∀ b,decide (b = a) = true→G1 b = none∧H b = none:=fun b z=>by obtain rfl:=of_decide_eq_true z; exact ⟨g,f⟩
 exact q _ _ H1 (s1.frz (fun b=>decide (b = a)) hp) (.lst (by unfold lV; rw [if_pos (by simp)]; exact h) (r.mono (mW fun b z=>(hp b z).1)))
theorem ajl {K:PySem.W.Frag} {Γ:Nat→Option Addr} {G H:Hp} {Q:VK} {dss:List (List D)} (q:okD K Γ G H Q (.lst (dss.map .lst))):okFF K Γ G H Q dss:=fun a vs G1 H1 s1 f h g n r=>by
 have hp:∀ b,decide (b = a ∨ V.ref b ∈ vs) = true→G1 b = none∧H b = none:=fun b z=>by
   rcases of_decide_eq_true z with z | z
   · subst z; exact ⟨g,f⟩
   · exact ⟨r.gnone b z,(r.mem b z).1⟩
 exact q _ _ H1 (s1.frz (fun b=>decide (b = a ∨ V.ref b ∈ vs)) hp) (.lst (by unfold lV; rw [if_pos (by simp)]; exact h) (bQ.frozen (G0:=G) (mW fun b z=>(hp b z).1) (fun b hb=>by simp [hb]) r))
section
variable {P:Program} {w:World} {K:PySem.W.Frag} {mg:Str→Option Value} {base:Heap} {Γ:Nat→Option Addr}
theorem Fun.okD {x qual:Str} {st:Stmt} {f:Addr} {fd:FuncData} {N ps:List Str} {k:Nat} {g:DSt→Out Fl} (F:L2.Fun K x qual st f fd) (S:aM N ps (ao st))
   (h:∀ (cdv:Value) (A:Around) (outer:List Env) (s:Shared) (H:Hp) (E:XK),iW k (A.deeper (envOfC qual (ao st) s.heap.objs.size f cdv))→DSs (O1 CX0 P w K mg base N qual (ao st) f cdv A outer s H E).nox Γ E0 (aH st) g) :
   bx P w K mg base CX0 (k + 1) f fd ps (spD K Γ ps.length fun ds=>(cQ N.length g ds).bD) :=
 L2.Fun.ok F S (fun vs H Q E h=>h.1) fun cdv A outer s H vs Q E hr ⟨hl,G,ds,sg,r,q⟩=>by
   refine ⟨_,h cdv A outer s H E hr,G,H,G,nM N.length ds,SR.Qx sg r,(au (il (R':=exD K Γ E0 G H) q)).mono (fun fl q=>?_) fun _ k=>k⟩
   cases fl with
   | nx δ=>exact fun σ G' H' S'=>q _ G' H' S'.st .non
   | rt d=>exact fun v G' H' s' r'=>q v G' H' s' r'
   | bk δ=>exact False.elim q
   | ct δ=>exact False.elim q
   | rl ds=>exact ahU q
   | rll dss=>exact ajl q
theorem Fun.okF {x qual:Str} {st:Stmt} {f:Addr} {fd:FuncData} {N ps:List Str} {k:Nat} {g:DSt→Out Fl} (F:L2.Fun K x qual st f fd) (S:aM N ps (ao st))
   (h:∀ (cdv:Value) (A:Around) (outer:List Env) (s:Shared) (H:Hp) (E:XK),iW k (A.deeper (envOfC qual (ao st) s.heap.objs.size f cdv))→DSs (O1 CX0 P w K mg base N qual (ao st) f cdv A outer s H E).nox Γ E0 (aH st) g) :
   bx P w K mg base CX0 (k + 1) f fd ps (spF K Γ ps.length fun ds=>(runL N.length g ds).bD) :=
 L2.Fun.ok F S (fun vs H Q E h=>h.1) fun cdv A outer s H vs Q E hr ⟨hl,G,ds,sg,r,q⟩=>by
   refine ⟨_,h cdv A outer s H E hr,G,H,G,nM N.length ds,SR.Qx sg r,(au (il (R':=exD K Γ E0 G H) q)).mono (fun fl q=>?_) fun _ k=>k⟩
   cases fl with
   | rl ds=>exact fun a vs G' H' s f h g r=>q a vs G' H' s f h g r
   | _=>exact False.elim q
theorem Fun.okFF {x qual:Str} {st:Stmt} {f:Addr} {fd:FuncData} {N ps:List Str} {k:Nat} {g:DSt→Out Fl} (F:L2.Fun K x qual st f fd) (S:aM N ps (ao st))
   (h:∀ (cdv:Value) (A:Around) (outer:List Env) (s:Shared) (H:Hp) (E:XK),iW k (A.deeper (envOfC qual (ao st) s.heap.objs.size f cdv))→DSs (O1 CX0 P w K mg base N qual (ao st) f cdv A outer s H E).nox Γ E0 (aH st) g) :
   bx P w K mg base CX0 (k + 1) f fd ps (spFF K Γ ps.length fun ds=>(runLL N.length g ds).bD) :=
 L2.Fun.ok F S (fun vs H Q E h=>h.1) fun cdv A outer s H vs Q E hr ⟨hl,G,ds,sg,r,q⟩=>by
   refine ⟨_,h cdv A outer s H E hr,G,H,G,nM N.length ds,SR.Qx sg r,(au (il (R':=exD K Γ E0 G H) q)).mono (fun fl q=>?_) fun _ k=>k⟩
   cases fl with
   | rll ds=>exact fun a vs G' H' s f h g n r=>q a vs G' H' s f h g n r
   | _=>exact False.elim q
theorem okF_D {CX:CXT} {k n:Nat} {f:Addr} {fd:FuncData} {ps:List Str} {F:List D→Out (List D)} (h:bx P w K mg base CX k f fd ps (spF K Γ n F)):bx P w K mg base CX k f fd ps (spD K Γ n fun ds=>(F ds).bind fun xs=>.ok (.lst xs)) :=
 h.imp fun vs H Q E ⟨hl,G,ds,sg,r,q⟩=>⟨hl,G,ds,sg,r,(au q).mono (fun xs q=>ahU q) fun _ k=>k⟩
end
section
variable {X:Cx} {Γ:Nat→Option Addr} {E:XK} {e a b c o:Expr} {pos apos:Pos} {es:List Expr} {fa fb fo:DSt→Out D} {fr:DSt→Out (List D)} {CX:CXT}
def oF (n:Nat) (F:List D→Out D) (fr:DSt→Out (List D)):DSt→Out D:=fun δ=>(fr δ).bind fun ds=>if ds.length = n then F ds else .stuck
theorem bO {n:Nat} {F:List D→Out D} (h:PE X e (Zf (spD X.K Γ n F) [] E (taD X.K Γ E fr))):DE X Γ E e (oF n F fr):=PE.imp h fun σ H Q ⟨G0,H0,G,δ,S,w⟩=>by
 refine ⟨G0,H0,G,δ,S,(au w).mono (fun ds w vs G1 H1 s1 r1=>?_) fun _ k=>k⟩
 split at w
 · rename_i h
   rw [List.append_nil]
   exact ⟨by rw [r1.length]; exact h,G1,ds,s1.gh,r1,w.mono (fun d k=>k.step s1) fun x k=>k.step s1⟩
 · exact False.elim w
def QK {α:Type} (X:Cx) (Γ:Nat→Option Addr) (CX:CXT) (m:Str) (sp:(List D→Out α)→Sp):List (Nat × (List D→Out α))→Prop
 | []=>True
 | (c,F) :: r=>(∃ C f fd ps k,Γ c = some C∧Cls X.K C∧Meth X.K C m f∧bx X.prog X.w X.K X.mg X.base CX k f fd ps (sp F)∧iW k X.A∧Binds X.K fd ps [])∧QK X Γ CX m sp r
theorem QK.get {α:Type} {m:Str} {sp:(List D→Out α)→Sp}:∀ {M:List (Nat × (List D→Out α))} {c:Nat} {F:List D→Out α},QK X Γ CX m sp M→M.lookup c = some F →
   ∃ C f fd ps k,Γ c = some C∧Cls X.K C∧Meth X.K C m f∧bx X.prog X.w X.K X.mg X.base CX k f fd ps (sp F)∧iW k X.A∧Binds X.K fd ps []
 | [],_,_,_,e=>by cases e
 | (c',F') :: r,c,F,h,e=>by
   by_cases q:c = c'
   · subst q
     simp only [List.lookup_cons,beq_self_eq_true] at e
     cases e
     exact h.1
   · have q':(c == c') = false:=beq_eq_false_iff_ne.mpr q
     simp only [List.lookup_cons,q'] at e
     exact h.2.get e
def tMethD {α:Type} (Γ:Nat→Option Addr) (m:Str) (sp:(List D→Out α)→Sp) (M:List (Nat × (List D→Out α))) (E:XK) (ta:TE) (t:TA):TE:=fun σ H Q=>ta σ H fun x H1=>∃ c a C dx fs F,x = .ref a∧H1 a = some (.ins C dx fs)∧Γ c = some C∧M.lookup c = some F∧fs.lookup m = none ∧
 t σ H1 fun vs H2=>sp F (x :: vs) H2 Q E
theorem ph {α:Type} {m:Str} {sp:(List D→Out α)→Sp} {M:List (Nat × (List D→Out α))} {ta:TE} {pl:Sem Bool} (hM:QK X Γ CX m sp M) (hx:oh CX X E) (he:PE X o ta)
   (ht:eval (.Call (.Attribute o m apos) [] [] pos) X.env = (do
     let ov ← eval o X.env
     standAt apos.atName
     let (f,first) ← holding [ov] (getMethod ov m pl)
     callWith pos f first (backTo pos (starEach [] X.env)) (backToKw pos (keywordEach [] X.env))):=by rfl) :
   PE X (.Call (.Attribute o m apos) [] [] pos) (tMethD Γ m sp M E ta Kl):=by
 intro pins s σ H Q I h
 refine PySem.W.methodCall_KW (pl:=pl) (thn (he pins s σ H _ I h) fun u s1 ⟨x,H1,I1,rx,c,a,C,dx,fs,F,ex,ea,hc,hF,l,q⟩=>?_) ht
 subst ex
 obtain rfl:u = Value.ref a:=rx
 obtain ⟨C',f,fd,ps,k,hc',cl,hm,G,hr,hb⟩:=hM.get hF
 rw [hc] at hc'
 cases hc'
 refine Ss I1 ea cl hm l ?_
 exact PySem.W.callWith_K0 (first:=[.ref a]) I1.kIn hm.kp (adg (dvs:=[]) (us:=[.ref a]) (vs:=[.ref a]) G hr hb .nil hx I1 (.cons rfl .nil) (by rw [List.append_nil]; exact q))
def oM (m:Str) (n:Nat) (M:List (Nat × (List D→Out D))) (fo:DSt→Out D) (fr:DSt→Out (List D)):DSt→Out D:=fun δ=>(fo δ).bind fun o=>match o with
 | .obj c fs=>match M.lookup c with
   | some F=>if (fs.lookup m).isNone = true then (fr δ).bind fun ds=>if ds.length + 1 = n then F (o :: ds) else .stuck else .stuck
   | none=>.stuck
 | _=>.stuck
theorem ud {m:Str} {n:Nat} {M:List (Nat × (List D→Out D))} (h:PE X e (tMethD Γ m (spD X.K Γ n) M E (teD X.K Γ E fo) Kl)):DE X Γ E e (oM m n M fo aG):=PE.imp h fun σ H Q ⟨G0,H0,G,δ,S,w⟩=>by
 refine ⟨G0,H0,G,δ,S,(au w).mono (fun d w v G1 H1 s1 r1=>?_) fun _ k=>k⟩
 split at w
 · rename_i c fs
   split at w
   · rename_i F hF
     split at w
     · rename_i hn
       have r1':=r1
       cases r1 with
       | obj ha hc rf =>
         refine ⟨c,_,_,_,_,F,rfl,s1.gh _ _ ha,hc,hF,rf.none (Option.isNone_iff_eq_none.mp hn),?_⟩
         have w:wpO (if 0 + 1 = n then F [.obj c fs] else .stuck) (okD X.K Γ G H Q) (exD X.K Γ E G H):=w
         split at w
         · rename_i hl
           exact ⟨hl,G1,_,s1.gh,.cons r1' .nil,w.mono (fun d k=>k.step s1) fun x k=>k.step s1⟩
         · exact False.elim w
     · exact False.elim w
   · exact False.elim w
 · exact False.elim w
def FldOk (K:PySem.W.Frag) (Γ:Nat→Option Addr) (f:Str):List Nat→Prop
 | []=>True
 | c :: r=>(∃ C,Γ c = some C∧Cls K C∧d7 K C f)∧FldOk K Γ f r
theorem FldOk.get {K:PySem.W.Frag} {f:Str}:∀ {cs:List Nat} {c:Nat},FldOk K Γ f cs→cs.contains c = true→∃ C,Γ c = some C∧Cls K C∧d7 K C f
 | [],_,_,e=>by cases e
 | d :: r,c,h,e=>by
   by_cases q:c = d
   · subst q; exact h.1
   · exact h.2.get (by simpa [q] using e)
def JW (f:Str) (cs:List Nat) (fo:DSt→Out D):DSt→Out D:=fun δ=>(fo δ).bind fun o=>match o with
 | .obj c fs=>if cs.contains c = true then .opt (fs.lookup f) else .stuck
 | _=>.stuck
theorem aaN {f:Str} {cs:List Nat} (hf:FldOk X.K Γ f cs) (he:DE X Γ E o fo) (hb:attributeBase o f X.env (eval o X.env) = eval o X.env:=by rfl):DE X Γ E (.Attribute o f pos) (JW f cs fo):=PE.imp (pe_fld he hb) fun σ H Q ⟨G0,H0,G,δ,S,w⟩=>by
 refine ⟨G0,H0,G,δ,S,(au w).mono (fun d w v G1 H1 s1 r1=>?_) fun _ k=>k⟩
 split at w
 · rename_i c fs
   split at w
   · rename_i hc
     obtain ⟨d,e,k⟩:=cB w
     cases r1 with
     | obj ha hC rf =>
       obtain ⟨C',hC',cl,na⟩:=hf.get hc
       rw [hC] at hC'
       cases hC'
       obtain ⟨v,h1,h2⟩:=rf.look e
       exact ⟨_,_,_,_,v,rfl,s1.gh _ _ ha,cl,na,h1,k _ G1 H1 s1 h2⟩
   · exact False.elim w
 · exact False.elim w
def spI (K:PySem.W.Frag) (Γ:Nat→Option Addr) (c n:Nat) (F:List D→Out (List (Str × D))):Sp:=fun vs H Q E=>vs.length = n + 1∧∃ a dx C us G ds,vs = .ref a :: us∧H a = some (.ins C dx [])∧Γ c = some C∧G a = none∧bL G H∧aF K Γ G us ds ∧
 wpO (F ds) (fun fds=>∀ fs G' H',bL G G'→(∀ b o,H b = some o→b ≠ a→H' b = some o)→bL G' H'→(∀ b,H b ≠ none→G b = none→G' b = none)→H' a = some (.ins C dx fs)→my K Γ G' fs fds→Q .non H')
   (fun x=>∀ a' G' H',bL G G'→(∀ b o,H b = some o→b ≠ a→H' b = some o)→bL G' H'→(∀ b,H b ≠ none→G b = none→G' b = none)→Rep K Γ G' (.ref a') x→E (.ref a') none H')
def oMk (c n:Nat) (F:List D→Out (List (Str × D))) (fr:DSt→Out (List D)):DSt→Out D:=fun δ=>(fr δ).bind fun ds=>if ds.length = n then (F ds).bind fun fds=>.ok (.obj c fds) else .stuck
theorem ajp {c n:Nat} {C:Addr} {F:List D→Out (List (Str × D))} {G H G1 H1:Hp} {Q:VK} {vs:List V} {ds:List D} (hC:Γ c = some C) (s1:Step G H G1 H1) (r1:aF X.K Γ G1 vs ds) (hl:ds.length = n) (w:wpO ((F ds).bind fun fds=>.ok (.obj c fds)) (okD X.K Γ G H Q) (exD X.K Γ E G H)) (x dx:Addr) (hx:H1 x = none) (hdx:H1 dx = none) (ne:dx ≠ x) :
   spI X.K Γ c n F (.ref x :: vs) (upd (upd H1 dx (.own x)) x (.ins C dx [])) (fun v H2=>v = .non∧Q (.ref x) H2) E:=by
 have gx:G1 x = none:=aR s1.gh hx
 have gdx:G1 dx = none:=aR s1.gh hdx
 have up:∀ b o,H1 b = some o→b ≠ x∧upd (upd H1 dx (.own x)) x (.ins C dx []) b = some o:=fun b o e=>⟨bc e hx,by rw [aN (bc e hx),aN (bc e hdx)]; exact e⟩
 have nn:∀ b,H1 b ≠ none→upd (upd H1 dx (.own x)) x (.ins C dx []) b ≠ none:=fun b hb z=>by
   cases q:H1 b with
   | none=>exact hb q
   | some o=>rw [(up b o q).2] at z; cases z
 refine ⟨by rw [List.length_cons,r1.length,hl],x,dx,C,vs,G1,ds,rfl,aW,hC,gx,fun b o e=>(up b o (s1.gh _ _ e)).2,r1,(au w).mono (fun fds w fs G' H' a1 a2 a3 a4 a5 a6=>⟨rfl,?_⟩) fun ex k a' G' H' a1 a2 a3 a4 a5=>k a' G' H' (s1.trans ⟨a1,fun b o e=>a2 b o (up b o e).2 (up b o e).1,a3,fun b hb g=>a4 b (nn b hb) g⟩) a5⟩
 have gx':G' x = none:=a4 x (by rw [aW]; exact fun z=>nomatch z) gx
 refine w _ (upd G' x (.ins C dx fs)) H' (s1.trans ⟨a1.trans (bL.up gx'),fun b o e=>a2 b o (up b o e).2 (up b o e).1,fun b o e=>?_,fun b hb g=>?_⟩) (.obj aW hC (a6.mono (bL.up gx')))
 · by_cases z:b = x
   · subst z; rw [aW] at e; cases e; exact a5
   · rw [aN z] at e; exact a3 _ _ e
 · have z:b ≠ x:=fun z=>hb (by rw [z]; exact hx)
   rw [aN z]; exact a4 b (nn b hb) g
theorem Cj {c n:Nat} {C:Addr} {F:List D→Out (List (Str × D))} (hC:Γ c = some C) (h:PE X e (tMake C (spI X.K Γ c n F) [] E (taD X.K Γ E fr))):DE X Γ E e (oMk c n F fr):=PE.imp h fun σ H Q ⟨G0,H0,G,δ,S,w⟩=>by
 refine ⟨G0,H0,G,δ,S,(au w).mono (fun ds w vs G1 H1 s1 r1=>?_) fun _ k=>k⟩
 split at w
 · rename_i hl
   intro x dx hx hdx ne
   rw [List.append_nil]
   exact ajp hC s1 r1 hl w x dx hx hdx ne
 · exact False.elim w
theorem aa6 {c n:Nat} {C:Addr} {F:List D→Out (List (Str × D))} (hC:Γ c = some C) (h:PE X e (tMake C (spI X.K Γ c n F) [] E Kl)):DE X Γ E e (oMk c n F aG):=PE.imp h fun σ H Q ⟨G0,H0,G,δ,S,w⟩=>by
 have w:wpO (if 0 = n then (F []).bind fun fds=>.ok (.obj c fds) else .stuck) (okD X.K Γ G H Q) (exD X.K Γ E G H):=w
 split at w
 · rename_i hl
   intro x dx hx hdx ne
   rw [List.append_nil]
   exact ajp (G:=G) (H:=H) hC (.refl S.st.gh) .nil hl w x dx hx hdx ne
 · exact False.elim w
structure nQ (K:PySem.W.Frag) (C:Addr):Prop where
 cls:Cls K C
 ha:PySem.W.findIn K (.ref C) "__class__" = some (some (.builtin "object.__class__"))
 hn:PySem.W.specialIn K (.builtin "object.__class__") "__get__" = some (some (.builtin "getset_descriptor.__get__"))
 htk:PySem.W.takesIn K (.builtin "object.__class__") = some true
 hm:PySem.W.mroIn K C (.type "object") = some true
 ty:PySem.W.typeIn K (.ref C) = some (.type "type")
 cd:∃ cd,PySem.W.clsIn K C = some cd
def Ew (K:PySem.W.Frag) (Γ:Nat→Option Addr) (cv:V) (isi:D→Option Bool):Prop:=∀ H v d b,Rep K Γ H v d→isi d = some b→∃ t,TyX K H v t∧PySem.W.kitOne K t (clsV cv) = some b
def Al (isi:D→Option Bool) (fo:DSt→Out D):DSt→Out D:=fun δ=>(fo δ).bind fun d=>(Out.opt (isi d)).bind fun b=>.ok (.bl b)
theorem oJ {cv:V} {isi:D→Option Bool} {p:Pos} (hc:(cv = .ref (match cv with | .ref C=>C | _=>0) ∨ cv = .ty (match cv with | .ty n=>n | _=>""))) (hi:Ew X.K Γ cv isi) (hg:Gl X "isinstance") (hm:X.mg "isinstance" = none) (ho:DB X Γ E o fo) (hcv:PE X c (tC cv))
   (hs:starEach [o,c] X.env = (false,eval o X.env) :: starEach [c] X.env:=by rfl) (hs2:starEach [c] X.env = [(false,eval c X.env)]:=by rfl):DE X Γ E (.Call (.Name "isinstance" p) [o,c] [] pos) (Al isi fo) :=
 PE.imp (J6 call_isi hg hm PyProof.Rows.boot_isinstance (bW ho (bW hcv dU (by rw [hs2]; rfl)) hs) (by decide) (by decide) hs (by rw [hs2]; rfl)) fun σ H Q ⟨G0,H0,G,δ,S,w⟩=>by
   refine ⟨G0,H0,G,δ,S,(au w).mono (fun d w v G1 H1 s1 r1=>?_) fun _ k=>k⟩
   obtain ⟨b,e,k⟩:=cB (au w)
   obtain ⟨t,ty,kt⟩:=hi H1 v d b r1 e
   exact ⟨v,cv,t,b,rfl,hc,ty,kt,k _ G1 H1 s1 (.bl b)⟩
end
end DL
namespace DL
open PySem PySem.Spec PyProof.Rows MX L2
abbrev kc (d:D):DSt→Out D:=fun _=>.ok d
abbrev one1 (g:D→Option D):List D→Option D:=fun ds=>match ds with
 | [x]=>g x
 | _=>none
abbrev frzd (i:Nat) (g:DSt→Out Fl):DSt→Out Fl:=fun δ=>g (frz i δ)
abbrev sWhile (fuel:DSt→Nat) (t:DSt→Out Bool) (b:DSt→Out Fl):DSt→Out Fl:=fun δ=>whD t b (fuel δ) δ
structure Def (P:Program) (w:World) (K:PySem.W.Frag) (mg:Str→Option Value) (base:Heap) (x:Str) (k:Nat) (ps:List Str) (sp:Sp):Prop where
 ex:∃ f fd,bx P w K mg base CX0 k f fd ps sp∧Binds K fd ps []∧mg x = some (.ref f)∧PySem.W.keepIn K (.ref f) = true
structure Ini (P:Program) (w:World) (K:PySem.W.Frag) (mg:Str→Option Value) (base:Heap) (C:Addr) (k:Nat) (ps:List Str) (sp:Sp):Prop where
 ex:∃ f fd,Mk K C f∧bx P w K mg base CX0 k f fd ps sp∧Binds K fd ps []
def wK {α:Type} (P:Program) (w:World) (K:PySem.W.Frag) (mg:Str→Option Value) (base:Heap) (Γ:Nat→Option Addr) (m:Str) (sp:(List D→Out α)→Sp) (k:Nat):List (Nat × (List D→Out α))→Prop
 | []=>True
 | (c,F) :: r=>(∃ C f fd ps,Γ c = some C∧Cls K C∧Meth K C m f∧bx P w K mg base CX0 k f fd ps (sp F)∧Binds K fd ps [])∧wK P w K mg base Γ m sp k r
theorem wK.ok {α:Type} {X:Cx} {Γ:Nat→Option Addr} {m:Str} {sp:(List D→Out α)→Sp} {k:Nat} (hr:iW k X.A):∀ {M:List (Nat × (List D→Out α))},wK X.prog X.w X.K X.mg X.base Γ m sp k M→QK X Γ CX0 m sp M
 | [],_=>trivial
 | (c,F) :: r,⟨⟨C,f,fd,ps,h1,h2,h3,h4,h5⟩,t⟩=>⟨⟨C,f,fd,ps,k,h1,h2,h3,h4,hr,h5⟩,wK.ok hr t⟩
abbrev dOf (F:List D→Out (List D)):List D→Out D:=fun ds=>(F ds).bind fun xs=>.ok (.lst xs)
abbrev tabD (M:List (Nat × (List D→Out (List D)))):List (Nat × (List D→Out D)):=M.map fun p=>(p.1,dOf p.2)
theorem wK.dF {P:Program} {w:World} {K:PySem.W.Frag} {mg:Str→Option Value} {base:Heap} {Γ:Nat→Option Addr} {m:Str} {n k:Nat}:∀ {M:List (Nat × (List D→Out (List D)))},wK P w K mg base Γ m (spF K Γ n) k M→wK P w K mg base Γ m (spD K Γ n) k (tabD M)
 | [],_=>trivial
 | (c,F) :: r,⟨⟨C,f,fd,ps,h1,h2,h3,h4,h5⟩,t⟩=>⟨⟨C,f,fd,ps,h1,h2,h3,okF_D h4,h5⟩,wK.dF t⟩
def QJ (K:PySem.W.Frag) (Γ:Nat→Option Addr) (cv:Value):List (Nat × Bool)→Prop
 | []=>True
 | (c,b) :: r=>(∃ C',Γ c = some C'∧nQ K C'∧PySem.W.kitOne K (.ref C') cv = some b)∧QJ K Γ cv r
theorem QJ.get {K:PySem.W.Frag} {Γ:Nat→Option Addr} {cv:Value}:∀ {tab:List (Nat × Bool)} {c:Nat} {b:Bool},QJ K Γ cv tab→tab.lookup c = some b→∃ C',Γ c = some C'∧nQ K C'∧PySem.W.kitOne K (.ref C') cv = some b
 | [],_,_,_,e=>by cases e
 | (c',b') :: r,c,b,h,e=>by
   by_cases q:c = c'
   · subst q
     simp only [List.lookup_cons,beq_self_eq_true] at e
     cases e
     exact h.1
   · have q':(c == c') = false:=beq_eq_false_iff_ne.mpr q
     simp only [List.lookup_cons,q'] at e
     exact h.2.get e
def isiE (tab:List (Nat × Bool)):D→Option Bool
 | .obj c _=>tab.lookup c
 | .non=>some false
 | .bl _=>some false
 | .int _=>some false
 | .str _=>some false
 | .lst _=>some false
 | .tup _=>some false
 | .dK _=>some false
 | .dT _=>some false
 | _=>none
theorem sub_tt {K:PySem.W.Frag} {a:String} {C:Addr} {l:List Value} (h:PySem.fastBuiltinMro a = some l) (n:l.all (fun v=>match v with | .type _=>true | _=>false) = true):PySem.W.subIn K (.type a) (.ref C) = some false:=by
 show (PySem.fastBuiltinMro a).map (·.contains (Value.ref C)) = some false
 rw [h]
 simp only [Option.map_some,Option.some.injEq]
 cases q:l.contains (Value.ref C) with
 | false=>rfl
 | true =>
   have m:=List.contains_iff_mem.mp q
   have:=List.all_eq_true.mp n _ m
   cases this
theorem mro_int:PySem.fastBuiltinMro "int" = some [.type "int",.type "object"]:=by decide +kernel
theorem mro_bool:PySem.fastBuiltinMro "bool" = some [.type "bool",.type "int",.type "object"]:=by decide +kernel
theorem mro_str:PySem.fastBuiltinMro "str" = some [.type "str",.type "object"]:=by decide +kernel
theorem mro_list:PySem.fastBuiltinMro "list" = some [.type "list",.type "object"]:=by decide +kernel
theorem mro_tuple:PySem.fastBuiltinMro "tuple" = some [.type "tuple",.type "object"]:=by decide +kernel
theorem afO:PySem.fastBuiltinMro "dict" = some [.type "dict",.type "object"]:=by decide +kernel
theorem mro_none:PySem.fastBuiltinMro "NoneType" = some [.type "NoneType",.type "object"]:=by decide +kernel
theorem isiE_ok {K:PySem.W.Frag} {Γ:Nat→Option Addr} {C:Addr} {tab:List (Nat × Bool)} (ty:PySem.W.typeIn K (.ref C) = some (.type "type")) (cd:∃ cd,PySem.W.clsIn K C = some cd) (h:QJ K Γ (.ref C) tab):Ew K Γ (.ref C) (isiE tab):=by
 intro H v d b r e
 have bi:∀ {T:String} {l:List Value},PySem.fastBuiltinMro T = some l→l.all (fun v=>match v with | .type _=>true | _=>false) = true→PySem.W.kitOne K (.type T) (.ref C) = some false:=fun {T l} h1 h2=>by
   obtain ⟨cd,e⟩:=cd
   exact kit_sub e ty (sub_tt h1 h2) fun q=>nomatch q
 cases r <;> simp only [isiE] at e
 case non=>cases e; exact ⟨_,.of .non,bi mro_none rfl⟩
 case bl=>cases e; exact ⟨_,.of (.bl _),bi mro_bool rfl⟩
 case int=>cases e; exact ⟨_,.of (.int _),bi mro_int rfl⟩
 case str=>cases e; exact ⟨_,.of (.str _),bi mro_str rfl⟩
 case lst h1 _=>cases e; exact ⟨_,.of (.lst h1),bi mro_list rfl⟩
 case tup h1 _=>cases e; exact ⟨_,.of (.tup h1),bi mro_tuple rfl⟩
 case dK h1 _=>cases e; exact ⟨_,.of (.dK h1),bi afO rfl⟩
 case dT h1 _=>cases e; exact ⟨_,.of (.dT h1),bi afO rfl⟩
 case obj h1 g _ =>
   obtain ⟨C',g',i,k⟩:=h.get e
   rw [g] at g'
   cases g'
   exact ⟨_,.of (.ins h1 i.cls i.ha i.hn i.htk i.hm),k⟩
 all_goals cases e
def Ak (n:String) (tab:List (Nat × Bool)):D→Option Bool
 | .obj c _=>tab.lookup c
 | .non=>some false
 | .bl _=>some (n == "bool" || n == "int")
 | .int _=>some (n == "int")
 | .str _=>some (n == "str")
 | .lst _=>some (n == "list")
 | .tup _=>some (n == "tuple")
 | .dK _=>some (n == "dict")
 | .dT _=>some (n == "dict")
 | _=>none
def ttB (a b:String):Option Bool:=if (Value.type a == Value.type b) = true then some true else if PySem.W.kitMeta b = true then (PySem.fastBuiltinMro a).map (·.contains (.type b)) else none
def U6 (n:String):Bool:=ttB "NoneType" n == some false && ttB "bool" n == some (n == "bool" || n == "int") && ttB "int" n == some (n == "int") && ttB "str" n == some (n == "str") && ttB "list" n == some (n == "list") && ttB "tuple" n == some (n == "tuple") && ttB "dict" n == some (n == "dict")
theorem JQ {K:PySem.W.Frag} {Γ:Nat→Option Addr} {n:String} {tab:List (Nat × Bool)} (a:U6 n = true) (h:QJ K Γ (.type n) tab):Ew K Γ (.ty n) (Ak n tab):=by
 unfold U6 at a
 simp only [Bool.and_eq_true,beq_iff_eq] at a
 obtain ⟨⟨⟨⟨⟨⟨a0,a1⟩,a2⟩,a3⟩,a4⟩,a5⟩,a6⟩:=a
 intro H v d b r e
 cases r <;> simp only [Ak] at e
 case non=>cases e; exact ⟨_,.of .non,a0⟩
 case bl=>cases e; exact ⟨_,.of (.bl _),a1⟩
 case int=>cases e; exact ⟨_,.of (.int _),a2⟩
 case str=>cases e; exact ⟨_,.of (.str _),a3⟩
 case lst h1 _=>cases e; exact ⟨_,.of (.lst h1),a4⟩
 case tup h1 _=>cases e; exact ⟨_,.of (.tup h1),a5⟩
 case dK h1 _=>cases e; exact ⟨_,.of (.dK h1),a6⟩
 case dT h1 _=>cases e; exact ⟨_,.of (.dT h1),a6⟩
 case obj h1 g _ =>
   obtain ⟨C',g',i,k⟩:=h.get e
   rw [g] at g'
   cases g'
   exact ⟨_,.of (.ins h1 i.cls i.ha i.hn i.htk i.hm),k⟩
 all_goals cases e
theorem tt_bool:U6 "bool" = true:=by decide +kernel
theorem tt_int:U6 "int" = true:=by decide +kernel
theorem tt_str:U6 "str" = true:=by decide +kernel
theorem tt_list:U6 "list" = true:=by decide +kernel
theorem tt_tuple:U6 "tuple" = true:=by decide +kernel
end DL
namespace DL
open PySem PySem.Spec PyProof.Rows MX L2
theorem Qg (i j:Int):dG (.int i) (.int j) = some (.int (i + j)):=rfl
theorem Qy (i j:Int):subD (.int i) (.int j) = some (.int (i - j)):=rfl
theorem JT {i j:Int} (h:An i j):oW (.int i) (.int j) = some (.int (i * j)):=by show (if An i j then _ else _) = _; rw [if_pos h]
theorem Cm {i j:Int} (h:CDiv i j):gJ (.int i) (.int j) = some (.int (i / j)):=by show (if CDiv i j then _ else _) = _; rw [if_pos h]
theorem JS {i j:Int} (h:0 < j):cC (.int i) (.int j) = some (.int (i % j)):=by show (if 0 < j then _ else _) = _; rw [if_pos h]
theorem Qi (p:Int→Int→Bool) (i j:Int):cmpI p (.int i) (.int j) = some (p i j):=rfl
theorem adT (b:Bool):truD (.bl b) = some b:=rfl
theorem asB_b (b:Bool):asB (.bl b) = some b:=rfl
theorem abX (xs:List D):fK (.lst xs) = some (.int xs.length):=rfl
theorem abY (xs:List D):fK (.rol xs) = some (.int xs.length):=rfl
theorem abZ (xs:List D):fK (.tup xs) = some (.int xs.length):=rfl
theorem afA (xs:List D) (i:Int):ixD (.lst xs) (.int i) = atI xs i:=rfl
theorem afB (xs:List D) (i:Int):ixD (.rol xs) (.int i) = atI xs i:=rfl
theorem SQ (xs:List D) (i:Int):ixD (.tup xs) (.int i) = atI xs i:=rfl
theorem abB (i:Int):intD (.int i) = some (.int i):=rfl
theorem SM (b:Bool):intD (.bl b) = some (.int (if b then 1 else 0)):=rfl
theorem ab0 (i j:Int):maxD [.int i,.int j] = some (.int (if j > i then j else i)):=rfl
theorem ab1 (i j:Int):minD [.int i,.int j] = some (.int (if j < i then j else i)):=rfl
theorem modb (a b:Int) {m:Int} (h:0 < m) (h2:m ≤ 2 ^ 32):An (a % m) b:=by
 have h3:=Int.emod_nonneg a (show m ≠ 0 by omega)
 have h4:=Int.emod_lt_of_pos a h
 exact .inl ⟨by omega,by omega⟩
theorem uP {a b:Int} (h1:-1000000000 ≤ a) (h2:a ≤ 1000000000):An a b:=.inl ⟨by omega,by omega⟩
def nxP (o:Out Fl) (I:DSt→Prop):Prop:=match o with
 | .ok (.nx δ)=>I δ
 | _=>False
theorem acb (δ:DSt) (I:DSt→Prop):nxP (.ok (.nx δ)) I = I δ:=rfl
theorem ajt {o:Out Fl} {I:DSt→Prop} (h:nxP o I):∃ δ,o = .ok (.nx δ)∧I δ:=by
 unfold nxP at h
 split at h
 · exact ⟨_,rfl,h⟩
 · exact h.elim
theorem if_t {α:Type} {a b:α}:(if true = true then a else b) = a:=if_pos rfl
theorem if_f {α:Type} {a b:α}:(if false = true then a else b) = b:=if_neg Bool.false_ne_true
theorem ace {a b:String}:Str.ofString a = Str.ofString b ↔ a = b:=by
 constructor
 · intro h
   rw [Str.ofString_eq_toList,Str.ofString_eq_toList] at h
   have h1:a.toList.map Char.toNat = b.toList.map Char.toNat:=by
     have:=congrArg (fun s:Str=>s.cps.toList) h
     simpa using this
   have inj:∀ {x y:List Char},x.map Char.toNat = y.map Char.toNat→x = y:=by
     intro x
     induction x with
     | nil=>intro y h; cases y with | nil=>rfl | cons _ _=>cases h
     | cons c x ih =>
       intro y h
       cases y with
       | nil=>cases h
       | cons d y =>
         simp only [List.map_cons,List.cons.injEq] at h
         rw [ih h.2]
         congr 1
         exact Char.ext (UInt32.toNat_inj.mp h.1)
   exact String.toList_inj.mp (inj h1)
 · rintro rfl; rfl
theorem Qw (a b:String):(Str.ofString a == Str.ofString b) = (a == b):=by
 by_cases h:a = b
 · subst h; simp
 · rw [beq_eq_false_iff_ne.mpr h,beq_eq_false_iff_ne.mpr (fun q=>h (ace.mp q))]
mutual
theorem eqv_refl:∀ d:PyData,d.canLay0 = true→PyData.eqv d d = true
 | .none,_=>by simp [PyData.eqv]
 | .bool b,_=>by simp [PyData.eqv]
 | .int i,_=>by simp [PyData.eqv]
 | .str x,_=>by simp [PyData.eqv]
 | .list xs,h=>by
   simp only [PyData.eqv]
   exact eqvAll_refl xs (by simpa [PyData.canLay0] using h)
 | .tuple xs,h=>by
   simp only [PyData.eqv]
   exact eqvAll_refl xs (by simpa [PyData.canLay0] using h)
 | .dict _,h=>by simp [PyData.canLay0] at h
theorem eqvAll_refl:∀ ds:List PyData,PyData.canLayAll0 ds = true→PyData.eqvAll ds ds = true
 | [],_=>by simp [PyData.eqvAll]
 | d :: ds,h=>by
   simp only [PyData.canLayAll0,Bool.and_eq_true] at h
   simp only [PyData.eqvAll,eqv_refl d h.1,eqvAll_refl ds h.2,Bool.and_self]
end
mutual
def gW:Nat→D→Bool
 | _,.non=>true
 | _,.bl _=>true
 | _,.int _=>true
 | _,.str x=>PyData.strOk x
 | n + 1,.lst xs=>Dj n xs
 | n + 1,.tup xs=>Dj n xs
 | n + 1,.rol xs=>Dj n xs
 | n + 1,.rot xs=>Dj n xs
 | _,_=>false
def Dj:Nat→List D→Bool
 | _,[]=>true
 | n,d :: ds=>gW n d && Dj n ds
end
mutual
theorem Qp:∀ (d:D) (n:Nat),gW n d = true→∃ p,toPy d = some p∧p.canLay0 = true∧p.depth ≤ n
 | .non,n,_=>⟨_,rfl,by simp [PyData.canLay0],by simp [PyData.depth]⟩
 | .bl b,n,_=>⟨_,rfl,by simp [PyData.canLay0],by simp [PyData.depth]⟩
 | .int b,n,_=>⟨_,rfl,by simp [PyData.canLay0],by simp [PyData.depth]⟩
 | .str x,n,h=>⟨_,rfl,by simpa [PyData.canLay0,gW] using h,by simp [PyData.depth]⟩
 | .lst xs,n + 1,h=>by
   obtain ⟨q,e,c,k⟩:=Dk xs n (by simpa [gW] using h)
   exact ⟨.list q,by simp [toPy,e],by simpa [PyData.canLay0] using c,by simp [PyData.depth]; omega⟩
 | .rol xs,n + 1,h=>by
   obtain ⟨q,e,c,k⟩:=Dk xs n (by simpa [gW] using h)
   exact ⟨.list q,by simp [toPy,e],by simpa [PyData.canLay0] using c,by simp [PyData.depth]; omega⟩
 | .tup xs,n + 1,h=>by
   obtain ⟨q,e,c,k⟩:=Dk xs n (by simpa [gW] using h)
   exact ⟨.tuple q,by simp [toPy,e],by simpa [PyData.canLay0] using c,by simp [PyData.depth]; omega⟩
 | .rot xs,n + 1,h=>by
   obtain ⟨q,e,c,k⟩:=Dk xs n (by simpa [gW] using h)
   exact ⟨.tuple q,by simp [toPy,e],by simpa [PyData.canLay0] using c,by simp [PyData.depth]; omega⟩
 | .lst xs,0,h=>by simp [gW] at h
 | .rol xs,0,h=>by simp [gW] at h
 | .tup xs,0,h=>by simp [gW] at h
 | .rot xs,0,h=>by simp [gW] at h
 | .ty _,n,h=>by simp [gW] at h
 | .cls _,n,h=>by simp [gW] at h
 | .dK _,n,h=>by simp [gW] at h
 | .dT _,n,h=>by simp [gW] at h
 | .obj _ _,n,h=>by simp [gW] at h
 | .exc _ _,n,h=>by simp [gW] at h
theorem Dk:∀ (ds:List D) (n:Nat),Dj n ds = true→∃ p,toPyL ds = some p∧PyData.canLayAll0 p = true∧PyData.depthAll p ≤ n
 | [],n,_=>⟨_,rfl,by simp [PyData.canLayAll0],by simp [PyData.depthAll]⟩
 | d :: ds,n,h=>by
   simp only [Dj,Bool.and_eq_true] at h
   obtain ⟨p,e1,c1,k1⟩:=Qp d n h.1
   obtain ⟨q,e2,c2,k2⟩:=Dk ds n h.2
   exact ⟨p :: q,by simp [toPyL,e1,e2],by simp [PyData.canLayAll0,c1,c2],by simp [PyData.depthAll]; omega⟩
end
def eqB (x y:D):Bool:=match toPy x,toPy y with
 | some p,some q=>PyData.eqv p q
 | _,_=>false
theorem Qj {x y:D} (hx:gW 50 x = true) (hy:gW 50 y = true):eqD x y = some (eqB x y):=by
 obtain ⟨p,e1,c1,k1⟩:=Qp x 50 hx
 obtain ⟨q,e2,c2,k2⟩:=Qp y 50 hy
 unfold eqD eqB layP
 rw [e1,e2]
 simp [c1,c2,k1,k2]
theorem Qu {x y:D} (hx:gW 50 x = true) (hy:gW 50 y = true):neD x y = some (!eqB x y):=by
 unfold neD
 rw [Qj hx hy]
 rfl
theorem afk {n:Nat} {x:D} (hx:gW n x = true):eqB x x = true:=by
 obtain ⟨p,e1,c1,k1⟩:=Qp x n hx
 unfold eqB
 rw [e1]
 exact eqv_refl p c1
theorem afl {x:D} (hx:gW 50 x = true):eqD x x = some true:=by rw [Qj hx hx,afk hx]
theorem neD_refl {x:D} (hx:gW 50 x = true):neD x x = some false:=by rw [Qu hx hx,afk hx]; rfl
theorem ajh (i j:Int):eqB (.int i) (.int j) = (i == j):=by simp [eqB,toPy,PyData.eqv]
theorem eqB_bl (i j:Bool):eqB (.bl i) (.bl j) = (i == j):=by simp [eqB,toPy,PyData.eqv]
theorem R9 (i j:Int):eqD (.int i) (.int j) = some (i == j):=by rw [Qj (by simp [gW]) (by simp [gW]),ajh]
theorem Tp (i j:Int):neD (.int i) (.int j) = some (!(i == j)):=by rw [Qu (by simp [gW]) (by simp [gW]),ajh]
theorem abd:eqD .non .non = some true:=afl (by simp [gW])
theorem ab8:neD .non .non = some false:=neD_refl (by simp [gW])
theorem abb (i j:Bool):eqD (.bl i) (.bl j) = some (i == j):=by rw [Qj (by simp [gW]) (by simp [gW]),eqB_bl]
theorem ab7 (i j:Bool):neD (.bl i) (.bl j) = some (!(i == j)):=by rw [Qu (by simp [gW]) (by simp [gW]),eqB_bl]
theorem aeA {α:Type} (x0:α) (r:List α):atI (x0 :: r) 0 = some x0:=fY (j:=0) rfl
theorem aeB {α:Type} (x0 x1:α) (r:List α):atI (x0 :: x1 :: r) 1 = some x1:=fY (j:=1) rfl
theorem atI_2 {α:Type} (x0 x1 x2:α) (r:List α):atI (x0 :: x1 :: x2 :: r) 2 = some x2:=fY (j:=2) rfl
theorem atI_3 {α:Type} (x0 x1 x2 x3:α) (r:List α):atI (x0 :: x1 :: x2 :: x3 :: r) 3 = some x3:=fY (j:=3) rfl
theorem atI_4 {α:Type} (x0 x1 x2 x3 x4:α) (r:List α):atI (x0 :: x1 :: x2 :: x3 :: x4 :: r) 4 = some x4:=fY (j:=4) rfl
theorem atI_5 {α:Type} (x0 x1 x2 x3 x4 x5:α) (r:List α):atI (x0 :: x1 :: x2 :: x3 :: x4 :: x5 :: r) 5 = some x5:=fY (j:=5) rfl
theorem atI_6 {α:Type} (x0 x1 x2 x3 x4 x5 x6:α) (r:List α):atI (x0 :: x1 :: x2 :: x3 :: x4 :: x5 :: x6 :: r) 6 = some x6:=fY (j:=6) rfl
theorem atI_7 {α:Type} (x0 x1 x2 x3 x4 x5 x6 x7:α) (r:List α):atI (x0 :: x1 :: x2 :: x3 :: x4 :: x5 :: x6 :: x7 :: r) 7 = some x7:=fY (j:=7) rfl
theorem atI_8 {α:Type} (x0 x1 x2 x3 x4 x5 x6 x7 x8:α) (r:List α):atI (x0 :: x1 :: x2 :: x3 :: x4 :: x5 :: x6 :: x7 :: x8 :: r) 8 = some x8:=fY (j:=8) rfl
theorem atI_9 {α:Type} (x0 x1 x2 x3 x4 x5 x6 x7 x8 x9:α) (r:List α):atI (x0 :: x1 :: x2 :: x3 :: x4 :: x5 :: x6 :: x7 :: x8 :: x9 :: r) 9 = some x9:=fY (j:=9) rfl
theorem Z6 {α:Type} (x0 x1 x2 x3 x4 x5 x6 x7 x8 x9 x10:α) (r:List α):atI (x0 :: x1 :: x2 :: x3 :: x4 :: x5 :: x6 :: x7 :: x8 :: x9 :: x10 :: r) 10 = some x10:=fY (j:=10) rfl
theorem Z7 {α:Type} (x0 x1 x2 x3 x4 x5 x6 x7 x8 x9 x10 x11:α) (r:List α):atI (x0 :: x1 :: x2 :: x3 :: x4 :: x5 :: x6 :: x7 :: x8 :: x9 :: x10 :: x11 :: r) 11 = some x11:=fY (j:=11) rfl
end DL
namespace DL
open PySem PySem.Spec PyProof.Rows MX L2
section
variable {X:Cx} {Γ:Nat→Option Addr} {E:XK} {e a b c o:Expr} {pos apos p:Pos} {es:List Expr} {fa fb fo:DSt→Out D} {fr:DSt→Out (List D)}
theorem Va:∀ {bs:List Bool} {us:List Value},Vals (bs.map V.bl) us→us = bs.map Value.bool
 | [],_,r=>by cases r; rfl
 | b :: bs,_,r=>by
   cases r with
   | cons r1 r2=>cases r1; rw [Va r2]; rfl
theorem all_range (bs:List Bool):(List.range bs.length).all (fun i=>bs.getD i true) = bs.all id:=by
 induction bs with
 | nil=>rfl
 | cons b bs ih =>
   rw [List.length_cons,List.range_succ_eq_map,List.all_cons,List.all_map,List.all_cons]
   have:((fun i=>(b :: bs).getD i true) ∘ Nat.succ) = fun i=>bs.getD i true:=by funext i; simp
   rw [this,ih]; simp
theorem Ri (hc:X.calm = true):tE X (.builtin "all") (fun xs H Q=>∃ (q:Addr) (bs:List Bool),xs = [.ref q]∧SqL X.K H q (bs.map V.bl)∧Q (.bl (bs.all id)) H):=by
 intro pins s σ H xs us Q I r h
 obtain ⟨q,bs,rfl,hq,k⟩:=h
 obtain ⟨u,rfl,rx⟩:=vals1 r
 cases rx
 obtain ⟨its,r',pl,hz⟩:=I.list hq
 have ei:=Va r'
 subst ei
 refine call_all_walk (PySem.wpAny_pyIter_list pl.isList ?_)
 have hh:X.A.in1.handled = none:=I.ok.hd hc
 have hlt:q < s.heap.objs.size:=by obtain ⟨ob,hob,_⟩:=pl.isList; exact Heap.lt_size hob
 refine ⟨_,_,_,_,_,_,fun i=>bs.getD i true,rfl,Walks.list hh s.heap.objs.size q (Nat.ne_of_lt hlt) _,⟨⟨_,Heap.get?_push_size _ rfl,rfl,rfl⟩,pl.isList.push _⟩,fun i v s' Q' E' hv hQ=>?_,fun h' tk kp=>?_⟩
 · have hv:(bs.map Value.bool)[i]? = some v:=by simpa using hv
   rw [List.getElem?_map] at hv
   obtain ⟨b,hb,rfl⟩:=Option.map_eq_some_iff.mp hv
   have hQ:Q' (bs.getD i true) s':=hQ
   rw [List.getD_eq_getElem?_getD,hb] at hQ
   exact wpAny_truthy_bool hQ
 · have es:(bs.map Value.bool).toArray.size = bs.length:=by simp
   rw [es,all_range]
   exact ⟨.bl _,H,I.kept (t':=tk) fun b ob hb=>kp b ob (by simp; exact Nat.ne_of_lt (Heap.lt_size hb)) (Heap.get?_push_of_some _ hb),rfl,k⟩
def Br:List D→Option (List Bool)
 | []=>some []
 | d :: r=>match asB d,Br r with
   | some b,some bs=>some (b :: bs)
   | _,_=>none
theorem aF.bools {K:PySem.W.Frag} {H:Hp}:∀ {vs:List V} {ds:List D} {bs:List Bool},aF K Γ H vs ds→Br ds = some bs→vs = bs.map V.bl
 | _,_,_,.nil,e=>by simp only [Br] at e; cases e; rfl
 | _,_,_,.cons (d:=d) (ds:=ds) h r,e=>by
   simp only [Br] at e
   cases h1:asB d with
   | none=>rw [h1] at e; cases e
   | some b =>
     cases h2:Br ds with
     | none=>rw [h1,h2] at e; cases e
     | some bs =>
       rw [h1,h2] at e
       cases e
       rw [h.asB h1,r.bools h2]; rfl
def allD (d:D):Option D:=(Mf d).bind fun ds=>(Br ds).map fun bs=>.bl (bs.all id)
theorem Rep.Mf {K:PySem.W.Frag} {H:Hp} {v:V} {d:D} {ds:List D} (r:Rep K Γ H v d) (e:Mf d = some ds):∃ a vs,v = .ref a∧SqL K H a vs∧aF K Γ H vs ds:=by
 cases r <;> simp only [DL.Mf] at e <;> cases e
 · exact ⟨_,_,rfl,SqL.of ‹_›,‹_›⟩
 · exact ⟨_,_,rfl,‹_›,‹_›⟩
theorem de_all (hc:X.calm = true) (hg:Gl X "all") (hm:X.mg "all" = none) (ha:DB X Γ E a fa) (hs:starEach [a] X.env = [(false,eval a X.env)]:=by rfl):DE X Γ E (.Call (.Name "all" p) [a] [] pos) (o1 allD fa) :=
 dC1 (fun G H v dx d Q s r e k=>by
   unfold allD at e
   obtain ⟨ds,e1,e2⟩:=Option.bind_eq_some_iff.mp e
   obtain ⟨bs,e3,rfl⟩:=Option.map_eq_some_iff.mp e2
   obtain ⟨q,vs,rfl,sq,ra⟩:=r.Mf e1
   exact ⟨q,bs,rfl,(ra.bools e3) ▸ sq,k _ G H (.refl s) (.bl _)⟩) (J6 (Ri hc) hg hm (by decide +kernel) (bW ha dU (by rw [hs]; rfl)) (by decide) (by decide) (by rw [hs]; rfl) (by rfl))
def Its (x:Str):It:=⟨fun i _=>i < x.cps.size,fun i H v H'=>H' = H∧∃ c,x.cps[i]? = some c∧v = .str ⟨#[c]⟩,fun i _=>x.cps.size ≤ i⟩
theorem U7 {P:Program} {w:World} {K:PySem.W.Frag} {tg:Expr} (x:Str) (tk:Tok) (it:Addr):Turn P w K tg (Its x) [it] it (fun i h=>h.IsStrIter it "str_ascii_iterator" x tk i) where
 mem:=by simp
 obj:=fun i h st b hb=>by
   have z:b = it:=by simpa using hb
   subst z
   obtain ⟨ob,e1,e2,e3⟩:=st
   exact ⟨ob,e1,fun v z=>by rw [e3] at z; cases z⟩
 keep:=fun i h h' st kp=>by
   obtain ⟨ob,e1,e2⟩:=st
   exact ⟨ob,kp it (by simp) ob e1,e2⟩
 item:=by
   intro X hP hw hK hc i pins s σ H E I hf st hg
   subst hP hw hK
   obtain ⟨f0,f1,f2,f3,f4,f5⟩:=hf it (by simp)
   have lt:i < x.cps.size:=hg
   have hx:x.cps[i]? = some x.cps[i]:=Array.getElem?_eq_getElem lt
   refine wpAny_pyNext_ascii_item st hx fun h' st' sb=>?_
   have I1:Inv X pins σ H { s with heap:=h',toks:=s.toks + 1 }:=I.turned (t':=s.toks + 1) (fun b ob hb q=>(sb.2 b hb).trans q) f0 f1 f3 f4 f5
   obtain ⟨ob,e1,e2,e3⟩:=id st'
   exact ⟨_,rfl,afy (s:={ s with heap:=h',toks:=s.toks + 1 }) e1 e2 e3 (by decide) ⟨.str ⟨#[x.cps[i]]⟩,H,I1,⟨_,rfl⟩,⟨rfl,_,hx,rfl⟩,st',fun b hb=>(hf b hb).1⟩⟩
 done:=by
   intro X hP hw hK hc i pins s σ H E I hf st hg
   subst hP hw hK
   obtain ⟨f0,f1,f2,f3,f4,f5⟩:=hf it (by simp)
   have hx:x.cps[i]? = none:=by
     have:x.cps.size ≤ i:=hg
     simp [this]
   exact wpAny_pyNext_ascii_end (I.ok.hd hc) st hx fun h' eb=>⟨rfl,I.turned (t':=s.toks) (fun b ob hb q=>eb b ob hb q) f0 f1 f3 f4 f5⟩
 self:=fun _ _ _ _ _ st h=>wpAny_pyIter_striter_ascii st h
theorem Yr {P:Program} {w:World} {K:PySem.W.Frag} {tg:Expr} (x:Str) (tk:Tok) (it:Addr):Turn P w K tg (Its x) [it] it (fun i h=>h.IsStrIter it "str_iterator" x tk i) where
 mem:=by simp
 obj:=fun i h st b hb=>by
   have z:b = it:=by simpa using hb
   subst z
   obtain ⟨ob,e1,e2,e3⟩:=st
   exact ⟨ob,e1,fun v z=>by rw [e3] at z; cases z⟩
 keep:=fun i h h' st kp=>by
   obtain ⟨ob,e1,e2⟩:=st
   exact ⟨ob,kp it (by simp) ob e1,e2⟩
 item:=by
   intro X hP hw hK hc i pins s σ H E I hf st hg
   subst hP hw hK
   obtain ⟨f0,f1,f2,f3,f4,f5⟩:=hf it (by simp)
   have lt:i < x.cps.size:=hg
   have hx:x.cps[i]? = some x.cps[i]:=Array.getElem?_eq_getElem lt
   refine wpAny_pyNext_wide_item st hx fun h' st' sb=>?_
   have I1:Inv X pins σ H { s with heap:=h',toks:=s.toks + 1 }:=I.turned (t':=s.toks + 1) (fun b ob hb q=>(sb.2 b hb).trans q) f0 f1 f3 f4 f5
   obtain ⟨ob,e1,e2,e3⟩:=id st'
   exact ⟨_,rfl,afy (s:={ s with heap:=h',toks:=s.toks + 1 }) e1 e2 e3 (by decide) ⟨.str ⟨#[x.cps[i]]⟩,H,I1,⟨_,rfl⟩,⟨rfl,_,hx,rfl⟩,st',fun b hb=>(hf b hb).1⟩⟩
 done:=by
   intro X hP hw hK hc i pins s σ H E I hf st hg
   subst hP hw hK
   obtain ⟨f0,f1,f2,f3,f4,f5⟩:=hf it (by simp)
   have hx:x.cps[i]? = none:=by
     have:x.cps.size ≤ i:=hg
     simp [this]
   exact wpAny_pyNext_wide_end (I.ok.hd hc) st hx fun h' eb=>⟨rfl,I.turned (t':=s.toks) (fun b ob hb q=>eb b ob hb q) f0 f1 f3 f4 f5⟩
 self:=fun _ _ _ _ _ st h=>wpAny_pyIter_striter_wide st h
def iStr (tl:TE):TI:=fun σ H R=>tl σ H fun v H1=>∃ x,v = .str x∧R (Its x) H1
theorem pi_str {tg l:Expr} {tl:TE} (hl:PE X l tl):PI X tg l (iStr tl):=by
 intro pins s σ H R I h
 refine thn (hl pins s σ H _ I h) fun v s1 ⟨x,H1,I1,r1,q1⟩=>?_
 obtain ⟨z,ez,q⟩:=q1
 subst ez
 obtain ⟨tk,rfl⟩:=r1
 have fp:∀ b ∈ [s1.heap.objs.size],Oi X pins H1 b:=fun b hb=>by
   have eb:b = s1.heap.objs.size:=by simpa using hb
   subst eb
   exact I1.fpOk (Nat.le_refl _) (I1.hok.fresh (Nat.le_refl _))
 cases ha:z.cps.all (· < 128) with
 | true=>exact wpAny_pyIter_ascii ha ⟨s1.heap.objs.size,[s1.heap.objs.size],_,_,H1,rfl,I1.kept (t':=s1.toks) fun b ob q=>Heap.get?_push_of_some _ q,U7 z tk _,⟨_,Heap.get?_push_size _ rfl,rfl,rfl⟩,fp,q⟩
 | false=>exact wpAny_pyIter_wide ha ⟨s1.heap.objs.size,[s1.heap.objs.size],_,_,H1,rfl,I1.kept (t':=s1.toks) fun b ob q=>Heap.get?_push_of_some _ q,Yr z tk _,⟨_,Heap.get?_push_size _ rfl,rfl,rfl⟩,fp,q⟩
def UW (x:Str):List D:=x.cps.toList.map fun c=>.str ⟨#[c]⟩
theorem yl_str {K:PySem.W.Frag} {G:Hp} {x:Str}:Yl K Γ G (Its x) (UW x):=by
 have hl:(UW x).length = x.cps.size:=by simp [UW]
 refine ⟨fun i H s lt=>by rw [hl] at lt; exact lt,fun i G' H v H' d s s' y ed=>?_,fun i H s le=>by rw [hl] at le; exact le⟩
 obtain ⟨rfl,ch,hx,rfl⟩:=y
 unfold UW at ed
 rw [List.getElem?_map] at ed
 obtain ⟨ch',e1,rfl⟩:=Option.map_eq_some_iff.mp ed
 have e2:x.cps.toList[i]? = some ch:=by simpa using hx
 rw [e1] at e2
 cases e2
 exact ⟨G',.refl s',.str _⟩
def strO (f:DSt→Out D):DSt→Out (List D):=fun δ=>(f δ).bind fun d=>match d with
 | .str x=>.ok (UW x)
 | _=>.stuck
theorem ahP {tg:Expr} (ha:DE X Γ E a fa):DI X Γ E tg a (strO fa):=PI.imp (pi_str ha) fun σ H R ⟨G0,H0,G,δ,S,w⟩=>by
 refine ⟨G0,H0,G,δ,S,(au w).mono (fun d w v G1 H1 s1 r1=>?_) fun _ k=>k⟩
 split at w
 · cases r1; exact ⟨_,rfl,w _ G1 H1 s1 yl_str⟩
 · exact False.elim w
def rSlS:V→Option Int→Option Int→Hp→VK→Prop:=fun x lo hi H Q=>∃ z,x = .str z∧z.length ≤ sizeLine∧Q (.str (Txt.slice z lo hi)) H
theorem sl_str:SlR X rSlS:=by
 intro pins s σ H x v vl vu lo hi sl Q I rx hs pl pu h
 obtain ⟨z,rfl,hz,q⟩:=h
 obtain ⟨t,rfl⟩:=rx
 obtain ⟨ob,h1,h2,h3⟩:=hs
 refine ⟨"str",_,PySem.F.slot_str_getitem.lookup,typeIs_str _ _ _,?_⟩
 have fin:∀ t' k,EP X pins σ Q (.str (Txt.slice z lo hi) t') { s with toks:=k }:=fun t' k=>⟨.str _,H,I.tok k,⟨_,rfl⟩,q⟩
 cases pl with
 | none =>
   cases pu with
   | none=>exact wpAny_getItem_str_slice (l:=none) (u:=none) (st:=none) ⟨ob,h1,h2,h3⟩ rfl (post_val_or_str ⟨Nat.le_trans (Txt.slice_le z _ _) hz,fun t' k=>fin t' k⟩)
   | int j u=>exact wpAny_getItem_str_slice (l:=none) (u:=some (j,u)) (st:=none) ⟨ob,h1,h2,h3⟩ rfl (post_val_or_str ⟨Nat.le_trans (Txt.slice_le z _ _) hz,fun t' k=>fin t' k⟩)
 | int i u' =>
   cases pu with
   | none=>exact wpAny_getItem_str_slice (l:=some (i,u')) (u:=none) (st:=none) ⟨ob,h1,h2,h3⟩ rfl (post_val_or_str ⟨Nat.le_trans (Txt.slice_le z _ _) hz,fun t' k=>fin t' k⟩)
   | int j u=>exact wpAny_getItem_str_slice (l:=some (i,u')) (u:=some (j,u)) (st:=none) ⟨ob,h1,h2,h3⟩ rfl (post_val_or_str ⟨Nat.le_trans (Txt.slice_le z _ _) hz,fun t' k=>fin t' k⟩)
def toD (K:PySem.W.Frag) (Γ:Nat→Option Addr) (E:XK) (f:DSt→Out (Option Int)):TO:=fun σ H Q=>∃ G0 H0 G δ,SR K Γ G0 H0 G H σ δ∧wpO (f δ) (fun b=>∀ G' H',Step G H G' H'→Q b H') (exD K Γ E G H)
abbrev DO (X:Cx) (Γ:Nat→Option Addr) (E:XK) (lo:Option Expr) (f:DSt→Out (Option Int)):Prop:=PO X lo (toD X.K Γ E f)
theorem PO.imp {lo:Option Expr} {t t':TO} (h:PO X lo t) (k:∀ σ H Q,t' σ H Q→t σ H Q):PO X lo t':=fun pins s σ H Q I q=>h pins s σ H Q I (k _ _ _ q)
def noI:DSt→Out (Option Int):=fun _=>.ok none
def soI (f:DSt→Out D):DSt→Out (Option Int):=fun δ=>(f δ).bind fun d=>match d with
 | .int i=>.ok (some i)
 | _=>.stuck
theorem aa7:DO X Γ E none noI:=PO.imp po_none fun σ H Q ⟨G0,H0,G,δ,S,w⟩=>w G H (.refl S.st.gh)
theorem aa8 (h:DE X Γ E e fa):DO X Γ E (some e) (soI fa):=PO.imp (po_some h) fun σ H Q ⟨G0,H0,G,δ,S,w⟩=>by
 refine ⟨G0,H0,G,δ,S,(au w).mono (fun d w v G1 H1 s1 r1=>?_) fun _ k=>k⟩
 split at w
 · cases r1; exact ⟨_,rfl,w G1 H1 s1⟩
 · exact False.elim w
def OJ (xs:List D) (lo hi:Option Int):List D:=List.take (HT.sIx xs.length xs.length hi - HT.sIx xs.length 0 lo) (List.drop (HT.sIx xs.length 0 lo) xs)
def cutD:D→Option Int→Option Int→Option D
 | .str z,lo,hi=>if z.length ≤ sizeLine then some (.str (Txt.slice z lo hi)) else none
 | .lst xs,lo,hi=>some (.lst (OJ xs lo hi))
 | .rol xs,lo,hi=>some (.lst (OJ xs lo hi))
 | _,_,_=>none
def oSl (fa:DSt→Out D) (fl fh:DSt→Out (Option Int)):DSt→Out D:=fun δ=>(fa δ).bind fun x=>(fl δ).bind fun l=>(fh δ).bind fun h=>.opt (cutD x l h)
theorem aF.cut {K:PySem.W.Frag} {H:Hp} {vs:List V} {ds:List D} (r:aF K Γ H vs ds) (lo hi:Option Int):aF K Γ H (cutV vs lo hi) (OJ ds lo hi):=by
 unfold cutV OJ
 rw [r.length]
 exact (r.drop _).take _
theorem RQ {lo hi:Option Expr} {p2:Pos} {fl fh:DSt→Out (Option Int)} (he:DE X Γ E e fa) (hl:DO X Γ E lo fl) (hu:DO X Γ E hi fh):DE X Γ E (.Subscript e (.Slice lo hi none p2) pos) (oSl fa fl fh):=PE.imp (pe_slice (sl_str.or sl_list) he hl hu) fun σ H Q ⟨G0,H0,G,δ,S,w⟩=>by
 refine ⟨G0,H0,G,δ,S,(au w).mono (fun x w v G1 H1 s1 r1=>?_) fun _ k=>k⟩
 refine ⟨G0,H0,G1,δ,S.step s1,(au w).mono (fun l w G2 H2 s2=>?_) fun _ k=>k.step s1⟩
 refine ⟨G0,H0,G2,δ,(S.step s1).step s2,(au w).mono (fun h w G3 H3 s3=>?_) fun _ k=>k.step (s1.trans s2)⟩
 obtain ⟨d,e,k⟩:=cB w
 have r3:=(r1.mono s2.gg).mono s3.gg
 have k3:=k.step ((s1.trans s2).trans s3)
 unfold cutD at e
 split at e
 · split at e
   · cases e; cases r1; exact .inl ⟨_,rfl,‹_›,k3 _ G3 H3 (.refl s3.gh) (.str _)⟩
   · cases e
 · cases e
   cases r3 with
   | lst h r=>exact .inr ⟨_,_,rfl,SqL.of (s3.gh _ _ h),fun q hq=>k3 _ _ _ (.new s3.gh hq) (.lst aW ((r.cut _ _).mono (bL.up (aR s3.gh hq))))⟩
 · cases e
   cases r3 with
   | rol h r=>exact .inr ⟨_,_,rfl,s3.gh.seq h,fun q hq=>k3 _ _ _ (.new s3.gh hq) (.lst aW ((r.cut _ _).mono (bL.up (aR s3.gh hq))))⟩
 · cases e
def U0:List D→Option (List Str)
 | []=>some []
 | .str x :: r=>(U0 r).map (x :: ·)
 | _=>none
theorem aF.strs {K:PySem.W.Frag} {H:Hp}:∀ {vs:List V} {ds:List D} {ss:List Str},aF K Γ H vs ds→U0 ds = some ss→vs = ss.map V.str
 | _,_,_,.nil,e=>by simp only [U0] at e; cases e; rfl
 | _,_,_,.cons (d:=d) (ds:=ds) h r,e=>by
   unfold U0 at e
   split at e
   · rename_i z; cases z
   · rename_i z
     cases z
     obtain ⟨q,e1,rfl⟩:=Option.map_eq_some_iff.mp e
     cases h
     rw [aF.strs r e1]; rfl
   · cases e
def qO:List Str→List Str→List Str
 | acc,[]=>acc
 | acc,x :: r=>qO (if acc.contains x then acc else acc ++ [x]) r
end
end DL
namespace DL
open PySem PySem.Spec PyProof.Rows MX L2
theorem Mh:∀ (l acc:List Str) (x:Str),qO acc (l ++ [x]) = if (qO acc l).contains x then qO acc l else qO acc l ++ [x]
 | [],acc,x=>rfl
 | y :: l,acc,x=>by simp only [List.cons_append,qO]; exact Mh l _ x
theorem Tt:∀ (l acc:List Str),(qO acc l).length ≤ acc.length + l.length
 | [],acc=>Nat.le_refl _
 | y :: l,acc=>by
   simp only [qO,List.length_cons]
   have h1:=Tt l (if acc.contains y then acc else acc ++ [y])
   have h2:(if acc.contains y = true then acc else acc ++ [y]).length ≤ acc.length + 1:=by split <;> simp
   omega
theorem Tu:∀ (l acc:List Str),(acc ++ l).Nodup→qO acc l = acc ++ l
 | [],acc,_=>by simp [qO]
 | y :: l,acc,h=>by
   have hy:y ∉ acc:=fun z=>by
     have:=(List.nodup_append.mp h).2.2 y z y List.mem_cons_self
     exact this rfl
   simp only [qO]
   rw [if_neg (by simpa using hy),Tu l (acc ++ [y]) (by simpa using h)]
   simp
section
variable {prog:Program} {w:World} {A:Around} {E:Value→Shared→Prop} {R:Result→Shared→Prop}
theorem isS (x:Str) (t:Tok):(PySem.strKind prog w).is x (.str x t) = true:=strKind_is prog w x t
theorem ags {h h':Heap} {a:Addr} {S:Str→Bool} {n:Nat} (x:h.SetOf (PySem.strKind prog w) a S n) (k:∀ o,h.get? a = some o→h'.get? a = some o):h'.SetOf (PySem.strKind prog w) a S n:=by
 obtain ⟨o,es,ep,tb,ho,z⟩:=x
 exact ⟨o,es,ep,tb,k o ho,z⟩
theorem agt {h:Heap} {a:Addr} {S S':Str→Bool} {n n':Nat} (x:h.SetOf (PySem.strKind prog w) a S n) (e:S = S') (en:n = n'):h.SetOf (PySem.strKind prog w) a S' n':=by subst e en; exact x
theorem set_loop {I l S:Addr} {items:Array Value} {ss:List Str} (hi:items.toList.length = ss.length) (hv:∀ (i:Nat) v,items[i]? = some v→∃ x t,ss[i]? = some x∧v = .str x t) (W:Walks prog w A.in1 I [I,l] [I] items.size (fun i v=>items[i]? = some v) (fun i h=>h.IsListIter I l i∧h.IsList l items))
   (nI:S ≠ I) (nl:S ≠ l) (few:ss.length + 1 < scanBound):∀ (k i:Nat) (s:Shared),items.size - i = k→i ≤ items.size→(s.heap.IsListIter I l i∧s.heap.IsList l items) →
     s.heap.SetOf (PySem.strKind prog w) S (fun x=>(qO [] (ss.take i)).contains x) (qO [] (ss.take i)).length →
     (∀ h' tk,(∀ b o,b ≠ S→b ≠ I→s.heap.get? b = some o→h'.get? b = some o)→h'.SetOf (PySem.strKind prog w) S (fun x=>(qO [] ss).contains x) (qO [] ss).length→R (.ok (.ret .none)) { s with heap:=h',toks:=tk }) →
     codeAny (model prog w) A (.builtin "set.update.loop" ⟨[.ref S,.ref I],[]⟩) R s:=by
 have hsz:items.size = ss.length:=by simpa using hi
 intro k
 induction k with
 | zero =>
   intro i s ek le st hS q
   obtain rfl:i = items.size:=by omega
   refine codeAny_builtin PyProof.Rows.F.entry_set_update_loop ?_
   rw [Around.under_plainId PyProof.Rows.F.plain_set_update_loop _]
   show wpAny _ A.in1 (pyNext (.ref I) >>= _) _ _ s
   refine wpAny_bind (W.done s _ _ st fun h' tk kp=>wpAny_pure (q h' tk (fun b o h1 h2 z=>kp b o (by simpa using h2) z) ?_))
   have z:=ags hS fun o ho=>kp S o (by simpa using nI) ho
   rwa [hsz,List.take_length] at z
 | succ k ih =>
   intro i s ek le st hS q
   have lt:i < items.size:=by omega
   refine codeAny_builtin PyProof.Rows.F.entry_set_update_loop ?_
   rw [Around.under_plainId PyProof.Rows.F.plain_set_update_loop _]
   show wpAny _ A.in1 (pyNext (.ref I) >>= _) _ _ s
   refine wpAny_bind (W.item i s _ _ lt st fun v h1 tk1 pv st1 kp1=>?_)
   obtain ⟨x,t,hx,rfl⟩:=hv i v pv
   have hS1:=ags (h':=h1) hS fun o ho=>kp1 S o (by simpa using nI) ho
   show wpAny _ A.in1 (holding [Value.str x t] (setAdd S (.str x t)) >>= _) _ _ _
   refine wpAny_bind (wpAny_holding ?_)
   unfold setAdd
   refine wpAny_holding (wpAny_bind ((PySem.strKind prog w).pyHash (k:=x) (isS x t) ?_))
   have nl2:=Tt (ss.take i) []
   have tl:(ss.take i).length ≤ ss.length:=List.length_take_le' i ss
   refine wpAny_setAddHashed_of (knd:=PySem.strKind prog w) (k:=x) (isS x t) rfl hS1 (by simp at nl2; omega) fun h2 sb hS2=>?_
   have tk2:ss.take (i + 1) = ss.take i ++ [x]:=by
     obtain ⟨hl,e⟩:=List.getElem?_eq_some_iff.mp hx
     rw [List.take_succ,hx]; rfl
   have hS3:h2.SetOf (PySem.strKind prog w) S (fun x=>(qO [] (ss.take (i + 1))).contains x) (qO [] (ss.take (i + 1))).length:=by
     refine agt hS2 (funext fun y=>?_) ?_
     · rw [tk2,Mh]
       by_cases c:(qO [] (ss.take i)).contains x = true
       · rw [if_pos c]
         by_cases e:y = x
         · subst e; simp only [c,Bool.true_or]
         · simp [e]
       · rw [if_neg c]
         simp
     · rw [tk2,Mh]
       by_cases c:(qO [] (ss.take i)).contains x = true
       · rw [if_pos c,if_pos c]
       · rw [if_neg c,if_neg c]; simp
   refine wpAny_pure ⟨plainId_quiet PyProof.Rows.F.plain_set_update_loop _,ih (i + 1) _ (by omega) lt ?_ hS3 fun h3 tk3 kp3 z=>q h3 tk3 (fun b o b1 b2 y=>kp3 b o b1 b2 ((sb.2 b b1).trans (kp1 b o (by simpa using b2) y))) z⟩
   refine W.frame _ _ _ st1 fun b hb o y=>?_
   have bS:b ≠ S:=fun z=>by
     subst z
     rcases List.mem_cons.mp hb with z | z
     · exact nI z
     · exact nl (by simpa using z)
   exact (sb.2 b bS).trans y
set_option maxHeartbeats 4000000 in
theorem VD {s:Shared} {l:Addr} {items:Array Value} {ss:List Str} {Q:Value→Shared→Prop} (hh:A.handled = none) (hl:s.heap.IsList l items) (hi:items.toList.length = ss.length) (hv:∀ (i:Nat) v,items[i]? = some v→∃ x t,ss[i]? = some x∧v = .str x t) (few:ss.length + 1 < scanBound)
   (q:∀ (h':Heap) (tk:Nat),h'.SetOf (PySem.strKind prog w) s.heap.objs.size (fun x=>(qO [] ss).contains x) (qO [] ss).length→(∀ b o,s.heap.get? b = some o→h'.get? b = some o)→Q (.ref s.heap.objs.size) { s with heap:=h',toks:=tk }) :
   wpAny (model prog w) A (call (.type "set") [.ref l]) Q E s:=by
 obtain ⟨c0,tl0,mro0⟩:=PySem.F.called_set.mro
 have made0:=PySem.F.called_set.made
 have sub0:=PySem.F.called_set.sub
 have nt0:=PySem.F.called_set.notType
 have cc0:=PySem.F.called_set.canCreate
 have tc0:=PySem.F.typeCall_set_1 (.ref l)
 refine wpAny_call (codeAny_of_tree ?_)
 show wpAny _ _ (callAny (.type "set") _) _ _ _
 refine wpAny_pure ⟨Code.quiet_builtin _ (by decide +kernel),codeAny_builtin PySem.F.entry_type_call ?_⟩
 rw [Around.under_plain (weight_type_call_type "set" [.ref l] []) rfl]
 repeat (any_goals (first | assumption | wp_step))
 refine codeAny_mono (code_set_new_1 (.ref l) (E:=E) (Q₁:=fun ob s1=>∃ led:Bool,ob = .ref s.heap.objs.size∧s1 = { s with heap:=s.heap.push { cls:=.type "set",dict:=none,data:=.set #[] 0 (.fresh 0 0 led) } }) fun led=>⟨led,rfl,rfl⟩) fun r1 s1 z1=>?_
 cases r1 with
 | error e=>exact z1
 | ok fl1 =>
   cases fl1 with
   | ret ob1 =>
     obtain ⟨led,rfl,rfl⟩:=z1
     have hS:=Heap.get?_push_size s.heap (o:={ cls:=.type "set",dict:=none,data:=.set #[] 0 (.fresh 0 0 led) }) rfl
     have hT:Shared.TypeIs { s with heap:=s.heap.push { cls:=.type "set",dict:=none,data:=.set #[] 0 (.fresh 0 0 led) } } (.ref s.heap.objs.size) "set":=⟨_,hS,rfl⟩
     have il0:=PySem.F.called_set.init.lookup
     have ib0:=PySem.F.called_set.init.bind (.ref s.heap.objs.size)
     repeat (any_goals (first | assumption | wp_step))
     refine codeAny_mono (codeAny_call_builtin (R:=wants (fun r2 s2=>r2 = .none∧∃ h' tk,s2 = { s with heap:=h',toks:=tk }∧h'.SetOf (PySem.strKind prog w) s.heap.objs.size (fun x=>(qO [] ss).contains x) (qO [] ss).length∧(∀ b o,s.heap.get? b = some o→h'.get? b = some o)) E)
       PySem.F.called_set.init.plain PySem.F.entry_set_init (check_set_init_1 hT ?_)) fun r2 s2 z2=>?_
     · obtain ⟨⟨cl,dl,dt,sl⟩,hol,hc1,nn,hd1⟩:=hl
       dsimp only at hc1 hd1
       subst hc1
       subst hd1
       have hol1:=Heap.get?_push_of_some (h:=s.heap) { cls:=.type "set",dict:=none,data:=.set #[] 0 (.fresh 0 0 led) } hol
       have sls:=PySem.F.sub_list_set
       have slf:=PySem.F.sub_list_frozenset
       have nld:(Value.type "list" == Value.type "dict") = false:=by decide
       have hl1:(s.heap.push { cls:=.type "set",dict:=none,data:=.set #[] 0 (.fresh 0 0 led) }).IsList l items:=⟨_,hol1,rfl,nn,rfl⟩
       unfold Builtin.«set.__init__» noKeywords Builtin.Frozenset.updateFrom
       generalize hPI:pyIter = PI
       wp_walk
       subst hPI
       refine wpAny_pyIter_list hl1 (wpAny_bind (wpAny_runValue ?_))
       have lS:l < s.heap.objs.size:=Heap.lt_size hol
       have h3:A.in1.in1.in1.handled = none:=by simp [hh]
       have sz1:(s.heap.push { cls:=.type "set",dict:=none,data:=.set #[] 0 (.fresh 0 0 led) }).objs.size = s.heap.objs.size + 1:=Heap.size_push ..
       have nel:l ≠ (s.heap.push { cls:=.type "set",dict:=none,data:=.set #[] 0 (.fresh 0 0 led) }).objs.size:=by rw [sz1]; exact Nat.ne_of_lt (Nat.lt_succ_of_lt lS)
       refine set_loop hi hv (Walks.list h3 _ l nel items) (by rw [sz1]; exact Nat.ne_of_lt (Nat.lt_succ_self _)) (Nat.ne_of_gt lS) few (items.size - 0) 0 _ rfl (Nat.zero_le _) ⟨⟨_,Heap.get?_push_size _ rfl,rfl,rfl⟩,hl1.push _⟩ ?_ fun h' tk kp z=>?_
       · exact agt ((PyProof.Rows.setObjOf_fresh (knd:=PySem.strKind prog w) led).setOf (Heap.get?_push_of_some _ hS) (by decide)) rfl rfl
       · refine wpAny_pure (wpAny_pure ⟨rfl,h',tk,rfl,z,fun b o y=>?_⟩)
         have blt:=Heap.lt_size y
         exact kp b o (Nat.ne_of_lt blt) (by rw [sz1]; exact Nat.ne_of_lt (Nat.lt_succ_of_lt blt)) (Heap.get?_push_of_some _ (Heap.get?_push_of_some _ y))
     · cases r2 with
       | error e=>exact z2
       | ok fl2 =>
         cases fl2 with
         | ret r =>
           obtain ⟨rfl,h',tk,rfl,zS,kp⟩:=z2
           repeat (any_goals (first | assumption | wp_step))
           exact q _ _ zS kp
         | _=>exact z2.elim
   | _=>exact z1.elim
end
def sstP (n:Nat) (a:Addr) (h:Heap):Prop:=∃ o es ep tb,h.get? a = some o∧o.ExactSet∧o.data = .set es ep tb∧tb.fits es.size = true∧es.size = n
section
variable {X:Cx} {Γ:Nat→Option Addr} {E:XK} {e a b c o:Expr} {pos apos p p2 pos2:Pos} {fa:DSt→Out D}
theorem sst_ok {P:Program} {w:World} {H:Hp} {h:Heap} {n:Nat} {a:Addr} (x:sstP n a h):gU P w H h a (.ext (sstP n a)):=by
 refine ⟨x,?_,fun h1 h2 y k=>?_⟩
 · obtain ⟨o,_,_,_,q,_⟩:=x
   exact ⟨o,q⟩
 · obtain ⟨o,es,ep,tb,q,r⟩:=y
   exact ⟨o,es,ep,tb,k o q,r⟩
theorem aho (hc:X.calm = true):tE X (.type "set") (fun xs H Q=>∃ (q:Addr) (ss:List Str),xs = [.ref q]∧SqL X.K H q (ss.map V.str)∧ss.length ≤ 1000∧∀ z,H z = none→Q (.ref z) (upd H z (.ext (sstP (qO [] ss).length z)))):=by
 intro pins s σ H xs us Q I r h
 obtain ⟨q,ss,rfl,hq,hz,k⟩:=h
 obtain ⟨u,rfl,rx⟩:=vals1 r
 cases rx
 obtain ⟨its,r',pl,_⟩:=I.list hq
 have hl:=r'.length
 rw [List.length_map] at hl
 refine VD (ss:=ss) (I.ok.hd hc) pl.isList (by simpa using hl.symm) (fun i v hv=>?_) (by unfold scanBound; omega) fun h' tk hS kp=>?_
 · have hv:its[i]? = some v:=by simpa using hv
   have lt:i < its.length:=(List.getElem?_eq_some_iff.mp hv).1
   have:(ss.map V.str)[i]? = some (V.str ss[i]):=by rw [List.getElem?_map,List.getElem?_eq_getElem (by omega)]; rfl
   obtain ⟨u,hu,ru⟩:=r'.get this
   rw [hv] at hu
   cases hu
   obtain ⟨t,rfl⟩:=ru
   exact ⟨_,t,List.getElem?_eq_getElem (by omega),rfl⟩
 · obtain ⟨ob,es,ep,tb,h1,h2,h3,_,_,_,h4,h5⟩:=hS
   exact ⟨.ref s.heap.objs.size,_,I.laid (t':=tk) kp (Nat.le_refl _) (sst_ok ⟨ob,es,ep,tb,h1,h2,h3,h4,h5⟩),rfl,k _ (I.hok.fresh (Nat.le_refl _))⟩
theorem ahn:tE X (.builtin "len") (fun xs H Q=>∃ (z:Addr) (n:Nat),xs = [.ref z]∧H z = some (.ext (sstP n z))∧n ≤ 1000∧Q (.int n) H):=by
 intro pins s σ H xs us Q I r h
 obtain ⟨z,n,rfl,hz,hn,k⟩:=h
 obtain ⟨u,rfl,rx⟩:=vals1 r
 cases rx
 obtain ⟨⟨ob,es,ep,tb,h1,h2,h3,h4,h5⟩,_,_⟩:=I.hok z _ hz
 refine call_len_set h1 h2 h3 h4 (by omega) ⟨.int n,H,I.tok _,⟨s.toks + 1,by rw [h5]⟩,k⟩
def Th:D→Option D:=fun d=>(Mf d).bind fun ds=>(U0 ds).bind fun ss=>if ss.length ≤ 1000 then some (.int (qO [] ss).length) else none
theorem aj0 (hc:X.calm = true) (hg:Gl X "len") (hm:X.mg "len" = none) (hg2:Gl X "set") (hm2:X.mg "set" = none) (ha:DE X Γ E a fa) (hs:starEach [a] X.env = [(false,eval a X.env)]:=by rfl) (hs2:starEach [.Call (.Name "set" p2) [a] [] pos2] X.env = [(false,eval (.Call (.Name "set" p2) [a] [] pos2) X.env)]:=by rfl) :
   DE X Γ E (.Call (.Name "len" p) [.Call (.Name "set" p2) [a] [] pos2] [] pos) (o1 Th fa) :=
 PE.imp (J6 ahn hg hm PySem.boot_len (bW (En (aho hc) hg2 hm2 (by decide +kernel) (bW ha dU (by rw [hs]; rfl)) (by decide) (by decide) (by rw [hs]; rfl) (by rfl)) dU (by rw [hs2]; rfl)) (by decide) (by decide) (by rw [hs2]; rfl) (by rfl)) fun σ H Q ⟨G0,H0,G,δ,S,w⟩=>by
   refine ⟨G0,H0,G,δ,S,(au w).mono (fun d w v G1 H1 s1 r1=>?_) fun _ k=>k⟩
   obtain ⟨r,e,k⟩:=cB w
   unfold Th at e
   obtain ⟨ds,e1,e2⟩:=Option.bind_eq_some_iff.mp e
   obtain ⟨ss,e3,e4⟩:=Option.bind_eq_some_iff.mp e2
   split at e4
   · rename_i hz
     cases e4
     obtain ⟨q,vs,rfl,sq,ra⟩:=r1.Mf e1
     have ev:=ra.strs e3
     subst ev
     have hn:=Tt ss []
     exact ⟨q,ss,rfl,s1.gh.seq sq,hz,fun z hz0=>⟨z,_,rfl,aW,by simp at hn; omega,k _ G1 _ (s1.trans (.aside s1.gh hz0)) (.int _)⟩⟩
   · cases e4
end
end DL
namespace DL
open PySem PySem.Spec PyProof.Rows MX L2
mutual
def noL:D→Bool
 | .non=>true
 | .bl _=>true
 | .int _=>true
 | .str _=>true
 | .ty _=>true
 | .cls _=>true
 | .tup xs=>noLs xs
 | .obj _ fs=>noLf fs
 | _=>false
def noLs:List D→Bool
 | []=>true
 | d :: r=>noL d && noLs r
def noLf:List (Str × D)→Bool
 | []=>true
 | (_,d) :: r=>noL d && noLf r
end
def lendO:HO→Bool
 | .lst _=>true
 | .dK _=>true
 | _=>false
section
variable {K:PySem.W.Frag} {Γ:Nat→Option Addr} {G1 G2:Hp}
mutual
theorem Rep.less (e:∀ b o,G1 b = some o→lendO o = false→G2 b = some o):∀ {v:V} {d:D},Rep K Γ G1 v d→noL d = true→Rep K Γ G2 v d
 | _,_,.non,_=>.non
 | _,_,.bl b,_=>.bl b
 | _,_,.int i,_=>.int i
 | _,_,.str x,_=>.str x
 | _,_,.ty n,_=>.ty n
 | _,_,.cls h,_=>.cls h
 | _,_,.tup h r,q=>.tup (e _ _ h rfl) (aF.less e r (by simpa [noL] using q))
 | _,_,.obj h g r,q=>.obj (e _ _ h rfl) g (my.less e r (by simpa [noL] using q))
 | _,_,.lst _ _,q=>by simp [noL] at q
 | _,_,.rol _ _,q=>by simp [noL] at q
 | _,_,.rot _ _,q=>by simp [noL] at q
 | _,_,.dK _ _,q=>by simp [noL] at q
 | _,_,.dT _ _,q=>by simp [noL] at q
 | _,_,.e0 _ _,q=>by simp [noL] at q
 | _,_,.e1 _ _ _ _,q=>by simp [noL] at q
theorem aF.less (e:∀ b o,G1 b = some o→lendO o = false→G2 b = some o):∀ {v:List V} {d:List D},aF K Γ G1 v d→noLs d = true→aF K Γ G2 v d
 | _,_,.nil,_=>.nil
 | _,_,.cons h r,q=>by
   simp only [noLs,Bool.and_eq_true] at q
   exact .cons (Rep.less e h q.1) (aF.less e r q.2)
theorem my.less (e:∀ b o,G1 b = some o→lendO o = false→G2 b = some o):∀ {v:List (Str × V)} {d:List (Str × D)},my K Γ G1 v d→noLf d = true→my K Γ G2 v d
 | _,_,.nil,_=>.nil
 | _,_,.cons h r,q=>by
   simp only [noLf,Bool.and_eq_true] at q
   exact .cons (Rep.less e h q.1) (my.less e r q.2)
end
end
section
variable {K:PySem.W.Frag} {Γ:Nat→Option Addr} {G0 H0 G H:Hp} {σ:L2.St} {δ:DSt}
end
section
variable {X:Cx} {Γ:Nat→Option Addr} {E:XK} {e:Expr}
end
end DL
namespace DL
open PySem PySem.Spec PyProof.Rows MX L2
def keyD:D→Option Key
 | .int i=>some (.inl i)
 | .str x=>some (.inr x)
 | _=>none
def hasK (kvs:List (Key × D)) (k:Key):Bool:=kvs.any fun kv=>decide (kv.1 = k)
def putKD (kvs:List (Key × D)) (k:Key) (v:D):List (Key × D) :=
 if (kvs.any fun kv=>decide (kv.1 = k)) = true then kvs.map (fun kv=>if kv.1 = k then (kv.1,v) else kv) else kvs ++ [(k,v)]
section
variable {X:Cx} {Γ:Nat→Option Addr} {E:XK} {e a b c:Expr} {pos:Pos} {es:List Expr} {fa fb:DSt→Out D} {fr:DSt→Out (List D)} {ft:DSt→Out Bool} {K:PySem.W.Frag} {G H:Hp}
theorem Rep.key {v:V} {d:D} {k:Key} (r:Rep K Γ G v d) (e:keyD d = some k):v = kV k:=by
 cases r <;> simp only [keyD] at e <;> cases e <;> rfl
theorem nO.any {k:Key}:∀ {kvs:List (Key × V)} {kds:List (Key × D)},nO K Γ G kvs kds→(kvs.any fun kv=>decide (kv.1 = k)) = (kds.any fun kv=>decide (kv.1 = k))
 | _,_,.nil=>rfl
 | _,_,.cons h r=>by rw [List.any_cons,List.any_cons,r.any]
theorem nO.snoc {k:Key} {v:V} {d:D} (h:Rep K Γ G v d):∀ {kvs:List (Key × V)} {kds:List (Key × D)},nO K Γ G kvs kds→nO K Γ G (kvs ++ [(k,v)]) (kds ++ [(k,d)])
 | _,_,.nil=>.cons h .nil
 | _,_,.cons h' r=>.cons h' (r.snoc h)
theorem nO.repl {k:Key} {v:V} {d:D} (h:Rep K Γ G v d):∀ {kvs:List (Key × V)} {kds:List (Key × D)},nO K Γ G kvs kds→nO K Γ G (kvs.map fun kv=>if kv.1 = k then (kv.1,v) else kv) (kds.map fun kv=>if kv.1 = k then (kv.1,d) else kv)
 | _,_,.nil=>.nil
 | _,_,.cons (k:=k') h' r=>by
   rw [List.map_cons,List.map_cons]
   by_cases z:k' = k
   · simp only [z,if_true]; exact .cons h (r.repl h)
   · simp only [z,if_false]; exact .cons h' (r.repl h)
theorem nO.put {k:Key} {v:V} {d:D} (h:Rep K Γ G v d) {kvs:List (Key × V)} {kds:List (Key × D)} (r:nO K Γ G kvs kds):nO K Γ G (putK kvs k v) (putKD kds k d):=by
 unfold putK putKD
 rw [r.any]
 split
 · exact r.repl h
 · exact r.snoc h
theorem nO.length:∀ {kvs:List (Key × V)} {kds:List (Key × D)},nO K Γ G kvs kds→kvs.length = kds.length
 | _,_,.nil=>rfl
 | _,_,.cons _ r=>by rw [List.length_cons,List.length_cons,r.length]
theorem nO.has {k:Key} {kvs:List (Key × V)} {kds:List (Key × D)} (r:nO K Γ G kvs kds):(HR kvs k).isSome = hasK kds k:=by
 unfold hasK
 rw [← U9,r.any]
def Uq (i:Nat) (f:DSt→Out D):DSt→Out Fl:=fun δ=>match δ[i]? with
 | some (some (.sh (.int m)))=>(f δ).bind fun d=>match d with
   | .int n=>.ok (.nx (δ.set i (some (.sh (.int (m + n))))))
   | _=>.stuck
 | _=>.stuck
theorem ahQ (i:Nat) {x:Str} {pos':Pos} (hh:∀ {te:TE},PE X e te→PS X (.AugAssign (.Name x pos') .Add e pos) (tAug i te (ipI fun i j=>i + j))) (he:DE X Γ E e fa):DS X Γ E (.AugAssign (.Name x pos') .Add e pos) (Uq i fa) :=
 PS.imp (hh he) fun N σ H ⟨G0,H0,G,δ,S,w⟩=>by
   unfold Uq at w
   split at w
   · rename_i m ei
     obtain ⟨O,q⟩:=id S.sl
     obtain ⟨v,hvi,h⟩:=id (q i _ ei)
     refine ⟨v,hvi,G0,H0,G,δ,S,(au w).mono (fun d w u G1 H1 s1 r1=>?_) fun x k=>exD.step k S.st⟩
     split at w
     · rename_i n
       have h:Rep X.K Γ G v (.int m):=h
       cases h
       cases r1
       exact ⟨_,_,rfl,rfl,w _ G1 H1 ((S.step s1).set (.int _))⟩
     · exact False.elim w
   · exact False.elim w
end
end DL
namespace DL
open PySem PySem.Spec PyProof.Rows MX L2
theorem bB {X:Cx} {E:XK}:oh CX0 X E:=fun _ _ _ _ _ _ _ h=>h.elim
def getK (kvs:List (Key × D)) (k:Key):Option D:=(kvs.find? fun kv=>decide (kv.1 = k)).map (·.2)
section
variable {X:Cx} {Γ:Nat→Option Addr} {E:XK} {e a b c:Expr} {pos:Pos} {es:List Expr} {fa fb:DSt→Out D} {fr:DSt→Out (List D)} {ft:DSt→Out Bool} {K:PySem.W.Frag} {G H:Hp}
theorem nO.get {k:Key}:∀ {kvs:List (Key × V)} {kds:List (Key × D)},nO K Γ G kvs kds→(HR kvs k = none∧getK kds k = none) ∨ ∃ v d,HR kvs k = some v∧getK kds k = some d∧Rep K Γ G v d
 | _,_,.nil=>.inl ⟨rfl,rfl⟩
 | _,_,.cons (k:=k') (v:=v) (d:=d) (fds:=fds) h r=>by
   by_cases z:k' = k
   · exact .inr ⟨v,d,Kp z,by simp [getK,List.find?_cons,z],h⟩
   · rw [Ko (p:=(k',v)) z,show getK ((k',d) :: fds) k = getK fds k by simp [getK,List.find?_cons,z]]
     exact r.get
end
section
variable {X:Cx} {Γ:Nat→Option Addr} {E:XK} {e:Expr} {K:PySem.W.Frag}
end
end DL
namespace DL
open PySem PySem.Spec PyProof.Rows MX L2
section
variable {M:Model} {A:Around} {E:Value→Shared→Prop} {s:Shared}
structure Sta (fs:List Addr) (e:Addr) (oe:Obj) (vs:Array Value) (tb:Option Addr) (h h':Heap):Prop where
 keep:∀ b o,b ∉ fs→b ≠ e→some b ≠ tb→h.get? b = some o→h'.get? b = some o
 slot:∀ b o,b ≠ e→some b ≠ tb→h.get? b = some o→∃ sl,h'.get? b = some { o with slots:=sl }
 new:∃ T oT ts,h.objs.size ≤ T∧T ≠ e∧h'.get? e = some { oe with data:=.fields (vs.setIfInBounds 1 (.ref T)) }∧h'.get? T = some oT∧oT.data = .fields ts∧ts[3]? = some .none
theorem YM {base:Heap} {env:Env} {outer:List Env} {L e:Addr} {oe:Obj} {vs:Array Value} {hd:Value} {nx:Bool} {Q:Unit→Shared→Prop}
   (fr:A.frames = some (env :: outer)) (ff:s.heap.FunFrames base (env :: outer)) (fL:env.frame = some L) (ge:s.heap.get? e = some oe) (de:oe.data = .fields vs) (sz:1 < vs.size)
   (k:∀ h',Sta (frs (env :: outer)) e oe vs none s.heap h'→Q () { s with heap:=h' }) :
   wpAny M A (do let a ← frameOf env; let pl ← entryPlaceOf L nx; let b ← EntryCells.newEntry hd a .none (rawInt L) .none pl; setField (.ref e) 1 b) (fun _ s2=>wpAny M A (setFlight (.ref e) none) Q E s2) E s:=by
 have ne:e ∉ frs (env :: outer):=fun z=>by
   obtain ⟨_,o,q1,q2⟩:=ff.mem z
   rw [ge] at q1
   cases q1
   exact q2 vs de
 refine wpAny_bind (wpAny_frameOf_fun fr ff fL fun h1 so=>wpAny_bind (wpAny_entryPlaceOf fun pl hp=>?_))
 unfold EntryCells.newEntry newFields
 refine wpAny_bind (wpAny_newObj_type ?_ (hp.sizeOk5 _ _ _ _ _))
 have g1:h1.get? e = some oe:=(so.2.1 e ne).trans ge
 generalize hoT:({ cls:=.type "traceback",dict:=none,data:=.fields ([hd,.ref L,.none,rawInt L,.none] ++ (if pl.isEmpty then List.replicate 6 Value.none else pl)).toArray }:Obj) = oT0
 have g2:=Heap.get?_push_of_some (h:=h1) oT0 g1
 refine wpAny_setField g2 de sz ?_
 have nT:h1.objs.size ≠ e:=fun z=>absurd (Heap.lt_size g1) (by rw [z]; exact Nat.lt_irrefl _)
 have d3:=Obj.data_mapFields de (·.setIfInBounds 1 (Value.ref h1.objs.size))
 have g3:=Heap.get?_update_self (Obj.mapFields (·.setIfInBounds 1 (Value.ref h1.objs.size))) g2 (Obj.isFreed_of_fields d3)
 have dT:oT0.data = .fields ([hd,.ref L,.none,rawInt L,.none] ++ (if pl.isEmpty then List.replicate 6 Value.none else pl)).toArray:=by rw [← hoT]
 have fT:oT0.isFreed = false:=Obj.isFreed_of_fields dT
 have t3:=(Heap.get?_update_other (h1.push oT0) (Obj.mapFields (·.setIfInBounds 1 (Value.ref h1.objs.size))) (Ne.symm nT)).trans (Heap.get?_push_size h1 fT)
 unfold setFlight
 refine wpAny_bind (wpAny_field g3 d3 (x:=.ref h1.objs.size) (by simp [sz]) ?_)
 rw [if_pos (show (Value.ref h1.objs.size != Value.none) = true by simp)]
 refine wpAny_setField t3 dT (by simp only [List.size_toArray,List.length_append,List.length_cons,List.length_nil] <;> omega) (k _ ?_)
 have kp:∀ b o,b ≠ e→h1.get? b = some o→(((h1.push oT0).update e (Obj.mapFields (·.setIfInBounds 1 (Value.ref h1.objs.size)))).update h1.objs.size (Obj.mapFields (·.setIfInBounds 3 ((none:Option Addr).elim Value.none fun f=>rawInt f)))).get? b = some o:=fun b o hb q=>by
   have nb:h1.objs.size ≠ b:=fun z=>absurd (Heap.lt_size q) (by rw [← z]; exact Nat.lt_irrefl _)
   rw [Heap.get?_update_other _ _ nb,Heap.get?_update_other _ _ (Ne.symm hb)]
   exact Heap.get?_push_of_some _ q
 refine ⟨fun b o hb he _ q=>kp b o he ((so.2.1 b hb).trans q),fun b o he _ q=>?_,h1.objs.size,_,_,?_,nT,?_,Heap.get?_update_self _ t3 (Obj.isFreed_of_fields (Obj.data_mapFields dT _)),Obj.data_mapFields dT _,?_⟩
 · obtain ⟨sl,q1⟩:=so.2.2 b o q
   exact ⟨sl,kp b _ he q1⟩
 · rw [so.1]; exact Nat.le_refl _
 · rw [Heap.get?_update_other _ _ nT,g3]
   obtain ⟨oc,od,odt,osl⟩:=oe
   cases de
   rfl
 · first | (simp; done) | (rcases hp with rfl | ⟨_,_,_,_,_,_,_,rfl⟩ <;> simp)
def TbOk (h:Heap) (e:Addr) (vs:Array Value):Option Addr→Prop
 | none=>vs[1]? = some .none
 | some T=>vs[1]? = some (.ref T)∧T ≠ e∧∃ oT ts,h.get? T = some oT∧oT.data = .fields ts∧ts[3]? = some .none
theorem afR {base:Heap} {env:Env} {outer:List Env} {L e:Addr} {oe:Obj} {vs:Array Value} {tb:Option Addr} {Q:Unit→Shared→Prop}
   (fr:A.frames = some (env :: outer)) (ff:s.heap.FunFrames base (env :: outer)) (fL:env.frame = some L) (ge:s.heap.get? e = some oe) (de:oe.data = .fields vs) (ht:TbOk s.heap e vs tb)
   (k:∀ h',Sta (frs (env :: outer)) e oe vs tb s.heap h'→Q () { s with heap:=h' }) :
   wpAny M A (noteFrame (.ref e) env) (fun _ s2=>wpAny M A (setFlight (.ref e) none) Q E s2) E s:=by
 unfold noteFrame
 simp only [fL]
 cases tb with
 | none =>
   refine wpAny_bind (wpAny_field ge de ht ?_)
   rw [if_neg (by decide)]
   exact YM fr ff fL ge de (Array.getElem?_eq_some_iff.mp ht).1 k
 | some T =>
   obtain ⟨h1,nT,oT,ts,gT,dT,h3⟩:=ht
   refine wpAny_bind (wpAny_field ge de h1 ?_)
   rw [if_pos (show (Value.ref T != Value.none) = true by simp)]
   refine wpAny_bind (wpAny_field gT dT h3 ?_)
   rw [if_neg (show ¬ ((Value.none == rawInt L) = true) by simp [rawInt])]
   refine wpAny_bind (wpAny_setField gT dT (Array.getElem?_eq_some_iff.mp h3).1 ?_)
   have ot:∀ b,b ≠ T→(s.heap.update T (Obj.mapFields (·.setIfInBounds 3 Value.none))).get? b = s.heap.get? b:=fun b hb=>Heap.get?_update_other _ _ (Ne.symm hb)
   have nr:∀ b o,s.heap.get? b = some o→(∀ ws,o.data ≠ .fields ws)→b ≠ T:=fun b o q hn z=>by
     rw [z,gT] at q
     cases q
     exact hn ts dT
   refine YM (s:={ s with heap:=s.heap.update T (Obj.mapFields (·.setIfInBounds 3 Value.none)) }) fr (ff.of_keeps fun b o q hn=>⟨o,(ot b (nr b o q hn)).trans q,rfl⟩) fL ((ot e (Ne.symm nT)).trans ge) de (Array.getElem?_eq_some_iff.mp h1).1 fun h' S=>k h' ?_
   refine ⟨fun b o hb he ht q=>S.keep b o hb he (by simp) ((ot b (fun z=>ht (by rw [z]))).trans q),fun b o he ht q=>S.slot b o he (by simp) ((ot b (fun z=>ht (by rw [z]))).trans q),?_⟩
   obtain ⟨T2,o2,t2,q1,q2,q3,q4,q5,q6⟩:=S.new
   refine ⟨T2,o2,t2,?_,q2,q3,q4,q5,q6⟩
   rw [← Heap.size_update s.heap T (Obj.mapFields (·.setIfInBounds 3 Value.none))]
   exact q1
theorem akq {base:Heap} {env:Env} {outer:List Env} {L e:Addr} {oe:Obj} {vs:Array Value} {tb:Option Addr} {Q:Unit→Shared→Prop}
   (fr:A.frames = some (env :: outer)) (ff:s.heap.FunFrames base (env :: outer)) (fL:env.frame = some L) (ge:s.heap.get? e = some oe) (de:oe.data = .fields vs) (ht:TbOk s.heap e vs tb)
   (k:∀ h',Sta (frs (env :: outer)) e oe vs tb s.heap h'→Q () { s with heap:=h' }):wpAny M A (leaving env (.ref e)) Q E s:=by
 unfold leaving
 exact wpAny_bind (afR fr ff fL ge de ht k)
end
end DL
namespace DL
open PySem PySem.Spec PyProof.Rows MX L2
theorem Yq {P:Program} {w:World} {H:Hp} {h:Heap} {a:Addr} {u:HO} (ok:HOk P w H h) (q:H a = some u):∃ ob,h.get? a = some ob:=by
 have:=ok a u q
 cases u with
 | lst xs=>obtain ⟨_,_,_,_,e⟩:=this; exact ⟨_,e⟩
 | tup xs=>obtain ⟨_,_,_,ob,e,_⟩:=this; exact ⟨ob,e⟩
 | dK kvs=>obtain ⟨_,_,_,_,ob,_,_,e,_⟩:=this; exact ⟨ob,e⟩
 | dT kvs=>obtain ⟨_,_,_,_,ob,_,_,e,_⟩:=this; exact ⟨ob,e⟩
 | set S n=>obtain ⟨ob,_,_,_,e,_⟩:=this; exact ⟨ob,e⟩
 | ins C dx fs=>obtain ⟨_,_,_,e,_⟩:=this; exact ⟨_,e⟩
 | own y=>obtain ⟨ob,e⟩:=this; exact ⟨ob,e⟩
 | xd fs=>obtain ⟨_,⟨ob,_,_,e,_⟩,_⟩:=this; exact ⟨ob,e⟩
 | rng lo hi=>obtain ⟨_,_,_,e⟩:=this; exact ⟨_,e⟩
 | frz ob u=>obtain ⟨e,_⟩:=this; exact ⟨ob,e⟩
 | tbl ps=>exact ⟨_,(show h.get? a = some _ from this)⟩
 | met f y=>exact ⟨_,(show h.get? a = some _ from this)⟩
 | ext φ=>obtain ⟨_,⟨ob,e⟩,_⟩:=this; exact ⟨ob,e⟩
theorem JV {P:Program} {w:World} {H:Hp} {h:Heap} {a:Addr} (ok:HOk P w H h) (q:h.get? a = none):H a = none:=by
 cases z:H a with
 | none=>rfl
 | some u =>
   obtain ⟨ob,e⟩:=Yq ok z
   rw [q] at e
   cases e
def CX1 (P:Program) (w:World):CXT:=fun outer H s E e s'=>∃ a H' C dd o vs T,e = .ref a∧s'.os = s.os∧AllBare s'.gens∧Un (frs outer) [] H H' s.heap s'.heap∧HOk P w H' s'.heap∧H' a = some (.exc false C dd a) ∧
 s'.heap.get? a = some o∧o.data = .fields vs∧TbOk s'.heap a vs (some T)∧H' T = none∧s.heap.objs.size ≤ T∧E (.ref a) none H'
section
variable {X:Cx} {pins:List (Addr × Obj)} {σ:L2.St} {H:Hp} {s:Shared}
theorem ajz {n:Bool} {a C:Addr} {dd:Option Addr} {o:Obj} {vs:Array Value} {tb:Option Addr} {h':Heap} (I:Inv X pins σ H s) (ha:H a = some (.exc n C dd a)) (g:s.heap.get? a = some o) (d:o.data = .fields vs)
   (ht:∀ T,tb = some T→H T = none) (S:Sta (frs X.stack) a o vs tb s.heap h'):HOk X.prog X.w (upd H a (.exc false C dd a)) h':=by
 obtain ⟨T2,oT,ts,q1,q2,q3,q4,q5,q6⟩:=S.new
 obtain ⟨⟨o',vs',t,e1,e2,e3,e4,e5,e6⟩,_,_⟩:=I.hok a _ ha
 rw [g] at e1
 cases e1
 rw [d] at e4
 cases e4
 intro b u e
 by_cases hb:b = a
 · subst hb
   rw [aW] at e
   cases e
   exact excP.ok ⟨_,_,t,q3,e2,e3,rfl,by rw [Array.getElem?_setIfInBounds_ne (by decide)]; exact e5,fun z=>by cases z⟩
 · rw [aN hb] at e
   have nk:∀ c v,H c = some v→c ≠ a→∀ w',s.heap.get? c = some w'→h'.get? c = some w':=fun c v hc na w' z =>
     S.keep c w' (fun m=>by rw [I.adS c m] at hc; cases hc) na (fun m=>by rw [ht c m.symm] at hc; cases hc) z
   refine (I.hok b u e).stay (fun c v hc z=>?_) (fun c z=>?_) fun c xs z=>?_
   · rcases hc with rfl | hc
     · exact nk c u e hb v z
     · exact nk c _ hc (fun m=>by rw [m,ha] at hc; cases hc) v z
   · rw [aN (fun m=>by rw [m,ha] at z; cases z)]; exact z
   · rw [aN (fun m=>by rw [m,ha] at z; cases z)]; exact z
theorem ajk {A':Around} {E:XK} {Ex:Value→Shared→Prop} {n:Bool} {a C:Addr} {dd:Option Addr} {o:Obj} {vs:Array Value} {tb:Option Addr} (I:Inv X pins σ H s) (fA:A'.frames = some X.stack) (hs:X.stack = X.env :: X.outer) (hf:X.env.frame = some X.env.locals) (hx:X.ex = [])
   (ha:H a = some (.exc n C dd a)) (g:s.heap.get? a = some o) (d:o.data = .fields vs) (tk:TbOk s.heap a vs tb) (ht:∀ T,tb = some T→H T = none∧X.s₀.heap.get? T = none) (k:E (.ref a) none (upd H a (.exc false C dd a))) :
   wpAny (model X.prog X.w) A' (leaving X.env (.ref a)) (fun _ s''=>CX1 X.prog X.w X.outer X.H₀ X.s₀ E (.ref a) s'') Ex s:=by
 have fr:=fA
 have ff:=I.stack
 rw [hs] at fr ff
 refine akq fr ff hf g d tk fun h' S=>?_
 have S':Sta (frs X.stack) a o vs tb s.heap h':=by rw [hs]; exact S
 have hk:=ajz I ha g d (fun T z=>(ht T z).1) S'
 obtain ⟨T2,oT,ts,q1,q2,q3,q4,q5,q6⟩:=S.new
 obtain ⟨⟨o',vs',t,e1,e2,e3,e4,e5,e6⟩,_,_⟩:=I.hok a _ ha
 have nex:∀ b:Addr,b ∉ X.ex:=fun b z=>by rw [hx] at z; cases z
 have neL:∀ b u,X.s₀.heap.get? b = some u→b ≠ X.env.locals:=fun b u e z=>by
   have:=Heap.lt_size e
   rw [z] at this
   exact absurd (Nat.lt_of_lt_of_le this I.ok.above) (Nat.lt_irrefl _)
 have neT:∀ b u,X.s₀.heap.get? b = some u→some b ≠ tb:=fun b u e z=>by
   rw [(ht b z.symm).2] at e
   cases e
 have nfr:∀ b u,X.s₀.heap.get? b = some u→b ∉ frs X.outer→b ∉ frs (X.env :: X.outer):=fun b u e hb z=>by
   unfold frs at z hb
   rw [List.filterMap_cons,hf] at z
   rcases List.mem_cons.mp z with z | z
   · exact neL b u e z
   · exact hb z
 have T2n:H T2 = none:=JV I.hok (Heap.get?_none_of_le q1)
 have s1:1 < vs.size:=by
   cases tb with
   | none=>exact (Array.getElem?_eq_some_iff.mp (show vs[1]? = some .none from tk)).1
   | some T=>exact (Array.getElem?_eq_some_iff.mp tk.1).1
 refine ⟨a,upd H a (.exc false C dd a),C,dd,_,_,T2,rfl,I.os,I.bare,⟨fun b u e n hb _=>?_,fun b u e n hb _=>?_,fun b u e n _=>?_,fun b u e _=>?_,fun b xs e=>?_,fun b u xs e=>?_,fun b ps e=>?_⟩,hk,aW,q3,rfl,⟨by simp [s1],q2,oT,ts,q4,q5,q6⟩,by rw [aN q2]; exact T2n,?_,k⟩
 · have nb:b ≠ a:=fun z=>by have:=I.base.free b u e n (nex b); rw [z,ha] at this; cases this
   exact S.keep b u (nfr b u e hb) nb (neT b u e) (I.base.keep b u e n hb (nex b))
 · have nb:b ≠ a:=fun z=>by have:=I.base.free b u e n (nex b); rw [z,ha] at this; cases this
   obtain ⟨sl,z⟩:=I.base.slot b u e n hb (nex b)
   obtain ⟨sl2,z2⟩:=S.slot b _ nb (neT b u e) z
   exact ⟨sl2,z2⟩
 · have:=I.base.free b u e n (nex b)
   rw [aN (fun z=>by rw [z,ha] at this; cases this)]
   exact this
 · by_cases nb:b = a
   · rw [nb]; exact ⟨_,q3⟩
   · obtain ⟨o2,z⟩:=I.base.there b u e (nex b)
     obtain ⟨sl,z2⟩:=S.slot b _ nb (neT b u e) z
     exact ⟨_,z2⟩
 · have:=I.base.tups b xs e
   rw [aN (fun z=>by rw [z,ha] at this; cases this)]
   exact this
 · have:=I.base.Es b u xs e
   rw [aN (fun z=>by rw [z,ha] at this; cases this)]
   exact this
 · obtain ⟨m,this⟩:=I.base.HJ b ps e
   exact ⟨m,by rw [aN (fun z=>by rw [z,ha] at this; cases this)]; exact this⟩
 · exact Nat.le_trans I.sz q1
end
section
variable {P:Program} {w:World} {K:PySem.W.Frag} {mg:Str→Option Value} {base:Heap} {N:List Str} {qual:Str} {scope:Scope} {f:Addr} {cd:Value} {A:Around} {outer:List Env} {s:Shared} {H:Hp} {E:XK}
theorem T9:oh (CX1 P w) (O1 (CX1 P w) P w K mg base N qual scope f cd A outer s H E) E:=fun pins σ H1 s1 e s' I ⟨a,H',C,dd,o,vs,T,ee,os,bare,un,hok,ha,g,d,tk,hT,sT,k⟩=>by
 subst ee
 have J:=I.call' (ch:=[]) os un hok bare (fun b z=>by cases z)
 exact ajk (A':=A.deeper (envOfC qual scope s.heap.objs.size f cd)) J J.ok.frames rfl rfl rfl ha g d tk (fun T' z=>by
   cases z
   refine ⟨hT,?_⟩
   exact Heap.get?_none_of_le (Nat.le_trans I.sz sT)) (by rw [agE ha]; exact k)
theorem pass10 {X:Cx}:oh (CX1 P w) X E0:=fun _ _ _ _ _ _ _ ⟨_,_,_,_,_,_,_,_,_,_,_,_,_,_,_,_,_,_,k⟩=>k.elim
def Thr (X:Cx) (E:XK):Prop:=∀ (pins:List (Addr × Obj)) (σ:L2.St) (H:Hp) (s:Shared) (a C:Addr) (dd:Option Addr),Inv X pins σ H s→H a = some (.exc true C dd a)→E (.ref a) none (upd H a (.exc false C dd a))→X.xe (.ref a) s
theorem thr1:Thr (O1 (CX1 P w) P w K mg base N qual scope f cd A outer s H E) E:=fun pins σ H1 s1 a C dd I ha k=>by
 obtain ⟨⟨o,vs,t,e1,e2,e3,e4,e5,e6⟩,_,_⟩:=I.hok a _ ha
 have e6:=e6 rfl
 exact ajk (A':=A.deeper (envOfC qual scope s.heap.objs.size f cd)) (tb:=none) I I.ok.frames rfl rfl rfl ha e1 e4 (by rw [e6]; rfl) (fun T z=>by cases z) k
end
end DL
namespace DL
open PySem PySem.Spec PyProof.Rows MX L2
section
variable {M:Model} {A:Around} {E:Value→Shared→Prop} {s:Shared} {env:Env}
variable {nm q:Str} {C N:Addr} {bs bm:List Value} {hdct:Bool} {sn:List Str} {sub:List Value} {ab:Bool} {col:Option Bool} {dd:Option Addr} {k0 k1 k2 k3 k5:Option Value} {newId:String}
theorem aiN {x:Sem Value} {Q:Flow→Shared→Prop} (hb:bm.contains (.type "BaseException") = true) (hh:A.handled = none)
   (h:wpAny M A x (fun v s1=>∃ e t od sl,v = .ref e∧s1.heap.get? C = some (excClassObj nm q C N bs bm hdct sn sub ab col dd k0 k1 k2 k3 k5 newId) ∧
     s1.heap.get? e = some ⟨.ref C,od,.fields #[.ref t,.none,.none,.none,.bool false,.none],sl⟩∧E (.ref e) s1) E s) :
   wpAny M A (raiseStmt env (some x) none) Q E s:=by
 have hc:(Value.ref C :: bm).contains (.type "BaseException") = true:=by rw [List.contains_cons,hb,Bool.or_true]
 unfold raiseStmt
 refine wpAny_bind (wpAny_mono h (fun v s1 h1=>?_) fun _ _ z=>z)
 obtain ⟨e,t,od,sl,rfl,hC,he,hE⟩:=h1
 obtain ⟨hp,g,d,tk,os⟩:=s1
 repeat (first | with_reducible refine wpAny_loadPart_at he ?_ | with_reducible refine wpAny_loadPart_at hC ?_ | (with_reducible refine wpAny_isSubtype_exc hC ?_; rw [hc]) | wp_step)
 exact wpAny_raiseNew_none hh hE
end
def tThrow (C:Addr) (E:XK) (te:TE):TS:=fun _ σ H=>te σ H fun v H1=>∃ a dd,v = .ref a∧H1 a = some (.exc true C dd a)∧E (.ref a) none (upd H1 a (.exc false C dd a))
theorem ps_throw {X:Cx} {E:XK} {x:Expr} {pos:Pos} {te:TE} {C N:Addr} (hM:ExcC X.K C N) (hT:Thr X E) (hc:X.calm = true) (hx:PE X x te):PS X (.Raise (some x) none pos) (tThrow C E te):=by
 intro pins s σ H D I h
 rw [arm_exec_Raise]
 obtain ⟨nm,q,bs,bm,sn,sub,ab,col,d2,k0,k1,k2,k3,k5,lk,tl⟩:=hM.obj
 have hb:bm.contains (.type "BaseException") = true:=(PySem.W.tail_of_in I.kIn tl).hasType (by decide +kernel)
 have e1:evalOpt (some x) X.env = some (eval x X.env):=by first | rfl | (unfold evalOpt; rfl) | simp only [evalOpt]
 have e2:evalOpt none X.env = none:=by first | rfl | (unfold evalOpt; rfl) | simp only [evalOpt]
 rw [e1,e2]
 refine wpAny_bind (wpAny_standAt (aiN (nm:=nm) (q:=q) (C:=C) (N:=N) (bs:=bs) (bm:=bm) (hdct:=true) (sn:=sn) (sub:=sub) (ab:=ab) (col:=col) (dd:=d2) (k0:=k0) (k1:=k1) (k2:=k2) (k3:=k3) (k5:=k5) (newId:="ValueError.__new__") hb (I.ok.hd hc) (wpAny_bind (thn (hx pins s σ H _ I h) fun v s1 ⟨y,H1,I1,r1,a,dd,ey,ha,k⟩=>wpAny_bind (wpAny_standAt (wpAny_pure ?_))))))
 subst ey
 obtain rfl:v = Value.ref a:=r1
 obtain ⟨⟨o,vs,t,e1,e2,e3,e4,e5,e6⟩,_,_⟩:=I1.hok a _ ha
 have e6:=e6 rfl
 subst e6
 obtain ⟨oc,od,odt,osl⟩:=o
 cases e2
 cases e4
 exact ⟨a,t,od,osl,rfl,I1.kIn _ _ lk,e1,hT pins σ H1 s1 a C dd I1 ha k⟩
section
variable {X:Cx} {pins:List (Addr × Obj)} {σ:L2.St} {H:Hp} {s:Shared}
def Far (X:Cx) (pins:List (Addr × Obj)) (T:Addr):Prop:=X.s₀.heap.objs.size ≤ T∧T ≠ X.env.locals∧(∀ x c,X.env.cells.lookup x = some c→c ≠ T)∧∀ p ∈ X.pn ++ pins,p.1 ≠ T
theorem far_of {T:Addr} (I:Inv X pins σ H s) (h:s.heap.objs.size ≤ T):Far X pins T:=by
 refine ⟨Nat.le_trans I.sz h,fun z=>?_,fun x c e z=>?_,fun p hp z=>?_⟩
 · have:=I.lt
   rw [← z] at this
   exact absurd (Nat.lt_of_lt_of_le this h) (Nat.lt_irrefl _)
 · obtain ⟨v,o,ho,_⟩:=I.cell x c e
   have:=Heap.lt_size ho
   rw [z] at this
   exact absurd (Nat.lt_of_lt_of_le this h) (Nat.lt_irrefl _)
 · have:=Heap.lt_size (I.pin p hp).1
   rw [z] at this
   exact absurd (Nat.lt_of_lt_of_le this h) (Nat.lt_irrefl _)
def nones (X:Cx):L2.St:=List.replicate X.N.length none
def xeT (X:Cx) (pins:List (Addr × Obj)) (E:XK):Value→Shared→Prop:=fun e s'=>∃ a H' C dd o vs T,e = .ref a∧Inv X pins (nones X) H' s'∧H' a = some (.exc false C dd a)∧s'.heap.get? a = some o∧o.data = .fields vs∧TbOk s'.heap a vs (some T)∧H' T = none∧Far X pins T∧E (.ref a) none H'
abbrev tryX (X:Cx) (pins:List (Addr × Obj)) (E:XK):Cx:={ X with pn:=X.pn ++ pins,xe:=xeT X pins E }
theorem to_try {E:XK} (I:Inv X pins σ H s):Inv (tryX X pins E) [] σ H s :=
 ⟨⟨I.ok.mod,I.ok.kind,I.ok.glob,I.ok.blt,I.ok.above,I.ok.inj,I.ok.has,I.ok.cab,I.ok.hd,I.ok.frames,I.ok.stk,I.ok.exf,I.ok.bs,I.ok.bsz,I.ok.bD,I.ok.exfs,I.ok.Et,I.ok.frf⟩,I.os,I.bare,I.base,I.loc,I.cell,I.free,I.qY,fun p hp=>I.pin p (by rw [List.append_nil] at hp; exact hp),I.hok,I.len⟩
theorem TY {E:XK} {ps:List (Addr × Obj)} (I:Inv (tryX X pins E) ps σ H s):Inv X pins σ H s :=
 ⟨⟨I.ok.mod,I.ok.kind,I.ok.glob,I.ok.blt,I.ok.above,I.ok.inj,I.ok.has,I.ok.cab,I.ok.hd,I.ok.frames,I.ok.stk,I.ok.exf,I.ok.bs,I.ok.bsz,I.ok.bD,I.ok.exfs,I.ok.Et,I.ok.frf⟩,I.os,I.bare,I.base,I.loc,I.cell,I.free,I.qY,fun p hp=>I.pin p (List.mem_append_left _ hp),I.hok,I.len⟩
theorem sp_try {E:XK} {D:Ends} {f:Flow} {s':Shared} (h:SP (tryX X pins E) [] D f s'):SP X pins D f s':=by
 cases f with
 | next=>obtain ⟨σ',H',I,q⟩:=h; exact ⟨σ',H',TY I,q⟩
 | brk=>obtain ⟨σ',H',I,q⟩:=h; exact ⟨σ',H',TY I,q⟩
 | cont=>obtain ⟨σ',H',I,q⟩:=h; exact ⟨σ',H',TY I,q⟩
 | ret u=>obtain ⟨v,σ',H',I,r,q⟩:=h; exact ⟨v,σ',H',TY I,r,q⟩
theorem Zc {E:XK}:oh (CX1 X.prog X.w) (tryX X pins E) E:=fun ps σ H1 s1 e s' I ⟨a,H',C,dd,o,vs,T,ee,os,bare,un,hok,ha,g,d,tk,hT,sT,k⟩=>by
 have I1:=TY I
 have J:=I1.call' (ch:=[]) os un hok bare (fun b z=>by cases z)
 refine ⟨a,H',C,dd,o,vs,T,ee,J.weak (by rw [J.len]; simp [nones]) fun i v z=>?_,ha,g,d,tk,hT,far_of I1 sT,k⟩
 unfold nones at z
 rw [List.getElem?_replicate] at z
 split at z <;> cases z
theorem sta_inv {n:Bool} {a C T:Addr} {dd:Option Addr} {o:Obj} {vs:Array Value} {h':Heap} (I:Inv X pins σ H s) (ha:H a = some (.exc n C dd a)) (g:s.heap.get? a = some o) (d:o.data = .fields vs) (hT:H T = none) (far:Far X pins T)
   (S:Sta (frs X.stack) a o vs (some T) s.heap h'):Inv X pins σ (upd H a (.exc false C dd a)) { s with heap:=h' }:=by
 have nt:∀ b,b ∉ [T]→some b ≠ some T:=fun b hx z=>hx (by rw [Option.some.inj z]; exact List.mem_singleton.mpr rfl)
 refine I.call' (ch:=[T]) rfl ⟨fun b u e n hb hx=>?_,fun b u e n hb hx=>?_,fun b u e n hx=>?_,fun b u e hx=>?_,fun b xs e=>?_,fun b u xs e=>?_,fun b ps e=>?_⟩ (ajz I ha g d (fun T' z=>by cases z; exact hT) S) I.bare fun b hb=>?_
 · exact S.keep b u hb (fun z=>by rw [z,ha] at n; cases n) (nt b hx) e
 · exact S.slot b u (fun z=>by rw [z,ha] at n; cases n) (nt b hx) e
 · rw [aN (fun z=>by rw [z,ha] at n; cases n)]; exact n
 · by_cases z:b = a
   · obtain ⟨T2,oT,ts,q1,q2,q3,_⟩:=S.new
     rw [z]; exact ⟨_,q3⟩
   · obtain ⟨sl,z2⟩:=S.slot b u z (nt b hx) e
     exact ⟨_,z2⟩
 · rw [aN (fun z=>by rw [z,ha] at e; cases e)]; exact e
 · rw [aN (fun z=>by rw [z,ha] at e; cases e)]; exact e
 · exact ⟨#[],by rw [aN (fun z=>by rw [z,ha] at e; cases e),e]; simp⟩
 · obtain rfl:=List.mem_singleton.mp hb
   exact ⟨.inr far.1,far.2.1,far.2.2.1,far.2.2.2⟩
theorem aj8 {M:Model} {A:Around} {E:Value→Shared→Prop} {a T:Addr} {o:Obj} {vs:Array Value} {Q:Unit→Shared→Prop} (I:Inv X pins σ H s) (g:s.heap.get? a = some o) (d:o.data = .fields vs) (tk:TbOk s.heap a vs (some T)) (hT:H T = none) (far:Far X pins T)
   (k:∀ h',Inv X pins σ H { s with heap:=h' }→Q () { s with heap:=h' }):wpAny M A (setFlight (.ref a) none) Q E s:=by
 obtain ⟨h1,nT,oT,ts,gT,dT,h3⟩:=tk
 unfold setFlight
 refine wpAny_bind (wpAny_field g d h1 ?_)
 rw [if_pos (show (Value.ref T != Value.none) = true by simp)]
 refine wpAny_setField gT dT (Array.getElem?_eq_some_iff.mp h3).1 (k _ ?_)
 exact I.turned (t':=s.toks) (it:=T) (fun b u hb e=>(Heap.get?_update_other _ _ (Ne.symm hb)).trans e) hT far.2.1 (.inr far.1) far.2.2.1 far.2.2.2
theorem goes_ok {M:Model} {A:Around} {E:Value→Shared→Prop} {j:Nat} {n:Str} {pos:Pos} {Q:Unit→Shared→Prop} (I:Inv X pins σ H s) (hN:X.N.Nodup) (hj:X.N[j]? = some n) (hl:X.env.kindOf n = some .local)
   (k:∀ s',Inv X pins (σ.set j none) H s'→Q () s'):wpAny M A (do bindName X.env n .none; unbindBehindTheSuite X.env n pos) Q E s:=by
 obtain ⟨m,hn,hm⟩:=id I.loc
 have hcls:(X.env.scope.kind == .class || (X.env.scope.kind == .module && X.env.locals != X.env.globals)) = false:=by rw [I.ok.kind]; rfl
 refine wpAny_nameGoes_keeps hl hn hcls fun h' v hn' hs=>k _ ?_
 have neL:∀ b o,X.s₀.heap.get? b = some o→b ≠ X.env.locals:=fun b o e=>Nat.ne_of_lt (Nat.lt_of_lt_of_le (Heap.lt_size e) I.ok.above)
 have fL:=I.free
 refine ⟨I.ok,I.os,I.bare,⟨fun b o e n hb hx=>?_,fun b o e n hb hx=>?_,I.base.free,fun b o e hx=>?_,I.base.tups,I.base.Es,I.base.HJ⟩,⟨_,hn',fun i y v' e1 e2 e3=>?_⟩,fun y c e=>?_,I.free,I.qY,fun p hp=>?_,fun b ob e=>?_,by rw [List.length_set]; exact I.len⟩
 · exact (hs.2 b (neL b o e)).trans (I.base.keep b o e n hb hx)
 · obtain ⟨sl,e1⟩:=I.base.slot b o e n hb hx
   exact ⟨sl,(hs.2 b (neL b o e)).trans e1⟩
 · obtain ⟨o',e1⟩:=I.base.there b o e hx
   exact ⟨o',(hs.2 b (neL b o e)).trans e1⟩
 · by_cases ij:j = i
   · subst ij
     rw [List.getElem?_set_self'] at e2
     cases z:σ[j]? with
     | none=>rw [z] at e2; simp at e2
     | some y=>rw [z] at e2; simp at e2
   · rw [List.getElem?_set_ne ij] at e2
     obtain ⟨u',r',q⟩:=hm i y v' e1 e2 e3
     refine ⟨u',r',?_⟩
     rcases q with ⟨kk,e⟩ | ⟨kk,c,e,z⟩
     · refine .inl ⟨kk,?_⟩
       have:y ≠ n:=fun z=>ij (Tq hN hj (z ▸ e1))
       simp [this,e]
     · exact .inr ⟨kk,c,e,z.sameBut hs (I.cne y c e)⟩
 · obtain ⟨w',z⟩:=I.cell y c e
   exact ⟨w',z.sameBut hs (I.cne y c e)⟩
 · obtain ⟨e,n,ne,nf,d⟩:=I.pin p hp
   exact ⟨(hs.2 p.1 ne).trans e,n,ne,nf,d⟩
 · refine (I.hok b ob e).stay (fun c w' hc q=>(hs.2 c ?_).trans q) (fun _ q=>q) fun _ _ q=>q
   rintro rfl
   rcases hc with rfl | hc
   · rw [fL] at e; cases e
   · rw [fL] at hc; cases hc
abbrev markX (X:Cx) (e:Value):Cx:={ X with A:=X.A.mark (some e),calm:=false,xe:=fun _ _=>False }
theorem to_mark {e:Value} (I:Inv X pins σ H s):Inv (markX X e) pins σ H s :=
 ⟨⟨I.ok.mod,I.ok.kind,I.ok.glob,I.ok.blt,I.ok.above,I.ok.inj,I.ok.has,I.ok.cab,(fun z=>by cases z),I.ok.frames,I.ok.stk,I.ok.exf,I.ok.bs,I.ok.bsz,I.ok.bD,I.ok.exfs,I.ok.Et,I.ok.frf⟩,I.os,I.bare,I.base,I.loc,I.cell,I.free,I.qY,I.pin,I.hok,I.len⟩
theorem of_mark {e:Value} (ok:X.Ok) (I:Inv (markX X e) pins σ H s):Inv X pins σ H s :=
 ⟨ok,I.os,I.bare,I.base,I.loc,I.cell,I.free,I.qY,I.pin,I.hok,I.len⟩
def IsX (H:Hp) (a C:Addr):Prop:=(∃ n,H a = some (.exc n C none a)) ∨ ∃ n d fs,H a = some (.exc n C (some d) a)∧H d = some (.xds fs d)
theorem typ_exc {M:Model} {a C:Addr} (I:Inv X pins σ H s) (t:IsX H a C):PySem.W.Looks M s.heap (typeOf (.ref a)) (.ref C):=by
 rcases t with ⟨n,hH⟩ | ⟨n,dx,fs,hH,hD⟩
 · obtain ⟨⟨ob,vs,t0,e1,e2,e3,e4,e5⟩,_,_⟩:=I.hok a _ hH
   have IA:PySem.W.InstAt s.heap a ob C none:=⟨e1,e2,by unfold PySem.W.notCls; rw [e4],by rw [e3]; trivial⟩
   exact IA.type
 · obtain ⟨⟨ob,vs,t0,e1,e2,e3,e4,e5⟩,_,_⟩:=I.hok a _ hH
   obtain ⟨⟨mA,n1,rl,wi⟩,_,_⟩:=I.hok _ _ hD
   obtain ⟨oD,esD,epD,eD,_⟩:=n1
   have IA:PySem.W.InstAt s.heap a ob C (some oD):=⟨e1,e2,by unfold PySem.W.notCls; rw [e4],by rw [e3]; exact eD⟩
   exact IA.type
theorem run_try {E:XK} {D:Ends} {body:List Stmt} {tb:TS} {i j:Nat} {x n cn:Str} {HE:Addr} {p1 p2 p3 p4 p5 pos:Pos} (hs:X.stack = X.env :: X.outer) (hf:X.env.frame = some X.env.locals) (hN:X.N.Nodup) (hi:X.N[i]? = some x) (hx:Loc X.env.scope x) (hj:X.N[j]? = some n) (hij:j ≠ i) (hl:X.env.scope.names.lookup n = some .local)
   (hg:Gl X cn) (hm:X.mg cn = some (.ref HE)) (hb:PSs (tryX X pins E) body tb) (I:Inv X pins σ H s) (h:tb D σ H)
   (hE:∀ a H',E (.ref a) none H'→(∃ C,IsX H' a C∧PySem.W.exmOne X.K (.ref C) (.ref HE) = some true)∧D.nx ((nones X).set i (some (.ref a))) H')
   (hdb:(cn == ("__debug__":Str)) = false) (hd:(n == ("__debug__":Str)) = false) (hcd:(n == ("__classdict__":Str)) = false) (hsw:swapsWith (.Name n p3) (some (.Name x p2)) p4.line X.env = pure false) (hff:X.fn x = true ∨ X.env.scope.names.lookup x = some .local) (hfn:X.fn n = true ∨ X.env.scope.names.lookup n = some .local) :
   wpAny (model X.prog X.w) X.A (exec (.Try body [.ExceptHandler (some (.Name cn p1)) (some n) [.Assign [.Name x p2] (.Name n p3) p4] p5] [] [] pos) X.env) (SP X pins D) X.xe s:=by
 refine wpAny_Try_except (wpAny_mono (hb [] s σ H D (to_try I) h) (fun f s1 h1=>?_) fun e s1 h1=>?_)
 · have:=sp_try h1
   cases f with
   | next=>exact wpAny_execs_nil this
   | brk=>exact this
   | cont=>exact this
   | ret u=>exact this
 · obtain ⟨a,H',C,dd,o,vs,T,ee,I1,ha,g,d,tk,hT,far,k⟩:=h1
   subst ee
   obtain ⟨⟨C',isx,hk⟩,nx⟩:=hE a H' k
   have fr:=I1.ok.frames
   have ff:=I1.stack
   rw [hs] at fr ff
   refine afR fr ff hf g d tk fun h2 S=>?_
   have S':Sta (frs X.stack) a o vs (some T) s1.heap h2:=by rw [hs]; exact S
   have I2:=sta_inv I1 ha g d hT far S'
   rw [agE ha] at I2
   obtain ⟨T2,oT,ts,q1,q2,q3,q4,q5,q6⟩:=S.new
   have far2:Far X pins T2:=far_of I1 q1
   have T2n:H' T2 = none:=JV I1.hok (Heap.get?_none_of_le q1)
   have s1z:1 < vs.size:=(Array.getElem?_eq_some_iff.mp tk.1).1
   have J2:Inv (markX X (.ref a)) pins (nones X) H' { s1 with heap:=h2 }:=to_mark I2
   refine wpAny_handleBy_cons (codeAny_handlers_test (zP J2 hg hm ?_ hdb)) (by intro q; cases q)
   refine (PySem.W.exm_one J2.kIn (typ_exc J2 isx) hk).here ?_
   rw [if_pos rfl]
   refine codeAny_handlers_suite_as (aj8 J2 q3 rfl (T:=T2) ⟨by simp [s1z],q2,oT,ts,q4,q5,q6⟩ T2n far2 fun h3 J3=>?_)
   refine Kh (X:=markX X (.ref a)) (v:=.ref a) J3 hN hj (.inl hl) rfl (fun s4 J4=>?_) hfn
   have e4:((nones X).set j (some (V.ref a)))[j]? = some (some (.ref a)):=by
     rw [List.getElem?_set_self]
     rw [nones,List.length_replicate]
     exact (List.getElem?_eq_some_iff.mp hj).1
   refine wpAny_mono (vp (X:=markX X (.ref a)) (bu hN hi hx (pe_var hj (.inl hl) hd hcd) hsw hff) pins s4 _ H' { nx:=fun σ' H2=>σ' = ((nones X).set j (some (.ref a))).set i (some (.ref a))∧H2 = H',rt:=fun _ _=>False } J4 ⟨.ref a,e4,rfl,rfl⟩) (fun f s5 h5=>?_) fun _ _ z=>False.elim z
   cases f with
   | brk=>obtain ⟨_,_,_,z⟩:=h5; exact False.elim z
   | cont=>obtain ⟨_,_,_,z⟩:=h5; exact False.elim z
   | ret u=>obtain ⟨_,_,_,_,_,z⟩:=h5; exact False.elim z
   | next =>
     obtain ⟨σ5,H5,J5,rfl,rfl⟩:=h5
     refine goes_ok (of_mark I.ok J5) hN hj hl fun s6 I6=>⟨_,H5,I6.weak (by simp) fun ix v z=>?_,nx⟩
     by_cases e:i = ix
     · subst e
       rw [List.getElem?_set_self (by rw [nones,List.length_replicate]; exact (List.getElem?_eq_some_iff.mp hi).1)] at z
       cases z
       rw [List.getElem?_set_ne hij,List.getElem?_set_self (by rw [List.length_set,nones,List.length_replicate]; exact (List.getElem?_eq_some_iff.mp hi).1)]
     · rw [List.getElem?_set_ne e,nones,List.getElem?_replicate] at z
       split at z <;> cases z
end
end DL
namespace DL
open PySem PySem.Spec PyProof.Rows MX L2
section
variable {P:Program} {w:World} {K:PySem.W.Frag} {mg:Str→Option Value} {base:Heap} {Γ:Nat→Option Addr}
theorem zb {x qual:Str} {st:Stmt} {f:Addr} {fd:FuncData} {N ps:List Str} {k:Nat} {g:DSt→Out Fl} (F:L2.Fun K x qual st f fd) (S:aM N ps (ao st))
   (h:∀ (cdv:Value) (A:Around) (outer:List Env) (s:Shared) (H:Hp) (E:XK),iW k (A.deeper (envOfC qual (ao st) s.heap.objs.size f cdv))→DSs (O1 (CX1 P w) P w K mg base N qual (ao st) f cdv A outer s H E) Γ E (aH st) g) :
   bx P w K mg base (CX1 P w) (k + 1) f fd ps (spD K Γ ps.length fun ds=>cQ N.length g ds):=by
 obtain ⟨oc,od,kV,doc,pm,an,cdv,ct,osl,rfl,lk,hcd⟩:=F.ex
 refine fn_of lk hcd S (fun vs H Q E h=>h.1) fun A outer s H vs Q E hr ⟨hl,G,ds,sg,r,q⟩=>?_
 refine ⟨_,h cdv A outer s H E hr,G,H,G,nM N.length ds,SR.Qx sg r,(au q).mono (fun fl q=>?_) fun _ k=>k⟩
 cases fl with
 | nx δ=>exact fun σ G' H' S'=>q _ G' H' S'.st .non
 | rt d=>exact fun v G' H' s' r'=>q v G' H' s' r'
 | bk δ=>exact False.elim q
 | ct δ=>exact False.elim q
 | rl ds=>exact ahU q
 | rll dss=>exact ajl q
theorem fn_stuck {CX:CXT} {k:Nat} {f:Addr} {fd:FuncData} {ps:List Str}:bx P w K mg base CX k f fd ps (spD K Γ ps.length fun _=>.stuck) :=
 ⟨fun vs H Q E h=>h.1,fun A outer s H args us vs Q E _ _ _ _ hs=>by obtain ⟨_,G,ds,_,_,q⟩:=hs; exact False.elim q⟩
structure Aw (P:Program) (w:World) (K:PySem.W.Frag) (mg:Str→Option Value) (base:Heap) (x:Str) (k:Nat) (ps:List Str) (sp:Sp):Prop where
 ex:∃ f fd,bx P w K mg base (CX1 P w) k f fd ps sp∧Binds K fd ps []∧mg x = some (.ref f)∧PySem.W.keepIn K (.ref f) = true
structure Ini1 (P:Program) (w:World) (K:PySem.W.Frag) (mg:Str→Option Value) (base:Heap) (C:Addr) (k:Nat) (ps:List Str) (sp:Sp):Prop where
 ex:∃ f fd,Mk K C f∧bx P w K mg base (CX1 P w) k f fd ps sp∧Binds K fd ps []
end
def refI (F:List D→Out D):List D→Out (List (Str × D)):=fun ds=>(F ds).bind fun _=>.stuck
theorem ake {K:PySem.W.Frag} {Γ:Nat→Option Addr} {c:Nat} {F:List D→Out D} {vs:List V} {H:Hp} {Q:VK} {E:XK} {D':Ends} {N:List Str} (h:spI K Γ c 2 (refI F) vs H Q E):tSeq (Oh (Zf (spD K Γ 2 F) [] E (Aj (DN 1) (Aj (DN 2) Kl)))) ai5 D' (start N vs) H:=by
 obtain ⟨hl,a,dx,C,us,G,ds,rfl,hH,hC,ga,sg,r,w⟩:=h
 cases r with
 | nil=>cases hl
 | @cons v1 us d1 ds r1 r =>
   cases r with
   | nil=>cases hl
   | @cons v2 us d2 ds r2 r =>
     cases r with
     | cons _ _=>cases hl
     | nil =>
       refine ⟨v1,rfl,v2,rfl,rfl,G,[d1,d2],sg,.cons r1 (.cons r2 .nil),(au w).mono (fun d k=>False.elim k) fun x k a' G' H' st r=>k a' G' H' st.gg (fun b o e _=>st.hh _ _ e) st.gh st.sep r⟩
section
variable {X:Cx} {Γ:Nat→Option Addr} {E:XK} {e a b c o:Expr} {pos apos:Pos} {es:List Expr} {fa fb fo:DSt→Out D} {fr:DSt→Out (List D)} {CX:CXT}
theorem de_never:DE X Γ E e (fun _=>.stuck):=fun _ _ _ _ _ _ ⟨_,_,_,_,_,w⟩=>False.elim w
theorem Eb {sts:List Stmt}:DSs X Γ E sts (fun _=>.stuck):=fun _ _ _ _ _ _ ⟨_,_,_,_,_,w⟩=>False.elim w
def aeK:D→D→Option D
 | .int i,.int j=>some (.int (Builtin.bitAnd i j))
 | _,_=>none
theorem de_band (ha:DE X Γ E a fa) (hb:DE X Γ E b fb):DE X Γ E (.BinOp a .BitAnd b pos) (o2 aeK fa fb):=d2 (fun G H x y dx dy d Q s rx ry e k=>by
 unfold aeK at e
 split at e
 · cases e; cases rx; cases ry; exact ⟨_,_,rfl,rfl,k _ G H (.refl s) (.int _)⟩
 · cases e) (agb op_and ha hb)
def sRaise (c:Nat) (fr:DSt→Out (List D)):DSt→Out Fl:=fun δ=>(fr δ).bind fun ds=>if ds.length ≤ 1000 then .ex (.exc c []) else .stuck
theorem ds_raise {c:Nat} {C N:Addr} {x:Str} {p cpos:Pos} (hC:Γ c = some C) (hM:ExcC X.K C N) (hi:PySem.W.nsIn X.K N "__init__" = some none) (hT:Thr X E) (hc:X.calm = true) (hg:Gl X x) (hm:X.mg x = some (.ref C)) (ha:DA X Γ E (e :: es) fr)
   (hdb:(x == ("__debug__":Str)) = false:=by decide) (he:starEach (e :: es) X.env = (false,eval e X.env) :: starEach es X.env:=by rfl) (hpl:(backTo cpos (starEach es X.env)).any (·.1) = false:=by rfl) :
   DS X Γ E (.Raise (some (.Call (.Name x p) (e :: es) [] cpos)) none pos) (sRaise c fr) :=
 PS.imp (ps_throw hM hT hc (pe_makeP hM hi hg hm ha hdb he hpl)) fun D' σ H ⟨G0,H0,G,δ,S,w⟩=>by
   refine ⟨G0,H0,G,δ,S,(au w).mono (fun ds w vs G1 H1 s1 r1=>?_) fun _ k=>k.step S.st⟩
   split at w
   · rename_i hl
     refine ⟨by rw [r1.length]; exact hl,fun a ha=>⟨a,none,rfl,aW,?_⟩⟩
     have e:upd (upd H1 a (.exc true C none a)) a (.exc false C none a) = upd H1 a (.exc false C none a):=by
       funext b
       by_cases z:b = a
       · rw [z,aW,aW]
       · rw [aN z,aN z,aN z]
     rw [e]
     exact w a _ _ (S.st.trans (s1.trans (Step.new s1.gh ha))) (.e0 (n:=false) aW hC)
   · exact False.elim w
def CatOk (K:PySem.W.Frag) (Γ:Nat→Option Addr) (HE:Addr) (cat:Nat→Bool):Prop:=∀ c C,cat c = true→Γ c = some C→PySem.W.exmOne K (.ref C) (.ref HE) = some true
def sTry (cat:Nat→Bool) (i:Nat) (g:DSt→Out Fl):DSt→Out Fl:=fun δ=>match g δ with
 | .ok fl=>.ok fl
 | .ex (.exc c fs)=>if cat c = true then .ok (.nx ((List.replicate δ.length none).set i (some (.sh (.exc c fs))))) else .stuck
 | _=>.stuck
theorem ds_try {cat:Nat→Bool} {body:List Stmt} {g:DSt→Out Fl} {i j:Nat} {x n cn:Str} {HE:Addr} {p1 p2 p3 p4 p5:Pos} (hcat:CatOk X.K Γ HE cat) (hs:X.stack = X.env :: X.outer) (hf:X.env.frame = some X.env.locals) (hN:X.N.Nodup) (hi:X.N[i]? = some x) (hx:Loc X.env.scope x) (hj:X.N[j]? = some n) (hij:j ≠ i) (hl:X.env.scope.names.lookup n = some .local)
   (hg:Gl X cn) (hm:X.mg cn = some (.ref HE)) (hb:∀ (pins:List (Addr × Obj)) (E':XK),DSs (tryX X pins E') Γ E' body g)
   (hdb:(cn == ("__debug__":Str)) = false:=by decide) (hd:(n == ("__debug__":Str)) = false:=by decide) (hcd:(n == ("__classdict__":Str)) = false:=by decide) (hsw:swapsWith (.Name n p3) (some (.Name x p2)) p4.line X.env = pure false:=by rfl) (hff:X.fn x = true ∨ X.env.scope.names.lookup x = some .local:=by first | exact .inl rfl | exact .inr rfl) (hfn:X.fn n = true ∨ X.env.scope.names.lookup n = some .local:=by first | exact .inl rfl | exact .inr rfl) :
   DS X Γ E (.Try body [.ExceptHandler (some (.Name cn p1)) (some n) [.Assign [.Name x p2] (.Name n p3) p4] p5] [] [] pos) (sTry cat i g):=by
 intro pins s σ H D' I ⟨G0,H0,G,δ,S,w⟩
 refine run_try (E:=fun v _ H'=>∃ a x G',v = .ref a∧g δ = .ex x∧Step G0 H0 G' H'∧Rep X.K Γ G' (.ref a) x) hs hf hN hi hx hj hij hl hg hm (hb pins _) I ⟨G0,H0,G,δ,S,?_⟩ (fun a H' ⟨a',x,G',ea,eg,st,r⟩=>?_) hdb hd hcd hsw hff hfn
 · unfold sTry at w
   cases q:g δ with
   | ok fl=>rw [q] at w; exact w
   | ex x=>exact fun a G' H' st r=>⟨a,x,G',rfl,rfl,st,r⟩
   | stuck=>rw [q] at w; exact w
 · cases ea
   unfold sTry at w
   rw [eg] at w
   have go:∀ c fs,x = .exc c fs→cat c = true∧D'.nx ((nones X).set i (some (.ref a))) H':=fun c fs ex=>by
     subst ex
     by_cases hc:cat c = true
     · refine ⟨hc,?_⟩
       simp only [hc,if_true] at w
       refine w _ G' H' ⟨st,by rw [List.length_set,List.length_set,List.length_replicate,nones,List.length_replicate,S.len,I.len],fun _=>none,fun k s' z=>?_⟩
       by_cases e:i = k
       · subst e
         have lt:i < X.N.length:=(List.getElem?_eq_some_iff.mp hi).1
         rw [List.getElem?_set_self (by rw [List.length_replicate,S.len,I.len]; exact lt)] at z
         cases z
         exact ⟨.ref a,by rw [List.getElem?_set_self (by rw [nones,List.length_replicate]; exact lt)],r⟩
       · rw [List.getElem?_set_ne e,List.getElem?_replicate] at z
         split at z <;> cases z
     · simp only [hc] at w
       exact False.elim w
   cases r with
   | e0 h gC =>
     obtain ⟨hc,nx⟩:=go _ _ rfl
     exact ⟨⟨_,.inl ⟨_,st.gh _ _ h⟩,hcat _ _ hc gC⟩,nx⟩
   | e1 h h' gC rf =>
     obtain ⟨hc,nx⟩:=go _ _ rfl
     exact ⟨⟨_,.inr ⟨_,_,_,st.gh _ _ h,st.gh _ _ h'⟩,hcat _ _ hc gC⟩,nx⟩
   | _=>exact False.elim w
end
def Zr (K:PySem.W.Frag) (Γ:Nat→Option Addr) (cv:Value):List (Nat × Bool)→Prop
 | []=>True
 | (c,b) :: r=>(∃ C',Γ c = some C'∧ExcGet K C'∧PySem.W.kitOne K (.ref C') cv = some b)∧Zr K Γ cv r
theorem Zr.get {K:PySem.W.Frag} {Γ:Nat→Option Addr} {cv:Value}:∀ {tab:List (Nat × Bool)} {c:Nat} {b:Bool},Zr K Γ cv tab→tab.lookup c = some b→∃ C',Γ c = some C'∧ExcGet K C'∧PySem.W.kitOne K (.ref C') cv = some b
 | [],_,_,_,e=>by cases e
 | (c',b') :: r,c,b,h,e=>by
   by_cases q:c = c'
   · subst q
     simp only [List.lookup_cons,beq_self_eq_true] at e
     cases e
     exact h.1
   · have q':(c == c') = false:=beq_eq_false_iff_ne.mpr q
     simp only [List.lookup_cons,q'] at e
     exact h.2.get e
def isiX (tab:List (Nat × Bool)):D→Option Bool
 | .exc c _=>tab.lookup c
 | d=>isiE [] d
theorem isiX_ok {K:PySem.W.Frag} {Γ:Nat→Option Addr} {C:Addr} {tab:List (Nat × Bool)} (ty:PySem.W.typeIn K (.ref C) = some (.type "type")) (cd:∃ cd,PySem.W.clsIn K C = some cd) (h:Zr K Γ (.ref C) tab):Ew K Γ (.ref C) (isiX tab):=by
 intro H v d b r e
 have old:=isiE_ok (K:=K) (Γ:=Γ) (tab:=[]) ty cd trivial H v d b r
 cases r with
 | e0 h1 g =>
   obtain ⟨C',g',i,k⟩:=h.get e
   rw [g] at g'
   cases g'
   exact ⟨_,.e0 h1 i,k⟩
 | e1 h1 h2 g rf =>
   obtain ⟨C',g',i,k⟩:=h.get e
   rw [g] at g'
   cases g'
   exact ⟨_,.e1 h1 h2 i,k⟩
 | _=>exact old e
theorem exm_mk {K:PySem.W.Frag} {C HE:Addr} {cd:ClassData} (h1:PySem.W.clsIn K HE = some cd) (h2:PySem.W.typeIn K (.ref HE) = some (.type "type")) (h3:PySem.W.mroIn K C (.ref HE) = some true) (h4:PySem.W.mroIn K HE (.type "BaseException") = some true):PySem.W.exmOne K (.ref C) (.ref HE) = some true:=by
 unfold PySem.W.exmOne
 have e:PySem.W.subIn K (.ref HE) (.type "BaseException") = some true:=h4
 rw [e,if_pos (by rfl)]
 unfold PySem.W.kitCls
 dsimp only
 rw [h1,h2,if_pos (by simp)]
 exact h3
end DL
namespace DL
open PySem PySem.Spec PyProof.Rows MX L2
section
variable {K:PySem.W.Frag} {Γ:Nat→Option Addr} {G0 H0 G H G' H':Hp} {O O':Addr→Option Nat} {σ:L2.St} {δ:DSt}
theorem bH.length {i:Nat}:∀ {vs:List V} {es:List Mx} {bs:List Addr},bH K Γ H0 G H O i vs es bs→vs.length = es.length
 | _,_,_,.nil=>rfl
 | _,_,_,.own _ _ _ _ _ _ t=>by rw [List.length_cons,List.length_cons,t.length]
 | _,_,_,.fix _ t=>by rw [List.length_cons,List.length_cons,t.length]
theorem bH.at {i:Nat}:∀ {vs:List V} {es:List Mx} {bs:List Addr} {j:Nat} {ds:List D},bH K Γ H0 G H O i vs es bs→es[j]? = some (.own ds)→∃ b ws,vs[j]? = some (.ref b)∧b ∈ bs∧H b = some (.lst ws)∧G b = none∧H0 b = none∧O b = some i∧aF K Γ G ws ds
 | _,_,_,_,_,.nil,e=>by simp at e
 | _,_,_,0,_,.own h g h0 o r n t,e=>by simp at e; subst e; exact ⟨_,_,rfl,List.mem_cons_self,h,g,h0,o,r⟩
 | _,_,_,0,_,.fix r t,e=>by simp at e
 | _,_,_,j + 1,_,.own h g h0 o r n t,e=>by
   obtain ⟨b,ws,z1,z2,z⟩:=bH.at (j:=j) t (by simpa using e)
   exact ⟨b,ws,by simpa using z1,List.mem_cons_of_mem _ z2,z⟩
 | _,_,_,j + 1,_,.fix r t,e=>by
   obtain ⟨b,ws,z1,z2,z⟩:=bH.at (j:=j) t (by simpa using e)
   exact ⟨b,ws,by simpa using z1,z2,z⟩
theorem bH.updI {i:Nat} {a:Addr} {o:HO}:∀ {vs:List V} {es:List Mx} {bs:List Addr},a ∉ bs→bH K Γ H0 G H O i vs es bs→bH K Γ H0 G (upd H a o) O i vs es bs
 | _,_,_,_,.nil=>.nil
 | _,_,_,m,.own h g h0 oo r n t=>.own ((aN fun z=>m (by rw [z]; exact List.mem_cons_self)).trans h) g h0 oo r n (bH.updI (fun z=>m (List.mem_cons_of_mem _ z)) t)
 | _,_,_,m,.fix r t=>.fix r (bH.updI m t)
theorem bH.put {i:Nat} {b:Addr} {ws:List V} {ds ds':List D} (r:aF K Γ G ws ds):∀ {vs:List V} {es:List Mx} {bs:List Addr} {j:Nat},bH K Γ H0 G H O i vs es bs→es[j]? = some (.own ds')→vs[j]? = some (.ref b)→bH K Γ H0 G (upd H b (.lst ws)) O i vs (es.set j (.own ds)) bs
 | _,_,_,_,.nil,e,_=>by simp at e
 | _,_,_,0,.own h g h0 o r' n t,e,e2=>by
   simp at e2
   subst e2
   exact .own aW g h0 o r n (bH.updI n t)
 | _,_,_,0,.fix _ t,e,e2=>by simp at e
 | _,_,_,j + 1,.own (b:=b') (vs:=vs') h g h0 o r' n t,e,e2=>by
   have e':vs'[j]? = some (V.ref b):=by simpa using e2
   obtain ⟨b2,_,z1,z2,_⟩:=t.at (j:=j) (by simpa using e)
   rw [e'] at z1
   cases z1
   exact .own ((aN fun (z:b' = b)=>n (by rw [z]; exact z2)).trans h) g h0 o r' n (bH.put (j:=j) r t (by simpa using e) e')
 | _,_,_,j + 1,.fix r' t,e,e2=>.fix r' (bH.put (j:=j) r t (by simpa using e) (by simpa using e2))
end
section
variable {X:Cx} {Γ:Nat→Option Addr} {E:XK} {st:Stmt} {g:DSt→Out Fl} {e a b c o:Expr} {pos apos:Pos} {es:List Expr} {fa fb fo:DSt→Out D} {fr:DSt→Out (List D)} {CX:CXT}
end
end DL
namespace DL
open PySem PySem.Spec PyProof.Rows MX L2
section
variable {X:Cx} {Γ:Nat→Option Addr} {E:XK} {st:Stmt} {e a b c o:Expr} {pos apos:Pos} {es:List Expr} {fa fb fo:DSt→Out D} {fr:DSt→Out (List D)}
end
section
variable {K:PySem.W.Frag}
theorem ajs {N:Addr} {c:Value} {d:Option Addr} {es:Array DictEntry} {n:Nat} {sl:Array (Option Value)} (h:K.lookup N = some ⟨c,d,.dict es n,sl⟩) (e:(es.toList.all fun e=>match e.key with | .str _ _=>true | _=>false) = true):PySem.W.nsOkIn K N = true:=by
 unfold PySem.W.nsOkIn
 rw [h]
 dsimp only
 rw [← Array.all_toList]
 exact e
theorem tail_mk {HE:Addr} {c:Value} {d:Option Addr} {cd:ClassData} {sl:Array (Option Value)} (h:K.lookup HE = some ⟨c,d,.cls cd,sl⟩) (ok:PySem.W.nsOkIn K cd.ns = true) (ni:PySem.W.nsIn K cd.ns "__init__" = some none):PySem.W.tailIn K bmV (.ref HE :: bmV) = true:=by
 have b:PySem.W.tailIn K bmV bmV = true:=by
   unfold PySem.W.tailIn
   rw [beq_self_eq_true]
   rfl
 unfold PySem.W.tailIn
 dsimp only
 rw [h]
 dsimp only
 rw [ok,ni,b]
 simp
theorem exc_mk {HE C N:Addr} {nm q:Str} {bs:List Value} {sn:List Str} {sub:List Value} {ab:Bool} {col:Option Bool} {dd:Option Addr} {k0 k1 k2 k3 k5:Option Value}
   (o:K.lookup C = some (excClassObj nm q C N bs (.ref HE :: bmV) true sn sub ab col dd k0 k1 k2 k3 k5 "ValueError.__new__")) (tl:PySem.W.tailIn K bmV (.ref HE :: bmV) = true) (ok:PySem.W.nsOkIn K N = true)
   (ga:PySem.W.findIn K (.ref C) "__getattribute__" = some (some (.builtin "BaseException.__getattribute__"))) (gh:PySem.W.findIn K (.ref C) "__getattr__" = some none) (sa:PySem.W.findIn K (.ref C) "__setattr__" = some (some (.builtin "object.__setattr__")))
   (su:PySem.W.mroIn K C (.type "BaseException") = some true) (to:PySem.W.mroIn K C (.type "object") = some true) (cl:PySem.W.findIn K (.ref C) "__class__" = some (some (.builtin "object.__class__")))
   (get:PySem.W.specialIn K (.builtin "object.__class__") "__get__" = some (some (.builtin "getset_descriptor.__get__"))) (tk:PySem.W.takesIn K (.builtin "object.__class__") = some true) (kp:PySem.W.keepIn K (.ref C) = true):ExcC K C N∧∃ cd,PySem.W.clsIn K C = some cd:=by
 have cc:PySem.W.clsIn K C = some { name:=nm,bases:=bs,mro:=.ref C :: .ref HE :: bmV,ns:=N,qualname:=q,hasDict:=true,slotNames:=sn,subclasses:=sub,abstract:=ab,collection:=col,hasDel:=false }:=by
   unfold PySem.W.clsIn
   rw [o]
 exact ⟨⟨⟨ga,gh,sa,su,to,cl,get,tk,⟨_,[.ref C,.ref HE],cc,rfl,rfl,rfl⟩⟩,⟨nm,q,bs,_,sn,sub,ab,col,dd,k0,k1,k2,k3,k5,o,tl⟩,ok,kp⟩,_,cc⟩
end
structure XIni (P:Program) (w:World) (K:PySem.W.Frag) (mg:Str→Option Value) (base:Heap) (N:Addr) (k:Nat) (ps:List Str) (sp:Sp):Prop where
 ex:∃ f fd,PySem.W.nsIn K N "__init__" = some (some (.ref f))∧PySem.W.isFn K (.ref f) = true∧bx P w K mg base CX0 k f fd ps sp∧Binds K fd ps []
end DL
namespace DL
open PySem PySem.Spec PyProof.Rows MX L2
structure DEx (X:Cx) (Γ:Nat→Option Addr) (E:XK) (e:Expr) (f:DSt→Out D):Prop where
 h:DE X Γ E e f
structure DAx (X:Cx) (Γ:Nat→Option Addr) (E:XK) (es:List Expr) (f:DSt→Out (List D)):Prop where
 h:DA X Γ E es f
structure DSx (X:Cx) (Γ:Nat→Option Addr) (E:XK) (st:Stmt) (g:DSt→Out Fl):Prop where
 h:DS X Γ E st g
structure DSsx (X:Cx) (Γ:Nat→Option Addr) (E:XK) (st:List Stmt) (g:DSt→Out Fl):Prop where
 h:DSs X Γ E st g
section
variable {X:Cx} {Γ:Nat→Option Addr} {E:XK} {e a b:Expr} {es:List Expr} {fa fb:DSt→Out D} {fr:DSt→Out (List D)} {pos p:Pos} {st:Stmt} {rest:List Stmt} {g g':DSt→Out Fl}
theorem dn:DAx X Γ E [] aG:=⟨aD⟩
end
section
variable {P:Program} {w:World} {K:PySem.W.Frag} {mg:Str→Option Value} {base:Heap} {Γ:Nat→Option Addr}
end
end DL
namespace K5
open PySem L2 MX DL
def top (i:Nat):Stmt:=PySem.Challenge.pw_mustmay_k31_faults_at_rooms.main.body.getD i (.Pass ⟨0,0,0,0⟩)
structure Ad where
 Door:Addr
 Must:Addr
 May:Addr
 Shut:Addr
 Torn:Addr
 Draft:Addr
 Plan:Addr
 Against:Addr
 Unlike:Addr
 ajq:Addr
 HallError:Addr
def Ga (t:Ad):Nat→Option Addr:=fun c=>[t.Door,t.Must,t.May,t.Shut,t.Torn,t.Draft,t.Plan,t.Against,t.Unlike][c]?
abbrev qW:Nat:=1
abbrev Er:Nat:=2
abbrev p6:Nat:=3
abbrev p7:Nat:=4
abbrev jU:Nat:=5
abbrev bz:Nat:=6
abbrev dh:Nat:=7
abbrev dj:Nat:=8
def zq:D→Option Bool:=isiX [(dj,true)]
def qj:D→Option Bool:=Ak "bool" []
def u9:D→Option Bool:=Ak "int" []
def jf:D→Option Bool:=Ak "list" []
def iR:D→Option Bool:=Ak "str" []
def gm:D→Option Bool:=Ak "tuple" []
def du:Nat→Bool:=fun c=>c == dj
structure Txt (K:PySem.W.Frag) (mg:Str→Option Value) (t:Ad):Prop where
 g_Door:mg "Door" = some (.ref t.Door)
 i_Door:nQ K t.Door
 g_Must:mg "Must" = some (.ref t.Must)
 G7:nQ K t.Must
 g_May:mg "May" = some (.ref t.May)
 Sy:nQ K t.May
 g_Shut:mg "Shut" = some (.ref t.Shut)
 G9:nQ K t.Shut
 g_Torn:mg "Torn" = some (.ref t.Torn)
 Hb:nQ K t.Torn
 g_Draft:mg "Draft" = some (.ref t.Draft)
 zp:nQ K t.Draft
 ahX:mg "Plan" = some (.ref t.Plan)
 G8:nQ K t.Plan
 El:mg "Against" = some (.ref t.Against)
 Y6:nQ K t.Against
 afx:mg "Unlike" = some (.ref t.Unlike)
 aft:mg "HallError" = some (.ref t.HallError)
 ca_HallError:HS K t.HallError "__init__" (.builtin "ValueError.__init__")
 Kq:ExcC K t.Unlike t.ajq
 xu:PySem.W.nsIn K t.ajq "__init__" = some none
 du:CatOk K (Ga t) t.HallError du
 dJ:d7 K t.Draft "actions"
 dR:d7 K t.Draft "rooms"
 sU:d7 K t.May "to"
 oX:d7 K t.Must "to"
 eQ:d7 K t.Plan "actions"
 fV:d7 K t.Plan "rooms"
 oY:d7 K t.Shut "to"
 oZ:d7 K t.Torn "to"
 b_all:mg "all" = none
 b_bool:mg "bool" = none
 Bm:mg "enumerate" = none
 b_int:mg "int" = none
 cj:mg "isinstance" = none
 iQ:mg "len" = none
 Rg:mg "list" = none
 mC:mg "range" = none
 b_set:mg "set" = none
 b_str:mg "str" = none
 IW:mg "tuple" = none
 zq:Ew K (Ga t) (.ref t.Unlike) zq
 qj:Ew K (Ga t) (.ty "bool") qj
 u9:Ew K (Ga t) (.ty "int") u9
 jf:Ew K (Ga t) (.ty "list") jf
 iR:Ew K (Ga t) (.ty "str") iR
 gm:Ew K (Ga t) (.ty "tuple") gm
 wO:∃ u,mg "LETTERS" = some u∧RelV (.str "abcdefghijklmnopqrstuvwxyz") u
 jb:∃ u,mg "MOST_ACTIONS" = some u∧RelV (.int 8) u
 mD:∃ u,mg "MOST_ROOMS" = some u∧RelV (.int 2000) u
 mF:∃ u,mg "MOST_SIGNS" = some u∧RelV (.int 8) u
 Ja:∃ a,mg "WORDS" = some (.ref a)∧∃ (o:Obj) (its:Array Value) (n:Nat),K.lookup a = some o∧o.cls = .type "tuple"∧o.data = .seq its n∧its.size ≤ sizeLine∧Vals [V.str "extra",V.str "lacks"] its.toList
section
variable {P:Program} {w:World} {K:PySem.W.Frag} {mg:Str→Option Value} {base:Heap} {t:Ad}
abbrev lC:Stmt:=inClass (top 2) 0
abbrev lH:Stmt:=inClass (top 5) 0
abbrev lK:Stmt:=inClass (top 6) 0
def Az:List D→Out (List (Str × D)):=fun ds=>match ds with
 | [d]=>.ok [("to",d)]
 | _=>.stuck
def Yt:List D→Out (List (Str × D)):=Az
def Ba:List D→Out (List (Str × D)):=fun ds=>match ds with
 | []=>.ok [("to",.non)]
 | _=>.stuck
def Gi:List D→Out (List (Str × D)):=Ba
def adQ (K:PySem.W.Frag):Sp:=fun vs H Q _=>∃ a C dx v,vs = [.ref a,v]∧H a = some (.ins C dx [])∧Cls K C∧d7 K C "to"∧Q .non (upd H a (.ins C dx [("to",v)]))
theorem adn:aM ["self","to"] ["self","to"] (ao lC):=⟨rfl,rfl,rfl,by decide +kernel,rfl,by decide +kernel,by decide +kernel⟩
theorem acw {f:Addr} {fd:FuncData} (F:L2.Fun K "__init__" "Door.__init__" lC f fd):bx P w K mg base CX0 1 f fd ["self","to"] (adQ K):=by
 refine F.ok adn (fun vs H Q E h=>?_) (fun cdv A outer s H vs Q E hr h=>?_)
 · obtain ⟨a,C,dx,v,rfl,_⟩:=h
   rfl
 · obtain ⟨a,C,dx,v,rfl,hH,cl,na,q⟩:=h
   refine ⟨_,vp (aiL (pv 0) (pv 1) rfl),?_⟩
   exact ⟨_,rfl,_,rfl,a,C,dx,_,rfl,hH,cl,na,(by decide),q⟩
theorem adR {K:PySem.W.Frag} {Γ:Nat→Option Addr} {G H:Hp} {a C dx:Addr} {v:V} {d:D} {f:Str} {Q:VK} (ga:G a = none) (sg:bL G H) (r:Rep K Γ G v d)
   (w:∀ fs G' H',bL G G'→(∀ b o,H b = some o→b ≠ a→H' b = some o)→bL G' H'→(∀ b,H b ≠ none→G b = none→G' b = none)→H' a = some (.ins C dx fs)→my K Γ G' fs [(f,d)]→Q .non H'):Q .non (upd H a (.ins C dx [(f,v)])) :=
 w [(f,v)] G _ (bL.refl _) (fun b o e hb=>by rw [aN hb]; exact e) (fun b o e=>by rw [aN (bc e ga)]; exact sg _ _ e) (fun _ _ g=>g) aW (.cons r .nil)
theorem ok_to {c:Nat} {f C0:Addr} {fd:FuncData} (F:bx P w K mg base CX0 1 f fd ["self","to"] (adQ K)) (hc:Ga t c = some C0) (cl:Cls K C0) (na:d7 K C0 "to"):bx P w K mg base CX0 1 f fd ["self","to"] (spI K (Ga t) c 1 Az):=F.imp fun vs H Q E h=>by
 obtain ⟨hl,a,dx,C,us,G,ds,rfl,hH,hC,ga,sg,r,w⟩:=h
 rw [hc] at hC
 cases hC
 cases r with
 | nil=>cases hl
 | cons r1 r2 =>
   cases r2 with
   | cons _ _=>cases hl
   | nil=>exact ⟨a,C0,dx,_,rfl,hH,cl,na,adR ga sg r1 w⟩
theorem adu:aM ["self"] ["self"] (ao lH):=⟨rfl,rfl,rfl,by decide +kernel,rfl,by decide +kernel,by decide +kernel⟩
theorem adw:aM ["self"] ["self"] (ao lK):=⟨rfl,rfl,rfl,by decide +kernel,rfl,by decide +kernel,by decide +kernel⟩
theorem acB {f fD:Addr} {fd fdD:FuncData} (F:L2.Fun K "__init__" "Shut.__init__" lH f fd) (T:Txt K mg t) (G0:bx P w K mg base CX0 1 fD fdD ["self","to"] (adQ K)) (ca:HS K t.Door "__init__" (.ref fD)) (hk:PySem.W.keepIn K (.ref fD) = true) (hb:Binds K fdD ["self","to"] []):bx P w K mg base CX0 2 f fd ["self"] (spI K (Ga t) p6 0 Ba):=by
 refine F.ok adu (fun vs H Q E h=>h.1) (fun cdv A outer s H vs Q E hr h=>?_)
 obtain ⟨hl,a,dx,C,us,G,ds,rfl,hH,hC,ga,sg,r,w⟩:=h
 cases hC
 cases r with
 | cons _ _=>cases hl
 | nil =>
   refine ⟨_,vp (gR (aga G0 hr rfl T.g_Door ca hk hb .nil pass0 (bW (pv 0) (bW aiA dU)))),?_⟩
   exact ⟨_,rfl,a,_,dx,_,rfl,hH,T.G9.cls,T.oY,adR ga sg .non w⟩
theorem acD {f fD:Addr} {fd fdD:FuncData} (F:L2.Fun K "__init__" "Torn.__init__" lK f fd) (T:Txt K mg t) (G0:bx P w K mg base CX0 1 fD fdD ["self","to"] (adQ K)) (ca:HS K t.Door "__init__" (.ref fD)) (hk:PySem.W.keepIn K (.ref fD) = true) (hb:Binds K fdD ["self","to"] []):bx P w K mg base CX0 2 f fd ["self"] (spI K (Ga t) p7 0 Gi):=by
 refine F.ok adw (fun vs H Q E h=>h.1) (fun cdv A outer s H vs Q E hr h=>?_)
 obtain ⟨hl,a,dx,C,us,G,ds,rfl,hH,hC,ga,sg,r,w⟩:=h
 cases hC
 cases r with
 | cons _ _=>cases hl
 | nil =>
   refine ⟨_,vp (gR (aga G0 hr rfl T.g_Door ca hk hb .nil pass0 (bW (pv 0) (bW aiA dU)))),?_⟩
   exact ⟨_,rfl,a,_,dx,_,rfl,hH,T.Hb.cls,T.oZ,adR ga sg .non w⟩
abbrev lF:Stmt:=inClass (top 3) 0
theorem adq:aM ["self"] ["self"] (ao lF):=⟨rfl,rfl,rfl,by decide +kernel,rfl,by decide +kernel,by decide +kernel⟩
def afu:DSt→Out Fl:=(bY (kc (.str "must")))
def MF:List D→Out D:=fun ds=>(cQ 1 afu ds).bD
theorem acz {f:Addr} {fd:FuncData} (F:L2.Fun K "word" "Must.word" lF f fd) (T:Txt K mg t) :bx P w K mg base CX0 1 f fd ["self"] (spD K (Ga t) 1 MF):=by
 refine DL.Fun.okD F adq fun cdv A outer s H E hr=>?_
 exact (aB (aY cg))
abbrev pA:Stmt:=inClass (top 4) 0
theorem agn:aM ["self"] ["self"] (ao pA):=⟨rfl,rfl,rfl,by decide +kernel,rfl,by decide +kernel,by decide +kernel⟩
def ahV:DSt→Out Fl:=(bY (kc (.str "may")))
def QB:List D→Out D:=fun ds=>(cQ 1 ahV ds).bD
theorem af1 {f:Addr} {fd:FuncData} (F:L2.Fun K "word" "May.word" pA f fd) (T:Txt K mg t) :bx P w K mg base CX0 1 f fd ["self"] (spD K (Ga t) 1 QB):=by
 refine DL.Fun.okD F agn fun cdv A outer s H E hr=>?_
 exact (aB (aY cg))
abbrev lJ:Stmt:=inClass (top 5) 1
theorem adv:aM ["self"] ["self"] (ao lJ):=⟨rfl,rfl,rfl,by decide +kernel,rfl,by decide +kernel,by decide +kernel⟩
def afv:DSt→Out Fl:=(bY (kc (.str "shut")))
def MJ:List D→Out D:=fun ds=>(cQ 1 afv ds).bD
theorem acC {f:Addr} {fd:FuncData} (F:L2.Fun K "word" "Shut.word" lJ f fd) (T:Txt K mg t) :bx P w K mg base CX0 1 f fd ["self"] (spD K (Ga t) 1 MJ):=by
 refine DL.Fun.okD F adv fun cdv A outer s H E hr=>?_
 exact (aB (aY cg))
abbrev lL:Stmt:=inClass (top 6) 1
theorem adx:aM ["self"] ["self"] (ao lL):=⟨rfl,rfl,rfl,by decide +kernel,rfl,by decide +kernel,by decide +kernel⟩
def afw:DSt→Out Fl:=(bY (kc (.str "torn")))
def MK:List D→Out D:=fun ds=>(cQ 1 afw ds).bD
theorem acE {f:Addr} {fd:FuncData} (F:L2.Fun K "word" "Torn.word" lL f fd) (T:Txt K mg t) :bx P w K mg base CX0 1 f fd ["self"] (spD K (Ga t) 1 MK):=by
 refine DL.Fun.okD F adx fun cdv A outer s H E hr=>?_
 exact (aB (aY cg))
def U5:List (Nat × (List D→Out D)):=[(qW,MF),(Er,QB),(p6,MJ),(p7,MK)]
abbrev jF:Stmt:=inClass (top 3) 1
theorem XX:aM ["self"] ["self"] (ao jF):=⟨rfl,rfl,rfl,by decide +kernel,rfl,by decide +kernel,by decide +kernel⟩
def JH:DSt→Out Fl:=(bY (kc (.bl true)))
def xN:List D→Out D:=fun ds=>(cQ 1 JH ds).bD
theorem Xg {f:Addr} {fd:FuncData} (F:L2.Fun K "needs" "Must.needs" jF f fd) (T:Txt K mg t) :bx P w K mg base CX0 1 f fd ["self"] (spD K (Ga t) 1 xN):=by
 refine DL.Fun.okD F XX fun cdv A outer s H E hr=>?_
 exact (aB (aY qX))
abbrev lE:Stmt:=inClass (top 4) 1
theorem adp:aM ["self"] ["self"] (ao lE):=⟨rfl,rfl,rfl,by decide +kernel,rfl,by decide +kernel,by decide +kernel⟩
def N5:DSt→Out Fl:=(bY (kc (.bl false)))
def Ax:List D→Out D:=fun ds=>(cQ 1 N5 ds).bD
theorem acy {f:Addr} {fd:FuncData} (F:L2.Fun K "needs" "May.needs" lE f fd) (T:Txt K mg t) :bx P w K mg base CX0 1 f fd ["self"] (spD K (Ga t) 1 Ax):=by
 refine DL.Fun.okD F adp fun cdv A outer s H E hr=>?_
 exact (aB (aY qX))
abbrev jG:Stmt:=inClass (top 5) 2
theorem X3:aM ["self"] ["self"] (ao jG):=⟨rfl,rfl,rfl,by decide +kernel,rfl,by decide +kernel,by decide +kernel⟩
def JK:DSt→Out Fl:=(bY (kc (.bl false)))
def xO:List D→Out D:=fun ds=>(cQ 1 JK ds).bD
theorem Xh {f:Addr} {fd:FuncData} (F:L2.Fun K "needs" "Shut.needs" jG f fd) (T:Txt K mg t) :bx P w K mg base CX0 1 f fd ["self"] (spD K (Ga t) 1 xO):=by
 refine DL.Fun.okD F X3 fun cdv A outer s H E hr=>?_
 exact (aB (aY qX))
abbrev jH:Stmt:=inClass (top 6) 2
theorem X4:aM ["self"] ["self"] (ao jH):=⟨rfl,rfl,rfl,by decide +kernel,rfl,by decide +kernel,by decide +kernel⟩
def JL:DSt→Out Fl:=(bY (kc (.bl true)))
def xP:List D→Out D:=fun ds=>(cQ 1 JL ds).bD
theorem Xi {f:Addr} {fd:FuncData} (F:L2.Fun K "needs" "Torn.needs" jH f fd) (T:Txt K mg t) :bx P w K mg base CX0 1 f fd ["self"] (spD K (Ga t) 1 xP):=by
 refine DL.Fun.okD F X4 fun cdv A outer s H E hr=>?_
 exact (aB (aY qX))
def pK:List (Nat × (List D→Out D)):=[(qW,xN),(Er,Ax),(p6,xO),(p7,xP)]
abbrev iz:Stmt:=inClass (top 3) 2
theorem Uu:aM ["self"] ["self"] (ao iz):=⟨rfl,rfl,rfl,by decide +kernel,rfl,by decide +kernel,by decide +kernel⟩
def FQ:DSt→Out Fl:=(bY (kc (.bl true)))
def vA:List D→Out D:=fun ds=>(cQ 1 FQ ds).bD
theorem T3 {f:Addr} {fd:FuncData} (F:L2.Fun K "allows" "Must.allows" iz f fd) (T:Txt K mg t) :bx P w K mg base CX0 1 f fd ["self"] (spD K (Ga t) 1 vA):=by
 refine DL.Fun.okD F Uu fun cdv A outer s H E hr=>?_
 exact (aB (aY qX))
abbrev jE:Stmt:=inClass (top 4) 2
theorem XS:aM ["self"] ["self"] (ao jE):=⟨rfl,rfl,rfl,by decide +kernel,rfl,by decide +kernel,by decide +kernel⟩
def JG:DSt→Out Fl:=(bY (kc (.bl true)))
def xM:List D→Out D:=fun ds=>(cQ 1 JG ds).bD
theorem Xf {f:Addr} {fd:FuncData} (F:L2.Fun K "allows" "May.allows" jE f fd) (T:Txt K mg t) :bx P w K mg base CX0 1 f fd ["self"] (spD K (Ga t) 1 xM):=by
 refine DL.Fun.okD F XS fun cdv A outer s H E hr=>?_
 exact (aB (aY qX))
abbrev iB:Stmt:=inClass (top 5) 3
theorem Uv:aM ["self"] ["self"] (ao iB):=⟨rfl,rfl,rfl,by decide +kernel,rfl,by decide +kernel,by decide +kernel⟩
def FT:DSt→Out Fl:=(bY (kc (.bl false)))
def vB:List D→Out D:=fun ds=>(cQ 1 FT ds).bD
theorem T4 {f:Addr} {fd:FuncData} (F:L2.Fun K "allows" "Shut.allows" iB f fd) (T:Txt K mg t) :bx P w K mg base CX0 1 f fd ["self"] (spD K (Ga t) 1 vB):=by
 refine DL.Fun.okD F Uv fun cdv A outer s H E hr=>?_
 exact (aB (aY qX))
abbrev iC:Stmt:=inClass (top 6) 3
theorem Uw:aM ["self"] ["self"] (ao iC):=⟨rfl,rfl,rfl,by decide +kernel,rfl,by decide +kernel,by decide +kernel⟩
def FW:DSt→Out Fl:=(bY (kc (.bl false)))
def vC:List D→Out D:=fun ds=>(cQ 1 FW ds).bD
theorem T5 {f:Addr} {fd:FuncData} (F:L2.Fun K "allows" "Torn.allows" iC f fd) (T:Txt K mg t) :bx P w K mg base CX0 1 f fd ["self"] (spD K (Ga t) 1 vC):=by
 refine DL.Fun.okD F Uw fun cdv A outer s H E hr=>?_
 exact (aB (aY qX))
def kY:List (Nat × (List D→Out D)):=[(qW,vA),(Er,xM),(p6,vB),(p7,vC)]
abbrev pB:Stmt:=inClass (top 3) 3
theorem ago:aM ["self","to"] ["self","to"] (ao pB):=⟨rfl,rfl,rfl,by decide +kernel,rfl,by decide +kernel,by decide +kernel⟩
def ahW:DSt→Out Fl:=(bY (oMk qW 1 Az (ak (gv 1) aG)))
def agF:List D→Out D:=fun ds=>(cQ 2 ahW ds).bD
theorem af2 {f:Addr} {fd:FuncData} (F:L2.Fun K "led" "Must.led" pB f fd) (T:Txt K mg t) (KD:Ini P w K mg base t.Must 1 ["self","to"] (spI K (Ga t) qW 1 Az)):bx P w K mg base CX0 3 f fd ["self","to"] (spD K (Ga t) 2 agF):=by
 obtain ⟨f_Must,fd_Must,agT,agL,ahi⟩:=KD.ex
 refine DL.Fun.okD F ago fun cdv A outer s H E hr=>?_
 exact (aB (aY (Cj (c:=qW) rfl (nF agT agL (hr.mono (by decide)) rfl T.g_Must ahi .nil bB (aj (aq 1 (pv 1)) aD)))))
abbrev sV:Stmt:=inClass (top 4) 3
theorem aiR:aM ["self","to"] ["self","to"] (ao sV):=⟨rfl,rfl,rfl,by decide +kernel,rfl,by decide +kernel,by decide +kernel⟩
def aka:DSt→Out Fl:=(bY (oMk Er 1 Yt (ak (gv 1) aG)))
def ajC:List D→Out D:=fun ds=>(cQ 2 aka ds).bD
theorem ais {f:Addr} {fd:FuncData} (F:L2.Fun K "led" "May.led" sV f fd) (T:Txt K mg t) (Yv:Ini P w K mg base t.May 1 ["self","to"] (spI K (Ga t) Er 1 Yt)):bx P w K mg base CX0 3 f fd ["self","to"] (spD K (Ga t) 2 ajC):=by
 obtain ⟨f_May,fd_May,M_May,G_May,b_May⟩:=Yv.ex
 refine DL.Fun.okD F aiR fun cdv A outer s H E hr=>?_
 exact (aB (aY (Cj (c:=Er) rfl (nF M_May G_May (hr.mono (by decide)) rfl T.g_May b_May .nil bB (aj (aq 1 (pv 1)) aD)))))
abbrev pC:Stmt:=inClass (top 5) 4
theorem agp:aM ["self","to"] ["self","to"] (ao pC):=⟨rfl,rfl,rfl,by decide +kernel,rfl,by decide +kernel,by decide +kernel⟩
def ahY:DSt→Out Fl:=(bY (oMk p6 0 Ba aG))
def agG:List D→Out D:=fun ds=>(cQ 2 ahY ds).bD
theorem af3 {f:Addr} {fd:FuncData} (F:L2.Fun K "led" "Shut.led" pC f fd) (T:Txt K mg t) (KH:Ini P w K mg base t.Shut 2 ["self"] (spI K (Ga t) p6 0 Ba)):bx P w K mg base CX0 4 f fd ["self","to"] (spD K (Ga t) 2 agG):=by
 obtain ⟨f_Shut,fd_Shut,agV,agN,ahk⟩:=KH.ex
 refine DL.Fun.okD F agp fun cdv A outer s H E hr=>?_
 exact (aB (aY (aa6 (c:=p6) rfl (J7 agV agN (hr.mono (by decide)) rfl T.g_Shut ahk .nil bB))))
abbrev pD:Stmt:=inClass (top 6) 4
theorem agq:aM ["self","to"] ["self","to"] (ao pD):=⟨rfl,rfl,rfl,by decide +kernel,rfl,by decide +kernel,by decide +kernel⟩
def ahZ:DSt→Out Fl:=(bY (oMk p7 0 Gi aG))
def agH:List D→Out D:=fun ds=>(cQ 2 ahZ ds).bD
theorem af4 {f:Addr} {fd:FuncData} (F:L2.Fun K "led" "Torn.led" pD f fd) (T:Txt K mg t) (KJ:Ini P w K mg base t.Torn 2 ["self"] (spI K (Ga t) p7 0 Gi)):bx P w K mg base CX0 4 f fd ["self","to"] (spD K (Ga t) 2 agH):=by
 obtain ⟨f_Torn,fd_Torn,agW,agO,ahl⟩:=KJ.ex
 refine DL.Fun.okD F agq fun cdv A outer s H E hr=>?_
 exact (aB (aY (aa6 (c:=p7) rfl (J7 agW agO (hr.mono (by decide)) rfl T.g_Torn ahl .nil bB))))
abbrev lD:Stmt:=inClass (top 2) 1
theorem ado:aM ["self"] ["self"] (ao lD):=⟨rfl,rfl,rfl,by decide +kernel,rfl,by decide +kernel,by decide +kernel⟩
def afs:DSt→Out Fl:=(bY (cZ (ak (oM "word" 1 U5 (gv 0) aG) (ak (JW "to" [qW,Er,p6,p7] (gv 0)) aG))))
def ad2:List D→Out D:=fun ds=>(cQ 1 afs ds).bD
theorem acx {f:Addr} {fd:FuncData} (F:L2.Fun K "told" "Door.told" lD f fd) (T:Txt K mg t) (agX:wK P w K mg base (Ga t) "word" (spD K (Ga t) 1) 1 U5):bx P w K mg base CX0 2 f fd ["self"] (spD K (Ga t) 1 ad2):=by
 refine DL.Fun.okD F ado fun cdv A outer s H E hr=>?_
 exact (aB (aY (fQ (aj (ud (ph (agX.ok (hr.mono (by decide))) bB (aq 0 (pv 0)))) (aj (aaN (cs:=[qW,Er,p6,p7]) ⟨⟨t.Must,rfl,T.G7.cls,T.oX⟩,⟨t.May,rfl,T.Sy.cls,T.sU⟩,⟨t.Shut,rfl,T.G9.cls,T.oY⟩,⟨t.Torn,rfl,T.Hb.cls,T.oZ⟩,trivial⟩ (aq 0 (pv 0))) aD)))))
abbrev sZ:Stmt:=top 7
theorem aiT:aM ["needs","allows","to"] ["needs","allows","to"] (ao sZ):=⟨rfl,rfl,rfl,by decide +kernel,rfl,by decide +kernel,by decide +kernel⟩
def Y0:DSt→Out Fl:=(bh (sIf (uK (tst (gb 0)) (tst (gb 1))) (bY (oMk qW 1 Az (ak (gv 2) aG))) fW)
 (bh (sIf (tst (gb 1)) (bY (oMk Er 1 Yt (ak (gv 2) aG))) fW)
 (bh (sIf (tst (gb 0)) (bY (oMk p7 0 Gi aG)) fW)
 (bY (oMk p6 0 Ba aG)))))
def sy:List D→Out D:=fun ds=>(cQ 3 Y0 ds).bD
theorem aiw {f:Addr} {fd:FuncData} (F:L2.Fun K "door_of" "door_of" sZ f fd) (T:Txt K mg t) (KD:Ini P w K mg base t.Must 1 ["self","to"] (spI K (Ga t) qW 1 Az)) (Yv:Ini P w K mg base t.May 1 ["self","to"] (spI K (Ga t) Er 1 Yt)) (KJ:Ini P w K mg base t.Torn 2 ["self"] (spI K (Ga t) p7 0 Gi)) (KH:Ini P w K mg base t.Shut 2 ["self"] (spI K (Ga t) p6 0 Ba)):bx P w K mg base CX0 4 f fd ["needs","allows","to"] (spD K (Ga t) 3 sy):=by
 obtain ⟨f_Must,fd_Must,agT,agL,ahi⟩:=KD.ex
 obtain ⟨f_May,fd_May,M_May,G_May,b_May⟩:=Yv.ex
 obtain ⟨f_Torn,fd_Torn,agW,agO,ahl⟩:=KJ.ex
 obtain ⟨f_Shut,fd_Shut,agV,agN,ahk⟩:=KH.ex
 refine DL.Fun.okD F aiT fun cdv A outer s H E hr=>?_
 exact (az (cU (GD (GF (iK (aO 0 (pv 0))) (yK (iK (aO 1 (pv 1)))))) (aB (aY (Cj (c:=qW) rfl (nF agT agL (hr.mono (by decide)) rfl T.g_Must ahi .nil bB (aj (aq 2 (pv 2)) aD))))) bR)
     (az (cU (iK (aO 1 (pv 1))) (aB (aY (Cj (c:=Er) rfl (nF M_May G_May (hr.mono (by decide)) rfl T.g_May b_May .nil bB (aj (aq 2 (pv 2)) aD))))) bR)
     (az (cU (iK (aO 0 (pv 0))) (aB (aY (aa6 (c:=p7) rfl (J7 agW agO (hr.mono (by decide)) rfl T.g_Torn ahl .nil bB)))) bR)
     (aB (aY (aa6 (c:=p6) rfl (J7 agV agN (hr.mono (by decide)) rfl T.g_Shut ahk .nil bB)))))))
abbrev tB:Stmt:=top 19
theorem aiU:aM ["thing"] ["thing"] (ao tB):=⟨rfl,rfl,rfl,by decide +kernel,rfl,by decide +kernel,by decide +kernel⟩
def Dm:DSt→Out D:=(bV (o2b inD (gb 0) (kc (.str "abcdefghijklmnopqrstuvwxyz"))))
def Y4:DSt→Out Fl:=(bh (sIf (orT (qw (tst (Al iR (gb 0)))) (qw (o3 leD leD (kc (.int 1)) (o1 fK (gb 0)) (kc (.int 8))))) (bY (kc (.bl false))) fW)
 (bY (o1 allD (Eu (nR [none] (strO (gv 0)) (gN 0) (fun _=>.ok true) Dm)))))
def nY:List D→Out D:=fun ds=>(cQ 1 Y4 ds).bD
theorem aix {f:Addr} {fd:FuncData} (F:L2.Fun K "is_name" "is_name" tB f fd) (T:Txt K mg t) :bx P w K mg base CX0 1 f fd ["thing"] (spD K (Ga t) 1 nY):=by
 obtain ⟨u_MOST_SIGNS,abg,adf⟩:=T.mF
 obtain ⟨u_LETTERS,akb,akG⟩:=T.wO
 refine DL.Fun.okD F aiU fun cdv A outer s H E hr=>?_
 exact (az (cU (GD (Jx (jV (iK (aQ (oJ (cv:=.ty "str") (.inr rfl) T.iR rfl T.cj (aO 0 (pv 0)) (kJ rfl T.b_str (by decide +kernel) rfl))))) (Ck (jV (aba (aQ aC) (aQ (dO rfl T.iQ (aO 0 (pv 0)))) (aQ (de_c (Eo (v:=.int 8) rfl abg adf) (fun _=>.int _)))))))) (aB (aY qX)) bR)
     (aB (aY (de_all rfl rfl T.b_all (aQ (RP (yG (fun a b c d=>uG (N':=["sign"]) (cap:=[none]) ⟨rfl,rfl,by decide +kernel,by decide +kernel,by rfl,trivial,⟨trivial,trivial⟩⟩ rfl a b c d) (ahP (aq 0 (pv 0))) (sh_n 0) (fun _ _ _ _ _=>(bF (bG (i:=0) (show (["sign"]:List Str).Nodup by decide +kernel) rfl (by first | exact .inl rfl | exact .inr rfl)))) (fun _ _ _ _ _=>Ec) (fun _ _ _ _ _=>(de_in (aO 0 (pv 0)) (aQ (de_c (Eo (v:=.str "abcdefghijklmnopqrstuvwxyz") rfl akb akG) (fun _=>.str _))))))))))))
abbrev dM:Stmt:=top 20
theorem Kd:aM ["thing"] ["thing"] (ao dM):=⟨rfl,rfl,rfl,by decide +kernel,rfl,by decide +kernel,by decide +kernel⟩
def kO:DSt→Out D:=(oF 1 nY (ak (gv 0) aG))
def wY:DSt→Out Fl:=(bh (sIf (orT (qw (tst (Al jf (gb 0)))) (qw (o3 leD leD (kc (.int 1)) (o1 fK (gb 0)) (kc (.int 8))))) (bY (kc (.bl false))) fW)
 (bY (K1 (o1 allD (Eu (nR [none] (uI (gv 0)) (gN 0) (fun _=>.ok true) kO))) (bV (o2b eqD (o1 Th (gv 0)) (o1 fK (gb 0)))))))
def fZ:List D→Out D:=fun ds=>(cQ 1 wY ds).bD
theorem JZ {f:Addr} {fd:FuncData} (F:L2.Fun K "is_action_list" "is_action_list" dM f fd) (T:Txt K mg t) (Kv:Def P w K mg base "is_name" 1 ["thing"] (spD K (Ga t) 1 nY)):bx P w K mg base CX0 2 f fd ["thing"] (spD K (Ga t) 1 fZ):=by
 obtain ⟨u_MOST_ACTIONS,Su,Uo⟩:=T.jb
 obtain ⟨Ei,fd_is_name,ajG,K7,xj,sO⟩:=Kv.ex
 refine DL.Fun.okD F Kd fun cdv A outer s H E hr=>?_
 exact (az (cU (GD (Jx (jV (iK (aQ (oJ (cv:=.ty "list") (.inr rfl) T.jf rfl T.cj (aO 0 (pv 0)) (kJ rfl T.Rg (by decide +kernel) rfl))))) (Ck (jV (aba (aQ aC) (aQ (dO rfl T.iQ (aO 0 (pv 0)))) (aQ (de_c (Eo (v:=.int 8) rfl Su Uo) (fun _=>.int _)))))))) (aB (aY qX)) bR)
     (aB (aY (Ce (de_all rfl rfl T.b_all (aQ (RP (yG (fun a b c d=>uG (N':=["name"]) (cap:=[none]) ⟨rfl,rfl,by decide +kernel,by decide +kernel,by rfl,trivial,⟨trivial,trivial⟩⟩ rfl a b c d) (Ci (aq 0 (pv 0))) (sh_n 0) (fun _ _ _ _ _=>(bF (bG (i:=0) (show (["name"]:List Str).Nodup by decide +kernel) rfl (by first | exact .inl rfl | exact .inr rfl)))) (fun _ _ _ _ _=>Ec) (fun _ _ _ _ _=>(bO (aP ajG (hr.mono (by decide)) rfl xj sO K7 .nil bB (aj (aq 0 (pv 0)) aD)))))))) (Gy (YL hr.units (aQ (aj0 rfl rfl T.iQ rfl T.b_set (aq 0 (pv 0)))) (aQ (dO rfl T.iQ (aO 0 (pv 0))))))))))
abbrev gF:Stmt:=top 21
theorem P0:aM ["actions"] ["actions"] (ao gF):=⟨rfl,rfl,rfl,by decide +kernel,rfl,by decide +kernel,by decide +kernel⟩
def Cv:DSt→Out Fl:=(sIf (qw (tst (oF 1 fZ (ak (gv 0) aG)))) (fun _=>.stuck) fW)
def gf:List D→Out D:=fun ds=>(cQ 1 Cv ds).bD
theorem PJ {f:Addr} {fd:FuncData} (F:L2.Fun K "need_actions" "need_actions" gF f fd) (T:Txt K mg t) (nW:Def P w K mg base "is_action_list" 2 ["thing"] (spD K (Ga t) 1 fZ)):bx P w K mg base CX0 3 f fd ["actions"] (spD K (Ga t) 1 gf):=by
 obtain ⟨jt,aji,KC,oA,gw,dI⟩:=nW.ex
 refine DL.Fun.okD F P0 fun cdv A outer s H E hr=>?_
 exact (aB (cU (jV (iK (aQ (bO (aP KC (hr.mono (by decide)) rfl gw dI oA .nil bB (aj (aq 0 (pv 0)) aD)))))) (aB Jv) bR))
abbrev tD:Stmt:=top 22
theorem aiV:aM ["thing","many"] ["thing","many"] (ao tD):=⟨rfl,rfl,rfl,by decide +kernel,rfl,by decide +kernel,by decide +kernel⟩
def Y5:DSt→Out Fl:=(bY (K1 (Al u9 (gb 0)) (K1 (Tr (Al qj (gb 0))) (bV (o3 leD ltD (kc (.int 0)) (gb 0) (gb 1))))))
def sE:List D→Out D:=fun ds=>(cQ 2 Y5 ds).bD
theorem aiy {f:Addr} {fd:FuncData} (F:L2.Fun K "is_room" "is_room" tD f fd) (T:Txt K mg t) :bx P w K mg base CX0 1 f fd ["thing","many"] (spD K (Ga t) 2 sE):=by
 refine DL.Fun.okD F aiV fun cdv A outer s H E hr=>?_
 exact (aB (aY (Ce (oJ (cv:=.ty "int") (.inr rfl) T.u9 rfl T.cj (aO 0 (pv 0)) (kJ rfl T.b_int (by decide +kernel) rfl)) (Ce (aaO (oJ (cv:=.ty "bool") (.inr rfl) T.qj rfl T.cj (aO 0 (pv 0)) (kJ rfl T.b_bool (by decide +kernel) rfl))) (Gy (de_lelt (aQ aC) (aO 0 (pv 0)) (aO 1 (pv 1))))))))
abbrev gD:Stmt:=top 23
theorem Ai:aM ["thing","many","torn_too","word"] ["thing","many","torn_too"] (ao gD):=⟨rfl,rfl,rfl,by decide +kernel,rfl,by decide +kernel,by decide +kernel⟩
def Cu:DSt→Out Fl:=(bh (sIf (orT (qw (tst (Al gm (gb 0)))) (o2b neD (o1 fK (gb 0)) (kc (.int 2)))) (bY (kc (.bl false))) fW)
 (bh (bZ 3 (o2 ixD (gvo 0) (kc (.int 0))))
 (bh (sIf (qw (tst (Al iR (gb 3)))) (bY (kc (.bl false))) fW)
 (bh (sIf (orT (o2b eqD (gb 3) (kc (.str "must"))) (o2b eqD (gb 3) (kc (.str "may")))) (bY (oF 2 sE (ak (o2 ixD (gvo 0) (kc (.int 1))) (ak (gv 1) aG)))) fW)
 (bY (K1 (bV (o2b Pb (o2 ixD (gvo 0) (kc (.int 1))) (kc .non))) (orV (bV (o2b eqD (gb 3) (kc (.str "shut")))) (K1 (bV (o2b eqD (gb 3) (kc (.str "torn")))) (gv 2)))))))))
def f9:List D→Out D:=fun ds=>(cQ 4 Cu ds).bD
theorem PB {f:Addr} {fd:FuncData} (F:L2.Fun K "is_told_door" "is_told_door" gD f fd) (T:Txt K mg t) (Kw:Def P w K mg base "is_room" 1 ["thing","many"] (spD K (Ga t) 2 sE)):bx P w K mg base CX0 2 f fd ["thing","many","torn_too"] (spD K (Ga t) 3 f9):=by
 obtain ⟨Ej,fd_is_room,ajH,K8,xm,sS⟩:=Kw.ex
 refine DL.Fun.okD F Ai fun cdv A outer s H E hr=>?_
 exact (az (cU (GD (Jx (jV (iK (aQ (oJ (cv:=.ty "tuple") (.inr rfl) T.gm rfl T.cj (aO 0 (pv 0)) (kJ rfl T.IW (by decide +kernel) rfl))))) (Ck (R5 hr.units (aQ (dO rfl T.iQ (aO 0 (pv 0)))) (aQ aC))))) (aB (aY qX)) bR)
     (az (bJ 3 (fun h=>bu (i:=3) Ai.nd rfl (by first | exact .inl rfl | exact .inr rfl) h) (d8 0 (pv 0) aC))
     (az (cU (jV (iK (aQ (oJ (cv:=.ty "str") (.inr rfl) T.iR rfl T.cj (aO 3 (pv 3)) (kJ rfl T.b_str (by decide +kernel) rfl))))) (aB (aY qX)) bR)
     (az (cU (GD (Jx (jZ hr.units (aO 3 (pv 3)) (aQ cg)) (Ck (jZ hr.units (aO 3 (pv 3)) (aQ cg))))) (aB (aY (bO (aP ajH (hr.mono (by decide)) rfl xm sS K8 .nil bB (aj (d8 0 (pv 0) aC) (aj (aq 1 (pv 1)) aD)))))) bR)
     (aB (aY (Ce (de_is (aQ (d8 0 (pv 0) aC)) (aQ yF)) (Gy (de_or (YL hr.units (aO 3 (pv 3)) (aQ cg)) (Gy (Ce (YL hr.units (aO 3 (pv 3)) (aQ cg)) (Gy (aq 2 (pv 2))))))))))))))
abbrev jQ:Stmt:=top 24
theorem kh:aM ["rows","many_actions","torn_too","room","row","action","thing"] ["rows","many_actions","torn_too"] (ao jQ):=⟨rfl,rfl,rfl,by decide +kernel,rfl,by decide +kernel,by decide +kernel⟩
def uz:DSt→Out Fl:=(sIf (qw (tst (oF 3 f9 (ak (gv 6) (ak (o1 fK (gb 0)) (ak (gv 2) aG)))))) (fun _=>.stuck) fW)
def uy:DSt→Out Fl:=(bh (sIf (orT (qw (tst (Al jf (gb 4)))) (o2b neD (o1 fK (gb 4)) (gb 1))) (fun _=>.stuck) fW)
 (ig (enum (gv 4)) (gT 2 (cz (gN 5) (cz (gN 6) mX))) uz))
def JP:DSt→Out Fl:=(bh (sIf (orT (qw (tst (Al jf (gb 0)))) (qw (o3 leD leD (kc (.int 1)) (o1 fK (gb 0)) (kc (.int 2000))))) (fun _=>.stuck) fW)
 (ig (enum (gv 0)) (gT 2 (cz (gN 3) (cz (gN 4) mX))) uy))
def eZ:List D→Out D:=fun ds=>(cQ 7 JP ds).bD
theorem Xq {f:Addr} {fd:FuncData} (F:L2.Fun K "need_rooms" "need_rooms" jQ f fd) (T:Txt K mg t) (tG:Def P w K mg base "is_told_door" 2 ["thing","many","torn_too"] (spD K (Ga t) 3 f9)):bx P w K mg base CX0 3 f fd ["rows","many_actions","torn_too"] (spD K (Ga t) 3 eZ):=by
 obtain ⟨u_MOST_ROOMS,abf,ade⟩:=T.mD
 obtain ⟨mU,akU,QF,tR,jj,gq⟩:=tG.ex
 refine DL.Fun.okD F kh fun cdv A outer s H E hr=>?_
 exact (az (cU (GD (Jx (jV (iK (aQ (oJ (cv:=.ty "list") (.inr rfl) T.jf rfl T.cj (aO 0 (pv 0)) (kJ rfl T.Rg (by decide +kernel) rfl))))) (Ck (jV (aba (aQ aC) (aQ (dO rfl T.iQ (aO 0 (pv 0)))) (aQ (de_c (Eo (v:=.int 2000) rfl abf ade) (fun _=>.int _)))))))) (aB Jv) bR)
     (aB (jd (fun a b c=>jm PassesOwn.never rfl a b c) (aa5 rfl T.Bm (aq 0 (pv 0))) (Gz (n:=2) (fun h=>Hy rfl h) (fj (bF (bG (i:=3) kh.nd rfl (by first | exact .inl rfl | exact .inr rfl))) (fj (bF (bG (i:=4) kh.nd rfl (by first | exact .inl rfl | exact .inr rfl))) yI (fun a b=>fO a b)) (fun a b=>fO a b))) (az (cU (GD (Jx (jV (iK (aQ (oJ (cv:=.ty "list") (.inr rfl) T.jf rfl T.cj (aO 4 (pv 4)) (kJ rfl T.Rg (by decide +kernel) rfl))))) (Ck (R5 hr.units (aQ (dO rfl T.iQ (aO 4 (pv 4)))) (aO 1 (pv 1)))))) (aB Jv) bR)
     (aB (jd (fun a b c=>jm PassesOwn.never rfl a b c) (aa5 rfl T.Bm (aq 4 (pv 4))) (Gz (n:=2) (fun h=>Hy rfl h) (fj (bF (bG (i:=5) kh.nd rfl (by first | exact .inl rfl | exact .inr rfl))) (fj (bF (bG (i:=6) kh.nd rfl (by first | exact .inl rfl | exact .inr rfl))) yI (fun a b=>fO a b)) (fun a b=>fO a b))) (aB (cU (jV (iK (aQ (bO (aP QF (hr.mono (by decide)) rfl jj gq tR .nil bB (aj (aq 6 (pv 6)) (aj (dO rfl T.iQ (aO 0 (pv 0))) (aj (aq 2 (pv 2)) aD)))))))) (aB Jv) bR))))))))
abbrev lO:Stmt:=top 25
theorem Ke:aM ["told","word"] ["told"] (ao lO):=⟨rfl,rfl,rfl,by decide +kernel,rfl,by decide +kernel,by decide +kernel⟩
def N6:DSt→Out Fl:=(bh (bZ 1 (o2 ixD (gvo 0) (kc (.int 0))))
 (bY (oF 3 sy (ak (bV (o2b inD (gb 1) (cZ (ak (kc (.str "must")) (ak (kc (.str "torn")) aG))))) (ak (bV (o2b inD (gb 1) (cZ (ak (kc (.str "must")) (ak (kc (.str "may")) aG))))) (ak (o2 ixD (gvo 0) (kc (.int 1))) aG))))))
def iU:List D→Out D:=fun ds=>(cQ 2 N6 ds).bD
theorem acH {f:Addr} {fd:FuncData} (F:L2.Fun K "made_door" "made_door" lO f fd) (T:Txt K mg t) (Ku:Def P w K mg base "door_of" 4 ["needs","allows","to"] (spD K (Ga t) 3 sy)):bx P w K mg base CX0 5 f fd ["told"] (spD K (Ga t) 1 iU):=by
 obtain ⟨Eh,fd_door_of,ajF,K6,xg,sJ⟩:=Ku.ex
 refine DL.Fun.okD F Ke fun cdv A outer s H E hr=>?_
 exact (az (bJ 1 (fun h=>bu (i:=1) Ke.nd rfl (by first | exact .inl rfl | exact .inr rfl) h) (d8 0 (pv 0) aC))
     (aB (aY (bO (aP ajF (hr.mono (by decide)) rfl xg sJ K6 .nil bB (aj (de_in (aO 1 (pv 1)) (aQ (fQ (aj cg (aj cg aD))))) (aj (de_in (aO 1 (pv 1)) (aQ (fQ (aj cg (aj cg aD))))) (aj (d8 0 (pv 0) aC) aD))))))))
abbrev lQ:Stmt:=top 26
theorem ady:aM ["row"] ["row"] (ao lQ):=⟨rfl,rfl,rfl,by decide +kernel,rfl,by decide +kernel,by decide +kernel⟩
def wG:DSt→Out D:=(oF 1 iU (ak (gv 0) aG))
def N7:DSt→Out Fl:=(bY (oC (one1 HN) (ak (Eu (nR [none] (uI (gv 0)) (gN 0) (fun _=>.ok true) wG)) aG)))
def iV:List D→Out D:=fun ds=>(cQ 1 N7 ds).bD
theorem acI {f:Addr} {fd:FuncData} (F:L2.Fun K "made_room" "made_room" lQ f fd) (T:Txt K mg t) (Ar:Def P w K mg base "made_door" 5 ["told"] (spD K (Ga t) 1 iU)):bx P w K mg base CX0 6 f fd ["row"] (spD K (Ga t) 1 iV):=by
 obtain ⟨uY,fd_made_door,ad7,Bo,qp,lr⟩:=Ar.ex
 refine DL.Fun.okD F ady fun cdv A outer s H E hr=>?_
 exact (aB (aY (RT rfl T.IW (RP (yG (fun a b c d=>uG (N':=["told"]) (cap:=[none]) ⟨rfl,rfl,by decide +kernel,by decide +kernel,by rfl,trivial,⟨trivial,trivial⟩⟩ rfl a b c d) (Ci (aq 0 (pv 0))) (sh_n 0) (fun _ _ _ _ _=>(bF (bG (i:=0) (show (["told"]:List Str).Nodup by decide +kernel) rfl (by first | exact .inl rfl | exact .inr rfl)))) (fun _ _ _ _ _=>Ec) (fun _ _ _ _ _=>(bO (aP ad7 (hr.mono (by decide)) rfl qp lr Bo .nil bB (aj (aq 0 (pv 0)) aD)))))))))
abbrev jC:Stmt:=inClass (top 28) 0
theorem XQ:aM ["self","actions","rows"] ["self","actions","rows"] (ao jC):=⟨rfl,rfl,rfl,by decide +kernel,rfl,by decide +kernel,by decide +kernel⟩
def uA:DSt→Out D:=(oF 1 iV (ak (gv 0) aG))
def Qk:DSt→Out D:=(oF 1 gf (ak (gv 1) aG))
def Ql:DSt→Out D:=(o1 fK (gb 1))
def Qm:DSt→Out D:=(oC (one1 HN) (ak (gv 1) aG))
def Qn:DSt→Out D:=(oC (one1 HN) (ak (Eu (nR [none] (uI (gv 2)) (gN 0) (fun _=>.ok true) uA)) aG))
def Y7 (torn:Bool) (ds:List D):Out (List (Str × D)):=match ds with
 | [acts,rows] =>
   let δ:DSt:=[none,some (.sh acts),some (.sh rows)]
   (Qk δ).bD.bind fun _=>(Ql δ).bD.bind fun n=>(eZ [rows,n,.bl torn]).bD.bind fun _=>(Qm δ).bD.bind fun ta=>(Qn δ).bD.bind fun tr=>.ok [("actions",ta),("rooms",tr)]
 | _=>.stuck
def I_Draft:List D→Out (List (Str × D)):=Y7 true
def QH:List D→Out (List (Str × D)):=Y7 false
def spT (b:Bool):Sp:=fun vs H Q _=>∃ v,vs = [v]∧Q (.bl b) H
abbrev jD:Stmt:=inClass (top 28) 1
theorem XR:aM ["self"] ["self"] (ao jD):=⟨rfl,rfl,rfl,by decide +kernel,rfl,by decide +kernel,by decide +kernel⟩
theorem Xe {f:Addr} {fd:FuncData} (F:L2.Fun K "lets_torn" "Draft.lets_torn" jD f fd):bx P w K mg base CX0 1 f fd ["self"] (spT true):=by
 refine F.ok XR (fun vs H Q E h=>?_) (fun cdv A outer s H vs Q E hr h=>?_)
 · obtain ⟨v,rfl,_⟩:=h
   rfl
 · obtain ⟨v,rfl,q⟩:=h
   exact ⟨_,vp (Ul pe_bl),q⟩
abbrev lG:Stmt:=inClass (top 29) 0
theorem adt:aM ["self"] ["self"] (ao lG):=⟨rfl,rfl,rfl,by decide +kernel,rfl,by decide +kernel,by decide +kernel⟩
theorem acA {f:Addr} {fd:FuncData} (F:L2.Fun K "lets_torn" "Plan.lets_torn" lG f fd):bx P w K mg base CX0 1 f fd ["self"] (spT false):=by
 refine F.ok adt (fun vs H Q E h=>?_) (fun cdv A outer s H vs Q E hr h=>?_)
 · obtain ⟨v,rfl,_⟩:=h
   rfl
 · obtain ⟨v,rfl,q⟩:=h
   exact ⟨_,vp (Ul pe_bl),q⟩
theorem akf {K:PySem.W.Frag} {Γ:Nat→Option Addr} {G H:Hp} {a C dx:Addr} {v1 v2:V} {acts rows:D} {torn:Bool} {Q:VK} {E:XK} (hH:H a = some (.ins C dx [])) (ga:G a = none) (sg:bL G H) (r1:Rep K Γ G v1 acts) (r2:Rep K Γ G v2 rows) (cl:Cls K C) (na1:d7 K C "actions") (na2:d7 K C "rooms")
   (w:wpO (Y7 torn [acts,rows]) (fun fds=>∀ fs G' H',bL G G'→(∀ b o,H b = some o→b ≠ a→H' b = some o)→bL G' H'→(∀ b,H b ≠ none→G b = none→G' b = none)→H' a = some (.ins C dx fs)→my K Γ G' fs fds→Q .non H')
     (fun x=>∀ a' G' H',bL G G'→(∀ b o,H b = some o→b ≠ a→H' b = some o)→bL G' H'→(∀ b,H b ≠ none→G b = none→G' b = none)→Rep K Γ G' (.ref a') x→E (.ref a') none H')) :
   tSeq (Oh (teD K Γ E0 Qk)) (tSeq (Oh (Zf (spD K Γ 3 eZ) [] E0 (Aj (teD K Γ E0 (gv 2)) (Aj (teD K Γ E0 Ql) (Aj (tMeth C "lets_torn" (spT torn) [] E0 (DN 0) Kl) Kl))))) (tSeq (sFld K (DN 0) (teD K Γ E0 Qm) "actions") (sFld K (DN 0) (teD K Γ E0 Qn) "rooms"))) { nx:=fun _ H'=>Q .non H',rt:=Q } [some (.ref a),some v1,some v2] H:=by
 have S0:SR K Γ G H G H [some (.ref a),some v1,some v2] [none,some (.sh acts),some (.sh rows)]:=by
   refine ⟨.refl sg,rfl,fun _=>none,fun i x e=>?_⟩
   match i,e with
   | 1,e=>cases e; exact ⟨v1,rfl,r1⟩
   | 2,e=>cases e; exact ⟨v2,rfl,r2⟩
   | i + 3,e=>simp at e
 have g2:gv 2 [none,some (.sh acts),some (.sh rows)] = .ok rows:=rfl
 have w1:=il (R':=exD K Γ E0 G H) (au w)
 refine ⟨G,H,G,_,S0,w1.mono (fun d1 w1 u1 G1 H1 s1 _=>?_) fun _ k=>k⟩
 have S1:=S0.step s1
 refine ⟨G,H,G1,_,S1,?_⟩
 rw [g2]
 intro u2 G2 H2 s2 q2
 have S2:=S1.step s2
 have w2:=il (R':=exD K Γ E0 G2 H2) (au w1)
 refine ⟨G,H,G2,_,S2,w2.mono (fun n w2 u3 G3 H3 s3 q3=>?_) fun _ k=>k⟩
 have s03:=((s1.trans s2).trans s3)
 refine ⟨_,rfl,a,dx,[],rfl,s03.hh _ _ hH,rfl,_,rfl,rfl,G3,[rows,n,.bl torn],s03.gh,.cons (q2.mono s3.gg) (.cons q3 (.cons (.bl _) .nil)),?_⟩
 have w3:=il (R':=exD K Γ E0 G3 H3) (au w2)
 refine w3.mono (fun d3 w3 u4 G4 H4 s4 _=>?_) fun _ k=>k
 have s04:=s03.trans s4
 have S4:=S0.step s04
 have w4:=il (R':=exD K Γ E0 G4 H4) (au w3)
 refine ⟨G,H,G4,_,S4,w4.mono (fun ta w4 u5 G5 H5 s5 q5=>?_) fun _ k=>k⟩
 have s05:=s04.trans s5
 have g5:G5 a = none:=s05.sep a (by rw [hH]; exact fun z=>nomatch z) ga
 refine ⟨_,rfl,a,C,dx,[],rfl,s05.hh _ _ hH,cl,na1,(by decide),?_⟩
 have st5:Step G5 (upd H5 a (.ins C dx (pq "actions" u5 []))) G5 (upd H5 a (.ins C dx (pq "actions" u5 []))):=.refl fun b o e=>by rw [aN (bc e g5)]; exact s05.gh _ _ e
 have S5:SR K Γ G5 (upd H5 a (.ins C dx (pq "actions" u5 []))) G5 (upd H5 a (.ins C dx (pq "actions" u5 []))) [some (.ref a),some v1,some v2] [none,some (.sh acts),some (.sh rows)]:=by
   refine ⟨st5,rfl,fun _=>none,fun i x e=>?_⟩
   match i,e with
   | 1,e=>cases e; exact ⟨v1,rfl,r1.mono s05.gg⟩
   | 2,e=>cases e; exact ⟨v2,rfl,r2.mono s05.gg⟩
   | i + 3,e=>simp at e
 have w5:=il (R':=exD K Γ E0 G5 (upd H5 a (.ins C dx (pq "actions" u5 [])))) (au w4)
 refine ⟨_,_,G5,_,S5,w5.mono (fun tr w5 u6 G6 H6 s6 q6=>?_) fun _ k=>k⟩
 have h6:=s6.hh _ _ (aW (H:=H5) (a:=a) (o:=.ins C dx (pq "actions" u5 [])))
 refine ⟨_,rfl,a,C,dx,_,rfl,h6,cl,na2,(by show 1 < 1000; decide),?_⟩
 have g6:G6 a = none:=s6.sep a (by rw [aW]; exact fun z=>nomatch z) g5
 have ne:¬ (("actions":Str) = "rooms"):=by decide +kernel
 have ef:pq "rooms" u6 (pq "actions" u5 []) = [(("actions":Str),u5),(("rooms":Str),u6)]:=by
   show (if ("actions":Str) = "rooms" then _ else (("actions":Str),u5) :: pq "rooms" u6 []) = _
   rw [if_neg ne]
   rfl
 refine w5 [("actions",u5),("rooms",u6)] G6 _ (s05.gg.trans s6.gg) (fun b o e hb=>?_) (fun b o e=>?_) (fun b hb g0=>?_) (by rw [aW,ef]) (.cons (q5.mono s6.gg) (.cons q6 .nil))
 · rw [aN hb]
   exact s6.hh _ _ (by rw [aN hb]; exact s05.hh _ _ e)
 · rw [aN (bc e g6)]
   exact s6.gh _ _ e
 · refine s6.sep b (fun z=>?_) (s05.sep b hb g0)
   by_cases e:b = a
   · subst e; rw [aW] at z; cases z
   · rw [aN e] at z
     cases q:H b with
     | none=>exact hb q
     | some o=>rw [s05.hh _ _ q] at z; cases z
theorem FZ {f fT C:Addr} {fd fdT:FuncData} {c:Nat} {torn:Bool} (F:L2.Fun K "__init__" "Draft.__init__" jC f fd) (T:Txt K mg t) (lX:Def P w K mg base "need_actions" 3 ["actions"] (spD K (Ga t) 1 gf)) (rz:Def P w K mg base "need_rooms" 3 ["rows","many_actions","torn_too"] (spD K (Ga t) 3 eZ)) (uL:Def P w K mg base "made_room" 6 ["row"] (spD K (Ga t) 1 iV)) (hC:Ga t c = some C) (cl:Cls K C) (na1:d7 K C "actions") (na2:d7 K C "rooms") (hmT:Meth K C "lets_torn" fT) (GT:bx P w K mg base CX0 1 fT fdT ["self"] (spT torn)) (bT:Binds K fdT ["self"] []):bx P w K mg base CX0 7 f fd ["self","actions","rows"] (spI K (Ga t) c 2 (Y7 torn)):=by
 obtain ⟨mV,akV,QG,tU,jk,gr⟩:=lX.ex
 obtain ⟨rK,fd_need_rooms,Zq,yf,nA,jA⟩:=rz.ex
 obtain ⟨uZ,fd_made_room,ad8,Bp,qt,lu⟩:=uL.ex
 refine F.ok XQ (fun vs H Q E h=>h.1) (fun cdv A outer s H vs Q E hr h=>?_)
 obtain ⟨hl,a,dx,C',us,G,ds,rfl,hH,hC',ga,sg,r,w⟩:=h
 rw [hC] at hC'
 cases hC'
 cases r with
 | nil=>cases hl
 | @cons v1 us acts ds r1 r =>
   cases r with
   | nil=>cases hl
   | @cons v2 us rows ds r2 r =>
     cases r with
     | cons _ _=>cases hl
     | nil =>
       refine ⟨tSeq (Oh (teD K (Ga t) E0 Qk)) (tSeq (Oh (Zf (spD K (Ga t) 3 eZ) [] E0 (Aj (teD K (Ga t) E0 (gv 2)) (Aj (teD K (Ga t) E0 Ql) (Aj (tMeth C "lets_torn" (spT torn) [] E0 (DN 0) Kl) Kl))))) (tSeq (sFld K (DN 0) (teD K (Ga t) E0 Qm) "actions") (sFld K (DN 0) (teD K (Ga t) E0 Qn) "rooms"))),Dv (gR (bO (aP QG (hr.mono (by decide)) rfl jk gr tU .nil bB (aj (aq 1 (pv 1)) aD)))) (Dv (gR (aP Zq (hr.mono (by decide)) rfl nA jA yf .nil bB (bW (aq 2 (pv 2)) (bW (dO rfl T.iQ (aO 1 (pv 1))) (bW (pe_meth0 (pv 0) cl hmT GT (hr.mono (by decide)) bT .nil bB) dU))))) (Dv (aiL (pv 0) (RT rfl T.IW (aq 1 (pv 1))) rfl) (vp (aiL (pv 0) (RT rfl T.IW (RP (yG (fun a b c d=>uG (N':=["row"]) (cap:=[none]) ⟨rfl,rfl,by decide +kernel,by decide +kernel,by rfl,trivial,⟨trivial,trivial⟩⟩ rfl a b c d) (Ci (aq 2 (pv 2))) (sh_n 0) (fun _ _ _ _ _=>(bF (bG (i:=0) (show (["row"]:List Str).Nodup by decide +kernel) rfl (by first | exact .inl rfl | exact .inr rfl)))) (fun _ _ _ _ _=>Ec) (fun _ _ _ _ _=>(bO (aP ad8 (hr.mono (by decide)) rfl qt lu Bp .nil bB (aj (aq 0 (pv 0)) aD))))))) rfl)))),?_⟩
       exact akf hH ga sg r1 r2 cl na1 na2 w
abbrev cO:Stmt:=inClass (top 28) 2
theorem Dy:aM ["self"] ["self"] (ao cO):=⟨rfl,rfl,rfl,by decide +kernel,rfl,by decide +kernel,by decide +kernel⟩
def qZ:DSt→Out Fl:=(sRetf (uI (JW "actions" [jU,bz] (gv 0))))
def fX:List D→Out (List D):=fun ds=>(runL 1 qZ ds).bD
theorem Dt {f:Addr} {fd:FuncData} (F:L2.Fun K "action_list" "Draft.action_list" cO f fd) (T:Txt K mg t) :bx P w K mg base CX0 1 f fd ["self"] (spF K (Ga t) 1 fX):=by
 refine DL.Fun.okF F Dy fun cdv A outer s H E hr=>?_
 exact (aB (ds_retf (ajf rfl T.Rg (aaN (cs:=[jU,bz]) ⟨⟨t.Draft,rfl,T.zp.cls,T.dJ⟩,⟨t.Plan,rfl,T.G8.cls,T.eQ⟩,trivial⟩ (aq 0 (pv 0))))))
def cT:List (Nat × (List D→Out (List D))):=[(jU,fX),(bz,fX)]
abbrev lR:Stmt:=top 30
theorem adz:aM ["one","other"] ["one","other"] (ao lR):=⟨rfl,rfl,rfl,by decide +kernel,rfl,by decide +kernel,by decide +kernel⟩
def qi:DSt→Out Fl:=(sIf (o2b neD (oM "action_list" 1 (tabD cT) (gv 0) aG) (oM "action_list" 1 (tabD cT) (gv 1) aG)) (sRaise dj (ak (kc (.str "the lists of actions are not equal")) aG)) fW)
def cR:List D→Out D:=fun ds=>cQ 2 qi ds
theorem acJ {f:Addr} {fd:FuncData} (F:L2.Fun K "need_same" "need_same" lR f fd) (T:Txt K mg t) (pL:wK P w K mg base (Ga t) "action_list" (spF K (Ga t) 1) 1 cT):bx P w K mg base (CX1 P w) 2 f fd ["one","other"] (spD K (Ga t) 2 cR):=by
 refine zb F adz fun cdv A outer s H E hr=>?_
 exact (aB (cU (R5 hr.units (aQ (ud (ph ((wK.dF pL).ok (hr.mono (by decide))) bB (aq 0 (pv 0))))) (aQ (ud (ph ((wK.dF pL).ok (hr.mono (by decide))) bB (aq 1 (pv 1)))))) (aB (ds_raise (c:=dj) rfl T.Kq T.xu thr1 rfl rfl T.afx (aj cg aD))) bR))
abbrev gA:Stmt:=inClass (top 52) 0
theorem PQ:aM ["self","one","other"] ["self","one","other"] (ao gA):=⟨rfl,rfl,rfl,by decide +kernel,rfl,by decide +kernel,by decide +kernel⟩
def cY:List D→Out (List (Str × D)):=refI cR
theorem Py {f:Addr} {fd:FuncData} (F:L2.Fun K "__init__" "Against.__init__" gA f fd) (T:Txt K mg t) (eX:Aw P w K mg base "need_same" 2 ["one","other"] (spD K (Ga t) 2 cR)):bx P w K mg base (CX1 P w) 3 f fd ["self","one","other"] (spI K (Ga t) dh 2 cY):=by
 obtain ⟨kZ,JC,pZ,iZ,fM,dw⟩:=eX.ex
 obtain ⟨oc,od,kV,doc,pm,an,cdv,ct,osl,rfl,lk,hcd⟩:=F.ex
 refine fn_of lk hcd PQ (fun vs H Q E h=>h.1) fun A outer s H vs Q E hr h=>?_
 exact ⟨_,Dv (gR (aP pZ (hr.mono (by decide)) rfl fM dw iZ .nil T9 (bW (pv 1) (bW (pv 2) dU)))) akF,ake h⟩
abbrev uH:Stmt:=top 53
def xQ:List D→Out D:=fun _=>.stuck
theorem af6 {f:Addr} {fd:FuncData} (F:L2.Fun K "followed" "followed" uH f fd) (T:Txt K mg t):bx P w K mg base CX0 1 f fd ["against","trail"] (spD K (Ga t) 2 xQ):=fn_stuck
abbrev sY:Stmt:=top 45
theorem pJ:aM ["truths","bits","worth","truth"] ["truths"] (ao sY):=⟨rfl,rfl,rfl,by decide +kernel,rfl,by decide +kernel,by decide +kernel⟩
def vo:DSt→Out Fl:=(bh (sIf (tst (gb 3)) (Uq 1 (gv 2)) fW)
 (Uq 2 (gv 2)))
def Lk:DSt→Out Fl:=(bh (bZ 1 (kc (.int 0)))
 (bh (bZ 2 (kc (.int 1)))
 (bh (ig (uI (gv 0)) (gN 3) vo)
 (bY (gv 1)))))
def jr:List D→Out D:=fun ds=>(cQ 4 Lk ds).bD
theorem aiv {f:Addr} {fd:FuncData} (F:L2.Fun K "bits_of" "bits_of" sY f fd) (T:Txt K mg t) :bx P w K mg base CX0 1 f fd ["truths"] (spD K (Ga t) 1 jr):=by
 refine DL.Fun.okD F pJ fun cdv A outer s H E hr=>?_
 exact (az (bJ 1 (fun h=>bu (i:=1) pJ.nd rfl (by first | exact .inl rfl | exact .inr rfl) h) aC)
     (az (bJ 2 (fun h=>bu (i:=2) pJ.nd rfl (by first | exact .inl rfl | exact .inr rfl) h) aC)
     (az (jd (fun a b c=>jm PassesOwn.never rfl a b c) (Ci (aq 0 (pv 0))) (bF (bG (i:=3) pJ.nd rfl (by first | exact .inl rfl | exact .inr rfl))) (az (cU (iK (aO 3 (pv 3))) (aB (ahQ 1 (fun h=>aiK (i:=1) pJ.nd rfl (by first | exact .inl rfl | exact .inr rfl) h ah5) (aq 2 (pv 2)))) bR)
     (aB (ahQ 2 (fun h=>aiK (i:=2) pJ.nd rfl (by first | exact .inl rfl | exact .inr rfl) h ah5) (aq 2 (pv 2))))))
     (aB (aY (aq 1 (pv 1)))))))
abbrev pH:Stmt:=top 46
theorem Dz:aM ["doors","truths","door"] ["doors"] (ao pH):=⟨rfl,rfl,rfl,by decide +kernel,rfl,by decide +kernel,by decide +kernel⟩
def zO:DSt→Out Fl:=(sExt 1 (jl (ak (oM "allows" 1 kY (gv 2) aG) (ak (Tr (oM "needs" 1 pK (gv 2) aG)) aG))))
def GP:DSt→Out Fl:=(bh (rn 1 (tV aG))
 (bh (ig (uI (gv 0)) (gN 2) zO)
 (frzd 1 (bY (oF 1 jr (ak (gv 1) aG))))))
def nZ:List D→Out D:=fun ds=>(cQ 3 GP ds).bD
theorem af8 {f:Addr} {fd:FuncData} (F:L2.Fun K "risks_of" "risks_of" pH f fd) (T:Txt K mg t) (DQ:wK P w K mg base (Ga t) "needs" (spD K (Ga t) 1) 1 pK) (wL:wK P w K mg base (Ga t) "allows" (spD K (Ga t) 1) 1 kY) (rY:Def P w K mg base "bits_of" 1 ["truths"] (spD K (Ga t) 1 jr)):bx P w K mg base CX0 2 f fd ["doors"] (spD K (Ga t) 1 nZ):=by
 obtain ⟨wW,ahR,Kz,wN,oV,lq⟩:=rY.ex
 refine DL.Fun.okD F Dz fun cdv A outer s H E hr=>?_
 exact (az (rB 1 (fun h=>bu (i:=1) Dz.nd rfl (by first | exact .inl rfl | exact .inr rfl) h) (yH aD))
     (az (jd (fun a b c=>jm PassesOwn.never rfl a b c) (Ci (aq 0 (pv 0))) (bF (bG (i:=2) Dz.nd rfl (by first | exact .inl rfl | exact .inr rfl))) (aB (ds_ext 1 (pv 1) (yE (aj (ud (ph (wL.ok (hr.mono (by decide))) bB (aq 2 (pv 2)))) (aj (aaO (ud (ph (DQ.ok (hr.mono (by decide))) bB (aq 2 (pv 2))))) aD))) (fun a b=>gR (J1 PySem.F.plainAttrs_list PySem.F.slot_list_extend PySem.F.type_list_extend Za a (bW b dU))))))
     (aB (R4 1 (aY (bO (aP Kz (hr.mono (by decide)) rfl oV lq wN .nil bB (aj (aq 1 (pv 1)) aD))))))))
abbrev sX:Stmt:=top 47
theorem HH:aM ["doors","truths","door"] ["doors"] (ao sX):=⟨rfl,rfl,rfl,by decide +kernel,rfl,by decide +kernel,by decide +kernel⟩
def Dl:DSt→Out Fl:=(sExt 1 (jl (ak (Tr (oM "allows" 1 kY (gv 2) aG)) (ak (oM "needs" 1 pK (gv 2) aG) aG))))
def Lj:DSt→Out Fl:=(bh (rn 1 (tV aG))
 (bh (ig (uI (gv 0)) (gN 2) Dl)
 (frzd 1 (bY (oF 1 jr (ak (gv 1) aG))))))
def sr:List D→Out D:=fun ds=>(cQ 3 Lj ds).bD
theorem aiu {f:Addr} {fd:FuncData} (F:L2.Fun K "bars_of" "bars_of" sX f fd) (T:Txt K mg t) (DQ:wK P w K mg base (Ga t) "needs" (spD K (Ga t) 1) 1 pK) (wL:wK P w K mg base (Ga t) "allows" (spD K (Ga t) 1) 1 kY) (rY:Def P w K mg base "bits_of" 1 ["truths"] (spD K (Ga t) 1 jr)):bx P w K mg base CX0 2 f fd ["doors"] (spD K (Ga t) 1 sr):=by
 obtain ⟨wW,ahR,Kz,wN,oV,lq⟩:=rY.ex
 refine DL.Fun.okD F HH fun cdv A outer s H E hr=>?_
 exact (az (rB 1 (fun h=>bu (i:=1) HH.nd rfl (by first | exact .inl rfl | exact .inr rfl) h) (yH aD))
     (az (jd (fun a b c=>jm PassesOwn.never rfl a b c) (Ci (aq 0 (pv 0))) (bF (bG (i:=2) HH.nd rfl (by first | exact .inl rfl | exact .inr rfl))) (aB (ds_ext 1 (pv 1) (yE (aj (aaO (ud (ph (wL.ok (hr.mono (by decide))) bB (aq 2 (pv 2))))) (aj (ud (ph (DQ.ok (hr.mono (by decide))) bB (aq 2 (pv 2)))) aD))) (fun a b=>gR (J1 PySem.F.plainAttrs_list PySem.F.slot_list_extend PySem.F.type_list_extend Za a (bW b dU))))))
     (aB (R4 1 (aY (bO (aP Kz (hr.mono (by decide)) rfl oV lq wN .nil bB (aj (aq 1 (pv 1)) aD))))))))
abbrev iI:Stmt:=top 48
theorem nJ:aM ["bits","place"] ["bits"] (ao iI):=⟨rfl,rfl,rfl,by decide +kernel,rfl,by decide +kernel,by decide +kernel⟩
def qN:DSt→Out Bool:=(o2b eqD (o2 cC (gv 0) (kc (.int 2))) (kc (.int 0)))
def kI:DSt→Out Fl:=(bh (bZ 0 (o2 gJ (gv 0) (kc (.int 2))))
 (Uq 1 (kc (.int 1))))
def ww:DSt→Out Fl:=(bh (sIf (o2b eqD (gb 0) (kc (.int 0))) (bY (kc .non)) fW)
 (bh (bZ 1 (kc (.int 0)))
 (bh (sWhile (fun _=>20) qN kI)
 (bY (cZ (ak (o2 gJ (gv 1) (kc (.int 2))) (ak (o2 ixD (kc (.rot [.str "extra",.str "lacks"])) (o2 cC (gv 1) (kc (.int 2)))) aG)))))))
def jY:List D→Out D:=fun ds=>(cQ 2 ww ds).bD
theorem T8 {f:Addr} {fd:FuncData} (F:L2.Fun K "first_fault" "first_fault" iI f fd) (T:Txt K mg t) :bx P w K mg base CX0 1 f fd ["bits"] (spD K (Ga t) 1 jY):=by
 obtain ⟨u_WORDS,h_WORDS,r_WORDS⟩:=T.Ja
 refine DL.Fun.okD F nJ fun cdv A outer s H E hr=>?_
 exact (az (cU (jZ hr.units (aO 0 (pv 0)) (aQ aC)) (aB (aY yF)) bR)
     (az (bJ 1 (fun h=>bu (i:=1) nJ.nd rfl (by first | exact .inl rfl | exact .inr rfl) h) aC)
     (az (ds_while (fun _=>20) (fun a b=>ps_while PassesOwn.never a b) (jZ hr.units (aQ (cD (aq 0 (pv 0)) aC)) (aQ aC)) (az (bJ 0 (fun h=>bu (i:=0) nJ.nd rfl (by first | exact .inl rfl | exact .inr rfl) h) (kj (aq 0 (pv 0)) aC))
     (aB (ahQ 1 (fun h=>aiK (i:=1) nJ.nd rfl (by first | exact .inl rfl | exact .inr rfl) h ah5) aC))))
     (aB (aY (fQ (aj (kj (aq 1 (pv 1)) aC) (aj (wV (de_c (Eo (v:=.ref u_WORDS) rfl h_WORDS rfl) (fun _=>.rot (.inr r_WORDS) (.cons (.str _) (.cons (.str _) .nil)))) (cD (aq 1 (pv 1)) aC)) aD))))))))
abbrev pF:Stmt:=top 49
theorem agr:aM ["one","room","other","place"] ["one","room","other","place"] (ao pF):=⟨rfl,rfl,rfl,by decide +kernel,rfl,by decide +kernel,by decide +kernel⟩
def uo:DSt→Out Fl:=(bh (nG (oF 2 cR (ak (gv 0) (ak (gv 2) aG))))
 (bY (oF 1 jY (ak (o2 aeK (oF 1 nZ (ak (o2 ixD (JW "rooms" [jU,bz] (gv 0)) (gv 1)) aG)) (oF 1 sr (ak (o2 ixD (JW "rooms" [jU,bz] (gv 2)) (gv 3)) aG))) aG))))
def gM:List D→Out D:=fun ds=>cQ 4 uo ds
theorem af5 {f:Addr} {fd:FuncData} (F:L2.Fun K "fault_at" "fault_at" pF f fd) (T:Txt K mg t) (eX:Aw P w K mg base "need_same" 2 ["one","other"] (spD K (Ga t) 2 cR)) (vz:Def P w K mg base "first_fault" 1 ["bits"] (spD K (Ga t) 1 jY)) (Gf:Def P w K mg base "risks_of" 2 ["doors"] (spD K (Ga t) 1 nZ)) (Ks:Def P w K mg base "bars_of" 2 ["doors"] (spD K (Ga t) 1 sr)):bx P w K mg base (CX1 P w) 3 f fd ["one","room","other","place"] (spD K (Ga t) 4 gM):=by
 obtain ⟨kZ,JC,pZ,iZ,fM,dw⟩:=eX.ex
 obtain ⟨pO,fd_first_fault,Vd,vM,j9,iy⟩:=vz.ex
 obtain ⟨yQ,fd_risks_of,agR,Gn,uD,oO⟩:=Gf.ex
 obtain ⟨Eg,fd_bars_of,ajE,K4,xf,sI⟩:=Ks.ex
 refine zb F agr fun cdv A outer s H E hr=>?_
 exact (az (uR (bO (aP pZ (hr.mono (by decide)) rfl fM dw iZ .nil T9 (aj (aq 0 (pv 0)) (aj (aq 2 (pv 2)) aD)))))
     (aB (aY (bO (aP Vd (hr.mono (by decide)) rfl j9 iy vM .nil bB (aj (de_band (bO (aP agR (hr.mono (by decide)) rfl uD oO Gn .nil bB (aj (wV (aaN (cs:=[jU,bz]) ⟨⟨t.Draft,rfl,T.zp.cls,T.dR⟩,⟨t.Plan,rfl,T.G8.cls,T.fV⟩,trivial⟩ (aq 0 (pv 0))) (aq 1 (pv 1))) aD))) (bO (aP ajE (hr.mono (by decide)) rfl xf sI K4 .nil bB (aj (wV (aaN (cs:=[jU,bz]) ⟨⟨t.Draft,rfl,T.zp.cls,T.dR⟩,⟨t.Plan,rfl,T.G8.cls,T.fV⟩,trivial⟩ (aq 2 (pv 2))) (aq 3 (pv 3))) aD)))) aD))))))
abbrev pI:Stmt:=top 54
theorem Og:aM ["one","other","against","trail"] ["one","other"] (ao pI):=⟨rfl,rfl,rfl,by decide +kernel,rfl,by decide +kernel,by decide +kernel⟩
def GQ:DSt→Out Fl:=(bh (bZ 2 (oMk dh 2 cY (ak (gv 0) (ak (gv 1) aG)))) (fun _=>.stuck))
def tK:List D→Out D:=fun ds=>cQ 4 GQ ds
theorem af9 {f:Addr} {fd:FuncData} (F:L2.Fun K "table_of" "table_of" pI f fd) (T:Txt K mg t) (eG:Ini1 P w K mg base t.Against 3 ["self","one","other"] (spI K (Ga t) dh 2 cY)):bx P w K mg base (CX1 P w) 5 f fd ["one","other"] (spD K (Ga t) 2 tK):=by
 obtain ⟨Li,GJ,n8,n6,ou⟩:=eG.ex
 refine zb F Og fun cdv A outer s H E hr=>?_
 exact (az (bJ 2 (fun h=>bu (i:=2) Og.nd rfl (by first | exact .inl rfl | exact .inr rfl) h) (Cj (c:=dh) rfl (nF n8 n6 (hr.mono (by decide)) rfl T.El ou .nil T9 (aj (aq 0 (pv 0)) (aj (aq 1 (pv 1)) aD))))) Eb)
abbrev xr:Stmt:=top 55
theorem akI:aM ["one","other"] ["one","other"] (ao xr):=⟨rfl,rfl,rfl,by decide +kernel,rfl,by decide +kernel,by decide +kernel⟩
def Sq:DSt→Out Fl:=(bY (bV (o2b Pb (oF 2 xQ (ak (oMk dh 2 cY (ak (gv 0) (ak (gv 1) aG))) (ak (fun _=>.stuck) aG))) (kc .non))))
def Ay:List D→Out D:=fun ds=>cQ 2 Sq ds
theorem akz {f:Addr} {fd:FuncData} (F:L2.Fun K "within" "within" xr f fd) (T:Txt K mg t) (Gd:Def P w K mg base "followed" 1 ["against","trail"] (spD K (Ga t) 2 xQ)) (eG:Ini1 P w K mg base t.Against 3 ["self","one","other"] (spI K (Ga t) dh 2 cY)):bx P w K mg base (CX1 P w) 5 f fd ["one","other"] (spD K (Ga t) 2 Ay):=by
 obtain ⟨yO,fd_followed,agP,Gk,uB,oK⟩:=Gd.ex
 obtain ⟨Li,GJ,n8,n6,ou⟩:=eG.ex
 refine zb F akI fun cdv A outer s H E hr=>?_
 exact (aB (aY (de_is (aQ (bO (aP agP (hr.mono (by decide)) rfl uB oK Gk .nil bB (aj (Cj (c:=dh) rfl (nF n8 n6 (hr.mono (by decide)) rfl T.El ou .nil T9 (aj (aq 0 (pv 0)) (aj (aq 1 (pv 1)) aD)))) (aj de_never aD))))) (aQ yF))))
abbrev lU:Stmt:=top 56
theorem Kf:aM ["one","other","against","trail","at","fault"] ["one","other"] (ao lU):=⟨rfl,rfl,rfl,by decide +kernel,rfl,by decide +kernel,by decide +kernel⟩
def Cw:DSt→Out Fl:=(bh (bZ 2 (oMk dh 2 cY (ak (gv 0) (ak (gv 1) aG)))) (fun _=>.stuck))
def pY:List D→Out D:=fun ds=>cQ 6 Cw ds
theorem acK {f:Addr} {fd:FuncData} (F:L2.Fun K "row_apart" "row_apart" lU f fd) (T:Txt K mg t) (eG:Ini1 P w K mg base t.Against 3 ["self","one","other"] (spI K (Ga t) dh 2 cY)):bx P w K mg base (CX1 P w) 5 f fd ["one","other"] (spD K (Ga t) 2 pY):=by
 obtain ⟨Li,GJ,n8,n6,ou⟩:=eG.ex
 refine zb F Kf fun cdv A outer s H E hr=>?_
 exact (az (bJ 2 (fun h=>bu (i:=2) Kf.nd rfl (by first | exact .inl rfl | exact .inr rfl) h) (Cj (c:=dh) rfl (nF n8 n6 (hr.mono (by decide)) rfl T.El ou .nil T9 (aj (aq 0 (pv 0)) (aj (aq 1 (pv 1)) aD))))) Eb)
abbrev pG:Stmt:=top 58
theorem Oe:aM ["one","other","table","against","stands","room","place"] ["one","other","table"] (ao pG):=⟨rfl,rfl,rfl,by decide +kernel,rfl,by decide +kernel,by decide +kernel⟩
def GK:DSt→Out Fl:=(bh (bZ 3 (oMk dh 2 cY (ak (gv 0) (ak (gv 1) aG)))) (fun _=>.stuck))
def tH:List D→Out D:=fun ds=>cQ 7 GK ds
theorem af7 {f:Addr} {fd:FuncData} (F:L2.Fun K "is_table" "is_table" pG f fd) (T:Txt K mg t) (eG:Ini1 P w K mg base t.Against 3 ["self","one","other"] (spI K (Ga t) dh 2 cY)):bx P w K mg base (CX1 P w) 5 f fd ["one","other","table"] (spD K (Ga t) 3 tH):=by
 obtain ⟨Li,GJ,n8,n6,ou⟩:=eG.ex
 refine zb F Oe fun cdv A outer s H E hr=>?_
 exact (az (bJ 3 (fun h=>bu (i:=3) Oe.nd rfl (by first | exact .inl rfl | exact .inr rfl) h) (Cj (c:=dh) rfl (nF n8 n6 (hr.mono (by decide)) rfl T.El ou .nil T9 (aj (aq 0 (pv 0)) (aj (aq 1 (pv 1)) aD))))) Eb)
abbrev jP:Stmt:=top 69
theorem X6:aM ["one","other","small","against","apart","row","action"] ["one","other"] (ao jP):=⟨rfl,rfl,rfl,by decide +kernel,rfl,by decide +kernel,by decide +kernel⟩
def zm:DSt→Out Fl:=(bh (nG (oF 2 cR (ak (gv 0) (ak (gv 1) aG)))) (fun _=>.stuck))
def mj:List D→Out D:=fun ds=>cQ 7 zm ds
theorem Xp {f:Addr} {fd:FuncData} (F:L2.Fun K "hall_apart" "hall_apart" jP f fd) (T:Txt K mg t) (eX:Aw P w K mg base "need_same" 2 ["one","other"] (spD K (Ga t) 2 cR)):bx P w K mg base (CX1 P w) 3 f fd ["one","other"] (spD K (Ga t) 2 mj):=by
 obtain ⟨kZ,JC,pZ,iZ,fM,dw⟩:=eX.ex
 refine zb F X6 fun cdv A outer s H E hr=>?_
 exact (az (uR (bO (aP pZ (hr.mono (by decide)) rfl fM dw iZ .nil T9 (aj (aq 0 (pv 0)) (aj (aq 1 (pv 1)) aD))))) Eb)
abbrev gB:Stmt:=top 71
theorem PX:aM ["_law_script","_law_k"] ["_law_script","_law_k"] (ao gB):=⟨rfl,rfl,rfl,by decide +kernel,rfl,by decide +kernel,by decide +kernel⟩
def um:DSt→Out Fl:=(bh (sIf (o2b ltD (gb 1) (o1 fK (gb 0))) (bY (o2 ixD (gvo 0) (gv 1))) fW)
 (bY (o2 dG (o2 oW (gv 1) (gv 1)) (kc (.int 7)))))
def bA:List D→Out D:=fun ds=>(cQ 2 um ds).bD
theorem Pz {f:Addr} {fd:FuncData} (F:L2.Fun K "_law_cell_at" "_law_cell_at" gB f fd) (T:Txt K mg t) :bx P w K mg base CX0 1 f fd ["_law_script","_law_k"] (spD K (Ga t) 2 bA):=by
 refine DL.Fun.okD F PX fun cdv A outer s H E hr=>?_
 exact (az (cU (dt_lt (aO 1 (pv 1)) (aQ (dO rfl T.iQ (aO 0 (pv 0))))) (aB (aY (d8 0 (pv 0) (aq 1 (pv 1))))) bR)
     (aB (aY (c7 (mH (aq 1 (pv 1)) (aq 1 (pv 1))) aC))))
abbrev jL:Stmt:=top 72
theorem wI:aM ["_law_cell","_law_k","_law_number"] ["_law_cell","_law_k"] (ao jL):=⟨rfl,rfl,rfl,by decide +kernel,rfl,by decide +kernel,by decide +kernel⟩
def JM:DSt→Out Fl:=(bh (bZ 2 (o2 cC (o2 dG (o2 dG (o2 oW (o2 cC (gv 0) (kc (.int 2147483647))) (kc (.int 48271))) (o2 oW (gv 1) (kc (.int 7919)))) (kc (.int 104729))) (kc (.int 2147483647))))
 (bh (bZ 2 (o2 cC (o2 dG (o2 dG (o2 oW (o2 cC (o2 oW (gv 2) (gv 2)) (kc (.int 2147483629))) (kc (.int 16807))) (o2 oW (gv 1) (kc (.int 104729)))) (kc (.int 11))) (kc (.int 2147483587))))
 (bY (o2 cC (o2 oW (gv 2) (gv 2)) (kc (.int 2147483549))))))
def aJ:List D→Out D:=fun ds=>(cQ 3 JM ds).bD
theorem Xl {f:Addr} {fd:FuncData} (F:L2.Fun K "_law_mixed" "_law_mixed" jL f fd) (T:Txt K mg t) :bx P w K mg base CX0 1 f fd ["_law_cell","_law_k"] (spD K (Ga t) 2 aJ):=by
 refine DL.Fun.okD F wI fun cdv A outer s H E hr=>?_
 exact (az (bJ 2 (fun h=>bu (i:=2) wI.nd rfl (by first | exact .inl rfl | exact .inr rfl) h) (cD (c7 (c7 (mH (cD (aq 0 (pv 0)) aC) aC) (mH (aq 1 (pv 1)) aC)) aC) aC))
     (az (bJ 2 (fun h=>bu (i:=2) wI.nd rfl (by first | exact .inl rfl | exact .inr rfl) h) (cD (c7 (c7 (mH (cD (mH (aq 2 (pv 2)) (aq 2 (pv 2))) aC) aC) (mH (aq 1 (pv 1)) aC)) aC) aC))
     (aB (aY (cD (mH (aq 2 (pv 2)) (aq 2 (pv 2))) aC)))))
abbrev sW:Stmt:=top 73
theorem aiS:aM ["_law_found","_law_due"] ["_law_found","_law_due"] (ao sW):=⟨rfl,rfl,rfl,by decide +kernel,rfl,by decide +kernel,by decide +kernel⟩
def YZ:DSt→Out Fl:=(bY (K1 (Al u9 (gb 0)) (K1 (Tr (Al qj (gb 0))) (bV (o2b eqD (gb 0) (gb 1))))))
def rZ:List D→Out D:=fun ds=>(cQ 2 YZ ds).bD
theorem ait {f:Addr} {fd:FuncData} (F:L2.Fun K "_law_is" "_law_is" sW f fd) (T:Txt K mg t) :bx P w K mg base CX0 1 f fd ["_law_found","_law_due"] (spD K (Ga t) 2 rZ):=by
 refine DL.Fun.okD F aiS fun cdv A outer s H E hr=>?_
 exact (aB (aY (Ce (oJ (cv:=.ty "int") (.inr rfl) T.u9 rfl T.cj (aO 0 (pv 0)) (kJ rfl T.b_int (by decide +kernel) rfl)) (Ce (aaO (oJ (cv:=.ty "bool") (.inr rfl) T.qj rfl T.cj (aO 0 (pv 0)) (kJ rfl T.b_bool (by decide +kernel) rfl))) (Gy (YL hr.units (aO 0 (pv 0)) (aO 1 (pv 1))))))))
abbrev jM:Stmt:=top 74
theorem dB:aM ["_law_cell","_law_many","_law_size","_law_at","_law_names_here","_law_k","_law_name","_law_j"] ["_law_cell","_law_many"] (ao jM):=⟨rfl,rfl,rfl,by decide +kernel,rfl,by decide +kernel,by decide +kernel⟩
def ji:DSt→Out Fl:=(bZ 6 (o2 dG (gv 6) (o2 ixD (kc (.str "abcdefghijklmnopqrstuvwxyz")) (o2 cC (o2 dG (oF 2 aJ (ak (gv 0) (ak (o2 dG (kc (.int 4)) (gv 7)) aG))) (o2 oW (o2 oW (kc (.int 3)) (gv 5)) (o1 intD (bV (o2b eqD (gb 7) (gb 3)))))) (kc (.int 26))))))
def mZ:DSt→Out Fl:=(bh (bZ 6 (kc (.str "")))
 (bh (ig (HB (gv 2)) (gN 7) ji)
 (xq 4 (gv 6))))
def zg:DSt→Out Fl:=(bh (bZ 2 (o2 dG (kc (.int 1)) (o2 cC (oF 2 aJ (ak (gv 0) (ak (kc (.int 2)) aG))) (kc (.int 8)))))
 (bh (bZ 3 (o2 cC (oF 2 aJ (ak (gv 0) (ak (kc (.int 3)) aG))) (gv 2)))
 (bh (rn 4 (tV aG))
 (bh (ig (HB (gv 1)) (gN 5) mZ)
 (Us 4)))))
def lZ:List D→Out D:=fun ds=>(cQ 8 zg ds).bD
theorem Xm {f:Addr} {fd:FuncData} (F:L2.Fun K "_law_names" "_law_names" jM f fd) (T:Txt K mg t) (aX:Def P w K mg base "_law_mixed" 1 ["_law_cell","_law_k"] (spD K (Ga t) 2 aJ)):bx P w K mg base CX0 2 f fd ["_law_cell","_law_many"] (spD K (Ga t) 2 lZ):=by
 obtain ⟨cM,fU,bC,bw,bj,bf⟩:=aX.ex
 refine DL.Fun.okD F dB fun cdv A outer s H E hr=>?_
 exact (az (bJ 2 (fun h=>bu (i:=2) dB.nd rfl (by first | exact .inl rfl | exact .inr rfl) h) (c7 aC (cD (bO (aP bC (hr.mono (by decide)) rfl bj bf bw .nil bB (aj (aq 0 (pv 0)) (aj aC aD)))) aC)))
     (az (bJ 3 (fun h=>bu (i:=3) dB.nd rfl (by first | exact .inl rfl | exact .inr rfl) h) (cD (bO (aP bC (hr.mono (by decide)) rfl bj bf bw .nil bB (aj (aq 0 (pv 0)) (aj aC aD)))) (aq 2 (pv 2))))
     (az (rB 4 (fun h=>bu (i:=4) dB.nd rfl (by first | exact .inl rfl | exact .inr rfl) h) (yH aD))
     (az (jd (fun a b c=>jm PassesOwn.never rfl a b c) (gj rfl T.mC (aq 1 (pv 1))) (bF (bG (i:=5) dB.nd rfl (by first | exact .inl rfl | exact .inr rfl))) (az (bJ 6 (fun h=>bu (i:=6) dB.nd rfl (by first | exact .inl rfl | exact .inr rfl) h) cg)
     (az (jd (fun a b c=>jm PassesOwn.never rfl a b c) (gj rfl T.mC (aq 2 (pv 2))) (bF (bG (i:=7) dB.nd rfl (by first | exact .inl rfl | exact .inr rfl))) (aB (bJ 6 (fun h=>bu (i:=6) dB.nd rfl (by first | exact .inl rfl | exact .inr rfl) h) (c7 (aq 6 (pv 6)) (wV cg (cD (c7 (bO (aP bC (hr.mono (by decide)) rfl bj bf bw .nil bB (aj (aq 0 (pv 0)) (aj (c7 aC (aq 7 (pv 7))) aD)))) (mH (mH aC (aq 5 (pv 5))) (de_int1 rfl T.b_int (YL hr.units (aO 7 (pv 7)) (aO 3 (pv 3)))))) aC))))))
     (aB (GC 4 (pv 4) (aq 6 (pv 6)) (fun a b=>gR (J1 PySem.F.plainAttrs_list PySem.F.slot_list_append PySem.F.type_list_append lB a (bW b dU))))))))
     (aB (Jw 4 (pv 4)))))))
abbrev jO:Stmt:=top 75
theorem Gb:aM ["_law_cell","_law_number"] ["_law_cell"] (ao jO):=⟨rfl,rfl,rfl,by decide +kernel,rfl,by decide +kernel,by decide +kernel⟩
def zj:DSt→Out Fl:=(bh (bZ 1 (oF 2 aJ (ak (gv 0) (ak (kc (.int 12)) aG))))
 (bh (sIf (o2b eqD (o2 cC (o2 gJ (gv 1) (kc (.int 16))) (kc (.int 8))) (kc (.int 0))) (bY (cZ (ak (kc (.int 8)) (ak (o2 dG (kc (.int 1)) (o2 cC (o2 gJ (gv 1) (kc (.int 4))) (kc (.int 4)))) aG)))) fW)
 (bh (sIf (o2b eqD (o2 cC (o2 gJ (gv 1) (kc (.int 16))) (kc (.int 8))) (kc (.int 1))) (bY (cZ (ak (o2 dG (kc (.int 1)) (o2 cC (gv 1) (kc (.int 4)))) (ak (kc (.int 8)) aG)))) fW)
 (bY (cZ (ak (o2 dG (kc (.int 1)) (o2 cC (gv 1) (kc (.int 4)))) (ak (o2 dG (kc (.int 1)) (o2 cC (o2 gJ (gv 1) (kc (.int 4))) (kc (.int 4)))) aG)))))))
def jq:List D→Out D:=fun ds=>(cQ 2 zj ds).bD
theorem Xo {f:Addr} {fd:FuncData} (F:L2.Fun K "_law_sizes" "_law_sizes" jO f fd) (T:Txt K mg t) (aX:Def P w K mg base "_law_mixed" 1 ["_law_cell","_law_k"] (spD K (Ga t) 2 aJ)):bx P w K mg base CX0 2 f fd ["_law_cell"] (spD K (Ga t) 1 jq):=by
 obtain ⟨cM,fU,bC,bw,bj,bf⟩:=aX.ex
 refine DL.Fun.okD F Gb fun cdv A outer s H E hr=>?_
 exact (az (bJ 1 (fun h=>bu (i:=1) Gb.nd rfl (by first | exact .inl rfl | exact .inr rfl) h) (bO (aP bC (hr.mono (by decide)) rfl bj bf bw .nil bB (aj (aq 0 (pv 0)) (aj aC aD)))))
     (az (cU (jZ hr.units (aQ (cD (kj (aq 1 (pv 1)) aC) aC)) (aQ aC)) (aB (aY (fQ (aj aC (aj (c7 aC (cD (kj (aq 1 (pv 1)) aC) aC)) aD))))) bR)
     (az (cU (jZ hr.units (aQ (cD (kj (aq 1 (pv 1)) aC) aC)) (aQ aC)) (aB (aY (fQ (aj (c7 aC (cD (aq 1 (pv 1)) aC)) (aj aC aD))))) bR)
     (aB (aY (fQ (aj (c7 aC (cD (aq 1 (pv 1)) aC)) (aj (c7 aC (cD (kj (aq 1 (pv 1)) aC) aC)) aD))))))))
abbrev lN:Stmt:=top 76
theorem fP:aM ["_law_script","_law_at","_law_rooms","_law_many","_law_rows_here","_law_room","_law_cell","_law_doors","_law_action","_law_number","_law_some"] ["_law_script","_law_at","_law_rooms","_law_many"] (ao lN):=⟨rfl,rfl,rfl,by decide +kernel,rfl,by decide +kernel,by decide +kernel⟩
def j6:DSt→Out Fl:=(bh (bZ 9 (oF 2 aJ (ak (gv 6) (ak (o2 dG (o2 dG (kc (.int 20)) (o2 oW (kc (.int 9)) (gv 5))) (gv 8)) aG))))
 (bh (bZ 10 (jl (ak (cZ (ak (kc (.str "must")) (ak (o2 cC (o2 gJ (gv 9) (kc (.int 4))) (gv 2)) aG))) (ak (cZ (ak (kc (.str "may")) (ak (o2 cC (o2 gJ (gv 9) (kc (.int 4))) (gv 2)) aG))) (ak (cZ (ak (kc (.str "shut")) (ak (kc .non) aG))) aG)))))
 (xq 7 (o2 ixD (gvo 10) (o2 ixD (jl (ak (kc (.int 0)) (ak (kc (.int 1)) (ak (kc (.int 1)) (ak (kc (.int 2)) aG))))) (o2 cC (gv 9) (kc (.int 4))))))))
def wF:DSt→Out Fl:=(bh (bZ 6 (oF 2 bA (ak (gv 0) (ak (o2 dG (gv 1) (gv 5)) aG))))
 (bh (rn 7 (tV aG))
 (bh (ig (HB (gv 3)) (gN 8) j6)
 (frzd 7 (xq 4 (gv 7))))))
def Cr:DSt→Out Fl:=(bh (rn 4 (tV aG))
 (bh (ig (HB (gv 2)) (gN 5) wF)
 (Us 4)))
def iT:List D→Out D:=fun ds=>(cQ 11 Cr ds).bD
theorem acG {f:Addr} {fd:FuncData} (F:L2.Fun K "_law_rows" "_law_rows" lN f fd) (T:Txt K mg t) (cL:Def P w K mg base "_law_cell_at" 1 ["_law_script","_law_k"] (spD K (Ga t) 2 bA)) (aX:Def P w K mg base "_law_mixed" 1 ["_law_cell","_law_k"] (spD K (Ga t) 2 aJ)):bx P w K mg base CX0 2 f fd ["_law_script","_law_at","_law_rooms","_law_many"] (spD K (Ga t) 4 iT):=by
 obtain ⟨gk,Ab,cX,cG,bU,bN⟩:=cL.ex
 obtain ⟨cM,fU,bC,bw,bj,bf⟩:=aX.ex
 refine DL.Fun.okD F fP fun cdv A outer s H E hr=>?_
 exact (az (rB 4 (fun h=>bu (i:=4) fP.nd rfl (by first | exact .inl rfl | exact .inr rfl) h) (yH aD))
     (az (jd (fun a b c=>jm PassesOwn.never rfl a b c) (gj rfl T.mC (aq 2 (pv 2))) (bF (bG (i:=5) fP.nd rfl (by first | exact .inl rfl | exact .inr rfl))) (az (bJ 6 (fun h=>bu (i:=6) fP.nd rfl (by first | exact .inl rfl | exact .inr rfl) h) (bO (aP cX (hr.mono (by decide)) rfl bU bN cG .nil bB (aj (aq 0 (pv 0)) (aj (c7 (aq 1 (pv 1)) (aq 5 (pv 5))) aD)))))
     (az (rB 7 (fun h=>bu (i:=7) fP.nd rfl (by first | exact .inl rfl | exact .inr rfl) h) (yH aD))
     (az (jd (fun a b c=>jm PassesOwn.never rfl a b c) (gj rfl T.mC (aq 3 (pv 3))) (bF (bG (i:=8) fP.nd rfl (by first | exact .inl rfl | exact .inr rfl))) (az (bJ 9 (fun h=>bu (i:=9) fP.nd rfl (by first | exact .inl rfl | exact .inr rfl) h) (bO (aP bC (hr.mono (by decide)) rfl bj bf bw .nil bB (aj (aq 6 (pv 6)) (aj (c7 (c7 aC (mH aC (aq 5 (pv 5)))) (aq 8 (pv 8))) aD)))))
     (az (bJ 10 (fun h=>bu (i:=10) fP.nd rfl (by first | exact .inl rfl | exact .inr rfl) h) (yE (aj (fQ (aj cg (aj (cD (kj (aq 9 (pv 9)) aC) (aq 2 (pv 2))) aD))) (aj (fQ (aj cg (aj (cD (kj (aq 9 (pv 9)) aC) (aq 2 (pv 2))) aD))) (aj (fQ (aj cg (aj yF aD))) aD)))))
     (aB (GC 7 (pv 7) (d8 10 (pv 10) (wV (yE (aj aC (aj aC (aj aC (aj aC aD))))) (cD (aq 9 (pv 9)) aC))) (fun a b=>gR (J1 PySem.F.plainAttrs_list PySem.F.slot_list_append PySem.F.type_list_append lB a (bW b dU))))))))
     (aB (R4 7 (GC 4 (pv 4) (aq 7 (pv 7)) (fun a b=>gR (J1 PySem.F.plainAttrs_list PySem.F.slot_list_append PySem.F.type_list_append lB a (bW b dU))))))))))
     (aB (Jw 4 (pv 4)))))
abbrev eU:Stmt:=top 77
theorem bI:aM ["_law_rows_here","_law_cell","_law_found","_law_room","_law_doors","_law_row","_law_action","_law_word","_law_to","_law_number"] ["_law_rows_here","_law_cell"] (ao eU):=⟨rfl,rfl,rfl,by decide +kernel,rfl,by decide +kernel,by decide +kernel⟩
def fH:DSt→Out Fl:=(bh (Ka (o2 ixD (gvo 4) (gv 6)) (gT 2 (cz (gN 7) (cz (gN 8) mX))))
 (bh (bZ 9 (oF 2 aJ (ak (gv 1) (ak (o2 dG (o2 dG (kc (.int 100)) (o2 oW (kc (.int 9)) (gv 3))) (gv 6)) aG))))
 (bh (sIf (uK (o2b eqD (o2 cC (gv 9) (kc (.int 3))) (kc (.int 0))) (o2b eqD (gb 7) (kc (.str "must")))) (bZ 7 (kc (.str "may"))) (sIf (uK (o2b eqD (o2 cC (gv 9) (kc (.int 3))) (kc (.int 0))) (o2b eqD (gb 7) (kc (.str "shut")))) (bh (bZ 7 (kc (.str "may")))
 (bZ 8 (o2 cC (o2 gJ (gv 9) (kc (.int 3))) (o1 fK (gb 0))))) fW))
 (xq 5 (cZ (ak (gv 7) (ak (gv 8) aG)))))))
def mY:DSt→Out Fl:=(bh (rn 5 (tV aG))
 (bh (ig (HB (o1 fK (gb 4))) (gN 6) fH)
 (frzd 5 (xq 2 (gv 5)))))
def qJ:DSt→Out Fl:=(bh (rn 2 (tV aG))
 (bh (ig (enum (gv 0)) (gT 2 (cz (gN 3) (cz (gN 4) mX))) mY)
 (Us 2)))
def eE:List D→Out D:=fun ds=>(cQ 10 qJ ds).bD
theorem Ml {f:Addr} {fd:FuncData} (F:L2.Fun K "_law_loosened" "_law_loosened" eU f fd) (T:Txt K mg t) (aX:Def P w K mg base "_law_mixed" 1 ["_law_cell","_law_k"] (spD K (Ga t) 2 aJ)):bx P w K mg base CX0 2 f fd ["_law_rows_here","_law_cell"] (spD K (Ga t) 2 eE):=by
 obtain ⟨cM,fU,bC,bw,bj,bf⟩:=aX.ex
 refine DL.Fun.okD F bI fun cdv A outer s H E hr=>?_
 exact (az (rB 2 (fun h=>bu (i:=2) bI.nd rfl (by first | exact .inl rfl | exact .inr rfl) h) (yH aD))
     (az (jd (fun a b c=>jm PassesOwn.never rfl a b c) (aa5 rfl T.Bm (aq 0 (pv 0))) (Gz (n:=2) (fun h=>Hy rfl h) (fj (bF (bG (i:=3) bI.nd rfl (by first | exact .inl rfl | exact .inr rfl))) (fj (bF (bG (i:=4) bI.nd rfl (by first | exact .inl rfl | exact .inr rfl))) yI (fun a b=>fO a b)) (fun a b=>fO a b))) (az (rB 5 (fun h=>bu (i:=5) bI.nd rfl (by first | exact .inl rfl | exact .inr rfl) h) (yH aD))
     (az (jd (fun a b c=>jm PassesOwn.never rfl a b c) (gj rfl T.mC (dO rfl T.iQ (aO 4 (pv 4)))) (bF (bG (i:=6) bI.nd rfl (by first | exact .inl rfl | exact .inr rfl))) (az (aa9 (fun a b=>Uk a b) (d8 4 (pv 4) (aq 6 (pv 6))) (Gz (n:=2) (fun h=>Hy rfl h) (fj (bF (bG (i:=7) bI.nd rfl (by first | exact .inl rfl | exact .inr rfl))) (fj (bF (bG (i:=8) bI.nd rfl (by first | exact .inl rfl | exact .inr rfl))) yI (fun a b=>fO a b)) (fun a b=>fO a b))))
     (az (bJ 9 (fun h=>bu (i:=9) bI.nd rfl (by first | exact .inl rfl | exact .inr rfl) h) (bO (aP bC (hr.mono (by decide)) rfl bj bf bw .nil bB (aj (aq 1 (pv 1)) (aj (c7 (c7 aC (mH aC (aq 3 (pv 3)))) (aq 6 (pv 6))) aD)))))
     (az (cU (GD (GF (jZ hr.units (aQ (cD (aq 9 (pv 9)) aC)) (aQ aC)) (yK (jZ hr.units (aO 7 (pv 7)) (aQ cg))))) (aB (bJ 7 (fun h=>bu (i:=7) bI.nd rfl (by first | exact .inl rfl | exact .inr rfl) h) cg)) (aB (cU (GD (GF (jZ hr.units (aQ (cD (aq 9 (pv 9)) aC)) (aQ aC)) (yK (jZ hr.units (aO 7 (pv 7)) (aQ cg))))) (az (bJ 7 (fun h=>bu (i:=7) bI.nd rfl (by first | exact .inl rfl | exact .inr rfl) h) cg)
     (aB (bJ 8 (fun h=>bu (i:=8) bI.nd rfl (by first | exact .inl rfl | exact .inr rfl) h) (cD (kj (aq 9 (pv 9)) aC) (dO rfl T.iQ (aO 0 (pv 0))))))) bR)))
     (aB (GC 5 (pv 5) (fQ (aj (aq 7 (pv 7)) (aj (aq 8 (pv 8)) aD))) (fun a b=>gR (J1 PySem.F.plainAttrs_list PySem.F.slot_list_append PySem.F.type_list_append lB a (bW b dU)))))))))
     (aB (R4 5 (GC 2 (pv 2) (aq 5 (pv 5)) (fun a b=>gR (J1 PySem.F.plainAttrs_list PySem.F.slot_list_append PySem.F.type_list_append lB a (bW b dU)))))))))
     (aB (Jw 2 (pv 2)))))
abbrev eV:Stmt:=top 78
theorem cA:aM ["_law_rows_here","_law_cell","_law_many","_law_found","_law_room","_law_row","_law_action","_law_word","_law_to"] ["_law_rows_here","_law_cell"] (ao eV):=⟨rfl,rfl,rfl,by decide +kernel,rfl,by decide +kernel,by decide +kernel⟩
def fJ:DSt→Out Fl:=(bh (Ka (o2 ixD (o2 ixD (gvo 0) (o2 cC (gv 4) (gv 2))) (gv 6)) (gT 2 (cz (gN 7) (cz (gN 8) mX))))
 (bh (sIf (o2b neD (gb 7) (kc (.str "shut"))) (bZ 8 (o2 dG (gv 8) (o2 oW (gv 2) (o2 cC (oF 2 aJ (ak (gv 1) (ak (o2 dG (o2 dG (kc (.int 200)) (o2 oW (kc (.int 9)) (gv 4))) (gv 6)) aG))) (kc (.int 2)))))) fW)
 (xq 5 (cZ (ak (gv 7) (ak (gv 8) aG))))))
def m5:DSt→Out Fl:=(bh (rn 5 (tV aG))
 (bh (ig (HB (o1 fK (o2 ixD (gvo 0) (kc (.int 0))))) (gN 6) fJ)
 (frzd 5 (xq 3 (gv 5)))))
def qK:DSt→Out Fl:=(bh (bZ 2 (o1 fK (gb 0)))
 (bh (rn 3 (tV aG))
 (bh (ig (HB (o2 oW (kc (.int 2)) (gv 2))) (gN 4) m5)
 (Us 3))))
def eF:List D→Out D:=fun ds=>(cQ 9 qK ds).bD
theorem Mm {f:Addr} {fd:FuncData} (F:L2.Fun K "_law_unfolded" "_law_unfolded" eV f fd) (T:Txt K mg t) (aX:Def P w K mg base "_law_mixed" 1 ["_law_cell","_law_k"] (spD K (Ga t) 2 aJ)):bx P w K mg base CX0 2 f fd ["_law_rows_here","_law_cell"] (spD K (Ga t) 2 eF):=by
 obtain ⟨cM,fU,bC,bw,bj,bf⟩:=aX.ex
 refine DL.Fun.okD F cA fun cdv A outer s H E hr=>?_
 exact (az (bJ 2 (fun h=>bu (i:=2) cA.nd rfl (by first | exact .inl rfl | exact .inr rfl) h) (dO rfl T.iQ (aO 0 (pv 0))))
     (az (rB 3 (fun h=>bu (i:=3) cA.nd rfl (by first | exact .inl rfl | exact .inr rfl) h) (yH aD))
     (az (jd (fun a b c=>jm PassesOwn.never rfl a b c) (gj rfl T.mC (mH aC (aq 2 (pv 2)))) (bF (bG (i:=4) cA.nd rfl (by first | exact .inl rfl | exact .inr rfl))) (az (rB 5 (fun h=>bu (i:=5) cA.nd rfl (by first | exact .inl rfl | exact .inr rfl) h) (yH aD))
     (az (jd (fun a b c=>jm PassesOwn.never rfl a b c) (gj rfl T.mC (dO rfl T.iQ (aQ (d8 0 (pv 0) aC)))) (bF (bG (i:=6) cA.nd rfl (by first | exact .inl rfl | exact .inr rfl))) (az (aa9 (fun a b=>Uk a b) (wV (d8 0 (pv 0) (cD (aq 4 (pv 4)) (aq 2 (pv 2)))) (aq 6 (pv 6))) (Gz (n:=2) (fun h=>Hy rfl h) (fj (bF (bG (i:=7) cA.nd rfl (by first | exact .inl rfl | exact .inr rfl))) (fj (bF (bG (i:=8) cA.nd rfl (by first | exact .inl rfl | exact .inr rfl))) yI (fun a b=>fO a b)) (fun a b=>fO a b))))
     (az (cU (R5 hr.units (aO 7 (pv 7)) (aQ cg)) (aB (bJ 8 (fun h=>bu (i:=8) cA.nd rfl (by first | exact .inl rfl | exact .inr rfl) h) (c7 (aq 8 (pv 8)) (mH (aq 2 (pv 2)) (cD (bO (aP bC (hr.mono (by decide)) rfl bj bf bw .nil bB (aj (aq 1 (pv 1)) (aj (c7 (c7 aC (mH aC (aq 4 (pv 4)))) (aq 6 (pv 6))) aD)))) aC))))) bR)
     (aB (GC 5 (pv 5) (fQ (aj (aq 7 (pv 7)) (aj (aq 8 (pv 8)) aD))) (fun a b=>gR (J1 PySem.F.plainAttrs_list PySem.F.slot_list_append PySem.F.type_list_append lB a (bW b dU))))))))
     (aB (R4 5 (GC 3 (pv 3) (aq 5 (pv 5)) (fun a b=>gR (J1 PySem.F.plainAttrs_list PySem.F.slot_list_append PySem.F.type_list_append lB a (bW b dU)))))))))
     (aB (Jw 3 (pv 3))))))
abbrev iD:Stmt:=top 79
theorem gG:aM ["_law_rows_here","_law_cell","_law_number","_law_room","_law_action","_law_to","_law_found"] ["_law_rows_here","_law_cell"] (ao iD):=⟨rfl,rfl,rfl,by decide +kernel,rfl,by decide +kernel,by decide +kernel⟩
def Ae:DSt→Out (List D):=(uI (gv 0))
def wk:DSt→Out Fl:=(bh (bZ 2 (oF 2 aJ (ak (gv 1) (ak (kc (.int 400)) aG))))
 (bh (bZ 3 (o2 cC (gv 2) (o1 fK (gb 0))))
 (bh (bZ 4 (o2 cC (o2 gJ (gv 2) (kc (.int 8))) (o1 fK (o2 ixD (gvo 0) (kc (.int 0))))))
 (bh (bZ 5 (o2 cC (o2 gJ (gv 2) (kc (.int 64))) (o1 fK (gb 0))))
 (bh (Dw 6 (nR [none] (uI (gv 0)) (gN 0) (fun _=>.ok true) Ae))
 (bh (Od 6 (o2 ixD (jl (ak (cZ (ak (kc (.str "must")) (ak (gv 5) aG))) (ak (cZ (ak (kc (.str "may")) (ak (gv 5) aG))) (ak (cZ (ak (kc (.str "shut")) (ak (kc .non) aG))) aG)))) (o2 cC (o2 gJ (gv 2) (kc (.int 512))) (kc (.int 3)))) (gv 3) (gv 4))
 (Us 6)))))))
def ir:List D→Out D:=fun ds=>(cQ 7 wk ds).bD
theorem T6 {f:Addr} {fd:FuncData} (F:L2.Fun K "_law_spoilt" "_law_spoilt" iD f fd) (T:Txt K mg t) (aX:Def P w K mg base "_law_mixed" 1 ["_law_cell","_law_k"] (spD K (Ga t) 2 aJ)):bx P w K mg base CX0 2 f fd ["_law_rows_here","_law_cell"] (spD K (Ga t) 2 ir):=by
 obtain ⟨cM,fU,bC,bw,bj,bf⟩:=aX.ex
 refine DL.Fun.okD F gG fun cdv A outer s H E hr=>?_
 exact (az (bJ 2 (fun h=>bu (i:=2) gG.nd rfl (by first | exact .inl rfl | exact .inr rfl) h) (bO (aP bC (hr.mono (by decide)) rfl bj bf bw .nil bB (aj (aq 1 (pv 1)) (aj aC aD)))))
     (az (bJ 3 (fun h=>bu (i:=3) gG.nd rfl (by first | exact .inl rfl | exact .inr rfl) h) (cD (aq 2 (pv 2)) (dO rfl T.iQ (aO 0 (pv 0)))))
     (az (bJ 4 (fun h=>bu (i:=4) gG.nd rfl (by first | exact .inl rfl | exact .inr rfl) h) (cD (kj (aq 2 (pv 2)) aC) (dO rfl T.iQ (aQ (d8 0 (pv 0) aC)))))
     (az (bJ 5 (fun h=>bu (i:=5) gG.nd rfl (by first | exact .inl rfl | exact .inr rfl) h) (cD (kj (aq 2 (pv 2)) aC) (dO rfl T.iQ (aO 0 (pv 0)))))
     (az (aj4 6 (fun a b c d=>aiM (i:=6) (N':=["_law_doors"]) (cap:=[none]) ⟨rfl,rfl,by decide +kernel,by decide +kernel,by rfl,trivial,⟨trivial,trivial⟩⟩ rfl gG.nd rfl (by first | exact .inl rfl | exact .inr rfl) a b c d rfl) (Ci (aq 0 (pv 0))) (sh_n 0) (fun _ _ _ _ _=>(bF (bG (i:=0) (show (["_law_doors"]:List Str).Nodup by decide +kernel) rfl (by first | exact .inl rfl | exact .inr rfl)))) (fun _ _ _ _ _=>Ec) (fun _ _ _ _ _=>(ajf rfl T.Rg (aq 0 (pv 0)))))
     (az (ds_put2 6 (pv 6) (wV (yE (aj (fQ (aj cg (aj (aq 5 (pv 5)) aD))) (aj (fQ (aj cg (aj (aq 5 (pv 5)) aD))) (aj (fQ (aj cg (aj yF aD))) aD)))) (cD (kj (aq 2 (pv 2)) aC) aC)) (aq 3 (pv 3)) (aq 4 (pv 4)) (fun a b c=>Uk a (pg_sub b c set_list)))
     (aB (Jw 6 (pv 6)))))))))
abbrev lM:Stmt:=top 80
theorem dm:aM ["_law_script","_law_rooms","_law_many","_law_one","_law_cell","_law_way","_law_other"] ["_law_script"] (ao lM):=⟨rfl,rfl,rfl,by decide +kernel,rfl,by decide +kernel,by decide +kernel⟩
def Cq:DSt→Out Fl:=(bh (Ka (oF 1 jq (ak (oF 2 bA (ak (gv 0) (ak (kc (.int 0)) aG))) aG)) (gT 2 (cz (gN 1) (cz (gN 2) mX))))
 (bh (bZ 3 (oF 4 iT (ak (gv 0) (ak (kc (.int 3)) (ak (gv 1) (ak (gv 2) aG))))))
 (bh (bZ 4 (oF 2 bA (ak (gv 0) (ak (kc (.int 1)) aG))))
 (bh (bZ 5 (o2 cC (oF 2 aJ (ak (gv 4) (ak (kc (.int 13)) aG))) (kc (.int 5))))
 (bh (sIf (o2b eqD (gb 5) (kc (.int 0))) (bY (cZ (ak (gv 3) (ak (oF 4 iT (ak (gv 0) (ak (kc (.int 11)) (ak (o2 dG (kc (.int 1)) (o2 cC (oF 2 aJ (ak (gv 4) (ak (kc (.int 14)) aG))) (kc (.int 4)))) (ak (gv 2) aG))))) aG)))) fW)
 (bh (bZ 6 (oF 2 eE (ak (gv 3) (ak (gv 4) aG))))
 (bh (sIf (o2b gtD (gb 5) (kc (.int 2))) (bZ 3 (oF 2 eF (ak (gv 3) (ak (gv 4) aG)))) fW)
 (bh (sIf (o2b eqD (o2 cC (gv 5) (kc (.int 2))) (kc (.int 0))) (bZ 3 (oF 2 ir (ak (gv 3) (ak (oF 2 bA (ak (gv 0) (ak (kc (.int 2)) aG))) aG)))) fW)
 (bY (cZ (ak (gv 3) (ak (gv 6) aG))))))))))))
def pX:List D→Out D:=fun ds=>(cQ 7 Cq ds).bD
theorem acF {f:Addr} {fd:FuncData} (F:L2.Fun K "_law_pair" "_law_pair" lM f fd) (T:Txt K mg t) (xJ:Def P w K mg base "_law_sizes" 2 ["_law_cell"] (spD K (Ga t) 1 jq)) (cL:Def P w K mg base "_law_cell_at" 1 ["_law_script","_law_k"] (spD K (Ga t) 2 bA)) (Aq:Def P w K mg base "_law_rows" 2 ["_law_script","_law_at","_law_rooms","_law_many"] (spD K (Ga t) 4 iT)) (aX:Def P w K mg base "_law_mixed" 1 ["_law_cell","_law_k"] (spD K (Ga t) 2 aJ)) (qx:Def P w K mg base "_law_loosened" 2 ["_law_rows_here","_law_cell"] (spD K (Ga t) 2 eE)) (qy:Def P w K mg base "_law_unfolded" 2 ["_law_rows_here","_law_cell"] (spD K (Ga t) 2 eF)) (vq:Def P w K mg base "_law_spoilt" 2 ["_law_rows_here","_law_cell"] (spD K (Ga t) 2 ir)):bx P w K mg base CX0 3 f fd ["_law_script"] (spD K (Ga t) 1 pX):=by
 obtain ⟨rH,fd__law_sizes,Zn,yd,nj,jy⟩:=xJ.ex
 obtain ⟨gk,Ab,cX,cG,bU,bN⟩:=cL.ex
 obtain ⟨uX,fd__law_rows,MN,uO,lA,jg⟩:=Aq.ex
 obtain ⟨cM,fU,bC,bw,bj,bf⟩:=aX.ex
 obtain ⟨km,aj6,Oj,qz,gY,eN⟩:=qx.ex
 obtain ⟨kE,aj7,Ol,qC,gZ,eO⟩:=qy.ex
 obtain ⟨pM,fd__law_spoilt,Vb,vK,j7,iu⟩:=vq.ex
 refine DL.Fun.okD F dm fun cdv A outer s H E hr=>?_
 exact (az (aa9 (fun a b=>Uk a b) (bO (aP Zn (hr.mono (by decide)) rfl nj jy yd .nil bB (aj (bO (aP cX (hr.mono (by decide)) rfl bU bN cG .nil bB (aj (aq 0 (pv 0)) (aj aC aD)))) aD))) (Gz (n:=2) (fun h=>Hy rfl h) (fj (bF (bG (i:=1) dm.nd rfl (by first | exact .inl rfl | exact .inr rfl))) (fj (bF (bG (i:=2) dm.nd rfl (by first | exact .inl rfl | exact .inr rfl))) yI (fun a b=>fO a b)) (fun a b=>fO a b))))
     (az (bJ 3 (fun h=>bu (i:=3) dm.nd rfl (by first | exact .inl rfl | exact .inr rfl) h) (bO (aP MN (hr.mono (by decide)) rfl lA jg uO .nil bB (aj (aq 0 (pv 0)) (aj aC (aj (aq 1 (pv 1)) (aj (aq 2 (pv 2)) aD)))))))
     (az (bJ 4 (fun h=>bu (i:=4) dm.nd rfl (by first | exact .inl rfl | exact .inr rfl) h) (bO (aP cX (hr.mono (by decide)) rfl bU bN cG .nil bB (aj (aq 0 (pv 0)) (aj aC aD)))))
     (az (bJ 5 (fun h=>bu (i:=5) dm.nd rfl (by first | exact .inl rfl | exact .inr rfl) h) (cD (bO (aP bC (hr.mono (by decide)) rfl bj bf bw .nil bB (aj (aq 4 (pv 4)) (aj aC aD)))) aC))
     (az (cU (jZ hr.units (aO 5 (pv 5)) (aQ aC)) (aB (aY (fQ (aj (aq 3 (pv 3)) (aj (bO (aP MN (hr.mono (by decide)) rfl lA jg uO .nil bB (aj (aq 0 (pv 0)) (aj aC (aj (c7 aC (cD (bO (aP bC (hr.mono (by decide)) rfl bj bf bw .nil bB (aj (aq 4 (pv 4)) (aj aC aD)))) aC)) (aj (aq 2 (pv 2)) aD)))))) aD))))) bR)
     (az (bJ 6 (fun h=>bu (i:=6) dm.nd rfl (by first | exact .inl rfl | exact .inr rfl) h) (bO (aP Oj (hr.mono (by decide)) rfl gY eN qz .nil bB (aj (aq 3 (pv 3)) (aj (aq 4 (pv 4)) aD)))))
     (az (cU (dt_gt (aO 5 (pv 5)) (aQ aC)) (aB (bJ 3 (fun h=>bu (i:=3) dm.nd rfl (by first | exact .inl rfl | exact .inr rfl) h) (bO (aP Ol (hr.mono (by decide)) rfl gZ eO qC .nil bB (aj (aq 3 (pv 3)) (aj (aq 4 (pv 4)) aD)))))) bR)
     (az (cU (jZ hr.units (aQ (cD (aq 5 (pv 5)) aC)) (aQ aC)) (aB (bJ 3 (fun h=>bu (i:=3) dm.nd rfl (by first | exact .inl rfl | exact .inr rfl) h) (bO (aP Vb (hr.mono (by decide)) rfl j7 iu vK .nil bB (aj (aq 3 (pv 3)) (aj (bO (aP cX (hr.mono (by decide)) rfl bU bN cG .nil bB (aj (aq 0 (pv 0)) (aj aC aD)))) aD)))))) bR)
     (aB (aY (fQ (aj (aq 3 (pv 3)) (aj (aq 6 (pv 6)) aD)))))))))))))
abbrev jK:Stmt:=top 81
theorem pW:aM ["_law_one","_law_other","_law_pair_here","_law_action","_law_mine","_law_theirs"] ["_law_one","_law_other","_law_pair_here"] (ao jK):=⟨rfl,rfl,rfl,by decide +kernel,rfl,by decide +kernel,by decide +kernel⟩
def cN:DSt→Out Fl:=(bh (bZ 4 (o2 ixD (o2 ixD (o2 ixD (gvo 0) (o2 ixD (gvo 2) (kc (.int 0)))) (gv 3)) (kc (.int 0))))
 (bh (bZ 5 (o2 ixD (o2 ixD (o2 ixD (gvo 1) (o2 ixD (gvo 2) (kc (.int 1)))) (gv 3)) (kc (.int 0))))
 (bh (sIf (uK (o2b neD (gb 4) (kc (.str "shut"))) (o2b eqD (gb 5) (kc (.str "shut")))) (bY (cZ (ak (gv 3) (ak (kc (.str "extra")) aG)))) fW)
 (sIf (uK (o2b eqD (gb 5) (kc (.str "must"))) (o2b neD (gb 4) (kc (.str "must")))) (bY (cZ (ak (gv 3) (ak (kc (.str "lacks")) aG)))) fW))))
def zf:DSt→Out Fl:=(bh (ig (HB (o1 fK (o2 ixD (gvo 0) (kc (.int 0))))) (gN 3) cN)
 (bY (kc .non)))
def jo:List D→Out D:=fun ds=>(cQ 6 zf ds).bD
theorem Xk {f:Addr} {fd:FuncData} (F:L2.Fun K "_law_fault" "_law_fault" jK f fd) (T:Txt K mg t) :bx P w K mg base CX0 1 f fd ["_law_one","_law_other","_law_pair_here"] (spD K (Ga t) 3 jo):=by
 refine DL.Fun.okD F pW fun cdv A outer s H E hr=>?_
 exact (az (jd (fun a b c=>jm PassesOwn.never rfl a b c) (gj rfl T.mC (dO rfl T.iQ (aQ (d8 0 (pv 0) aC)))) (bF (bG (i:=3) pW.nd rfl (by first | exact .inl rfl | exact .inr rfl))) (az (bJ 4 (fun h=>bu (i:=4) pW.nd rfl (by first | exact .inl rfl | exact .inr rfl) h) (wV (wV (d8 0 (pv 0) (d8 2 (pv 2) aC)) (aq 3 (pv 3))) aC))
     (az (bJ 5 (fun h=>bu (i:=5) pW.nd rfl (by first | exact .inl rfl | exact .inr rfl) h) (wV (wV (d8 1 (pv 1) (d8 2 (pv 2) aC)) (aq 3 (pv 3))) aC))
     (az (cU (GD (GF (R5 hr.units (aO 4 (pv 4)) (aQ cg)) (yK (jZ hr.units (aO 5 (pv 5)) (aQ cg))))) (aB (aY (fQ (aj (aq 3 (pv 3)) (aj cg aD))))) bR)
     (aB (cU (GD (GF (jZ hr.units (aO 5 (pv 5)) (aQ cg)) (yK (R5 hr.units (aO 4 (pv 4)) (aQ cg))))) (aB (aY (fQ (aj (aq 3 (pv 3)) (aj cg aD))))) bR))))))
     (aB (aY yF)))
abbrev jN:Stmt:=top 82
theorem X5:aM ["_law_found","_law_due"] ["_law_found","_law_due"] (ao jN):=⟨rfl,rfl,rfl,by decide +kernel,rfl,by decide +kernel,by decide +kernel⟩
def JN:DSt→Out Fl:=(bh (sIf (o2b Pb (gb 1) (kc .non)) (bY (bV (o2b Pb (gb 0) (kc .non)))) fW)
 (bh (sIf (orT (qw (tst (Al gm (gb 0)))) (orT (o2b neD (o1 fK (gb 0)) (kc (.int 2))) (qw (tst (oF 2 rZ (ak (o2 ixD (gvo 0) (kc (.int 0))) (ak (o2 ixD (gvo 1) (kc (.int 0))) aG))))))) (bY (kc (.bl false))) fW)
 (bY (K1 (Al iR (o2 ixD (gvo 0) (kc (.int 1)))) (bV (o2b eqD (o2 ixD (gvo 0) (kc (.int 1))) (o2 ixD (gvo 1) (kc (.int 1)))))))))
def gK:List D→Out D:=fun ds=>(cQ 2 JN ds).bD
theorem Xn {f:Addr} {fd:FuncData} (F:L2.Fun K "_law_right" "_law_right" jN f fd) (T:Txt K mg t) (Kr:Def P w K mg base "_law_is" 1 ["_law_found","_law_due"] (spD K (Ga t) 2 rZ)):bx P w K mg base CX0 2 f fd ["_law_found","_law_due"] (spD K (Ga t) 2 gK):=by
 obtain ⟨Ef,fd__law_is,ajD,K3,w6,sG⟩:=Kr.ex
 refine DL.Fun.okD F X5 fun cdv A outer s H E hr=>?_
 exact (az (cU (dt_is (aO 1 (pv 1)) (aQ yF)) (aB (aY (de_is (aO 0 (pv 0)) (aQ yF)))) bR)
     (az (cU (GD (Jx (jV (iK (aQ (oJ (cv:=.ty "tuple") (.inr rfl) T.gm rfl T.cj (aO 0 (pv 0)) (kJ rfl T.IW (by decide +kernel) rfl))))) (Jx (R5 hr.units (aQ (dO rfl T.iQ (aO 0 (pv 0)))) (aQ aC)) (Ck (jV (iK (aQ (bO (aP ajD (hr.mono (by decide)) rfl w6 sG K3 .nil bB (aj (d8 0 (pv 0) aC) (aj (d8 1 (pv 1) aC) aD))))))))))) (aB (aY qX)) bR)
     (aB (aY (Ce (oJ (cv:=.ty "str") (.inr rfl) T.iR rfl T.cj (aQ (d8 0 (pv 0) aC)) (kJ rfl T.b_str (by decide +kernel) rfl)) (Gy (YL hr.units (aQ (d8 0 (pv 0) aC)) (aQ (d8 1 (pv 1) aC)))))))))
abbrev jJ:Stmt:=top 83
theorem wH:aM ["_law_one","_law_other","_law_way","_law_caught","e"] ["_law_one","_law_other","_law_way"] (ao jJ):=⟨rfl,rfl,rfl,by decide +kernel,rfl,by decide +kernel,by decide +kernel⟩
def zc:DSt→Out Fl:=(bh (bZ 3 (kc .non))
 (bh (sTry du 3 (sIf (o2b eqD (gb 2) (kc (.int 0))) (nG (oF 4 gM (ak (gv 0) (ak (kc (.int 0)) (ak (gv 1) (ak (kc (.int 0)) aG)))))) (sIf (o2b eqD (gb 2) (kc (.int 1))) (nG (oF 2 tK (ak (gv 0) (ak (gv 1) aG)))) (sIf (o2b eqD (gb 2) (kc (.int 2))) (nG (oF 3 tH (ak (gv 0) (ak (gv 1) (ak (jl aG) aG))))) (sIf (o2b eqD (gb 2) (kc (.int 3))) (nG (oF 2 Ay (ak (gv 0) (ak (gv 1) aG)))) (sIf (o2b eqD (gb 2) (kc (.int 4))) (nG (oF 2 pY (ak (gv 0) (ak (gv 1) aG)))) (nG (oF 2 mj (ak (gv 0) (ak (gv 1) aG))))))))))
 (bY (Al zq (gb 3)))))
def eY:List D→Out D:=fun ds=>(cQ 5 zc ds).bD
theorem Xj {f:Addr} {fd:FuncData} (F:L2.Fun K "_law_asked" "_law_asked" jJ f fd) (T:Txt K mg t) (nU:Aw P w K mg base "fault_at" 3 ["one","room","other","place"] (spD K (Ga t) 4 gM)) (Gg:Aw P w K mg base "table_of" 5 ["one","other"] (spD K (Ga t) 2 tK)) (Ge:Aw P w K mg base "is_table" 5 ["one","other","table"] (spD K (Ga t) 3 tH)) (Qz:Aw P w K mg base "within" 5 ["one","other"] (spD K (Ga t) 2 Ay)) (Av:Aw P w K mg base "row_apart" 5 ["one","other"] (spD K (Ga t) 2 pY)) (xK:Aw P w K mg base "hall_apart" 3 ["one","other"] (spD K (Ga t) 2 mj)):bx P w K mg base CX0 6 f fd ["_law_one","_law_other","_law_way"] (spD K (Ga t) 3 eY):=by
 obtain ⟨uf,afo,Gh,tQ,kW,jh⟩:=nU.ex
 obtain ⟨yR,fd_table_of,agS,Gp,uE,oR⟩:=Gg.ex
 obtain ⟨yP,fd_is_table,agQ,Gm,uC,oN⟩:=Ge.ex
 obtain ⟨JB,fd_within,G_within,Rh,Dn,wZ⟩:=Qz.ex
 obtain ⟨u0,fd_row_apart,ad9,Bq,qu,lw⟩:=Av.ex
 obtain ⟨rJ,fd_hall_apart,Zo,ye,nq,jz⟩:=xK.ex
 refine DL.Fun.okD F wH fun cdv A outer s H E hr=>?_
 exact (az (bJ 3 (fun h=>bu (i:=3) wH.nd rfl (by first | exact .inl rfl | exact .inr rfl) h) yF)
     (az (ds_try (cat:=du) (i:=3) (j:=4) T.du rfl rfl wH.nd rfl (by first | exact .inl rfl | exact .inr rfl) rfl (by decide) rfl rfl T.aft (fun pins E'=>(aB (cU (jZ hr.units (aO 2 (pv 2)) (aQ aC)) (aB (uR (bO (aP Gh (hr.mono (by decide)) rfl kW jh tQ .nil Zc (aj (aq 0 (pv 0)) (aj aC (aj (aq 1 (pv 1)) (aj aC aD)))))))) (aB (cU (jZ hr.units (aO 2 (pv 2)) (aQ aC)) (aB (uR (bO (aP agS (hr.mono (by decide)) rfl uE oR Gp .nil Zc (aj (aq 0 (pv 0)) (aj (aq 1 (pv 1)) aD)))))) (aB (cU (jZ hr.units (aO 2 (pv 2)) (aQ aC)) (aB (uR (bO (aP agQ (hr.mono (by decide)) rfl uC oN Gm .nil Zc (aj (aq 0 (pv 0)) (aj (aq 1 (pv 1)) (aj (yE aD) aD))))))) (aB (cU (jZ hr.units (aO 2 (pv 2)) (aQ aC)) (aB (uR (bO (aP G_within (hr.mono (by decide)) rfl Dn wZ Rh .nil Zc (aj (aq 0 (pv 0)) (aj (aq 1 (pv 1)) aD)))))) (aB (cU (jZ hr.units (aO 2 (pv 2)) (aQ aC)) (aB (uR (bO (aP ad9 (hr.mono (by decide)) rfl qu lw Bq .nil Zc (aj (aq 0 (pv 0)) (aj (aq 1 (pv 1)) aD)))))) (aB (uR (bO (aP Zo (hr.mono (by decide)) rfl nq jz ye .nil Zc (aj (aq 0 (pv 0)) (aj (aq 1 (pv 1)) aD))))))))))))))))))
     (aB (aY (oJ (cv:=.ref t.Unlike) (.inl rfl) T.zq rfl T.cj (aO 3 (pv 3)) (Eo rfl T.afx rfl))))))
abbrev iG:Stmt:=top 84
theorem Ux:aM ["_law_actions","_law_number"] ["_law_actions","_law_number"] (ao iG):=⟨rfl,rfl,rfl,by decide +kernel,rfl,by decide +kernel,by decide +kernel⟩
def Af:DSt→Out D:=(gv 0)
def Ag:DSt→Out D:=(gv 0)
def wu:DSt→Out Fl:=(bh (sIf (uK (o2b eqD (o2 cC (gv 1) (kc (.int 3))) (kc (.int 0))) (o2b gtD (o1 fK (gb 0)) (kc (.int 1)))) (bY (o2 dG (oSl (gv 0) (soI (kc (.int 1))) noI) (oSl (gv 0) noI (soI (kc (.int 1)))))) fW)
 (bh (sIf (uK (o2b eqD (o2 cC (gv 1) (kc (.int 3))) (kc (.int 1))) (o2b ltD (o1 fK (gb 0)) (kc (.int 8)))) (bY (o2 dG (gv 0) (jl (ak (o2 ixD (Eu (nR [none,some 0] (strO (kc (.str "abcdefghi"))) (gN 0) (o2b Dq (gb 0) (gb 1)) Af)) (kc (.int 0))) aG)))) fW)
 (bY (o2 dG (oSl (gv 0) noI (soI (o1 negD (kc (.int 1))))) (jl (ak (o2 ixD (Eu (nR [none,some 0] (strO (kc (.str "abcdefghi"))) (gN 0) (o2b Dq (gb 0) (gb 1)) Ag)) (kc (.int 0))) aG))))))
def jX:List D→Out D:=fun ds=>(cQ 2 wu ds).bD
theorem T7 {f:Addr} {fd:FuncData} (F:L2.Fun K "_law_unlike" "_law_unlike" iG f fd) (T:Txt K mg t) :bx P w K mg base CX0 1 f fd ["_law_actions","_law_number"] (spD K (Ga t) 2 jX):=by
 refine DL.Fun.okD F Ux fun cdv A outer s H E hr=>?_
 exact (az (cU (GD (GF (jZ hr.units (aQ (cD (aq 1 (pv 1)) aC)) (aQ aC)) (yK (dt_gt (aQ (dO rfl T.iQ (aO 0 (pv 0)))) (aQ aC))))) (aB (aY (c7 (RQ (aq 0 (pv 0)) (aa8 aC) aa7) (RQ (aq 0 (pv 0)) aa7 (aa8 aC))))) bR)
     (az (cU (GD (GF (jZ hr.units (aQ (cD (aq 1 (pv 1)) aC)) (aQ aC)) (yK (dt_lt (aQ (dO rfl T.iQ (aO 0 (pv 0)))) (aQ aC))))) (aB (aY (c7 (aq 0 (pv 0)) (yE (aj (wV (RP (yG (fun a b c d=>uG (N':=["_law_sign","_law_actions"]) (cap:=[none,some 0]) ⟨rfl,rfl,by decide +kernel,by decide +kernel,by rfl,⟨⟨rfl,by first | exact .inl rfl | exact .inr rfl⟩,trivial⟩,⟨trivial,⟨rfl,rfl,by first | exact .inl rfl | exact .inr rfl⟩,trivial⟩⟩ rfl a b c d) (ahP cg) (sh_n 0) (fun _ _ _ _ _=>(bF (bG (i:=0) (show (["_law_sign","_law_actions"]:List Str).Nodup by decide +kernel) rfl (by first | exact .inl rfl | exact .inr rfl)))) (fun _ _ _ _ _=>(ajg (afj (aO 0 (pv 0)) (aO 1 (pv 1))))) (fun _ _ _ _ _=>(aq 0 (pv 0))))) aC) aD))))) bR)
     (aB (aY (c7 (RQ (aq 0 (pv 0)) aa7 (aa8 (de_neg aC))) (yE (aj (wV (RP (yG (fun a b c d=>uG (N':=["_law_sign","_law_actions"]) (cap:=[none,some 0]) ⟨rfl,rfl,by decide +kernel,by decide +kernel,by rfl,⟨⟨rfl,by first | exact .inl rfl | exact .inr rfl⟩,trivial⟩,⟨trivial,⟨rfl,rfl,by first | exact .inl rfl | exact .inr rfl⟩,trivial⟩⟩ rfl a b c d) (ahP cg) (sh_n 0) (fun _ _ _ _ _=>(bF (bG (i:=0) (show (["_law_sign","_law_actions"]:List Str).Nodup by decide +kernel) rfl (by first | exact .inl rfl | exact .inr rfl)))) (fun _ _ _ _ _=>(ajg (afj (aO 0 (pv 0)) (aO 1 (pv 1))))) (fun _ _ _ _ _=>(aq 0 (pv 0))))) aC) aD)))))))
abbrev Kc:Stmt:=top 85
theorem qQ:aM ["_law_script","_law_one","_law_other","_law_actions","_law_mine","_law_theirs","_law_room","_law_place","_law_number","_law_names_here","_law_free","_law_way"] ["_law_script"] (ao Kc):=⟨rfl,rfl,rfl,by decide +kernel,rfl,by decide +kernel,by decide +kernel⟩
def Qs:DSt→Out Fl:=(sIf (qw (tst (oF 2 gK (ak (oF 4 gM (ak (gv 4) (ak (gv 6) (ak (gv 5) (ak (gv 7) aG))))) (ak (oF 3 jo (ak (gv 1) (ak (gv 2) (ak (cZ (ak (gv 6) (ak (gv 7) aG))) aG)))) aG))))) (bY (kc (.bl false))) fW)
def Qq:DSt→Out Fl:=(ig (HB (o1 fK (gb 2))) (gN 7) Qs)
def Qt:DSt→Out D:=(cZ (ak (kc (.str "may")) (ak (kc (.int 0)) aG)))
def abW:DSt→Out Fl:=(sIf (orT (qw (tst (oF 3 eY (ak (gv 4) (ak (gv 10) (ak (gv 11) aG)))))) (qw (tst (oF 3 eY (ak (gv 10) (ak (gv 4) (ak (gv 11) aG))))))) (bY (kc (.bl false))) fW)
def g_law:DSt→Out Fl:=(bh (Ka (oF 1 pX (ak (gv 0) aG)) (gT 2 (cz (gN 1) (cz (gN 2) mX))))
 (bh (bZ 3 (oF 2 lZ (ak (oF 2 bA (ak (gv 0) (ak (kc (.int 2)) aG))) (ak (o1 fK (o2 ixD (gvo 1) (kc (.int 0)))) aG))))
 (bh (bZ 4 (oMk bz 2 QH (ak (gv 3) (ak (gv 1) aG))))
 (bh (bZ 5 (oMk bz 2 QH (ak (gv 3) (ak (gv 2) aG))))
 (bh (ig (HB (o1 fK (gb 1))) (gN 6) Qq)
 (bh (bZ 8 (oF 2 aJ (ak (oF 2 bA (ak (gv 0) (ak (kc (.int 2)) aG))) (ak (kc (.int 15)) aG))))
 (bh (bZ 9 (oF 2 jX (ak (gv 3) (ak (gv 8) aG))))
 (bh (bZ 10 (oMk bz 2 QH (ak (gv 9) (ak (jl (ak (Eu (nR [none] (uI (gv 9)) (gN 0) (fun _=>.ok true) Qt)) aG)) aG))))
 (bh (ig (HB (kc (.int 6))) (gN 11) abW)
 (bY (kc (.bl true))))))))))))
def F_law:List D→Out D:=fun ds=>(cQ 12 g_law ds).bD
theorem ok_law {f:Addr} {fd:FuncData} (F:L2.Fun K "law" "law" Kc f fd) (T:Txt K mg t) (Ao:Def P w K mg base "_law_pair" 3 ["_law_script"] (spD K (Ga t) 1 pX)) (xG:Def P w K mg base "_law_names" 2 ["_law_cell","_law_many"] (spD K (Ga t) 2 lZ)) (cL:Def P w K mg base "_law_cell_at" 1 ["_law_script","_law_k"] (spD K (Ga t) 2 bA)) (agY:Ini P w K mg base t.Plan 7 ["self","actions","rows"] (spI K (Ga t) bz 2 QH)) (xH:Def P w K mg base "_law_right" 2 ["_law_found","_law_due"] (spD K (Ga t) 2 gK)) (xF:Def P w K mg base "_law_fault" 1 ["_law_one","_law_other","_law_pair_here"] (spD K (Ga t) 3 jo)) (nU:Aw P w K mg base "fault_at" 3 ["one","room","other","place"] (spD K (Ga t) 4 gM)) (aX:Def P w K mg base "_law_mixed" 1 ["_law_cell","_law_k"] (spD K (Ga t) 2 aJ)) (vy:Def P w K mg base "_law_unlike" 1 ["_law_actions","_law_number"] (spD K (Ga t) 2 jX)) (xx:Def P w K mg base "_law_asked" 6 ["_law_one","_law_other","_law_way"] (spD K (Ga t) 3 eY)):bx P w K mg base CX0 9 f fd ["_law_script"] (spD K (Ga t) 1 F_law):=by
 obtain ⟨uW,fd__law_pair,ad6,Bl,qm,lg⟩:=Ao.ex
 obtain ⟨rF,fd__law_names,Zk,xZ,m8,jw⟩:=xG.ex
 obtain ⟨gk,Ab,cX,cG,bU,bN⟩:=cL.ex
 obtain ⟨f_Plan,fd_Plan,agU,agM,ahj⟩:=agY.ex
 obtain ⟨rG,fd__law_right,Zm,yc,m9,jx⟩:=xH.ex
 obtain ⟨rE,fd__law_fault,Zj,xY,m6,ju⟩:=xF.ex
 obtain ⟨uf,afo,Gh,tQ,kW,jh⟩:=nU.ex
 obtain ⟨cM,fU,bC,bw,bj,bf⟩:=aX.ex
 obtain ⟨pN,fd__law_unlike,Vc,vL,j8,iw⟩:=vy.ex
 obtain ⟨rD,fd__law_asked,HW,rA,jB,gP⟩:=xx.ex
 refine DL.Fun.okD F qQ fun cdv A outer s H E hr=>?_
 exact (az (aa9 (fun a b=>Uk a b) (bO (aP ad6 (hr.mono (by decide)) rfl qm lg Bl .nil bB (aj (aq 0 (pv 0)) aD))) (Gz (n:=2) (fun h=>Hy rfl h) (fj (bF (bG (i:=1) qQ.nd rfl (by first | exact .inl rfl | exact .inr rfl))) (fj (bF (bG (i:=2) qQ.nd rfl (by first | exact .inl rfl | exact .inr rfl))) yI (fun a b=>fO a b)) (fun a b=>fO a b))))
     (az (bJ 3 (fun h=>bu (i:=3) qQ.nd rfl (by first | exact .inl rfl | exact .inr rfl) h) (bO (aP Zk (hr.mono (by decide)) rfl m8 jw xZ .nil bB (aj (bO (aP cX (hr.mono (by decide)) rfl bU bN cG .nil bB (aj (aq 0 (pv 0)) (aj aC aD)))) (aj (dO rfl T.iQ (aQ (d8 1 (pv 1) aC))) aD)))))
     (az (bJ 4 (fun h=>bu (i:=4) qQ.nd rfl (by first | exact .inl rfl | exact .inr rfl) h) (Cj (c:=bz) rfl (nF agU agM (hr.mono (by decide)) rfl T.ahX ahj .nil bB (aj (aq 3 (pv 3)) (aj (aq 1 (pv 1)) aD)))))
     (az (bJ 5 (fun h=>bu (i:=5) qQ.nd rfl (by first | exact .inl rfl | exact .inr rfl) h) (Cj (c:=bz) rfl (nF agU agM (hr.mono (by decide)) rfl T.ahX ahj .nil bB (aj (aq 3 (pv 3)) (aj (aq 2 (pv 2)) aD)))))
     (az (jd (fun a b c=>jm PassesOwn.never rfl a b c) (gj rfl T.mC (dO rfl T.iQ (aO 1 (pv 1)))) (bF (bG (i:=6) qQ.nd rfl (by first | exact .inl rfl | exact .inr rfl))) (aB (jd (fun a b c=>jm PassesOwn.never rfl a b c) (gj rfl T.mC (dO rfl T.iQ (aO 2 (pv 2)))) (bF (bG (i:=7) qQ.nd rfl (by first | exact .inl rfl | exact .inr rfl))) (aB (cU (jV (iK (aQ (bO (aP Zm (hr.mono (by decide)) rfl m9 jx yc .nil bB (aj (bO (aP Gh (hr.mono (by decide)) rfl kW jh tQ .nil pass10 (aj (aq 4 (pv 4)) (aj (aq 6 (pv 6)) (aj (aq 5 (pv 5)) (aj (aq 7 (pv 7)) aD)))))) (aj (bO (aP Zj (hr.mono (by decide)) rfl m6 ju xY .nil bB (aj (aq 1 (pv 1)) (aj (aq 2 (pv 2)) (aj (fQ (aj (aq 6 (pv 6)) (aj (aq 7 (pv 7)) aD))) aD))))) aD))))))) (aB (aY qX)) bR)))))
     (az (bJ 8 (fun h=>bu (i:=8) qQ.nd rfl (by first | exact .inl rfl | exact .inr rfl) h) (bO (aP bC (hr.mono (by decide)) rfl bj bf bw .nil bB (aj (bO (aP cX (hr.mono (by decide)) rfl bU bN cG .nil bB (aj (aq 0 (pv 0)) (aj aC aD)))) (aj aC aD)))))
     (az (bJ 9 (fun h=>bu (i:=9) qQ.nd rfl (by first | exact .inl rfl | exact .inr rfl) h) (bO (aP Vc (hr.mono (by decide)) rfl j8 iw vL .nil bB (aj (aq 3 (pv 3)) (aj (aq 8 (pv 8)) aD)))))
     (az (bJ 10 (fun h=>bu (i:=10) qQ.nd rfl (by first | exact .inl rfl | exact .inr rfl) h) (Cj (c:=bz) rfl (nF agU agM (hr.mono (by decide)) rfl T.ahX ahj .nil bB (aj (aq 9 (pv 9)) (aj (yE (aj (RP (yG (fun a b c d=>uG (N':=["_law_name"]) (cap:=[none]) ⟨rfl,rfl,by decide +kernel,by decide +kernel,by rfl,trivial,⟨trivial,trivial⟩⟩ rfl a b c d) (Ci (aq 9 (pv 9))) (sh_n 0) (fun _ _ _ _ _=>(bF (bG (i:=0) (show (["_law_name"]:List Str).Nodup by decide +kernel) rfl (by first | exact .inl rfl | exact .inr rfl)))) (fun _ _ _ _ _=>Ec) (fun _ _ _ _ _=>(fQ (aj cg (aj aC aD)))))) aD)) aD)))))
     (az (jd (fun a b c=>jm PassesOwn.never rfl a b c) (gj rfl T.mC aC) (bF (bG (i:=11) qQ.nd rfl (by first | exact .inl rfl | exact .inr rfl))) (aB (cU (GD (Jx (jV (iK (aQ (bO (aP HW (hr.mono (by decide)) rfl jB gP rA .nil bB (aj (aq 4 (pv 4)) (aj (aq 10 (pv 10)) (aj (aq 11 (pv 11)) aD)))))))) (Ck (jV (iK (aQ (bO (aP HW (hr.mono (by decide)) rfl jB gP rA .nil bB (aj (aq 10 (pv 10)) (aj (aq 4 (pv 4)) (aj (aq 11 (pv 11)) aD))))))))))) (aB (aY qX)) bR)))
     (aB (aY qX)))))))))))
end
end K5
namespace DL
open PySem MX L2
theorem aeN {α β:Type} {fe:DSt→Out β} (g:α→D) (h:α→β):∀ (xs:List α) (δ:DSt),(∀ x ∈ xs,fe (δ.set 0 (some (.sh (g x)))) = .ok (h x))→Jb (gN 0) (fun _=>.ok true) fe (xs.map g) δ = .ok (xs.map h)
 | [],_,_=>rfl
 | x :: xs,δ,k=>by
   have e1:=k x List.mem_cons_self
   have e2:=aeN g h xs (δ.set 0 (some (.sh (g x)))) (fun y hy=>by rw [List.set_set]; exact k y (List.mem_cons_of_mem _ hy))
   rw [List.map_cons,List.map_cons]
   unfold Jb
   simp only [gN,Out.nD,Out.bK,Out.zR,e1,e2,if_true]
theorem DY {α β:Type} {cap:List (Option Nat)} {fi:DSt→Out (List D)} {fe:DSt→Out β} {δ:DSt} (g:α→D) (h:α→β) (xs:List α) (e:fi δ = .ok (xs.map g)) (hz:xs.length < 1000000) (k:∀ x ∈ xs,fe ((capD cap δ).set 0 (some (.sh (g x)))) = .ok (h x)):nR cap fi (gN 0) (fun _=>.ok true) fe δ = .ok (xs.map h):=by
 unfold nR
 rw [e]
 simp only [Out.bK]
 rw [if_pos (by rw [List.length_map]; exact Nat.lt_of_lt_of_le hz (by decide)),aeN g h xs _ k]
theorem ahm (l:List Bool):Br (l.map D.bl) = some l:=by
 induction l with
 | nil=>rfl
 | cons b l ih=>simp [Br,ih,asB]
theorem akN (l:List Str):U0 (l.map D.str) = some l:=by
 induction l with
 | nil=>rfl
 | cons b l ih=>simp [U0,ih]
theorem aep {α:Type} (f:α→Bool) (l:List α):allD (.lst (l.map fun x=>.bl (f x))) = some (.bl (l.all f)):=by
 unfold allD
 have:(l.map fun x=>D.bl (f x)) = (l.map f).map D.bl:=by simp
 rw [this]
 simp only [Mf,Option.bind_some,ahm,Option.map_some]
 congr 2
 induction l with
 | nil=>rfl
 | cons a l ih=>simp
theorem rngL_map (n:Nat):rngL 0 n = (List.range n).map fun i=>D.int (i:Nat):=by
 unfold rngL
 congr 1
 funext i
 rw [Int.zero_add]
theorem abe {α:Type} {body:DSt→Out Fl} {tg:D→DSt→Option DSt} (g:α→D) (I:List α→DSt→Prop):∀ (xs done:List α) (δ:DSt),(∀ x done δ,I done δ→x ∈ xs→∃ δ1,tg (g x) δ = some δ1∧nxP (body δ1) (I (done ++ [x])))→I done δ→∃ δ',wX tg body (xs.map g) δ = .ok (.nx δ')∧I (done ++ xs) δ'
 | [],done,δ,_,i=>⟨δ,rfl,by simpa using i⟩
 | x :: xs,done,δ,h,i=>by
   obtain ⟨δ1,e1,w⟩:=h x done δ i List.mem_cons_self
   obtain ⟨δ',e2,i'⟩:=ajt w
   obtain ⟨δ2,e3,i2⟩:=abe g I xs (done ++ [x]) δ' (fun y dn δ hi hy=>h y dn δ hi (List.mem_cons_of_mem _ hy)) i'
   exact ⟨δ2,by rw [List.map_cons]; unfold wX; rw [e1]; simp only [Out.nD,Out.bK,e2]; exact e3,by simpa using i2⟩
theorem fC {α:Type} {body:DSt→Out Fl} {tg:D→DSt→Option DSt} (g:α→D) (I:List α→DSt→Prop) (xs:List α) (δ:DSt) (h:∀ x done rest δ,xs = done ++ x :: rest→I done δ→∃ δ1,tg (g x) δ = some δ1∧nxP (body δ1) (I (done ++ [x]))) (i:I [] δ):∃ δ',wX tg body (xs.map g) δ = .ok (.nx δ')∧I xs δ':=by
 have go:∀ (ys done:List α) (δ:DSt),xs = done ++ ys→I done δ→∃ δ',wX tg body (ys.map g) δ = .ok (.nx δ')∧I xs δ':=by
   intro ys
   induction ys with
   | nil=>intro done δ e i; exact ⟨δ,rfl,by rw [e,List.append_nil]; exact i⟩
   | cons x ys ih =>
     intro done δ e i
     obtain ⟨δ1,e1,w⟩:=h x done ys δ e i
     obtain ⟨δ',e2,i'⟩:=ajt w
     obtain ⟨δ2,e3,i2⟩:=ih (done ++ [x]) δ' (by rw [e]; simp) i'
     exact ⟨δ2,by rw [List.map_cons]; unfold wX; rw [e1]; simp only [Out.nD,Out.bK,e2]; exact e3,i2⟩
 exact go xs [] δ rfl i
theorem rng_lo (j:Int) (h:0 ≤ j):(-(2 ^ 62):Int) ≤ j:=by omega
theorem rng_hi (j:Int) (h:j < 1000000):j < (2 ^ 62:Int):=by omega
theorem rng1_int {f:DSt→Out D} {δ:DSt} {j:Int} (h:f δ = .ok (.int j)) (h0:0 ≤ j) (h1:j < 1000000):HB f δ = .ok (rngL 0 j.toNat):=by
 unfold HB
 rw [h]
 simp only [Out.bK]
 rw [if_pos ⟨rng_lo j h0,rng_hi j h1⟩]
theorem jn {f:DSt→Out D} {δ:DSt} {n:Nat} (h:f δ = .ok (.int (n:Nat))) (hn:n < 1000000):HB f δ = .ok ((List.range n).map fun i=>D.int (i:Nat)):=by
 have a:(n:Int) < 1000000:=by omega
 have b:(0:Int) ≤ (n:Int):=by omega
 generalize hj:(n:Int) = j at h a b
 have e:=rng1_int h b a
 have t:j.toNat = n:=by omega
 rw [e,t,rngL_map]
theorem aU {A B:DSt→Out Fl} {δ δ':DSt} {r:Out D} (h:A δ = .ok (.nx δ')) (k:((B δ').bind gO).bD = r):((bh A B δ).bind gO).bD = r:=by
 unfold bh
 rw [h]
 exact k
theorem zT {f:DSt→Out D} {δ:DSt} {d:D} (h:f δ = .ok d):((bY f δ).bind gO).bD = .ok d:=by
 unfold bY
 rw [h]
 rfl
end DL
namespace DL
open PySem MX L2 PySem.Builtin PySem.Builtin.Str
def ofL (l:List Nat):Str:=⟨l.toArray⟩
theorem Qv (l:List Nat):(ofL l).length = l.length:=by show l.toArray.size = _; simp
theorem acd {a b:List Nat} (h:ofL a = ofL b):a = b:=by
 have:=congrArg (fun s:Str=>s.cps.toList) h
 simpa [ofL] using this
theorem ofL_app (a b:List Nat):ofL a ++ ofL b = ofL (a ++ b):=by
 show Str.append (ofL a) (ofL b) = _
 unfold Str.append ofL
 simp
theorem abc:(Str.ofString "abcdefghijklmnopqrstuvwxyz") = ofL ((List.range 26).map (97 + ·)):=by decide +kernel
theorem abc_at {i:Int} (h0:0 ≤ i) (h1:i < 26):ixD (.str "abcdefghijklmnopqrstuvwxyz") (.int i) = some (.str (ofL [97 + i.toNat])):=by
 obtain ⟨k,rfl⟩:=Int.eq_ofNat_of_zero_le h0
 have hk:k < 26:=by omega
 have key:∀ k:Fin 26,ixD (.str (Str.ofString "abcdefghijklmnopqrstuvwxyz")) (.int ((k.val:Nat):Int)) = some (.str (ofL [97 + ((k.val:Nat):Int).toNat])):=by
   intro k
   have e:(if (Str.ofString "abcdefghijklmnopqrstuvwxyz").length ≤ sizeLine then (atI (Str.ofString "abcdefghijklmnopqrstuvwxyz").cps.toList ((k.val:Nat):Int)).map fun c=>D.str ⟨#[c]⟩ else none) = ixD (.str (Str.ofString "abcdefghijklmnopqrstuvwxyz")) (.int ((k.val:Nat):Int)):=rfl
   rw [← e,abc,Qv,if_pos (by simp; decide)]
   show (atI (((List.range 26).map (97 + ·)).toArray.toList) ((k.val:Nat):Int)).map _ = _
   have:atI (((List.range 26).map (97 + ·)).toArray.toList) ((k.val:Nat):Int) = some (97 + k.val):=fY (by simp)
   rw [this]
   simp [ofL]
 exact key ⟨k,hk⟩
theorem abc_in {c:Nat} (h0:97 ≤ c) (h1:c < 123):inD (.str (ofL [c])) (.str "abcdefghijklmnopqrstuvwxyz") = some true:=by
 have key:∀ k:Fin 26,(!(occurrences (Str.ofString "abcdefghijklmnopqrstuvwxyz") (ofL [97 + k.val]) 0 (Str.ofString "abcdefghijklmnopqrstuvwxyz").length 1).isEmpty) = true:=by decide +kernel
 have:=key ⟨c - 97,by omega⟩
 rw [show 97 + (c - 97) = c by omega] at this
 show some _ = some true
 rw [this]
end DL
local macro_rules
 | `(tactic| walk_at $s:str)=>do
   let t:=s.getString
   unless t.startsWith "ev" do Lean.Macro.throwUnsupported
   let (h,r):=match t.splitOn ":" with
     | [h,r]=>(h,r)
     | _=>(t,"")
   let minus:=(h.splitOn "-").drop 1
   let all:=("cQ nM gO bh fW nG bZ rn Dw sIf bY ig xq sAppl sExt sClr sClr2 sPut Od Ka gv gb gvo slD o1 o2 o2b o3 oC oF oM oMk JW Al bV uK orT qw tst K1 orV Tr ifV aG ak cZ jl tV uI Eu lstVV kc one1 frzd frz frzS negD Qg Qy JT Cm JS Qi adT asB_b abX abY abZ afA afB SQ abB SM aeA aeB atI_2 atI_3 atI_4 atI_5 atI_6 atI_7 atI_8 atI_9 Z6 Z7 ab0 ab1 R9 Tp abb ab7 abd ab8 Pb notND Hd gN mX cz gT Out.bK Out.Qh Out.yg Out.nD Out.J0 Out.zR acb List.map_cons List.map_nil List.length_cons List.length_nil List.append_assoc List.nil_append List.cons_append List.getElem?_cons_zero List.getElem?_cons_succ List.getElem?_nil List.set_cons_zero List.set_cons_succ Nat.zero_add Nat.reduceAdd Nat.reduceSub List.replicate_succ List.replicate_zero List.lookup_cons List.lookup_nil Option.some.injEq Option.bind_some Option.map_some Nat.reduceBEq Nat.reduceEqDiff Int.reduceLT Int.reduceLE Int.reduceNeg Int.reduceAdd Int.reduceMul Int.reduceSub Nat.reduceLeDiff reduceIte if_t if_f ite_true decide_true decide_false Bool.not_true Bool.not_false Nat.reduceEqDiff Bool.false_eq_true Option.isNone_none Option.isNone_some Qw String.reduceBEq String.reduceEq beq_self_eq_true List.contains_cons List.contains_nil Bool.or_false Bool.or_true Bool.true_or Bool.false_or Bool.and_true Bool.and_false Bool.true_and Bool.false_and Bool.not_eq_true eq_self_iff_true Int.cast_ofNat_Int Int.reduceBEq Int.natCast_zero".splitOn " ").filter fun x=>!minus.contains x
   let ids:=(all ++ (r.splitOn " ").filter (· ≠ "")).toArray.map fun x=>Lean.mkIdent x.toName
   let args ← ids.mapM fun i=>`(Lean.Parser.Tactic.simpLemma| $i:term)
   `(tactic| simp only [$args,*])
namespace K5
open PySem L2 MX DL
inductive Dr where
 | must (n:Nat) | may (n:Nat) | shut | torn
def Dr.w:Dr→Str
 | .must _=>"must"
 | .may _=>"may"
 | .shut=>"shut"
 | .torn=>"torn"
def Dr.to:Dr→D
 | .must n=>.int n
 | .may n=>.int n
 | .shut=>.non
 | .torn=>.non
def Dr.d (x:Dr):D:=.tup [.str x.w,x.to]
def Dr.ob:Dr→D
 | .must n=>.obj qW [("to",.int n)]
 | .may n=>.obj Er [("to",.int n)]
 | .shut=>.obj p6 [("to",.non)]
 | .torn=>.obj p7 [("to",.non)]
def Dr.ok (many:Nat) (t:Bool):Dr→Prop
 | .must n=>n < many
 | .may n=>n < many
 | .shut=>True
 | .torn=>t = true
theorem s0:(0:Nat) ≤ sizeLine:=by decide
theorem s1:(1:Nat) ≤ sizeLine:=by decide
theorem s2:(2:Nat) ≤ sizeLine:=by decide
theorem q11:eqD (.str "must") (.str "must") = some true:=by decide +kernel
theorem q21:eqD (.str "may") (.str "must") = some false:=by decide +kernel
theorem q22:eqD (.str "may") (.str "may") = some true:=by decide +kernel
theorem q31:eqD (.str "shut") (.str "must") = some false:=by decide +kernel
theorem q32:eqD (.str "shut") (.str "may") = some false:=by decide +kernel
theorem q33:eqD (.str "shut") (.str "shut") = some true:=by decide +kernel
theorem q41:eqD (.str "torn") (.str "must") = some false:=by decide +kernel
theorem q42:eqD (.str "torn") (.str "may") = some false:=by decide +kernel
theorem q43:eqD (.str "torn") (.str "shut") = some false:=by decide +kernel
theorem q44:eqD (.str "torn") (.str "torn") = some true:=by decide +kernel
theorem q13:eqD (.str "must") (.str "shut") = some false:=by decide +kernel
theorem q23:eqD (.str "may") (.str "shut") = some false:=by decide +kernel
theorem n1:inD (.str "must") (.tup [.str "must",.str "torn"]) = some true:=by decide +kernel
theorem n2:inD (.str "may") (.tup [.str "must",.str "torn"]) = some false:=by decide +kernel
theorem n3:inD (.str "shut") (.tup [.str "must",.str "torn"]) = some false:=by decide +kernel
theorem n4:inD (.str "torn") (.tup [.str "must",.str "torn"]) = some true:=by decide +kernel
theorem m1:inD (.str "must") (.tup [.str "must",.str "may"]) = some true:=by decide +kernel
theorem m2:inD (.str "may") (.tup [.str "must",.str "may"]) = some true:=by decide +kernel
theorem m3:inD (.str "shut") (.tup [.str "must",.str "may"]) = some false:=by decide +kernel
theorem m4:inD (.str "torn") (.tup [.str "must",.str "may"]) = some false:=by decide +kernel
theorem p1:inD (.str "must") (.tup [.str "must",.str "shut"]) = some true:=by decide +kernel
theorem p2:inD (.str "may") (.tup [.str "must",.str "shut"]) = some false:=by decide +kernel
theorem p3:inD (.str "shut") (.tup [.str "must",.str "shut"]) = some true:=by decide +kernel
theorem p4:inD (.str "torn") (.tup [.str "must",.str "shut"]) = some false:=by decide +kernel
theorem QD (n many:Nat) (h:n < many):sE [.int n,.int many] = .ok (.bl true):=by
 unfold sE Y5
 have h1:(n:Int) < (many:Int):=by omega
 have h0:(0:Int) ≤ (n:Int):=by omega
 walk_at "ev: u9 qj Ak h0 h1"
theorem ad4 (x:Dr) (many:Nat) (t:Bool) (h:x.ok many t):f9 [x.d,.int many,.bl t] = .ok (.bl true):=by
 unfold f9 Cu Dr.d
 cases x with
 | must n=>simp only [cQ,nM,gO,bh,fW,nG,bZ,rn,Dw,sIf,bY,ig,xq,sAppl,sExt,sClr,sClr2,sPut,Od,Ka,gv,gb,gvo,slD,o1,o2,o2b,o3,oC,oF,oM,oMk,JW,Al,bV,uK,orT,qw,tst,K1,orV,Tr,ifV,aG,ak,cZ,jl,tV,uI,Eu,lstVV,kc,one1,frzd,frz,frzS,negD,Qg,Qy,JT,Cm,JS,Qi,adT,asB_b,abX,abY,abZ,afA,afB,SQ,abB,SM,aeA,aeB,atI_2,atI_3,atI_4,atI_5,atI_6,atI_7,atI_8,atI_9,Z6,Z7,ab0,ab1,R9,Tp,abb,ab7,abd,ab8,Pb,notND,Hd,gN,mX,cz,gT,Out.bK,Out.Qh,Out.yg,Out.nD,Out.J0,Out.zR,acb,List.map_cons,List.map_nil,List.length_cons,List.length_nil,List.append_assoc,List.nil_append,List.cons_append,List.getElem?_cons_zero,List.getElem?_cons_succ,List.getElem?_nil,List.set_cons_zero,List.set_cons_succ,Nat.zero_add,Nat.reduceAdd,Nat.reduceSub,List.replicate_succ,List.replicate_zero,List.lookup_cons,List.lookup_nil,Option.some.injEq,Option.bind_some,Option.map_some,Nat.reduceBEq,Nat.reduceEqDiff,Int.reduceLT,Int.reduceLE,Int.reduceNeg,Int.reduceAdd,Int.reduceMul,Int.reduceSub,Nat.reduceLeDiff,reduceIte,if_t,if_f,ite_true,decide_true,decide_false,Bool.not_true,Bool.not_false,Nat.reduceEqDiff,Bool.false_eq_true,Option.isNone_none,Option.isNone_some,Qw,String.reduceBEq,String.reduceEq,beq_self_eq_true,List.contains_cons,List.contains_nil,Bool.or_false,Bool.or_true,Bool.true_or,Bool.false_or,Bool.and_true,Bool.and_false,Bool.true_and,Bool.false_and,Bool.not_eq_true,eq_self_iff_true,Int.cast_ofNat_Int,Int.reduceBEq,Int.natCast_zero,gm,iR,Ak,Dr.w,Dr.to,q11,QD n many h]
 | may n=>simp only [cQ,nM,gO,bh,fW,nG,bZ,rn,Dw,sIf,bY,ig,xq,sAppl,sExt,sClr,sClr2,sPut,Od,Ka,gv,gb,gvo,slD,o1,o2,o2b,o3,oC,oF,oM,oMk,JW,Al,bV,uK,orT,qw,tst,K1,orV,Tr,ifV,aG,ak,cZ,jl,tV,uI,Eu,lstVV,kc,one1,frzd,frz,frzS,negD,Qg,Qy,JT,Cm,JS,Qi,adT,asB_b,abX,abY,abZ,afA,afB,SQ,abB,SM,aeA,aeB,atI_2,atI_3,atI_4,atI_5,atI_6,atI_7,atI_8,atI_9,Z6,Z7,ab0,ab1,R9,Tp,abb,ab7,abd,ab8,Pb,notND,Hd,gN,mX,cz,gT,Out.bK,Out.Qh,Out.yg,Out.nD,Out.J0,Out.zR,acb,List.map_cons,List.map_nil,List.length_cons,List.length_nil,List.append_assoc,List.nil_append,List.cons_append,List.getElem?_cons_zero,List.getElem?_cons_succ,List.getElem?_nil,List.set_cons_zero,List.set_cons_succ,Nat.zero_add,Nat.reduceAdd,Nat.reduceSub,List.replicate_succ,List.replicate_zero,List.lookup_cons,List.lookup_nil,Option.some.injEq,Option.bind_some,Option.map_some,Nat.reduceBEq,Nat.reduceEqDiff,Int.reduceLT,Int.reduceLE,Int.reduceNeg,Int.reduceAdd,Int.reduceMul,Int.reduceSub,Nat.reduceLeDiff,reduceIte,if_t,if_f,ite_true,decide_true,decide_false,Bool.not_true,Bool.not_false,Nat.reduceEqDiff,Bool.false_eq_true,Option.isNone_none,Option.isNone_some,Qw,String.reduceBEq,String.reduceEq,beq_self_eq_true,List.contains_cons,List.contains_nil,Bool.or_false,Bool.or_true,Bool.true_or,Bool.false_or,Bool.and_true,Bool.and_false,Bool.true_and,Bool.false_and,Bool.not_eq_true,eq_self_iff_true,Int.cast_ofNat_Int,Int.reduceBEq,Int.natCast_zero,gm,iR,Ak,Dr.w,Dr.to,q21,q22,QD n many h]
 | shut=>walk_at "ev: gm iR Ak Dr.w Dr.to q31 q32 q33"
 | torn =>
   obtain rfl:t = true:=h
   walk_at "ev: gm iR Ak Dr.w Dr.to q41 q42 q43 q44"
theorem agI (n a:Bool) (to:D):sy [.bl n,.bl a,to] = .ok (match n,a with | true,true=>.obj qW [("to",to)] | false,true=>.obj Er [("to",to)] | true,false=>.obj p7 [("to",.non)] | false,false=>.obj p6 [("to",.non)]):=by
 unfold sy Y0
 cases n <;> cases a <;> walk_at "ev: Az Yt Gi Ba" <;> rfl
theorem F_made (x:Dr):iU [x.d] = .ok x.ob:=by
 unfold iU N6 Dr.d
 cases x <;> walk_at "ev: Dr.w Dr.to Dr.ob s2 n1 n2 n3 n4 m1 m2 m3 m4 agI"
def alw:Dr→Bool
 | .must _=>true
 | .may _=>true
 | _=>false
theorem Yu (x:Dr) (δ:DSt) (fo:DSt→Out D) (h:fo δ = .ok x.ob):oM "allows" 1 kY fo aG δ = .ok (.bl (alw x)):=by
 cases x <;> · unfold Dr.ob at h; walk_at "ev: h alw kY qW Er p6 p7 vA FQ xM JG vB FT vC FW"
theorem Zi (r:List Dr) (h:r.length ≤ 100):iV [.lst (r.map Dr.d)] = .ok (.tup (r.map Dr.ob)):=by
 unfold iV N7
 have e:=DY (cap:=[none]) (fi:=uI (gv 0)) (fe:=wG) (δ:=[some (.sh (.lst (r.map Dr.d)))]) Dr.d Dr.ob r rfl (by omega) (fun x _=>by
   unfold wG
   show (oF 1 iU (ak (gv 0) aG) [some (.sh x.d)]) = _
   simp only [cQ,nM,gO,bh,fW,nG,bZ,rn,Dw,sIf,bY,ig,xq,sAppl,sExt,sClr,sClr2,sPut,Od,Ka,gv,gb,gvo,slD,o1,o2,o2b,o3,oC,oF,oM,oMk,JW,Al,bV,uK,orT,qw,tst,K1,orV,Tr,ifV,aG,ak,cZ,jl,tV,uI,Eu,lstVV,kc,one1,frzd,frz,frzS,negD,Qg,Qy,JT,Cm,JS,Qi,adT,asB_b,abX,abY,abZ,afA,afB,SQ,abB,SM,aeA,aeB,atI_2,atI_3,atI_4,atI_5,atI_6,atI_7,atI_8,atI_9,Z6,Z7,ab0,ab1,R9,Tp,abb,ab7,abd,ab8,Pb,notND,Hd,gN,mX,cz,gT,Out.bK,Out.Qh,Out.yg,Out.nD,Out.J0,Out.zR,acb,List.map_cons,List.map_nil,List.length_cons,List.length_nil,List.append_assoc,List.nil_append,List.cons_append,List.getElem?_cons_zero,List.getElem?_cons_succ,List.getElem?_nil,List.set_cons_zero,List.set_cons_succ,Nat.zero_add,Nat.reduceAdd,Nat.reduceSub,List.replicate_succ,List.replicate_zero,List.lookup_cons,List.lookup_nil,Option.some.injEq,Option.bind_some,Option.map_some,Nat.reduceBEq,Nat.reduceEqDiff,Int.reduceLT,Int.reduceLE,Int.reduceNeg,Int.reduceAdd,Int.reduceMul,Int.reduceSub,Nat.reduceLeDiff,reduceIte,if_t,if_f,ite_true,decide_true,decide_false,Bool.not_true,Bool.not_false,Nat.reduceEqDiff,Bool.false_eq_true,Option.isNone_none,Option.isNone_some,Qw,String.reduceBEq,String.reduceEq,beq_self_eq_true,List.contains_cons,List.contains_nil,Bool.or_false,Bool.or_true,Bool.true_or,Bool.false_or,Bool.and_true,Bool.and_false,Bool.true_and,Bool.false_and,Bool.not_eq_true,eq_self_iff_true,Int.cast_ofNat_Int,Int.reduceBEq,Int.natCast_zero,F_made x])
 walk_at "ev: e HN"
def aV (rows:List (List Dr)):D:=.lst (rows.map fun r=>.lst (r.map Dr.d))
def rowsO (rows:List (List Dr)):D:=.tup (rows.map fun r=>.tup (r.map Dr.ob))
structure Rows (many acts:Nat) (t:Bool) (rows:List (List Dr)):Prop where
 n:rows.length = many
 row:∀ r ∈ rows,r.length = acts∧∀ x ∈ r,x.ok many t
theorem Jy {α:Type} (g:α→D):∀ (xs:List α) (k:Nat),FN k (xs.map g) = (List.zipIdx xs k).map fun p=>D.tup [.int p.2,g p.1]
 | [],_=>rfl
 | x :: xs,k=>by rw [List.map_cons,List.zipIdx_cons,List.map_cons,← Jy g xs (k + 1)]; rfl
theorem F_rows (many acts:Nat) (t:Bool) (rows:List (List Dr)) (R:Rows many acts t rows) (h1:1 ≤ many) (h2:many ≤ 2000) (h3:acts ≤ 8):eZ [aV rows,.int acts,.bl t] = .ok .non:=by
 unfold eZ JP aV
 have hn:=R.n
 have a1:(1:Int) ≤ (rows.length:Int):=by omega
 have a2:(rows.length:Int) ≤ 2000:=by omega
 walk_at "ev: jf Ak List.length_map a1 a2 enum Mf Jy"
 have step:∀ (p:List Dr × Nat) (done:List (List Dr × Nat)) (δ:DSt),(∃ a b c d:Option Sl,δ = [some (.sh (aV rows)),some (.sh (.int acts)),some (.sh (.bl t)),a,b,c,d])→p ∈ rows.zipIdx →
     ∃ δ1,gT 2 (cz (gN 3) (cz (gN 4) mX)) (D.tup [.int p.2,.lst (p.1.map Dr.d)]) δ = some δ1∧nxP (uy δ1) fun δ=>∃ a b c d:Option Sl,δ = [some (.sh (aV rows)),some (.sh (.int acts)),some (.sh (.bl t)),a,b,c,d]:=by
   rintro ⟨r,i⟩ done δ ⟨a,b,c,d,rfl⟩ hp
   refine ⟨_,rfl,?_⟩
   have hr:=R.row r (List.fst_mem_of_mem_zipIdx hp)
   have hl:(r.length:Int) = (acts:Int):=by rw [hr.1]
   have step2:∀ (p:Dr × Nat) (done:List (Dr × Nat)) (δ:DSt),(∃ a b:Option Sl,δ = [some (.sh (aV rows)),some (.sh (.int acts)),some (.sh (.bl t)),some (.sh (.int i)),some (.sh (.lst (r.map Dr.d))),a,b])→p ∈ r.zipIdx →
       ∃ δ1,gT 2 (cz (gN 5) (cz (gN 6) mX)) (D.tup [.int p.2,p.1.d]) δ = some δ1∧nxP (uz δ1) fun δ=>∃ a b:Option Sl,δ = [some (.sh (aV rows)),some (.sh (.int acts)),some (.sh (.bl t)),some (.sh (.int i)),some (.sh (.lst (r.map Dr.d))),a,b]:=by
     rintro ⟨x,j⟩ done δ ⟨a,b,rfl⟩ hq
     refine ⟨_,rfl,?_⟩
     have e:=ad4 x many t (hr.2 x (List.fst_mem_of_mem_zipIdx hq))
     unfold uz
     unfold aV
     walk_at "ev: List.length_map hn e"
     exact ⟨_,_,rfl⟩
   obtain ⟨δ',e1,i1⟩:=abe (fun p:Dr × Nat=>D.tup [.int p.2,p.1.d]) (fun _ δ=>∃ a b:Option Sl,δ = [some (.sh (aV rows)),some (.sh (.int acts)),some (.sh (.bl t)),some (.sh (.int i)),some (.sh (.lst (r.map Dr.d))),a,b]) r.zipIdx [] [some (.sh (aV rows)),some (.sh (.int acts)),some (.sh (.bl t)),some (.sh (.int i)),some (.sh (.lst (r.map Dr.d))),c,d] step2 ⟨_,_,rfl⟩
   unfold uy
   walk_at "ev: jf Ak List.length_map hl enum Mf Jy e1"
   obtain ⟨a,b,rfl⟩:=i1
   exact ⟨_,_,_,_,rfl⟩
 obtain ⟨δ',e1,i1⟩:=abe (fun p:List Dr × Nat=>D.tup [.int p.2,.lst (p.1.map Dr.d)]) (fun _ δ=>∃ a b c d:Option Sl,δ = [some (.sh (aV rows)),some (.sh (.int acts)),some (.sh (.bl t)),a,b,c,d]) rows.zipIdx [] [some (.sh (aV rows)),some (.sh (.int acts)),some (.sh (.bl t)),none,none,none,none] step ⟨_,_,_,_,rfl⟩
 unfold aV at e1
 walk_at "ev: e1"
def NameL (l:List Nat):Prop:=1 ≤ l.length∧l.length ≤ 8∧∀ c ∈ l,97 ≤ c∧c < 123
theorem F_name (l:List Nat) (h:NameL l):nY [.str (ofL l)] = .ok (.bl true):=by
 unfold nY Y4
 have a1:(1:Int) ≤ (l.length:Int):=by have:=h.1; omega
 have a2:(l.length:Int) ≤ 8:=by have:=h.2.1; omega
 have a3:l.length ≤ sizeLine:=Nat.le_trans h.2.1 (by decide)
 have e:=DY (cap:=[none]) (fi:=strO (gv 0)) (fe:=Dm) (δ:=[some (.sh (.str (ofL l)))]) (fun c=>D.str (ofL [c])) (fun _=>D.bl true) l rfl (by have:=h.2.1; omega) (fun c hc=>by
   unfold Dm
   have e:=abc_in (h.2.2 c hc).1 (h.2.2 c hc).2
   show bV (o2b inD (gb 0) (kc (.str "abcdefghijklmnopqrstuvwxyz"))) [some (.sh (.str (ofL [c])))] = _
   walk_at "ev: e")
 have e2:=aep (fun _:Nat=>true) l
 walk_at "ev: iR Ak fK Qv a1 a2 a3 e e2"
 simp
def aL (ns:List (List Nat)):List D:=ns.map fun l=>.str (ofL l)
structure Names (ns:List (List Nat)):Prop where
 ok:∀ l ∈ ns,NameL l
 lo:1 ≤ ns.length
 hi:ns.length ≤ 8
 nd:ns.Nodup
theorem F_acts (ns:List (List Nat)) (N:Names ns):gf [.lst (aL ns)] = .ok .non:=by
 unfold gf Cv fZ wY
 have h1:=N.lo
 have h2:=N.hi
 have a1:(1:Int) ≤ (ns.length:Int):=by omega
 have a2:(ns.length:Int) ≤ 8:=by omega
 have e:=DY (cap:=[none]) (fi:=uI (gv 0)) (fe:=kO) (δ:=[some (.sh (.lst (aL ns)))]) (fun l=>D.str (ofL l)) (fun _=>D.bl true) ns rfl (by omega) (fun l hl=>by
   unfold kO
   have e:=F_name l (N.ok l hl)
   show oF 1 nY (ak (gv 0) aG) [some (.sh (.str (ofL l)))] = _
   walk_at "ev: e")
 have e2:=aep (fun _:List Nat=>true) ns
 have e3:ns.all (fun _=>true) = true:=by simp
 have e4:Th (.lst (aL ns)) = some (.int ns.length):=by
   unfold Th
   have q:aL ns = (ns.map ofL).map D.str:=by unfold aL; simp
   simp only [Mf,Option.bind_some,q,akN]
   rw [if_pos (by rw [List.length_map]; omega),Tu _ _ (by
     simp only [List.nil_append]
     exact List.pairwise_map.mpr (N.nd.imp fun h q=>h (acd q)))]
   simp
 have e5:(aL ns).length = ns.length:=by simp [aL]
 walk_at "ev: jf Ak e5 a1 a2 e e2 e3 e4"
def plan (c:Nat) (ns:List (List Nat)) (rows:List (List Dr)):D:=.obj c [("actions",.tup (aL ns)),("rooms",rowsO rows)]
theorem agJ (t:Bool) (many:Nat) (ns:List (List Nat)) (rows:List (List Dr)) (N:Names ns) (R:Rows many ns.length t rows) (h1:1 ≤ many) (h2:many ≤ 60):Y7 t [.lst (aL ns),aV rows] = .ok [("actions",.tup (aL ns)),("rooms",rowsO rows)]:=by
 have e5:(aL ns).length = ns.length:=by simp [aL]
 have e1:=F_acts ns N
 have e2:=F_rows many ns.length t rows R h1 (by omega) N.hi
 have hn:=R.n
 have e3:=DY (cap:=[none]) (fi:=uI (gv 2)) (fe:=uA) (δ:=[none,some (.sh (.lst (aL ns))),some (.sh (aV rows))]) (fun r:List Dr=>D.lst (r.map Dr.d)) (fun r=>D.tup (r.map Dr.ob)) rows rfl (by omega) (fun r hr=>by
   unfold uA
   have h8:=N.hi
   have e:=Zi r (by rw [(R.row r hr).1]; omega)
   show oF 1 iV (ak (gv 0) aG) [some (.sh (.lst (r.map Dr.d)))] = _
   walk_at "ev: e")
 unfold Y7 Qk Ql Qm Qn
 walk_at "ev: e1 e2 e5 e3 HN rowsO"
structure Pl (c many:Nat) (t:Bool) (ns:List (List Nat)) (rows:List (List Dr)):Prop where
 c:c = jU ∨ c = bz
 N:Names ns
 R:Rows many ns.length t rows
 lo:1 ≤ many
 hi:many ≤ 60
def toN:Dr→Option Nat
 | .must n=>some n
 | .may n=>some n
 | _=>none
section
variable {c many:Nat} {t:Bool} {ns:List (List Nat)} {rows:List (List Dr)} {δ:DSt} {fo:DSt→Out D}
theorem YW (P:Pl c many t ns rows) (h:fo δ = .ok (plan c ns rows)):JW "rooms" [jU,bz] fo δ = .ok (rowsO rows):=by
 unfold plan at h
 rcases P.c with rfl | rfl <;> walk_at "ev: h jU bz"
end
theorem Y8 {α:Type} (n:Nat) (f:α→D):∀ xs:List α,(∀ x ∈ xs,gW n (f x) = true)→Dj n (xs.map f) = true
 | [],_=>by simp [Dj]
 | x :: xs,h=>by
   rw [List.map_cons]
   simp only [Dj,Bool.and_eq_true]
   exact ⟨h x List.mem_cons_self,Y8 n f xs fun y hy=>h y (List.mem_cons_of_mem _ hy)⟩
theorem gQ (x:Int) {m:Nat} (h:1 ≤ m):∃ n:Nat,x % (m:Int) = (n:Int)∧n < m:=by
 have h1:=Int.emod_nonneg x (show (m:Int) ≠ 0 by omega)
 have h2:=Int.emod_lt_of_pos x (show (0:Int) < m by omega)
 exact ⟨(x % (m:Int)).toNat,by omega,by omega⟩
theorem ajm {n j:Nat} (h:j < n):ixN n (j:Int) = some j:=by
 unfold ixN
 rw [if_pos (by omega),if_pos (by omega)]
 simp
theorem dq {A B:DSt→Out Fl} {δ δ':DSt} (h:A δ = .ok (.nx δ')):bh A B δ = B δ':=by
 unfold bh
 rw [h]
 rfl
theorem Gj {f:DSt→Out D} {i:Nat} {δ δ':DSt} {ds:List D} {d:D} (h1:δ[i]? = some (some (.ol ds))) (h2:f δ = .ok d) (h3:ds.length < sizeLine) (h4:δ.set i (some (.ol (ds ++ [d]))) = δ'):xq i f δ = .ok (.nx δ'):=by
 unfold xq
 rw [h1]
 simp only [h2,Out.bK]
 rw [if_pos h3,h4]
theorem run_rt {A B:DSt→Out Fl} {δ:DSt} {d:D} (h:A δ = .ok (.rt d)):((bh A B δ).bind gO).bD = .ok d:=by
 unfold bh
 rw [h]
 rfl
theorem rm {t:DSt→Out Bool} {A B:DSt→Out Fl} {δ:DSt} (h:t δ = .ok true):sIf t A B δ = A δ:=by
 unfold sIf
 rw [h]
 rfl
theorem rT {f:DSt→Out D} {δ:DSt} {d:D} (h:f δ = .ok d):bY f δ = .ok (.rt d):=by
 unfold bY
 rw [h]
 rfl
theorem ajo {f:DSt→Out (List D)} {δ:DSt} {l:List D} (h:f δ = .ok l):Eu f δ = .ok (.lst l):=by
 unfold Eu
 rw [h]
 rfl
theorem afP {f:Nat→List Nat} {n:Nat} (h:∀ i j,i < j→j < n→f i ≠ f j):((List.range n).map f).Nodup:=by
 refine List.pairwise_map.mpr (List.Pairwise.imp_of_mem (fun {a b} ha hb hab=>h a b hab (List.mem_range.mp hb)) List.pairwise_lt_range)
theorem cI {i:Nat} {f:DSt→Out D} {δ δ':DSt} {d:D} (h:f δ = .ok d) (e:δ.set i (some (.sh d)) = δ'):bZ i f δ = .ok (.nx δ'):=by
 unfold bZ
 rw [h]
 simp only [Out.bK]
 rw [e]
theorem rW {i:Nat} {f:DSt→Out (List D)} {δ δ':DSt} {d:List D} (h:f δ = .ok d) (e:δ.set i (some (.ol d)) = δ'):rn i f δ = .ok (.nx δ'):=by
 unfold rn
 rw [h]
 simp only [Out.bK]
 rw [e]
theorem setll_ok {i:Nat} {f:DSt→Out (List (List D))} {δ δ':DSt} {d:List (List D)} (h:f δ = .ok d) (e:δ.set i (some (.oll d)) = δ'):Dw i f δ = .ok (.nx δ'):=by
 unfold Dw
 rw [h]
 simp only [Out.bK]
 rw [e]
theorem mk_ok {c n:Nat} {F:List D→Out (List (Str × D))} {fr:DSt→Out (List D)} {δ:DSt} {ds:List D} {fds:List (Str × D)} (h:fr δ = .ok ds) (hl:ds.length = n) (e:F ds = .ok fds):oMk c n F fr δ = .ok (.obj c fds):=by
 unfold oMk
 rw [h]
 simp only [Out.bK]
 rw [if_pos hl,e]
 rfl
theorem aA {f:DSt→Out D} {r:DSt→Out (List D)} {δ:DSt} {d:D} {ds:List D} (h:f δ = .ok d) (h2:r δ = .ok ds):ak f r δ = .ok (d :: ds):=by
 unfold ak
 rw [h]
 simp only [Out.bK]
 rw [h2]
 rfl
theorem cV {n:Nat} {F:List D→Out D} {fr:DSt→Out (List D)} {δ:DSt} {ds:List D} {d:D} (h:fr δ = .ok ds) (hl:ds.length = n) (e:F ds = .ok d):oF n F fr δ = .ok d:=by
 unfold oF
 rw [h]
 simp only [Out.bK]
 rw [if_pos hl,e]
theorem aeM {α β:Type} {t:DSt→Out Bool} {fe:DSt→Out β} (g:α→D) (h:α→Option β):∀ (xs:List α) (δ:DSt),(∀ x ∈ xs,t (δ.set 0 (some (.sh (g x)))) = .ok (h x).isSome∧∀ y,h x = some y→fe (δ.set 0 (some (.sh (g x)))) = .ok y)→Jb (gN 0) t fe (xs.map g) δ = .ok (xs.filterMap h)
 | [],_,_=>rfl
 | x :: xs,δ,k=>by
   have e1:=k x List.mem_cons_self
   have e2:=aeM g h xs (δ.set 0 (some (.sh (g x)))) (fun y hy=>by rw [List.set_set]; exact k y (List.mem_cons_of_mem _ hy))
   rw [List.map_cons]
   unfold Jb
   cases hx:h x with
   | none =>
     rw [hx] at e1
     simp only [gN,Out.nD,Out.bK,Out.zR,e1.1,e2,Option.isSome_none,Bool.false_eq_true,if_false,List.filterMap_cons,hx]
   | some y =>
     have e3:=e1.2 y hx
     rw [hx] at e1
     simp only [gN,Out.nD,Out.bK,Out.zR,e1.1,e2,e3,Option.isSome_some,if_true,List.filterMap_cons,hx]
theorem comp_fm {α β:Type} {cap:List (Option Nat)} {fi:DSt→Out (List D)} {t:DSt→Out Bool} {fe:DSt→Out β} {δ:DSt} (g:α→D) (h:α→Option β) (xs:List α) (e:fi δ = .ok (xs.map g)) (hz:xs.length < 1000000) (k:∀ x ∈ xs,t ((capD cap δ).set 0 (some (.sh (g x)))) = .ok (h x).isSome∧∀ y,h x = some y→fe ((capD cap δ).set 0 (some (.sh (g x)))) = .ok y):nR cap fi (gN 0) t fe δ = .ok (xs.filterMap h):=by
 unfold nR
 rw [e]
 simp only [Out.bK]
 rw [if_pos (by rw [List.length_map]; exact Nat.lt_of_lt_of_le hz (by decide)),aeM g h xs _ k]
section
variable {many acts:Nat} {rows:List (List Dr)}
end
theorem add_str {a b:List Nat} (h:a.length + b.length ≤ 100):dG (.str (ofL a)) (.str (ofL b)) = some (.str (ofL (a ++ b))):=by
 show (if (ofL a).length + (ofL b).length ≤ sizeLine then some (D.str (ofL a ++ ofL b)) else none) = _
 rw [Qv,Qv,if_pos (Nat.le_trans h (by decide)),ofL_app]
theorem uF {g:D→D→Option D} {fa fb:DSt→Out D} {δ:DSt} {x y z:D} (h1:fa δ = .ok x) (h2:fb δ = .ok y) (e:g x y = some z):o2 g fa fb δ = .ok z:=by
 unfold o2
 rw [h1,Out.bK,h2,Out.bK,e]
 rfl
theorem o1_ok {g:D→Option D} {fa:DSt→Out D} {δ:DSt} {x z:D} (h1:fa δ = .ok x) (e:g x = some z):o1 g fa δ = .ok z:=by
 unfold o1
 rw [h1,Out.bK,e]
 rfl
theorem qP {g:D→D→Option Bool} {fa fb:DSt→Out D} {δ:DSt} {x y:D} {z:Bool} (h1:fa δ = .ok x) (h2:fb δ = .ok y) (e:g x y = some z):o2b g fa fb δ = .ok z:=by
 unfold o2b
 rw [h1,Out.bK,h2,Out.bK,e]
 rfl
theorem bV_ok {f:DSt→Out Bool} {δ:DSt} {b:Bool} (h:f δ = .ok b):bV f δ = .ok (.bl b):=by
 unfold bV
 rw [h]
 rfl
theorem Am {fa fb:DSt→Out D} {δ:DSt} {a b:D} (h1:fa δ = .ok a) (h2:fb δ = .ok b):cZ (ak fa (ak fb aG)) δ = .ok (.tup [a,b]):=by
 unfold cZ
 rw [aA h1 (aA h2 rfl)]
 show (if 2 ≤ sizeLine then Out.ok (D.tup [a,b]) else .stuck) = _
 rw [if_pos s2]
theorem lst2 {fa fb:DSt→Out D} {δ:DSt} {a b:D} (h1:fa δ = .ok a) (h2:fb δ = .ok b):jl (ak fa (ak fb aG)) δ = .ok (.lst [a,b]):=by
 unfold jl
 rw [aA h1 (aA h2 rfl)]
 show (if 2 ≤ sizeLine then Out.ok (D.lst [a,b]) else .stuck) = _
 rw [if_pos s2]
def Ah (f:List (List Dr)):List D:=f.map fun r=>D.lst (r.map Dr.d)
theorem aiP {t:DSt→Out Bool} {A:DSt→Out Fl} {δ:DSt} {b:Bool} (h:t δ = .ok b):sIf t A fW δ = if b = true then A δ else .ok (.nx δ):=by
 unfold sIf
 rw [h,Out.bK]
 rfl
theorem mz {fa fb:DSt→Out D} {δ:DSt} {i j:Int} (h1:fa δ = .ok (.int i)) (h2:fb δ = .ok (.int j)):o2 dG fa fb δ = .ok (.int (i + j)):=uF h1 h2 rfl
theorem Dp {fa fb:DSt→Out D} {δ:DSt} {i j:Int} (h1:fa δ = .ok (.int i)) (h2:fb δ = .ok (.int j)) (h:An i j):o2 oW fa fb δ = .ok (.int (i * j)):=uF h1 h2 (JT h)
theorem d9 {fa fb:DSt→Out D} {δ:DSt} {i j:Int} (h1:fa δ = .ok (.int i)) (h2:fb δ = .ok (.int j)) (h:0 < j):o2 cC fa fb δ = .ok (.int (i % j)):=uF h1 h2 (JS h)
theorem yJ {fa fb:DSt→Out D} {δ:DSt} {i j:Int} (h1:fa δ = .ok (.int i)) (h2:fb δ = .ok (.int j)) (h:CDiv i j):o2 gJ fa fb δ = .ok (.int (i / j)):=uF h1 h2 (Cm h)
theorem Jz {fa fb:DSt→Out D} {δ:DSt} {i j:Int} (h1:fa δ = .ok (.int i)) (h2:fb δ = .ok (.int j)):o2b eqD fa fb δ = .ok (i == j):=qP h1 h2 (R9 i j)
theorem lt_ok {fa fb:DSt→Out D} {δ:DSt} {i j:Int} (h1:fa δ = .ok (.int i)) (h2:fb δ = .ok (.int j)):o2b ltD fa fb δ = .ok (decide (i < j)):=qP h1 h2 rfl
theorem gt_ok {fa fb:DSt→Out D} {δ:DSt} {i j:Int} (h1:fa δ = .ok (.int i)) (h2:fb δ = .ok (.int j)):o2b gtD fa fb δ = .ok (decide (i > j)):=qP h1 h2 rfl
theorem int_ok {fa:DSt→Out Bool} {δ:DSt} {b:Bool} (h:fa δ = .ok b):o1 intD (bV fa) δ = .ok (.int (if b then 1 else 0)):=o1_ok (bV_ok h) (SM b)
theorem uq {fa fb:DSt→Out D} {δ:DSt} {ds:List D} {n:Nat} {d:D} (h1:fa δ = .ok (.lst ds)) (h2:fb δ = .ok (.int (n:Nat))) (h:ds[n]? = some d):o2 ixD fa fb δ = .ok d:=uF h1 h2 (by rw [afA,fY h])
theorem Up {t:DSt→Out Bool} {A B:DSt→Out Fl} {δ:DSt} {d:D} (h:t δ = .ok true) (h2:A δ = .ok (.rt d)):((bh (sIf t A fW) B δ).bind gO).bD = .ok d:=run_rt (by rw [rm h,h2])
theorem J9 {t:DSt→Out Bool} {A B:DSt→Out Fl} {δ:DSt} {r:Out D} (h:t δ = .ok false) (h2:((B δ).bind gO).bD = r):((bh (sIf t A fW) B δ).bind gO).bD = r:=aU (δ':=δ) (by rw [aiP h]; rfl) h2
theorem DR {a b:DSt→Out Bool} {δ:DSt} {x y:Bool} (h1:a δ = .ok x) (h2:x = true→b δ = .ok y):uK a b δ = .ok (x && y):=by
 unfold uK
 rw [h1]
 cases x
 · rfl
 · simp only [Out.bK,if_true,Bool.true_and]; exact h2 rfl
theorem orT_ok {a b:DSt→Out Bool} {δ:DSt} {x y:Bool} (h1:a δ = .ok x) (h2:x = false→b δ = .ok y):orT a b δ = .ok (x || y):=by
 unfold orT
 rw [h1]
 cases x
 · simp only [Out.bK,Bool.false_or]; exact h2 rfl
 · rfl
theorem aca {a:DSt→Out Bool} {δ:DSt} {x:Bool} (h1:a δ = .ok x):qw a δ = .ok (!x):=by
 unfold qw
 rw [h1]
 rfl
theorem adU {a:DSt→Out D} {δ:DSt} {x:Bool} (h1:a δ = .ok (.bl x)):tst a δ = .ok x:=by
 unfold tst
 rw [h1]
 rfl
theorem len_l {fa:DSt→Out D} {δ:DSt} {ds:List D} (h:fa δ = .ok (.lst ds)):o1 fK fa δ = .ok (.int (ds.length:Nat)):=o1_ok h rfl
theorem tix0 {fa:DSt→Out D} {δ:DSt} {a:D} {r:List D} (h:fa δ = .ok (.tup (a :: r))):o2 ixD fa (kc (.int 0)) δ = .ok a:=uF h rfl (by rw [SQ,aeA])
theorem tix1 {fa:DSt→Out D} {δ:DSt} {a b:D} {r:List D} (h:fa δ = .ok (.tup (a :: b :: r))):o2 ixD fa (kc (.int 1)) δ = .ok b:=uF h rfl (by rw [SQ,aeB])
theorem ixt_ok {fa fb:DSt→Out D} {δ:DSt} {ds:List D} {n:Nat} {d:D} (h1:fa δ = .ok (.tup ds)) (h2:fb δ = .ok (.int (n:Nat))) (h:ds[n]? = some d):o2 ixD fa fb δ = .ok d:=uF h1 h2 (by rw [SQ,fY h])
theorem cut_take {α:Type} (g:α→D) (xs:List α) (a:Nat):OJ (xs.map g) none (some (a:Int)) = (xs.take a).map g:=by
 unfold OJ
 rw [List.length_map,HT.ajx,HT.Ur,Nat.sub_zero,List.drop_zero,← List.map_take]
 congr 1
 rw [Nat.min_comm,← List.take_take,List.take_of_length_le (by rw [List.length_take]; omega)]
theorem cut_drop {α:Type} (g:α→D) (xs:List α) (b:Nat):OJ (xs.map g) (some (b:Int)) none = (xs.drop b).map g:=by
 unfold OJ
 rw [List.length_map,HT.ajx,HT.Ur,← List.map_drop,← List.map_take]
 congr 1
 by_cases h:b ≤ xs.length
 · rw [Nat.min_eq_left h,List.take_of_length_le (by rw [List.length_drop]; omega)]
 · rw [Nat.min_eq_right (by omega),List.drop_of_length_le (Nat.le_refl _),List.drop_of_length_le (by omega)]
   simp
theorem ahp {fa fb:DSt→Out D} {δ:DSt} {a b:List D} (h1:fa δ = .ok (.lst a)) (h2:fb δ = .ok (.lst b)) (h:a.length + b.length ≤ 5000):o2 dG fa fb δ = .ok (.lst (a ++ b)):=uF h1 h2 (by
 show (if _ then _ else _) = _
 rw [if_pos (Nat.le_trans h (by decide))])
theorem lst1 {fa:DSt→Out D} {δ:DSt} {a:D} (h1:fa δ = .ok a):jl (ak fa aG) δ = .ok (.lst [a]):=by
 unfold jl
 rw [aA h1 rfl]
 rfl
theorem cd (x:Int) {j:Int} (h:0 < j) (h2:j < 1073741824):CDiv x j:=⟨h,h2⟩
end K5
namespace K5
open PySem L2 MX DL
def nP (c k:Int):Int :=
 let n:=(c % 2147483647 * 48271 + k * 7919 + 104729) % 2147483647
 let n:=(n * n % 2147483629 * 16807 + k * 104729 + 11) % 2147483587
 n * n % 2147483549
theorem mq (c k:Int) (h0:0 ≤ k) (h1:k ≤ 1000000):aJ [.int c,.int k] = .ok (.int (nP c k)):=by
 unfold aJ JM
 have m1:∀ a b:Int,An (a % 2147483647) b:=fun a b=>modb a b (by decide) (by decide)
 have m2:∀ a b:Int,An (a % 2147483629) b:=fun a b=>modb a b (by decide) (by decide)
 have m3:∀ a b:Int,An (a % 2147483587) b:=fun a b=>modb a b (by decide) (by decide)
 have mk:∀ b:Int,An k b:=fun b=>uP (by omega) (by omega)
 walk_at "ev: m1 m2 m3 mk"
 rfl
theorem QC (ns:List Int) (k:Nat) (hk:k ≤ 1000):∃ c:Int,bA [.rol (ns.map .int),.int k] = .ok (.int c):=by
 show ∃ c:Int,((um [some (.sh (.rol (ns.map .int))),some (.sh (.int k))]).bind gO).bD = .ok (.int c)
 unfold um
 have ln:o1 fK (gb 0) [some (.sh (.rol (ns.map .int))),some (.sh (.int k))] = .ok (.int (ns.length:Nat)):=by
   rw [o1_ok (x:=.rol (ns.map .int)) (z:=.int ((ns.map D.int).length:Nat)) rfl rfl,List.length_map]
 have t:o2b ltD (gb 1) (o1 fK (gb 0)) [some (.sh (.rol (ns.map .int))),some (.sh (.int k))] = .ok (decide ((k:Int) < (ns.length:Int))):=lt_ok rfl ln
 by_cases h:k < ns.length
 · rw [decide_eq_true (by omega)] at t
   exact ⟨ns[k],Up t (rT (uF (x:=.rol (ns.map .int)) (y:=.int (k:Nat)) rfl rfl (by rw [afB,fY (by rw [List.getElem?_map,List.getElem?_eq_getElem h]; rfl)])))⟩
 · rw [decide_eq_false (by omega)] at t
   exact ⟨(k:Int) * k + 7,J9 t (zT (mz (Dp rfl rfl (uP (by omega) (by omega))) rfl))⟩
def Pn (cell:Int) (at' k j:Nat):Int:=nP cell (4 + (j:Int)) + 3 * (k:Int) * (if ((j:Int) == (at':Int)) = true then 1 else 0)
def chN (cell:Int) (at' k j:Nat):Nat:=97 + (Pn cell at' k j % 26).toNat
def nmN (cell:Int) (sz at' k:Nat):List Nat:=(List.range sz).map (chN cell at' k)
def stN (cell:Int) (many sz at':Nat) (f:List D) (x5 x6 x7:Option Sl):DSt:=[some (.sh (.int cell)),some (.sh (.int many)),some (.sh (.int sz)),some (.sh (.int at')),some (.ol f),x5,x6,x7]
theorem afM (cell:Int) (many sz at':Nat) (f:List D) {k j:Nat} (hk:k < 8) (hj:j < 8) (l:List Nat) (hl:l.length ≤ 8):ji (stN cell many sz at' f (some (.sh (.int k))) (some (.sh (.str (ofL l)))) (some (.sh (.int j)))) = .ok (.nx (stN cell many sz at' f (some (.sh (.int k))) (some (.sh (.str (ofL (l ++ [chN cell at' k j]))))) (some (.sh (.int j))))):=by
 unfold ji
 have m:=mq cell (4 + (j:Int)) (by omega) (by omega)
 have c1:An (3 * (k:Int)) (if ((j:Int) == (at':Int)) = true then 1 else 0):=uP (by omega) (by omega)
 have n0:0 ≤ Pn cell at' k j % 26:=Int.emod_nonneg _ (by decide)
 have n1:Pn cell at' k j % 26 < 26:=Int.emod_lt_of_pos _ (by decide)
 refine cI (uF (x:=.str (ofL l)) (y:=.str (ofL [chN cell at' k j])) rfl (uF (x:=.str "abcdefghijklmnopqrstuvwxyz") (y:=.int (Pn cell at' k j % 26)) rfl ?_ (abc_at n0 n1)) (add_str (by simp; omega))) rfl
 unfold Pn
 apply d9 (h:=by decide)
 · apply mz
   · exact cV (ds:=[.int cell,.int (4 + (j:Int))]) (aA rfl (aA rfl rfl)) rfl m
   · apply Dp (h:=c1)
     · exact Dp rfl rfl (uP (by decide) (by decide))
     · exact int_ok (Jz rfl rfl)
 · rfl
theorem akT (cell:Int) (many:Nat) {sz:Nat} (hz:sz ≤ 8) (at':Nat) (f:List D) {k:Nat} (hk:k < 8) (x7:Option Sl):∃ y7,wX (gN 7) ji ((List.range sz).map fun k:Nat=>D.int k) (stN cell many sz at' f (some (.sh (.int k))) (some (.sh (.str (ofL [])))) x7) = .ok (.nx (stN cell many sz at' f (some (.sh (.int k))) (some (.sh (.str (ofL (nmN cell sz at' k))))) y7)):=by
 have hh:=fC (body:=ji) (tg:=gN 7) (fun k:Nat=>D.int k) (fun done δ=>∃ y7,δ = stN cell many sz at' f (some (.sh (.int k))) (some (.sh (.str (ofL (done.map (chN cell at' k)))))) y7) (List.range sz) (stN cell many sz at' f (some (.sh (.int k))) (some (.sh (.str (ofL [])))) x7) (by
   rintro j done rest δ e ⟨y7,rfl⟩
   have hj:j < sz:=List.mem_range.mp (by rw [e]; simp)
   have hd:done.length ≤ 8:=by
     have:=congrArg List.length e
     simp at this
     omega
   refine ⟨stN cell many sz at' f (some (.sh (.int k))) (some (.sh (.str (ofL (done.map (chN cell at' k)))))) (some (.sh (.int j))),rfl,?_⟩
   rw [afM cell many sz at' f hk (by omega) _ (by rw [List.length_map]; exact hd)]
   exact ⟨_,by rw [List.map_append]; rfl⟩) ⟨x7,rfl⟩
 obtain ⟨δ',e,y7,rfl⟩:=hh
 exact ⟨y7,e⟩
theorem aik (cell:Int) (many:Nat) (hm:many ≤ 8) {sz:Nat} (hz:sz ≤ 8) (at':Nat):∃ y5 y6 y7,wX (gN 5) mZ ((List.range many).map fun k:Nat=>D.int k) (stN cell many sz at' [] none none none) = .ok (.nx (stN cell many sz at' (aL ((List.range many).map (nmN cell sz at'))) y5 y6 y7)):=by
 have hh:=fC (body:=mZ) (tg:=gN 5) (fun k:Nat=>D.int k) (fun done δ=>∃ y5 y6 y7,δ = stN cell many sz at' (aL (done.map (nmN cell sz at'))) y5 y6 y7) (List.range many) (stN cell many sz at' [] none none none) (by
   rintro k done rest δ e ⟨y5,y6,y7,rfl⟩
   have hk:k < many:=List.mem_range.mp (by rw [e]; simp)
   have hd:done.length ≤ 8:=by
     have:=congrArg List.length e
     simp at this
     omega
   obtain ⟨z7,q⟩:=akT cell many hz at' (aL (done.map (nmN cell sz at'))) (k:=k) (by omega) y7
   refine ⟨stN cell many sz at' (aL (done.map (nmN cell sz at'))) (some (.sh (.int k))) y6 y7,rfl,?_⟩
   unfold mZ
   have e0:Str.ofString "" = ofL []:=by decide +kernel
   rw [dq (δ':=stN cell many sz at' (aL (done.map (nmN cell sz at'))) (some (.sh (.int k))) (some (.sh (.str (ofL [])))) y7) (cI (d:=.str (ofL [])) (by show Out.ok (D.str (Str.ofString "")) = _; rw [e0]) rfl)]
   have rg:=jn (f:=gv 2) (δ:=stN cell many sz at' (aL (done.map (nmN cell sz at'))) (some (.sh (.int k))) (some (.sh (.str (ofL [])))) y7) (n:=sz) rfl (by omega)
   rw [dq (δ':=stN cell many sz at' (aL (done.map (nmN cell sz at'))) (some (.sh (.int k))) (some (.sh (.str (ofL (nmN cell sz at' k))))) z7) (by unfold ig; rw [rg]; exact q)]
   rw [Gj (ds:=aL (done.map (nmN cell sz at'))) (d:=.str (ofL (nmN cell sz at' k))) (δ':=stN cell many sz at' (aL ((done ++ [k]).map (nmN cell sz at'))) (some (.sh (.int k))) (some (.sh (.str (ofL (nmN cell sz at' k))))) z7) rfl rfl (by unfold aL; rw [List.length_map,List.length_map]; exact Nat.lt_of_le_of_lt hd (by decide)) (by
     have en:aL ((done ++ [k]).map (nmN cell sz at')) = aL (done.map (nmN cell sz at')) ++ [.str (ofL (nmN cell sz at' k))]:=by simp [aL]
     rw [en]
     rfl)]
   exact ⟨_,_,_,rfl⟩) ⟨none,none,none,rfl⟩
 obtain ⟨δ',e,y5,y6,y7,rfl⟩:=hh
 exact ⟨y5,y6,y7,e⟩
theorem names_ok {cell:Int} {sz at' many:Nat} (hz1:1 ≤ sz) (hz:sz ≤ 8) (ha:at' < sz) (h1:1 ≤ many) (h2:many ≤ 8):Names ((List.range many).map (nmN cell sz at')):=by
 refine ⟨fun l hl=>?_,by simpa using h1,by simpa using h2,afP fun i j ij hj e=>?_⟩
 · obtain ⟨k,_,rfl⟩:=List.mem_map.mp hl
   refine ⟨by simp [nmN]; omega,by simp [nmN]; omega,fun c hc=>?_⟩
   obtain ⟨j,_,rfl⟩:=List.mem_map.mp hc
   unfold chN
   have n0:0 ≤ Pn cell at' k j % 26:=Int.emod_nonneg _ (by decide)
   have n1:Pn cell at' k j % 26 < 26:=Int.emod_lt_of_pos _ (by decide)
   omega
 · have e1:=congrArg (fun l=>l[at']?) e
   simp only [nmN,List.getElem?_map,List.getElem?_range ha,Option.map_some,Option.some.injEq] at e1
   unfold chN at e1
   have n0:0 ≤ Pn cell at' i at' % 26:=Int.emod_nonneg _ (by decide)
   have n1:0 ≤ Pn cell at' j at' % 26:=Int.emod_nonneg _ (by decide)
   have q:Pn cell at' i at' % 26 = Pn cell at' j at' % 26:=by omega
   unfold Pn at q
   simp only [beq_self_eq_true,if_true,Int.mul_one] at q
   generalize nP cell (4 + (at':Int)) = y at q
   omega
theorem F_names (cell:Int) (many:Nat) (h1:1 ≤ many) (h2:many ≤ 8):∃ ns,lZ [.int cell,.int many] = .ok (.lst (aL ns))∧Names ns∧ns.length = many:=by
 have ma:=mq cell 2 (by decide) (by decide)
 have mb:=mq cell 3 (by decide) (by decide)
 obtain ⟨s,es,hs⟩:=gQ (nP cell 2) (m:=8) (by decide)
 simp only [Int.cast_ofNat_Int] at es
 obtain ⟨a,ea,haa⟩:=gQ (nP cell 3) (m:=1 + s) (by omega)
 obtain ⟨y5,y6,y7,e⟩:=aik cell many h2 (sz:=1 + s) (by omega) a
 refine ⟨_,?_,names_ok (cell:=cell) (sz:=1 + s) (at':=a) (by omega) (by omega) haa h1 h2,by simp⟩
 show ((zg [some (.sh (.int cell)),some (.sh (.int many)),none,none,none,none,none,none]).bind gO).bD = _
 unfold zg
 have cs:(1:Int) + (s:Int) = ((1 + s:Nat):Int):=by omega
 refine aU (δ':=[some (.sh (.int cell)),some (.sh (.int many)),some (.sh (.int ((1 + s:Nat):Int))),none,none,none,none,none]) (cI (d:=.int ((1 + s:Nat):Int)) (by
   rw [mz (i:=1) (j:=nP cell 2 % 8) rfl (d9 (cV (n:=2) (fr:=ak (gv 0) (ak (kc (.int 2)) aG)) (aA rfl (aA rfl rfl)) rfl ma) rfl (by decide)),es,cs]) rfl) ?_
 refine aU (δ':=[some (.sh (.int cell)),some (.sh (.int many)),some (.sh (.int ((1 + s:Nat):Int))),some (.sh (.int a)),none,none,none,none]) (cI (d:=.int a) (by
   have e:=d9 (fa:=oF 2 aJ (ak (gv 0) (ak (kc (.int 3)) aG))) (fb:=gv 2) (δ:=[some (.sh (.int cell)),some (.sh (.int many)),some (.sh (.int ((1 + s:Nat):Int))),none,none,none,none,none]) (i:=nP cell 3) (j:=((1 + s:Nat):Int)) (cV (aA rfl (aA rfl rfl)) rfl mb) rfl (by omega)
   rw [ea] at e
   exact e) rfl) ?_
 refine aU (δ':=stN cell many (1 + s) a [] none none none) (rW (d:=[]) (by unfold tV; walk_at "ev: s0") rfl) ?_
 have rg:=jn (f:=gv 1) (δ:=stN cell many (1 + s) a [] none none none) (n:=many) rfl (by omega)
 refine aU (δ':=stN cell many (1 + s) a (aL ((List.range many).map (nmN cell (1 + s) a))) y5 y6 y7) (by unfold ig; rw [rg]; exact e) ?_
 rfl
theorem F_sizes (cell:Int):∃ a b:Nat,jq [.int cell] = .ok (.tup [.int a,.int b])∧1 ≤ a∧a ≤ 8∧1 ≤ b∧b ≤ 8:=by
 have m:=mq cell 12 (by decide) (by decide)
 generalize nP cell 12 = n at m
 obtain ⟨u,eu,hu⟩:=gQ n (m:=4) (by decide)
 obtain ⟨v,ev,hv⟩:=gQ (n / 4) (m:=4) (by decide)
 simp only [Int.cast_ofNat_Int] at eu ev
 show ∃ a b:Nat,((zj [some (.sh (.int cell)),none]).bind gO).bD = .ok (.tup [.int a,.int b])∧_
 unfold zj
 have s1:bZ 1 (oF 2 aJ (ak (gv 0) (ak (kc (.int 12)) aG))) [some (.sh (.int cell)),none] = .ok (.nx [some (.sh (.int cell)),some (.sh (.int n))]):=cI (cV (aA rfl (aA rfl rfl)) rfl m) rfl
 have d16:∀ k:Int,o2b eqD (o2 cC (o2 gJ (gv 1) (kc (.int 16))) (kc (.int 8))) (kc (.int k)) [some (.sh (.int cell)),some (.sh (.int n))] = .ok (n / 16 % 8 == k):=fun k=>Jz (d9 (yJ rfl rfl (cd _ (by decide) (by decide))) rfl (by decide)) rfl
 have eA:o2 dG (kc (.int 1)) (o2 cC (o2 gJ (gv 1) (kc (.int 4))) (kc (.int 4))) [some (.sh (.int cell)),some (.sh (.int n))] = .ok (.int ((1 + v:Nat):Int)):=by
   rw [mz (i:=1) (j:=n / 4 % 4) rfl (d9 (yJ rfl rfl (cd _ (by decide) (by decide))) rfl (by decide)),ev]
   congr 2
 have eB:o2 dG (kc (.int 1)) (o2 cC (gv 1) (kc (.int 4))) [some (.sh (.int cell)),some (.sh (.int n))] = .ok (.int ((1 + u:Nat):Int)):=by
   rw [mz (i:=1) (j:=n % 4) rfl (d9 rfl rfl (by decide)),eu]
   congr 2
 have z0:=d16 0
 have z1:=d16 1
 cases b0:(n / 16 % 8 == 0) with
 | true =>
   rw [b0] at z0
   exact ⟨8,1 + v,aU s1 (Up z0 (rT (Am rfl eA))),by omega,by omega,by omega,by omega⟩
 | false =>
   rw [b0] at z0
   cases b1:(n / 16 % 8 == 1) with
   | true =>
     rw [b1] at z1
     exact ⟨1 + u,8,aU s1 (J9 z0 (Up z1 (rT (Am eB rfl)))),by omega,by omega,by omega,by omega⟩
   | false =>
     rw [b1] at z1
     exact ⟨1 + u,1 + v,aU s1 (J9 z0 (J9 z1 (zT (Am eB eA)))),by omega,by omega,by omega,by omega⟩
end K5
namespace K5
open PySem L2 MX DL
theorem lst3 {fa fb fc:DSt→Out D} {δ:DSt} {a b c:D} (h1:fa δ = .ok a) (h2:fb δ = .ok b) (h3:fc δ = .ok c):jl (ak fa (ak fb (ak fc aG))) δ = .ok (.lst [a,b,c]):=by
 unfold jl
 rw [aA h1 (aA h2 (aA h3 rfl))]
 rfl
theorem asg2 {f:DSt→Out D} {i j:Nat} {δ:DSt} {a b:D} (h:f δ = .ok (.tup [a,b])):Ka f (gT 2 (cz (gN i) (cz (gN j) mX))) δ = .ok (.nx ((δ.set i (some (.sh a))).set j (some (.sh b)))):=by
 unfold Ka
 rw [h]
 rfl
theorem ik {t:DSt→Out Bool} {A B:DSt→Out Fl} {δ:DSt} (h:t δ = .ok false):sIf t A B δ = B δ:=by
 unfold sIf
 rw [h]
 rfl
theorem four {u:Nat} (h:u < 4):u = 0 ∨ u = 1 ∨ u = 2 ∨ u = 3:=by omega
theorem three {u:Nat} (h:u < 3):u = 0 ∨ u = 1 ∨ u = 2:=by omega
def stW (ns:List Int) (at' rooms many:Nat) (f:List (List Dr)) (x5 x6 x7 x8 x9 x10:Option Sl):DSt:=[some (.sh (.rol (ns.map .int))),some (.sh (.int at')),some (.sh (.int rooms)),some (.sh (.int many)),some (.ol (Ah f)),x5,x6,x7,x8,x9,x10]
theorem aj2 (ns:List Int) (at':Nat) {rooms many:Nat} (hr:1 ≤ rooms) (f:List (List Dr)) {i a:Nat} (hi:i < 100) (ha:a < 100) (c:Int) (r:List Dr) (hl:r.length ≤ 8) (x9 x10:Option Sl) :
   ∃ (x:Dr) (y9 y10:Option Sl),x.ok rooms false∧j6 (stW ns at' rooms many f (some (.sh (.int i))) (some (.sh (.int c))) (some (.ol (r.map Dr.d))) (some (.sh (.int a))) x9 x10) = .ok (.nx (stW ns at' rooms many f (some (.sh (.int i))) (some (.sh (.int c))) (some (.ol ((r ++ [x]).map Dr.d))) (some (.sh (.int a))) y9 y10)):=by
 have m:=mq c (20 + 9 * (i:Int) + (a:Int)) (by omega) (by omega)
 generalize nP c (20 + 9 * (i:Int) + (a:Int)) = n at m
 obtain ⟨t,et,ht⟩:=gQ (n / 4) (m:=rooms) hr
 obtain ⟨u,eu,hu⟩:=gQ n (m:=4) (by decide)
 simp only [Int.cast_ofNat_Int] at eu
 have s9:bZ 9 (oF 2 aJ (ak (gv 6) (ak (o2 dG (o2 dG (kc (.int 20)) (o2 oW (kc (.int 9)) (gv 5))) (gv 8)) aG))) (stW ns at' rooms many f (some (.sh (.int i))) (some (.sh (.int c))) (some (.ol (r.map Dr.d))) (some (.sh (.int a))) x9 x10) = .ok (.nx (stW ns at' rooms many f (some (.sh (.int i))) (some (.sh (.int c))) (some (.ol (r.map Dr.d))) (some (.sh (.int a))) (some (.sh (.int n))) x10)) :=
   cI (cV (ds:=[.int c,.int (20 + 9 * (i:Int) + (a:Int))]) (aA rfl (aA (mz (mz rfl (Dp rfl rfl (uP (by decide) (by decide)))) rfl) rfl)) rfl m) rfl
 have em:o2 cC (o2 gJ (gv 9) (kc (.int 4))) (gv 2) (stW ns at' rooms many f (some (.sh (.int i))) (some (.sh (.int c))) (some (.ol (r.map Dr.d))) (some (.sh (.int a))) (some (.sh (.int n))) x10) = .ok (.int (t:Nat)):=by
   rw [d9 (yJ rfl rfl (cd _ (by decide) (by decide))) (j:=(rooms:Int)) rfl (by omega),← et]
 have s10:=cI (i:=10) (lst3 (Am (fa:=kc (.str "must")) rfl em) (Am (fa:=kc (.str "may")) rfl em) (Am (fa:=kc (.str "shut")) (fb:=kc .non) rfl rfl)) rfl
 have w:∃ v:Nat,v < 3∧o2 ixD (jl (ak (kc (.int 0)) (ak (kc (.int 1)) (ak (kc (.int 1)) (ak (kc (.int 2)) aG))))) (o2 cC (gv 9) (kc (.int 4))) (stW ns at' rooms many f (some (.sh (.int i))) (some (.sh (.int c))) (some (.ol (r.map Dr.d))) (some (.sh (.int a))) (some (.sh (.int n))) (some (.sh (.lst [.tup [.str "must",.int t],.tup [.str "may",.int t],.tup [.str "shut",.non]])))) = .ok (.int (v:Nat)):=by
   have e:o2 cC (gv 9) (kc (.int 4)) (stW ns at' rooms many f (some (.sh (.int i))) (some (.sh (.int c))) (some (.ol (r.map Dr.d))) (some (.sh (.int a))) (some (.sh (.int n))) (some (.sh (.lst [.tup [.str "must",.int t],.tup [.str "may",.int t],.tup [.str "shut",.non]])))) = .ok (.int (u:Nat)):=by
     rw [d9 (i:=n) (j:=4) rfl rfl (by decide),eu]
   rcases four hu with rfl | rfl | rfl | rfl
   · exact ⟨0,by decide,uq (ds:=[.int 0,.int 1,.int 1,.int 2]) rfl e rfl⟩
   · exact ⟨1,by decide,uq (ds:=[.int 0,.int 1,.int 1,.int 2]) rfl e rfl⟩
   · exact ⟨1,by decide,uq (ds:=[.int 0,.int 1,.int 1,.int 2]) rfl e rfl⟩
   · exact ⟨2,by decide,uq (ds:=[.int 0,.int 1,.int 1,.int 2]) rfl e rfl⟩
 obtain ⟨v,hv,ev⟩:=w
 obtain ⟨x,hx,ex⟩:∃ x:Dr,x.ok rooms false∧([.tup [.str "must",.int t],.tup [.str "may",.int t],.tup [.str "shut",.non]]:List D)[v]? = some x.d:=by
   rcases three hv with rfl | rfl | rfl
   · exact ⟨.must t,ht,rfl⟩
   · exact ⟨.may t,ht,rfl⟩
   · exact ⟨.shut,trivial,rfl⟩
 refine ⟨x,some (.sh (.int n)),some (.sh (.lst [.tup [.str "must",.int t],.tup [.str "may",.int t],.tup [.str "shut",.non]])),hx,?_⟩
 unfold j6
 rw [dq s9,dq s10]
 refine Gj (ds:=r.map Dr.d) (d:=x.d) rfl (uq (n:=v) rfl ev ex) (by rw [List.length_map]; exact Nat.lt_of_le_of_lt hl (by decide)) ?_
 rw [List.map_append]
 rfl
theorem row_made (ns:List Int) (at':Nat) {rooms many:Nat} (hr:1 ≤ rooms) (hm:many ≤ 8) (f:List (List Dr)) {i:Nat} (hi:i < 100) (c:Int) (x8 x9 x10:Option Sl) :
   ∃ (r:List Dr) (y8 y9 y10:Option Sl),wX (gN 8) j6 ((List.range many).map fun k:Nat=>D.int k) (stW ns at' rooms many f (some (.sh (.int i))) (some (.sh (.int c))) (some (.ol [])) x8 x9 x10) = .ok (.nx (stW ns at' rooms many f (some (.sh (.int i))) (some (.sh (.int c))) (some (.ol (r.map Dr.d))) y8 y9 y10))∧r.length = many∧∀ x ∈ r,x.ok rooms false:=by
 have hh:=fC (body:=j6) (tg:=gN 8) (fun k:Nat=>D.int k) (fun done δ=>∃ (r:List Dr) (y8 y9 y10:Option Sl),δ = stW ns at' rooms many f (some (.sh (.int i))) (some (.sh (.int c))) (some (.ol (r.map Dr.d))) y8 y9 y10∧r.length = done.length∧∀ x ∈ r,x.ok rooms false) (List.range many) (stW ns at' rooms many f (some (.sh (.int i))) (some (.sh (.int c))) (some (.ol [])) x8 x9 x10) (by
   rintro a done rest δ e ⟨r,y8,y9,y10,rfl,hl,hx⟩
   have hj:a < many:=List.mem_range.mp (by rw [e]; simp)
   have hd:done.length ≤ 8:=by
     have:=congrArg List.length e
     simp at this
     omega
   obtain ⟨x,z9,z10,h1,h2⟩:=aj2 ns at' (many:=many) hr f hi (a:=a) (by omega) c r (by omega) y9 y10
   refine ⟨stW ns at' rooms many f (some (.sh (.int i))) (some (.sh (.int c))) (some (.ol (r.map Dr.d))) (some (.sh (.int a))) y9 y10,rfl,?_⟩
   rw [h2]
   refine ⟨r ++ [x],_,_,_,rfl,by simp [hl],fun y hy=>?_⟩
   rcases List.mem_append.mp hy with z | z
   · exact hx y z
   · rw [List.mem_singleton.mp z]; exact h1) ⟨[],x8,x9,x10,rfl,rfl,by simp⟩
 obtain ⟨δ',e,r,y8,y9,y10,rfl,hl,hx⟩:=hh
 exact ⟨r,y8,y9,y10,e,by simpa using hl,hx⟩
theorem Mr {f:List (List Dr)} (r:List Dr):Ah (f ++ [r]) = Ah f ++ [.lst (r.map Dr.d)]:=by simp [Ah]
theorem aje (ns:List Int) {at' rooms many:Nat} (ha:at' ≤ 20) (hr:1 ≤ rooms) (hr8:rooms ≤ 8) (hm:many ≤ 8):∃ rows,iT [.rol (ns.map .int),.int at',.int rooms,.int many] = .ok (aV rows)∧Rows rooms many false rows:=by
 have hh:=fC (body:=wF) (tg:=gN 5) (fun k:Nat=>D.int k) (fun done δ=>∃ (f:List (List Dr)) (x5 x6 x7 x8 x9 x10:Option Sl),δ = stW ns at' rooms many f x5 x6 x7 x8 x9 x10∧f.length = done.length∧∀ r ∈ f,r.length = many∧∀ x ∈ r,x.ok rooms false) (List.range rooms) (stW ns at' rooms many [] none none none none none none) (by
   rintro i done rest δ e ⟨f,x5,x6,x7,x8,x9,x10,rfl,hl,hx⟩
   have hj:i < rooms:=List.mem_range.mp (by rw [e]; simp)
   have hd:done.length ≤ 8:=by
     have:=congrArg List.length e
     simp at this
     omega
   obtain ⟨c,ec⟩:=QC ns (at' + i) (by omega)
   obtain ⟨r,y8,y9,y10,q,hr1,hr2⟩:=row_made ns at' hr hm f (i:=i) (by omega) c x8 x9 x10
   refine ⟨stW ns at' rooms many f (some (.sh (.int i))) x6 x7 x8 x9 x10,rfl,?_⟩
   unfold wF
   have s6:bZ 6 (oF 2 bA (ak (gv 0) (ak (o2 dG (gv 1) (gv 5)) aG))) (stW ns at' rooms many f (some (.sh (.int i))) x6 x7 x8 x9 x10) = .ok (.nx (stW ns at' rooms many f (some (.sh (.int i))) (some (.sh (.int c))) x7 x8 x9 x10)):=cI (cV (ds:=[.rol (ns.map .int),.int ((at' + i:Nat):Int)]) (aA rfl (aA ((mz (i:=(at':Int)) (j:=(i:Int)) rfl rfl).trans (by rw [Int.natCast_add])) rfl)) rfl ec) rfl
   rw [dq s6]
   rw [dq (δ':=stW ns at' rooms many f (some (.sh (.int i))) (some (.sh (.int c))) (some (.ol [])) x8 x9 x10) (rW (d:=[]) (by unfold tV; walk_at "ev: s0") rfl)]
   have rg:=jn (f:=gv 3) (δ:=stW ns at' rooms many f (some (.sh (.int i))) (some (.sh (.int c))) (some (.ol [])) x8 x9 x10) (n:=many) rfl (by omega)
   rw [dq (δ':=stW ns at' rooms many f (some (.sh (.int i))) (some (.sh (.int c))) (some (.ol (r.map Dr.d))) y8 y9 y10) (by unfold ig; rw [rg]; exact q)]
   show nxP (xq 4 (gv 7) (stW ns at' rooms many f (some (.sh (.int i))) (some (.sh (.int c))) (some (.sh (.lst (r.map Dr.d)))) y8 y9 y10)) _
   rw [Gj (ds:=Ah f) (d:=.lst (r.map Dr.d)) (δ':=stW ns at' rooms many (f ++ [r]) (some (.sh (.int i))) (some (.sh (.int c))) (some (.sh (.lst (r.map Dr.d)))) y8 y9 y10) rfl rfl (by simp only [Ah,List.length_map]; exact Nat.lt_of_le_of_lt (show f.length ≤ 8 by omega) (by decide)) (by unfold stW; rw [Mr]; rfl)]
   refine ⟨_,_,_,_,_,_,_,rfl,by simp [hl],fun y hy=>?_⟩
   rcases List.mem_append.mp hy with z | z
   · exact hx y z
   · rw [List.mem_singleton.mp z]; exact ⟨hr1,hr2⟩) ⟨[],none,none,none,none,none,none,rfl,rfl,by simp⟩
 obtain ⟨δ',e,f,x5,x6,x7,x8,x9,x10,rfl,hl,hx⟩:=hh
 refine ⟨f,?_,⟨by simpa using hl,hx⟩⟩
 show ((Cr [some (.sh (.rol (ns.map .int))),some (.sh (.int at')),some (.sh (.int rooms)),some (.sh (.int many)),none,none,none,none,none,none,none]).bind gO).bD = _
 unfold Cr
 refine aU (δ':=stW ns at' rooms many [] none none none none none none) (rW (d:=[]) (by unfold tV; walk_at "ev: s0") rfl) ?_
 have rg:=jn (f:=gv 2) (δ:=stW ns at' rooms many [] none none none none none none) (n:=rooms) rfl (by omega)
 refine aU (δ':=stW ns at' rooms many f x5 x6 x7 x8 x9 x10) (by unfold ig; rw [rg]; exact e) ?_
 rfl
end K5
namespace K5
open PySem L2 MX DL
def stO (rows:List (List Dr)) (cell:Int) (f:List (List Dr)) (x3 x4 x5 x6 x7 x8 x9:Option Sl):DSt:=[some (.sh (aV rows)),some (.sh (.int cell)),some (.ol (Ah f)),x3,x4,x5,x6,x7,x8,x9]
theorem xn {many acts:Nat} {t:Bool} {rows:List (List Dr)} (R:Rows many acts t rows) {f:DSt→Out D} {δ:DSt} (h:f δ = .ok (aV rows)):o1 fK f δ = .ok (.int (many:Nat)):=by
 rw [len_l (ds:=rows.map fun r=>.lst (r.map Dr.d)) h,List.length_map,R.n]
theorem eqSh (x:Dr) (h:x ≠ .torn):∃ b:Bool,eqD (.str x.w) (.str "shut") = some b∧(b = true ↔ x = .shut):=by
 cases x with
 | must n=>exact ⟨false,q13,by simp⟩
 | may n=>exact ⟨false,q23,by simp⟩
 | shut=>exact ⟨true,q33,by simp⟩
 | torn=>exact absurd rfl h
theorem eqMu (x:Dr):∃ b:Bool,eqD (.str x.w) (.str "must") = some b∧(b = true ↔ ∃ n,x = .must n):=by
 cases x with
 | must n=>exact ⟨true,q11,by simp⟩
 | may n=>exact ⟨false,q21,by simp⟩
 | shut=>exact ⟨false,q31,by simp⟩
 | torn=>exact ⟨false,q41,by simp⟩
theorem aif {many acts:Nat} {rows:List (List Dr)} (R:Rows many acts false rows) (hm:1 ≤ many) (cell:Int) (f:List (List Dr)) {i a:Nat} (hi:i < 100) (ha:a < 100) (doors:List Dr) (hd:∀ x ∈ doors,x.ok many false) (hal:a < doors.length) (r:List Dr) (hl:r.length ≤ 8) (x7 x8 x9:Option Sl) :
   ∃ (y:Dr) (y7 y8 y9:Option Sl),y.ok many false∧fH (stO rows cell f (some (.sh (.int i))) (some (.sh (.lst (doors.map Dr.d)))) (some (.ol (r.map Dr.d))) (some (.sh (.int a))) x7 x8 x9) = .ok (.nx (stO rows cell f (some (.sh (.int i))) (some (.sh (.lst (doors.map Dr.d)))) (some (.ol ((r ++ [y]).map Dr.d))) (some (.sh (.int a))) y7 y8 y9)):=by
 have m:=mq cell (100 + 9 * (i:Int) + (a:Int)) (by omega) (by omega)
 generalize nP cell (100 + 9 * (i:Int) + (a:Int)) = n at m
 have hx:=hd doors[a] (List.getElem_mem hal)
 generalize hxx:doors[a] = x at hx
 have ex:(doors.map Dr.d)[a]? = some x.d:=by rw [List.getElem?_map,List.getElem?_eq_getElem hal,hxx]; rfl
 have nt:x ≠ .torn:=fun z=>by rw [z] at hx; cases hx
 obtain ⟨bS,eS,iS⟩:=eqSh x nt
 obtain ⟨bM,eM,iM⟩:=eqMu x
 obtain ⟨t,et,ht⟩:=gQ (n / 3) (m:=many) hm
 have s1:Ka (o2 ixD (gvo 4) (gv 6)) (gT 2 (cz (gN 7) (cz (gN 8) mX))) (stO rows cell f (some (.sh (.int i))) (some (.sh (.lst (doors.map Dr.d)))) (some (.ol (r.map Dr.d))) (some (.sh (.int a))) x7 x8 x9) = .ok (.nx (stO rows cell f (some (.sh (.int i))) (some (.sh (.lst (doors.map Dr.d)))) (some (.ol (r.map Dr.d))) (some (.sh (.int a))) (some (.sh (.str x.w))) (some (.sh x.to)) x9)):=asg2 (uq (ds:=doors.map Dr.d) (n:=a) rfl rfl ex)
 have s2:bZ 9 (oF 2 aJ (ak (gv 1) (ak (o2 dG (o2 dG (kc (.int 100)) (o2 oW (kc (.int 9)) (gv 3))) (gv 6)) aG))) (stO rows cell f (some (.sh (.int i))) (some (.sh (.lst (doors.map Dr.d)))) (some (.ol (r.map Dr.d))) (some (.sh (.int a))) (some (.sh (.str x.w))) (some (.sh x.to)) x9) = .ok (.nx (stO rows cell f (some (.sh (.int i))) (some (.sh (.lst (doors.map Dr.d)))) (some (.ol (r.map Dr.d))) (some (.sh (.int a))) (some (.sh (.str x.w))) (some (.sh x.to)) (some (.sh (.int n))))) :=
   cI (cV (ds:=[.int cell,.int (100 + 9 * (i:Int) + (a:Int))]) (aA rfl (aA (mz (mz rfl (Dp rfl rfl (uP (by decide) (by decide)))) rfl) rfl)) rfl m) rfl
 have e3:o2b eqD (o2 cC (gv 9) (kc (.int 3))) (kc (.int 0)) (stO rows cell f (some (.sh (.int i))) (some (.sh (.lst (doors.map Dr.d)))) (some (.ol (r.map Dr.d))) (some (.sh (.int a))) (some (.sh (.str x.w))) (some (.sh x.to)) (some (.sh (.int n)))) = .ok (n % 3 == 0):=Jz (d9 rfl rfl (by decide)) rfl
 have t1:uK (o2b eqD (o2 cC (gv 9) (kc (.int 3))) (kc (.int 0))) (o2b eqD (gb 7) (kc (.str "must"))) (stO rows cell f (some (.sh (.int i))) (some (.sh (.lst (doors.map Dr.d)))) (some (.ol (r.map Dr.d))) (some (.sh (.int a))) (some (.sh (.str x.w))) (some (.sh x.to)) (some (.sh (.int n)))) = .ok ((n % 3 == 0) && bM):=DR e3 fun _=>qP rfl rfl eM
 have t2:uK (o2b eqD (o2 cC (gv 9) (kc (.int 3))) (kc (.int 0))) (o2b eqD (gb 7) (kc (.str "shut"))) (stO rows cell f (some (.sh (.int i))) (some (.sh (.lst (doors.map Dr.d)))) (some (.ol (r.map Dr.d))) (some (.sh (.int a))) (some (.sh (.str x.w))) (some (.sh x.to)) (some (.sh (.int n)))) = .ok ((n % 3 == 0) && bS):=DR e3 fun _=>qP rfl rfl eS
 have fin:∀ y:Dr,xq 5 (cZ (ak (gv 7) (ak (gv 8) aG))) (stO rows cell f (some (.sh (.int i))) (some (.sh (.lst (doors.map Dr.d)))) (some (.ol (r.map Dr.d))) (some (.sh (.int a))) (some (.sh (.str y.w))) (some (.sh y.to)) (some (.sh (.int n)))) = .ok (.nx (stO rows cell f (some (.sh (.int i))) (some (.sh (.lst (doors.map Dr.d)))) (some (.ol ((r ++ [y]).map Dr.d))) (some (.sh (.int a))) (some (.sh (.str y.w))) (some (.sh y.to)) (some (.sh (.int n))))):=fun y =>
   Gj (ds:=r.map Dr.d) (d:=y.d) rfl (Am rfl rfl) (by rw [List.length_map]; exact Nat.lt_of_le_of_lt hl (by decide)) (by rw [List.map_append]; rfl)
 suffices h:∃ y:Dr,y.ok many false∧(sIf (uK (o2b eqD (o2 cC (gv 9) (kc (.int 3))) (kc (.int 0))) (o2b eqD (gb 7) (kc (.str "must")))) (bZ 7 (kc (.str "may"))) (sIf (uK (o2b eqD (o2 cC (gv 9) (kc (.int 3))) (kc (.int 0))) (o2b eqD (gb 7) (kc (.str "shut")))) (bh (bZ 7 (kc (.str "may"))) (bZ 8 (o2 cC (o2 gJ (gv 9) (kc (.int 3))) (o1 fK (gb 0))))) fW)) (stO rows cell f (some (.sh (.int i))) (some (.sh (.lst (doors.map Dr.d)))) (some (.ol (r.map Dr.d))) (some (.sh (.int a))) (some (.sh (.str x.w))) (some (.sh x.to)) (some (.sh (.int n)))) = .ok (.nx (stO rows cell f (some (.sh (.int i))) (some (.sh (.lst (doors.map Dr.d)))) (some (.ol (r.map Dr.d))) (some (.sh (.int a))) (some (.sh (.str y.w))) (some (.sh y.to)) (some (.sh (.int n))))) by
   obtain ⟨y,hy,e⟩:=h
   refine ⟨y,some (.sh (.str y.w)),some (.sh y.to),some (.sh (.int n)),hy,?_⟩
   unfold fH
   rw [dq s1,dq s2,dq e,fin y]
 cases b1:((n % 3 == 0) && bM) with
 | true =>
   rw [b1] at t1
   obtain ⟨k,rfl⟩:=iM.mp (Bool.and_eq_true_iff.mp b1).2
   exact ⟨.may k,hx,by rw [rm t1]; rfl⟩
 | false =>
   rw [b1] at t1
   cases b2:((n % 3 == 0) && bS) with
   | true =>
     rw [b2] at t2
     obtain rfl:=iS.mp (Bool.and_eq_true_iff.mp b2).2
     refine ⟨.may t,ht,?_⟩
     rw [ik t1,rm t2]
     have s7:bZ 7 (kc (.str "may")) (stO rows cell f (some (.sh (.int i))) (some (.sh (.lst (doors.map Dr.d)))) (some (.ol (r.map Dr.d))) (some (.sh (.int a))) (some (.sh (.str Dr.shut.w))) (some (.sh Dr.shut.to)) (some (.sh (.int n)))) = .ok (.nx (stO rows cell f (some (.sh (.int i))) (some (.sh (.lst (doors.map Dr.d)))) (some (.ol (r.map Dr.d))) (some (.sh (.int a))) (some (.sh (.str "may"))) (some (.sh Dr.shut.to)) (some (.sh (.int n))))):=rfl
     rw [dq s7]
     have e8:o2 cC (o2 gJ (gv 9) (kc (.int 3))) (o1 fK (gb 0)) (stO rows cell f (some (.sh (.int i))) (some (.sh (.lst (doors.map Dr.d)))) (some (.ol (r.map Dr.d))) (some (.sh (.int a))) (some (.sh (.str "may"))) (some (.sh Dr.shut.to)) (some (.sh (.int n)))) = .ok (.int (t:Nat)):=by
       rw [d9 (yJ (i:=n) (j:=3) rfl rfl (cd _ (by decide) (by decide))) (xn R rfl) (by omega),et]
     exact cI e8 rfl
   | false =>
     rw [b2] at t2
     exact ⟨x,hx,by rw [ik t1,ik t2]; rfl⟩
theorem akt {many acts:Nat} {rows:List (List Dr)} (R:Rows many acts false rows) (hm:1 ≤ many) (ha:acts ≤ 8) (cell:Int) (f:List (List Dr)) {i:Nat} (hi:i < 100) (doors:List Dr) (hd:∀ x ∈ doors,x.ok many false) (hal:doors.length = acts) (x6 x7 x8 x9:Option Sl) :
   ∃ (r:List Dr) (y6 y7 y8 y9:Option Sl),wX (gN 6) fH ((List.range acts).map fun k:Nat=>D.int k) (stO rows cell f (some (.sh (.int i))) (some (.sh (.lst (doors.map Dr.d)))) (some (.ol [])) x6 x7 x8 x9) = .ok (.nx (stO rows cell f (some (.sh (.int i))) (some (.sh (.lst (doors.map Dr.d)))) (some (.ol (r.map Dr.d))) y6 y7 y8 y9))∧r.length = acts∧∀ x ∈ r,x.ok many false:=by
 have hh:=fC (body:=fH) (tg:=gN 6) (fun k:Nat=>D.int k) (fun done δ=>∃ (r:List Dr) (y6 y7 y8 y9:Option Sl),δ = stO rows cell f (some (.sh (.int i))) (some (.sh (.lst (doors.map Dr.d)))) (some (.ol (r.map Dr.d))) y6 y7 y8 y9∧r.length = done.length∧∀ x ∈ r,x.ok many false) (List.range acts) (stO rows cell f (some (.sh (.int i))) (some (.sh (.lst (doors.map Dr.d)))) (some (.ol [])) x6 x7 x8 x9) (by
   rintro a done rest δ e ⟨r,y6,y7,y8,y9,rfl,hl,hx⟩
   have hj:a < acts:=List.mem_range.mp (by rw [e]; simp)
   have hdl:done.length ≤ 8:=by
     have:=congrArg List.length e
     simp at this
     omega
   obtain ⟨y,z7,z8,z9,h1,h2⟩:=aif R hm cell f hi (a:=a) (by omega) doors hd (by omega) r (by omega) y7 y8 y9
   refine ⟨stO rows cell f (some (.sh (.int i))) (some (.sh (.lst (doors.map Dr.d)))) (some (.ol (r.map Dr.d))) (some (.sh (.int a))) y7 y8 y9,rfl,?_⟩
   rw [h2]
   refine ⟨r ++ [y],_,_,_,_,rfl,by simp [hl],fun z hz=>?_⟩
   rcases List.mem_append.mp hz with w | w
   · exact hx z w
   · rw [List.mem_singleton.mp w]; exact h1) ⟨[],x6,x7,x8,x9,rfl,rfl,by simp⟩
 obtain ⟨δ',e,r,y6,y7,y8,y9,rfl,hl,hx⟩:=hh
 exact ⟨r,y6,y7,y8,y9,e,by simpa using hl,hx⟩
theorem F_loose {many acts:Nat} {rows:List (List Dr)} (R:Rows many acts false rows) (hm:1 ≤ many) (hm8:many ≤ 8) (ha:acts ≤ 8) (cell:Int):∃ Oc,eE [aV rows,.int cell] = .ok (aV Oc)∧Rows many acts false Oc:=by
 have hh:=fC (body:=mY) (tg:=gT 2 (cz (gN 3) (cz (gN 4) mX))) (fun p:List Dr × Nat=>D.tup [.int p.2,.lst (p.1.map Dr.d)]) (fun done δ=>∃ (f:List (List Dr)) (x3 x4 x5 x6 x7 x8 x9:Option Sl),δ = stO rows cell f x3 x4 x5 x6 x7 x8 x9∧f.length = done.length∧∀ r ∈ f,r.length = acts∧∀ x ∈ r,x.ok many false) (List.zipIdx rows 0) (stO rows cell [] none none none none none none none) (by
   rintro ⟨doors,i⟩ done rest δ e ⟨f,x3,x4,x5,x6,x7,x8,x9,rfl,hl,hx⟩
   have hmem:(doors,i) ∈ List.zipIdx rows 0:=by rw [e]; simp
   obtain ⟨hlt,hge⟩:i < rows.length∧doors ∈ rows:=by
     have:=List.mem_zipIdx hmem
     simp at this
     exact ⟨this.1,by rw [this.2]; exact List.getElem_mem _⟩
   have hdl:done.length ≤ 8:=by
     have:=congrArg List.length e
     simp at this
     rw [R.n] at this
     omega
   have hi:i < 100:=by rw [R.n] at hlt; omega
   obtain ⟨r,y6,y7,y8,y9,q,hr1,hr2⟩:=akt R hm ha cell f hi doors (R.row doors hge).2 (R.row doors hge).1 x6 x7 x8 x9
   refine ⟨stO rows cell f (some (.sh (.int i))) (some (.sh (.lst (doors.map Dr.d)))) x5 x6 x7 x8 x9,rfl,?_⟩
   unfold mY
   rw [dq (δ':=stO rows cell f (some (.sh (.int i))) (some (.sh (.lst (doors.map Dr.d)))) (some (.ol [])) x6 x7 x8 x9) (rW (d:=[]) (by unfold tV; walk_at "ev: s0") rfl)]
   have ln:o1 fK (gb 4) (stO rows cell f (some (.sh (.int i))) (some (.sh (.lst (doors.map Dr.d)))) (some (.ol [])) x6 x7 x8 x9) = .ok (.int (acts:Nat)):=by rw [len_l (ds:=doors.map Dr.d) rfl,List.length_map,(R.row doors hge).1]
   have rg:=jn (n:=acts) ln (by omega)
   rw [dq (δ':=stO rows cell f (some (.sh (.int i))) (some (.sh (.lst (doors.map Dr.d)))) (some (.ol (r.map Dr.d))) y6 y7 y8 y9) (by unfold ig; rw [rg]; exact q)]
   show nxP (xq 2 (gv 5) (stO rows cell f (some (.sh (.int i))) (some (.sh (.lst (doors.map Dr.d)))) (some (.sh (.lst (r.map Dr.d)))) y6 y7 y8 y9)) _
   rw [Gj (ds:=Ah f) (d:=.lst (r.map Dr.d)) (δ':=stO rows cell (f ++ [r]) (some (.sh (.int i))) (some (.sh (.lst (doors.map Dr.d)))) (some (.sh (.lst (r.map Dr.d)))) y6 y7 y8 y9) rfl rfl (by simp only [Ah,List.length_map]; exact Nat.lt_of_le_of_lt (show f.length ≤ 8 by omega) (by decide)) (by unfold stO; rw [Mr]; rfl)]
   refine ⟨_,_,_,_,_,_,_,_,rfl,by simp [hl],fun y hy=>?_⟩
   rcases List.mem_append.mp hy with z | z
   · exact hx y z
   · rw [List.mem_singleton.mp z]; exact ⟨hr1,hr2⟩) ⟨[],none,none,none,none,none,none,none,rfl,rfl,by simp⟩
 obtain ⟨δ',e,f,x3,x4,x5,x6,x7,x8,x9,rfl,hl,hx⟩:=hh
 refine ⟨f,?_,⟨by rw [hl,List.length_zipIdx,R.n],hx⟩⟩
 show ((qJ [some (.sh (aV rows)),some (.sh (.int cell)),none,none,none,none,none,none,none,none]).bind gO).bD = _
 unfold qJ
 refine aU (δ':=stO rows cell [] none none none none none none none) (rW (d:=[]) (by unfold tV; walk_at "ev: s0") rfl) ?_
 refine aU (δ':=stO rows cell f x3 x4 x5 x6 x7 x8 x9) ?_ rfl
 rw [← Jy (fun r:List Dr=>D.lst (r.map Dr.d))] at e
 unfold ig
 exact e
end K5
namespace K5
open PySem L2 MX DL
def stU (rows:List (List Dr)) (cell:Int) (many:Nat) (f:List (List Dr)) (x4 x5 x6 x7 x8:Option Sl):DSt:=[some (.sh (aV rows)),some (.sh (.int cell)),some (.sh (.int many)),some (.ol (Ah f)),x4,x5,x6,x7,x8]
theorem neSh (x:Dr) (h:x ≠ .torn):∃ b:Bool,neD (.str x.w) (.str "shut") = some b∧(b = false ↔ x = .shut):=by
 obtain ⟨b,e,i⟩:=eqSh x h
 refine ⟨!b,by unfold neD; rw [e]; rfl,?_⟩
 rw [← i]
 cases b <;> simp
theorem unf_step {many acts:Nat} {rows:List (List Dr)} (R:Rows many acts false rows) (hm:1 ≤ many) (cell:Int) (f:List (List Dr)) {i a:Nat} (hi:i < 100) (ha:a < acts) (ha2:a < 100) (r:List Dr) (hl:r.length ≤ 8) (x7 x8:Option Sl) :
   ∃ (y:Dr) (y7 y8:Option Sl),y.ok (2 * many) false∧fJ (stU rows cell many f (some (.sh (.int i))) (some (.ol (r.map Dr.d))) (some (.sh (.int a))) x7 x8) = .ok (.nx (stU rows cell many f (some (.sh (.int i))) (some (.ol ((r ++ [y]).map Dr.d))) (some (.sh (.int a))) y7 y8)):=by
 have m:=mq cell (200 + 9 * (i:Int) + (a:Int)) (by omega) (by omega)
 generalize nP cell (200 + 9 * (i:Int) + (a:Int)) = n at m
 obtain ⟨p,ep,hp⟩:=gQ (i:Int) (m:=many) hm
 obtain ⟨b,eb,hb⟩:=gQ n (m:=2) (by decide)
 simp only [Int.cast_ofNat_Int] at eb
 have l1:p < rows.length:=by rw [R.n]; exact hp
 obtain ⟨row,er⟩:∃ row,rows[p]? = some row:=⟨_,List.getElem?_eq_getElem l1⟩
 have hrow:=R.row row (List.mem_of_getElem? er)
 have l2:a < row.length:=by rw [hrow.1]; exact ha
 obtain ⟨x,ex⟩:∃ x,row[a]? = some x:=⟨_,List.getElem?_eq_getElem l2⟩
 have hx:=hrow.2 x (List.mem_of_getElem? ex)
 have nt:x ≠ .torn:=fun z=>by rw [z] at hx; cases hx
 obtain ⟨bS,eS,iS⟩:=neSh x nt
 have eix:o2 ixD (o2 ixD (gvo 0) (o2 cC (gv 4) (gv 2))) (gv 6) (stU rows cell many f (some (.sh (.int i))) (some (.ol (r.map Dr.d))) (some (.sh (.int a))) x7 x8) = .ok x.d :=
   uq (ds:=row.map Dr.d) (n:=a) (uq (ds:=rows.map fun r=>.lst (r.map Dr.d)) (n:=p) rfl (by rw [d9 (i:=(i:Int)) (j:=(many:Int)) rfl rfl (by omega),ep]) (by rw [List.getElem?_map,er]; rfl)) rfl (by rw [List.getElem?_map,ex]; rfl)
 have s1:Ka (o2 ixD (o2 ixD (gvo 0) (o2 cC (gv 4) (gv 2))) (gv 6)) (gT 2 (cz (gN 7) (cz (gN 8) mX))) (stU rows cell many f (some (.sh (.int i))) (some (.ol (r.map Dr.d))) (some (.sh (.int a))) x7 x8) = .ok (.nx (stU rows cell many f (some (.sh (.int i))) (some (.ol (r.map Dr.d))) (some (.sh (.int a))) (some (.sh (.str x.w))) (some (.sh x.to)))):=asg2 eix
 have fin:∀ y:Dr,xq 5 (cZ (ak (gv 7) (ak (gv 8) aG))) (stU rows cell many f (some (.sh (.int i))) (some (.ol (r.map Dr.d))) (some (.sh (.int a))) (some (.sh (.str y.w))) (some (.sh y.to))) = .ok (.nx (stU rows cell many f (some (.sh (.int i))) (some (.ol ((r ++ [y]).map Dr.d))) (some (.sh (.int a))) (some (.sh (.str y.w))) (some (.sh y.to)))):=fun y =>
   Gj (ds:=r.map Dr.d) (d:=y.d) rfl (Am rfl rfl) (by rw [List.length_map]; exact Nat.lt_of_le_of_lt hl (by decide)) (by rw [List.map_append]; rfl)
 have t1:o2b neD (gb 7) (kc (.str "shut")) (stU rows cell many f (some (.sh (.int i))) (some (.ol (r.map Dr.d))) (some (.sh (.int a))) (some (.sh (.str x.w))) (some (.sh x.to))) = .ok bS:=qP rfl rfl eS
 have em:∀ k:Nat,o2 dG (gv 8) (o2 oW (gv 2) (o2 cC (oF 2 aJ (ak (gv 1) (ak (o2 dG (o2 dG (kc (.int 200)) (o2 oW (kc (.int 9)) (gv 4))) (gv 6)) aG))) (kc (.int 2)))) (stU rows cell many f (some (.sh (.int i))) (some (.ol (r.map Dr.d))) (some (.sh (.int a))) (some (.sh (.str x.w))) (some (.sh (.int k)))) = .ok (.int ((k + many * b:Nat):Int)):=fun k=>by
   have q:=cV (n:=2) (F:=aJ) (fr:=ak (gv 1) (ak (o2 dG (o2 dG (kc (.int 200)) (o2 oW (kc (.int 9)) (gv 4))) (gv 6)) aG)) (δ:=stU rows cell many f (some (.sh (.int i))) (some (.ol (r.map Dr.d))) (some (.sh (.int a))) (some (.sh (.str x.w))) (some (.sh (.int k)))) (ds:=[.int cell,.int (200 + 9 * (i:Int) + (a:Int))]) (aA rfl (aA (mz (mz rfl (Dp rfl rfl (uP (by decide) (by decide)))) rfl) rfl)) rfl m
   rw [mz (i:=(k:Int)) rfl (Dp (i:=(many:Int)) rfl (d9 q rfl (by decide)) (.inr ⟨by rw [eb]; omega,by rw [eb]; omega⟩)),eb]
   congr 2
 suffices h:∃ y:Dr,y.ok (2 * many) false∧sIf (o2b neD (gb 7) (kc (.str "shut"))) (bZ 8 (o2 dG (gv 8) (o2 oW (gv 2) (o2 cC (oF 2 aJ (ak (gv 1) (ak (o2 dG (o2 dG (kc (.int 200)) (o2 oW (kc (.int 9)) (gv 4))) (gv 6)) aG))) (kc (.int 2)))))) fW (stU rows cell many f (some (.sh (.int i))) (some (.ol (r.map Dr.d))) (some (.sh (.int a))) (some (.sh (.str x.w))) (some (.sh x.to))) = .ok (.nx (stU rows cell many f (some (.sh (.int i))) (some (.ol (r.map Dr.d))) (some (.sh (.int a))) (some (.sh (.str y.w))) (some (.sh y.to)))) by
   obtain ⟨y,hy,e⟩:=h
   refine ⟨y,some (.sh (.str y.w)),some (.sh y.to),hy,?_⟩
   unfold fJ
   rw [dq s1,dq e,fin y]
 have hb2:many * b ≤ many:=by
   have:=Nat.mul_le_mul_left many (show b ≤ 1 by omega)
   omega
 cases x with
 | must k =>
   have:bS = true:=by cases bS <;> simp_all
   subst this
   exact ⟨.must (k + many * b),by have:k < many:=hx; show _ < _; omega,by rw [rm t1]; exact cI (em k) rfl⟩
 | may k =>
   have:bS = true:=by cases bS <;> simp_all
   subst this
   exact ⟨.may (k + many * b),by have:k < many:=hx; show _ < _; omega,by rw [rm t1]; exact cI (em k) rfl⟩
 | shut =>
   obtain rfl:=iS.mpr rfl
   exact ⟨.shut,trivial,by rw [ik t1]; rfl⟩
 | torn=>exact absurd rfl nt
theorem unf_row {many acts:Nat} {rows:List (List Dr)} (R:Rows many acts false rows) (hm:1 ≤ many) (ha:acts ≤ 8) (cell:Int) (f:List (List Dr)) {i:Nat} (hi:i < 100) (x6 x7 x8:Option Sl) :
   ∃ (r:List Dr) (y6 y7 y8:Option Sl),wX (gN 6) fJ ((List.range acts).map fun k:Nat=>D.int k) (stU rows cell many f (some (.sh (.int i))) (some (.ol [])) x6 x7 x8) = .ok (.nx (stU rows cell many f (some (.sh (.int i))) (some (.ol (r.map Dr.d))) y6 y7 y8))∧r.length = acts∧∀ x ∈ r,x.ok (2 * many) false:=by
 have hh:=fC (body:=fJ) (tg:=gN 6) (fun k:Nat=>D.int k) (fun done δ=>∃ (r:List Dr) (y6 y7 y8:Option Sl),δ = stU rows cell many f (some (.sh (.int i))) (some (.ol (r.map Dr.d))) y6 y7 y8∧r.length = done.length∧∀ x ∈ r,x.ok (2 * many) false) (List.range acts) (stU rows cell many f (some (.sh (.int i))) (some (.ol [])) x6 x7 x8) (by
   rintro a done rest δ e ⟨r,y6,y7,y8,rfl,hl,hx⟩
   have hj:a < acts:=List.mem_range.mp (by rw [e]; simp)
   have hdl:done.length ≤ 8:=by
     have:=congrArg List.length e
     simp at this
     omega
   obtain ⟨y,z7,z8,h1,h2⟩:=unf_step R hm cell f hi (a:=a) hj (by omega) r (by omega) y7 y8
   refine ⟨stU rows cell many f (some (.sh (.int i))) (some (.ol (r.map Dr.d))) (some (.sh (.int a))) y7 y8,rfl,?_⟩
   rw [h2]
   refine ⟨r ++ [y],_,_,_,rfl,by simp [hl],fun z hz=>?_⟩
   rcases List.mem_append.mp hz with w | w
   · exact hx z w
   · rw [List.mem_singleton.mp w]; exact h1) ⟨[],x6,x7,x8,rfl,rfl,by simp⟩
 obtain ⟨δ',e,r,y6,y7,y8,rfl,hl,hx⟩:=hh
 exact ⟨r,y6,y7,y8,e,by simpa using hl,hx⟩
theorem Ek {many acts:Nat} {rows:List (List Dr)} {t:Bool} (R:Rows many acts t rows) (hm:1 ≤ many) {f:DSt→Out D} {δ:DSt} (h:f δ = .ok (aV rows)):o1 fK (o2 ixD f (kc (.int 0))) δ = .ok (.int (acts:Nat)):=by
 have hn:=R.n
 cases hr:rows with
 | nil=>rw [hr] at hn; simp at hn; omega
 | cons r rs =>
   rw [len_l (ds:=r.map Dr.d) (uq (n:=0) (ds:=(r :: rs).map fun r=>.lst (r.map Dr.d)) (by rw [h,hr]; rfl) rfl rfl),List.length_map,(R.row r (by rw [hr]; exact List.mem_cons_self)).1]
theorem F_unf {many acts:Nat} {rows:List (List Dr)} (R:Rows many acts false rows) (hm:1 ≤ many) (hm8:many ≤ 8) (ha:acts ≤ 8) (cell:Int):∃ Oc,eF [aV rows,.int cell] = .ok (aV Oc)∧Rows (2 * many) acts false Oc:=by
 have hh:=fC (body:=m5) (tg:=gN 4) (fun k:Nat=>D.int k) (fun done δ=>∃ (f:List (List Dr)) (x4 x5 x6 x7 x8:Option Sl),δ = stU rows cell many f x4 x5 x6 x7 x8∧f.length = done.length∧∀ r ∈ f,r.length = acts∧∀ x ∈ r,x.ok (2 * many) false) (List.range (2 * many)) (stU rows cell many [] none none none none none) (by
   rintro i done rest δ e ⟨f,x4,x5,x6,x7,x8,rfl,hl,hx⟩
   have hj:i < 2 * many:=List.mem_range.mp (by rw [e]; simp)
   have hdl:done.length ≤ 16:=by
     have:=congrArg List.length e
     simp at this
     omega
   obtain ⟨r,y6,y7,y8,q,hr1,hr2⟩:=unf_row R hm ha cell f (i:=i) (by omega) x6 x7 x8
   refine ⟨stU rows cell many f (some (.sh (.int i))) x5 x6 x7 x8,rfl,?_⟩
   unfold m5
   rw [dq (δ':=stU rows cell many f (some (.sh (.int i))) (some (.ol [])) x6 x7 x8) (rW (d:=[]) (by unfold tV; walk_at "ev: s0") rfl)]
   have rg:=jn (n:=acts) (Ek R hm (f:=gvo 0) (δ:=stU rows cell many f (some (.sh (.int i))) (some (.ol [])) x6 x7 x8) rfl) (by omega)
   rw [dq (δ':=stU rows cell many f (some (.sh (.int i))) (some (.ol (r.map Dr.d))) y6 y7 y8) (by unfold ig; rw [rg]; exact q)]
   show nxP (xq 3 (gv 5) (stU rows cell many f (some (.sh (.int i))) (some (.sh (.lst (r.map Dr.d)))) y6 y7 y8)) _
   rw [Gj (ds:=Ah f) (d:=.lst (r.map Dr.d)) (δ':=stU rows cell many (f ++ [r]) (some (.sh (.int i))) (some (.sh (.lst (r.map Dr.d)))) y6 y7 y8) rfl rfl (by simp only [Ah,List.length_map]; exact Nat.lt_of_le_of_lt (show f.length ≤ 16 by omega) (by decide)) (by unfold stU; rw [Mr]; rfl)]
   refine ⟨_,_,_,_,_,_,rfl,by simp [hl],fun y hy=>?_⟩
   rcases List.mem_append.mp hy with z | z
   · exact hx y z
   · rw [List.mem_singleton.mp z]; exact ⟨hr1,hr2⟩) ⟨[],none,none,none,none,none,rfl,rfl,by simp⟩
 obtain ⟨δ',e,f,x4,x5,x6,x7,x8,rfl,hl,hx⟩:=hh
 refine ⟨f,?_,⟨by simpa using hl,hx⟩⟩
 show ((qK [some (.sh (aV rows)),some (.sh (.int cell)),none,none,none,none,none,none,none]).bind gO).bD = _
 unfold qK
 refine aU (δ':=[some (.sh (aV rows)),some (.sh (.int cell)),some (.sh (.int many)),none,none,none,none,none,none]) (cI (xn R rfl) rfl) ?_
 refine aU (δ':=stU rows cell many [] none none none none none) (rW (d:=[]) (by unfold tV; walk_at "ev: s0") rfl) ?_
 have c2:o2 oW (kc (.int 2)) (gv 2) (stU rows cell many [] none none none none none) = .ok (.int ((2 * many:Nat):Int)):=(Dp (i:=2) (j:=(many:Int)) rfl rfl (uP (by decide) (by decide))).trans (by rw [Int.natCast_mul]; rfl)
 have rg:=jn (n:=2 * many) c2 (by omega)
 exact aU (δ':=stU rows cell many f x4 x5 x6 x7 x8) (by unfold ig; rw [rg]; exact e) rfl
theorem put2_ok {i:Nat} {fe fk fl:DSt→Out D} {δ:DSt} {dss:List (List D)} {d:D} {k l:Nat} (h1:fe δ = .ok d) (h2:δ[i]? = some (some (.oll dss))) (h3:fk δ = .ok (.int (k:Nat))) (hk:k < dss.length) (h4:fl δ = .ok (.int (l:Nat))) (hl:l < (dss.getD k []).length):Od i fe fk fl δ = .ok (.nx (δ.set i (some (.oll (dss.set k ((dss.getD k []).set l d)))))):=by
 unfold Od
 rw [h1]
 simp only [Out.bK]
 rw [h2]
 dsimp only
 rw [h3]
 simp only [Out.bK]
 rw [ajm hk]
 dsimp only
 rw [h4]
 simp only [Out.bK]
 rw [ajm hl]
theorem F_spoilt {many acts:Nat} {rows:List (List Dr)} (R:Rows many acts false rows) (hm:1 ≤ many) (hm8:many ≤ 16) (ha1:1 ≤ acts) (ha:acts ≤ 8) (cell:Int):∃ Oc,ir [aV rows,.int cell] = .ok (aV Oc)∧Rows many acts false Oc:=by
 have m:=mq cell 400 (by decide) (by decide)
 generalize nP cell 400 = n at m
 obtain ⟨i,ei,hi⟩:=gQ n (m:=many) hm
 obtain ⟨a,ea,haa⟩:=gQ (n / 8) (m:=acts) ha1
 obtain ⟨t,et,ht⟩:=gQ (n / 64) (m:=many) hm
 obtain ⟨u,eu,hu⟩:=gQ (n / 512) (m:=3) (by decide)
 simp only [Int.cast_ofNat_Int] at eu
 obtain ⟨x,hx,ex⟩:∃ x:Dr,x.ok many false∧([.tup [.str "must",.int t],.tup [.str "may",.int t],.tup [.str "shut",.non]]:List D)[u]? = some x.d:=by
   rcases three hu with rfl | rfl | rfl
   · exact ⟨.must t,ht,rfl⟩
   · exact ⟨.may t,ht,rfl⟩
   · exact ⟨.shut,trivial,rfl⟩
 have l1:i < rows.length:=by rw [R.n]; exact hi
 have hrow:=R.row rows[i] (List.getElem_mem l1)
 refine ⟨rows.set i (rows[i].set a x),?_,⟨by rw [List.length_set]; exact R.n,fun r hr=>?_⟩⟩
 · show ((wk [some (.sh (aV rows)),some (.sh (.int cell)),none,none,none,none,none]).bind gO).bD = _
   unfold wk
   refine aU (δ':=[some (.sh (aV rows)),some (.sh (.int cell)),some (.sh (.int n)),none,none,none,none]) (cI (cV (aA rfl (aA rfl rfl)) rfl m) rfl) ?_
   have e3:o2 cC (gv 2) (o1 fK (gb 0)) [some (.sh (aV rows)),some (.sh (.int cell)),some (.sh (.int n)),none,none,none,none] = .ok (.int (i:Nat)):=by rw [d9 (i:=n) rfl (xn R rfl) (by omega),ei]
   refine aU (δ':=[some (.sh (aV rows)),some (.sh (.int cell)),some (.sh (.int n)),some (.sh (.int i)),none,none,none]) (cI e3 rfl) ?_
   have e4:o2 cC (o2 gJ (gv 2) (kc (.int 8))) (o1 fK (o2 ixD (gvo 0) (kc (.int 0)))) [some (.sh (aV rows)),some (.sh (.int cell)),some (.sh (.int n)),some (.sh (.int i)),none,none,none] = .ok (.int (a:Nat)):=by rw [d9 (yJ (i:=n) (j:=8) rfl rfl (cd _ (by decide) (by decide))) (Ek R hm rfl) (by omega),ea]
   refine aU (δ':=[some (.sh (aV rows)),some (.sh (.int cell)),some (.sh (.int n)),some (.sh (.int i)),some (.sh (.int a)),none,none]) (cI e4 rfl) ?_
   have e5:o2 cC (o2 gJ (gv 2) (kc (.int 64))) (o1 fK (gb 0)) [some (.sh (aV rows)),some (.sh (.int cell)),some (.sh (.int n)),some (.sh (.int i)),some (.sh (.int a)),none,none] = .ok (.int (t:Nat)):=by rw [d9 (yJ (i:=n) (j:=64) rfl rfl (cd _ (by decide) (by decide))) (xn R rfl) (by omega),et]
   refine aU (δ':=[some (.sh (aV rows)),some (.sh (.int cell)),some (.sh (.int n)),some (.sh (.int i)),some (.sh (.int a)),some (.sh (.int t)),none]) (cI e5 rfl) ?_
   have cp:=DY (cap:=[none]) (fi:=uI (gv 0)) (fe:=Ae) (δ:=[some (.sh (aV rows)),some (.sh (.int cell)),some (.sh (.int n)),some (.sh (.int i)),some (.sh (.int a)),some (.sh (.int t)),none]) (fun r:List Dr=>D.lst (r.map Dr.d)) (fun r:List Dr=>r.map Dr.d) rows rfl (by rw [R.n]; omega) (fun r _=>rfl)
   refine aU (δ':=[some (.sh (aV rows)),some (.sh (.int cell)),some (.sh (.int n)),some (.sh (.int i)),some (.sh (.int a)),some (.sh (.int t)),some (.oll (rows.map fun r=>r.map Dr.d))]) (setll_ok cp rfl) ?_
   have e6:o2 ixD (jl (ak (cZ (ak (kc (.str "must")) (ak (gv 5) aG))) (ak (cZ (ak (kc (.str "may")) (ak (gv 5) aG))) (ak (cZ (ak (kc (.str "shut")) (ak (kc .non) aG))) aG)))) (o2 cC (o2 gJ (gv 2) (kc (.int 512))) (kc (.int 3))) [some (.sh (aV rows)),some (.sh (.int cell)),some (.sh (.int n)),some (.sh (.int i)),some (.sh (.int a)),some (.sh (.int t)),some (.oll (rows.map fun r=>r.map Dr.d))] = .ok x.d:=uq (n:=u) (lst3 (Am rfl rfl) (Am rfl rfl) (Am rfl rfl)) (by rw [d9 (yJ (i:=n) (j:=512) rfl rfl (cd _ (by decide) (by decide))) rfl (by decide),eu]) ex
   have gd:(rows.map fun r=>r.map Dr.d).getD i [] = rows[i].map Dr.d:=by rw [List.getD_eq_getElem?_getD,List.getElem?_map,List.getElem?_eq_getElem l1]; rfl
   refine aU (put2_ok e6 rfl (k:=i) rfl (by rw [List.length_map]; exact l1) (l:=a) rfl (by rw [gd,List.length_map,hrow.1]; exact haa)) ?_
   rw [gd]
   show Out.ok (D.lst (((rows.map fun r=>r.map Dr.d).set i ((rows[i].map Dr.d).set a x.d)).map D.lst)) = _
   rw [← List.map_set,← List.map_set,List.map_map]
   rfl
 · rcases List.mem_or_eq_of_mem_set hr with z | z
   · exact R.row r z
   · rw [z]
     refine ⟨by rw [List.length_set]; exact hrow.1,fun y hy=>?_⟩
     rcases List.mem_or_eq_of_mem_set hy with w | w
     · exact hrow.2 y w
     · rw [w]; exact hx
end K5
namespace K5
open PySem L2 MX DL
theorem F_pair (ns:List Int):∃ (one other:List (List Dr)) (m1 m2 acts:Nat),pX [.rol (ns.map .int)] = .ok (.tup [aV one,aV other])∧Rows m1 acts false one∧Rows m2 acts false other∧1 ≤ m1∧m1 ≤ 16∧1 ≤ m2∧m2 ≤ 8∧1 ≤ acts∧acts ≤ 8:=by
 obtain ⟨c0,ec0⟩:=QC ns 0 (by decide)
 obtain ⟨c1,ec1⟩:=QC ns 1 (by decide)
 obtain ⟨c2,ec2⟩:=QC ns 2 (by decide)
 obtain ⟨rooms,acts,es,hr1,hr8,ha1,ha8⟩:=F_sizes c0
 obtain ⟨one,e1,R1⟩:=aje ns (at':=3) (by decide) hr1 hr8 ha8
 have mw:=mq c1 13 (by decide) (by decide)
 obtain ⟨w,ew,hw⟩:=gQ (nP c1 13) (m:=5) (by decide)
 simp only [Int.cast_ofNat_Int] at ew
 have s1:Ka (oF 1 jq (ak (oF 2 bA (ak (gv 0) (ak (kc (.int 0)) aG))) aG)) (gT 2 (cz (gN 1) (cz (gN 2) mX))) [some (.sh (.rol (ns.map .int))),none,none,none,none,none,none] = .ok (.nx [some (.sh (.rol (ns.map .int))),some (.sh (.int rooms)),some (.sh (.int acts)),none,none,none,none]):=asg2 (cV (ds:=[.int c0]) (aA (cV (aA rfl (aA rfl rfl)) rfl ec0) rfl) rfl es)
 have s2:bZ 3 (oF 4 iT (ak (gv 0) (ak (kc (.int 3)) (ak (gv 1) (ak (gv 2) aG))))) [some (.sh (.rol (ns.map .int))),some (.sh (.int rooms)),some (.sh (.int acts)),none,none,none,none] = .ok (.nx [some (.sh (.rol (ns.map .int))),some (.sh (.int rooms)),some (.sh (.int acts)),some (.sh (aV one)),none,none,none]):=cI (cV (aA rfl (aA rfl (aA rfl (aA rfl rfl)))) rfl e1) rfl
 have s3:bZ 4 (oF 2 bA (ak (gv 0) (ak (kc (.int 1)) aG))) [some (.sh (.rol (ns.map .int))),some (.sh (.int rooms)),some (.sh (.int acts)),some (.sh (aV one)),none,none,none] = .ok (.nx [some (.sh (.rol (ns.map .int))),some (.sh (.int rooms)),some (.sh (.int acts)),some (.sh (aV one)),some (.sh (.int c1)),none,none]):=cI (cV (aA rfl (aA rfl rfl)) rfl ec1) rfl
 have e4:o2 cC (oF 2 aJ (ak (gv 4) (ak (kc (.int 13)) aG))) (kc (.int 5)) [some (.sh (.rol (ns.map .int))),some (.sh (.int rooms)),some (.sh (.int acts)),some (.sh (aV one)),some (.sh (.int c1)),none,none] = .ok (.int (w:Nat)):=by
   have e:=d9 (fa:=oF 2 aJ (ak (gv 4) (ak (kc (.int 13)) aG))) (fb:=kc (.int 5)) (δ:=[some (.sh (.rol (ns.map .int))),some (.sh (.int rooms)),some (.sh (.int acts)),some (.sh (aV one)),some (.sh (.int c1)),none,none]) (i:=nP c1 13) (j:=5) (cV (aA rfl (aA rfl rfl)) rfl mw) rfl (by decide)
   rw [ew] at e
   exact e
 have s4:bZ 5 (o2 cC (oF 2 aJ (ak (gv 4) (ak (kc (.int 13)) aG))) (kc (.int 5))) [some (.sh (.rol (ns.map .int))),some (.sh (.int rooms)),some (.sh (.int acts)),some (.sh (aV one)),some (.sh (.int c1)),none,none] = .ok (.nx [some (.sh (.rol (ns.map .int))),some (.sh (.int rooms)),some (.sh (.int acts)),some (.sh (aV one)),some (.sh (.int c1)),some (.sh (.int w)),none]):=cI e4 rfl
 have t1:o2b eqD (gb 5) (kc (.int 0)) [some (.sh (.rol (ns.map .int))),some (.sh (.int rooms)),some (.sh (.int acts)),some (.sh (aV one)),some (.sh (.int c1)),some (.sh (.int w)),none] = .ok ((w:Int) == 0):=Jz rfl rfl
 show ∃ (one other:List (List Dr)) (m1 m2 acts:Nat),((Cq [some (.sh (.rol (ns.map .int))),none,none,none,none,none,none]).bind gO).bD = .ok (.tup [aV one,aV other])∧_
 unfold Cq
 cases b1:((w:Int) == 0) with
 | true =>
   rw [b1] at t1
   have mv:=mq c1 14 (by decide) (by decide)
   obtain ⟨v,ev,hv⟩:=gQ (nP c1 14) (m:=4) (by decide)
   simp only [Int.cast_ofNat_Int] at ev
   obtain ⟨other,e5,R2⟩:=aje ns (at':=11) (rooms:=1 + v) (by decide) (by omega) (by omega) ha8
   have ea:o2 dG (kc (.int 1)) (o2 cC (oF 2 aJ (ak (gv 4) (ak (kc (.int 14)) aG))) (kc (.int 4))) [some (.sh (.rol (ns.map .int))),some (.sh (.int rooms)),some (.sh (.int acts)),some (.sh (aV one)),some (.sh (.int c1)),some (.sh (.int w)),none] = .ok (.int ((1 + v:Nat):Int)):=by
     have e:=d9 (fa:=oF 2 aJ (ak (gv 4) (ak (kc (.int 14)) aG))) (fb:=kc (.int 4)) (δ:=[some (.sh (.rol (ns.map .int))),some (.sh (.int rooms)),some (.sh (.int acts)),some (.sh (aV one)),some (.sh (.int c1)),some (.sh (.int w)),none]) (i:=nP c1 14) (j:=4) (cV (aA rfl (aA rfl rfl)) rfl mv) rfl (by decide)
     rw [ev] at e
     exact (mz (i:=1) rfl e).trans (by rw [Int.natCast_add]; rfl)
   exact ⟨one,other,rooms,1 + v,acts,aU s1 (aU s2 (aU s3 (aU s4 (Up t1 (rT (Am rfl (cV (aA rfl (aA rfl (aA ea (aA rfl rfl)))) rfl e5))))))),R1,R2,hr1,by omega,by omega,by omega,ha1,ha8⟩
 | false =>
   rw [b1] at t1
   obtain ⟨other,e6,R2⟩:=F_loose R1 hr1 hr8 ha8 c1
   have s6:bZ 6 (oF 2 eE (ak (gv 3) (ak (gv 4) aG))) [some (.sh (.rol (ns.map .int))),some (.sh (.int rooms)),some (.sh (.int acts)),some (.sh (aV one)),some (.sh (.int c1)),some (.sh (.int w)),none] = .ok (.nx [some (.sh (.rol (ns.map .int))),some (.sh (.int rooms)),some (.sh (.int acts)),some (.sh (aV one)),some (.sh (.int c1)),some (.sh (.int w)),some (.sh (aV other))]):=cI (cV (aA rfl (aA rfl rfl)) rfl e6) rfl
   have h7:∃ (one7:List (List Dr)) (m7:Nat),sIf (o2b gtD (gb 5) (kc (.int 2))) (bZ 3 (oF 2 eF (ak (gv 3) (ak (gv 4) aG)))) fW [some (.sh (.rol (ns.map .int))),some (.sh (.int rooms)),some (.sh (.int acts)),some (.sh (aV one)),some (.sh (.int c1)),some (.sh (.int w)),some (.sh (aV other))] = .ok (.nx [some (.sh (.rol (ns.map .int))),some (.sh (.int rooms)),some (.sh (.int acts)),some (.sh (aV one7)),some (.sh (.int c1)),some (.sh (.int w)),some (.sh (aV other))])∧Rows m7 acts false one7∧1 ≤ m7∧m7 ≤ 16:=by
     have t7:o2b gtD (gb 5) (kc (.int 2)) [some (.sh (.rol (ns.map .int))),some (.sh (.int rooms)),some (.sh (.int acts)),some (.sh (aV one)),some (.sh (.int c1)),some (.sh (.int w)),some (.sh (aV other))] = .ok (decide ((w:Int) > 2)):=gt_ok rfl rfl
     cases b7:decide ((w:Int) > 2) with
     | true =>
       rw [b7] at t7
       obtain ⟨one7,e7,R7⟩:=F_unf R1 hr1 hr8 ha8 c1
       exact ⟨one7,2 * rooms,by rw [rm t7]; exact cI (cV (aA rfl (aA rfl rfl)) rfl e7) rfl,R7,by omega,by omega⟩
     | false =>
       rw [b7] at t7
       exact ⟨one,rooms,by rw [ik t7]; rfl,R1,hr1,by omega⟩
   obtain ⟨one7,m7,s7,R7,h71,h72⟩:=h7
   have h8:∃ one8:List (List Dr),sIf (o2b eqD (o2 cC (gv 5) (kc (.int 2))) (kc (.int 0))) (bZ 3 (oF 2 ir (ak (gv 3) (ak (oF 2 bA (ak (gv 0) (ak (kc (.int 2)) aG))) aG)))) fW [some (.sh (.rol (ns.map .int))),some (.sh (.int rooms)),some (.sh (.int acts)),some (.sh (aV one7)),some (.sh (.int c1)),some (.sh (.int w)),some (.sh (aV other))] = .ok (.nx [some (.sh (.rol (ns.map .int))),some (.sh (.int rooms)),some (.sh (.int acts)),some (.sh (aV one8)),some (.sh (.int c1)),some (.sh (.int w)),some (.sh (aV other))])∧Rows m7 acts false one8:=by
     have t8:o2b eqD (o2 cC (gv 5) (kc (.int 2))) (kc (.int 0)) [some (.sh (.rol (ns.map .int))),some (.sh (.int rooms)),some (.sh (.int acts)),some (.sh (aV one7)),some (.sh (.int c1)),some (.sh (.int w)),some (.sh (aV other))] = .ok ((w:Int) % 2 == 0):=Jz (d9 rfl rfl (by decide)) rfl
     cases b8:((w:Int) % 2 == 0) with
     | true =>
       rw [b8] at t8
       obtain ⟨one8,e8,R8⟩:=F_spoilt R7 h71 h72 ha1 ha8 c2
       exact ⟨one8,by rw [rm t8]; exact cI (cV (aA rfl (aA (cV (aA rfl (aA rfl rfl)) rfl ec2) rfl)) rfl e8) rfl,R8⟩
     | false =>
       rw [b8] at t8
       exact ⟨one7,by rw [ik t8]; rfl,R7⟩
   obtain ⟨one8,s8,R8⟩:=h8
   exact ⟨one8,other,m7,rooms,acts,aU s1 (aU s2 (aU s3 (aU s4 (J9 t1 (aU s6 (aU s7 (aU s8 (zT (Am rfl rfl))))))))),R8,R2,h71,h72,hr1,hr8,ha1,ha8⟩
def cP:List Bool→Nat
 | []=>0
 | b :: l=>(if b then 1 else 0) + 2 * cP l
theorem ajS (l:List Bool) (b:Bool):cP (l ++ [b]) = cP l + (if b then 2 ^ l.length else 0):=by
 induction l with
 | nil=>cases b <;> rfl
 | cons c l ih =>
   rw [List.cons_append]
   simp only [cP,ih,List.length_cons,Nat.pow_succ]
   cases b <;> cases c <;> simp <;> omega
theorem DX:∀ (l:List Bool) (i:Nat),(cP l).testBit i = l.getD i false
 | [],i=>by simp [cP]
 | b :: l,0=>by
   rw [Nat.testBit_zero]
   show decide (((if b then 1 else 0) + 2 * cP l) % 2 = 1) = b
   cases b <;> simp <;> omega
 | b :: l,i + 1=>by
   rw [Nat.testBit_succ]
   have:cP (b :: l) / 2 = cP l:=by
     show ((if b then 1 else 0) + 2 * cP l) / 2 = cP l
     cases b <;> simp <;> omega
   rw [this,DX l i]
   rfl
theorem bsum_and:∀ (a b:List Bool),a.length = b.length→cP a &&& cP b = cP (List.zipWith (· && ·) a b):=fun a b h=>by
 apply Nat.eq_of_testBit_eq
 intro i
 rw [Nat.testBit_and,DX,DX,DX]
 simp only [List.getD_eq_getElem?_getD,List.getElem?_zipWith]
 cases ha:a[i]? with
 | none =>
   have:b[i]? = none:=by rw [List.getElem?_eq_none_iff] at ha ⊢; omega
   rw [this]; rfl
 | some x =>
   have hi:i < b.length:=by rw [← h]; exact (List.getElem?_eq_some_iff.mp ha).1
   rw [List.getElem?_eq_getElem hi]
   rfl
end K5
namespace K5
open PySem L2 MX DL
theorem Z9 {i:Nat} {f:DSt→Out D} {δ:DSt} {m n:Int} (h1:δ[i]? = some (some (.sh (.int m)))) (h2:f δ = .ok (.int n)):Uq i f δ = .ok (.nx (δ.set i (some (.sh (.int (m + n)))))):=by
 unfold Uq
 rw [h1]
 dsimp only
 rw [h2]
 rfl
def stB (l:List Bool) (b w:Nat) (x3:Option Sl):DSt:=[some (.sh (.lst (l.map .bl))),some (.sh (.int b)),some (.sh (.int w)),x3]
theorem ajQ (l:List Bool) (b w:Nat) (t:Bool):vo (stB l b w (some (.sh (.bl t)))) = .ok (.nx (stB l (b + if t then w else 0) (w + w) (some (.sh (.bl t))))):=by
 unfold vo
 have e:tst (gb 3) (stB l b w (some (.sh (.bl t)))) = .ok t:=adU rfl
 cases t with
 | true =>
   rw [dq (by rw [rm e]; exact Z9 (m:=(b:Int)) (n:=(w:Int)) rfl rfl),Z9 (m:=(w:Int)) (n:=(w:Int)) rfl rfl]
   rfl
 | false =>
   rw [dq (by rw [ik e]; rfl),Z9 (m:=(w:Int)) (n:=(w:Int)) rfl rfl]
   rfl
theorem F_bits (l:List Bool):jr [.lst (l.map .bl)] = .ok (.int (cP l:Nat)):=by
 have hh:=fC (body:=vo) (tg:=gN 3) D.bl (fun done δ=>∃ x3,δ = stB l (cP done) (2 ^ done.length) x3) l (stB l 0 1 none) (by
   rintro t done rest δ e ⟨x3,rfl⟩
   refine ⟨stB l (cP done) (2 ^ done.length) (some (.sh (.bl t))),rfl,?_⟩
   rw [ajQ]
   refine ⟨some (.sh (.bl t)),?_⟩
   rw [ajS,List.length_append,List.length_cons,List.length_nil,Nat.pow_add]
   show stB l _ (2 ^ done.length + 2 ^ done.length) _ = stB l _ (2 ^ done.length * 2) _
   rw [Nat.mul_two]) ⟨none,rfl⟩
 obtain ⟨δ',e,x3,rfl⟩:=hh
 show ((Lk [some (.sh (.lst (l.map .bl))),none,none,none]).bind gO).bD = _
 unfold Lk
 refine aU (δ':=[some (.sh (.lst (l.map .bl))),some (.sh (.int 0)),none,none]) rfl ?_
 refine aU (δ':=stB l 0 1 none) rfl ?_
 exact aU (δ':=stB l (cP l) (2 ^ l.length) x3) (by unfold ig; exact e) rfl
def nd:Dr→Bool
 | .must _=>true
 | .torn=>true
 | _=>false
theorem aea (x:Dr) (δ:DSt) (fo:DSt→Out D) (h:fo δ = .ok x.ob):oM "needs" 1 pK fo aG δ = .ok (.bl (nd x)):=by
 cases x <;> · unfold Dr.ob at h; walk_at "ev: h nd pK qW Er p6 p7 xN JH Ax N5 xO JK xP JL"
theorem ajr {a:DSt→Out D} {δ:DSt} {x:Bool} (h1:a δ = .ok (.bl x)):Tr a δ = .ok (.bl (!x)):=by
 unfold Tr
 rw [h1]
 rfl
theorem ext_ok {i:Nat} {f:DSt→Out D} {δ:DSt} {ds zs:List D} (h1:δ[i]? = some (some (.ol ds))) (h2:f δ = .ok (.lst zs)) (h:ds.length + zs.length ≤ 5000):sExt i f δ = .ok (.nx (δ.set i (some (.ol (ds ++ zs))))):=by
 unfold sExt
 rw [h1]
 dsimp only
 rw [h2]
 simp only [Out.bK]
 rw [if_pos (Nat.le_trans h (by decide))]
def rkL (r:List Dr):List Bool:=r.flatMap fun x=>[alw x,!nd x]
def brL (r:List Dr):List Bool:=r.flatMap fun x=>[!alw x,nd x]
theorem rk_snoc (r:List Dr) (x:Dr):rkL (r ++ [x]) = rkL r ++ [alw x,!nd x]:=by simp [rkL]
theorem br_snoc (r:List Dr) (x:Dr):brL (r ++ [x]) = brL r ++ [!alw x,nd x]:=by simp [brL]
theorem aiO (r:List Dr):(rkL r).length = 2 * r.length:=by
 induction r with
 | nil=>rfl
 | cons x r ih =>
   show ([alw x,!nd x] ++ rkL r).length = _
   rw [List.length_append,ih,List.length_cons]
   simp only [List.length_cons,List.length_nil]
   omega
theorem br_len (r:List Dr):(brL r).length = 2 * r.length:=by
 induction r with
 | nil=>rfl
 | cons x r ih =>
   show ([!alw x,nd x] ++ brL r).length = _
   rw [List.length_append,ih,List.length_cons]
   simp only [List.length_cons,List.length_nil]
   omega
theorem F_risks (r:List Dr) (hl:r.length ≤ 8):nZ [.tup (r.map Dr.ob)] = .ok (.int (cP (rkL r):Nat)):=by
 have hh:=fC (body:=zO) (tg:=gN 2) Dr.ob (fun done δ=>∃ x2,δ = [some (.sh (.tup (r.map Dr.ob))),some (.ol ((rkL done).map .bl)),x2]) r [some (.sh (.tup (r.map Dr.ob))),some (.ol []),none] (by
   rintro x done rest δ e ⟨x2,rfl⟩
   have hd:done.length ≤ 8:=by
     have:=congrArg List.length e
     simp at this
     omega
   refine ⟨[some (.sh (.tup (r.map Dr.ob))),some (.ol ((rkL done).map .bl)),some (.sh x.ob)],rfl,?_⟩
   unfold zO
   rw [ext_ok (ds:=(rkL done).map .bl) (zs:=[.bl (alw x),.bl (!nd x)]) rfl (lst2 (Yu x _ _ rfl) (ajr (aea x _ _ rfl))) (by rw [List.length_map,aiO]; simp only [List.length_cons,List.length_nil]; omega)]
   exact ⟨_,by rw [rk_snoc,List.map_append]; rfl⟩) ⟨none,rfl⟩
 obtain ⟨δ',e,x2,rfl⟩:=hh
 show ((GP [some (.sh (.tup (r.map Dr.ob))),none,none]).bind gO).bD = _
 unfold GP
 refine aU (δ':=[some (.sh (.tup (r.map Dr.ob))),some (.ol []),none]) (rW (d:=[]) (by unfold tV; walk_at "ev: s0") rfl) ?_
 refine aU (δ':=[some (.sh (.tup (r.map Dr.ob))),some (.ol ((rkL r).map .bl)),x2]) (by unfold ig; exact e) ?_
 show ((bY (oF 1 jr (ak (gv 1) aG)) [some (.sh (.tup (r.map Dr.ob))),some (.sh (.lst ((rkL r).map .bl))),x2]).bind gO).bD = _
 exact zT (cV (aA rfl rfl) rfl (F_bits (rkL r)))
theorem F_bars (r:List Dr) (hl:r.length ≤ 8):sr [.tup (r.map Dr.ob)] = .ok (.int (cP (brL r):Nat)):=by
 have hh:=fC (body:=Dl) (tg:=gN 2) Dr.ob (fun done δ=>∃ x2,δ = [some (.sh (.tup (r.map Dr.ob))),some (.ol ((brL done).map .bl)),x2]) r [some (.sh (.tup (r.map Dr.ob))),some (.ol []),none] (by
   rintro x done rest δ e ⟨x2,rfl⟩
   have hd:done.length ≤ 8:=by
     have:=congrArg List.length e
     simp at this
     omega
   refine ⟨[some (.sh (.tup (r.map Dr.ob))),some (.ol ((brL done).map .bl)),some (.sh x.ob)],rfl,?_⟩
   unfold Dl
   rw [ext_ok (ds:=(brL done).map .bl) (zs:=[.bl (!alw x),.bl (nd x)]) rfl (lst2 (ajr (Yu x _ _ rfl)) (aea x _ _ rfl)) (by rw [List.length_map,br_len]; simp only [List.length_cons,List.length_nil]; omega)]
   exact ⟨_,by rw [br_snoc,List.map_append]; rfl⟩) ⟨none,rfl⟩
 obtain ⟨δ',e,x2,rfl⟩:=hh
 show ((Lj [some (.sh (.tup (r.map Dr.ob))),none,none]).bind gO).bD = _
 unfold Lj
 refine aU (δ':=[some (.sh (.tup (r.map Dr.ob))),some (.ol []),none]) (rW (d:=[]) (by unfold tV; walk_at "ev: s0") rfl) ?_
 refine aU (δ':=[some (.sh (.tup (r.map Dr.ob))),some (.ol ((brL r).map .bl)),x2]) (by unfold ig; exact e) ?_
 show ((bY (oF 1 jr (ak (gv 1) aG)) [some (.sh (.tup (r.map Dr.ob))),some (.sh (.lst ((brL r).map .bl))),x2]).bind gO).bD = _
 exact zT (cV (aA rfl rfl) rfl (F_bits (brL r)))
def fst1:List Bool→Nat→Option Nat
 | [],_=>none
 | b :: l,k=>if b then some k else fst1 l (k + 1)
def ffD:Option Nat→D
 | none=>.non
 | some p=>.tup [.int (p / 2:Nat),.str (if p % 2 = 0 then "extra" else "lacks")]
theorem YX:∀ (l:List Bool) (k:Nat),fst1 l k = none→cP l = 0
 | [],_,_=>rfl
 | b :: l,k,h=>by
   cases b with
   | true=>cases h
   | false =>
     have:=YX l (k + 1) h
     show 0 + 2 * cP l = 0
     omega
theorem ajj:∀ (l:List Bool) (k p n:Nat),fst1 l k = some p→l.length < n→∃ b:Int,whD qN kI n [some (.sh (.int (cP l:Nat))),some (.sh (.int k))] = .ok (.nx [some (.sh (.int b)),some (.sh (.int p))])
 | [],_,_,_,h,_=>by cases h
 | _ :: _,_,_,0,_,hn=>by cases hn
 | b :: l,k,p,n + 1,h,hn=>by
   have t:qN [some (.sh (.int (cP (b :: l):Nat))),some (.sh (.int k))] = .ok (((cP (b :: l):Nat):Int) % 2 == 0):=Jz (d9 rfl rfl (by decide)) rfl
   cases b with
   | true =>
     have z:(((cP (true :: l):Nat):Int) % 2 == 0) = false:=by
       rw [beq_eq_false_iff_ne]
       show ((1 + 2 * cP l:Nat):Int) % 2 ≠ 0
       omega
     rw [z] at t
     cases h
     refine ⟨((cP (true :: l):Nat):Int),?_⟩
     unfold whD
     rw [t]
     rfl
   | false =>
     have z:(((cP (false :: l):Nat):Int) % 2 == 0) = true:=by
       rw [beq_iff_eq]
       show ((0 + 2 * cP l:Nat):Int) % 2 = 0
       omega
     rw [z] at t
     obtain ⟨b,e⟩:=ajj l (k + 1) p n h (Nat.lt_of_succ_lt_succ hn)
     refine ⟨b,?_⟩
     have s1:bZ 0 (o2 gJ (gv 0) (kc (.int 2))) [some (.sh (.int (cP (false :: l):Nat))),some (.sh (.int k))] = .ok (.nx [some (.sh (.int (cP l:Nat))),some (.sh (.int k))]):=cI (d:=.int (cP l:Nat)) ((yJ (i:=((cP (false :: l):Nat):Int)) (j:=2) rfl rfl (cd _ (by decide) (by decide))).trans (by
       show Out.ok (D.int (((0 + 2 * cP l:Nat):Int) / 2)) = _
       congr 2
       omega)) rfl
     have bd:kI [some (.sh (.int (cP (false :: l):Nat))),some (.sh (.int k))] = .ok (.nx [some (.sh (.int (cP l:Nat))),some (.sh (.int ((k + 1:Nat):Int)))]):=by
       unfold kI
       rw [dq s1,Z9 (m:=(k:Int)) (n:=1) rfl rfl]
       rfl
     unfold whD
     rw [t]
     simp only [Out.bK,if_true]
     rw [bd]
     exact e
theorem F_first (l:List Bool) (hl:l.length ≤ 16):jY [.int (cP l:Nat)] = .ok (ffD (fst1 l 0)):=by
 show ((ww [some (.sh (.int (cP l:Nat))),none]).bind gO).bD = _
 unfold ww
 have t:o2b eqD (gb 0) (kc (.int 0)) [some (.sh (.int (cP l:Nat))),none] = .ok (((cP l:Nat):Int) == 0):=Jz rfl rfl
 cases h:fst1 l 0 with
 | none =>
   rw [show (((cP l:Nat):Int) == 0) = true by rw [YX l 0 h]; rfl] at t
   exact Up t rfl
 | some p =>
   have pos:cP l ≠ 0:=fun z=>by
     have:∀ (l:List Bool) (k p:Nat),fst1 l k = some p→cP l ≠ 0:=by
       intro l
       induction l with
       | nil=>intro k p h; cases h
       | cons b l ih =>
         intro k p h
         cases b with
         | true=>show 1 + 2 * cP l ≠ 0; omega
         | false =>
           have:=ih (k + 1) p h
           show 0 + 2 * cP l ≠ 0
           omega
     exact this l 0 p h z
   rw [show (((cP l:Nat):Int) == 0) = false by rw [beq_eq_false_iff_ne]; omega] at t
   obtain ⟨b,e⟩:=ajj l 0 p 20 h (by omega)
   refine J9 t ?_
   refine aU (δ':=[some (.sh (.int (cP l:Nat))),some (.sh (.int ((0:Nat):Int)))]) rfl ?_
   refine aU (δ':=[some (.sh (.int b)),some (.sh (.int p))]) e ?_
   have d1:o2 gJ (gv 1) (kc (.int 2)) [some (.sh (.int b)),some (.sh (.int p))] = .ok (.int (p / 2:Nat)):=(yJ (i:=(p:Int)) (j:=2) rfl rfl (cd _ (by decide) (by decide))).trans (by congr 2)
   have d2:o2 cC (gv 1) (kc (.int 2)) [some (.sh (.int b)),some (.sh (.int p))] = .ok (.int (p % 2:Nat)):=(d9 (i:=(p:Int)) (j:=2) rfl rfl (by decide)).trans (by congr 2)
   have d3:o2 ixD (kc (.rot [.str "extra",.str "lacks"])) (o2 cC (gv 1) (kc (.int 2))) [some (.sh (.int b)),some (.sh (.int p))] = .ok (.str (if p % 2 = 0 then "extra" else "lacks")):=by
     rcases Nat.mod_two_eq_zero_or_one p with z | z
     · rw [z] at d2
       rw [z]
       exact uF rfl d2 rfl
     · rw [z] at d2
       rw [z]
       exact uF rfl d2 rfl
   exact zT (Am d1 d3)
end K5
namespace K5
open PySem L2 MX DL
def flt:List (Dr × Dr)→Nat→D
 | [],_=>.non
 | (x,y) :: r,k=>if (alw x && !alw y) = true then .tup [.int k,.str "extra"] else if (!nd x && nd y) = true then .tup [.int k,.str "lacks"] else flt r (k + 1)
theorem afp:∀ (xs ys:List Dr) (k:Nat),xs.length = ys.length→ffD (fst1 (List.zipWith (· && ·) (rkL xs) (brL ys)) (2 * k)) = flt (List.zip xs ys) k
 | [],[],_,_=>rfl
 | [],_ :: _,_,h=>by cases h
 | _ :: _,[],_,h=>by cases h
 | x :: xs,y :: ys,k,h=>by
   have e:List.zipWith (· && ·) (rkL (x :: xs)) (brL (y :: ys)) = (alw x && !alw y) :: (!nd x && nd y) :: List.zipWith (· && ·) (rkL xs) (brL ys):=rfl
   rw [e]
   show ffD (if (alw x && !alw y) = true then some (2 * k) else if (!nd x && nd y) = true then some (2 * k + 1) else fst1 (List.zipWith (· && ·) (rkL xs) (brL ys)) (2 * (k + 1))) = (if (alw x && !alw y) = true then .tup [.int k,.str "extra"] else if (!nd x && nd y) = true then .tup [.int k,.str "lacks"] else flt (List.zip xs ys) (k + 1))
   split
   · show D.tup [.int (2 * k / 2:Nat),.str (if 2 * k % 2 = 0 then "extra" else "lacks")] = _
     rw [if_pos (by omega),show 2 * k / 2 = k by omega]
   · split
     · show D.tup [.int ((2 * k + 1) / 2:Nat),.str (if (2 * k + 1) % 2 = 0 then "extra" else "lacks")] = _
       rw [if_neg (by omega),show (2 * k + 1) / 2 = k by omega]
     · exact afp xs ys (k + 1) (Nat.succ.inj h)
theorem tw (x:Dr) (h:x ≠ .torn):neD (.str x.w) (.str "shut") = some (alw x)∧eqD (.str x.w) (.str "shut") = some (!alw x)∧eqD (.str x.w) (.str "must") = some (nd x)∧neD (.str x.w) (.str "must") = some (!nd x):=by
 cases x with
 | must n=>exact ⟨by unfold neD; rw [show eqD (.str (Dr.must n).w) (.str "shut") = some false from q13]; rfl,q13,q11,by unfold neD; rw [show eqD (.str (Dr.must n).w) (.str "must") = some true from q11]; rfl⟩
 | may n=>exact ⟨by unfold neD; rw [show eqD (.str (Dr.may n).w) (.str "shut") = some false from q23]; rfl,q23,q21,by unfold neD; rw [show eqD (.str (Dr.may n).w) (.str "must") = some false from q21]; rfl⟩
 | shut=>exact ⟨by unfold neD; rw [show eqD (.str Dr.shut.w) (.str "shut") = some true from q33]; rfl,q33,q31,by unfold neD; rw [show eqD (.str Dr.shut.w) (.str "must") = some false from q31]; rfl⟩
 | torn=>exact absurd rfl h
def stF (one other:List (List Dr)) (i j:Nat) (x3 x4 x5:Option Sl):DSt:=[some (.sh (aV one)),some (.sh (aV other)),some (.sh (.tup [.int i,.int j])),x3,x4,x5]
theorem Sd {one other:List (List Dr)} {i j acts:Nat} {xs ys:List Dr} (ei:one[i]? = some xs) (ej:other[j]? = some ys) (hx:xs.length = acts) (hy:ys.length = acts) (tx:∀ x ∈ xs,x ≠ .torn) (ty:∀ y ∈ ys,y ≠ .torn):∀ (n k:Nat) (x3 x4 x5:Option Sl),k + n = acts →
   (∃ d,flt ((List.zip xs ys).drop k) k = d∧wX (gN 3) cN ((List.range' k n).map fun k:Nat=>D.int k) (stF one other i j x3 x4 x5) = .ok (.rt d)) ∨ (flt ((List.zip xs ys).drop k) k = .non∧∃ y3 y4 y5,wX (gN 3) cN ((List.range' k n).map fun k:Nat=>D.int k) (stF one other i j x3 x4 x5) = .ok (.nx (stF one other i j y3 y4 y5)))
 | 0,k,x3,x4,x5,h=>.inr ⟨by rw [List.drop_of_length_le (by rw [List.length_zip]; omega)]; rfl,x3,x4,x5,rfl⟩
 | n + 1,k,x3,x4,x5,h=>by
   have lx:k < xs.length:=by omega
   have ly:k < ys.length:=by omega
   have lz:k < (List.zip xs ys).length:=by rw [List.length_zip]; omega
   obtain ⟨x,ex⟩:∃ x,xs[k]? = some x:=⟨_,List.getElem?_eq_getElem lx⟩
   obtain ⟨y,ey⟩:∃ y,ys[k]? = some y:=⟨_,List.getElem?_eq_getElem ly⟩
   obtain ⟨a1,a2,a3,a4⟩:=tw x (tx x (List.mem_of_getElem? ex))
   obtain ⟨b1,b2,b3,b4⟩:=tw y (ty y (List.mem_of_getElem? ey))
   have dz:(List.zip xs ys).drop k = (x,y) :: (List.zip xs ys).drop (k + 1):=by
     rw [List.drop_eq_getElem_cons lz,List.getElem_zip]
     rw [List.getElem?_eq_getElem lx] at ex
     rw [List.getElem?_eq_getElem ly] at ey
     rw [Option.some.inj ex,Option.some.inj ey]
   have s4:bZ 4 (o2 ixD (o2 ixD (o2 ixD (gvo 0) (o2 ixD (gvo 2) (kc (.int 0)))) (gv 3)) (kc (.int 0))) (stF one other i j (some (.sh (.int k))) x4 x5) = .ok (.nx (stF one other i j (some (.sh (.int k))) (some (.sh (.str x.w))) x5)):=cI (tix0 (a:=.str x.w) (r:=[x.to]) (uq (ds:=xs.map Dr.d) (n:=k) (uq (ds:=one.map fun r=>.lst (r.map Dr.d)) (n:=i) rfl (tix0 rfl) (by rw [List.getElem?_map,ei]; rfl)) rfl (by rw [List.getElem?_map,ex]; rfl))) rfl
   have s5:bZ 5 (o2 ixD (o2 ixD (o2 ixD (gvo 1) (o2 ixD (gvo 2) (kc (.int 1)))) (gv 3)) (kc (.int 0))) (stF one other i j (some (.sh (.int k))) (some (.sh (.str x.w))) x5) = .ok (.nx (stF one other i j (some (.sh (.int k))) (some (.sh (.str x.w))) (some (.sh (.str y.w))))):=cI (tix0 (a:=.str y.w) (r:=[y.to]) (uq (ds:=ys.map Dr.d) (n:=k) (uq (ds:=other.map fun r=>.lst (r.map Dr.d)) (n:=j) rfl (tix1 rfl) (by rw [List.getElem?_map,ej]; rfl)) rfl (by rw [List.getElem?_map,ey]; rfl))) rfl
   have t1:uK (o2b neD (gb 4) (kc (.str "shut"))) (o2b eqD (gb 5) (kc (.str "shut"))) (stF one other i j (some (.sh (.int k))) (some (.sh (.str x.w))) (some (.sh (.str y.w)))) = .ok (alw x && !alw y):=DR (qP rfl rfl a1) fun _=>qP rfl rfl b2
   have t2:uK (o2b eqD (gb 5) (kc (.str "must"))) (o2b neD (gb 4) (kc (.str "must"))) (stF one other i j (some (.sh (.int k))) (some (.sh (.str x.w))) (some (.sh (.str y.w)))) = .ok (nd y && !nd x):=DR (qP rfl rfl b3) fun _=>qP rfl rfl a4
   rw [Bool.and_comm] at t2
   have bd:cN (stF one other i j (some (.sh (.int k))) x4 x5) = .ok (if (alw x && !alw y) = true then .rt (.tup [.int k,.str "extra"]) else if (!nd x && nd y) = true then .rt (.tup [.int k,.str "lacks"]) else .nx (stF one other i j (some (.sh (.int k))) (some (.sh (.str x.w))) (some (.sh (.str y.w))))):=by
     unfold cN
     rw [dq s4,dq s5]
     cases c1:(alw x && !alw y) with
     | true =>
       rw [c1] at t1
       unfold bh
       rw [rm t1,rT (Am (a:=.int (k:Int)) rfl rfl)]
       rfl
     | false =>
       rw [c1] at t1
       rw [dq (δ':=stF one other i j (some (.sh (.int k))) (some (.sh (.str x.w))) (some (.sh (.str y.w)))) (by rw [aiP t1]; rfl)]
       cases c2:(!nd x && nd y) with
       | true =>
         rw [c2] at t2
         rw [rm t2,rT (Am (a:=.int (k:Int)) rfl rfl)]
         rfl
       | false =>
         rw [c2] at t2
         rw [aiP t2]
         rfl
   have e:wX (gN 3) cN ((List.range' k (n + 1)).map fun k:Nat=>D.int k) (stF one other i j x3 x4 x5) = ((cN (stF one other i j (some (.sh (.int k))) x4 x5)).bind fun fl=>match fl with
     | .nx δ2=>wX (gN 3) cN ((List.range' (k + 1) n).map fun k:Nat=>D.int k) δ2
     | .ct δ2=>wX (gN 3) cN ((List.range' (k + 1) n).map fun k:Nat=>D.int k) δ2
     | .bk δ2=>.ok (.nx δ2)
     | fl=>.ok fl):=rfl
   rw [e,bd,dz]
   show (∃ d,(if (alw x && !alw y) = true then .tup [.int k,.str "extra"] else if (!nd x && nd y) = true then .tup [.int k,.str "lacks"] else flt ((List.zip xs ys).drop (k + 1)) (k + 1)) = d∧_) ∨ ((if (alw x && !alw y) = true then .tup [.int k,.str "extra"] else if (!nd x && nd y) = true then .tup [.int k,.str "lacks"] else flt ((List.zip xs ys).drop (k + 1)) (k + 1)) = .non∧_)
   cases c1:(alw x && !alw y) with
   | true=>exact .inl ⟨_,rfl,rfl⟩
   | false =>
     cases c2:(!nd x && nd y) with
     | true=>exact .inl ⟨_,rfl,rfl⟩
     | false=>exact Sd ei ej hx hy tx ty n (k + 1) _ _ _ (by omega)
theorem F_fault {m1 m2 acts:Nat} {one other:List (List Dr)} (R1:Rows m1 acts false one) (R2:Rows m2 acts false other) (h1:1 ≤ m1) (ha:acts ≤ 8) {i j:Nat} {xs ys:List Dr} (ei:one[i]? = some xs) (ej:other[j]? = some ys):jo [aV one,aV other,.tup [.int i,.int j]] = .ok (flt (List.zip xs ys) 0):=by
 have rx:=R1.row xs (List.mem_of_getElem? ei)
 have ry:=R2.row ys (List.mem_of_getElem? ej)
 show ((zf (stF one other i j none none none)).bind gO).bD = _
 unfold zf
 have rg:=jn (n:=acts) (Ek R1 h1 (f:=gvo 0) (δ:=stF one other i j none none none) rfl) (by omega)
 rw [List.range_eq_range'] at rg
 rcases Sd ei ej rx.1 ry.1 (fun x hx z=>by have:=rx.2 x hx; rw [z] at this; cases this) (fun y hy z=>by have:=ry.2 y hy; rw [z] at this; cases this) acts 0 none none none (by omega) with ⟨d,hd,e⟩ | ⟨hd,y3,y4,y5,e⟩
 · rw [List.drop_zero] at hd
   rw [hd]
   exact run_rt (by unfold ig; rw [rg]; exact e)
 · rw [List.drop_zero] at hd
   rw [hd]
   exact aU (by unfold ig; rw [rg]; exact e) rfl
theorem afq:∀ (ps:List (Dr × Dr)) (k:Nat),flt ps k = .non ∨ ∃ (m:Nat) (s:Str),(s = "extra" ∨ s = "lacks")∧flt ps k = .tup [.int m,.str s]
 | [],_=>.inl rfl
 | (x,y) :: r,k=>by
   unfold flt
   split
   · exact .inr ⟨k,_,.inl rfl,rfl⟩
   · split
     · exact .inr ⟨k,_,.inr rfl,rfl⟩
     · exact afq r (k + 1)
theorem ok_extra:PyData.strOk "extra" = true:=by decide +kernel
theorem ok_lacks:PyData.strOk "lacks" = true:=by decide +kernel
theorem F_is (m:Nat):rZ [.int m,.int m] = .ok (.bl true):=by
 unfold rZ YZ
 have e:((m:Int) == (m:Int)) = true:=by simp
 walk_at "ev: u9 qj Ak e"
theorem F_right (ps:List (Dr × Dr)) (k:Nat):gK [flt ps k,flt ps k] = .ok (.bl true):=by
 rcases afq ps k with h | ⟨m,s,hs,h⟩
 · rw [h]
   rfl
 · rw [h]
   have es:eqD (.str s) (.str s) = some true:=afl (by rcases hs with rfl | rfl <;> first | exact ok_extra | exact ok_lacks)
   have ei:=F_is m
   unfold gK JN
   walk_at "ev: gm iR Ak ei es Tp"
end K5
namespace K5
open PySem L2 MX DL
theorem Um:∀ a:List (List Nat),toPyL (aL a) = some (a.map fun l=>PyData.str (ofL l))
 | []=>rfl
 | l :: a=>by
   show (match toPy (.str (ofL l)),toPyL (aL a) with | some p,some ps=>some (p :: ps) | _,_=>none) = _
   rw [Um a]
   rfl
theorem afn:∀ a b:List (List Nat),PyData.eqvAll (a.map fun l=>PyData.str (ofL l)) (b.map fun l=>PyData.str (ofL l)) = decide (a = b)
 | [],[]=>rfl
 | [],_ :: _=>by simp [PyData.eqvAll]
 | _ :: _,[]=>by simp [PyData.eqvAll]
 | x :: a,y :: b=>by
   show (PyData.eqv (.str (ofL x)) (.str (ofL y)) && PyData.eqvAll _ _) = _
   rw [afn a b]
   show ((ofL x == ofL y) && decide (a = b)) = _
   by_cases h:x = y
   · subst h
     simp
   · have:(ofL x == ofL y) = false:=by rw [beq_eq_false_iff_ne]; exact fun z=>h (acd z)
     rw [this]
     simp [h]
theorem ne_names (a b:List (List Nat)) (ha:gW 50 (.lst (aL a)) = true) (hb:gW 50 (.lst (aL b)) = true):neD (.lst (aL a)) (.lst (aL b)) = some (!decide (a = b)):=by
 rw [Qu ha hb]
 unfold eqB
 rw [show toPy (.lst (aL a)) = some (.list (a.map fun l=>PyData.str (ofL l))) by show (toPyL (aL a)).map PyData.list = _; rw [Um]; rfl,show toPy (.lst (aL b)) = some (.list (b.map fun l=>PyData.str (ofL l))) by show (toPyL (aL b)).map PyData.list = _; rw [Um]; rfl]
 show some (!PyData.eqvAll _ _) = _
 rw [afn]
theorem Y9 (ns:List (List Nat)) (N:Names ns):gW 50 (.lst (aL ns)) = true:=by
 show Dj 49 _ = true
 refine Y8 49 _ _ fun l hl=>?_
 show PyData.strOk (ofL l) = true
 unfold PyData.strOk ofL
 simp only [List.all_toArray,List.all_eq_true,decide_eq_true_eq]
 intro c hc
 have:=((N.ok l hl).2.2 c hc).2
 omega
theorem M_acts {ns:List (List Nat)} {rows:List (List Dr)} {δ:DSt} {fo:DSt→Out D} (h:fo δ = .ok (plan bz ns rows)):oM "action_list" 1 (tabD cT) fo aG δ = .ok (.lst (aL ns)):=by
 unfold plan at h
 walk_at "ev: h tabD dOf cT jU bz fX qZ runL sRetf endF Bj"
theorem Zd {n1 n2:List (List Nat)} {r1 r2:List (List Dr)} (N1:Names n1) (N2:Names n2):o2b neD (oM "action_list" 1 (tabD cT) (gv 0) aG) (oM "action_list" 1 (tabD cT) (gv 1) aG) [some (.sh (plan bz n1 r1)),some (.sh (plan bz n2 r2))] = .ok (!decide (n1 = n2)):=qP (M_acts rfl) (M_acts rfl) (ne_names n1 n2 (Y9 n1 N1) (Y9 n2 N2))
theorem F_same {n1:List (List Nat)} {r1 r2:List (List Dr)} (N1:Names n1):cR [plan bz n1 r1,plan bz n1 r2] = .ok .non:=by
 have t:=Zd (r1:=r1) (r2:=r2) N1 N1
 rw [decide_eq_true rfl] at t
 show (qi [some (.sh (plan bz n1 r1)),some (.sh (plan bz n1 r2))]).bind gO = _
 unfold qi
 rw [ik t]
 rfl
theorem ad5 {n1 n2:List (List Nat)} {r1 r2:List (List Dr)} (N1:Names n1) (N2:Names n2) (h:n1 ≠ n2):cR [plan bz n1 r1,plan bz n2 r2] = .ex (.exc dj []):=by
 have t:=Zd (r1:=r1) (r2:=r2) N1 N2
 rw [decide_eq_false h] at t
 show (qi [some (.sh (plan bz n1 r1)),some (.sh (plan bz n2 r2))]).bind gO = _
 unfold qi
 rw [rm t]
 rfl
theorem ad3 {m1 m2:Nat} {ns:List (List Nat)} {one other:List (List Dr)} (P1:Pl bz m1 false ns one) (P2:Pl bz m2 false ns other) {i j:Nat} {xs ys:List Dr} (ei:one[i]? = some xs) (ej:other[j]? = some ys):gM [plan bz ns one,.int i,plan bz ns other,.int j] = .ok (flt (List.zip xs ys) 0):=by
 have rx:=P1.R.row xs (List.mem_of_getElem? ei)
 have ry:=P2.R.row ys (List.mem_of_getElem? ej)
 have h8:=P1.N.hi
 have lx:xs.length ≤ 8:=by omega
 have ly:ys.length ≤ 8:=by omega
 show (uo [some (.sh (plan bz ns one)),some (.sh (.int i)),some (.sh (plan bz ns other)),some (.sh (.int j))]).bind gO = _
 unfold uo
 have s1:nG (oF 2 cR (ak (gv 0) (ak (gv 2) aG))) [some (.sh (plan bz ns one)),some (.sh (.int i)),some (.sh (plan bz ns other)),some (.sh (.int j))] = .ok (.nx [some (.sh (plan bz ns one)),some (.sh (.int i)),some (.sh (plan bz ns other)),some (.sh (.int j))]):=by
   unfold nG
   rw [cV (n:=2) (fr:=ak (gv 0) (ak (gv 2) aG)) (ds:=[plan bz ns one,plan bz ns other]) (aA rfl (aA rfl rfl)) rfl (F_same P1.N)]
   rfl
 have a1:o2 ixD (JW "rooms" [jU,bz] (gv 0)) (gv 1) [some (.sh (plan bz ns one)),some (.sh (.int i)),some (.sh (plan bz ns other)),some (.sh (.int j))] = .ok (.tup (xs.map Dr.ob)):=ixt_ok (ds:=one.map fun r=>.tup (r.map Dr.ob)) (n:=i) (YW P1 rfl) rfl (by rw [List.getElem?_map,ei]; rfl)
 have a2:o2 ixD (JW "rooms" [jU,bz] (gv 2)) (gv 3) [some (.sh (plan bz ns one)),some (.sh (.int i)),some (.sh (plan bz ns other)),some (.sh (.int j))] = .ok (.tup (ys.map Dr.ob)):=ixt_ok (ds:=other.map fun r=>.tup (r.map Dr.ob)) (n:=j) (YW P2 rfl) rfl (by rw [List.getElem?_map,ej]; rfl)
 have bl:(rkL xs).length = (brL ys).length:=by rw [aiO,br_len,rx.1,ry.1]
 have ba:aeK (.int (cP (rkL xs):Nat)) (.int (cP (brL ys):Nat)) = some (.int (cP (List.zipWith (· && ·) (rkL xs) (brL ys)):Nat)):=by
   show some (D.int (Builtin.bitAnd ((cP (rkL xs):Nat):Int) ((cP (brL ys):Nat):Int))) = _
   have:Builtin.bitAnd ((cP (rkL xs):Nat):Int) ((cP (brL ys):Nat):Int) = ((cP (rkL xs) &&& cP (brL ys):Nat):Int):=by
     unfold Builtin.bitAnd
     rw [decide_eq_true (Int.natCast_nonneg _),decide_eq_true (Int.natCast_nonneg _)]
     rfl
   rw [this,bsum_and _ _ bl]
 have e:=F_first (List.zipWith (· && ·) (rkL xs) (brL ys)) (by rw [List.length_zipWith,aiO]; omega)
 have fe:=afp xs ys 0 (by omega)
 rw [Nat.mul_zero] at fe
 rw [fe] at e
 rw [dq s1,rT (cV (n:=1) (fr:=ak (o2 aeK (oF 1 nZ (ak (o2 ixD (JW "rooms" [jU,bz] (gv 0)) (gv 1)) aG)) (oF 1 sr (ak (o2 ixD (JW "rooms" [jU,bz] (gv 2)) (gv 3)) aG))) aG) (ds:=[.int (cP (List.zipWith (· && ·) (rkL xs) (brL ys)):Nat)]) (aA (uF (cV (aA a1 rfl) rfl (F_risks xs lx)) (cV (aA a2 rfl) rfl (F_bars ys ly)) ba) rfl) rfl e)]
 rfl
theorem Ob {n:Nat} {F:List D→Out D} {fr:DSt→Out (List D)} {δ:DSt} {ds:List D} {x:D} (h:fr δ = .ok ds) (hl:ds.length = n) (e:F ds = .ex x):oF n F fr δ = .ex x:=by
 unfold oF
 rw [h]
 simp only [Out.bK]
 rw [if_pos hl,e]
theorem mk_ex {c n:Nat} {F:List D→Out (List (Str × D))} {fr:DSt→Out (List D)} {δ:DSt} {ds:List D} {x:D} (h:fr δ = .ok ds) (hl:ds.length = n) (e:F ds = .ex x):oMk c n F fr δ = .ex x:=by
 unfold oMk
 rw [h]
 simp only [Out.bK]
 rw [if_pos hl,e]
 rfl
theorem cons_ex {f:DSt→Out D} {r:DSt→Out (List D)} {δ:DSt} {x:D} (h:f δ = .ex x):ak f r δ = .ex x:=by
 unfold ak
 rw [h]
 rfl
theorem aez {p q:D} {k:Nat} (hk:k < 6) (h:cR [p,q] = .ex (.exc dj [])):eY [p,q,.int k] = .ok (.bl true):=by
 have hI:cY [p,q] = .ex (.exc dj []):=by unfold cY refI; rw [h]; rfl
 have f0:gM [p,.int 0,q,.int 0] = .ex (.exc dj []):=by
   show (uo [some (.sh p),some (.sh (.int 0)),some (.sh q),some (.sh (.int 0))]).bind gO = _
   unfold uo bh nG
   rw [Ob (n:=2) (fr:=ak (gv 0) (ak (gv 2) aG)) (ds:=[p,q]) (aA rfl (aA rfl rfl)) rfl h]
   rfl
 have mk:∀ (xs:List (Option Sl)),oMk dh 2 cY (ak (gv 0) (ak (gv 1) aG)) (some (.sh p) :: some (.sh q) :: xs) = .ex (.exc dj []):=fun xs=>mk_ex (ds:=[p,q]) (aA rfl (aA rfl rfl)) rfl hI
 have f1:tK [p,q] = .ex (.exc dj []):=by
   show (GQ (some (.sh p) :: some (.sh q) :: [none,none])).bind gO = _
   unfold GQ bh bZ
   rw [mk]
   rfl
 have f2:tH [p,q,.lst []] = .ex (.exc dj []):=by
   show (GK (some (.sh p) :: some (.sh q) :: [some (.sh (.lst [])),none,none,none,none])).bind gO = _
   unfold GK bh bZ
   rw [mk]
   rfl
 have f3:Ay [p,q] = .ex (.exc dj []):=by
   show (Sq (some (.sh p) :: some (.sh q) :: [])).bind gO = _
   unfold Sq bY bV o2b oF
   rw [cons_ex (f:=oMk dh 2 cY (ak (gv 0) (ak (gv 1) aG))) (mk [])]
   rfl
 have f4:pY [p,q] = .ex (.exc dj []):=by
   show (Cw (some (.sh p) :: some (.sh q) :: [none,none,none,none])).bind gO = _
   unfold Cw bh bZ
   rw [mk]
   rfl
 have f5:mj [p,q] = .ex (.exc dj []):=by
   show (zm (some (.sh p) :: some (.sh q) :: [none,none,none,none,none])).bind gO = _
   unfold zm bh nG
   rw [Ob (n:=2) (fr:=ak (gv 0) (ak (gv 1) aG)) (ds:=[p,q]) (aA rfl (aA rfl rfl)) rfl h]
   rfl
 have sx:∀ {f:DSt→Out D} {δ:DSt},f δ = .ex (.exc dj [])→nG f δ = .ex (.exc dj []):=fun e=>by unfold nG; rw [e]; rfl
 show ((zc [some (.sh p),some (.sh q),some (.sh (.int k)),none,none]).bind gO).bD = _
 unfold zc
 refine aU (δ':=[some (.sh p),some (.sh q),some (.sh (.int k)),some (.sh .non),none]) rfl ?_
 refine aU (δ':=[none,none,none,some (.sh (.exc dj [])),none]) ?_ rfl
 have te:∀ j:Int,o2b eqD (gb 2) (kc (.int j)) [some (.sh p),some (.sh q),some (.sh (.int k)),some (.sh .non),none] = .ok ((k:Int) == j):=fun j=>Jz rfl rfl
 have goal:∀ {g:DSt→Out Fl},g [some (.sh p),some (.sh q),some (.sh (.int k)),some (.sh .non),none] = .ex (.exc dj [])→sTry du 3 g [some (.sh p),some (.sh q),some (.sh (.int k)),some (.sh .non),none] = .ok (.nx [none,none,none,some (.sh (.exc dj [])),none]):=fun e=>by
   unfold sTry
   rw [e]
   rfl
 apply goal
 have six:k = 0 ∨ k = 1 ∨ k = 2 ∨ k = 3 ∨ k = 4 ∨ k = 5:=by omega
 rcases six with rfl | rfl | rfl | rfl | rfl | rfl
 · rw [rm (te 0)]
   exact sx (Ob (ds:=[p,.int 0,q,.int 0]) (aA rfl (aA rfl (aA rfl (aA rfl rfl)))) rfl f0)
 · rw [ik (te 0),rm (te 1)]
   exact sx (Ob (ds:=[p,q]) (aA rfl (aA rfl rfl)) rfl f1)
 · rw [ik (te 0),ik (te 1),rm (te 2)]
   exact sx (Ob (ds:=[p,q,.lst []]) (aA rfl (aA rfl (aA rfl rfl))) rfl f2)
 · rw [ik (te 0),ik (te 1),ik (te 2),rm (te 3)]
   exact sx (Ob (ds:=[p,q]) (aA rfl (aA rfl rfl)) rfl f3)
 · rw [ik (te 0),ik (te 1),ik (te 2),ik (te 3),rm (te 4)]
   exact sx (Ob (ds:=[p,q]) (aA rfl (aA rfl rfl)) rfl f4)
 · rw [ik (te 0),ik (te 1),ik (te 2),ik (te 3),ik (te 4)]
   exact sx (Ob (ds:=[p,q]) (aA rfl (aA rfl rfl)) rfl f5)
end K5
namespace K5
open PySem L2 MX DL
theorem ahT (f:List (List Nat)):FP (aL f) = some (f.map fun l=>V.str (ofL l)):=by
 unfold aL
 induction f with
 | nil=>rfl
 | cons x xs ih=>simp only [List.map_cons,FP,JD,ih]
theorem not_in (x:List Nat) (f:List (List Nat)):Dq (.str (ofL x)) (.lst (aL f)) = some (!decide (x ∈ f)):=by
 show ((match JD (D.str (ofL x)),(Bj (.lst (aL f))).bind FP with | some v,some vs=>some (inV v vs) | _,_=>none).map (! ·)) = _
 simp only [JD,Bj,Option.bind_some,ahT,inV,List.any_map,Option.map_some]
 congr 2
 induction f with
 | nil=>rfl
 | cons y f ih =>
   rw [List.any_cons,ih]
   have k:eqV (V.str (ofL y)) (V.str (ofL x)) = decide (y = x):=by
     show decide (ofL y = ofL x) = _
     by_cases h:y = x
     · rw [decide_eq_true h,decide_eq_true (by rw [h])]
     · rw [decide_eq_false h,decide_eq_false (fun z=>h (acd z))]
   show (eqV (V.str (ofL y)) (V.str (ofL x)) || decide (x ∈ f)) = _
   rw [k]
   by_cases h:y = x
   · subst h; simp
   · have h':¬ x = y:=fun e=>h e.symm
     simp [h,h']
theorem nine:Str.ofString "abcdefghi" = ofL ((List.range 9).map (97 + ·)):=by decide +kernel
theorem sign9:UW (Str.ofString "abcdefghi") = (List.range 9).map fun i=>D.str (ofL [97 + i]):=by
 rw [nine]
 rfl
theorem cover:∀ (n:Nat) (L:List Nat),(∀ i,i < n→i ∈ L)→n ≤ L.length
 | 0,_,_=>Nat.zero_le _
 | n + 1,L,h=>by
   have hm:=h n (Nat.lt_succ_self n)
   have:=cover n (L.erase n) (fun i hi=>(List.mem_erase_of_ne (by omega)).mpr (h i (by omega)))
   rw [List.length_erase_of_mem hm] at this
   have:0 < L.length:=List.length_pos_of_mem hm
   omega
theorem aj9 (ns:List (List Nat)) (h:ns.length ≤ 8):∃ i,i < 9∧[97 + i] ∉ ns:=by
 apply Classical.byContradiction
 intro hn
 have:9 ≤ (ns.map fun l=>l.headD 0 - 97).length:=cover 9 _ fun i hi=>by
   have hm:[97 + i] ∈ ns:=Classical.byContradiction fun z=>hn ⟨i,hi,z⟩
   exact List.mem_map.mpr ⟨_,hm,by simp⟩
 rw [List.length_map] at this
 omega
def pk (ns:List (List Nat)) (i:Nat):Option D:=if (!decide ([97 + i] ∈ ns)) = true then some (.str (ofL [97 + i])) else none
theorem ajy {le:DSt→Out D} (hle:le = gv 0) (ns:List (List Nat)) (hl:ns.length ≤ 8) (n:Int):∃ c:Nat,97 ≤ c∧c < 123∧[c] ∉ ns∧o2 ixD (Eu (nR [none,some 0] (strO (kc (.str "abcdefghi"))) (gN 0) (o2b Dq (gb 0) (gb 1)) le)) (kc (.int 0)) [some (.sh (.lst (aL ns))),some (.sh (.int n))] = .ok (.str (ofL [c])):=by
 subst hle
 have cm:=comp_fm (cap:=[none,some 0]) (fi:=strO (kc (.str "abcdefghi"))) (t:=o2b Dq (gb 0) (gb 1)) (fe:=gv 0) (δ:=[some (.sh (.lst (aL ns))),some (.sh (.int n))]) (fun i:Nat=>D.str (ofL [97 + i])) (pk ns) (List.range 9) (by show Out.ok (UW (Str.ofString "abcdefghi")) = _; rw [sign9]) (by decide) (fun i _=>by
   unfold pk
   refine ⟨?_,fun y hy=>?_⟩
   · show o2b Dq (gb 0) (gb 1) [some (.sh (.str (ofL [97 + i]))),some (.sh (.lst (aL ns)))] = _
     rw [qP rfl rfl (not_in [97 + i] ns)]
     cases (!decide ([97 + i] ∈ ns)) <;> rfl
   · split at hy
     · cases hy; rfl
     · cases hy)
 have ne:(List.range 9).filterMap (pk ns) ≠ []:=fun z=>by
   obtain ⟨i,hi,hn⟩:=aj9 ns hl
   have:D.str (ofL [97 + i]) ∈ (List.range 9).filterMap (pk ns):=List.mem_filterMap.mpr ⟨i,List.mem_range.mpr hi,by unfold pk; rw [decide_eq_false hn]; rfl⟩
   rw [z] at this
   cases this
 cases hf:(List.range 9).filterMap (pk ns) with
 | nil=>exact absurd hf ne
 | cons d r =>
   have hd:d ∈ (List.range 9).filterMap (pk ns):=by rw [hf]; exact List.mem_cons_self
   obtain ⟨i,hi,e⟩:=List.mem_filterMap.mp hd
   have hi:=List.mem_range.mp hi
   unfold pk at e
   split at e
   · rename_i z
     have hn:[97 + i] ∉ ns:=by simpa using z
     cases e
     rw [hf] at cm
     exact ⟨97 + i,by omega,by omega,hn,uq (n:=0) (ajo cm) rfl rfl⟩
   · cases e
theorem slN_from {fa fb:DSt→Out D} {δ:DSt} {ns:List (List Nat)} {a:Nat} (h1:fa δ = .ok (.lst (aL ns))) (h2:fb δ = .ok (.int (a:Nat))):oSl fa (soI fb) noI δ = .ok (.lst (aL (ns.drop a))):=by
 unfold oSl noI soI
 rw [h1,h2]
 show Out.opt (some (D.lst (OJ (ns.map fun l=>D.str (ofL l)) (some (a:Int)) none))) = _
 rw [cut_drop]
 rfl
theorem slN_to {fa fb:DSt→Out D} {δ:DSt} {ns:List (List Nat)} {a:Nat} (h1:fa δ = .ok (.lst (aL ns))) (h2:fb δ = .ok (.int (a:Nat))):oSl fa noI (soI fb) δ = .ok (.lst (aL (ns.take a))):=by
 unfold oSl noI soI
 rw [h1,h2]
 show Out.opt (some (D.lst (OJ (ns.map fun l=>D.str (ofL l)) none (some (a:Int))))) = _
 rw [cut_take]
 rfl
theorem slN_m1 {fa fb:DSt→Out D} {δ:DSt} {ns:List (List Nat)} (hn:1 ≤ ns.length) (h1:fa δ = .ok (.lst (aL ns))) (h2:fb δ = .ok (.int (-1))):oSl fa noI (soI fb) δ = .ok (.lst (aL (ns.take (ns.length - 1)))):=by
 unfold oSl noI soI
 rw [h1,h2]
 show Out.opt (some (D.lst (OJ (ns.map fun l=>D.str (ofL l)) none (some (-1))))) = _
 unfold OJ
 rw [HT.Ur,List.length_map]
 have:HT.sIx ns.length ns.length (some (-1)) = ns.length - 1:=by
   show (if (-1:Int) < 0 then ((-1:Int) + (ns.length:Int)).toNat else min (-1:Int).toNat ns.length) = _
   rw [if_pos (by decide)]
   omega
 rw [this,Nat.sub_zero,List.drop_zero,← List.map_take]
 rfl
theorem Zb {ns:List (List Nat)} {c:Nat} (h:ns.length ≤ 7) (ok:∀ l ∈ ns,NameL l) (nd:ns.Nodup) (hc:97 ≤ c∧c < 123) (hn:[c] ∉ ns):Names (ns ++ [[c]]):=by
 refine ⟨fun l hl=>?_,by rw [List.length_append]; simp,by rw [List.length_append]; simp; omega,?_⟩
 · rcases List.mem_append.mp hl with z | z
   · exact ok l z
   · rw [List.mem_singleton.mp z]
     exact ⟨by simp,by simp,fun x hx=>by rw [List.mem_singleton.mp hx]; exact hc⟩
 · exact List.nodup_append.mpr ⟨nd,by simp,fun a ha b hb z=>by rw [z,List.mem_singleton.mp hb] at ha; exact hn ha⟩
theorem F_unlike (ns:List (List Nat)) (N:Names ns) (n:Int):∃ ns',jX [.lst (aL ns),.int n] = .ok (.lst (aL ns'))∧Names ns'∧ns' ≠ ns:=by
 have h1:=N.lo
 have h8:=N.hi
 have ln:o1 fK (gb 0) [some (.sh (.lst (aL ns))),some (.sh (.int n))] = .ok (.int (ns.length:Nat)):=by rw [len_l (ds:=aL ns) rfl]; simp [aL]
 have em:∀ k:Int,o2b eqD (o2 cC (gv 1) (kc (.int 3))) (kc (.int k)) [some (.sh (.lst (aL ns))),some (.sh (.int n))] = .ok (n % 3 == k):=fun k=>Jz (d9 rfl rfl (by decide)) rfl
 have t1:uK (o2b eqD (o2 cC (gv 1) (kc (.int 3))) (kc (.int 0))) (o2b gtD (o1 fK (gb 0)) (kc (.int 1))) [some (.sh (.lst (aL ns))),some (.sh (.int n))] = .ok ((n % 3 == 0) && decide ((ns.length:Int) > 1)):=DR (em 0) fun _=>gt_ok ln rfl
 have t2:uK (o2b eqD (o2 cC (gv 1) (kc (.int 3))) (kc (.int 1))) (o2b ltD (o1 fK (gb 0)) (kc (.int 8))) [some (.sh (.lst (aL ns))),some (.sh (.int n))] = .ok ((n % 3 == 1) && decide ((ns.length:Int) < 8)):=DR (em 1) fun _=>lt_ok ln rfl
 have nl:∀ l:List (List Nat),(aL l).length = l.length:=fun l=>by simp [aL]
 show ∃ ns',((wu [some (.sh (.lst (aL ns))),some (.sh (.int n))]).bind gO).bD = .ok (.lst (aL ns'))∧_
 unfold wu
 cases b1:((n % 3 == 0) && decide ((ns.length:Int) > 1)) with
 | true =>
   rw [b1] at t1
   have hl:1 < ns.length:=by
     have:=of_decide_eq_true (Bool.and_eq_true_iff.mp b1).2
     omega
   refine ⟨ns.drop 1 ++ ns.take 1,Up t1 (rT ?_),?_,?_⟩
   · rw [ahp (slN_from (a:=1) rfl rfl) (slN_to (a:=1) rfl rfl) (by rw [nl,nl,List.length_drop,List.length_take]; omega)]
     simp [aL]
   · have pm:(ns.drop 1 ++ ns.take 1).Perm ns:=(List.perm_append_comm).trans (by rw [List.take_append_drop])
     exact ⟨fun l hl=>N.ok l (pm.mem_iff.mp hl),by rw [pm.length_eq]; exact h1,by rw [pm.length_eq]; exact h8,pm.nodup_iff.mpr N.nd⟩
   · intro z
     match ns,hl,N.nd,z with
     | x :: y :: r,_,nd,z =>
       have:(y :: r) ++ [x] = x :: y :: r:=z
       have e:=(List.cons.inj this).1
       rw [e] at nd
       simp at nd
 | false =>
   rw [b1] at t1
   cases b2:((n % 3 == 1) && decide ((ns.length:Int) < 8)) with
   | true =>
     rw [b2] at t2
     have hl:ns.length < 8:=by
       have:=of_decide_eq_true (Bool.and_eq_true_iff.mp b2).2
       omega
     obtain ⟨c,hc1,hc2,hc3,e⟩:=ajy (le:=Af) rfl ns h8 n
     refine ⟨ns ++ [[c]],J9 t1 (Up t2 (rT ?_)),Zb (by omega) N.ok N.nd ⟨hc1,hc2⟩ hc3,fun z=>?_⟩
     · rw [ahp (a:=aL ns) rfl (lst1 e) (by rw [nl]; simp only [List.length_cons,List.length_nil]; omega)]
       simp [aL]
     · have:=congrArg List.length z
       simp at this
   | false =>
     rw [b2] at t2
     obtain ⟨c,hc1,hc2,hc3,e⟩:=ajy (le:=Ag) rfl ns h8 n
     have sub:∀ l ∈ ns.take (ns.length - 1),l ∈ ns:=fun l hl=>List.mem_of_mem_take hl
     refine ⟨ns.take (ns.length - 1) ++ [[c]],J9 t1 (J9 t2 (zT ?_)),Zb (by rw [List.length_take]; omega) (fun l hl=>N.ok l (sub l hl)) (N.nd.sublist (List.take_sublist _ _)) ⟨hc1,hc2⟩ (fun z=>hc3 (sub _ z)),fun z=>?_⟩
     · rw [ahp (slN_m1 h1 rfl rfl) (lst1 e) (by rw [nl,List.length_take]; simp only [List.length_cons,List.length_nil]; omega)]
       simp [aL]
     · exact hc3 (by rw [← z]; simp)
end K5
namespace K5
open PySem L2 MX DL
def stL (ns:List Int) (one other:List (List Dr)) (nm:List (List Nat)) (x6 x7 x8 x9 x10 x11:Option Sl):DSt:=[some (.sh (.rol (ns.map .int))),some (.sh (aV one)),some (.sh (aV other)),some (.sh (.lst (aL nm))),some (.sh (plan bz nm one)),some (.sh (plan bz nm other)),x6,x7,x8,x9,x10,x11]
section
variable {ns:List Int} {m1 m2:Nat} {one other:List (List Dr)} {nm:List (List Nat)}
theorem cell_step (P1:Pl bz m1 false nm one) (P2:Pl bz m2 false nm other) {i j:Nat} (hi:i < m1) (hj:j < m2) (x8 x9 x10 x11:Option Sl):Qs (stL ns one other nm (some (.sh (.int i))) (some (.sh (.int j))) x8 x9 x10 x11) = .ok (.nx (stL ns one other nm (some (.sh (.int i))) (some (.sh (.int j))) x8 x9 x10 x11)):=by
 have l1:i < one.length:=by rw [P1.R.n]; exact hi
 have l2:j < other.length:=by rw [P2.R.n]; exact hj
 obtain ⟨xs,ei⟩:∃ xs,one[i]? = some xs:=⟨_,List.getElem?_eq_getElem l1⟩
 obtain ⟨ys,ej⟩:∃ ys,other[j]? = some ys:=⟨_,List.getElem?_eq_getElem l2⟩
 have e1:=ad3 P1 P2 ei ej
 have e2:=F_fault P1.R P2.R P1.lo P1.N.hi ei ej
 have e3:=F_right (List.zip xs ys) 0
 have t:qw (tst (oF 2 gK (ak (oF 4 gM (ak (gv 4) (ak (gv 6) (ak (gv 5) (ak (gv 7) aG))))) (ak (oF 3 jo (ak (gv 1) (ak (gv 2) (ak (cZ (ak (gv 6) (ak (gv 7) aG))) aG)))) aG)))) (stL ns one other nm (some (.sh (.int i))) (some (.sh (.int j))) x8 x9 x10 x11) = .ok false :=
   aca (x:=true) (adU (cV (ds:=[flt (List.zip xs ys) 0,flt (List.zip xs ys) 0]) (aA (cV (ds:=[plan bz nm one,.int i,plan bz nm other,.int j]) (aA rfl (aA rfl (aA rfl (aA rfl rfl)))) rfl e1) (aA (cV (ds:=[aV one,aV other,.tup [.int i,.int j]]) (aA rfl (aA rfl (aA (Am rfl rfl) rfl))) rfl e2) rfl)) rfl e3))
 unfold Qs
 rw [ik t]
 rfl
theorem akr (P1:Pl bz m1 false nm one) (P2:Pl bz m2 false nm other) (hm:m2 ≤ 60) {i:Nat} (hi:i < m1) (x7 x8 x9 x10 x11:Option Sl):∃ y7,Qq (stL ns one other nm (some (.sh (.int i))) x7 x8 x9 x10 x11) = .ok (.nx (stL ns one other nm (some (.sh (.int i))) y7 x8 x9 x10 x11)):=by
 have hh:=fC (body:=Qs) (tg:=gN 7) (fun k:Nat=>D.int k) (fun done δ=>∃ y7,δ = stL ns one other nm (some (.sh (.int i))) y7 x8 x9 x10 x11) (List.range m2) (stL ns one other nm (some (.sh (.int i))) x7 x8 x9 x10 x11) (by
   rintro j done rest δ e ⟨y7,rfl⟩
   have hj:j < m2:=List.mem_range.mp (by rw [e]; simp)
   refine ⟨stL ns one other nm (some (.sh (.int i))) (some (.sh (.int j))) x8 x9 x10 x11,rfl,?_⟩
   rw [cell_step P1 P2 hi hj]
   exact ⟨_,rfl⟩) ⟨x7,rfl⟩
 obtain ⟨δ',e,y7,rfl⟩:=hh
 refine ⟨y7,?_⟩
 have rg:=jn (n:=m2) (xn P2.R (f:=gb 2) (δ:=stL ns one other nm (some (.sh (.int i))) x7 x8 x9 x10 x11) rfl) (by omega)
 unfold Qq ig
 rw [rg]
 exact e
end
theorem agK (ns:List Int) (hl:ns.length ≤ 63):F_law [.rol (ns.map .int)] = .ok (.bl true):=by
 obtain ⟨one,other,m1,m2,acts,ep,R1,R2,h1,h16,g1,g8,ha1,ha8⟩:=F_pair ns
 obtain ⟨c2,ec2⟩:=QC ns 2 (by decide)
 obtain ⟨nm,en,N,hn⟩:=F_names c2 acts ha1 ha8
 subst hn
 have P1:Pl bz m1 false nm one:=⟨.inr rfl,N,R1,h1,by omega⟩
 have P2:Pl bz m2 false nm other:=⟨.inr rfl,N,R2,g1,by omega⟩
 have i1:=agJ false m1 nm one N R1 h1 (by omega)
 have i2:=agJ false m2 nm other N R2 g1 (by omega)
 have mx:=mq c2 15 (by decide) (by decide)
 obtain ⟨nu,eu,Nu,hu⟩:=F_unlike nm N (nP c2 15)
 have Rf:Rows 1 nu.length false [nu.map fun _=>Dr.may 0]:=⟨rfl,fun r hr=>by
   rw [List.mem_singleton.mp hr]
   refine ⟨by simp,fun x hx=>?_⟩
   obtain ⟨_,_,rfl⟩:=List.mem_map.mp hx
   show 0 < 1
   decide⟩
 have i3:=agJ false 1 nu [nu.map fun _=>Dr.may 0] Nu Rf (by decide) (by decide)
 show ((g_law [some (.sh (.rol (ns.map .int))),none,none,none,none,none,none,none,none,none,none,none]).bind gO).bD = _
 unfold g_law
 refine aU (δ':=[some (.sh (.rol (ns.map .int))),some (.sh (aV one)),some (.sh (aV other)),none,none,none,none,none,none,none,none,none]) (asg2 (cV (aA rfl rfl) rfl ep)) ?_
 refine aU (δ':=[some (.sh (.rol (ns.map .int))),some (.sh (aV one)),some (.sh (aV other)),some (.sh (.lst (aL nm))),none,none,none,none,none,none,none,none]) (cI (cV (ds:=[.int c2,.int nm.length]) (aA (cV (aA rfl (aA rfl rfl)) rfl ec2) (aA (Ek R1 h1 rfl) rfl)) rfl en) rfl) ?_
 refine aU (δ':=[some (.sh (.rol (ns.map .int))),some (.sh (aV one)),some (.sh (aV other)),some (.sh (.lst (aL nm))),some (.sh (plan bz nm one)),none,none,none,none,none,none,none]) (cI (mk_ok (ds:=[.lst (aL nm),aV one]) (aA rfl (aA rfl rfl)) rfl i1) rfl) ?_
 refine aU (δ':=stL ns one other nm none none none none none none) (cI (mk_ok (ds:=[.lst (aL nm),aV other]) (aA rfl (aA rfl rfl)) rfl i2) rfl) ?_
 have hh:=fC (body:=Qq) (tg:=gN 6) (fun k:Nat=>D.int k) (fun done δ=>∃ y6 y7,δ = stL ns one other nm y6 y7 none none none none) (List.range m1) (stL ns one other nm none none none none none none) (by
   rintro i done rest δ e ⟨y6,y7,rfl⟩
   have hi:i < m1:=List.mem_range.mp (by rw [e]; simp)
   obtain ⟨z7,q⟩:=akr (ns:=ns) P1 P2 (by omega) hi y7 none none none none
   refine ⟨stL ns one other nm (some (.sh (.int i))) y7 none none none none,rfl,?_⟩
   rw [q]
   exact ⟨_,_,rfl⟩) ⟨none,none,rfl⟩
 obtain ⟨δ',e,y6,y7,rfl⟩:=hh
 have rg:=jn (n:=m1) (xn R1 (f:=gb 1) (δ:=stL ns one other nm none none none none none none) rfl) (by omega)
 refine aU (δ':=stL ns one other nm y6 y7 none none none none) (by unfold ig; rw [rg]; exact e) ?_
 refine aU (δ':=stL ns one other nm y6 y7 (some (.sh (.int (nP c2 15)))) none none none) (cI (cV (ds:=[.int c2,.int 15]) (aA (cV (aA rfl (aA rfl rfl)) rfl ec2) (aA rfl rfl)) rfl mx) rfl) ?_
 refine aU (δ':=stL ns one other nm y6 y7 (some (.sh (.int (nP c2 15)))) (some (.sh (.lst (aL nu)))) none none) (cI (cV (aA rfl (aA rfl rfl)) rfl eu) rfl) ?_
 have cp:=DY (cap:=[none]) (fi:=uI (gv 9)) (fe:=Qt) (δ:=stL ns one other nm y6 y7 (some (.sh (.int (nP c2 15)))) (some (.sh (.lst (aL nu)))) none none) (fun l:List Nat=>D.str (ofL l)) (fun _=>(Dr.may 0).d) nu rfl (by have:=Nu.hi; omega) (fun l _=>by
   unfold Qt
   exact Am rfl rfl)
 have lf:jl (ak (Eu (nR [none] (uI (gv 9)) (gN 0) (fun _=>.ok true) Qt)) aG) (stL ns one other nm y6 y7 (some (.sh (.int (nP c2 15)))) (some (.sh (.lst (aL nu)))) none none) = .ok (aV [nu.map fun _=>Dr.may 0]):=by
   rw [lst1 (ajo cp)]
   show Out.ok (D.lst [D.lst (nu.map fun _=>(Dr.may 0).d)]) = Out.ok (D.lst [D.lst ((nu.map fun _=>Dr.may 0).map Dr.d)])
   rw [List.map_map]
   rfl
 refine aU (δ':=stL ns one other nm y6 y7 (some (.sh (.int (nP c2 15)))) (some (.sh (.lst (aL nu)))) (some (.sh (plan bz nu [nu.map fun _=>Dr.may 0]))) none) (cI (mk_ok (ds:=[.lst (aL nu),aV [nu.map fun _=>Dr.may 0]]) (aA rfl (aA lf rfl)) rfl i3) rfl) ?_
 have h4:=fC (body:=abW) (tg:=gN 11) (fun k:Nat=>D.int k) (fun done δ=>∃ y11,δ = stL ns one other nm y6 y7 (some (.sh (.int (nP c2 15)))) (some (.sh (.lst (aL nu)))) (some (.sh (plan bz nu [nu.map fun _=>Dr.may 0]))) y11) (List.range 6) (stL ns one other nm y6 y7 (some (.sh (.int (nP c2 15)))) (some (.sh (.lst (aL nu)))) (some (.sh (plan bz nu [nu.map fun _=>Dr.may 0]))) none) (by
   rintro k done rest δ e ⟨y11,rfl⟩
   have hk:k < 6:=List.mem_range.mp (by rw [e]; simp)
   have a1:=aez hk (ad5 (r1:=one) (r2:=[nu.map fun _=>Dr.may 0]) N Nu (fun z=>hu z.symm))
   have a2:=aez hk (ad5 (r1:=[nu.map fun _=>Dr.may 0]) (r2:=one) Nu N hu)
   refine ⟨stL ns one other nm y6 y7 (some (.sh (.int (nP c2 15)))) (some (.sh (.lst (aL nu)))) (some (.sh (plan bz nu [nu.map fun _=>Dr.may 0]))) (some (.sh (.int k))),rfl,?_⟩
   have t:orT (qw (tst (oF 3 eY (ak (gv 4) (ak (gv 10) (ak (gv 11) aG)))))) (qw (tst (oF 3 eY (ak (gv 10) (ak (gv 4) (ak (gv 11) aG)))))) (stL ns one other nm y6 y7 (some (.sh (.int (nP c2 15)))) (some (.sh (.lst (aL nu)))) (some (.sh (plan bz nu [nu.map fun _=>Dr.may 0]))) (some (.sh (.int k)))) = .ok false :=
     orT_ok (x:=false) (y:=false) (aca (x:=true) (adU (cV (aA rfl (aA rfl (aA rfl rfl))) rfl a1))) fun _=>aca (x:=true) (adU (cV (aA rfl (aA rfl (aA rfl rfl))) rfl a2))
   unfold abW
   rw [ik t]
   exact ⟨_,rfl⟩) ⟨none,rfl⟩
 obtain ⟨δ',e4,y11,rfl⟩:=h4
 have rg6:=jn (f:=kc (.int 6)) (δ:=stL ns one other nm y6 y7 (some (.sh (.int (nP c2 15)))) (some (.sh (.lst (aL nu)))) (some (.sh (plan bz nu [nu.map fun _=>Dr.may 0]))) none) (n:=6) rfl (by decide)
 exact aU (δ':=stL ns one other nm y6 y7 (some (.sh (.int (nP c2 15)))) (some (.sh (.lst (aL nu)))) (some (.sh (plan bz nu [nu.map fun _=>Dr.may 0]))) y11) (by unfold ig; rw [rg6]; exact e4) rfl
end K5
namespace K5
open PySem L2 MX DL
def agD (K:PySem.W.Frag):Sp:=fun vs H Q _=>∃ (a:Addr) (ns:List Int),vs = [.ref a]∧SqL K H a (ns.map V.int)∧ns.length ≤ 63∧∀ H',Q (.bl true) H'
theorem agl {K:PySem.W.Frag} {Γ:Nat→Option Addr} {G:Hp}:∀ ns:List Int,aF K Γ G (ns.map V.int) (ns.map D.int)
 | []=>.nil
 | n :: r=>.cons (.int n) (agl r)
theorem law_sp {P:Program} {w:World} {K:PySem.W.Frag} {mg:Str→Option Value} {base:Heap} {t:Ad} {f:Addr} {fd:FuncData} (F:bx P w K mg base CX0 9 f fd ["_law_script"] (spD K (Ga t) 1 F_law)):bx P w K mg base CX0 9 f fd ["_law_script"] (agD K):=F.imp fun vs H Q E ⟨a,ns,e,hS,hl,k⟩=>by
 subst e
 refine ⟨rfl,H,[.rol (ns.map .int)],bL.refl H,.cons (.rol hS (agl ns)) .nil,?_⟩
 rw [agK ns hl]
 intro v G' H' st r
 cases r
 exact k H'
set_option maxHeartbeats 8000000 in
theorem all_mk {l:PySem.W.OpenLaw} {w:World} {K:PySem.W.Frag} {h:Heap} {mg:Str→Option Value} {fa:Addr} (X:K.In h) (G:h.Ns mainGlobals mg) (hfa:mg "law" = some (.ref fa))
   {lW:Addr} {cd_Door:ClassData}
   {dX:Addr} {cd_Must:ClassData}
   {jR:Addr} {cd_May:ClassData}
   {dY:Addr} {cd_Shut:ClassData}
   {dZ:Addr} {cd_Torn:ClassData}
   {dW:Addr} {cd_Draft:ClassData}
   {iJ:Addr} {cd_Plan:ClassData}
   {dD:Addr} {ahq:ClassData}
   {cW:Addr} {cH:Value} {dH:Option Addr} {cdH:ClassData} {sH:Array (Option Value)} {c0H:Value} {d0H:Option Addr} {esH:Array DictEntry} {n0H:Nat} {s0H:Array (Option Value)}
   {dg HX:Addr} {aku q_Unlike:Str} {ajR:List Value} {akM:List Str} {akH:List Value} {ajO:Bool} {wQ:Option Bool} {ajZ:Option Addr} {akk akl akm akn ako:Option Value} {ajV:Value} {ajX:Option Addr} {YT:Array DictEntry} {akv:Nat} {akL:Array (Option Value)}
   {gH:Addr}
   {uU:Addr}
   {uV:Addr}
   {mK:Addr}
   {mJ:Addr}
   {qd:Addr}
   {ue:Addr}
   {qe:Addr}
   {qg:Addr}
   {mO:Addr}
   {qb:Addr}
   {mQ:Addr}
   {mR:Addr}
   {j0:Addr}
   {mL:Addr}
   {j4:Addr}
   {j5:Addr}
   {yL:Addr}
   {Ed:Addr}
   {yM:Addr}
   {yN:Addr}
   {je:Addr}
   {cF:Addr}
   {ajd:Addr} {dt_WORDS:Option Addr} {nt_WORDS:Nat} {st_WORDS:Array (Option Value)} {akO:Tok} {akP:Tok}
   {ai6:Tok}
   {tk_MS:Tok}
   {tk_MA:Tok}
   {tk_MR:Tok}
   {rC:Addr}
   {uT:Addr}
   {Eh:Addr}
   {Ei:Addr}
   {jt:Addr}
   {mV:Addr}
   {Ej:Addr}
   {mU:Addr}
   {rK:Addr}
   {uY:Addr}
   {uZ:Addr}
   {kZ:Addr}
   {yO:Addr}
   {wW:Addr}
   {yQ:Addr}
   {Eg:Addr}
   {pO:Addr}
   {uf:Addr}
   {yR:Addr}
   {JB:Addr}
   {u0:Addr}
   {yP:Addr}
   {rJ:Addr}
   {gk:Addr}
   {cM:Addr}
   {Ef:Addr}
   {rF:Addr}
   {rH:Addr}
   {uX:Addr}
   {km:Addr}
   {kE:Addr}
   {pM:Addr}
   {uW:Addr}
   {rE:Addr}
   {rG:Addr}
   {rD:Addr}
   {pN:Addr}
   {f_law:Addr}
   {acf:Value} {aaP ZM:Option Addr} {adA:Array (Option Value)} {abH aay acT Jd aaj:Value}
   {ack:Value} {aaU ZV:Option Addr} {adF:Array (Option Value)} {abM aaD acY Ji aao:Value}
   {acn:Value} {aaW ZX:Option Addr} {adH:Array (Option Value)} {abO aaF ac0 Jk aaq:Value}
   {WY:Value} {Wj Vk:Option Addr} {X7:Array (Option Value)} {Wy V5 Xr Ff VG:Value}
   {Pq:Value} {O6 Oq:Option Addr} {Qa:Array (Option Value)} {Pg O2 PK zX Ow:Value}
   {W0:Value} {Wk Vl:Option Addr} {X8:Array (Option Value)} {Wz V6 Xu Fg VH:Value}
   {acj:Value} {aaT ZS:Option Addr} {adE:Array (Option Value)} {abL aaC acX Jh aan:Value}
   {aci:Value} {aaS ZR:Option Addr} {adD:Array (Option Value)} {abK aaB acW Jg aam:Value}
   {afS:Value} {ae8 aeq:Option Addr} {agu:Array (Option Value)} {afC aeZ agc Nr aeP:Value}
   {acl:Value} {aaV ZW:Option Addr} {adG:Array (Option Value)} {abN aaE acZ Jj aap:Value}
   {aco:Value} {aaX ZZ:Option Addr} {adI:Array (Option Value)} {abP aaG ac1 Jl aar:Value}
   {W3:Value} {Wm Vn:Option Addr} {Yc:Array (Option Value)} {WF V8 Xw Fj VL:Value}
   {ach:Value} {aaR ZQ:Option Addr} {adC:Array (Option Value)} {abJ aaA acV Jf aal:Value}
   {W4:Value} {Wn Vo:Option Addr} {Yd:Array (Option Value)} {WK V9 Xx Fo VM:Value}
   {W5:Value} {Wo Vp:Option Addr} {Ye:Array (Option Value)} {WL Wa Xy Fp VN:Value}
   {Tw:Value} {RV Q5:Option Addr} {Uz:Array (Option Value)} {S6 RG Uc BR Rp:Value}
   {W2:Value} {Wl Vm:Option Addr} {Yb:Array (Option Value)} {WD V7 Xv Fi VJ:Value}
   {Tz:Value} {RW Q6:Option Addr} {UG:Array (Option Value)} {S7 RJ Ud BV Rq:Value}
   {TJ:Value} {RX Q7:Option Addr} {UJ:Array (Option Value)} {S8 RK Ue BW Rr:Value}
   {afT:Value} {ae9 aer:Option Addr} {agv:Array (Option Value)} {afD ae0 agd Nt aeQ:Value}
   {ail:Value} {ahI aha:Option Addr} {aiX:Array (Option Value)} {ah8 ahB aiC Rw aht:Value}
   {afU:Value} {afa aes:Option Addr} {agw:Array (Option Value)} {afE ae1 age Nv aeR:Value}
   {afV:Value} {afb aet:Option Addr} {agx:Array (Option Value)} {afF ae2 agf Nx aeS:Value}
   {acg:Value} {aaQ ZP:Option Addr} {adB:Array (Option Value)} {abI aaz acU Je aak:Value}
   {aip:Value} {ahM ahe:Option Addr} {ai1:Array (Option Value)} {aic ahF aiG RB ahx:Value}
   {aiq:Value} {ahN ahf:Option Addr} {ai2:Array (Option Value)} {aid ahG aiH RC ahy:Value}
   {JX:Value} {Ju Iu:Option Addr} {Kg:Array (Option Value)} {JR Jt J8 uQ Jc:Value}
   {Px:Value} {O9 Ov:Option Addr} {Qe:Array (Option Value)} {Pk O5 PP Aa OD:Value}
   {air:Value} {ahO ahg:Option Addr} {ai3:Array (Option Value)} {aie ahH aiI RD ahz:Value}
   {Pu:Value} {O8 Ou:Option Addr} {Qd:Array (Option Value)} {Pj O4 PN zZ Oz:Value}
   {Xd:Value} {Wx Vx:Option Addr} {Yo:Array (Option Value)} {WX Wi XN FJ V4:Value}
   {acr:Value} {aa0 Z2:Option Addr} {adL:Array (Option Value)} {abS aaJ ac4 Jp aau:Value}
   {acs:Value} {aa1 Z3:Option Addr} {adM:Array (Option Value)} {abT aaK ac5 Jq aav:Value}
   {Ds:Value} {Cg Bh:Option Addr} {DK:Array (Option Value)} {Cy Cd Du p8 BP:Value}
   {acu:Value} {aa2 Z4:Option Addr} {adN:Array (Option Value)} {abU aaL ac6 Jr aaw:Value}
   {afX:Value} {afe aev:Option Addr} {agz:Array (Option Value)} {afH ae4 agh Nz aeU:Value}
   {aio:Value} {ahL ahd:Option Addr} {ai0:Array (Option Value)} {aib ahE aiF Rz ahw:Value}
   {afZ:Value} {afh aex:Option Addr} {agB:Array (Option Value)} {afJ ae6 agj NK aeW:Value}
   {ain:Value} {ahK ahc:Option Addr} {aiZ:Array (Option Value)} {aia ahD aiE Ry ahv:Value}
   {TX:Value} {R3 Ra:Option Addr} {UV:Array (Option Value)} {Td RN Ui Ca Rv:Value}
   {afW:Value} {afd aeu:Option Addr} {agy:Array (Option Value)} {afG ae3 agg Ny aeT:Value}
   {af0:Value} {afi aey:Option Addr} {agC:Array (Option Value)} {afK ae7 agk NP aeX:Value}
   {aky:Value} {aj1 ajP:Option Addr} {akK:Array (Option Value)} {akp ajY akD YK ajW:Value}
   {acv:Value} {aa3 Z5:Option Addr} {adO:Array (Option Value)} {abV aaM ac7 Js aax:Value}
   {afY:Value} {afg aew:Option Addr} {agA:Array (Option Value)} {afI ae5 agi NB aeV:Value}
   {Xc:Value} {Ww Vw:Option Addr} {Yn:Array (Option Value)} {WW Wh XM Fz V3:Value}
   {Pr:Value} {O7 Ot:Option Addr} {Qc:Array (Option Value)} {Ph O3 PL zY Ox:Value}
   {W8:Value} {Ws Vs:Option Addr} {Yi:Array (Option Value)} {WP Wd XD Fv VV:Value}
   {aim:Value} {ahJ ahb:Option Addr} {aiY:Array (Option Value)} {ah9 ahC aiD Rx ahu:Value}
   {W9:Value} {Wt Vt:Option Addr} {Yj:Array (Option Value)} {WQ We XF Fw V0:Value}
   {Xb:Value} {Wv Vv:Option Addr} {Ym:Array (Option Value)} {WT Wg XJ Fy V2:Value}
   {acq:Value} {aaZ Z1:Option Addr} {adK:Array (Option Value)} {abR aaI ac3 Jo aat:Value}
   {Mi:Value} {Lg KY:Option Addr} {Mt:Array (Option Value)} {Lq Le Mp wR Lb:Value}
   {Mj:Value} {Lh KZ:Option Addr} {Mu:Array (Option Value)} {Lr Lf Mq wU Ld:Value}
   {TQ:Value} {RZ Q8:Option Addr} {UL:Array (Option Value)} {S9 RL Ug BX Rt:Value}
   {acp:Value} {aaY Z0:Option Addr} {adJ:Array (Option Value)} {abQ aaH ac2 Jm aas:Value}
   {W7:Value} {Wr Vr:Option Addr} {Yh:Array (Option Value)} {WN Wc XC Ft VR:Value}
   {Xa:Value} {Wu Vu:Option Addr} {Yk:Array (Option Value)} {WR Wf XH Fx V1:Value}
   {W6:Value} {Wq Vq:Option Addr} {Yg:Array (Option Value)} {WM Wb Xz Fq VP:Value}
   {TV:Value} {R0 Q9:Option Addr} {UT:Array (Option Value)} {Tc RM Uh BZ Ru:Value}
   {of_law:Value} {df_law an_law:Option Addr} {sf_law:Array (Option Value)} {kV_law dc_law pm_law ahA ct_law:Value}
   (ag5:PySem.W.nsIn K mainGlobals "Door" = some (some (.ref lW)))
   (acO:PySem.W.plainGet K lW Str.empty = true)
   (abm:PySem.W.hasDictIn K lW = true)
   (ac8:PySem.W.plainOver K lW = true)
   (adh:PySem.W.findIn K (.ref lW) "__setattr__" = some (some (.builtin "object.__setattr__")))
   (abh:PySem.W.findIn K (.ref lW) "__class__" = some (some (.builtin "object.__class__")))
   (abr:PySem.W.mroIn K lW (.type "object") = some true)
   (adV:PySem.W.typeIn K (.ref lW) = some (.type "type"))
   (Rj:PySem.W.clsIn K lW = some cd_Door)
   (ag6:PySem.W.nsIn K mainGlobals "Must" = some (some (.ref dX)))
   (acP:PySem.W.plainGet K dX Str.empty = true)
   (abn:PySem.W.hasDictIn K dX = true)
   (ac9:PySem.W.plainOver K dX = true)
   (adi:PySem.W.findIn K (.ref dX) "__setattr__" = some (some (.builtin "object.__setattr__")))
   (abi:PySem.W.findIn K (.ref dX) "__class__" = some (some (.builtin "object.__class__")))
   (abt:PySem.W.mroIn K dX (.type "object") = some true)
   (adW:PySem.W.typeIn K (.ref dX) = some (.type "type"))
   (Rk:PySem.W.clsIn K dX = some cd_Must)
   (a_May:PySem.W.nsIn K mainGlobals "May" = some (some (.ref jR)))
   (aiB:PySem.W.plainGet K jR Str.empty = true)
   (ah2:PySem.W.hasDictIn K jR = true)
   (aiJ:PySem.W.plainOver K jR = true)
   (aiQ:PySem.W.findIn K (.ref jR) "__setattr__" = some (some (.builtin "object.__setattr__")))
   (ah1:PySem.W.findIn K (.ref jR) "__class__" = some (some (.builtin "object.__class__")))
   (ah3:PySem.W.mroIn K jR (.type "object") = some true)
   (aja:PySem.W.typeIn K (.ref jR) = some (.type "type"))
   (aai:PySem.W.clsIn K jR = some cd_May)
   (ag8:PySem.W.nsIn K mainGlobals "Shut" = some (some (.ref dY)))
   (acR:PySem.W.plainGet K dY Str.empty = true)
   (abp:PySem.W.hasDictIn K dY = true)
   (adb:PySem.W.plainOver K dY = true)
   (adl:PySem.W.findIn K (.ref dY) "__setattr__" = some (some (.builtin "object.__setattr__")))
   (abk:PySem.W.findIn K (.ref dY) "__class__" = some (some (.builtin "object.__class__")))
   (abv:PySem.W.mroIn K dY (.type "object") = some true)
   (adY:PySem.W.typeIn K (.ref dY) = some (.type "type"))
   (Rn:PySem.W.clsIn K dY = some cd_Shut)
   (ag9:PySem.W.nsIn K mainGlobals "Torn" = some (some (.ref dZ)))
   (acS:PySem.W.plainGet K dZ Str.empty = true)
   (abq:PySem.W.hasDictIn K dZ = true)
   (adc:PySem.W.plainOver K dZ = true)
   (adm:PySem.W.findIn K (.ref dZ) "__setattr__" = some (some (.builtin "object.__setattr__")))
   (abl:PySem.W.findIn K (.ref dZ) "__class__" = some (some (.builtin "object.__class__")))
   (abw:PySem.W.mroIn K dZ (.type "object") = some true)
   (adZ:PySem.W.typeIn K (.ref dZ) = some (.type "type"))
   (Ro:PySem.W.clsIn K dZ = some cd_Torn)
   (ZL:PySem.W.nsIn K mainGlobals "Draft" = some (some (.ref dW)))
   (Ua:PySem.W.plainGet K dW Str.empty = true)
   (Sw:PySem.W.hasDictIn K dW = true)
   (Uj:PySem.W.plainOver K dW = true)
   (Ut:PySem.W.findIn K (.ref dW) "__setattr__" = some (some (.builtin "object.__setattr__")))
   (Sv:PySem.W.findIn K (.ref dW) "__class__" = some (some (.builtin "object.__class__")))
   (Sx:PySem.W.mroIn K dW (.type "object") = some true)
   (U8:PySem.W.typeIn K (.ref dW) = some (.type "type"))
   (K9:PySem.W.clsIn K dW = some cd_Draft)
   (ag7:PySem.W.nsIn K mainGlobals "Plan" = some (some (.ref iJ)))
   (acQ:PySem.W.plainGet K iJ Str.empty = true)
   (abo:PySem.W.hasDictIn K iJ = true)
   (ada:PySem.W.plainOver K iJ = true)
   (adk:PySem.W.findIn K (.ref iJ) "__setattr__" = some (some (.builtin "object.__setattr__")))
   (abj:PySem.W.findIn K (.ref iJ) "__class__" = some (some (.builtin "object.__class__")))
   (abu:PySem.W.mroIn K iJ (.type "object") = some true)
   (adX:PySem.W.typeIn K (.ref iJ) = some (.type "type"))
   (Rm:PySem.W.clsIn K iJ = some cd_Plan)
   (KR:PySem.W.nsIn K mainGlobals "Against" = some (some (.ref dD)))
   (Hx:PySem.W.plainGet K dD Str.empty = true)
   (GX:PySem.W.hasDictIn K dD = true)
   (Hz:PySem.W.plainOver K dD = true)
   (HD:PySem.W.findIn K (.ref dD) "__setattr__" = some (some (.builtin "object.__setattr__")))
   (GR:PySem.W.findIn K (.ref dD) "__class__" = some (some (.builtin "object.__class__")))
   (GZ:PySem.W.mroIn K dD (.type "object") = some true)
   (HQ:PySem.W.typeIn K (.ref dD) = some (.type "type"))
   (Bs:PySem.W.clsIn K dD = some ahq)
   (hn:PySem.W.specialIn K (.builtin "object.__class__") "__get__" = some (some (.builtin "getset_descriptor.__get__")))
   (htk:PySem.W.takesIn K (.builtin "object.__class__") = some true)
   (dJ:PySem.W.findIn K (.ref dW) "actions" = some none)
   (dR:PySem.W.findIn K (.ref dW) "rooms" = some none)
   (sU:PySem.W.findIn K (.ref jR) "to" = some none)
   (oX:PySem.W.findIn K (.ref dX) "to" = some none)
   (eQ:PySem.W.findIn K (.ref iJ) "actions" = some none)
   (fV:PySem.W.findIn K (.ref iJ) "rooms" = some none)
   (oY:PySem.W.findIn K (.ref dY) "to" = some none)
   (oZ:PySem.W.findIn K (.ref dZ) "to" = some none)
   (z_all:PySem.W.nsIn K mainGlobals "all" = some none)
   (ajb:PySem.W.nsIn K mainGlobals "bool" = some none)
   (DP:PySem.W.nsIn K mainGlobals "enumerate" = some none)
   (z_int:PySem.W.nsIn K mainGlobals "int" = some none)
   (zU:PySem.W.nsIn K mainGlobals "isinstance" = some none)
   (z_len:PySem.W.nsIn K mainGlobals "len" = some none)
   (ajc:PySem.W.nsIn K mainGlobals "list" = some none)
   (ad0:PySem.W.nsIn K mainGlobals "range" = some none)
   (z_set:PySem.W.nsIn K mainGlobals "set" = some none)
   (z_str:PySem.W.nsIn K mainGlobals "str" = some none)
   (ad1:PySem.W.nsIn K mainGlobals "tuple" = some none)
   (Bg:PySem.W.nsIn K mainGlobals "HallError" = some (some (.ref cW)))
   (oH:K.lookup cW = some ⟨cH,dH,.cls cdH,sH⟩)
   (nH:K.lookup cdH.ns = some ⟨c0H,d0H,.dict esH n0H,s0H⟩)
   (eH:(esH.toList.all fun e=>match e.key with | .str _ _=>true | _=>false) = true)
   (iH:PySem.W.nsIn K cdH.ns "__init__" = some none)
   (tyH:PySem.W.typeIn K (.ref cW) = some (.type "type"))
   (h1H:PySem.W.specialIn K (.ref cW) "__getattribute__" = some (some (.builtin "type.__getattribute__")))
   (h2H:PySem.W.readsIn K cW (.type "type") = true)
   (h3H:PySem.W.findCls K (.ref cW) (.type "type") "__init__" = some (.val (.builtin "ValueError.__init__")))
   (suH:PySem.W.mroIn K cW (.type "BaseException") = some true)
   (Q4:PySem.W.nsIn K mainGlobals "Unlike" = some (some (.ref dg)))
   (Tv:K.lookup dg = some (excClassObj aku q_Unlike dg HX ajR (.ref cW :: MX.bmV) true akM akH ajO wQ ajZ akk akl akm akn ako "ValueError.__new__"))
   (Tn:K.lookup HX = some ⟨ajV,ajX,.dict YT akv,akL⟩)
   (R6:(YT.toList.all fun e=>match e.key with | .str _ _=>true | _=>false) = true)
   (Ln:PySem.W.findIn K (.ref dg) "__getattribute__" = some (some (.builtin "BaseException.__getattribute__")))
   (Lp:PySem.W.findIn K (.ref dg) "__getattr__" = some none)
   (Ms:PySem.W.findIn K (.ref dg) "__setattr__" = some (some (.builtin "object.__setattr__")))
   (wQ:PySem.W.findIn K (.ref dg) "__class__" = some (some (.builtin "object.__class__")))
   (Mv:PySem.W.mroIn K dg (.type "BaseException") = some true)
   (Mw:PySem.W.mroIn K dg (.type "object") = some true)
   (Mg:PySem.W.mroIn K dg (.ref cW) = some true)
   (Lx:PySem.W.keepIn K (.ref dg) = true)
   (My:PySem.W.typeIn K (.ref dg) = some (.type "type"))
   (xu:PySem.W.nsIn K HX "__init__" = some none)
   (ab3:PySem.W.makesIn K dX = true)
   (abx:PySem.W.findIn K (.ref dX) "__init__" = some (some (.ref gH)))
   (abD:PySem.W.keepIn K (.ref dX) = true)
   (aij:PySem.W.makesIn K jR = true)
   (ah4:PySem.W.findIn K (.ref jR) "__init__" = some (some (.ref gH)))
   (ah7:PySem.W.keepIn K (.ref jR) = true)
   (ab5:PySem.W.makesIn K dY = true)
   (abz:PySem.W.findIn K (.ref dY) "__init__" = some (some (.ref uU)))
   (abF:PySem.W.keepIn K (.ref dY) = true)
   (ab6:PySem.W.makesIn K dZ = true)
   (abA:PySem.W.findIn K (.ref dZ) "__init__" = some (some (.ref uV)))
   (abG:PySem.W.keepIn K (.ref dZ) = true)
   (Tj:PySem.W.makesIn K dW = true)
   (SJ:PySem.W.findIn K (.ref dW) "__init__" = some (some (.ref mK)))
   (SX:PySem.W.keepIn K (.ref dW) = true)
   (ab4:PySem.W.makesIn K iJ = true)
   (aby:PySem.W.findIn K (.ref iJ) "__init__" = some (some (.ref mK)))
   (abE:PySem.W.keepIn K (.ref iJ) = true)
   (Hv:PySem.W.makesIn K dD = true)
   (Hc:PySem.W.findIn K (.ref dD) "__init__" = some (some (.ref mJ)))
   (Hf:PySem.W.keepIn K (.ref dD) = true)
   (rM:PySem.W.isFn K (.ref gH) = true)
   (yW:PySem.W.isFn K (.ref uU) = true)
   (yZ:PySem.W.isFn K (.ref uV) = true)
   (pP:PySem.W.isFn K (.ref mK) = true)
   (qI:PySem.W.isFn K (.ref mJ) = true)
   (xU:PySem.W.findIn K (.ref dX) "word" = some (some (.ref qd)))
   (Bk:PySem.W.findIn K (.ref jR) "word" = some (some (.ref ue)))
   (xW:PySem.W.findIn K (.ref dY) "word" = some (some (.ref qe)))
   (xX:PySem.W.findIn K (.ref dZ) "word" = some (some (.ref qg)))
   (yU:PySem.W.isFn K (.ref qd) = true)
   (Cp:PySem.W.isFn K (.ref ue) = true)
   (yX:PySem.W.isFn K (.ref qe) = true)
   (za:PySem.W.isFn K (.ref qg) = true)
   (vH:PySem.W.findIn K (.ref dX) "needs" = some (some (.ref mO)))
   (xT:PySem.W.findIn K (.ref jR) "needs" = some (some (.ref qb)))
   (vI:PySem.W.findIn K (.ref dY) "needs" = some (some (.ref mQ)))
   (vJ:PySem.W.findIn K (.ref dZ) "needs" = some (some (.ref mR)))
   (v9:PySem.W.isFn K (.ref mO) = true)
   (yS:PySem.W.isFn K (.ref qb) = true)
   (wg:PySem.W.isFn K (.ref mQ) = true)
   (wj:PySem.W.isFn K (.ref mR) = true)
   (tL:PySem.W.findIn K (.ref dX) "allows" = some (some (.ref j0)))
   (vG:PySem.W.findIn K (.ref jR) "allows" = some (some (.ref mL)))
   (tM:PySem.W.findIn K (.ref dY) "allows" = some (some (.ref j4)))
   (tO:PySem.W.findIn K (.ref dZ) "allows" = some (some (.ref j5)))
   (ug:PySem.W.isFn K (.ref j0) = true)
   (v8:PySem.W.isFn K (.ref mL) = true)
   (uh:PySem.W.isFn K (.ref j4) = true)
   (ul:PySem.W.isFn K (.ref j5) = true)
   (Nm:PySem.W.findIn K (.ref dX) "led" = some (some (.ref yL)))
   (Rb:PySem.W.findIn K (.ref jR) "led" = some (some (.ref Ed)))
   (Np:PySem.W.findIn K (.ref dY) "led" = some (some (.ref yM)))
   (Nq:PySem.W.findIn K (.ref dZ) "led" = some (some (.ref yN)))
   (NQ:PySem.W.isFn K (.ref yL) = true)
   (Sg:PySem.W.isFn K (.ref Ed) = true)
   (NT:PySem.W.isFn K (.ref yM) = true)
   (NZ:PySem.W.isFn K (.ref yN) = true)
   (Iw:PySem.W.findIn K (.ref dX) "told" = some (some (.ref je)))
   (Nk:PySem.W.findIn K (.ref jR) "told" = some (some (.ref je)))
   (Iz:PySem.W.findIn K (.ref dY) "told" = some (some (.ref je)))
   (IK:PySem.W.findIn K (.ref dZ) "told" = some (some (.ref je)))
   (JF:PySem.W.isFn K (.ref je) = true)
   (iY:PySem.W.findIn K (.ref dW) "action_list" = some (some (.ref cF)))
   (jT:PySem.W.findIn K (.ref iJ) "action_list" = some (some (.ref cF)))
   (fu:PySem.W.isFn K (.ref cF) = true)
   (inD:PySem.W.findIn K (.ref lW) "__init__" = some (some (.ref gH)))
   (ca1:PySem.W.specialIn K (.ref lW) "__getattribute__" = some (some (.builtin "type.__getattribute__")))
   (ca2:PySem.W.readsIn K lW (.type "type") = true)
   (ca3:PySem.W.findCls K (.ref lW) (.type "type") "__init__" = some (.val (.ref gH)))
   (Ja:PySem.W.nsIn K mainGlobals "WORDS" = some (some (.ref ajd)))
   (Ti:K.lookup ajd = some ⟨.type "tuple",dt_WORDS,.seq (Array.mk [.str "extra" akO,.str "lacks" akP]) nt_WORDS,st_WORDS⟩)
   (wO:PySem.W.nsIn K mainGlobals "LETTERS" = some (some (.str "abcdefghijklmnopqrstuvwxyz" ai6)))
   (mF:PySem.W.nsIn K mainGlobals "MOST_SIGNS" = some (some (.int 8 tk_MS)))
   (jb:PySem.W.nsIn K mainGlobals "MOST_ACTIONS" = some (some (.int 8 tk_MA)))
   (mD:PySem.W.nsIn K mainGlobals "MOST_ROOMS" = some (some (.int 2000 tk_MR)))
   (vD:PySem.W.findIn K (.ref dW) "lets_torn" = some (some (.ref rC)))
   (v7:PySem.W.isFn K (.ref rC) = true)
   (xV:PySem.W.findIn K (.ref iJ) "lets_torn" = some (some (.ref uT)))
   (yV:PySem.W.isFn K (.ref uT) = true)
   (xg:PySem.W.nsIn K mainGlobals "door_of" = some (some (.ref Eh)))
   (xj:PySem.W.nsIn K mainGlobals "is_name" = some (some (.ref Ei)))
   (gw:PySem.W.nsIn K mainGlobals "is_action_list" = some (some (.ref jt)))
   (jk:PySem.W.nsIn K mainGlobals "need_actions" = some (some (.ref mV)))
   (xm:PySem.W.nsIn K mainGlobals "is_room" = some (some (.ref Ej)))
   (jj:PySem.W.nsIn K mainGlobals "is_told_door" = some (some (.ref mU)))
   (nA:PySem.W.nsIn K mainGlobals "need_rooms" = some (some (.ref rK)))
   (qp:PySem.W.nsIn K mainGlobals "made_door" = some (some (.ref uY)))
   (qt:PySem.W.nsIn K mainGlobals "made_room" = some (some (.ref uZ)))
   (fM:PySem.W.nsIn K mainGlobals "need_same" = some (some (.ref kZ)))
   (uB:PySem.W.nsIn K mainGlobals "followed" = some (some (.ref yO)))
   (oV:PySem.W.nsIn K mainGlobals "bits_of" = some (some (.ref wW)))
   (uD:PySem.W.nsIn K mainGlobals "risks_of" = some (some (.ref yQ)))
   (xf:PySem.W.nsIn K mainGlobals "bars_of" = some (some (.ref Eg)))
   (j9:PySem.W.nsIn K mainGlobals "first_fault" = some (some (.ref pO)))
   (kW:PySem.W.nsIn K mainGlobals "fault_at" = some (some (.ref uf)))
   (uE:PySem.W.nsIn K mainGlobals "table_of" = some (some (.ref yR)))
   (Dn:PySem.W.nsIn K mainGlobals "within" = some (some (.ref JB)))
   (qu:PySem.W.nsIn K mainGlobals "row_apart" = some (some (.ref u0)))
   (uC:PySem.W.nsIn K mainGlobals "is_table" = some (some (.ref yP)))
   (nq:PySem.W.nsIn K mainGlobals "hall_apart" = some (some (.ref rJ)))
   (bU:PySem.W.nsIn K mainGlobals "_law_cell_at" = some (some (.ref gk)))
   (bj:PySem.W.nsIn K mainGlobals "_law_mixed" = some (some (.ref cM)))
   (w6:PySem.W.nsIn K mainGlobals "_law_is" = some (some (.ref Ef)))
   (m8:PySem.W.nsIn K mainGlobals "_law_names" = some (some (.ref rF)))
   (nj:PySem.W.nsIn K mainGlobals "_law_sizes" = some (some (.ref rH)))
   (lA:PySem.W.nsIn K mainGlobals "_law_rows" = some (some (.ref uX)))
   (gY:PySem.W.nsIn K mainGlobals "_law_loosened" = some (some (.ref km)))
   (gZ:PySem.W.nsIn K mainGlobals "_law_unfolded" = some (some (.ref kE)))
   (j7:PySem.W.nsIn K mainGlobals "_law_spoilt" = some (some (.ref pM)))
   (qm:PySem.W.nsIn K mainGlobals "_law_pair" = some (some (.ref uW)))
   (m6:PySem.W.nsIn K mainGlobals "_law_fault" = some (some (.ref rE)))
   (m9:PySem.W.nsIn K mainGlobals "_law_right" = some (some (.ref rG)))
   (jB:PySem.W.nsIn K mainGlobals "_law_asked" = some (some (.ref rD)))
   (j8:PySem.W.nsIn K mainGlobals "_law_unlike" = some (some (.ref pN)))
   (m_law:PySem.W.nsIn K mainGlobals "law" = some (some (.ref f_law)))
   (CK:K.lookup gH = some ⟨acf,aaP,.func (PySem.W.fnOf "__init__" "Door.__init__" (aK lC) (aH lC) (ao lC) .none abH aay acT ZM Jd aaj),adA⟩)
   (yh:PySem.W.codeIn K Jd "Door.__init__" = true)
   (ql:PySem.W.keepIn K (.ref gH) = true)
   (CV:K.lookup uU = some ⟨ack,aaU,.func (PySem.W.fnOf "__init__" "Shut.__init__" (aK lH) (aH lH) (ao lH) .none abM aaD acY ZV Ji aao),adF⟩)
   (yp:PySem.W.codeIn K Ji "Shut.__init__" = true)
   (CG:PySem.W.keepIn K (.ref uU) = true)
   (CZ:K.lookup uV = some ⟨acn,aaW,.func (PySem.W.fnOf "__init__" "Torn.__init__" (aK lK) (aH lK) (ao lK) .none abO aaF ac0 ZX Jk aaq),adH⟩)
   (yr:PySem.W.codeIn K Jk "Torn.__init__" = true)
   (CJ:PySem.W.keepIn K (.ref uV) = true)
   (zx:K.lookup mK = some ⟨WY,Wj,.func (PySem.W.fnOf "__init__" "Draft.__init__" (aK jC) (aH jC) (ao jC) .none Wy V5 Xr Vk Ff VG),X7⟩)
   (vN:PySem.W.codeIn K Ff "Draft.__init__" = true)
   (zr:PySem.W.keepIn K (.ref mK) = true)
   (ut:K.lookup mJ = some ⟨Pq,O6,.func (PySem.W.fnOf "__init__" "Against.__init__" (aK gA) (aH gA) (ao gA) .none Pg O2 PK Oq zX Ow),Qa⟩)
   (qD:PySem.W.codeIn K zX "Against.__init__" = true)
   (ur:PySem.W.keepIn K (.ref mJ) = true)
   (zy:K.lookup rC = some ⟨W0,Wk,.func (PySem.W.fnOf "lets_torn" "Draft.lets_torn" (aK jD) (aH jD) (ao jD) .none Wz V6 Xu Vl Fg VH),X8⟩)
   (vO:PySem.W.codeIn K Fg "Draft.lets_torn" = true)
   (rN:PySem.W.keepIn K (.ref rC) = true)
   (CT:K.lookup uT = some ⟨acj,aaT,.func (PySem.W.fnOf "lets_torn" "Plan.lets_torn" (aK lG) (aH lG) (ao lG) .none abL aaC acX ZS Jh aan),adE⟩)
   (yo:PySem.W.codeIn K Jh "Plan.lets_torn" = true)
   (vg:PySem.W.keepIn K (.ref uT) = true)
   (CQ:K.lookup qd = some ⟨aci,aaS,.func (PySem.W.fnOf "word" "Must.word" (aK lF) (aH lF) (ao lF) .none abK aaB acW ZR Jg aam),adD⟩)
   (ym:PySem.W.codeIn K Jg "Must.word" = true)
   (vf:PySem.W.keepIn K (.ref qd) = true)
   (Hj:K.lookup ue = some ⟨afS,ae8,.func (PySem.W.fnOf "word" "May.word" (aK pA) (aH pA) (ao pA) .none afC aeZ agc aeq Nr aeP),agu⟩)
   (Bt:PySem.W.codeIn K Nr "May.word" = true)
   (zu:PySem.W.keepIn K (.ref ue) = true)
   (CW:K.lookup qe = some ⟨acl,aaV,.func (PySem.W.fnOf "word" "Shut.word" (aK lJ) (aH lJ) (ao lJ) .none abN aaE acZ ZW Jj aap),adG⟩)
   (yq:PySem.W.codeIn K Jj "Shut.word" = true)
   (vh:PySem.W.keepIn K (.ref qe) = true)
   (Dc:K.lookup qg = some ⟨aco,aaX,.func (PySem.W.fnOf "word" "Torn.word" (aK lL) (aH lL) (ao lL) .none abP aaG ac1 ZZ Jl aar),adI⟩)
   (yt:PySem.W.codeIn K Jl "Torn.word" = true)
   (vm:PySem.W.keepIn K (.ref qg) = true)
   (zA:K.lookup mO = some ⟨W3,Wm,.func (PySem.W.fnOf "needs" "Must.needs" (aK jF) (aH jF) (ao jF) .none WF V8 Xw Vn Fj VL),Yc⟩)
   (vQ:PySem.W.codeIn K Fj "Must.needs" = true)
   (rP:PySem.W.keepIn K (.ref mO) = true)
   (CP:K.lookup qb = some ⟨ach,aaR,.func (PySem.W.fnOf "needs" "May.needs" (aK lE) (aH lE) (ao lE) .none abJ aaA acV ZQ Jf aal),adC⟩)
   (yl:PySem.W.codeIn K Jf "May.needs" = true)
   (vd:PySem.W.keepIn K (.ref qb) = true)
   (zB:K.lookup mQ = some ⟨W4,Wn,.func (PySem.W.fnOf "needs" "Shut.needs" (aK jG) (aH jG) (ao jG) .none WK V9 Xx Vo Fo VM),Yd⟩)
   (vR:PySem.W.codeIn K Fo "Shut.needs" = true)
   (rQ:PySem.W.keepIn K (.ref mQ) = true)
   (zE:K.lookup mR = some ⟨W5,Wo,.func (PySem.W.fnOf "needs" "Torn.needs" (aK jH) (aH jH) (ao jH) .none WL Wa Xy Vp Fp VN),Ye⟩)
   (vU:PySem.W.codeIn K Fp "Torn.needs" = true)
   (rR:PySem.W.keepIn K (.ref mR) = true)
   (wy:K.lookup j0 = some ⟨Tw,RV,.func (PySem.W.fnOf "allows" "Must.allows" (aK iz) (aH iz) (ao iz) .none S6 RG Uc Q5 BR Rp),Uz⟩)
   (tW:PySem.W.codeIn K BR "Must.allows" = true)
   (pQ:PySem.W.keepIn K (.ref j0) = true)
   (zz:K.lookup mL = some ⟨W2,Wl,.func (PySem.W.fnOf "allows" "May.allows" (aK jE) (aH jE) (ao jE) .none WD V7 Xv Vm Fi VJ),Yb⟩)
   (vP:PySem.W.codeIn K Fi "May.allows" = true)
   (rO:PySem.W.keepIn K (.ref mL) = true)
   (wz:K.lookup j4 = some ⟨Tz,RW,.func (PySem.W.fnOf "allows" "Shut.allows" (aK iB) (aH iB) (ao iB) .none S7 RJ Ud Q6 BV Rq),UG⟩)
   (tX:PySem.W.codeIn K BV "Shut.allows" = true)
   (pR:PySem.W.keepIn K (.ref j4) = true)
   (wA:K.lookup j5 = some ⟨TJ,RX,.func (PySem.W.fnOf "allows" "Torn.allows" (aK iC) (aH iC) (ao iC) .none S8 RK Ue Q7 BW Rr),UJ⟩)
   (tY:PySem.W.codeIn K BW "Torn.allows" = true)
   (pU:PySem.W.keepIn K (.ref j5) = true)
   (Hk:K.lookup yL = some ⟨afT,ae9,.func (PySem.W.fnOf "led" "Must.led" (aK pB) (aH pB) (ao pB) .none afD ae0 agd aer Nt aeQ),agv⟩)
   (Bu:PySem.W.codeIn K Nt "Must.led" = true)
   (Hg:PySem.W.keepIn K (.ref yL) = true)
   (Ly:K.lookup Ed = some ⟨ail,ahI,.func (PySem.W.fnOf "led" "May.led" (aK sV) (aH sV) (ao sV) .none ah8 ahB aiC aha Rw aht),aiX⟩)
   (Gq:PySem.W.codeIn K Rw "May.led" = true)
   (Ls:PySem.W.keepIn K (.ref Ed) = true)
   (Hl:K.lookup yM = some ⟨afU,afa,.func (PySem.W.fnOf "led" "Shut.led" (aK pC) (aH pC) (ao pC) .none afE ae1 age aes Nv aeR),agw⟩)
   (Bv:PySem.W.codeIn K Nv "Shut.led" = true)
   (Hh:PySem.W.keepIn K (.ref yM) = true)
   (Hm:K.lookup yN = some ⟨afV,afb,.func (PySem.W.fnOf "led" "Torn.led" (aK pD) (aH pD) (ao pD) .none afF ae2 agf aet Nx aeS),agx⟩)
   (Bw:PySem.W.codeIn K Nx "Torn.led" = true)
   (Hi:PySem.W.keepIn K (.ref yN) = true)
   (CN:K.lookup je = some ⟨acg,aaQ,.func (PySem.W.fnOf "told" "Door.told" (aK lD) (aH lD) (ao lD) .none abI aaz acU ZP Je aak),adB⟩)
   (yj:PySem.W.codeIn K Je "Door.told" = true)
   (Cz:PySem.W.keepIn K (.ref je) = true)
   (LQ:K.lookup Eh = some ⟨aip,ahM,.func (PySem.W.fnOf "door_of" "door_of" (aK sZ) (aH sZ) (ao sZ) .none aic ahF aiG ahe RB ahx),ai1⟩)
   (Gv:PySem.W.codeIn K RB "door_of" = true)
   (sJ:PySem.W.keepIn K (.ref Eh) = true)
   (LR:K.lookup Ei = some ⟨aiq,ahN,.func (PySem.W.fnOf "is_name" "is_name" (aK tB) (aH tB) (ao tB) .none aid ahG aiH ahf RC ahy),ai2⟩)
   (Gw:PySem.W.codeIn K RC "is_name" = true)
   (sO:PySem.W.keepIn K (.ref Ei) = true)
   (oU:K.lookup jt = some ⟨JX,Ju,.func (PySem.W.fnOf "is_action_list" "is_action_list" (aK dM) (aH dM) (ao dM) .none JR Jt J8 Iu uQ Jc),Kg⟩)
   (mG:PySem.W.codeIn K uQ "is_action_list" = true)
   (dI:PySem.W.keepIn K (.ref jt) = true)
   (ux:K.lookup mV = some ⟨Px,O9,.func (PySem.W.fnOf "need_actions" "need_actions" (aK gF) (aH gF) (ao gF) .none Pk O5 PP Ov Aa OD),Qe⟩)
   (qH:PySem.W.codeIn K Aa "need_actions" = true)
   (gr:PySem.W.keepIn K (.ref mV) = true)
   (Ma:K.lookup Ej = some ⟨air,ahO,.func (PySem.W.fnOf "is_room" "is_room" (aK tD) (aH tD) (ao tD) .none aie ahH aiI ahg RD ahz),ai3⟩)
   (Gx:PySem.W.codeIn K RD "is_room" = true)
   (sS:PySem.W.keepIn K (.ref Ej) = true)
   (uw:K.lookup mU = some ⟨Pu,O8,.func (PySem.W.fnOf "is_told_door" "is_told_door" (aK gD) (aH gD) (ao gD) .none Pj O4 PN Ou zZ Oz),Qd⟩)
   (qG:PySem.W.codeIn K zZ "is_told_door" = true)
   (gq:PySem.W.keepIn K (.ref mU) = true)
   (zN:K.lookup rK = some ⟨Xd,Wx,.func (PySem.W.fnOf "need_rooms" "need_rooms" (aK jQ) (aH jQ) (ao jQ) .none WX Wi XN Vx FJ V4),Yo⟩)
   (v6:PySem.W.codeIn K FJ "need_rooms" = true)
   (jA:PySem.W.keepIn K (.ref rK) = true)
   (Df:K.lookup uY = some ⟨acr,aa0,.func (PySem.W.fnOf "made_door" "made_door" (aK lO) (aH lO) (ao lO) .none abS aaJ ac4 Z2 Jp aau),adL⟩)
   (yx:PySem.W.codeIn K Jp "made_door" = true)
   (lr:PySem.W.keepIn K (.ref uY) = true)
   (Dg:K.lookup uZ = some ⟨acs,aa1,.func (PySem.W.fnOf "made_room" "made_room" (aK lQ) (aH lQ) (ao lQ) .none abT aaK ac5 Z3 Jq aav),adM⟩)
   (yz:PySem.W.codeIn K Jq "made_room" = true)
   (lu:PySem.W.keepIn K (.ref uZ) = true)
   (jW:K.lookup cF = some ⟨Ds,Cg,.func (PySem.W.fnOf "action_list" "Draft.action_list" (aK cO) (aH cO) (ao cO) .none Cy Cd Du Bh p8 BP),DK⟩)
   (jc:PySem.W.codeIn K p8 "Draft.action_list" = true)
   (di:PySem.W.keepIn K (.ref cF) = true)
   (Dh:K.lookup kZ = some ⟨acu,aa2,.func (PySem.W.fnOf "need_same" "need_same" (aK lR) (aH lR) (ao lR) .none abU aaL ac6 Z4 Jr aaw),adN⟩)
   (yC:PySem.W.codeIn K Jr "need_same" = true)
   (dw:PySem.W.keepIn K (.ref kZ) = true)
   (Ho:K.lookup yO = some ⟨afX,afe,.func (PySem.W.fnOf "followed" "followed" (aK uH) (aH uH) (ao uH) .none afH ae4 agh aev Nz aeU),agz⟩)
   (By:PySem.W.codeIn K Nz "followed" = true)
   (oK:PySem.W.keepIn K (.ref yO) = true)
   (LK:K.lookup wW = some ⟨aio,ahL,.func (PySem.W.fnOf "bits_of" "bits_of" (aK sY) (aH sY) (ao sY) .none aib ahE aiF ahd Rz ahw),ai0⟩)
   (Gu:PySem.W.codeIn K Rz "bits_of" = true)
   (lq:PySem.W.keepIn K (.ref wW) = true)
   (Hs:K.lookup yQ = some ⟨afZ,afh,.func (PySem.W.fnOf "risks_of" "risks_of" (aK pH) (aH pH) (ao pH) .none afJ ae6 agj aex NK aeW),agB⟩)
   (BK:PySem.W.codeIn K NK "risks_of" = true)
   (oO:PySem.W.keepIn K (.ref yQ) = true)
   (LC:K.lookup Eg = some ⟨ain,ahK,.func (PySem.W.fnOf "bars_of" "bars_of" (aK sX) (aH sX) (ao sX) .none aia ahD aiE ahc Ry ahv),aiZ⟩)
   (Gs:PySem.W.codeIn K Ry "bars_of" = true)
   (sI:PySem.W.keepIn K (.ref Eg) = true)
   (wD:K.lookup pO = some ⟨TX,R3,.func (PySem.W.fnOf "first_fault" "first_fault" (aK iI) (aH iI) (ao iI) .none Td RN Ui Ra Ca Rv),UV⟩)
   (uc:PySem.W.codeIn K Ca "first_fault" = true)
   (iy:PySem.W.keepIn K (.ref pO) = true)
   (Hn:K.lookup uf = some ⟨afW,afd,.func (PySem.W.fnOf "fault_at" "fault_at" (aK pF) (aH pF) (ao pF) .none afG ae3 agg aeu Ny aeT),agy⟩)
   (Bx:PySem.W.codeIn K Ny "fault_at" = true)
   (jh:PySem.W.keepIn K (.ref uf) = true)
   (Ht:K.lookup yR = some ⟨af0,afi,.func (PySem.W.fnOf "table_of" "table_of" (aK pI) (aH pI) (ao pI) .none afK ae7 agk aey NP aeX),agC⟩)
   (BL:PySem.W.codeIn K NP "table_of" = true)
   (oR:PySem.W.keepIn K (.ref yR) = true)
   (Te:K.lookup JB = some ⟨aky,aj1,.func (PySem.W.fnOf "within" "within" (aK xr) (aH xr) (ao xr) .none akp ajY akD ajP YK ajW),akK⟩)
   (La:PySem.W.codeIn K YK "within" = true)
   (wZ:PySem.W.keepIn K (.ref JB) = true)
   (Di:K.lookup u0 = some ⟨acv,aa3,.func (PySem.W.fnOf "row_apart" "row_apart" (aK lU) (aH lU) (ao lU) .none abV aaM ac7 Z5 Js aax),adO⟩)
   (yD:PySem.W.codeIn K Js "row_apart" = true)
   (lw:PySem.W.keepIn K (.ref u0) = true)
   (Hr:K.lookup yP = some ⟨afY,afg,.func (PySem.W.fnOf "is_table" "is_table" (aK pG) (aH pG) (ao pG) .none afI ae5 agi aew NB aeV),agA⟩)
   (BJ:PySem.W.codeIn K NB "is_table" = true)
   (oN:PySem.W.keepIn K (.ref yP) = true)
   (zM:K.lookup rJ = some ⟨Xc,Ww,.func (PySem.W.fnOf "hall_apart" "hall_apart" (aK jP) (aH jP) (ao jP) .none WW Wh XM Vw Fz V3),Yn⟩)
   (v5:PySem.W.codeIn K Fz "hall_apart" = true)
   (jz:PySem.W.keepIn K (.ref rJ) = true)
   (uv:K.lookup gk = some ⟨Pr,O7,.func (PySem.W.fnOf "_law_cell_at" "_law_cell_at" (aK gB) (aH gB) (ao gB) .none Ph O3 PL Ot zY Ox),Qc⟩)
   (qF:PySem.W.codeIn K zY "_law_cell_at" = true)
   (bN:PySem.W.keepIn K (.ref gk) = true)
   (zH:K.lookup cM = some ⟨W8,Ws,.func (PySem.W.fnOf "_law_mixed" "_law_mixed" (aK jL) (aH jL) (ao jL) .none WP Wd XD Vs Fv VV),Yi⟩)
   (vX:PySem.W.codeIn K Fv "_law_mixed" = true)
   (bf:PySem.W.keepIn K (.ref cM) = true)
   (Lz:K.lookup Ef = some ⟨aim,ahJ,.func (PySem.W.fnOf "_law_is" "_law_is" (aK sW) (aH sW) (ao sW) .none ah9 ahC aiD ahb Rx ahu),aiY⟩)
   (Gr:PySem.W.codeIn K Rx "_law_is" = true)
   (sG:PySem.W.keepIn K (.ref Ef) = true)
   (zJ:K.lookup rF = some ⟨W9,Wt,.func (PySem.W.fnOf "_law_names" "_law_names" (aK jM) (aH jM) (ao jM) .none WQ We XF Vt Fw V0),Yj⟩)
   (vY:PySem.W.codeIn K Fw "_law_names" = true)
   (jw:PySem.W.keepIn K (.ref rF) = true)
   (zL:K.lookup rH = some ⟨Xb,Wv,.func (PySem.W.fnOf "_law_sizes" "_law_sizes" (aK jO) (aH jO) (ao jO) .none WT Wg XJ Vv Fy V2),Ym⟩)
   (v4:PySem.W.codeIn K Fy "_law_sizes" = true)
   (jy:PySem.W.keepIn K (.ref rH) = true)
   (De:K.lookup uX = some ⟨acq,aaZ,.func (PySem.W.fnOf "_law_rows" "_law_rows" (aK lN) (aH lN) (ao lN) .none abR aaI ac3 Z1 Jo aat),adK⟩)
   (yw:PySem.W.codeIn K Jo "_law_rows" = true)
   (jg:PySem.W.keepIn K (.ref uX) = true)
   (qL:K.lookup km = some ⟨Mi,Lg,.func (PySem.W.fnOf "_law_loosened" "_law_loosened" (aK eU) (aH eU) (ao eU) .none Lq Le Mp KY wR Lb),Mt⟩)
   (oE:PySem.W.codeIn K wR "_law_loosened" = true)
   (eN:PySem.W.keepIn K (.ref km) = true)
   (qM:K.lookup kE = some ⟨Mj,Lh,.func (PySem.W.fnOf "_law_unfolded" "_law_unfolded" (aK eV) (aH eV) (ao eV) .none Lr Lf Mq KZ wU Ld),Mu⟩)
   (oG:PySem.W.codeIn K wU "_law_unfolded" = true)
   (eO:PySem.W.keepIn K (.ref kE) = true)
   (wB:K.lookup pM = some ⟨TQ,RZ,.func (PySem.W.fnOf "_law_spoilt" "_law_spoilt" (aK iD) (aH iD) (ao iD) .none S9 RL Ug Q8 BX Rt),UL⟩)
   (tZ:PySem.W.codeIn K BX "_law_spoilt" = true)
   (iu:PySem.W.keepIn K (.ref pM) = true)
   (Dd:K.lookup uW = some ⟨acp,aaY,.func (PySem.W.fnOf "_law_pair" "_law_pair" (aK lM) (aH lM) (ao lM) .none abQ aaH ac2 Z0 Jm aas),adJ⟩)
   (yu:PySem.W.codeIn K Jm "_law_pair" = true)
   (lg:PySem.W.keepIn K (.ref uW) = true)
   (zG:K.lookup rE = some ⟨W7,Wr,.func (PySem.W.fnOf "_law_fault" "_law_fault" (aK jK) (aH jK) (ao jK) .none WN Wc XC Vr Ft VR),Yh⟩)
   (vW:PySem.W.codeIn K Ft "_law_fault" = true)
   (ju:PySem.W.keepIn K (.ref rE) = true)
   (zK:K.lookup rG = some ⟨Xa,Wu,.func (PySem.W.fnOf "_law_right" "_law_right" (aK jN) (aH jN) (ao jN) .none WR Wf XH Vu Fx V1),Yk⟩)
   (vZ:PySem.W.codeIn K Fx "_law_right" = true)
   (jx:PySem.W.keepIn K (.ref rG) = true)
   (zF:K.lookup rD = some ⟨W6,Wq,.func (PySem.W.fnOf "_law_asked" "_law_asked" (aK jJ) (aH jJ) (ao jJ) .none WM Wb Xz Vq Fq VP),Yg⟩)
   (vV:PySem.W.codeIn K Fq "_law_asked" = true)
   (gP:PySem.W.keepIn K (.ref rD) = true)
   (wC:K.lookup pN = some ⟨TV,R0,.func (PySem.W.fnOf "_law_unlike" "_law_unlike" (aK iG) (aH iG) (ao iG) .none Tc RM Uh Q9 BZ Ru),UT⟩)
   (t6:PySem.W.codeIn K BZ "_law_unlike" = true)
   (iw:PySem.W.keepIn K (.ref pN) = true)
   (l_law:K.lookup f_law = some ⟨of_law,df_law,.func (PySem.W.fnOf "law" "law" (aK Kc) (aH Kc) (ao Kc) .none kV_law dc_law pm_law an_law ahA ct_law),sf_law⟩)
   (ahs:PySem.W.codeIn K ahA "law" = true)
   (k_law:PySem.W.keepIn K (.ref f_law) = true)
  :∃ fd:FuncData,(∀ (s:Shared) (v:Value),BindsTo s fd ⟨[v],[]⟩ [("_law_script",v)])∧∀ base:Heap,K.In base→base.Ns mainGlobals mg→bx l.prog w K mg base CX0 9 fa fd ["_law_script"] (agD K):=by
 have e:=hfa.symm.trans (PySem.W.mg_of X G m_law)
 cases e
 let t:Ad:=⟨lW,dX,jR,dY,dZ,dW,iJ,dD,dg,HX,cW⟩
 have tlH:=tail_mk oH (ajs nH eH) iH
 have cH:PySem.W.clsIn K cW = some cdH:=by
   unfold PySem.W.clsIn
   rw [oH]
 obtain ⟨Kq,ahr⟩:=exc_mk Tv tlH (ajs Tn R6) Ln Lp Ms Mv Mw wQ hn htk Lx
 have afL:PySem.W.kitOne K (.ref dg) (.ref dg) = some true:=by
   unfold PySem.W.kitOne
   rw [if_pos (by simp)]
 have catH:CatOk K (Ga t) t.HallError du:=fun c C hc hC=>by
   unfold du at hc
   simp only [Bool.or_eq_true,beq_iff_eq] at hc
   subst hc
   cases hC
   exact exm_mk cH tyH Mg suH
 have i_Door:nQ K t.Door:=⟨⟨acO,abm,ac8,adh⟩,abh,hn,htk,abr,adV,⟨_,Rj⟩⟩
 have G7:nQ K t.Must:=⟨⟨acP,abn,ac9,adi⟩,abi,hn,htk,abt,adW,⟨_,Rk⟩⟩
 have Sy:nQ K t.May:=⟨⟨aiB,ah2,aiJ,aiQ⟩,ah1,hn,htk,ah3,aja,⟨_,aai⟩⟩
 have G9:nQ K t.Shut:=⟨⟨acR,abp,adb,adl⟩,abk,hn,htk,abv,adY,⟨_,Rn⟩⟩
 have Hb:nQ K t.Torn:=⟨⟨acS,abq,adc,adm⟩,abl,hn,htk,abw,adZ,⟨_,Ro⟩⟩
 have zp:nQ K t.Draft:=⟨⟨Ua,Sw,Uj,Ut⟩,Sv,hn,htk,Sx,U8,⟨_,K9⟩⟩
 have G8:nQ K t.Plan:=⟨⟨acQ,abo,ada,adk⟩,abj,hn,htk,abu,adX,⟨_,Rm⟩⟩
 have Y6:nQ K t.Against:=⟨⟨Hx,GX,Hz,HD⟩,GR,hn,htk,GZ,HQ,⟨_,Bs⟩⟩
 have T:Txt K mg t:=⟨PySem.W.mg_of X G ag5,i_Door,PySem.W.mg_of X G ag6,G7,PySem.W.mg_of X G a_May,Sy,PySem.W.mg_of X G ag8,G9,PySem.W.mg_of X G ag9,Hb,PySem.W.mg_of X G ZL,zp,PySem.W.mg_of X G ag7,G8,PySem.W.mg_of X G KR,Y6,PySem.W.mg_of X G Q4,PySem.W.mg_of X G Bg,⟨h1H,h2H,h3H⟩,Kq,xu,catH,dJ,dR,sU,oX,eQ,fV,oY,oZ,PySem.W.mg_none_of X G z_all,PySem.W.mg_none_of X G ajb,PySem.W.mg_none_of X G DP,PySem.W.mg_none_of X G z_int,PySem.W.mg_none_of X G zU,PySem.W.mg_none_of X G z_len,PySem.W.mg_none_of X G ajc,PySem.W.mg_none_of X G ad0,PySem.W.mg_none_of X G z_set,PySem.W.mg_none_of X G z_str,PySem.W.mg_none_of X G ad1,isiX_ok My ahr ⟨⟨dg,rfl,Kq.toExcGet,afL⟩,trivial⟩,JQ tt_bool trivial,JQ tt_int trivial,JQ tt_list trivial,JQ tt_str trivial,JQ tt_tuple trivial,⟨_,PySem.W.mg_of X G wO,⟨_,rfl⟩⟩,⟨_,PySem.W.mg_of X G jb,⟨_,rfl⟩⟩,⟨_,PySem.W.mg_of X G mD,⟨_,rfl⟩⟩,⟨_,PySem.W.mg_of X G mF,⟨_,rfl⟩⟩,⟨_,PySem.W.mg_of X G Ja,_,_,_,Ti,rfl,rfl,(by show 2 ≤ sizeLine; decide),.cons ⟨_,rfl⟩ (.cons ⟨_,rfl⟩ (.nil))⟩⟩
 have MP:=aZ (st:=lC) CK yh ql
 have M6:=aZ (st:=lH) CV yp CG
 have M8:=aZ (st:=lK) CZ yr CJ
 have xR:=aZ (st:=jC) zx vN zr
 have Bc:=aZ (st:=gA) ut qD ur
 have HY:=aZ (st:=jD) zy vO rN
 have M5:=aZ (st:=lG) CT yo vg
 have M4:=aZ (st:=lF) CQ ym vf
 have QR:=aZ (st:=pA) Hj Bt zu
 have M7:=aZ (st:=lJ) CW yq vh
 have M9:=aZ (st:=lL) Dc yt vm
 have Ie:=aZ (st:=jF) zA vQ rP
 have M3:=aZ (st:=lE) CP yl vd
 have Ig:=aZ (st:=jG) zB vR rQ
 have Ih:=aZ (st:=jH) zE vU rR
 have Ey:=aZ (st:=iz) wy tW pQ
 have Ib:=aZ (st:=jE) zz vP rO
 have Ez:=aZ (st:=iB) wz tX pR
 have EY:=aZ (st:=iC) wA tY pU
 have QS:=aZ (st:=pB) Hk Bu Hg
 have Yw:=aZ (st:=sV) Ly Gq Ls
 have QT:=aZ (st:=pC) Hl Bv Hh
 have QV:=aZ (st:=pD) Hm Bw Hi
 have MT:=aZ (st:=lD) CN yj Cz
 have YB:=aZ (st:=sZ) LQ Gv sJ
 have YC:=aZ (st:=tB) LR Gw sO
 have wM:=aZ (st:=dM) oU mG dI
 have Bf:=aZ (st:=gF) ux qH gr
 have YD:=aZ (st:=tD) Ma Gx sS
 have Be:=aZ (st:=gD) uw qG gq
 have Ir:=aZ (st:=jQ) zN v6 jA
 have Ng:=aZ (st:=lO) Df yx lr
 have Nh:=aZ (st:=lQ) Dg yz lu
 have qT:=aZ (st:=cO) jW jc di
 have Ni:=aZ (st:=lR) Dh yC dw
 have QX:=aZ (st:=uH) Ho By oK
 have Yz:=aZ (st:=sY) LK Gu lq
 have Q0:=aZ (st:=pH) Hs BK oO
 have Yy:=aZ (st:=sX) LC Gs sI
 have Fe:=aZ (st:=iI) wD uc iy
 have QW:=aZ (st:=pF) Hn Bx jh
 have Q3:=aZ (st:=pI) Ht BL oR
 have aeo:=aZ (st:=xr) Te La wZ
 have Nj:=aZ (st:=lU) Di yD lw
 have QZ:=aZ (st:=pG) Hr BJ oN
 have Ip:=aZ (st:=jP) zM v5 jz
 have Bd:=aZ (st:=gB) uv qF bN
 have Ik:=aZ (st:=jL) zH vX bf
 have Yx:=aZ (st:=sW) Lz Gr sG
 have Il:=aZ (st:=jM) zJ vY jw
 have Io:=aZ (st:=jO) zL v4 jy
 have Nf:=aZ (st:=lN) De yw jg
 have zV:=aZ (st:=eU) qL oE eN
 have zW:=aZ (st:=eV) qM oG eO
 have Fb:=aZ (st:=iD) wB tZ iu
 have Nb:=aZ (st:=lM) Dd yu lg
 have Ij:=aZ (st:=jK) zG vW ju
 have Im:=aZ (st:=jN) zK vZ jx
 have Ii:=aZ (st:=jJ) zF vV gP
 have Fd:=aZ (st:=iG) wC t6 iw
 have U_law:=aZ (st:=Kc) l_law ahs k_law
 refine ⟨PySem.W.fnOf "law" "law" (aK Kc) (aH Kc) (ao Kc) .none kV_law dc_law pm_law an_law ahA ct_law,fun s v=>.of_eq rfl,fun base _ _=>law_sp (t:=t) ?_⟩
 have uN:=MP.binds (ps:=["self","to"]) fun _ _ _ _ _ _ us hl=>match us,hl with | [_,_],_=>rfl
 have aeG:=M6.binds (ps:=["self"]) fun _ _ _ _ _ _ us hl=>match us,hl with | [_],_=>rfl
 have aeI:=M8.binds (ps:=["self"]) fun _ _ _ _ _ _ us hl=>match us,hl with | [_],_=>rfl
 have uM:=acw (P:=l.prog) (w:=w) (mg:=mg) (base:=base) MP
 have ca:HS K t.Door "__init__" (.ref gH):=⟨ca1,ca2,ca3⟩
 have aee:=acB (P:=l.prog) (w:=w) (base:=base) M6 T uM ca ql uN
 have aeg:=acD (P:=l.prog) (w:=w) (base:=base) M8 T uM ca ql uN
 have KD:Ini l.prog w K mg base t.Must 1 ["self","to"] (spI K (Ga t) qW 1 Az):=⟨_,_,⟨ab3,abx,rM,abD⟩,ok_to (t:=t) uM rfl G7.cls oX,uN⟩
 have Yv:Ini l.prog w K mg base t.May 1 ["self","to"] (spI K (Ga t) Er 1 Yt):=⟨_,_,⟨aij,ah4,rM,ah7⟩,ok_to (t:=t) uM rfl Sy.cls sU,uN⟩
 have KH:Ini l.prog w K mg base t.Shut 2 ["self"] (spI K (Ga t) p6 0 Ba):=⟨_,_,⟨ab5,abz,yW,abF⟩,aee,aeG⟩
 have KJ:Ini l.prog w K mg base t.Torn 2 ["self"] (spI K (Ga t) p7 0 Gi):=⟨_,_,⟨ab6,abA,yZ,abG⟩,aeg,aeI⟩
 have aeE:=M4.binds (ps:=["self"]) fun _ _ _ _ _ _ us hl=>match us,hl with | [_],_=>rfl
 have aec:=acz (P:=l.prog) (w:=w) (base:=base) (t:=t) M4 T
 have ahh:=QR.binds (ps:=["self"]) fun _ _ _ _ _ _ us hl=>match us,hl with | [_],_=>rfl
 have agZ:=af1 (P:=l.prog) (w:=w) (base:=base) (t:=t) QR T
 have aeH:=M7.binds (ps:=["self"]) fun _ _ _ _ _ _ us hl=>match us,hl with | [_],_=>rfl
 have aef:=acC (P:=l.prog) (w:=w) (base:=base) (t:=t) M7 T
 have aeJ:=M9.binds (ps:=["self"]) fun _ _ _ _ _ _ us hl=>match us,hl with | [_],_=>rfl
 have aeh:=acE (P:=l.prog) (w:=w) (base:=base) (t:=t) M9 T
 have aac:=Ie.binds (ps:=["self"]) fun _ _ _ _ _ _ us hl=>match us,hl with | [_],_=>rfl
 have Zv:=Xg (P:=l.prog) (w:=w) (base:=base) (t:=t) Ie T
 have aeD:=M3.binds (ps:=["self"]) fun _ _ _ _ _ _ us hl=>match us,hl with | [_],_=>rfl
 have aeb:=acy (P:=l.prog) (w:=w) (base:=base) (t:=t) M3 T
 have aad:=Ig.binds (ps:=["self"]) fun _ _ _ _ _ _ us hl=>match us,hl with | [_],_=>rfl
 have Zw:=Xh (P:=l.prog) (w:=w) (base:=base) (t:=t) Ig T
 have aae:=Ih.binds (ps:=["self"]) fun _ _ _ _ _ _ us hl=>match us,hl with | [_],_=>rfl
 have Zx:=Xi (P:=l.prog) (w:=w) (base:=base) (t:=t) Ih T
 have Vy:=Ey.binds (ps:=["self"]) fun _ _ _ _ _ _ us hl=>match us,hl with | [_],_=>rfl
 have Ve:=T3 (P:=l.prog) (w:=w) (base:=base) (t:=t) Ey T
 have aab:=Ib.binds (ps:=["self"]) fun _ _ _ _ _ _ us hl=>match us,hl with | [_],_=>rfl
 have Zu:=Xf (P:=l.prog) (w:=w) (base:=base) (t:=t) Ib T
 have Vz:=Ez.binds (ps:=["self"]) fun _ _ _ _ _ _ us hl=>match us,hl with | [_],_=>rfl
 have Vf:=T4 (P:=l.prog) (w:=w) (base:=base) (t:=t) Ez T
 have VB:=EY.binds (ps:=["self"]) fun _ _ _ _ _ _ us hl=>match us,hl with | [_],_=>rfl
 have Vg:=T5 (P:=l.prog) (w:=w) (base:=base) (t:=t) EY T
 have b_Must_led:=QS.binds (ps:=["self","to"]) fun _ _ _ _ _ _ us hl=>match us,hl with | [_,_],_=>rfl
 have O_Must_led:=af2 (P:=l.prog) (w:=w) (base:=base) (t:=t) QS T KD
 have b_May_led:=Yw.binds (ps:=["self","to"]) fun _ _ _ _ _ _ us hl=>match us,hl with | [_,_],_=>rfl
 have O_May_led:=ais (P:=l.prog) (w:=w) (base:=base) (t:=t) Yw T Yv
 have b_Shut_led:=QT.binds (ps:=["self","to"]) fun _ _ _ _ _ _ us hl=>match us,hl with | [_,_],_=>rfl
 have O_Shut_led:=af3 (P:=l.prog) (w:=w) (base:=base) (t:=t) QT T KH
 have b_Torn_led:=QV.binds (ps:=["self","to"]) fun _ _ _ _ _ _ us hl=>match us,hl with | [_,_],_=>rfl
 have O_Torn_led:=af4 (P:=l.prog) (w:=w) (base:=base) (t:=t) QV T KJ
 have agX:wK l.prog w K mg base (Ga t) "word" (spD K (Ga t) 1) 1 U5:=⟨⟨dX,qd,_,_,rfl,G7.cls,⟨xU,yU,vf⟩,aec.mono (by decide),aeE⟩,⟨jR,ue,_,_,rfl,Sy.cls,⟨Bk,Cp,zu⟩,agZ.mono (by decide),ahh⟩,⟨dY,qe,_,_,rfl,G9.cls,⟨xW,yX,vh⟩,aef.mono (by decide),aeH⟩,⟨dZ,qg,_,_,rfl,Hb.cls,⟨xX,za,vm⟩,aeh.mono (by decide),aeJ⟩,trivial⟩
 have b_Door_told:=MT.binds (ps:=["self"]) fun _ _ _ _ _ _ us hl=>match us,hl with | [_],_=>rfl
 have O_Door_told:=acx (P:=l.prog) (w:=w) (base:=base) (t:=t) MT T agX
 have K6:=YB.binds (ps:=["needs","allows","to"]) fun _ _ _ _ _ _ us hl=>match us,hl with | [_,_,_],_=>rfl
 have ajL:=aiw (P:=l.prog) (w:=w) (base:=base) (t:=t) YB T KD Yv KJ KH
 have Ku:Def l.prog w K mg base "door_of" 4 ["needs","allows","to"] (spD K (Ga t) 3 sy):=⟨_,_,ajL,K6,PySem.W.mg_of X G xg,sJ⟩
 have K7:=YC.binds (ps:=["thing"]) fun _ _ _ _ _ _ us hl=>match us,hl with | [_],_=>rfl
 have ajM:=aix (P:=l.prog) (w:=w) (base:=base) (t:=t) YC T
 have Kv:Def l.prog w K mg base "is_name" 1 ["thing"] (spD K (Ga t) 1 nY):=⟨_,_,ajM,K7,PySem.W.mg_of X G xj,sO⟩
 have oA:=wM.binds (ps:=["thing"]) fun _ _ _ _ _ _ us hl=>match us,hl with | [_],_=>rfl
 have KN:=JZ (P:=l.prog) (w:=w) (base:=base) (t:=t) wM T Kv
 have nW:Def l.prog w K mg base "is_action_list" 2 ["thing"] (spD K (Ga t) 1 fZ):=⟨_,_,KN,oA,PySem.W.mg_of X G gw,dI⟩
 have tU:=Bf.binds (ps:=["actions"]) fun _ _ _ _ _ _ us hl=>match us,hl with | [_],_=>rfl
 have QQ:=PJ (P:=l.prog) (w:=w) (base:=base) (t:=t) Bf T nW
 have lX:Def l.prog w K mg base "need_actions" 3 ["actions"] (spD K (Ga t) 1 gf):=⟨_,_,QQ,tU,PySem.W.mg_of X G jk,gr⟩
 have K8:=YD.binds (ps:=["thing","many"]) fun _ _ _ _ _ _ us hl=>match us,hl with | [_,_],_=>rfl
 have ajN:=aiy (P:=l.prog) (w:=w) (base:=base) (t:=t) YD T
 have Kw:Def l.prog w K mg base "is_room" 1 ["thing","many"] (spD K (Ga t) 2 sE):=⟨_,_,ajN,K8,PySem.W.mg_of X G xm,sS⟩
 have tR:=Be.binds (ps:=["thing","many","torn_too"]) fun _ _ _ _ _ _ us hl=>match us,hl with | [_,_,_],_=>rfl
 have QM:=PB (P:=l.prog) (w:=w) (base:=base) (t:=t) Be T Kw
 have tG:Def l.prog w K mg base "is_told_door" 2 ["thing","many","torn_too"] (spD K (Ga t) 3 f9):=⟨_,_,QM,tR,PySem.W.mg_of X G jj,gq⟩
 have yf:=Ir.binds (ps:=["rows","many_actions","torn_too"]) fun _ _ _ _ _ _ us hl=>match us,hl with | [_,_,_],_=>rfl
 have ZK:=Xq (P:=l.prog) (w:=w) (base:=base) (t:=t) Ir T tG
 have rz:Def l.prog w K mg base "need_rooms" 3 ["rows","many_actions","torn_too"] (spD K (Ga t) 3 eZ):=⟨_,_,ZK,yf,PySem.W.mg_of X G nA,jA⟩
 have Bo:=Ng.binds (ps:=["told"]) fun _ _ _ _ _ _ us hl=>match us,hl with | [_],_=>rfl
 have aek:=acH (P:=l.prog) (w:=w) (base:=base) (t:=t) Ng T Ku
 have Ar:Def l.prog w K mg base "made_door" 5 ["told"] (spD K (Ga t) 1 iU):=⟨_,_,aek,Bo,PySem.W.mg_of X G qp,lr⟩
 have Bp:=Nh.binds (ps:=["row"]) fun _ _ _ _ _ _ us hl=>match us,hl with | [_],_=>rfl
 have ael:=acI (P:=l.prog) (w:=w) (base:=base) (t:=t) Nh T Ar
 have uL:Def l.prog w K mg base "made_room" 6 ["row"] (spD K (Ga t) 1 iV):=⟨_,_,ael,Bp,PySem.W.mg_of X G qt,lu⟩
 have aaa:=HY.binds (ps:=["self"]) fun _ _ _ _ _ _ us hl=>match us,hl with | [_],_=>rfl
 have Zt:=Xe (P:=l.prog) (w:=w) (mg:=mg) (base:=base) HY
 have aeF:=M5.binds (ps:=["self"]) fun _ _ _ _ _ _ us hl=>match us,hl with | [_],_=>rfl
 have aed:=acA (P:=l.prog) (w:=w) (mg:=mg) (base:=base) M5
 have IV:=xR.binds (ps:=["self","actions","rows"]) fun _ _ _ _ _ _ us hl=>match us,hl with | [_,_,_],_=>rfl
 have N_Draft:Ini l.prog w K mg base t.Draft 7 ["self","actions","rows"] (spI K (Ga t) jU 2 I_Draft):=⟨_,_,⟨Tj,SJ,pP,SX⟩,FZ (t:=t) xR T lX rz uL rfl zp.cls dJ dR ⟨vD,v7,rN⟩ Zt aaa,IV⟩
 have agY:Ini l.prog w K mg base t.Plan 7 ["self","actions","rows"] (spI K (Ga t) bz 2 QH):=⟨_,_,⟨ab4,aby,pP,abE⟩,FZ (t:=t) xR T lX rz uL rfl G8.cls eQ fV ⟨xV,yV,vg⟩ aed aeF,IV⟩
 have qU:=qT.binds (ps:=["self"]) fun _ _ _ _ _ _ us hl=>match us,hl with | [_],_=>rfl
 have qR:=Dt (P:=l.prog) (w:=w) (base:=base) (t:=t) qT T
 have pL:wK l.prog w K mg base (Ga t) "action_list" (spF K (Ga t) 1) 1 cT:=⟨⟨dW,cF,_,_,rfl,zp.cls,⟨iY,fu,di⟩,qR.mono (by decide),qU⟩,⟨iJ,cF,_,_,rfl,G8.cls,⟨jT,fu,di⟩,qR.mono (by decide),qU⟩,trivial⟩
 have iZ:=Ni.binds (ps:=["one","other"]) fun _ _ _ _ _ _ us hl=>match us,hl with | [_,_],_=>rfl
 have aem:=acJ (P:=l.prog) (w:=w) (base:=base) (t:=t) Ni T pL
 have eX:Aw l.prog w K mg base "need_same" 2 ["one","other"] (spD K (Ga t) 2 cR):=⟨_,_,aem,iZ,PySem.W.mg_of X G fM,dw⟩
 have Rc:=Bc.binds (ps:=["self","one","other"]) fun _ _ _ _ _ _ us hl=>match us,hl with | [_,_,_],_=>rfl
 have eG:Ini1 l.prog w K mg base t.Against 3 ["self","one","other"] (spI K (Ga t) dh 2 cY):=⟨_,_,⟨Hv,Hc,qI,Hf⟩,Py (t:=t) Bc T eX,Rc⟩
 have Gk:=QX.binds (ps:=["against","trail"]) fun _ _ _ _ _ _ us hl=>match us,hl with | [_,_],_=>rfl
 have ag1:=af6 (P:=l.prog) (w:=w) (base:=base) (t:=t) QX T
 have Gd:Def l.prog w K mg base "followed" 1 ["against","trail"] (spD K (Ga t) 2 xQ):=⟨_,_,ag1,Gk,PySem.W.mg_of X G uB,oK⟩
 have wN:=Yz.binds (ps:=["truths"]) fun _ _ _ _ _ _ us hl=>match us,hl with | [_],_=>rfl
 have ajK:=aiv (P:=l.prog) (w:=w) (base:=base) (t:=t) Yz T
 have rY:Def l.prog w K mg base "bits_of" 1 ["truths"] (spD K (Ga t) 1 jr):=⟨_,_,ajK,wN,PySem.W.mg_of X G oV,lq⟩
 have DQ:wK l.prog w K mg base (Ga t) "needs" (spD K (Ga t) 1) 1 pK:=⟨⟨dX,mO,_,_,rfl,G7.cls,⟨vH,v9,rP⟩,Zv.mono (by decide),aac⟩,⟨jR,qb,_,_,rfl,Sy.cls,⟨xT,yS,vd⟩,aeb.mono (by decide),aeD⟩,⟨dY,mQ,_,_,rfl,G9.cls,⟨vI,wg,rQ⟩,Zw.mono (by decide),aad⟩,⟨dZ,mR,_,_,rfl,Hb.cls,⟨vJ,wj,rR⟩,Zx.mono (by decide),aae⟩,trivial⟩
 have wL:wK l.prog w K mg base (Ga t) "allows" (spD K (Ga t) 1) 1 kY:=⟨⟨dX,j0,_,_,rfl,G7.cls,⟨tL,ug,pQ⟩,Ve.mono (by decide),Vy⟩,⟨jR,mL,_,_,rfl,Sy.cls,⟨vG,v8,rO⟩,Zu.mono (by decide),aab⟩,⟨dY,j4,_,_,rfl,G9.cls,⟨tM,uh,pR⟩,Vf.mono (by decide),Vz⟩,⟨dZ,j5,_,_,rfl,Hb.cls,⟨tO,ul,pU⟩,Vg.mono (by decide),VB⟩,trivial⟩
 have Gn:=Q0.binds (ps:=["doors"]) fun _ _ _ _ _ _ us hl=>match us,hl with | [_],_=>rfl
 have ag3:=af8 (P:=l.prog) (w:=w) (base:=base) (t:=t) Q0 T DQ wL rY
 have Gf:Def l.prog w K mg base "risks_of" 2 ["doors"] (spD K (Ga t) 1 nZ):=⟨_,_,ag3,Gn,PySem.W.mg_of X G uD,oO⟩
 have K4:=Yy.binds (ps:=["doors"]) fun _ _ _ _ _ _ us hl=>match us,hl with | [_],_=>rfl
 have ajJ:=aiu (P:=l.prog) (w:=w) (base:=base) (t:=t) Yy T DQ wL rY
 have Ks:Def l.prog w K mg base "bars_of" 2 ["doors"] (spD K (Ga t) 1 sr):=⟨_,_,ajJ,K4,PySem.W.mg_of X G xf,sI⟩
 have vM:=Fe.binds (ps:=["bits"]) fun _ _ _ _ _ _ us hl=>match us,hl with | [_],_=>rfl
 have Vj:=T8 (P:=l.prog) (w:=w) (base:=base) (t:=t) Fe T
 have vz:Def l.prog w K mg base "first_fault" 1 ["bits"] (spD K (Ga t) 1 jY):=⟨_,_,Vj,vM,PySem.W.mg_of X G j9,iy⟩
 have tQ:=QW.binds (ps:=["one","room","other","place"]) fun _ _ _ _ _ _ us hl=>match us,hl with | [_,_,_,_],_=>rfl
 have ag0:=af5 (P:=l.prog) (w:=w) (base:=base) (t:=t) QW T eX vz Gf Ks
 have nU:Aw l.prog w K mg base "fault_at" 3 ["one","room","other","place"] (spD K (Ga t) 4 gM):=⟨_,_,ag0,tQ,PySem.W.mg_of X G kW,jh⟩
 have Gp:=Q3.binds (ps:=["one","other"]) fun _ _ _ _ _ _ us hl=>match us,hl with | [_,_],_=>rfl
 have ag4:=af9 (P:=l.prog) (w:=w) (base:=base) (t:=t) Q3 T eG
 have Gg:Aw l.prog w K mg base "table_of" 5 ["one","other"] (spD K (Ga t) 2 tK):=⟨_,_,ag4,Gp,PySem.W.mg_of X G uE,oR⟩
 have Rh:=aeo.binds (ps:=["one","other"]) fun _ _ _ _ _ _ us hl=>match us,hl with | [_,_],_=>rfl
 have O_within:=akz (P:=l.prog) (w:=w) (base:=base) (t:=t) aeo T Gd eG
 have Qz:Aw l.prog w K mg base "within" 5 ["one","other"] (spD K (Ga t) 2 Ay):=⟨_,_,O_within,Rh,PySem.W.mg_of X G Dn,wZ⟩
 have Bq:=Nj.binds (ps:=["one","other"]) fun _ _ _ _ _ _ us hl=>match us,hl with | [_,_],_=>rfl
 have aen:=acK (P:=l.prog) (w:=w) (base:=base) (t:=t) Nj T eG
 have Av:Aw l.prog w K mg base "row_apart" 5 ["one","other"] (spD K (Ga t) 2 pY):=⟨_,_,aen,Bq,PySem.W.mg_of X G qu,lw⟩
 have Gm:=QZ.binds (ps:=["one","other","table"]) fun _ _ _ _ _ _ us hl=>match us,hl with | [_,_,_],_=>rfl
 have ag2:=af7 (P:=l.prog) (w:=w) (base:=base) (t:=t) QZ T eG
 have Ge:Aw l.prog w K mg base "is_table" 5 ["one","other","table"] (spD K (Ga t) 3 tH):=⟨_,_,ag2,Gm,PySem.W.mg_of X G uC,oN⟩
 have ye:=Ip.binds (ps:=["one","other"]) fun _ _ _ _ _ _ us hl=>match us,hl with | [_,_],_=>rfl
 have ZJ:=Xp (P:=l.prog) (w:=w) (base:=base) (t:=t) Ip T eX
 have xK:Aw l.prog w K mg base "hall_apart" 3 ["one","other"] (spD K (Ga t) 2 mj):=⟨_,_,ZJ,ye,PySem.W.mg_of X G nq,jz⟩
 have cG:=Bd.binds (ps:=["_law_script","_law_k"]) fun _ _ _ _ _ _ us hl=>match us,hl with | [_,_],_=>rfl
 have QL:=Pz (P:=l.prog) (w:=w) (base:=base) (t:=t) Bd T
 have cL:Def l.prog w K mg base "_law_cell_at" 1 ["_law_script","_law_k"] (spD K (Ga t) 2 bA):=⟨_,_,QL,cG,PySem.W.mg_of X G bU,bN⟩
 have bw:=Ik.binds (ps:=["_law_cell","_law_k"]) fun _ _ _ _ _ _ us hl=>match us,hl with | [_,_],_=>rfl
 have ZC:=Xl (P:=l.prog) (w:=w) (base:=base) (t:=t) Ik T
 have aX:Def l.prog w K mg base "_law_mixed" 1 ["_law_cell","_law_k"] (spD K (Ga t) 2 aJ):=⟨_,_,ZC,bw,PySem.W.mg_of X G bj,bf⟩
 have K3:=Yx.binds (ps:=["_law_found","_law_due"]) fun _ _ _ _ _ _ us hl=>match us,hl with | [_,_],_=>rfl
 have ajI:=ait (P:=l.prog) (w:=w) (base:=base) (t:=t) Yx T
 have Kr:Def l.prog w K mg base "_law_is" 1 ["_law_found","_law_due"] (spD K (Ga t) 2 rZ):=⟨_,_,ajI,K3,PySem.W.mg_of X G w6,sG⟩
 have xZ:=Il.binds (ps:=["_law_cell","_law_many"]) fun _ _ _ _ _ _ us hl=>match us,hl with | [_,_],_=>rfl
 have ZD:=Xm (P:=l.prog) (w:=w) (base:=base) (t:=t) Il T aX
 have xG:Def l.prog w K mg base "_law_names" 2 ["_law_cell","_law_many"] (spD K (Ga t) 2 lZ):=⟨_,_,ZD,xZ,PySem.W.mg_of X G m8,jw⟩
 have yd:=Io.binds (ps:=["_law_cell"]) fun _ _ _ _ _ _ us hl=>match us,hl with | [_],_=>rfl
 have ZG:=Xo (P:=l.prog) (w:=w) (base:=base) (t:=t) Io T aX
 have xJ:Def l.prog w K mg base "_law_sizes" 2 ["_law_cell"] (spD K (Ga t) 1 jq):=⟨_,_,ZG,yd,PySem.W.mg_of X G nj,jy⟩
 have uO:=Nf.binds (ps:=["_law_script","_law_at","_law_rooms","_law_many"]) fun _ _ _ _ _ _ us hl=>match us,hl with | [_,_,_,_],_=>rfl
 have aej:=acG (P:=l.prog) (w:=w) (base:=base) (t:=t) Nf T cL aX
 have Aq:Def l.prog w K mg base "_law_rows" 2 ["_law_script","_law_at","_law_rooms","_law_many"] (spD K (Ga t) 4 iT):=⟨_,_,aej,uO,PySem.W.mg_of X G lA,jg⟩
 have qz:=zV.binds (ps:=["_law_rows_here","_law_cell"]) fun _ _ _ _ _ _ us hl=>match us,hl with | [_,_],_=>rfl
 have Om:=Ml (P:=l.prog) (w:=w) (base:=base) (t:=t) zV T aX
 have qx:Def l.prog w K mg base "_law_loosened" 2 ["_law_rows_here","_law_cell"] (spD K (Ga t) 2 eE):=⟨_,_,Om,qz,PySem.W.mg_of X G gY,eN⟩
 have qC:=zW.binds (ps:=["_law_rows_here","_law_cell"]) fun _ _ _ _ _ _ us hl=>match us,hl with | [_,_],_=>rfl
 have Oo:=Mm (P:=l.prog) (w:=w) (base:=base) (t:=t) zW T aX
 have qy:Def l.prog w K mg base "_law_unfolded" 2 ["_law_rows_here","_law_cell"] (spD K (Ga t) 2 eF):=⟨_,_,Oo,qC,PySem.W.mg_of X G gZ,eO⟩
 have vK:=Fb.binds (ps:=["_law_rows_here","_law_cell"]) fun _ _ _ _ _ _ us hl=>match us,hl with | [_,_],_=>rfl
 have Vh:=T6 (P:=l.prog) (w:=w) (base:=base) (t:=t) Fb T aX
 have vq:Def l.prog w K mg base "_law_spoilt" 2 ["_law_rows_here","_law_cell"] (spD K (Ga t) 2 ir):=⟨_,_,Vh,vK,PySem.W.mg_of X G j7,iu⟩
 have Bl:=Nb.binds (ps:=["_law_script"]) fun _ _ _ _ _ _ us hl=>match us,hl with | [_],_=>rfl
 have aei:=acF (P:=l.prog) (w:=w) (base:=base) (t:=t) Nb T xJ cL Aq aX qx qy vq
 have Ao:Def l.prog w K mg base "_law_pair" 3 ["_law_script"] (spD K (Ga t) 1 pX):=⟨_,_,aei,Bl,PySem.W.mg_of X G qm,lg⟩
 have xY:=Ij.binds (ps:=["_law_one","_law_other","_law_pair_here"]) fun _ _ _ _ _ _ us hl=>match us,hl with | [_,_,_],_=>rfl
 have Zz:=Xk (P:=l.prog) (w:=w) (base:=base) (t:=t) Ij T
 have xF:Def l.prog w K mg base "_law_fault" 1 ["_law_one","_law_other","_law_pair_here"] (spD K (Ga t) 3 jo):=⟨_,_,Zz,xY,PySem.W.mg_of X G m6,ju⟩
 have yc:=Im.binds (ps:=["_law_found","_law_due"]) fun _ _ _ _ _ _ us hl=>match us,hl with | [_,_],_=>rfl
 have ZF:=Xn (P:=l.prog) (w:=w) (base:=base) (t:=t) Im T Kr
 have xH:Def l.prog w K mg base "_law_right" 2 ["_law_found","_law_due"] (spD K (Ga t) 2 gK):=⟨_,_,ZF,yc,PySem.W.mg_of X G m9,jx⟩
 have rA:=Ii.binds (ps:=["_law_one","_law_other","_law_way"]) fun _ _ _ _ _ _ us hl=>match us,hl with | [_,_,_],_=>rfl
 have Zy:=Xj (P:=l.prog) (w:=w) (base:=base) (t:=t) Ii T nU Gg Ge Qz Av xK
 have xx:Def l.prog w K mg base "_law_asked" 6 ["_law_one","_law_other","_law_way"] (spD K (Ga t) 3 eY):=⟨_,_,Zy,rA,PySem.W.mg_of X G jB,gP⟩
 have vL:=Fd.binds (ps:=["_law_actions","_law_number"]) fun _ _ _ _ _ _ us hl=>match us,hl with | [_,_],_=>rfl
 have Vi:=T7 (P:=l.prog) (w:=w) (base:=base) (t:=t) Fd T
 have vy:Def l.prog w K mg base "_law_unlike" 1 ["_law_actions","_law_number"] (spD K (Ga t) 2 jX):=⟨_,_,Vi,vL,PySem.W.mg_of X G j8,iw⟩
 exact ok_law U_law T Ao xG cL agY xH xF nU aX vy xx
theorem walk {l:PySem.W.OpenLaw} {q:Program} {loose:List Str} {XP:(Str→Option Value)→Heap→Prop} {YP:World→Heap→Prop} {d:DefRec} {K:Params→PySem.W.Frag} (hn:l.most = some 63) (hdf:d.params.defaults = [])
   (hY:∀ (w:World) (h:Heap),YP w h→(K w.params).In h)
   (F:∀ (w:World) (mg:Str→Option Value) (fa:Addr) (h:Heap),(K w.params).In h→h.Ns mainGlobals mg→mg d.name = some (.ref fa) →
     ∃ fd:FuncData,(∀ (s:Shared) (u:Value),BindsTo s fd ⟨[u],[]⟩ [("_law_script",u)])∧∀ base:Heap,(K w.params).In base→base.Ns mainGlobals mg→bx l.prog w (K w.params) mg base CX0 9 fa fd ["_law_script"] (agD (K w.params))) :
   PySem.W.WalkO q loose XP YP l.row.toRowW d [] (fun f vs=>PySem.call f vs) :=
 L2.walk_of (n:=63) (k:=9) (x:="_law_script") (CX:=fun _=>CX0) (sp:=fun w=>agD (K w.params)) hn (by decide) hdf ⟨rfl,by decide,by decide⟩ hY F (fun _ _ a ns hl _ hS=>⟨a,ns,rfl,hS,hl,fun _=>rfl⟩) fun _ _ _ _ _ z=>z
end K5
namespace K5
open PySem PySem.W L2
noncomputable abbrev pw:Program:=PySem.Challenge.pw_mustmay_k31_faults_at_rooms
noncomputable section
abbrev hI (i:Int):Value:=.int i 0
abbrev hS (x:Str) (t:Nat):Value:=.str x t
abbrev hR (a:Addr):Value:=.ref a
abbrev hE (P:Params) (x:Str) (t:Nat) (v:Value):DictEntry:=⟨PyData.keyHash P x,.str x t,v⟩
abbrev hT (xs:List Value):Obj:=⟨.type "tuple",none,.seq (Array.mk xs) 0,Array.mk []⟩
abbrev hN (xs:List Value):Obj:=⟨.none,none,.fields (Array.mk xs),Array.mk []⟩
abbrev hK (xs:List Value):Obj:=⟨.type "code",none,.fields (Array.mk xs),Array.mk []⟩
abbrev hD (es:List DictEntry):Obj:=⟨.type "dict",none,.dict (Array.mk es) 0,Array.mk []⟩
abbrev hDn (n:Nat) (es:List DictEntry):Obj:=⟨.type "dict",none,.dict (Array.mk es) n,Array.mk []⟩
abbrev hC (n q:Str) (s:Stmt):Obj:=⟨.none,none,.func ⟨n,q,aK s,.stmts (aH s),ao s,0,[],.none,.none,.none,.none,none,.none,.none,0⟩,Array.mk []⟩
abbrev hF (n q:Str) (s:Stmt) (pm cd:Value):Obj:=⟨.type "function",none,.func ⟨n,q,aK s,.stmts (aH s),ao s,3,[],.none,.none,.none,pm,none,cd,.none,0⟩,Array.mk []⟩
abbrev nn (o:Obj) (a b:BT):BT:=.node o a b
abbrev lf (o:Obj):BT:=.node o .nil .nil
variable (P:Params)
def o0:=hK [hS "<module>" 182,hS "<module>" 183,hS "/claim/cut.py" 184,hI 1,hI 0,hI 0,hI 0,hI 0,hR 11,.bool false,hI 181,hR 12,.none,.none,.none,.none,hI 185,hI 1,hS "/claim/cut.py" 186]
def o1:Obj:=⟨(.type "frame"),none,.plain,Array.mk [some (hR 13),some (hR 3),some (hR 3),none,some (hS "__main__" 164),none,some (hR 0)]⟩
def o2:=hDn 88 [hE P "__name__" 165 (hS "law_mustmay_k31_faults_at_rooms" 1198),hE P "__doc__" 166 .none,hE P "__package__" 167 .none,hE P "__loader__" 168 (.builtin "__main__.__loader__#opaque"),hE P "__spec__" 169 .none,hE P "__annotations__" 170 (hR 6),hE P "__builtins__" 171 (hR 4),hE P "__file__" 173 (hS "/claim/cut.py" 172),hE P "__cached__" 174 .none,hE P "_wall" 193 (hR 21),hE P "Door" 231 (hR 45),hE P "Must" 276 (hR 87),hE P "May" 321 (hR 127),hE P "Shut" 373 (hR 174),hE P "Torn" 425 (hR 221),hE P "door_of" 434 (hR 230),hE P "HallError" 454 (hR 240),hE P "BadPlan" 481 (hR 260),hE P "NoWay" 506 (hR 279),hE P "Unlike" 522 (hR 291),hE P "TooMany" 538 (hR 303),hE P "LETTERS" 542 (hS "abcdefghijklmnopqrstuvwxyz" 541),hE P "MOST_SIGNS" 544 (.int (8) 543),hE P "MOST_ACTIONS" 546 (.int (8) 545),hE P "MOST_ROOMS" 548 (.int (2000) 547),hE P "is_name" 554 (hR 310),hE P "is_action_list" 560 (hR 315),hE P "need_actions" 567 (hR 322),hE P "is_room" 575 (hR 329),hE P "is_told_door" 585 (hR 336),hE P "need_rooms" 598 (hR 343),hE P "made_door" 606 (hR 350),hE P "made_room" 612 (hR 355),hE P "told_room" 618 (hR 360),hE P "Draft" 698 (hR 422),hE P "Plan" 721 (hR 443),hE P "need_same" 729 (hR 452),hE P "led_room" 735 (hR 457),hE P "reached" 748 (hR 464),hE P "words_of" 754 (hR 469),hE P "ends_of" 760 (hR 474),hE P "sources_of" 766 (hR 479),hE P "numbered" 772 (hR 484),hE P "rest_of" 778 (hR 489),hE P "Blocks" 852 (hR 535),hE P "classes" 858 (hR 544),hE P "Trail" 908 (hR 575),hE P "least" 914 (hR 584),hE P "WORDS" 919 (hR 585),hE P "bits_of" 929 (hR 592),hE P "risks_of" 938 (hR 599),hE P "bars_of" 947 (hR 606),hE P "first_fault" 955 (hR 613),hE P "fault_at" 965 (hR 620),hE P "starts_of" 971 (hR 625),hE P "tos_of" 977 (hR 630),hE P "Against" 1056 (hR 685),hE P "followed" 1069 (hR 696),hE P "table_of" 1075 (hR 701),hE P "within" 1083 (hR 708),hE P "row_apart" 1095 (hR 715),hE P "is_held" 1101 (hR 720),hE P "is_table" 1114 (hR 727),hE P "hall_door" 1125 (hR 734),hE P "hall_room" 1131 (hR 739),hE P "hall_of" 1137 (hR 744),hE P "least_hall" 1144 (hR 751),hE P "need_few" 1151 (hR 758),hE P "rooms_along" 1163 (hR 765),hE P "need_end" 1172 (hR 772),hE P "moved_room" 1178 (hR 777),hE P "hall_along" 1184 (hR 782),hE P "hall_apart" 1197 (hR 789),hE P "_law_cell_at" 1207 (hR 796),hE P "_law_mixed" 1216 (hR 803),hE P "_law_is" 1224 (hR 810),hE P "_law_names" 1238 (hR 817),hE P "_law_sizes" 1246 (hR 824),hE P "_law_rows" 1263 (hR 831),hE P "_law_loosened" 1279 (hR 838),hE P "_law_unfolded" 1294 (hR 845),hE P "_law_spoilt" 1300 (hR 850),hE P "_law_pair" 1313 (hR 857),hE P "_law_fault" 1325 (hR 864),hE P "_law_right" 1333 (hR 871),hE P "_law_asked" 1344 (hR 878),hE P "_law_unlike" 1350 (hR 883),hE P "law" 1356 (hR 888)]
def o3:=hN [hI 1,hI 0,hR 20,hI 5,hI 0,hR 27,hI 12,hI 0,hR 55,hI 25,hI 0,hR 95,hI 38,hI 0,hR 135,hI 54,hI 0,hR 182,hI 70,hI 0,hR 229,hI 79,hI 0,hR 236,hI 81,hI 0,hR 249,hI 87,hI 0,hR 268,hI 92,hI 0,hR 287,hI 94,hI 0,hR 299,hI 101,hI 0,hR 309,hI 105,hI 0,hR 314,hI 109,hI 0,hR 321,hI 112,hI 0,hR 328,hI 114,hI 0,hR 335,hI 123,hI 0,hR 342,hI 132,hI 0,hR 349,hI 135,hI 0,hR 354,hI 137,hI 0,hR 359,hI 139,hI 0,hR 366,hI 168,hI 0,hR 432,hI 172,hI 0,hR 451,hI 175,hI 0,hR 456,hI 178,hI 0,hR 463,hI 189,hI 0,hR 468,hI 191,hI 0,hR 473,hI 193,hI 0,hR 478,hI 199,hI 0,hR 483,hI 204,hI 0,hR 488,hI 210,hI 0,hR 495,hI 260,hI 0,hR 543,hI 269,hI 0,hR 550,hI 288,hI 0,hR 583,hI 300,hI 0,hR 591,hI 308,hI 0,hR 598,hI 313,hI 0,hR 605,hI 318,hI 0,hR 612,hI 326,hI 0,hR 619,hI 329,hI 0,hR 624,hI 331,hI 0,hR 629,hI 333,hI 0,hR 636,hI 363,hI 0,hR 695,hI 377,hI 0,hR 700,hI 383,hI 0,hR 707,hI 385,hI 0,hR 714,hI 393,hI 0,hR 719,hI 397,hI 0,hR 726,hI 409,hI 0,hR 733,hI 412,hI 0,hR 738,hI 414,hI 0,hR 743,hI 416,hI 0,hR 750,hI 418,hI 0,hR 757,hI 421,hI 0,hR 764,hI 429,hI 0,hR 771,hI 432,hI 0,hR 776,hI 434,hI 0,hR 781,hI 448,hI 0,hR 788,hI 460,hI 0,hR 795,hI 464,hI 0,hR 802,hI 468,hI 0,hR 809,hI 470,hI 0,hR 816,hI 480,hI 0,hR 823,hI 487,hI 0,hR 830,hI 498,hI 0,hR 837,hI 513,hI 0,hR 844,hI 525,hI 0,hR 849,hI 533,hI 0,hR 856,hI 546,hI 0,hR 863,hI 555,hI 0,hR 870,hI 561,hI 0,hR 877,hI 579,hI 0,hR 882,hI 585,hI 0,hR 887]
def o4:=hT [hS "k" 190]
def o5:=hC "_wall" "_wall" (top 0)
def o6:=hK [hS "_wall" 187,hS "_wall" 188,hS "/claim/cut.py" 189,hI 1,hI 1,hI 0,hI 0,hI 3,hR 15,.bool true,hI 181,hR 16,.none,hR 17,hR 18,hR 19,hI 191,hI 1,hS "/claim/cut.py" 192]
def o7:=hF "_wall" "_wall" (top 0) (hS "__main__" 164) (hR 20)
def o8:Obj:=⟨(.type "builtin_function_or_method"),none,(.fields (Array.mk [.builtin "type.__prepare__",.type "type"])),Array.mk []⟩
def o9:=hDn 6 [hE P "__module__" 203 (hS "mustmay.doors" 194),hE P "__qualname__" 205 (hS "Door" 204),hE P "__firstlineno__" 207 (.int (5) 206),hE P "__init__" 215 (hR 35),hE P "told" 222 (hR 42),hE P "__static_attributes__" 224 (hR 43)]
def o10:=hN [hI 7,hI 4,hR 34,hI 10,hI 4,hR 41]
def o11:=hK [hS "Door" 198,hS "Door" 199,hS "/claim/cut.py" 200,hI 5,hI 0,hI 0,hI 0,hI 0,hR 25,.bool false,hI 181,hR 26,.none,.none,.none,.none,hI 201,hI 5,hS "/claim/cut.py" 202]
def o12:Obj:=⟨(.type "frame"),none,.plain,Array.mk [some (hR 27),some (hR 3),some (hR 24),none,some (hS "mustmay.doors" 194),none,some (hR 0)]⟩
def o13:=hT [hS "self" 211,hS "to" 212]
def o14:=hC "__init__" "Door.__init__" (inClass (top 2) 0)
def o15:=hK [hS "__init__" 208,hS "Door.__init__" 209,hS "/claim/cut.py" 210,hI 7,hI 2,hI 0,hI 0,hI 3,hR 29,.bool true,hI 181,hR 30,.none,hR 31,hR 32,hR 33,hI 213,hI 7,hS "/claim/cut.py" 214]
def o16:=hF "__init__" "Door.__init__" (inClass (top 2) 0) (hS "mustmay.doors" 194) (hR 34)
def o17:=hT [hS "self" 219]
def o18:=hC "told" "Door.told" (inClass (top 2) 1)
def o19:=hK [hS "told" 216,hS "Door.told" 217,hS "/claim/cut.py" 218,hI 10,hI 1,hI 0,hI 0,hI 3,hR 36,.bool true,hI 181,hR 37,.none,hR 38,hR 39,hR 40,hI 220,hI 10,hS "/claim/cut.py" 221]
def o20:=hF "told" "Door.told" (inClass (top 2) 1) (hS "mustmay.doors" 194) (hR 41)
def o21:=hT [hS "to" 223]
def o22:=hDn 4 [hE P "__module__" 203 (hS "mustmay.doors" 194),hE P "__firstlineno__" 207 (.int (5) 206),hE P "__init__" 215 (hR 35),hE P "told" 222 (hR 42),hE P "__static_attributes__" 224 (hR 43),hE P "__dict__" 226 (hR 46),hE P "__weakref__" 228 (hR 47),hE P "__doc__" 229 .none]
def o23:Obj:=⟨(.type "type"),none,(.cls ⟨"Door",[.type "object"],[hR 45,.type "object"],44,"Door",true,[],[hR 87,hR 127,hR 174,hR 221],false,none,false⟩),Array.mk [none,none,some (hS "Door" 196),some (hS "Door" 204),some (.builtin "object.__new__"),some (.bool true)]⟩
def o24:Obj:=⟨(.type "getset_descriptor"),none,(.fields (Array.mk [hS "__dict__" 225,hR 45,.builtin "function.__dict__",.builtin "function.__dict__#set"])),Array.mk []⟩
def o25:Obj:=⟨(.type "getset_descriptor"),none,(.fields (Array.mk [hS "__weakref__" 227,hR 45,.builtin "ExceptionGroup.__weakref__",.none])),Array.mk []⟩
def o26:Obj:=⟨(.type "super"),none,(.fields (Array.mk [hR 45,hR 45,hR 45])),Array.mk []⟩
def o27:Obj:=⟨(.type "builtin_function_or_method"),none,(.fields (Array.mk [.builtin "object.__init_subclass__",hR 45])),Array.mk []⟩
def o28:=hDn 8 [hE P "__module__" 239 (hS "mustmay.doors" 194),hE P "__qualname__" 241 (hS "Must" 240),hE P "__firstlineno__" 243 (.int (12) 242),hE P "word" 250 (hR 63),hE P "needs" 257 (hR 70),hE P "allows" 264 (hR 77),hE P "led" 272 (hR 84),hE P "__static_attributes__" 273 (hR 85)]
def o29:=hN [hI 14,hI 4,hR 62,hI 17,hI 4,hR 69,hI 20,hI 4,hR 76,hI 23,hI 4,hR 83]
def o30:=hK [hS "Must" 234,hS "Must" 235,hS "/claim/cut.py" 236,hI 12,hI 0,hI 0,hI 0,hI 0,hR 53,.bool false,hI 181,hR 54,.none,.none,.none,.none,hI 237,hI 12,hS "/claim/cut.py" 238]
def o31:Obj:=⟨(.type "frame"),none,.plain,Array.mk [some (hR 55),some (hR 3),some (hR 52),none,some (hS "mustmay.doors" 194),none,some (hR 0)]⟩
def o32:=hT [hS "self" 247]
def o33:=hC "word" "Must.word" (inClass (top 3) 0)
def o34:=hK [hS "word" 244,hS "Must.word" 245,hS "/claim/cut.py" 246,hI 14,hI 1,hI 0,hI 0,hI 3,hR 57,.bool true,hI 181,hR 58,.none,hR 59,hR 60,hR 61,hI 248,hI 14,hS "/claim/cut.py" 249]
def o35:=hF "word" "Must.word" (inClass (top 3) 0) (hS "mustmay.doors" 194) (hR 62)
def o36:=hT [hS "self" 254]
def o37:=hC "needs" "Must.needs" (inClass (top 3) 1)
def o38:=hK [hS "needs" 251,hS "Must.needs" 252,hS "/claim/cut.py" 253,hI 17,hI 1,hI 0,hI 0,hI 3,hR 64,.bool true,hI 181,hR 65,.none,hR 66,hR 67,hR 68,hI 255,hI 17,hS "/claim/cut.py" 256]
def o39:=hF "needs" "Must.needs" (inClass (top 3) 1) (hS "mustmay.doors" 194) (hR 69)
def o40:=hT [hS "self" 261]
def o41:=hC "allows" "Must.allows" (inClass (top 3) 2)
def o42:=hK [hS "allows" 258,hS "Must.allows" 259,hS "/claim/cut.py" 260,hI 20,hI 1,hI 0,hI 0,hI 3,hR 71,.bool true,hI 181,hR 72,.none,hR 73,hR 74,hR 75,hI 262,hI 20,hS "/claim/cut.py" 263]
def o43:=hF "allows" "Must.allows" (inClass (top 3) 2) (hS "mustmay.doors" 194) (hR 76)
def o44:=hT [hS "self" 268,hS "to" 269]
def o45:=hC "led" "Must.led" (inClass (top 3) 3)
def o46:=hK [hS "led" 265,hS "Must.led" 266,hS "/claim/cut.py" 267,hI 23,hI 2,hI 0,hI 0,hI 3,hR 78,.bool true,hI 181,hR 79,.none,hR 80,hR 81,hR 82,hI 270,hI 23,hS "/claim/cut.py" 271]
def o47:=hF "led" "Must.led" (inClass (top 3) 3) (hS "mustmay.doors" 194) (hR 83)
def o48:=hDn 2 [hE P "__module__" 239 (hS "mustmay.doors" 194),hE P "__firstlineno__" 243 (.int (12) 242),hE P "word" 250 (hR 63),hE P "needs" 257 (hR 70),hE P "allows" 264 (hR 77),hE P "led" 272 (hR 84),hE P "__static_attributes__" 273 (hR 85),hE P "__doc__" 274 .none]
def o49:Obj:=⟨(.type "type"),none,(.cls ⟨"Must",[hR 45],[hR 87,hR 45,.type "object"],86,"Must",true,[],[],false,none,false⟩),Array.mk [some (hR 50),none,some (hS "Must" 232),some (hS "Must" 240),some (.builtin "object.__new__"),some (.bool true)]⟩
def o50:Obj:=⟨(.type "super"),none,(.fields (Array.mk [hR 87,hR 87,hR 87])),Array.mk []⟩
def o51:Obj:=⟨(.type "builtin_function_or_method"),none,(.fields (Array.mk [.builtin "object.__init_subclass__",hR 87])),Array.mk []⟩
def o52:=hDn 8 [hE P "__module__" 284 (hS "mustmay.doors" 194),hE P "__qualname__" 286 (hS "May" 285),hE P "__firstlineno__" 288 (.int (25) 287),hE P "word" 295 (hR 103),hE P "needs" 302 (hR 110),hE P "allows" 309 (hR 117),hE P "led" 317 (hR 124),hE P "__static_attributes__" 318 (hR 125)]
def o53:=hN [hI 27,hI 4,hR 102,hI 30,hI 4,hR 109,hI 33,hI 4,hR 116,hI 36,hI 4,hR 123]
def o54:=hK [hS "May" 279,hS "May" 280,hS "/claim/cut.py" 281,hI 25,hI 0,hI 0,hI 0,hI 0,hR 93,.bool false,hI 181,hR 94,.none,.none,.none,.none,hI 282,hI 25,hS "/claim/cut.py" 283]
def o55:Obj:=⟨(.type "frame"),none,.plain,Array.mk [some (hR 95),some (hR 3),some (hR 92),none,some (hS "mustmay.doors" 194),none,some (hR 0)]⟩
def o56:=hT [hS "self" 292]
def o57:=hC "word" "May.word" (inClass (top 4) 0)
def o58:=hK [hS "word" 289,hS "May.word" 290,hS "/claim/cut.py" 291,hI 27,hI 1,hI 0,hI 0,hI 3,hR 97,.bool true,hI 181,hR 98,.none,hR 99,hR 100,hR 101,hI 293,hI 27,hS "/claim/cut.py" 294]
def o59:=hF "word" "May.word" (inClass (top 4) 0) (hS "mustmay.doors" 194) (hR 102)
def o60:=hT [hS "self" 299]
def o61:=hC "needs" "May.needs" (inClass (top 4) 1)
def o62:=hK [hS "needs" 296,hS "May.needs" 297,hS "/claim/cut.py" 298,hI 30,hI 1,hI 0,hI 0,hI 3,hR 104,.bool true,hI 181,hR 105,.none,hR 106,hR 107,hR 108,hI 300,hI 30,hS "/claim/cut.py" 301]
def o63:=hF "needs" "May.needs" (inClass (top 4) 1) (hS "mustmay.doors" 194) (hR 109)
def o64:=hT [hS "self" 306]
def o65:=hC "allows" "May.allows" (inClass (top 4) 2)
def o66:=hK [hS "allows" 303,hS "May.allows" 304,hS "/claim/cut.py" 305,hI 33,hI 1,hI 0,hI 0,hI 3,hR 111,.bool true,hI 181,hR 112,.none,hR 113,hR 114,hR 115,hI 307,hI 33,hS "/claim/cut.py" 308]
def o67:=hF "allows" "May.allows" (inClass (top 4) 2) (hS "mustmay.doors" 194) (hR 116)
def o68:=hT [hS "self" 313,hS "to" 314]
def o69:=hC "led" "May.led" (inClass (top 4) 3)
def o70:=hK [hS "led" 310,hS "May.led" 311,hS "/claim/cut.py" 312,hI 36,hI 2,hI 0,hI 0,hI 3,hR 118,.bool true,hI 181,hR 119,.none,hR 120,hR 121,hR 122,hI 315,hI 36,hS "/claim/cut.py" 316]
def o71:=hF "led" "May.led" (inClass (top 4) 3) (hS "mustmay.doors" 194) (hR 123)
def o72:=hDn 2 [hE P "__module__" 284 (hS "mustmay.doors" 194),hE P "__firstlineno__" 288 (.int (25) 287),hE P "word" 295 (hR 103),hE P "needs" 302 (hR 110),hE P "allows" 309 (hR 117),hE P "led" 317 (hR 124),hE P "__static_attributes__" 318 (hR 125),hE P "__doc__" 319 .none]
def o73:Obj:=⟨(.type "type"),none,(.cls ⟨"May",[hR 45],[hR 127,hR 45,.type "object"],126,"May",true,[],[],false,none,false⟩),Array.mk [some (hR 90),none,some (hS "May" 277),some (hS "May" 285),some (.builtin "object.__new__"),some (.bool true)]⟩
def o74:Obj:=⟨(.type "super"),none,(.fields (Array.mk [hR 127,hR 127,hR 127])),Array.mk []⟩
def o75:Obj:=⟨(.type "builtin_function_or_method"),none,(.fields (Array.mk [.builtin "object.__init_subclass__",hR 127])),Array.mk []⟩
def o76:=hDn 9 [hE P "__module__" 329 (hS "mustmay.doors" 194),hE P "__qualname__" 331 (hS "Shut" 330),hE P "__firstlineno__" 333 (.int (38) 332),hE P "__init__" 340 (hR 143),hE P "word" 347 (hR 150),hE P "needs" 354 (hR 157),hE P "allows" 361 (hR 164),hE P "led" 369 (hR 171),hE P "__static_attributes__" 370 (hR 172)]
def o77:=hN [hI 40,hI 4,hR 142,hI 43,hI 4,hR 149,hI 46,hI 4,hR 156,hI 49,hI 4,hR 163,hI 52,hI 4,hR 170]
def o78:=hK [hS "Shut" 324,hS "Shut" 325,hS "/claim/cut.py" 326,hI 38,hI 0,hI 0,hI 0,hI 0,hR 133,.bool false,hI 181,hR 134,.none,.none,.none,.none,hI 327,hI 38,hS "/claim/cut.py" 328]
def o79:Obj:=⟨(.type "frame"),none,.plain,Array.mk [some (hR 135),some (hR 3),some (hR 132),none,some (hS "mustmay.doors" 194),none,some (hR 0)]⟩
def o80:=hT [hS "self" 337]
def o81:=hC "__init__" "Shut.__init__" (inClass (top 5) 0)
def o82:=hK [hS "__init__" 334,hS "Shut.__init__" 335,hS "/claim/cut.py" 336,hI 40,hI 1,hI 0,hI 0,hI 3,hR 137,.bool true,hI 181,hR 138,.none,hR 139,hR 140,hR 141,hI 338,hI 40,hS "/claim/cut.py" 339]
def o83:=hF "__init__" "Shut.__init__" (inClass (top 5) 0) (hS "mustmay.doors" 194) (hR 142)
def o84:=hT [hS "self" 344]
def o85:=hC "word" "Shut.word" (inClass (top 5) 1)
def o86:=hK [hS "word" 341,hS "Shut.word" 342,hS "/claim/cut.py" 343,hI 43,hI 1,hI 0,hI 0,hI 3,hR 144,.bool true,hI 181,hR 145,.none,hR 146,hR 147,hR 148,hI 345,hI 43,hS "/claim/cut.py" 346]
def o87:=hF "word" "Shut.word" (inClass (top 5) 1) (hS "mustmay.doors" 194) (hR 149)
def o88:=hT [hS "self" 351]
def o89:=hC "needs" "Shut.needs" (inClass (top 5) 2)
def o90:=hK [hS "needs" 348,hS "Shut.needs" 349,hS "/claim/cut.py" 350,hI 46,hI 1,hI 0,hI 0,hI 3,hR 151,.bool true,hI 181,hR 152,.none,hR 153,hR 154,hR 155,hI 352,hI 46,hS "/claim/cut.py" 353]
def o91:=hF "needs" "Shut.needs" (inClass (top 5) 2) (hS "mustmay.doors" 194) (hR 156)
def o92:=hT [hS "self" 358]
def o93:=hC "allows" "Shut.allows" (inClass (top 5) 3)
def o94:=hK [hS "allows" 355,hS "Shut.allows" 356,hS "/claim/cut.py" 357,hI 49,hI 1,hI 0,hI 0,hI 3,hR 158,.bool true,hI 181,hR 159,.none,hR 160,hR 161,hR 162,hI 359,hI 49,hS "/claim/cut.py" 360]
def o95:=hF "allows" "Shut.allows" (inClass (top 5) 3) (hS "mustmay.doors" 194) (hR 163)
def o96:=hT [hS "self" 365,hS "to" 366]
def o97:=hC "led" "Shut.led" (inClass (top 5) 4)
def o98:=hK [hS "led" 362,hS "Shut.led" 363,hS "/claim/cut.py" 364,hI 52,hI 2,hI 0,hI 0,hI 3,hR 165,.bool true,hI 181,hR 166,.none,hR 167,hR 168,hR 169,hI 367,hI 52,hS "/claim/cut.py" 368]
def o99:=hF "led" "Shut.led" (inClass (top 5) 4) (hS "mustmay.doors" 194) (hR 170)
def o100:=hDn 2 [hE P "__module__" 329 (hS "mustmay.doors" 194),hE P "__firstlineno__" 333 (.int (38) 332),hE P "__init__" 340 (hR 143),hE P "word" 347 (hR 150),hE P "needs" 354 (hR 157),hE P "allows" 361 (hR 164),hE P "led" 369 (hR 171),hE P "__static_attributes__" 370 (hR 172),hE P "__doc__" 371 .none]
def o101:Obj:=⟨(.type "type"),none,(.cls ⟨"Shut",[hR 45],[hR 174,hR 45,.type "object"],173,"Shut",true,[],[],false,none,false⟩),Array.mk [some (hR 130),none,some (hS "Shut" 322),some (hS "Shut" 330),some (.builtin "object.__new__"),some (.bool true)]⟩
def o102:Obj:=⟨(.type "super"),none,(.fields (Array.mk [hR 174,hR 174,hR 174])),Array.mk []⟩
def o103:Obj:=⟨(.type "builtin_function_or_method"),none,(.fields (Array.mk [.builtin "object.__init_subclass__",hR 174])),Array.mk []⟩
def o104:=hDn 9 [hE P "__module__" 381 (hS "mustmay.doors" 194),hE P "__qualname__" 383 (hS "Torn" 382),hE P "__firstlineno__" 385 (.int (54) 384),hE P "__init__" 392 (hR 190),hE P "word" 399 (hR 197),hE P "needs" 406 (hR 204),hE P "allows" 413 (hR 211),hE P "led" 421 (hR 218),hE P "__static_attributes__" 422 (hR 219)]
def o105:=hN [hI 56,hI 4,hR 189,hI 59,hI 4,hR 196,hI 62,hI 4,hR 203,hI 65,hI 4,hR 210,hI 68,hI 4,hR 217]
def o106:=hK [hS "Torn" 376,hS "Torn" 377,hS "/claim/cut.py" 378,hI 54,hI 0,hI 0,hI 0,hI 0,hR 180,.bool false,hI 181,hR 181,.none,.none,.none,.none,hI 379,hI 54,hS "/claim/cut.py" 380]
def o107:Obj:=⟨(.type "frame"),none,.plain,Array.mk [some (hR 182),some (hR 3),some (hR 179),none,some (hS "mustmay.doors" 194),none,some (hR 0)]⟩
def o108:=hT [hS "self" 389]
def o109:=hC "__init__" "Torn.__init__" (inClass (top 6) 0)
def o110:=hK [hS "__init__" 386,hS "Torn.__init__" 387,hS "/claim/cut.py" 388,hI 56,hI 1,hI 0,hI 0,hI 3,hR 184,.bool true,hI 181,hR 185,.none,hR 186,hR 187,hR 188,hI 390,hI 56,hS "/claim/cut.py" 391]
def o111:=hF "__init__" "Torn.__init__" (inClass (top 6) 0) (hS "mustmay.doors" 194) (hR 189)
def o112:=hT [hS "self" 396]
def o113:=hC "word" "Torn.word" (inClass (top 6) 1)
def o114:=hK [hS "word" 393,hS "Torn.word" 394,hS "/claim/cut.py" 395,hI 59,hI 1,hI 0,hI 0,hI 3,hR 191,.bool true,hI 181,hR 192,.none,hR 193,hR 194,hR 195,hI 397,hI 59,hS "/claim/cut.py" 398]
def o115:=hF "word" "Torn.word" (inClass (top 6) 1) (hS "mustmay.doors" 194) (hR 196)
def o116:=hT [hS "self" 403]
def o117:=hC "needs" "Torn.needs" (inClass (top 6) 2)
def o118:=hK [hS "needs" 400,hS "Torn.needs" 401,hS "/claim/cut.py" 402,hI 62,hI 1,hI 0,hI 0,hI 3,hR 198,.bool true,hI 181,hR 199,.none,hR 200,hR 201,hR 202,hI 404,hI 62,hS "/claim/cut.py" 405]
def o119:=hF "needs" "Torn.needs" (inClass (top 6) 2) (hS "mustmay.doors" 194) (hR 203)
def o120:=hT [hS "self" 410]
def o121:=hC "allows" "Torn.allows" (inClass (top 6) 3)
def o122:=hK [hS "allows" 407,hS "Torn.allows" 408,hS "/claim/cut.py" 409,hI 65,hI 1,hI 0,hI 0,hI 3,hR 205,.bool true,hI 181,hR 206,.none,hR 207,hR 208,hR 209,hI 411,hI 65,hS "/claim/cut.py" 412]
def o123:=hF "allows" "Torn.allows" (inClass (top 6) 3) (hS "mustmay.doors" 194) (hR 210)
def o124:=hT [hS "self" 417,hS "to" 418]
def o125:=hC "led" "Torn.led" (inClass (top 6) 4)
def o126:=hK [hS "led" 414,hS "Torn.led" 415,hS "/claim/cut.py" 416,hI 68,hI 2,hI 0,hI 0,hI 3,hR 212,.bool true,hI 181,hR 213,.none,hR 214,hR 215,hR 216,hI 419,hI 68,hS "/claim/cut.py" 420]
def o127:=hF "led" "Torn.led" (inClass (top 6) 4) (hS "mustmay.doors" 194) (hR 217)
def o128:=hDn 2 [hE P "__module__" 381 (hS "mustmay.doors" 194),hE P "__firstlineno__" 385 (.int (54) 384),hE P "__init__" 392 (hR 190),hE P "word" 399 (hR 197),hE P "needs" 406 (hR 204),hE P "allows" 413 (hR 211),hE P "led" 421 (hR 218),hE P "__static_attributes__" 422 (hR 219),hE P "__doc__" 423 .none]
def o129:Obj:=⟨(.type "type"),none,(.cls ⟨"Torn",[hR 45],[hR 221,hR 45,.type "object"],220,"Torn",true,[],[],false,none,false⟩),Array.mk [some (hR 177),none,some (hS "Torn" 374),some (hS "Torn" 382),some (.builtin "object.__new__"),some (.bool true)]⟩
def o130:Obj:=⟨(.type "super"),none,(.fields (Array.mk [hR 221,hR 221,hR 221])),Array.mk []⟩
def o131:Obj:=⟨(.type "builtin_function_or_method"),none,(.fields (Array.mk [.builtin "object.__init_subclass__",hR 221])),Array.mk []⟩
def o132:=hT [hS "needs" 429,hS "allows" 430,hS "to" 431]
def o133:=hC "door_of" "door_of" (top 7)
def o134:=hK [hS "door_of" 426,hS "door_of" 427,hS "/claim/cut.py" 428,hI 70,hI 3,hI 0,hI 0,hI 3,hR 224,.bool true,hI 181,hR 225,.none,hR 226,hR 227,hR 228,hI 432,hI 70,hS "/claim/cut.py" 433]
def o135:=hF "door_of" "door_of" (top 7) (hS "mustmay.doors" 194) (hR 229)
def o136:=hT [.type "ValueError"]
def o137:=hDn 4 [hE P "__module__" 444 (hS "mustmay.errors" 435),hE P "__qualname__" 446 (hS "HallError" 445),hE P "__firstlineno__" 448 (.int (79) 447),hE P "__static_attributes__" 449 (hR 238)]
def o138:=hK [hS "HallError" 439,hS "HallError" 440,hS "/claim/cut.py" 441,hI 79,hI 0,hI 0,hI 0,hI 0,hR 234,.bool false,hI 181,hR 235,.none,.none,.none,.none,hI 442,hI 79,hS "/claim/cut.py" 443]
def o139:Obj:=⟨(.type "frame"),none,.plain,Array.mk [some (hR 236),some (hR 3),some (hR 233),none,some (hS "mustmay.errors" 435),none,some (hR 0)]⟩
def o140:=hDn 3 [hE P "__module__" 444 (hS "mustmay.errors" 435),hE P "__firstlineno__" 448 (.int (79) 447),hE P "__static_attributes__" 449 (hR 238),hE P "__weakref__" 451 (hR 241),hE P "__doc__" 452 .none]
def o141:Obj:=⟨(.type "type"),none,(.cls ⟨"HallError",[.type "ValueError"],[hR 240,.type "ValueError",.type "Exception",.type "BaseException",.type "object"],239,"HallError",true,[],[hR 260,hR 279,hR 291,hR 303],false,none,false⟩),Array.mk [some (hR 231),none,some (hS "HallError" 437),some (hS "HallError" 445),some (.builtin "ValueError.__new__"),some (.bool true)]⟩
def o142:Obj:=⟨(.type "getset_descriptor"),none,(.fields (Array.mk [hS "__weakref__" 450,hR 240,.builtin "ExceptionGroup.__weakref__",.none])),Array.mk []⟩
def o143:Obj:=⟨(.type "super"),none,(.fields (Array.mk [hR 240,hR 240,hR 240])),Array.mk []⟩
def o144:Obj:=⟨(.type "builtin_function_or_method"),none,(.fields (Array.mk [.builtin "object.__init_subclass__",hR 240])),Array.mk []⟩
def o145:=hDn 5 [hE P "__module__" 462 (hS "mustmay.errors" 435),hE P "__qualname__" 464 (hS "BadPlan" 463),hE P "__firstlineno__" 466 (.int (81) 465),hE P "__init__" 475 (hR 257),hE P "__static_attributes__" 478 (hR 258)]
def o146:=hN [hI 83,hI 4,hR 256]
def o147:=hK [hS "BadPlan" 457,hS "BadPlan" 458,hS "/claim/cut.py" 459,hI 81,hI 0,hI 0,hI 0,hI 0,hR 247,.bool false,hI 181,hR 248,.none,.none,.none,.none,hI 460,hI 81,hS "/claim/cut.py" 461]
def o148:Obj:=⟨(.type "frame"),none,.plain,Array.mk [some (hR 249),some (hR 3),some (hR 246),none,some (hS "mustmay.errors" 435),none,some (hR 0)]⟩
def o149:=hT [hS "self" 470,hS "room" 471,hS "action" 472]
def o150:=hC "__init__" "BadPlan.__init__" (inClass (top 10) 0)
def o151:=hK [hS "__init__" 467,hS "BadPlan.__init__" 468,hS "/claim/cut.py" 469,hI 83,hI 3,hI 0,hI 0,hI 3,hR 251,.bool true,hI 181,hR 252,.none,hR 253,hR 254,hR 255,hI 473,hI 83,hS "/claim/cut.py" 474]
def o152:=hF "__init__" "BadPlan.__init__" (inClass (top 10) 0) (hS "mustmay.errors" 435) (hR 256)
def o153:=hT [hS "action" 476,hS "room" 477]
def o154:=hDn 2 [hE P "__module__" 462 (hS "mustmay.errors" 435),hE P "__firstlineno__" 466 (.int (81) 465),hE P "__init__" 475 (hR 257),hE P "__static_attributes__" 478 (hR 258),hE P "__doc__" 479 .none]
def o155:Obj:=⟨(.type "type"),none,(.cls ⟨"BadPlan",[hR 240],[hR 260,hR 240,.type "ValueError",.type "Exception",.type "BaseException",.type "object"],259,"BadPlan",true,[],[],false,none,false⟩),Array.mk [some (hR 244),none,some (hS "BadPlan" 455),some (hS "BadPlan" 463),some (.builtin "ValueError.__new__"),some (.bool true)]⟩
def o156:Obj:=⟨(.type "super"),none,(.fields (Array.mk [hR 260,hR 260,hR 260])),Array.mk []⟩
def o157:Obj:=⟨(.type "builtin_function_or_method"),none,(.fields (Array.mk [.builtin "object.__init_subclass__",hR 260])),Array.mk []⟩
def o158:=hDn 5 [hE P "__module__" 489 (hS "mustmay.errors" 435),hE P "__qualname__" 491 (hS "NoWay" 490),hE P "__firstlineno__" 493 (.int (87) 492),hE P "__init__" 501 (hR 276),hE P "__static_attributes__" 503 (hR 277)]
def o159:=hN [hI 89,hI 4,hR 275]
def o160:=hK [hS "NoWay" 484,hS "NoWay" 485,hS "/claim/cut.py" 486,hI 87,hI 0,hI 0,hI 0,hI 0,hR 266,.bool false,hI 181,hR 267,.none,.none,.none,.none,hI 487,hI 87,hS "/claim/cut.py" 488]
def o161:Obj:=⟨(.type "frame"),none,.plain,Array.mk [some (hR 268),some (hR 3),some (hR 265),none,some (hS "mustmay.errors" 435),none,some (hR 0)]⟩
def o162:=hT [hS "self" 497,hS "at" 498]
def o163:=hC "__init__" "NoWay.__init__" (inClass (top 11) 0)
def o164:=hK [hS "__init__" 494,hS "NoWay.__init__" 495,hS "/claim/cut.py" 496,hI 89,hI 2,hI 0,hI 0,hI 3,hR 270,.bool true,hI 181,hR 271,.none,hR 272,hR 273,hR 274,hI 499,hI 89,hS "/claim/cut.py" 500]
def o165:=hF "__init__" "NoWay.__init__" (inClass (top 11) 0) (hS "mustmay.errors" 435) (hR 275)
def o166:=hT [hS "at" 502]
def o167:=hDn 2 [hE P "__module__" 489 (hS "mustmay.errors" 435),hE P "__firstlineno__" 493 (.int (87) 492),hE P "__init__" 501 (hR 276),hE P "__static_attributes__" 503 (hR 277),hE P "__doc__" 504 .none]
def o168:Obj:=⟨(.type "type"),none,(.cls ⟨"NoWay",[hR 240],[hR 279,hR 240,.type "ValueError",.type "Exception",.type "BaseException",.type "object"],278,"NoWay",true,[],[],false,none,false⟩),Array.mk [some (hR 263),none,some (hS "NoWay" 482),some (hS "NoWay" 490),some (.builtin "ValueError.__new__"),some (.bool true)]⟩
def o169:Obj:=⟨(.type "super"),none,(.fields (Array.mk [hR 279,hR 279,hR 279])),Array.mk []⟩
def o170:Obj:=⟨(.type "builtin_function_or_method"),none,(.fields (Array.mk [.builtin "object.__init_subclass__",hR 279])),Array.mk []⟩
def o171:=hDn 4 [hE P "__module__" 514 (hS "mustmay.errors" 435),hE P "__qualname__" 516 (hS "Unlike" 515),hE P "__firstlineno__" 518 (.int (92) 517),hE P "__static_attributes__" 519 (hR 289)]
def o172:=hK [hS "Unlike" 509,hS "Unlike" 510,hS "/claim/cut.py" 511,hI 92,hI 0,hI 0,hI 0,hI 0,hR 285,.bool false,hI 181,hR 286,.none,.none,.none,.none,hI 512,hI 92,hS "/claim/cut.py" 513]
def o173:Obj:=⟨(.type "frame"),none,.plain,Array.mk [some (hR 287),some (hR 3),some (hR 284),none,some (hS "mustmay.errors" 435),none,some (hR 0)]⟩
def o174:=hDn 2 [hE P "__module__" 514 (hS "mustmay.errors" 435),hE P "__firstlineno__" 518 (.int (92) 517),hE P "__static_attributes__" 519 (hR 289),hE P "__doc__" 520 .none]
def o175:Obj:=⟨(.type "type"),none,(.cls ⟨"Unlike",[hR 240],[hR 291,hR 240,.type "ValueError",.type "Exception",.type "BaseException",.type "object"],290,"Unlike",true,[],[],false,none,false⟩),Array.mk [some (hR 282),none,some (hS "Unlike" 507),some (hS "Unlike" 515),some (.builtin "ValueError.__new__"),some (.bool true)]⟩
def o176:Obj:=⟨(.type "super"),none,(.fields (Array.mk [hR 291,hR 291,hR 291])),Array.mk []⟩
def o177:Obj:=⟨(.type "builtin_function_or_method"),none,(.fields (Array.mk [.builtin "object.__init_subclass__",hR 291])),Array.mk []⟩
def o178:=hDn 4 [hE P "__module__" 530 (hS "mustmay.errors" 435),hE P "__qualname__" 532 (hS "TooMany" 531),hE P "__firstlineno__" 534 (.int (94) 533),hE P "__static_attributes__" 535 (hR 301)]
def o179:=hK [hS "TooMany" 525,hS "TooMany" 526,hS "/claim/cut.py" 527,hI 94,hI 0,hI 0,hI 0,hI 0,hR 297,.bool false,hI 181,hR 298,.none,.none,.none,.none,hI 528,hI 94,hS "/claim/cut.py" 529]
def o180:Obj:=⟨(.type "frame"),none,.plain,Array.mk [some (hR 299),some (hR 3),some (hR 296),none,some (hS "mustmay.errors" 435),none,some (hR 0)]⟩
def o181:=hDn 2 [hE P "__module__" 530 (hS "mustmay.errors" 435),hE P "__firstlineno__" 534 (.int (94) 533),hE P "__static_attributes__" 535 (hR 301),hE P "__doc__" 536 .none]
def o182:Obj:=⟨(.type "type"),none,(.cls ⟨"TooMany",[hR 240],[hR 303,hR 240,.type "ValueError",.type "Exception",.type "BaseException",.type "object"],302,"TooMany",true,[],[],false,none,false⟩),Array.mk [some (hR 294),none,some (hS "TooMany" 523),some (hS "TooMany" 531),some (.builtin "ValueError.__new__"),some (.bool true)]⟩
def o183:Obj:=⟨(.type "super"),none,(.fields (Array.mk [hR 303,hR 303,hR 303])),Array.mk []⟩
def o184:Obj:=⟨(.type "builtin_function_or_method"),none,(.fields (Array.mk [.builtin "object.__init_subclass__",hR 303])),Array.mk []⟩
def o185:=hC "is_name" "is_name" (top 19)
def o186:=hK [hS "is_name" 549,hS "is_name" 550,hS "/claim/cut.py" 551,hI 101,hI 1,hI 0,hI 0,hI 3,hR 306,.bool true,hI 181,hR 307,.none,.none,.none,hR 308,hI 552,hI 101,hS "/claim/cut.py" 553]
def o187:=hF "is_name" "is_name" (top 19) (hS "mustmay.plans" 539) (hR 309)
def o188:=hC "is_action_list" "is_action_list" (top 20)
def o189:=hK [hS "is_action_list" 555,hS "is_action_list" 556,hS "/claim/cut.py" 557,hI 105,hI 1,hI 0,hI 0,hI 3,hR 311,.bool true,hI 181,hR 312,.none,.none,.none,hR 313,hI 558,hI 105,hS "/claim/cut.py" 559]
def o190:=hF "is_action_list" "is_action_list" (top 20) (hS "mustmay.plans" 539) (hR 314)
def o191:=hT [hS "actions" 564]
def o192:=hC "need_actions" "need_actions" (top 21)
def o193:=hK [hS "need_actions" 561,hS "need_actions" 562,hS "/claim/cut.py" 563,hI 109,hI 1,hI 0,hI 0,hI 3,hR 316,.bool true,hI 181,hR 317,.none,hR 318,hR 319,hR 320,hI 565,hI 109,hS "/claim/cut.py" 566]
def o194:=hF "need_actions" "need_actions" (top 21) (hS "mustmay.plans" 539) (hR 321)
def o195:=hT [hS "thing" 571,hS "many" 572]
def o196:=hC "is_room" "is_room" (top 22)
def o197:=hK [hS "is_room" 568,hS "is_room" 569,hS "/claim/cut.py" 570,hI 112,hI 2,hI 0,hI 0,hI 3,hR 323,.bool true,hI 181,hR 324,.none,hR 325,hR 326,hR 327,hI 573,hI 112,hS "/claim/cut.py" 574]
def o198:=hF "is_room" "is_room" (top 22) (hS "mustmay.plans" 539) (hR 328)
def o199:=hT [hS "thing" 579,hS "many" 580,hS "torn_too" 581,hS "word" 582]
def o200:=hC "is_told_door" "is_told_door" (top 23)
def o201:=hK [hS "is_told_door" 576,hS "is_told_door" 577,hS "/claim/cut.py" 578,hI 114,hI 3,hI 0,hI 0,hI 3,hR 330,.bool true,hI 181,hR 331,.none,hR 332,hR 333,hR 334,hI 583,hI 114,hS "/claim/cut.py" 584]
def o202:=hF "is_told_door" "is_told_door" (top 23) (hS "mustmay.plans" 539) (hR 335)
def o203:=hT [hS "rows" 589,hS "many_actions" 590,hS "torn_too" 591,hS "room" 592,hS "row" 593,hS "action" 594,hS "thing" 595]
def o204:=hC "need_rooms" "need_rooms" (top 24)
def o205:=hK [hS "need_rooms" 586,hS "need_rooms" 587,hS "/claim/cut.py" 588,hI 123,hI 3,hI 0,hI 0,hI 3,hR 337,.bool true,hI 181,hR 338,.none,hR 339,hR 340,hR 341,hI 596,hI 123,hS "/claim/cut.py" 597]
def o206:=hF "need_rooms" "need_rooms" (top 24) (hS "mustmay.plans" 539) (hR 342)
def o207:=hT [hS "told" 602,hS "word" 603]
def o208:=hC "made_door" "made_door" (top 25)
def o209:=hK [hS "made_door" 599,hS "made_door" 600,hS "/claim/cut.py" 601,hI 132,hI 1,hI 0,hI 0,hI 3,hR 344,.bool true,hI 181,hR 345,.none,hR 346,hR 347,hR 348,hI 604,hI 132,hS "/claim/cut.py" 605]
def o210:=hF "made_door" "made_door" (top 25) (hS "mustmay.plans" 539) (hR 349)
def o211:=hC "made_room" "made_room" (top 26)
def o212:=hK [hS "made_room" 607,hS "made_room" 608,hS "/claim/cut.py" 609,hI 135,hI 1,hI 0,hI 0,hI 3,hR 351,.bool true,hI 181,hR 352,.none,.none,.none,hR 353,hI 610,hI 135,hS "/claim/cut.py" 611]
def o213:=hF "made_room" "made_room" (top 26) (hS "mustmay.plans" 539) (hR 354)
def o214:=hC "told_room" "told_room" (top 27)
def o215:=hK [hS "told_room" 613,hS "told_room" 614,hS "/claim/cut.py" 615,hI 137,hI 1,hI 0,hI 0,hI 3,hR 356,.bool true,hI 181,hR 357,.none,.none,.none,hR 358,hI 616,hI 137,hS "/claim/cut.py" 617]
def o216:=hF "told_room" "told_room" (top 27) (hS "mustmay.plans" 539) (hR 359)
def o217:=hDn 12 [hE P "__module__" 626 (hS "mustmay.plans" 539),hE P "__qualname__" 628 (hS "Draft" 627),hE P "__firstlineno__" 630 (.int (139) 629),hE P "__init__" 636 (hR 372),hE P "lets_torn" 643 (hR 379),hE P "action_list" 650 (hR 386),hE P "many" 657 (hR 393),hE P "door" 667 (hR 400),hE P "told" 673 (hR 405),hE P "after" 681 (hR 412),hE P "is_finished" 688 (hR 419),hE P "__static_attributes__" 691 (hR 420)]
def o218:=hN [hI 141,hI 4,hR 371,hI 147,hI 4,hR 378,hI 150,hI 4,hR 385,hI 153,hI 4,hR 392,hI 156,hI 4,hR 399,hI 160,hI 4,hR 404,hI 163,hI 4,hR 411,hI 166,hI 4,hR 418]
def o219:=hK [hS "Draft" 621,hS "Draft" 622,hS "/claim/cut.py" 623,hI 139,hI 0,hI 0,hI 0,hI 0,hR 364,.bool false,hI 181,hR 365,.none,.none,.none,.none,hI 624,hI 139,hS "/claim/cut.py" 625]
def o220:Obj:=⟨(.type "frame"),none,.plain,Array.mk [some (hR 366),some (hR 3),some (hR 363),none,some (hS "mustmay.plans" 539),none,some (hR 0)]⟩
def o221:=hC "__init__" "Draft.__init__" (inClass (top 28) 0)
def o222:=hK [hS "__init__" 631,hS "Draft.__init__" 632,hS "/claim/cut.py" 633,hI 141,hI 3,hI 0,hI 0,hI 3,hR 368,.bool true,hI 181,hR 369,.none,.none,.none,hR 370,hI 634,hI 141,hS "/claim/cut.py" 635]
def o223:=hF "__init__" "Draft.__init__" (inClass (top 28) 0) (hS "mustmay.plans" 539) (hR 371)
def o224:=hT [hS "self" 640]
def o225:=hC "lets_torn" "Draft.lets_torn" (inClass (top 28) 1)
def o226:=hK [hS "lets_torn" 637,hS "Draft.lets_torn" 638,hS "/claim/cut.py" 639,hI 147,hI 1,hI 0,hI 0,hI 3,hR 373,.bool true,hI 181,hR 374,.none,hR 375,hR 376,hR 377,hI 641,hI 147,hS "/claim/cut.py" 642]
def o227:=hF "lets_torn" "Draft.lets_torn" (inClass (top 28) 1) (hS "mustmay.plans" 539) (hR 378)
def o228:=hT [hS "self" 647]
def o229:=hC "action_list" "Draft.action_list" (inClass (top 28) 2)
def o230:=hK [hS "action_list" 644,hS "Draft.action_list" 645,hS "/claim/cut.py" 646,hI 150,hI 1,hI 0,hI 0,hI 3,hR 380,.bool true,hI 181,hR 381,.none,hR 382,hR 383,hR 384,hI 648,hI 150,hS "/claim/cut.py" 649]
def o231:=hF "action_list" "Draft.action_list" (inClass (top 28) 2) (hS "mustmay.plans" 539) (hR 385)
def o232:=hT [hS "self" 654]
def o233:=hC "many" "Draft.many" (inClass (top 28) 3)
def o234:=hK [hS "many" 651,hS "Draft.many" 652,hS "/claim/cut.py" 653,hI 153,hI 1,hI 0,hI 0,hI 3,hR 387,.bool true,hI 181,hR 388,.none,hR 389,hR 390,hR 391,hI 655,hI 153,hS "/claim/cut.py" 656]
def o235:=hF "many" "Draft.many" (inClass (top 28) 3) (hS "mustmay.plans" 539) (hR 392)
def o236:=hT [hS "self" 661,hS "room" 662,hS "action" 663,hS "kept" 664]
def o237:=hC "door" "Draft.door" (inClass (top 28) 4)
def o238:=hK [hS "door" 658,hS "Draft.door" 659,hS "/claim/cut.py" 660,hI 156,hI 3,hI 0,hI 0,hI 3,hR 394,.bool true,hI 181,hR 395,.none,hR 396,hR 397,hR 398,hI 665,hI 156,hS "/claim/cut.py" 666]
def o239:=hF "door" "Draft.door" (inClass (top 28) 4) (hS "mustmay.plans" 539) (hR 399)
def o240:=hC "told" "Draft.told" (inClass (top 28) 5)
def o241:=hK [hS "told" 668,hS "Draft.told" 669,hS "/claim/cut.py" 670,hI 160,hI 1,hI 0,hI 0,hI 3,hR 401,.bool true,hI 181,hR 402,.none,.none,.none,hR 403,hI 671,hI 160,hS "/claim/cut.py" 672]
def o242:=hF "told" "Draft.told" (inClass (top 28) 5) (hS "mustmay.plans" 539) (hR 404)
def o243:=hT [hS "self" 677,hS "row" 678]
def o244:=hC "after" "Draft.after" (inClass (top 28) 6)
def o245:=hK [hS "after" 674,hS "Draft.after" 675,hS "/claim/cut.py" 676,hI 163,hI 2,hI 0,hI 0,hI 3,hR 406,.bool true,hI 181,hR 407,.none,hR 408,hR 409,hR 410,hI 679,hI 163,hS "/claim/cut.py" 680]
def o246:=hF "after" "Draft.after" (inClass (top 28) 6) (hS "mustmay.plans" 539) (hR 411)
def o247:=hT [hS "self" 685]
def o248:=hC "is_finished" "Draft.is_finished" (inClass (top 28) 7)
def o249:=hK [hS "is_finished" 682,hS "Draft.is_finished" 683,hS "/claim/cut.py" 684,hI 166,hI 1,hI 0,hI 0,hI 3,hR 413,.bool true,hI 181,hR 414,.none,hR 415,hR 416,hR 417,hI 686,hI 166,hS "/claim/cut.py" 687]
def o250:=hF "is_finished" "Draft.is_finished" (inClass (top 28) 7) (hS "mustmay.plans" 539) (hR 418)
def o251:=hT [hS "actions" 689,hS "rooms" 690]
def o252:=hDn 4 [hE P "__module__" 626 (hS "mustmay.plans" 539),hE P "__firstlineno__" 630 (.int (139) 629),hE P "__init__" 636 (hR 372),hE P "lets_torn" 643 (hR 379),hE P "action_list" 650 (hR 386),hE P "many" 657 (hR 393),hE P "door" 667 (hR 400),hE P "told" 673 (hR 405),hE P "after" 681 (hR 412),hE P "is_finished" 688 (hR 419),hE P "__static_attributes__" 691 (hR 420),hE P "__dict__" 693 (hR 423),hE P "__weakref__" 695 (hR 424),hE P "__doc__" 696 .none]
def o253:Obj:=⟨(.type "type"),none,(.cls ⟨"Draft",[.type "object"],[hR 422,.type "object"],421,"Draft",true,[],[hR 443],false,none,false⟩),Array.mk [none,none,some (hS "Draft" 619),some (hS "Draft" 627),some (.builtin "object.__new__"),some (.bool true)]⟩
def o254:Obj:=⟨(.type "getset_descriptor"),none,(.fields (Array.mk [hS "__dict__" 692,hR 422,.builtin "function.__dict__",.builtin "function.__dict__#set"])),Array.mk []⟩
def o255:Obj:=⟨(.type "getset_descriptor"),none,(.fields (Array.mk [hS "__weakref__" 694,hR 422,.builtin "ExceptionGroup.__weakref__",.none])),Array.mk []⟩
def o256:Obj:=⟨(.type "super"),none,(.fields (Array.mk [hR 422,hR 422,hR 422])),Array.mk []⟩
def o257:Obj:=⟨(.type "builtin_function_or_method"),none,(.fields (Array.mk [.builtin "object.__init_subclass__",hR 422])),Array.mk []⟩
def o258:=hDn 5 [hE P "__module__" 706 (hS "mustmay.plans" 539),hE P "__qualname__" 708 (hS "Plan" 707),hE P "__firstlineno__" 710 (.int (168) 709),hE P "lets_torn" 717 (hR 440),hE P "__static_attributes__" 718 (hR 441)]
def o259:=hN [hI 170,hI 4,hR 439]
def o260:=hK [hS "Plan" 701,hS "Plan" 702,hS "/claim/cut.py" 703,hI 168,hI 0,hI 0,hI 0,hI 0,hR 430,.bool false,hI 181,hR 431,.none,.none,.none,.none,hI 704,hI 168,hS "/claim/cut.py" 705]
def o261:Obj:=⟨(.type "frame"),none,.plain,Array.mk [some (hR 432),some (hR 3),some (hR 429),none,some (hS "mustmay.plans" 539),none,some (hR 0)]⟩
def o262:=hT [hS "self" 714]
def o263:=hC "lets_torn" "Plan.lets_torn" (inClass (top 29) 0)
def o264:=hK [hS "lets_torn" 711,hS "Plan.lets_torn" 712,hS "/claim/cut.py" 713,hI 170,hI 1,hI 0,hI 0,hI 3,hR 434,.bool true,hI 181,hR 435,.none,hR 436,hR 437,hR 438,hI 715,hI 170,hS "/claim/cut.py" 716]
def o265:=hF "lets_torn" "Plan.lets_torn" (inClass (top 29) 0) (hS "mustmay.plans" 539) (hR 439)
def o266:=hDn 2 [hE P "__module__" 706 (hS "mustmay.plans" 539),hE P "__firstlineno__" 710 (.int (168) 709),hE P "lets_torn" 717 (hR 440),hE P "__static_attributes__" 718 (hR 441),hE P "__doc__" 719 .none]
def o267:Obj:=⟨(.type "type"),none,(.cls ⟨"Plan",[hR 422],[hR 443,hR 422,.type "object"],442,"Plan",true,[],[],false,none,false⟩),Array.mk [some (hR 427),none,some (hS "Plan" 699),some (hS "Plan" 707),some (.builtin "object.__new__"),some (.bool true)]⟩
def o268:Obj:=⟨(.type "super"),none,(.fields (Array.mk [hR 443,hR 443,hR 443])),Array.mk []⟩
def o269:Obj:=⟨(.type "builtin_function_or_method"),none,(.fields (Array.mk [.builtin "object.__init_subclass__",hR 443])),Array.mk []⟩
def o270:=hT [hS "one" 725,hS "other" 726]
def o271:=hC "need_same" "need_same" (top 30)
def o272:=hK [hS "need_same" 722,hS "need_same" 723,hS "/claim/cut.py" 724,hI 172,hI 2,hI 0,hI 0,hI 3,hR 446,.bool true,hI 181,hR 447,.none,hR 448,hR 449,hR 450,hI 727,hI 172,hS "/claim/cut.py" 728]
def o273:=hF "need_same" "need_same" (top 30) (hS "mustmay.plans" 539) (hR 451)
def o274:=hC "led_room" "led_room" (top 31)
def o275:=hK [hS "led_room" 730,hS "led_room" 731,hS "/claim/cut.py" 732,hI 175,hI 2,hI 0,hI 0,hI 3,hR 453,.bool true,hI 181,hR 454,.none,.none,.none,hR 455,hI 733,hI 175,hS "/claim/cut.py" 734]
def o276:=hF "led_room" "led_room" (top 31) (hS "mustmay.plans" 539) (hR 456)
def o277:=hT [hS "plan" 741,hS "order" 742,hS "seen" 743,hS "at" 744,hS "door" 745]
def o278:=hC "reached" "reached" (top 33)
def o279:=hK [hS "reached" 738,hS "reached" 739,hS "/claim/cut.py" 740,hI 178,hI 1,hI 0,hI 0,hI 3,hR 458,.bool true,hI 181,hR 459,.none,hR 460,hR 461,hR 462,hI 746,hI 178,hS "/claim/cut.py" 747]
def o280:=hF "reached" "reached" (top 33) (hS "mustmay.least" 736) (hR 463)
def o281:=hC "words_of" "words_of" (top 34)
def o282:=hK [hS "words_of" 749,hS "words_of" 750,hS "/claim/cut.py" 751,hI 189,hI 1,hI 0,hI 0,hI 3,hR 465,.bool true,hI 181,hR 466,.none,.none,.none,hR 467,hI 752,hI 189,hS "/claim/cut.py" 753]
def o283:=hF "words_of" "words_of" (top 34) (hS "mustmay.least" 736) (hR 468)
def o284:=hC "ends_of" "ends_of" (top 35)
def o285:=hK [hS "ends_of" 755,hS "ends_of" 756,hS "/claim/cut.py" 757,hI 191,hI 1,hI 0,hI 0,hI 3,hR 470,.bool true,hI 181,hR 471,.none,.none,.none,hR 472,hI 758,hI 191,hS "/claim/cut.py" 759]
def o286:=hF "ends_of" "ends_of" (top 35) (hS "mustmay.least" 736) (hR 473)
def o287:=hC "sources_of" "sources_of" (top 36)
def o288:=hK [hS "sources_of" 761,hS "sources_of" 762,hS "/claim/cut.py" 763,hI 193,hI 1,hI 0,hI 0,hI 3,hR 475,.bool true,hI 181,hR 476,.none,.none,.none,hR 477,hI 764,hI 193,hS "/claim/cut.py" 765]
def o289:=hF "sources_of" "sources_of" (top 36) (hS "mustmay.least" 736) (hR 478)
def o290:=hC "numbered" "numbered" (top 37)
def o291:=hK [hS "numbered" 767,hS "numbered" 768,hS "/claim/cut.py" 769,hI 199,hI 1,hI 0,hI 0,hI 3,hR 480,.bool true,hI 181,hR 481,.none,.none,.none,hR 482,hI 770,hI 199,hS "/claim/cut.py" 771]
def o292:=hF "numbered" "numbered" (top 37) (hS "mustmay.least" 736) (hR 483)
def o293:=hC "rest_of" "rest_of" (top 38)
def o294:=hK [hS "rest_of" 773,hS "rest_of" 774,hS "/claim/cut.py" 775,hI 204,hI 2,hI 0,hI 0,hI 3,hR 485,.bool true,hI 181,hR 486,.none,.none,.none,hR 487,hI 776,hI 204,hS "/claim/cut.py" 777]
def o295:=hF "rest_of" "rest_of" (top 38) (hS "mustmay.least" 736) (hR 488)
def o296:=hDn 10 [hE P "__module__" 786 (hS "mustmay.least" 736),hE P "__qualname__" 788 (hS "Blocks" 787),hE P "__firstlineno__" 790 (.int (210) 789),hE P "__init__" 796 (hR 501),hE P "grouped" 802 (hR 506),hE P "leaving" 808 (hR 511),hE P "move" 818 (hR 518),hE P "part" 829 (hR 525),hE P "leading_to" 840 (hR 532),hE P "__static_attributes__" 845 (hR 533)]
def o297:=hN [hI 212,hI 4,hR 500,hI 220,hI 4,hR 505,hI 227,hI 4,hR 510,hI 238,hI 4,hR 517,hI 246,hI 4,hR 524,hI 254,hI 4,hR 531]
def o298:=hK [hS "Blocks" 781,hS "Blocks" 782,hS "/claim/cut.py" 783,hI 210,hI 0,hI 0,hI 0,hI 0,hR 493,.bool false,hI 181,hR 494,.none,.none,.none,.none,hI 784,hI 210,hS "/claim/cut.py" 785]
def o299:Obj:=⟨(.type "frame"),none,.plain,Array.mk [some (hR 495),some (hR 3),some (hR 492),none,some (hS "mustmay.least" 736),none,some (hR 0)]⟩
def o300:=hC "__init__" "Blocks.__init__" (inClass (top 39) 0)
def o301:=hK [hS "__init__" 791,hS "Blocks.__init__" 792,hS "/claim/cut.py" 793,hI 212,hI 2,hI 0,hI 0,hI 3,hR 497,.bool true,hI 181,hR 498,.none,.none,.none,hR 499,hI 794,hI 212,hS "/claim/cut.py" 795]
def o302:=hF "__init__" "Blocks.__init__" (inClass (top 39) 0) (hS "mustmay.least" 736) (hR 500)
def o303:=hC "grouped" "Blocks.grouped" (inClass (top 39) 1)
def o304:=hK [hS "grouped" 797,hS "Blocks.grouped" 798,hS "/claim/cut.py" 799,hI 220,hI 2,hI 0,hI 0,hI 3,hR 502,.bool true,hI 181,hR 503,.none,.none,.none,hR 504,hI 800,hI 220,hS "/claim/cut.py" 801]
def o305:=hF "grouped" "Blocks.grouped" (inClass (top 39) 1) (hS "mustmay.least" 736) (hR 505)
def o306:=hC "leaving" "Blocks.leaving" (inClass (top 39) 2)
def o307:=hK [hS "leaving" 803,hS "Blocks.leaving" 804,hS "/claim/cut.py" 805,hI 227,hI 2,hI 0,hI 0,hI 3,hR 507,.bool true,hI 181,hR 508,.none,.none,.none,hR 509,hI 806,hI 227,hS "/claim/cut.py" 807]
def o308:=hF "leaving" "Blocks.leaving" (inClass (top 39) 2) (hS "mustmay.least" 736) (hR 510)
def o309:=hT [hS "self" 812,hS "rooms" 813,hS "mark" 814,hS "room" 815]
def o310:=hC "move" "Blocks.move" (inClass (top 39) 3)
def o311:=hK [hS "move" 809,hS "Blocks.move" 810,hS "/claim/cut.py" 811,hI 238,hI 2,hI 0,hI 0,hI 3,hR 512,.bool true,hI 181,hR 513,.none,hR 514,hR 515,hR 516,hI 816,hI 238,hS "/claim/cut.py" 817]
def o312:=hF "move" "Blocks.move" (inClass (top 39) 3) (hS "mustmay.least" 736) (hR 517)
def o313:=hT [hS "self" 822,hS "rooms" 823,hS "moved" 824,hS "parts" 825,hS "group" 826]
def o314:=hC "part" "Blocks.part" (inClass (top 39) 4)
def o315:=hK [hS "part" 819,hS "Blocks.part" 820,hS "/claim/cut.py" 821,hI 246,hI 2,hI 0,hI 0,hI 3,hR 519,.bool true,hI 181,hR 520,.none,hR 521,hR 522,hR 523,hI 827,hI 246,hS "/claim/cut.py" 828]
def o316:=hF "part" "Blocks.part" (inClass (top 39) 4) (hS "mustmay.least" 736) (hR 524)
def o317:=hT [hS "self" 833,hS "rooms" 834,hS "found" 835,hS "room" 836,hS "source" 837]
def o318:=hC "leading_to" "Blocks.leading_to" (inClass (top 39) 5)
def o319:=hK [hS "leading_to" 830,hS "Blocks.leading_to" 831,hS "/claim/cut.py" 832,hI 254,hI 2,hI 0,hI 0,hI 3,hR 526,.bool true,hI 181,hR 527,.none,hR 528,hR 529,hR 530,hI 838,hI 254,hS "/claim/cut.py" 839]
def o320:=hF "leading_to" "Blocks.leading_to" (inClass (top 39) 5) (hS "mustmay.least" 736) (hR 531)
def o321:=hT [hS "ends" 841,hS "marks" 842,hS "members" 843,hS "sources" 844]
def o322:=hDn 4 [hE P "__module__" 786 (hS "mustmay.least" 736),hE P "__firstlineno__" 790 (.int (210) 789),hE P "__init__" 796 (hR 501),hE P "grouped" 802 (hR 506),hE P "leaving" 808 (hR 511),hE P "move" 818 (hR 518),hE P "part" 829 (hR 525),hE P "leading_to" 840 (hR 532),hE P "__static_attributes__" 845 (hR 533),hE P "__dict__" 847 (hR 536),hE P "__weakref__" 849 (hR 537),hE P "__doc__" 850 .none]
def o323:Obj:=⟨(.type "type"),none,(.cls ⟨"Blocks",[.type "object"],[hR 535,.type "object"],534,"Blocks",true,[],[],false,none,false⟩),Array.mk [none,none,some (hS "Blocks" 779),some (hS "Blocks" 787),some (.builtin "object.__new__"),some (.bool true)]⟩
def o324:Obj:=⟨(.type "getset_descriptor"),none,(.fields (Array.mk [hS "__dict__" 846,hR 535,.builtin "function.__dict__",.builtin "function.__dict__#set"])),Array.mk []⟩
def o325:Obj:=⟨(.type "getset_descriptor"),none,(.fields (Array.mk [hS "__weakref__" 848,hR 535,.builtin "ExceptionGroup.__weakref__",.none])),Array.mk []⟩
def o326:Obj:=⟨(.type "super"),none,(.fields (Array.mk [hR 535,hR 535,hR 535])),Array.mk []⟩
def o327:Obj:=⟨(.type "builtin_function_or_method"),none,(.fields (Array.mk [.builtin "object.__init_subclass__",hR 535])),Array.mk []⟩
def o328:=hC "classes" "classes" (top 40)
def o329:=hK [hS "classes" 853,hS "classes" 854,hS "/claim/cut.py" 855,hI 260,hI 1,hI 0,hI 0,hI 3,hR 540,.bool true,hI 181,hR 541,.none,.none,.none,hR 542,hI 856,hI 260,hS "/claim/cut.py" 857]
def o330:=hF "classes" "classes" (top 40) (hS "mustmay.least" 736) (hR 543)
def o331:=hDn 7 [hE P "__module__" 866 (hS "mustmay.least" 736),hE P "__qualname__" 868 (hS "Trail" 867),hE P "__firstlineno__" 870 (.int (269) 869),hE P "__init__" 878 (hR 558),hE P "come" 888 (hR 565),hE P "row" 897 (hR 572),hE P "__static_attributes__" 901 (hR 573)]
def o332:=hN [hI 271,hI 4,hR 557,hI 276,hI 4,hR 564,hI 281,hI 4,hR 571]
def o333:=hK [hS "Trail" 861,hS "Trail" 862,hS "/claim/cut.py" 863,hI 269,hI 0,hI 0,hI 0,hI 0,hR 548,.bool false,hI 181,hR 549,.none,.none,.none,.none,hI 864,hI 269,hS "/claim/cut.py" 865]
def o334:Obj:=⟨(.type "frame"),none,.plain,Array.mk [some (hR 550),some (hR 3),some (hR 547),none,some (hS "mustmay.least" 736),none,some (hR 0)]⟩
def o335:=hT [hS "self" 874,hS "first" 875]
def o336:=hC "__init__" "Trail.__init__" (inClass (top 41) 0)
def o337:=hK [hS "__init__" 871,hS "Trail.__init__" 872,hS "/claim/cut.py" 873,hI 271,hI 2,hI 0,hI 0,hI 3,hR 552,.bool true,hI 181,hR 553,.none,hR 554,hR 555,hR 556,hI 876,hI 271,hS "/claim/cut.py" 877]
def o338:=hF "__init__" "Trail.__init__" (inClass (top 41) 0) (hS "mustmay.least" 736) (hR 557)
def o339:=hT [hS "self" 882,hS "pair" 883,hS "place" 884,hS "action" 885]
def o340:=hC "come" "Trail.come" (inClass (top 41) 1)
def o341:=hK [hS "come" 879,hS "Trail.come" 880,hS "/claim/cut.py" 881,hI 276,hI 4,hI 0,hI 0,hI 3,hR 559,.bool true,hI 181,hR 560,.none,hR 561,hR 562,hR 563,hI 886,hI 276,hS "/claim/cut.py" 887]
def o342:=hF "come" "Trail.come" (inClass (top 41) 1) (hS "mustmay.least" 736) (hR 564)
def o343:=hT [hS "self" 892,hS "place" 893,hS "row" 894]
def o344:=hC "row" "Trail.row" (inClass (top 41) 2)
def o345:=hK [hS "row" 889,hS "Trail.row" 890,hS "/claim/cut.py" 891,hI 281,hI 2,hI 0,hI 0,hI 3,hR 566,.bool true,hI 181,hR 567,.none,hR 568,hR 569,hR 570,hI 895,hI 281,hS "/claim/cut.py" 896]
def o346:=hF "row" "Trail.row" (inClass (top 41) 2) (hS "mustmay.least" 736) (hR 571)
def o347:=hT [hS "pairs" 898,hS "places" 899,hS "steps" 900]
def o348:=hDn 4 [hE P "__module__" 866 (hS "mustmay.least" 736),hE P "__firstlineno__" 870 (.int (269) 869),hE P "__init__" 878 (hR 558),hE P "come" 888 (hR 565),hE P "row" 897 (hR 572),hE P "__static_attributes__" 901 (hR 573),hE P "__dict__" 903 (hR 576),hE P "__weakref__" 905 (hR 577),hE P "__doc__" 906 .none]
def o349:Obj:=⟨(.type "type"),none,(.cls ⟨"Trail",[.type "object"],[hR 575,.type "object"],574,"Trail",true,[],[],false,none,false⟩),Array.mk [none,none,some (hS "Trail" 859),some (hS "Trail" 867),some (.builtin "object.__new__"),some (.bool true)]⟩
def o350:Obj:=⟨(.type "getset_descriptor"),none,(.fields (Array.mk [hS "__dict__" 902,hR 575,.builtin "function.__dict__",.builtin "function.__dict__#set"])),Array.mk []⟩
def o351:Obj:=⟨(.type "getset_descriptor"),none,(.fields (Array.mk [hS "__weakref__" 904,hR 575,.builtin "ExceptionGroup.__weakref__",.none])),Array.mk []⟩
def o352:Obj:=⟨(.type "super"),none,(.fields (Array.mk [hR 575,hR 575,hR 575])),Array.mk []⟩
def o353:Obj:=⟨(.type "builtin_function_or_method"),none,(.fields (Array.mk [.builtin "object.__init_subclass__",hR 575])),Array.mk []⟩
def o354:=hC "least" "least" (top 42)
def o355:=hK [hS "least" 909,hS "least" 910,hS "/claim/cut.py" 911,hI 288,hI 1,hI 0,hI 0,hI 3,hR 580,.bool true,hI 181,hR 581,.none,.none,.none,hR 582,hI 912,hI 288,hS "/claim/cut.py" 913]
def o356:=hF "least" "least" (top 42) (hS "mustmay.least" 736) (hR 583)
def o357:=hT [hS "extra" 917,hS "lacks" 918]
def o358:=hT [hS "truths" 923,hS "bits" 924,hS "worth" 925,hS "truth" 926]
def o359:=hC "bits_of" "bits_of" (top 45)
def o360:=hK [hS "bits_of" 920,hS "bits_of" 921,hS "/claim/cut.py" 922,hI 300,hI 1,hI 0,hI 0,hI 3,hR 586,.bool true,hI 181,hR 587,.none,hR 588,hR 589,hR 590,hI 927,hI 300,hS "/claim/cut.py" 928]
def o361:=hF "bits_of" "bits_of" (top 45) (hS "mustmay.pairs" 915) (hR 591)
def o362:=hT [hS "doors" 933,hS "truths" 934,hS "door" 935]
def o363:=hC "risks_of" "risks_of" (top 46)
def o364:=hK [hS "risks_of" 930,hS "risks_of" 931,hS "/claim/cut.py" 932,hI 308,hI 1,hI 0,hI 0,hI 3,hR 593,.bool true,hI 181,hR 594,.none,hR 595,hR 596,hR 597,hI 936,hI 308,hS "/claim/cut.py" 937]
def o365:=hF "risks_of" "risks_of" (top 46) (hS "mustmay.pairs" 915) (hR 598)
def o366:=hT [hS "doors" 942,hS "truths" 943,hS "door" 944]
def o367:=hC "bars_of" "bars_of" (top 47)
def o368:=hK [hS "bars_of" 939,hS "bars_of" 940,hS "/claim/cut.py" 941,hI 313,hI 1,hI 0,hI 0,hI 3,hR 600,.bool true,hI 181,hR 601,.none,hR 602,hR 603,hR 604,hI 945,hI 313,hS "/claim/cut.py" 946]
def o369:=hF "bars_of" "bars_of" (top 47) (hS "mustmay.pairs" 915) (hR 605)
def o370:=hT [hS "bits" 951,hS "place" 952]
def o371:=hC "first_fault" "first_fault" (top 48)
def o372:=hK [hS "first_fault" 948,hS "first_fault" 949,hS "/claim/cut.py" 950,hI 318,hI 1,hI 0,hI 0,hI 3,hR 607,.bool true,hI 181,hR 608,.none,hR 609,hR 610,hR 611,hI 953,hI 318,hS "/claim/cut.py" 954]
def o373:=hF "first_fault" "first_fault" (top 48) (hS "mustmay.pairs" 915) (hR 612)
def o374:=hT [hS "one" 959,hS "room" 960,hS "other" 961,hS "place" 962]
def o375:=hC "fault_at" "fault_at" (top 49)
def o376:=hK [hS "fault_at" 956,hS "fault_at" 957,hS "/claim/cut.py" 958,hI 326,hI 4,hI 0,hI 0,hI 3,hR 614,.bool true,hI 181,hR 615,.none,hR 616,hR 617,hR 618,hI 963,hI 326,hS "/claim/cut.py" 964]
def o377:=hF "fault_at" "fault_at" (top 49) (hS "mustmay.pairs" 915) (hR 619)
def o378:=hC "starts_of" "starts_of" (top 50)
def o379:=hK [hS "starts_of" 966,hS "starts_of" 967,hS "/claim/cut.py" 968,hI 329,hI 2,hI 0,hI 0,hI 3,hR 621,.bool true,hI 181,hR 622,.none,.none,.none,hR 623,hI 969,hI 329,hS "/claim/cut.py" 970]
def o380:=hF "starts_of" "starts_of" (top 50) (hS "mustmay.pairs" 915) (hR 624)
def o381:=hC "tos_of" "tos_of" (top 51)
def o382:=hK [hS "tos_of" 972,hS "tos_of" 973,hS "/claim/cut.py" 974,hI 331,hI 1,hI 0,hI 0,hI 3,hR 626,.bool true,hI 181,hR 627,.none,.none,.none,hR 628,hI 975,hI 331,hS "/claim/cut.py" 976]
def o383:=hF "tos_of" "tos_of" (top 51) (hS "mustmay.pairs" 915) (hR 629)
def o384:=hDn 11 [hE P "__module__" 985 (hS "mustmay.pairs" 915),hE P "__qualname__" 987 (hS "Against" 986),hE P "__firstlineno__" 989 (.int (333) 988),hE P "__init__" 995 (hR 642),hE P "number" 1004 (hR 649),hE P "is_there" 1013 (hR 656),hE P "none_of_all" 1020 (hR 663),hE P "faults" 1028 (hR 670),hE P "behind" 1034 (hR 675),hE P "told" 1042 (hR 682),hE P "__static_attributes__" 1049 (hR 683)]
def o385:=hN [hI 335,hI 4,hR 641,hI 344,hI 4,hR 648,hI 347,hI 4,hR 655,hI 350,hI 4,hR 662,hI 353,hI 4,hR 669,hI 356,hI 4,hR 674,hI 361,hI 4,hR 681]
def o386:=hK [hS "Against" 980,hS "Against" 981,hS "/claim/cut.py" 982,hI 333,hI 0,hI 0,hI 0,hI 0,hR 634,.bool false,hI 181,hR 635,.none,.none,.none,.none,hI 983,hI 333,hS "/claim/cut.py" 984]
def o387:Obj:=⟨(.type "frame"),none,.plain,Array.mk [some (hR 636),some (hR 3),some (hR 633),none,some (hS "mustmay.pairs" 915),none,some (hR 0)]⟩
def o388:=hC "__init__" "Against.__init__" (inClass (top 52) 0)
def o389:=hK [hS "__init__" 990,hS "Against.__init__" 991,hS "/claim/cut.py" 992,hI 335,hI 3,hI 0,hI 0,hI 3,hR 638,.bool true,hI 181,hR 639,.none,.none,.none,hR 640,hI 993,hI 335,hS "/claim/cut.py" 994]
def o390:=hF "__init__" "Against.__init__" (inClass (top 52) 0) (hS "mustmay.pairs" 915) (hR 641)
def o391:=hT [hS "self" 999,hS "room" 1000,hS "place" 1001]
def o392:=hC "number" "Against.number" (inClass (top 52) 1)
def o393:=hK [hS "number" 996,hS "Against.number" 997,hS "/claim/cut.py" 998,hI 344,hI 3,hI 0,hI 0,hI 3,hR 643,.bool true,hI 181,hR 644,.none,hR 645,hR 646,hR 647,hI 1002,hI 344,hS "/claim/cut.py" 1003]
def o394:=hF "number" "Against.number" (inClass (top 52) 1) (hS "mustmay.pairs" 915) (hR 648)
def o395:=hT [hS "self" 1008,hS "room" 1009,hS "place" 1010]
def o396:=hC "is_there" "Against.is_there" (inClass (top 52) 2)
def o397:=hK [hS "is_there" 1005,hS "Against.is_there" 1006,hS "/claim/cut.py" 1007,hI 347,hI 3,hI 0,hI 0,hI 3,hR 650,.bool true,hI 181,hR 651,.none,hR 652,hR 653,hR 654,hI 1011,hI 347,hS "/claim/cut.py" 1012]
def o398:=hF "is_there" "Against.is_there" (inClass (top 52) 2) (hS "mustmay.pairs" 915) (hR 655)
def o399:=hT [hS "self" 1017]
def o400:=hC "none_of_all" "Against.none_of_all" (inClass (top 52) 3)
def o401:=hK [hS "none_of_all" 1014,hS "Against.none_of_all" 1015,hS "/claim/cut.py" 1016,hI 350,hI 1,hI 0,hI 0,hI 3,hR 657,.bool true,hI 181,hR 658,.none,hR 659,hR 660,hR 661,hI 1018,hI 350,hS "/claim/cut.py" 1019]
def o402:=hF "none_of_all" "Against.none_of_all" (inClass (top 52) 3) (hS "mustmay.pairs" 915) (hR 662)
def o403:=hT [hS "self" 1024,hS "pair" 1025]
def o404:=hC "faults" "Against.faults" (inClass (top 52) 4)
def o405:=hK [hS "faults" 1021,hS "Against.faults" 1022,hS "/claim/cut.py" 1023,hI 353,hI 2,hI 0,hI 0,hI 3,hR 664,.bool true,hI 181,hR 665,.none,hR 666,hR 667,hR 668,hI 1026,hI 353,hS "/claim/cut.py" 1027]
def o406:=hF "faults" "Against.faults" (inClass (top 52) 4) (hS "mustmay.pairs" 915) (hR 669)
def o407:=hC "behind" "Against.behind" (inClass (top 52) 5)
def o408:=hK [hS "behind" 1029,hS "Against.behind" 1030,hS "/claim/cut.py" 1031,hI 356,hI 2,hI 0,hI 0,hI 3,hR 671,.bool true,hI 181,hR 672,.none,.none,.none,hR 673,hI 1032,hI 356,hS "/claim/cut.py" 1033]
def o409:=hF "behind" "Against.behind" (inClass (top 52) 5) (hS "mustmay.pairs" 915) (hR 674)
def o410:=hT [hS "self" 1038,hS "pair" 1039]
def o411:=hC "told" "Against.told" (inClass (top 52) 6)
def o412:=hK [hS "told" 1035,hS "Against.told" 1036,hS "/claim/cut.py" 1037,hI 361,hI 2,hI 0,hI 0,hI 3,hR 676,.bool true,hI 181,hR 677,.none,hR 678,hR 679,hR 680,hI 1040,hI 361,hS "/claim/cut.py" 1041]
def o413:=hF "told" "Against.told" (inClass (top 52) 6) (hS "mustmay.pairs" 915) (hR 681)
def o414:=hT [hS "bars" 1043,hS "height" 1044,hS "risks" 1045,hS "starts" 1046,hS "tos" 1047,hS "width" 1048]
def o415:=hDn 4 [hE P "__module__" 985 (hS "mustmay.pairs" 915),hE P "__firstlineno__" 989 (.int (333) 988),hE P "__init__" 995 (hR 642),hE P "number" 1004 (hR 649),hE P "is_there" 1013 (hR 656),hE P "none_of_all" 1020 (hR 663),hE P "faults" 1028 (hR 670),hE P "behind" 1034 (hR 675),hE P "told" 1042 (hR 682),hE P "__static_attributes__" 1049 (hR 683),hE P "__dict__" 1051 (hR 686),hE P "__weakref__" 1053 (hR 687),hE P "__doc__" 1054 .none]
def o416:Obj:=⟨(.type "type"),none,(.cls ⟨"Against",[.type "object"],[hR 685,.type "object"],684,"Against",true,[],[],false,none,false⟩),Array.mk [none,none,some (hS "Against" 978),some (hS "Against" 986),some (.builtin "object.__new__"),some (.bool true)]⟩
def o417:Obj:=⟨(.type "getset_descriptor"),none,(.fields (Array.mk [hS "__dict__" 1050,hR 685,.builtin "function.__dict__",.builtin "function.__dict__#set"])),Array.mk []⟩
def o418:Obj:=⟨(.type "getset_descriptor"),none,(.fields (Array.mk [hS "__weakref__" 1052,hR 685,.builtin "ExceptionGroup.__weakref__",.none])),Array.mk []⟩
def o419:Obj:=⟨(.type "super"),none,(.fields (Array.mk [hR 685,hR 685,hR 685])),Array.mk []⟩
def o420:Obj:=⟨(.type "builtin_function_or_method"),none,(.fields (Array.mk [.builtin "object.__init_subclass__",hR 685])),Array.mk []⟩
def o421:=hT [hS "against" 1060,hS "trail" 1061,hS "pairs" 1062,hS "seen" 1063,hS "at" 1064,hS "action" 1065,hS "pair" 1066]
def o422:=hC "followed" "followed" (top 53)
def o423:=hK [hS "followed" 1057,hS "followed" 1058,hS "/claim/cut.py" 1059,hI 363,hI 2,hI 0,hI 0,hI 3,hR 690,.bool true,hI 181,hR 691,.none,hR 692,hR 693,hR 694,hI 1067,hI 363,hS "/claim/cut.py" 1068]
def o424:=hF "followed" "followed" (top 53) (hS "mustmay.pairs" 915) (hR 695)
def o425:=hC "table_of" "table_of" (top 54)
def o426:=hK [hS "table_of" 1070,hS "table_of" 1071,hS "/claim/cut.py" 1072,hI 377,hI 2,hI 0,hI 0,hI 3,hR 697,.bool true,hI 181,hR 698,.none,.none,.none,hR 699,hI 1073,hI 377,hS "/claim/cut.py" 1074]
def o427:=hF "table_of" "table_of" (top 54) (hS "mustmay.pairs" 915) (hR 700)
def o428:=hT [hS "one" 1079,hS "other" 1080]
def o429:=hC "within" "within" (top 55)
def o430:=hK [hS "within" 1076,hS "within" 1077,hS "/claim/cut.py" 1078,hI 383,hI 2,hI 0,hI 0,hI 3,hR 702,.bool true,hI 181,hR 703,.none,hR 704,hR 705,hR 706,hI 1081,hI 383,hS "/claim/cut.py" 1082]
def o431:=hF "within" "within" (top 55) (hS "mustmay.pairs" 915) (hR 707)
def o432:=hT [hS "one" 1087,hS "other" 1088,hS "against" 1089,hS "trail" 1090,hS "at" 1091,hS "fault" 1092]
def o433:=hC "row_apart" "row_apart" (top 56)
def o434:=hK [hS "row_apart" 1084,hS "row_apart" 1085,hS "/claim/cut.py" 1086,hI 385,hI 2,hI 0,hI 0,hI 3,hR 709,.bool true,hI 181,hR 710,.none,hR 711,hR 712,hR 713,hI 1093,hI 385,hS "/claim/cut.py" 1094]
def o435:=hF "row_apart" "row_apart" (top 56) (hS "mustmay.pairs" 915) (hR 714)
def o436:=hC "is_held" "is_held" (top 57)
def o437:=hK [hS "is_held" 1096,hS "is_held" 1097,hS "/claim/cut.py" 1098,hI 393,hI 3,hI 0,hI 0,hI 3,hR 716,.bool true,hI 181,hR 717,.none,.none,.none,hR 718,hI 1099,hI 393,hS "/claim/cut.py" 1100]
def o438:=hF "is_held" "is_held" (top 57) (hS "mustmay.pairs" 915) (hR 719)
def o439:=hT [hS "one" 1105,hS "other" 1106,hS "table" 1107,hS "against" 1108,hS "stands" 1109,hS "room" 1110,hS "place" 1111]
def o440:=hC "is_table" "is_table" (top 58)
def o441:=hK [hS "is_table" 1102,hS "is_table" 1103,hS "/claim/cut.py" 1104,hI 397,hI 3,hI 0,hI 0,hI 3,hR 721,.bool true,hI 181,hR 722,.none,hR 723,hR 724,hR 725,hI 1112,hI 397,hS "/claim/cut.py" 1113]
def o442:=hF "is_table" "is_table" (top 58) (hS "mustmay.pairs" 915) (hR 726)
def o443:=hT [hS "door" 1120,hS "words" 1121,hS "there" 1122]
def o444:=hC "hall_door" "hall_door" (top 60)
def o445:=hK [hS "hall_door" 1117,hS "hall_door" 1118,hS "/claim/cut.py" 1119,hI 409,hI 2,hI 0,hI 0,hI 3,hR 728,.bool true,hI 181,hR 729,.none,hR 730,hR 731,hR 732,hI 1123,hI 409,hS "/claim/cut.py" 1124]
def o446:=hF "hall_door" "hall_door" (top 60) (hS "mustmay.halls" 1115) (hR 733)
def o447:=hC "hall_room" "hall_room" (top 61)
def o448:=hK [hS "hall_room" 1126,hS "hall_room" 1127,hS "/claim/cut.py" 1128,hI 412,hI 2,hI 0,hI 0,hI 3,hR 735,.bool true,hI 181,hR 736,.none,.none,.none,hR 737,hI 1129,hI 412,hS "/claim/cut.py" 1130]
def o449:=hF "hall_room" "hall_room" (top 61) (hS "mustmay.halls" 1115) (hR 738)
def o450:=hC "hall_of" "hall_of" (top 62)
def o451:=hK [hS "hall_of" 1132,hS "hall_of" 1133,hS "/claim/cut.py" 1134,hI 414,hI 2,hI 0,hI 0,hI 3,hR 740,.bool true,hI 181,hR 741,.none,.none,.none,hR 742,hI 1135,hI 414,hS "/claim/cut.py" 1136]
def o452:=hF "hall_of" "hall_of" (top 62) (hS "mustmay.halls" 1115) (hR 743)
def o453:=hT [hS "plan" 1141]
def o454:=hC "least_hall" "least_hall" (top 63)
def o455:=hK [hS "least_hall" 1138,hS "least_hall" 1139,hS "/claim/cut.py" 1140,hI 416,hI 1,hI 0,hI 0,hI 3,hR 745,.bool true,hI 181,hR 746,.none,hR 747,hR 748,hR 749,hI 1142,hI 416,hS "/claim/cut.py" 1143]
def o456:=hF "least_hall" "least_hall" (top 63) (hS "mustmay.halls" 1115) (hR 750)
def o457:=hT [hS "many" 1148]
def o458:=hC "need_few" "need_few" (top 64)
def o459:=hK [hS "need_few" 1145,hS "need_few" 1146,hS "/claim/cut.py" 1147,hI 418,hI 1,hI 0,hI 0,hI 3,hR 752,.bool true,hI 181,hR 753,.none,hR 754,hR 755,hR 756,hI 1149,hI 418,hS "/claim/cut.py" 1150]
def o460:=hF "need_few" "need_few" (top 64) (hS "mustmay.halls" 1115) (hR 757)
def o461:=hT [hS "plan" 1155,hS "row" 1156,hS "rooms" 1157,hS "place" 1158,hS "action" 1159,hS "door" 1160]
def o462:=hC "rooms_along" "rooms_along" (top 65)
def o463:=hK [hS "rooms_along" 1152,hS "rooms_along" 1153,hS "/claim/cut.py" 1154,hI 421,hI 2,hI 0,hI 0,hI 3,hR 759,.bool true,hI 181,hR 760,.none,hR 761,hR 762,hR 763,hI 1161,hI 421,hS "/claim/cut.py" 1162]
def o464:=hF "rooms_along" "rooms_along" (top 65) (hS "mustmay.halls" 1115) (hR 764)
def o465:=hT [hS "door" 1167,hS "has" 1168,hS "length" 1169]
def o466:=hC "need_end" "need_end" (top 66)
def o467:=hK [hS "need_end" 1164,hS "need_end" 1165,hS "/claim/cut.py" 1166,hI 429,hI 3,hI 0,hI 0,hI 3,hR 766,.bool true,hI 181,hR 767,.none,hR 768,hR 769,hR 770,hI 1170,hI 429,hS "/claim/cut.py" 1171]
def o468:=hF "need_end" "need_end" (top 66) (hS "mustmay.halls" 1115) (hR 771)
def o469:=hC "moved_room" "moved_room" (top 67)
def o470:=hK [hS "moved_room" 1173,hS "moved_room" 1174,hS "/claim/cut.py" 1175,hI 432,hI 2,hI 0,hI 0,hI 3,hR 773,.bool true,hI 181,hR 774,.none,.none,.none,hR 775,hI 1176,hI 432,hS "/claim/cut.py" 1177]
def o471:=hF "moved_room" "moved_room" (top 67) (hS "mustmay.halls" 1115) (hR 776)
def o472:=hC "hall_along" "hall_along" (top 68)
def o473:=hK [hS "hall_along" 1179,hS "hall_along" 1180,hS "/claim/cut.py" 1181,hI 434,hI 4,hI 0,hI 0,hI 3,hR 778,.bool true,hI 181,hR 779,.none,.none,.none,hR 780,hI 1182,hI 434,hS "/claim/cut.py" 1183]
def o474:=hF "hall_along" "hall_along" (top 68) (hS "mustmay.halls" 1115) (hR 781)
def o475:=hT [hS "one" 1188,hS "other" 1189,hS "small" 1190,hS "against" 1191,hS "apart" 1192,hS "row" 1193,hS "action" 1194]
def o476:=hC "hall_apart" "hall_apart" (top 69)
def o477:=hK [hS "hall_apart" 1185,hS "hall_apart" 1186,hS "/claim/cut.py" 1187,hI 448,hI 2,hI 0,hI 0,hI 3,hR 783,.bool true,hI 181,hR 784,.none,hR 785,hR 786,hR 787,hI 1195,hI 448,hS "/claim/cut.py" 1196]
def o478:=hF "hall_apart" "hall_apart" (top 69) (hS "mustmay.halls" 1115) (hR 788)
def o479:=hT [hS "_law_script" 1203,hS "_law_k" 1204]
def o480:=hC "_law_cell_at" "_law_cell_at" (top 71)
def o481:=hK [hS "_law_cell_at" 1200,hS "_law_cell_at" 1201,hS "/claim/cut.py" 1202,hI 460,hI 2,hI 0,hI 0,hI 3,hR 790,.bool true,hI 181,hR 791,.none,hR 792,hR 793,hR 794,hI 1205,hI 460,hS "/claim/cut.py" 1206]
def o482:=hF "_law_cell_at" "_law_cell_at" (top 71) (hS "law_mustmay_k31_faults_at_rooms" 1198) (hR 795)
def o483:=hT [hS "_law_cell" 1211,hS "_law_k" 1212,hS "_law_number" 1213]
def o484:=hC "_law_mixed" "_law_mixed" (top 72)
def o485:=hK [hS "_law_mixed" 1208,hS "_law_mixed" 1209,hS "/claim/cut.py" 1210,hI 464,hI 2,hI 0,hI 0,hI 3,hR 797,.bool true,hI 181,hR 798,.none,hR 799,hR 800,hR 801,hI 1214,hI 464,hS "/claim/cut.py" 1215]
def o486:=hF "_law_mixed" "_law_mixed" (top 72) (hS "law_mustmay_k31_faults_at_rooms" 1198) (hR 802)
def o487:=hT [hS "_law_found" 1220,hS "_law_due" 1221]
def o488:=hC "_law_is" "_law_is" (top 73)
def o489:=hK [hS "_law_is" 1217,hS "_law_is" 1218,hS "/claim/cut.py" 1219,hI 468,hI 2,hI 0,hI 0,hI 3,hR 804,.bool true,hI 181,hR 805,.none,hR 806,hR 807,hR 808,hI 1222,hI 468,hS "/claim/cut.py" 1223]
def o490:=hF "_law_is" "_law_is" (top 73) (hS "law_mustmay_k31_faults_at_rooms" 1198) (hR 809)
def o491:=hT [hS "_law_cell" 1228,hS "_law_many" 1229,hS "_law_size" 1230,hS "_law_at" 1231,hS "_law_names_here" 1232,hS "_law_k" 1233,hS "_law_name" 1234,hS "_law_j" 1235]
def o492:=hC "_law_names" "_law_names" (top 74)
def o493:=hK [hS "_law_names" 1225,hS "_law_names" 1226,hS "/claim/cut.py" 1227,hI 470,hI 2,hI 0,hI 0,hI 3,hR 811,.bool true,hI 181,hR 812,.none,hR 813,hR 814,hR 815,hI 1236,hI 470,hS "/claim/cut.py" 1237]
def o494:=hF "_law_names" "_law_names" (top 74) (hS "law_mustmay_k31_faults_at_rooms" 1198) (hR 816)
def o495:=hT [hS "_law_cell" 1242,hS "_law_number" 1243]
def o496:=hC "_law_sizes" "_law_sizes" (top 75)
def o497:=hK [hS "_law_sizes" 1239,hS "_law_sizes" 1240,hS "/claim/cut.py" 1241,hI 480,hI 1,hI 0,hI 0,hI 3,hR 818,.bool true,hI 181,hR 819,.none,hR 820,hR 821,hR 822,hI 1244,hI 480,hS "/claim/cut.py" 1245]
def o498:=hF "_law_sizes" "_law_sizes" (top 75) (hS "law_mustmay_k31_faults_at_rooms" 1198) (hR 823)
def o499:=hT [hS "_law_script" 1250,hS "_law_at" 1251,hS "_law_rooms" 1252,hS "_law_many" 1253,hS "_law_rows_here" 1254,hS "_law_room" 1255,hS "_law_cell" 1256,hS "_law_doors" 1257,hS "_law_action" 1258,hS "_law_number" 1259,hS "_law_some" 1260]
def o500:=hC "_law_rows" "_law_rows" (top 76)
def o501:=hK [hS "_law_rows" 1247,hS "_law_rows" 1248,hS "/claim/cut.py" 1249,hI 487,hI 4,hI 0,hI 0,hI 3,hR 825,.bool true,hI 181,hR 826,.none,hR 827,hR 828,hR 829,hI 1261,hI 487,hS "/claim/cut.py" 1262]
def o502:=hF "_law_rows" "_law_rows" (top 76) (hS "law_mustmay_k31_faults_at_rooms" 1198) (hR 830)
def o503:=hT [hS "_law_rows_here" 1267,hS "_law_cell" 1268,hS "_law_found" 1269,hS "_law_room" 1270,hS "_law_doors" 1271,hS "_law_row" 1272,hS "_law_action" 1273,hS "_law_word" 1274,hS "_law_to" 1275,hS "_law_number" 1276]
def o504:=hC "_law_loosened" "_law_loosened" (top 77)
def o505:=hK [hS "_law_loosened" 1264,hS "_law_loosened" 1265,hS "/claim/cut.py" 1266,hI 498,hI 2,hI 0,hI 0,hI 3,hR 832,.bool true,hI 181,hR 833,.none,hR 834,hR 835,hR 836,hI 1277,hI 498,hS "/claim/cut.py" 1278]
def o506:=hF "_law_loosened" "_law_loosened" (top 77) (hS "law_mustmay_k31_faults_at_rooms" 1198) (hR 837)
def o507:=hT [hS "_law_rows_here" 1283,hS "_law_cell" 1284,hS "_law_many" 1285,hS "_law_found" 1286,hS "_law_room" 1287,hS "_law_row" 1288,hS "_law_action" 1289,hS "_law_word" 1290,hS "_law_to" 1291]
def o508:=hC "_law_unfolded" "_law_unfolded" (top 78)
def o509:=hK [hS "_law_unfolded" 1280,hS "_law_unfolded" 1281,hS "/claim/cut.py" 1282,hI 513,hI 2,hI 0,hI 0,hI 3,hR 839,.bool true,hI 181,hR 840,.none,hR 841,hR 842,hR 843,hI 1292,hI 513,hS "/claim/cut.py" 1293]
def o510:=hF "_law_unfolded" "_law_unfolded" (top 78) (hS "law_mustmay_k31_faults_at_rooms" 1198) (hR 844)
def o511:=hC "_law_spoilt" "_law_spoilt" (top 79)
def o512:=hK [hS "_law_spoilt" 1295,hS "_law_spoilt" 1296,hS "/claim/cut.py" 1297,hI 525,hI 2,hI 0,hI 0,hI 3,hR 846,.bool true,hI 181,hR 847,.none,.none,.none,hR 848,hI 1298,hI 525,hS "/claim/cut.py" 1299]
def o513:=hF "_law_spoilt" "_law_spoilt" (top 79) (hS "law_mustmay_k31_faults_at_rooms" 1198) (hR 849)
def o514:=hT [hS "_law_script" 1304,hS "_law_rooms" 1305,hS "_law_many" 1306,hS "_law_one" 1307,hS "_law_cell" 1308,hS "_law_way" 1309,hS "_law_other" 1310]
def o515:=hC "_law_pair" "_law_pair" (top 80)
def o516:=hK [hS "_law_pair" 1301,hS "_law_pair" 1302,hS "/claim/cut.py" 1303,hI 533,hI 1,hI 0,hI 0,hI 3,hR 851,.bool true,hI 181,hR 852,.none,hR 853,hR 854,hR 855,hI 1311,hI 533,hS "/claim/cut.py" 1312]
def o517:=hF "_law_pair" "_law_pair" (top 80) (hS "law_mustmay_k31_faults_at_rooms" 1198) (hR 856)
def o518:=hT [hS "_law_one" 1317,hS "_law_other" 1318,hS "_law_pair_here" 1319,hS "_law_action" 1320,hS "_law_mine" 1321,hS "_law_theirs" 1322]
def o519:=hC "_law_fault" "_law_fault" (top 81)
def o520:=hK [hS "_law_fault" 1314,hS "_law_fault" 1315,hS "/claim/cut.py" 1316,hI 546,hI 3,hI 0,hI 0,hI 3,hR 858,.bool true,hI 181,hR 859,.none,hR 860,hR 861,hR 862,hI 1323,hI 546,hS "/claim/cut.py" 1324]
def o521:=hF "_law_fault" "_law_fault" (top 81) (hS "law_mustmay_k31_faults_at_rooms" 1198) (hR 863)
def o522:=hT [hS "_law_found" 1329,hS "_law_due" 1330]
def o523:=hC "_law_right" "_law_right" (top 82)
def o524:=hK [hS "_law_right" 1326,hS "_law_right" 1327,hS "/claim/cut.py" 1328,hI 555,hI 2,hI 0,hI 0,hI 3,hR 865,.bool true,hI 181,hR 866,.none,hR 867,hR 868,hR 869,hI 1331,hI 555,hS "/claim/cut.py" 1332]
def o525:=hF "_law_right" "_law_right" (top 82) (hS "law_mustmay_k31_faults_at_rooms" 1198) (hR 870)
def o526:=hT [hS "_law_one" 1337,hS "_law_other" 1338,hS "_law_way" 1339,hS "_law_caught" 1340,hS "e" 1341]
def o527:=hC "_law_asked" "_law_asked" (top 83)
def o528:=hK [hS "_law_asked" 1334,hS "_law_asked" 1335,hS "/claim/cut.py" 1336,hI 561,hI 3,hI 0,hI 0,hI 3,hR 872,.bool true,hI 181,hR 873,.none,hR 874,hR 875,hR 876,hI 1342,hI 561,hS "/claim/cut.py" 1343]
def o529:=hF "_law_asked" "_law_asked" (top 83) (hS "law_mustmay_k31_faults_at_rooms" 1198) (hR 877)
def o530:=hC "_law_unlike" "_law_unlike" (top 84)
def o531:=hK [hS "_law_unlike" 1345,hS "_law_unlike" 1346,hS "/claim/cut.py" 1347,hI 579,hI 2,hI 0,hI 0,hI 3,hR 879,.bool true,hI 181,hR 880,.none,.none,.none,hR 881,hI 1348,hI 579,hS "/claim/cut.py" 1349]
def o532:=hF "_law_unlike" "_law_unlike" (top 84) (hS "law_mustmay_k31_faults_at_rooms" 1198) (hR 882)
def o533:=hC "law" "law" (top 85)
def o534:=hK [hS "law" 1351,hS "law" 1352,hS "/claim/cut.py" 1353,hI 585,hI 1,hI 0,hI 0,hI 3,hR 884,.bool true,hI 181,hR 885,.none,.none,.none,hR 886,hI 1354,hI 585,hS "/claim/cut.py" 1355]
def o535:=hF "law" "law" (top 85) (hS "law_mustmay_k31_faults_at_rooms" 1198) (hR 887)
def o536:=hDn 18 [hE P "__name__" 165 (hS "mustmay.errors" 435),hE P "__doc__" 166 .none,hE P "__package__" 167 .none,hE P "__loader__" 168 (.builtin "__main__.__loader__#opaque"),hE P "__spec__" 169 .none,hE P "__annotations__" 170 (hR 6),hE P "__builtins__" 171 (hR 4),hE P "__file__" 173 (hS "/claim/cut.py" 172),hE P "__cached__" 174 .none,hE P "_wall" 193 (hR 21),hE P "Door" 231 (hR 45),hE P "Must" 276 (hR 87),hE P "May" 321 (hR 127),hE P "Shut" 373 (hR 174),hE P "Torn" 425 (hR 221),hE P "door_of" 434 (hR 230),hE P "HallError" 454 (hR 240),hE P "BadPlan" 481 (hR 260)]
def o537:=hN [hI 1,hI 0,hR 20,hI 5,hI 0,hR 27,hI 12,hI 0,hR 55,hI 25,hI 0,hR 95,hI 38,hI 0,hR 135,hI 54,hI 0,hR 182,hI 70,hI 0,hR 229,hI 79,hI 0,hR 236,hI 81,hI 0,hR 249]
def o538:Obj:=⟨(.type "type"),none,(.cls ⟨"HallError",[.type "ValueError"],[hR 240,.type "ValueError",.type "Exception",.type "BaseException",.type "object"],239,"HallError",true,[],[hR 260],false,none,false⟩),Array.mk [some (hR 231),none,some (hS "HallError" 437),some (hS "HallError" 445),some (.builtin "ValueError.__new__"),some (.bool true)]⟩
def o539:=hDn 45 [hE P "__name__" 165 (hS "mustmay.least" 736),hE P "__doc__" 166 .none,hE P "__package__" 167 .none,hE P "__loader__" 168 (.builtin "__main__.__loader__#opaque"),hE P "__spec__" 169 .none,hE P "__annotations__" 170 (hR 6),hE P "__builtins__" 171 (hR 4),hE P "__file__" 173 (hS "/claim/cut.py" 172),hE P "__cached__" 174 .none,hE P "_wall" 193 (hR 21),hE P "Door" 231 (hR 45),hE P "Must" 276 (hR 87),hE P "May" 321 (hR 127),hE P "Shut" 373 (hR 174),hE P "Torn" 425 (hR 221),hE P "door_of" 434 (hR 230),hE P "HallError" 454 (hR 240),hE P "BadPlan" 481 (hR 260),hE P "NoWay" 506 (hR 279),hE P "Unlike" 522 (hR 291),hE P "TooMany" 538 (hR 303),hE P "LETTERS" 542 (hS "abcdefghijklmnopqrstuvwxyz" 541),hE P "MOST_SIGNS" 544 (.int (8) 543),hE P "MOST_ACTIONS" 546 (.int (8) 545),hE P "MOST_ROOMS" 548 (.int (2000) 547),hE P "is_name" 554 (hR 310),hE P "is_action_list" 560 (hR 315),hE P "need_actions" 567 (hR 322),hE P "is_room" 575 (hR 329),hE P "is_told_door" 585 (hR 336),hE P "need_rooms" 598 (hR 343),hE P "made_door" 606 (hR 350),hE P "made_room" 612 (hR 355),hE P "told_room" 618 (hR 360),hE P "Draft" 698 (hR 422),hE P "Plan" 721 (hR 443),hE P "need_same" 729 (hR 452),hE P "led_room" 735 (hR 457),hE P "reached" 748 (hR 464),hE P "words_of" 754 (hR 469),hE P "ends_of" 760 (hR 474),hE P "sources_of" 766 (hR 479),hE P "numbered" 772 (hR 484),hE P "rest_of" 778 (hR 489),hE P "Blocks" 852 (hR 535)]
def o540:=hN [hI 1,hI 0,hR 20,hI 5,hI 0,hR 27,hI 12,hI 0,hR 55,hI 25,hI 0,hR 95,hI 38,hI 0,hR 135,hI 54,hI 0,hR 182,hI 70,hI 0,hR 229,hI 79,hI 0,hR 236,hI 81,hI 0,hR 249,hI 87,hI 0,hR 268,hI 92,hI 0,hR 287,hI 94,hI 0,hR 299,hI 101,hI 0,hR 309,hI 105,hI 0,hR 314,hI 109,hI 0,hR 321,hI 112,hI 0,hR 328,hI 114,hI 0,hR 335,hI 123,hI 0,hR 342,hI 132,hI 0,hR 349,hI 135,hI 0,hR 354,hI 137,hI 0,hR 359,hI 139,hI 0,hR 366,hI 168,hI 0,hR 432,hI 172,hI 0,hR 451,hI 175,hI 0,hR 456,hI 178,hI 0,hR 463,hI 189,hI 0,hR 468,hI 191,hI 0,hR 473,hI 193,hI 0,hR 478,hI 199,hI 0,hR 483,hI 204,hI 0,hR 488,hI 210,hI 0,hR 495]
def HA:Heap:=⟨Array.mk [boot_o_0 P,boot_o_1 P,boot_o_2 P,boot_o_3 P,boot_o_4 P,boot_o_5 P,boot_o_6 P,boot_o_7 P,boot_o_8 P,boot_o_9 P,boot_o_10 P,hT [],hN [],o0,o1],{}⟩
def TB:BT:=(nn (boot_o_0 P) (nn (boot_o_1 P) (nn (boot_o_3 P) (lf (boot_o_7 P)) (lf (hT []))) (nn (boot_o_5 P) (lf (boot_o_9 P)) (lf o0))) (nn (boot_o_2 P) (nn (boot_o_4 P) (lf (boot_o_8 P)) (lf (hN []))) (nn (boot_o_6 P) (lf (boot_o_10 P)) (lf o1))))
def TF:BT:=(nn (boot_o_0 P) (nn (boot_o_1 P) (nn (o2 P) (nn (boot_o_7 P) (nn (hT []) (nn o13 (nn o35 (nn o73 (nn o150 (lf o308) (lf (hN []))) (nn (hT []) (lf (hN [])) .nil)) (nn (hT []) (nn (hT []) (lf o349) (lf o502)) (nn (hN []) (lf (hN [])) .nil))) (nn o54 (nn (hN []) (nn o172 (lf o329) (lf o483)) (nn o247 (lf (hT [])) .nil)) (nn o131 (nn (hT []) (lf (hT [])) (lf o520)) (nn o289 (lf (hT [])) .nil)))) (nn o25 (nn (hN []) (nn o83 (nn (hN []) (lf (hN [])) (lf (hT []))) (nn o238 (lf o397) .nil)) (nn o120 (nn o201 (lf o360) (lf (hN []))) (nn o279 (lf o437) .nil))) (nn (hT []) (nn o102 (nn o182 (lf (hT [])) (lf o492)) (nn o259 (lf o418) .nil)) (nn (o140 P) (nn o220 (lf o378) (lf (hT []))) (nn o298 (lf o456) .nil))))) (nn o8 (nn (hT []) (nn (hT []) (nn o78 (.node (hT [(hR 240)]) (lf (hT [])) (lf o469)) (nn o233 (lf o392) .nil)) (nn (hN []) (nn o196 (lf o355) (lf (hT []))) (nn o274 (lf o432) .nil))) (nn o59 (nn o96 (nn o8 (lf o334) (lf (hT []))) (nn o254 (lf (hT [])) .nil)) (nn o136 (nn o215 (lf (hN [])) (lf o525)) (nn o293 (lf o451) .nil)))) (nn o30 (nn o49 (nn (hT []) (nn o168 (lf o323) (lf (hN []))) (nn (hN []) (lf o402) .nil)) (nn (hT []) (nn o206 (lf o365) (lf o515)) (nn (hN []) (lf o442) .nil))) (nn (hN []) (nn o107 (nn (hT []) (lf (hN [])) (lf o497)) (nn o264 (lf o423) .nil)) (nn (hT []) (nn o224 (lf (hT [])) (lf o534)) (nn (hN []) (lf (hT [])) .nil)))))) (nn (hT []) (nn o5 (nn o16 (nn (hT []) (nn o8 (nn (o154 P) (lf (hT [])) (lf o467)) (nn (hT []) (lf (hT [])) .nil)) (nn o113 (nn (hT []) (lf o353) (lf (hT []))) (nn o272 (lf o430) .nil))) (nn o56 (nn o94 (nn o175 (lf (o331 P)) (lf o486)) (nn o250 (lf o409) .nil)) (nn (hT []) (nn o213 (lf o371) (lf o522)) (nn o291 (lf o449) .nil)))) (nn o8 (nn o46 (nn (hT []) (nn o164 (lf o319) (lf o476)) (nn o240 (lf o399) .nil)) (nn o123 (nn o203 (lf o362) (lf (hT []))) (nn o281 (lf o439) .nil))) (nn o65 (nn (o104 P) (nn (hN []) (lf o340) (lf (hN []))) (nn (hN []) (lf (hN [])) .nil)) (nn o144 (nn o222 (lf (hN [])) (lf o532)) (nn o300 (lf (hT [])) .nil))))) (nn o11 (nn o21 (nn o41 (nn o80 (nn o159 (lf o314) (lf (hN []))) (nn (hN []) (lf (hN [])) .nil)) (nn o118 (nn (hN []) (lf (hN [])) (lf o508)) (nn (hN []) (lf o435) .nil))) (nn (hT []) (nn o99 (nn o179 (lf (hT [])) (lf (hT []))) (.node (hT [(hR 422)]) (lf o414) .nil)) (nn (hN []) (nn (o217 P) (lf o376) (lf (hT []))) (nn o8 (lf o453) .nil)))) (nn o32 (nn o8 (nn o89 (nn o8 (lf o327) (lf o481)) (nn o245 (lf (hT [])) .nil)) (nn (hT []) (nn (hT []) (lf (hT [])) (lf (hN []))) (nn (hT []) (lf (hT [])) .nil))) (nn o70 (nn (hT []) (nn o190 (lf o345) (lf o499)) (nn o267 (lf o425) .nil)) (nn (hT []) (nn o227 (lf o385) .nil) (nn (hT []) (lf o462) .nil))))))) (nn (boot_o_5 P) (nn (boot_o_9 P) (nn o4 (nn o14 (nn (hN []) (nn o75 (nn o152 (lf (hN [])) (lf (hT []))) (nn o230 (lf o389) .nil)) (nn o112 (nn o193 (lf o351) (lf (hN []))) (nn (hT []) (lf (hT [])) .nil))) (nn (hT []) (nn (hT []) (nn (hT []) (lf (hT [])) (lf o484)) (nn o248 (lf o407) .nil)) (nn (hN []) (nn o211 (lf o370) (lf (hT []))) (nn (hN []) (lf o447) .nil)))) (nn o27 (nn (hT []) (nn (hN []) (nn (hT []) (lf (hT [])) (lf o475)) (nn (hT []) (lf (hT [])) .nil)) (nn o121 (nn (hT []) (lf (hT [])) (lf o512)) (nn (hT []) (lf (hT [])) .nil))) (nn o64 (.node (hT [(hR 45)]) (nn o184 (lf o339) (lf o494)) (nn o261 (lf o420) .nil)) (nn o142 (nn (hN []) (lf o380) (lf o530)) (nn (hT []) (lf (hN [])) .nil))))) (nn (hT []) (nn o19 (nn o40 (nn (hT []) (nn (o158 P) (lf o313) (lf o471)) (nn o235 (lf o394) .nil)) (nn (hT []) (nn o198 (lf o357) (lf o507)) (nn o276 (lf o433) .nil))) (nn (hN []) (nn o97 (nn (hT []) (lf (hN [])) (lf o489)) (nn o256 (lf o412) .nil)) (nn (o137 P) (nn (hT []) (lf (hT [])) (lf (hN []))) (nn o295 (lf (hT [])) .nil)))) (nn (hT []) (nn o51 (nn o88 (nn o170 (lf o325) (lf (hT []))) (nn (hT []) (lf (hN [])) .nil)) (nn o126 (nn (hN []) (lf (hN [])) (lf o517)) (nn o285 (lf (hN [])) .nil))) (nn (hT []) (nn (hN []) (nn o188 (lf (hT [])) (lf (hT []))) (nn (hT []) (lf (hT [])) .nil)) (nn o147 (nn o225 (lf (o384 P)) .nil) (nn o304 (lf o461) .nil)))))) (nn o0 (nn o7 (nn (hN []) (nn o38 (nn (hT []) (nn o156 (lf o311) (lf (hT []))) (nn o232 (lf o391) .nil)) (nn o115 (nn o195 (lf (hN [])) (lf o505)) (nn (hT []) (lf (hT [])) .nil))) (nn o57 (nn (hT []) (nn o177 (lf o332) (lf (hN []))) (nn (o252 P) (lf (hN [])) .nil)) (nn o134 (nn (hN []) (lf o373) (lf o523)) (nn (hT []) (lf (hN [])) .nil)))) (nn (hT []) (nn (hT []) (nn o86 (nn o166 (lf o321) (lf o478)) (nn o242 (lf o400) .nil)) (nn (hN []) (nn o204 (lf o363) (lf o514)) (nn o283 (lf o440) .nil))) (nn o67 (nn o105 (nn o186 (lf o342) (lf (hT []))) (nn (hT []) (lf (hT [])) .nil)) (nn o8 (nn (hT []) (lf o382) (lf (hN []))) (nn o302 (lf o459) .nil))))) (nn (hT []) (nn o23 (nn o43 (nn o81 (nn o161 (lf o316) (lf o473)) (nn (hT []) (lf (hT [])) .nil)) (nn (hT []) (nn (hT []) (lf (hT [])) (lf o510)) (nn (hT []) (lf (hN [])) .nil))) (nn o62 (nn (o100 P) (nn (hT []) (lf o337) (lf o491)) (nn (o258 P) (lf o416) .nil)) (nn o139 (nn o218 (lf (hT [])) (lf o528)) (nn (hT []) (lf o454) .nil)))) (nn o33 (nn (hT []) (nn o91 (nn (hT []) (lf (hN [])) (lf (hT []))) (nn (hT []) (lf o405) .nil)) (nn o129 (nn o209 (lf o368) (lf (hT []))) (nn o287 (lf o445) .nil))) (nn (hT []) (nn o110 (nn (hN []) (lf o347) (lf o500)) (nn o269 (lf o427) .nil)) (nn o149 (nn (hN []) (lf o387) .nil) (nn o306 (lf o464) .nil)))))))) (nn (boot_o_2 P) (nn (boot_o_4 P) (nn (boot_o_8 P) (nn (hN []) (nn (hT []) (nn (hT []) (nn o74 (nn o151 (lf (hT [])) (lf o465)) (nn o229 (lf o388) .nil)) (nn (hN []) (nn o192 (lf o350) (lf (hT []))) (nn o270 (lf o428) .nil))) (nn o55 (nn o92 (nn o173 (lf o330) (lf (hT []))) (nn (hT []) (lf (hN [])) .nil)) (nn (hT []) (nn (hN []) (lf (hN [])) (lf o521)) (nn (hT []) (lf (hN [])) .nil)))) (nn o26 (nn o44 (nn (hT []) (nn o162 (lf o317) (lf (hN []))) (nn o239 (lf o398) .nil)) (nn (hT []) (nn o202 (lf o361) (lf o511)) (nn o280 (lf o438) .nil))) (nn (hN []) (nn o103 (nn o183 (lf (hN [])) (lf o493)) (nn o260 (lf o419) .nil)) (nn o141 (nn (hT []) (lf o379) (lf (hN []))) (nn o299 (lf (hT [])) .nil))))) (nn (o9 P) (nn o18 (nn (hN []) (nn o79 (nn o8 (lf (hN [])) (lf o470)) (nn o234 (lf o393) .nil)) (nn o116 (nn o197 (lf o356) (lf (hN []))) (nn o275 (lf (hT [])) .nil))) (nn (hT []) (nn (hT []) (nn (o178 P) (lf (hT [])) (lf o488)) (nn o255 (lf o411) .nil)) (nn o8 (nn o216 (lf o374) (lf (hT []))) (nn o294 (lf o452) .nil)))) (nn o31 (nn o50 (nn (hN []) (nn o169 (lf o324) (lf o479)) (nn o243 (lf (hT [])) .nil)) (nn o125 (nn (hT []) (lf (hT [])) (lf o516)) (nn o284 (lf (hT [])) .nil))) (nn o68 (nn (hT []) (nn (hN []) (lf o343) (lf o498)) (nn o265 (lf o424) .nil)) (nn o146 (nn (hT []) (lf o8) (lf o535)) (nn o303 (lf (hN [])) .nil)))))) (nn o3 (nn o6 (nn (hT []) (nn o37 (nn (o76 P) (nn o155 (lf o310) (lf o468)) (nn (hN []) (lf (hN [])) .nil)) (nn o114 (nn (hN []) (lf (hT [])) (lf o504)) (nn o273 (lf o431) .nil))) (nn (hT []) (nn o95 (nn o176 (lf (hT [])) (lf (hT []))) (nn o251 (lf (hT [])) .nil)) (nn o133 (nn (hT []) (lf o372) (lf (hT []))) (nn o292 (lf (hT [])) .nil)))) (nn (o28 P) (nn o47 (nn o85 (nn o165 (lf o320) (lf o477)) (nn o241 (lf (hT [])) .nil)) (nn (hT []) (nn (hT []) (lf (hT [])) (lf (hN []))) (nn o282 (lf (hT [])) .nil))) (nn o66 (nn (hT []) (nn o185 (lf o341) (lf o495)) (nn o262 (lf o421) .nil)) (.node (hT [(hR 240)]) (nn o223 (lf o381) (lf (hT []))) (nn o301 (lf o458) .nil))))) (nn o12 (nn (o22 P) (nn o42 (nn (hT []) (nn o160 (lf o315) (lf o472)) (nn o236 (lf o395) .nil)) (nn o119 (nn o199 (lf o358) (lf o509)) (nn o277 (lf (hT [])) .nil))) (nn o61 (nn (hT []) (nn o180 (lf o336) (lf (hN []))) (nn o8 (lf (o415 P)) .nil)) (nn o138 (nn (hT []) (lf o377) (lf o527)) (nn (o296 P) (lf (hT [])) .nil)))) (nn (hT []) (nn (o52 P) (nn o90 (nn (o171 P) (lf (hT [])) (lf o482)) (nn o246 (lf o404) .nil)) (nn (o128 P) (nn o208 (lf o367) (lf o518)) (nn (hN []) (lf o444) .nil))) (nn o71 (nn o109 (nn (hT []) (lf o346) (lf (hT []))) (nn o268 (lf o426) .nil)) (nn (hN []) (nn (hT []) (lf o386) .nil) (nn (hN []) (lf o463) .nil))))))) (nn (boot_o_6 P) (nn (boot_o_10 P) (nn (hT []) (nn o15 (nn o36 (.node (hT [(hR 45)]) (nn o153 (lf o309) (lf o466)) (nn o231 (lf o390) .nil)) (nn (hT []) (nn o194 (lf o352) (lf o503)) (nn o271 (lf o429) .nil))) (nn (hN []) (nn o93 (nn (o174 P) (lf o8) (lf o485)) (nn o249 (lf o408) .nil)) (nn o132 (nn o212 (lf (hT [])) (lf (hN []))) (nn o290 (lf o448) .nil)))) (.node (hT [(hR 45)]) (nn o45 (nn o84 (nn o163 (lf o318) (lf (hT []))) (nn (hN []) (lf (hN [])) .nil)) (nn o122 (nn (hN []) (lf (hN [])) (lf o513)) (nn (hN []) (lf (hN [])) .nil))) (nn (hT []) (nn o8 (nn (hT []) (lf (hT [])) (lf (hT []))) (nn (hT []) (lf (hT [])) .nil)) (nn o143 (nn o221 (lf (hT [])) (lf o531)) (nn (hN []) (lf o457) .nil))))) (nn o10 (nn o20 (nn (hT []) (nn (hN []) (nn (hT []) (lf (hT [])) (lf (hT []))) (nn (hT []) (lf (hT [])) .nil)) (nn o117 (nn (hT []) (lf (hT [])) (lf (hT []))) (nn (hT []) (lf o434) .nil))) (nn o60 (nn o98 (nn (hN []) (lf o335) (lf o490)) (nn o257 (lf o413) .nil)) (nn (hT []) (nn o8 (lf o375) (lf o526)) (nn (hT []) (lf (hN [])) .nil)))) (nn (hN []) (.node (hT [(hR 45)]) (nn (hT []) (.node (hT [(hR 240)]) (lf o326) (lf o480)) (nn o244 (lf o403) .nil)) (nn o127 (nn o207 (lf o366) (lf (hT []))) (nn o286 (lf o443) .nil))) (nn o69 (nn o108 (nn o189 (lf o344) (lf (hN []))) (nn (o266 P) (lf (hN [])) .nil)) (nn o148 (nn o226 (lf (hT [])) .nil) (nn o305 (lf (hT [])) .nil)))))) (nn o1 (nn (hT []) (nn o17 (nn o39 (nn o77 (nn o157 (lf o312) (lf (hN []))) (nn (hT []) (lf (hT [])) .nil)) (nn (hT []) (nn (hT []) (lf o354) (lf o506)) (nn (hN []) (lf (hN [])) .nil))) (nn o58 (nn (hN []) (.node (hT [(hR 240)]) (lf o333) (lf o487)) (nn o253 (lf o410) .nil)) (nn o135 (nn o214 (lf (hT [])) (lf o524)) (nn (hN []) (lf o450) .nil)))) (nn o29 (nn (o48 P) (nn o87 (nn (o167 P) (lf (o322 P)) (lf (hT []))) (nn (hT []) (lf o401) .nil)) (nn o124 (nn o205 (lf o364) (lf (hT []))) (nn (hT []) (lf o441) .nil))) (nn (hT []) (nn o106 (nn o187 (lf (hT [])) (lf o496)) (nn o263 (lf o422) .nil)) (nn (o145 P) (nn (hN []) (lf o383) (lf o533)) (nn (hT []) (lf o460) .nil))))) (nn (hN []) (nn o24 (nn (hT []) (nn o82 (nn (hT []) (lf (hT [])) (lf o474)) (nn o237 (lf o396) .nil)) (nn (hN []) (nn o200 (lf o359) (lf (hT []))) (nn o278 (lf o436) .nil))) (nn o63 (nn o101 (nn (o181 P) (lf o338) (lf (hT []))) (nn (hT []) (lf o417) .nil)) (nn (hT []) (nn o219 (lf (hN [])) (lf o529)) (nn o297 (lf o455) .nil)))) (nn o34 (nn o53 (nn (hT []) (nn (hN []) (lf o328) (lf (hN []))) (nn (hN []) (lf o406) .nil)) (nn o130 (nn o210 (lf o369) (lf o519)) (nn o288 (lf o446) .nil))) (nn (o72 P) (nn o111 (nn o191 (lf (o348 P)) (lf o501)) (nn (hT []) (lf (hT [])) .nil)) (nn (hT []) (nn o228 (lf (hT [])) .nil) (nn o307 (lf (hT [])) .nil)))))))))
def TM0:BT:=(nn (boot_o_0 P) (nn (boot_o_1 P) (nn (o536 P) (nn (boot_o_7 P) (nn (hT []) (nn o13 (nn o35 (nn o73 (lf o150) .nil) (lf (hT []))) (nn o54 (lf (hN [])) (lf o131))) (nn o25 (nn (hN []) (lf o83) (lf o120)) (nn (hT []) (lf o102) (lf (o140 P))))) (nn o8 (nn (hT []) (nn (hT []) (lf o78) (lf (hN []))) (nn o59 (lf o96) (lf o136))) (nn o30 (nn o49 (lf (hT [])) (lf (hT []))) (nn (hN []) (lf o107) (lf (hT [])))))) (nn (hT []) (nn o5 (nn o16 (nn (hT []) (nn o8 (lf (o154 P)) .nil) (lf o113)) (nn o56 (lf o94) (lf (hT [])))) (nn o8 (nn o46 (lf (hT [])) (lf o123)) (nn o65 (lf (o104 P)) (lf o144)))) (nn o11 (nn o21 (nn o41 (lf o80) (lf o118)) (nn (hT []) (lf o99) (lf (hN [])))) (nn o32 (nn o8 (lf o89) (lf (hT []))) (nn o70 (lf (hT [])) (lf (hT []))))))) (nn (boot_o_5 P) (nn (boot_o_9 P) (nn o4 (nn o14 (nn (hN []) (nn o75 (lf o152) .nil) (lf o112)) (nn (hT []) (lf (hT [])) (lf (hN [])))) (nn o27 (nn (hT []) (lf (hN [])) (lf o121)) (nn o64 (.node (hT [(hR 45)]) .nil .nil) (lf o142)))) (nn (hT []) (nn o19 (nn o40 (lf (hT [])) (lf (hT []))) (nn (hN []) (lf o97) (lf (o137 P)))) (nn (hT []) (nn o51 (lf o88) (lf o126)) (nn (hT []) (lf (hN [])) (lf o147))))) (nn o0 (nn o7 (nn (hN []) (nn o38 (nn (hT []) (lf o156) .nil) (lf o115)) (nn o57 (lf (hT [])) (lf o134))) (nn (hT []) (nn (hT []) (lf o86) (lf (hN []))) (nn o67 (lf o105) (lf o8)))) (nn (hT []) (nn o23 (nn o43 (lf o81) (lf (hT []))) (nn o62 (lf (o100 P)) (lf o139))) (nn o33 (nn (hT []) (lf o91) (lf o129)) (nn (hT []) (lf o110) (lf o149))))))) (nn (boot_o_2 P) (nn (boot_o_4 P) (nn (boot_o_8 P) (nn (hN []) (nn (hT []) (nn (hT []) (nn o74 (lf o151) .nil) (lf (hN []))) (nn o55 (lf o92) (lf (hT [])))) (nn o26 (nn o44 (lf (hT [])) (lf (hT []))) (nn (hN []) (lf o103) (lf o538)))) (nn (o9 P) (nn o18 (nn (hN []) (lf o79) (lf o116)) (nn (hT []) (lf (hT [])) (lf o8))) (nn o31 (nn o50 (lf (hN [])) (lf o125)) (nn o68 (lf (hT [])) (lf o146))))) (nn o537 (nn o6 (nn (hT []) (nn o37 (nn (o76 P) (lf o155) .nil) (lf o114)) (nn (hT []) (lf o95) (lf o133))) (nn (o28 P) (nn o47 (lf o85) (lf (hT []))) (nn o66 (lf (hT [])) (.node (hT [(hR 240)]) .nil .nil)))) (nn o12 (nn (o22 P) (nn o42 (lf (hT [])) (lf o119)) (nn o61 (lf (hT [])) (lf o138))) (nn (hT []) (nn (o52 P) (lf o90) (lf (o128 P))) (nn o71 (lf o109) (lf (hN []))))))) (nn (boot_o_6 P) (nn (boot_o_10 P) (nn (hT []) (nn o15 (nn o36 (.node (hT [(hR 45)]) (lf o153) .nil) (lf (hT []))) (nn (hN []) (lf o93) (lf o132))) (.node (hT [(hR 45)]) (nn o45 (lf o84) (lf o122)) (nn (hT []) (lf o8) (lf o143)))) (nn o10 (nn o20 (nn (hT []) (lf (hN [])) (lf o117)) (nn o60 (lf o98) (lf (hT [])))) (nn (hN []) (.node (hT [(hR 45)]) (lf (hT [])) (lf o127)) (nn o69 (lf o108) (lf o148))))) (nn o1 (nn (hT []) (nn o17 (nn o39 (nn o77 (lf o157) .nil) (lf (hT []))) (nn o58 (lf (hN [])) (lf o135))) (nn o29 (nn (o48 P) (lf o87) (lf o124)) (nn (hT []) (lf o106) (lf (o145 P))))) (nn (hN []) (nn o24 (nn (hT []) (lf o82) (lf (hN []))) (nn o63 (lf o101) (lf (hT [])))) (nn o34 (nn o53 (lf (hT [])) (lf o130)) (nn (o72 P) (lf o111) (lf (hT [])))))))))
def TM1:BT:=(nn (boot_o_0 P) (nn (boot_o_1 P) (nn (o539 P) (nn (boot_o_7 P) (nn (hT []) (nn o13 (nn o35 (nn o73 (nn o150 (lf o308) .nil) (lf (hT []))) (nn (hT []) (lf (hT [])) (lf (hN [])))) (nn o54 (nn (hN []) (lf o172) (lf o247)) (nn o131 (lf (hT [])) (lf o289)))) (nn o25 (nn (hN []) (nn o83 (nn (hN []) (lf (hN [])) .nil) (lf o238)) (nn o120 (lf o201) (lf o279))) (nn (hT []) (nn o102 (lf o182) (lf o259)) (nn (o140 P) (lf o220) (lf o298))))) (nn o8 (nn (hT []) (nn (hT []) (nn o78 (.node (hT [(hR 240)]) (lf (hT [])) .nil) (lf o233)) (nn (hN []) (lf o196) (lf o274))) (nn o59 (nn o96 (lf o8) (lf o254)) (nn o136 (lf o215) (lf o293)))) (nn o30 (nn o49 (nn (hT []) (nn o168 (lf o323) .nil) (lf (hN []))) (nn (hT []) (lf o206) (lf (hN [])))) (nn (hN []) (nn o107 (lf (hT [])) (lf o264)) (nn (hT []) (lf o224) (lf (hN []))))))) (nn (hT []) (nn o5 (nn o16 (nn (hT []) (nn o8 (nn (o154 P) (lf (hT [])) .nil) (lf (hT []))) (nn o113 (lf (hT [])) (lf o272))) (nn o56 (nn o94 (lf o175) (lf o250)) (nn (hT []) (lf o213) (lf o291)))) (nn o8 (nn o46 (nn (hT []) (nn o164 (lf o319) .nil) (lf o240)) (nn o123 (lf o203) (lf o281))) (nn o65 (nn (o104 P) (lf (hN [])) (lf (hN []))) (nn o144 (lf o222) (lf o300))))) (nn o11 (nn o21 (nn o41 (nn o80 (nn o159 (lf o314) .nil) (lf (hN []))) (nn o118 (lf (hN [])) (lf (hN [])))) (nn (hT []) (nn o99 (lf o179) (.node (hT [(hR 422)]) .nil .nil)) (nn (hN []) (lf (o217 P)) (lf o8)))) (nn o32 (nn o8 (nn o89 (nn o8 (lf o327) .nil) (lf o245)) (nn (hT []) (lf (hT [])) (lf (hT [])))) (nn o70 (nn (hT []) (lf o190) (lf o267)) (nn (hT []) (lf o227) (lf (hT [])))))))) (nn (boot_o_5 P) (nn (boot_o_9 P) (nn o4 (nn o14 (nn (hN []) (nn o75 (nn o152 (lf (hN [])) .nil) (lf o230)) (nn o112 (lf o193) (lf (hT [])))) (nn (hT []) (nn (hT []) (lf (hT [])) (lf o248)) (nn (hN []) (lf o211) (lf (hN []))))) (nn o27 (nn (hT []) (nn (hN []) (nn (hT []) (lf (hT [])) .nil) (lf (hT []))) (nn o121 (lf (hT [])) (lf (hT [])))) (nn o64 (.node (hT [(hR 45)]) (lf o184) (lf o261)) (nn o142 (lf (hN [])) (lf (hT [])))))) (nn (hT []) (nn o19 (nn o40 (nn (hT []) (nn (o158 P) (lf o313) .nil) (lf o235)) (nn (hT []) (lf o198) (lf o276))) (nn (hN []) (nn o97 (lf (hT [])) (lf o256)) (nn (o137 P) (lf (hT [])) (lf o295)))) (nn (hT []) (nn o51 (nn o88 (nn o170 (lf o325) .nil) (lf (hT []))) (nn o126 (lf (hN [])) (lf o285))) (nn (hT []) (nn (hN []) (lf o188) (lf (hT []))) (nn o147 (lf o225) (lf o304)))))) (nn o0 (nn o7 (nn (hN []) (nn o38 (nn (hT []) (nn o156 (lf o311) .nil) (lf o232)) (nn o115 (lf o195) (lf (hT [])))) (nn o57 (nn (hT []) (lf o177) (lf (o252 P))) (nn o134 (lf (hN [])) (lf (hT []))))) (nn (hT []) (nn (hT []) (nn o86 (nn o166 (lf o321) .nil) (lf o242)) (nn (hN []) (lf o204) (lf o283))) (nn o67 (nn o105 (lf o186) (lf (hT []))) (nn o8 (lf (hT [])) (lf o302))))) (nn (hT []) (nn o23 (nn o43 (nn o81 (nn o161 (lf o316) .nil) (lf (hT []))) (nn (hT []) (lf (hT [])) (lf (hT [])))) (nn o62 (nn (o100 P) (lf (hT [])) (lf (o258 P))) (nn o139 (lf o218) (lf (hT []))))) (nn o33 (nn (hT []) (nn o91 (lf (hT [])) (lf (hT []))) (nn o129 (lf o209) (lf o287))) (nn (hT []) (nn o110 (lf (hN [])) (lf o269)) (nn o149 (lf (hN [])) (lf o306)))))))) (nn (boot_o_2 P) (nn (boot_o_4 P) (nn (boot_o_8 P) (nn (hN []) (nn (hT []) (nn (hT []) (nn o74 (nn o151 (lf (hT [])) .nil) (lf o229)) (nn (hN []) (lf o192) (lf o270))) (nn o55 (nn o92 (lf o173) (lf (hT []))) (nn (hT []) (lf (hN [])) (lf (hT []))))) (nn o26 (nn o44 (nn (hT []) (nn o162 (lf o317) .nil) (lf o239)) (nn (hT []) (lf o202) (lf o280))) (nn (hN []) (nn o103 (lf o183) (lf o260)) (nn o141 (lf (hT [])) (lf o299))))) (nn (o9 P) (nn o18 (nn (hN []) (nn o79 (nn o8 (lf (hN [])) .nil) (lf o234)) (nn o116 (lf o197) (lf o275))) (nn (hT []) (nn (hT []) (lf (o178 P)) (lf o255)) (nn o8 (lf o216) (lf o294)))) (nn o31 (nn o50 (nn (hN []) (nn o169 (lf o324) .nil) (lf o243)) (nn o125 (lf (hT [])) (lf o284))) (nn o68 (nn (hT []) (lf (hN [])) (lf o265)) (nn o146 (lf (hT [])) (lf o303)))))) (nn o540 (nn o6 (nn (hT []) (nn o37 (nn (o76 P) (nn o155 (lf o310) .nil) (lf (hN []))) (nn o114 (lf (hN [])) (lf o273))) (nn (hT []) (nn o95 (lf o176) (lf o251)) (nn o133 (lf (hT [])) (lf o292)))) (nn (o28 P) (nn o47 (nn o85 (nn o165 (lf o320) .nil) (lf o241)) (nn (hT []) (lf (hT [])) (lf o282))) (nn o66 (nn (hT []) (lf o185) (lf o262)) (.node (hT [(hR 240)]) (lf o223) (lf o301))))) (nn o12 (nn (o22 P) (nn o42 (nn (hT []) (nn o160 (lf o315) .nil) (lf o236)) (nn o119 (lf o199) (lf o277))) (nn o61 (nn (hT []) (lf o180) (lf o8)) (nn o138 (lf (hT [])) (lf (o296 P))))) (nn (hT []) (nn (o52 P) (nn o90 (lf (o171 P)) (lf o246)) (nn (o128 P) (lf o208) (lf (hN [])))) (nn o71 (nn o109 (lf (hT [])) (lf o268)) (nn (hN []) (lf (hT [])) (lf (hN [])))))))) (nn (boot_o_6 P) (nn (boot_o_10 P) (nn (hT []) (nn o15 (nn o36 (.node (hT [(hR 45)]) (nn o153 (lf o309) .nil) (lf o231)) (nn (hT []) (lf o194) (lf o271))) (nn (hN []) (nn o93 (lf (o174 P)) (lf o249)) (nn o132 (lf o212) (lf o290)))) (.node (hT [(hR 45)]) (nn o45 (nn o84 (nn o163 (lf o318) .nil) (lf (hN []))) (nn o122 (lf (hN [])) (lf (hN [])))) (nn (hT []) (nn o8 (lf (hT [])) (lf (hT []))) (nn o143 (lf o221) (lf (hN [])))))) (nn o10 (nn o20 (nn (hT []) (nn (hN []) (nn (hT []) (lf (hT [])) .nil) (lf (hT []))) (nn o117 (lf (hT [])) (lf (hT [])))) (nn o60 (nn o98 (lf (hN [])) (lf o257)) (nn (hT []) (lf o8) (lf (hT []))))) (nn (hN []) (.node (hT [(hR 45)]) (nn (hT []) (.node (hT [(hR 240)]) (lf o326) .nil) (lf o244)) (nn o127 (lf o207) (lf o286))) (nn o69 (nn o108 (lf o189) (lf (o266 P))) (nn o148 (lf o226) (lf o305)))))) (nn o1 (nn (hT []) (nn o17 (nn o39 (nn o77 (nn o157 (lf o312) .nil) (lf (hT []))) (nn (hT []) (lf (hT [])) (lf (hN [])))) (nn o58 (nn (hN []) (.node (hT [(hR 240)]) .nil .nil) (lf o253)) (nn o135 (lf o214) (lf (hN []))))) (nn o29 (nn (o48 P) (nn o87 (nn (o167 P) (lf (o322 P)) .nil) (lf (hT []))) (nn o124 (lf o205) (lf (hT [])))) (nn (hT []) (nn o106 (lf o187) (lf o263)) (nn (o145 P) (lf (hN [])) (lf (hT [])))))) (nn (hN []) (nn o24 (nn (hT []) (nn o82 (nn (hT []) (lf (hT [])) .nil) (lf o237)) (nn (hN []) (lf o200) (lf o278))) (nn o63 (nn o101 (lf (o181 P)) (lf (hT []))) (nn (hT []) (lf o219) (lf o297)))) (nn o34 (nn o53 (nn (hT []) (lf (hN [])) (lf (hN []))) (nn o130 (lf o210) (lf o288))) (nn (o72 P) (nn o111 (lf o191) (lf (hT []))) (nn (hT []) (lf o228) (lf o307)))))))))
def HF:Heap:=⟨Array.mk [boot_o_0 P,boot_o_1 P,boot_o_2 P,o2 P,boot_o_4 P,boot_o_5 P,boot_o_6 P,boot_o_7 P,boot_o_8 P,boot_o_9 P,boot_o_10 P,hT [],o3,o0,o1,hT [],hN [],o4,hT [],o5,o6,o7,hT [],o8,o9 P,hT [],o10,o11,o12,hT [],hN [],o13,hT [],o14,o15,o16,hT [],hN [],o17,hT [],o18,o19,o20,o21,o22 P,o23,o24,o25,o26,o27,hT [(hR 45)],o8,o28 P,hT [],o29,o30,o31,hT [],hN [],o32,hT [],o33,o34,o35,hT [],hN [],o36,hT [],o37,o38,o39,hT [],hN [],o40,hT [],o41,o42,o43,hT [],hN [],o44,hT [],o45,o46,o47,hT [],o48 P,o49,o50,o51,hT [(hR 45)],o8,o52 P,hT [],o53,o54,o55,hT [],hN [],o56,hT [],o57,o58,o59,hT [],hN [],o60,hT [],o61,o62,o63,hT [],hN [],o64,hT [],o65,o66,o67,hT [],hN [],o68,hT [],o69,o70,o71,hT [],o72 P,o73,o74,o75,hT [(hR 45)],o8,o76 P,hT [],o77,o78,o79,hT [],hN [],o80,hT [],o81,o82,o83,hT [],hN [],o84,hT [],o85,o86,o87,hT [],hN [],o88,hT [],o89,o90,o91,hT [],hN [],o92,hT [],o93,o94,o95,hT [],hN [],o96,hT [],o97,o98,o99,hT [],o100 P,o101,o102,o103,hT [(hR 45)],o8,o104 P,hT [],o105,o106,o107,hT [],hN [],o108,hT [],o109,o110,o111,hT [],hN [],o112,hT [],o113,o114,o115,hT [],hN [],o116,hT [],o117,o118,o119,hT [],hN [],o120,hT [],o121,o122,o123,hT [],hN [],o124,hT [],o125,o126,o127,hT [],o128 P,o129,o130,o131,hT [],hN [],o132,hT [],o133,o134,o135,o136,o8,o137 P,hT [],hN [],o138,o139,hT [],o140 P,o141,o142,o143,o144,hT [(hR 240)],o8,o145 P,hT [],o146,o147,o148,hT [],hN [],o149,hT [],o150,o151,o152,o153,o154 P,o155,o156,o157,hT [(hR 240)],o8,o158 P,hT [],o159,o160,o161,hT [],hN [],o162,hT [],o163,o164,o165,o166,o167 P,o168,o169,o170,hT [(hR 240)],o8,o171 P,hT [],hN [],o172,o173,hT [],o174 P,o175,o176,o177,hT [(hR 240)],o8,o178 P,hT [],hN [],o179,o180,hT [],o181 P,o182,o183,o184,hT [],hN [],o185,o186,o187,hT [],hN [],o188,o189,o190,hT [],hN [],o191,hT [],o192,o193,o194,hT [],hN [],o195,hT [],o196,o197,o198,hT [],hN [],o199,hT [],o200,o201,o202,hT [],hN [],o203,hT [],o204,o205,o206,hT [],hN [],o207,hT [],o208,o209,o210,hT [],hN [],o211,o212,o213,hT [],hN [],o214,o215,o216,hT [],o8,o217 P,hT [],o218,o219,o220,hT [],hN [],o221,o222,o223,hT [],hN [],o224,hT [],o225,o226,o227,hT [],hN [],o228,hT [],o229,o230,o231,hT [],hN [],o232,hT [],o233,o234,o235,hT [],hN [],o236,hT [],o237,o238,o239,hT [],hN [],o240,o241,o242,hT [],hN [],o243,hT [],o244,o245,o246,hT [],hN [],o247,hT [],o248,o249,o250,o251,o252 P,o253,o254,o255,o256,o257,hT [(hR 422)],o8,o258 P,hT [],o259,o260,o261,hT [],hN [],o262,hT [],o263,o264,o265,hT [],o266 P,o267,o268,o269,hT [],hN [],o270,hT [],o271,o272,o273,hT [],hN [],o274,o275,o276,hT [],hN [],o277,hT [],o278,o279,o280,hT [],hN [],o281,o282,o283,hT [],hN [],o284,o285,o286,hT [],hN [],o287,o288,o289,hT [],hN [],o290,o291,o292,hT [],hN [],o293,o294,o295,hT [],o8,o296 P,hT [],o297,o298,o299,hT [],hN [],o300,o301,o302,hT [],hN [],o303,o304,o305,hT [],hN [],o306,o307,o308,hT [],hN [],o309,hT [],o310,o311,o312,hT [],hN [],o313,hT [],o314,o315,o316,hT [],hN [],o317,hT [],o318,o319,o320,o321,o322 P,o323,o324,o325,o326,o327,hT [],hN [],o328,o329,o330,hT [],o8,o331 P,hT [],o332,o333,o334,hT [],hN [],o335,hT [],o336,o337,o338,hT [],hN [],o339,hT [],o340,o341,o342,hT [],hN [],o343,hT [],o344,o345,o346,o347,o348 P,o349,o350,o351,o352,o353,hT [],hN [],o354,o355,o356,o357,hT [],hN [],o358,hT [],o359,o360,o361,hT [],hN [],o362,hT [],o363,o364,o365,hT [],hN [],o366,hT [],o367,o368,o369,hT [],hN [],o370,hT [],o371,o372,o373,hT [],hN [],o374,hT [],o375,o376,o377,hT [],hN [],o378,o379,o380,hT [],hN [],o381,o382,o383,hT [],o8,o384 P,hT [],o385,o386,o387,hT [],hN [],o388,o389,o390,hT [],hN [],o391,hT [],o392,o393,o394,hT [],hN [],o395,hT [],o396,o397,o398,hT [],hN [],o399,hT [],o400,o401,o402,hT [],hN [],o403,hT [],o404,o405,o406,hT [],hN [],o407,o408,o409,hT [],hN [],o410,hT [],o411,o412,o413,o414,o415 P,o416,o417,o418,o419,o420,hT [],hN [],o421,hT [],o422,o423,o424,hT [],hN [],o425,o426,o427,hT [],hN [],o428,hT [],o429,o430,o431,hT [],hN [],o432,hT [],o433,o434,o435,hT [],hN [],o436,o437,o438,hT [],hN [],o439,hT [],o440,o441,o442,hT [],hN [],o443,hT [],o444,o445,o446,hT [],hN [],o447,o448,o449,hT [],hN [],o450,o451,o452,hT [],hN [],o453,hT [],o454,o455,o456,hT [],hN [],o457,hT [],o458,o459,o460,hT [],hN [],o461,hT [],o462,o463,o464,hT [],hN [],o465,hT [],o466,o467,o468,hT [],hN [],o469,o470,o471,hT [],hN [],o472,o473,o474,hT [],hN [],o475,hT [],o476,o477,o478,hT [],hN [],o479,hT [],o480,o481,o482,hT [],hN [],o483,hT [],o484,o485,o486,hT [],hN [],o487,hT [],o488,o489,o490,hT [],hN [],o491,hT [],o492,o493,o494,hT [],hN [],o495,hT [],o496,o497,o498,hT [],hN [],o499,hT [],o500,o501,o502,hT [],hN [],o503,hT [],o504,o505,o506,hT [],hN [],o507,hT [],o508,o509,o510,hT [],hN [],o511,o512,o513,hT [],hN [],o514,hT [],o515,o516,o517,hT [],hN [],o518,hT [],o519,o520,o521,hT [],hN [],o522,hT [],o523,o524,o525,hT [],hN [],o526,hT [],o527,o528,o529,hT [],hN [],o530,o531,o532,hT [],hN [],o533,o534,o535],{}⟩
def KK:Params→Frag:=fun P=>(nat_lit 2,boot_o_2 P) :: (nat_lit 3,o2 P) :: (nat_lit 15,hT []) :: (nat_lit 17,o4) :: (nat_lit 18,hT []) :: (nat_lit 20,o6) :: (nat_lit 21,o7) :: (nat_lit 29,hT []) :: (nat_lit 31,o13) :: (nat_lit 32,hT []) :: (nat_lit 34,o15) :: (nat_lit 35,o16) :: (nat_lit 36,hT []) :: (nat_lit 38,o17) :: (nat_lit 39,hT []) :: (nat_lit 41,o19) :: (nat_lit 42,o20) :: (nat_lit 43,o21) :: (nat_lit 44,o22 P) :: (nat_lit 45,o23) :: (nat_lit 46,o24) :: (nat_lit 47,o25) :: (nat_lit 50,hT [(hR 45)]) :: (nat_lit 57,hT []) :: (nat_lit 59,o32) :: (nat_lit 60,hT []) :: (nat_lit 62,o34) :: (nat_lit 63,o35) :: (nat_lit 64,hT []) :: (nat_lit 66,o36) :: (nat_lit 67,hT []) :: (nat_lit 69,o38) :: (nat_lit 70,o39) :: (nat_lit 71,hT []) :: (nat_lit 73,o40) :: (nat_lit 74,hT []) :: (nat_lit 76,o42) :: (nat_lit 77,o43) :: (nat_lit 78,hT []) :: (nat_lit 80,o44) :: (nat_lit 81,hT []) :: (nat_lit 83,o46) :: (nat_lit 84,o47) :: (nat_lit 85,hT []) :: (nat_lit 86,o48 P) :: (nat_lit 87,o49) :: (nat_lit 90,hT [(hR 45)]) :: (nat_lit 97,hT []) :: (nat_lit 99,o56) :: (nat_lit 100,hT []) :: (nat_lit 102,o58) :: (nat_lit 103,o59) :: (nat_lit 104,hT []) :: (nat_lit 106,o60) :: (nat_lit 107,hT []) :: (nat_lit 109,o62) :: (nat_lit 110,o63) :: (nat_lit 111,hT []) :: (nat_lit 113,o64) :: (nat_lit 114,hT []) :: (nat_lit 116,o66) :: (nat_lit 117,o67) :: (nat_lit 118,hT []) :: (nat_lit 120,o68) :: (nat_lit 121,hT []) :: (nat_lit 123,o70) :: (nat_lit 124,o71) :: (nat_lit 125,hT []) :: (nat_lit 126,o72 P) :: (nat_lit 127,o73) :: (nat_lit 130,hT [(hR 45)]) :: (nat_lit 137,hT []) :: (nat_lit 139,o80) :: (nat_lit 140,hT []) :: (nat_lit 142,o82) :: (nat_lit 143,o83) :: (nat_lit 144,hT []) :: (nat_lit 146,o84) :: (nat_lit 147,hT []) :: (nat_lit 149,o86) :: (nat_lit 150,o87) :: (nat_lit 151,hT []) :: (nat_lit 153,o88) :: (nat_lit 154,hT []) :: (nat_lit 156,o90) :: (nat_lit 157,o91) :: (nat_lit 158,hT []) :: (nat_lit 160,o92) :: (nat_lit 161,hT []) :: (nat_lit 163,o94) :: (nat_lit 164,o95) :: (nat_lit 165,hT []) :: (nat_lit 167,o96) :: (nat_lit 168,hT []) :: (nat_lit 170,o98) :: (nat_lit 171,o99) :: (nat_lit 172,hT []) :: (nat_lit 173,o100 P) :: (nat_lit 174,o101) :: (nat_lit 177,hT [(hR 45)]) :: (nat_lit 184,hT []) :: (nat_lit 186,o108) :: (nat_lit 187,hT []) :: (nat_lit 189,o110) :: (nat_lit 190,o111) :: (nat_lit 191,hT []) :: (nat_lit 193,o112) :: (nat_lit 194,hT []) :: (nat_lit 196,o114) :: (nat_lit 197,o115) :: (nat_lit 198,hT []) :: (nat_lit 200,o116) :: (nat_lit 201,hT []) :: (nat_lit 203,o118) :: (nat_lit 204,o119) :: (nat_lit 205,hT []) :: (nat_lit 207,o120) :: (nat_lit 208,hT []) :: (nat_lit 210,o122) :: (nat_lit 211,o123) :: (nat_lit 212,hT []) :: (nat_lit 214,o124) :: (nat_lit 215,hT []) :: (nat_lit 217,o126) :: (nat_lit 218,o127) :: (nat_lit 219,hT []) :: (nat_lit 220,o128 P) :: (nat_lit 221,o129) :: (nat_lit 224,hT []) :: (nat_lit 226,o132) :: (nat_lit 227,hT []) :: (nat_lit 229,o134) :: (nat_lit 230,o135) :: (nat_lit 231,o136) :: (nat_lit 238,hT []) :: (nat_lit 239,o140 P) :: (nat_lit 240,o141) :: (nat_lit 241,o142) :: (nat_lit 244,hT [(hR 240)]) :: (nat_lit 251,hT []) :: (nat_lit 253,o149) :: (nat_lit 254,hT []) :: (nat_lit 256,o151) :: (nat_lit 257,o152) :: (nat_lit 258,o153) :: (nat_lit 259,o154 P) :: (nat_lit 260,o155) :: (nat_lit 263,hT [(hR 240)]) :: (nat_lit 270,hT []) :: (nat_lit 272,o162) :: (nat_lit 273,hT []) :: (nat_lit 275,o164) :: (nat_lit 276,o165) :: (nat_lit 277,o166) :: (nat_lit 278,o167 P) :: (nat_lit 279,o168) :: (nat_lit 282,hT [(hR 240)]) :: (nat_lit 289,hT []) :: (nat_lit 290,o174 P) :: (nat_lit 291,o175) :: (nat_lit 294,hT [(hR 240)]) :: (nat_lit 301,hT []) :: (nat_lit 302,o181 P) :: (nat_lit 303,o182) :: (nat_lit 306,hT []) :: (nat_lit 309,o186) :: (nat_lit 310,o187) :: (nat_lit 311,hT []) :: (nat_lit 314,o189) :: (nat_lit 315,o190) :: (nat_lit 316,hT []) :: (nat_lit 318,o191) :: (nat_lit 319,hT []) :: (nat_lit 321,o193) :: (nat_lit 322,o194) :: (nat_lit 323,hT []) :: (nat_lit 325,o195) :: (nat_lit 326,hT []) :: (nat_lit 328,o197) :: (nat_lit 329,o198) :: (nat_lit 330,hT []) :: (nat_lit 332,o199) :: (nat_lit 333,hT []) :: (nat_lit 335,o201) :: (nat_lit 336,o202) :: (nat_lit 337,hT []) :: (nat_lit 339,o203) :: (nat_lit 340,hT []) :: (nat_lit 342,o205) :: (nat_lit 343,o206) :: (nat_lit 344,hT []) :: (nat_lit 346,o207) :: (nat_lit 347,hT []) :: (nat_lit 349,o209) :: (nat_lit 350,o210) :: (nat_lit 351,hT []) :: (nat_lit 354,o212) :: (nat_lit 355,o213) :: (nat_lit 356,hT []) :: (nat_lit 359,o215) :: (nat_lit 360,o216) :: (nat_lit 368,hT []) :: (nat_lit 371,o222) :: (nat_lit 372,o223) :: (nat_lit 373,hT []) :: (nat_lit 375,o224) :: (nat_lit 376,hT []) :: (nat_lit 378,o226) :: (nat_lit 379,o227) :: (nat_lit 380,hT []) :: (nat_lit 382,o228) :: (nat_lit 383,hT []) :: (nat_lit 385,o230) :: (nat_lit 386,o231) :: (nat_lit 387,hT []) :: (nat_lit 389,o232) :: (nat_lit 390,hT []) :: (nat_lit 392,o234) :: (nat_lit 393,o235) :: (nat_lit 394,hT []) :: (nat_lit 396,o236) :: (nat_lit 397,hT []) :: (nat_lit 399,o238) :: (nat_lit 400,o239) :: (nat_lit 401,hT []) :: (nat_lit 404,o241) :: (nat_lit 405,o242) :: (nat_lit 406,hT []) :: (nat_lit 408,o243) :: (nat_lit 409,hT []) :: (nat_lit 411,o245) :: (nat_lit 412,o246) :: (nat_lit 413,hT []) :: (nat_lit 415,o247) :: (nat_lit 416,hT []) :: (nat_lit 418,o249) :: (nat_lit 419,o250) :: (nat_lit 420,o251) :: (nat_lit 421,o252 P) :: (nat_lit 422,o253) :: (nat_lit 423,o254) :: (nat_lit 424,o255) :: (nat_lit 427,hT [(hR 422)]) :: (nat_lit 434,hT []) :: (nat_lit 436,o262) :: (nat_lit 437,hT []) :: (nat_lit 439,o264) :: (nat_lit 440,o265) :: (nat_lit 441,hT []) :: (nat_lit 442,o266 P) :: (nat_lit 443,o267) :: (nat_lit 446,hT []) :: (nat_lit 448,o270) :: (nat_lit 449,hT []) :: (nat_lit 451,o272) :: (nat_lit 452,o273) :: (nat_lit 453,hT []) :: (nat_lit 456,o275) :: (nat_lit 457,o276) :: (nat_lit 458,hT []) :: (nat_lit 460,o277) :: (nat_lit 461,hT []) :: (nat_lit 463,o279) :: (nat_lit 464,o280) :: (nat_lit 465,hT []) :: (nat_lit 468,o282) :: (nat_lit 469,o283) :: (nat_lit 470,hT []) :: (nat_lit 473,o285) :: (nat_lit 474,o286) :: (nat_lit 475,hT []) :: (nat_lit 478,o288) :: (nat_lit 479,o289) :: (nat_lit 480,hT []) :: (nat_lit 483,o291) :: (nat_lit 484,o292) :: (nat_lit 485,hT []) :: (nat_lit 488,o294) :: (nat_lit 489,o295) :: (nat_lit 497,hT []) :: (nat_lit 500,o301) :: (nat_lit 501,o302) :: (nat_lit 502,hT []) :: (nat_lit 505,o304) :: (nat_lit 506,o305) :: (nat_lit 507,hT []) :: (nat_lit 510,o307) :: (nat_lit 511,o308) :: (nat_lit 512,hT []) :: (nat_lit 514,o309) :: (nat_lit 515,hT []) :: (nat_lit 517,o311) :: (nat_lit 518,o312) :: (nat_lit 519,hT []) :: (nat_lit 521,o313) :: (nat_lit 522,hT []) :: (nat_lit 524,o315) :: (nat_lit 525,o316) :: (nat_lit 526,hT []) :: (nat_lit 528,o317) :: (nat_lit 529,hT []) :: (nat_lit 531,o319) :: (nat_lit 532,o320) :: (nat_lit 533,o321) :: (nat_lit 534,o322 P) :: (nat_lit 535,o323) :: (nat_lit 536,o324) :: (nat_lit 537,o325) :: (nat_lit 540,hT []) :: (nat_lit 543,o329) :: (nat_lit 544,o330) :: (nat_lit 552,hT []) :: (nat_lit 554,o335) :: (nat_lit 555,hT []) :: (nat_lit 557,o337) :: (nat_lit 558,o338) :: (nat_lit 559,hT []) :: (nat_lit 561,o339) :: (nat_lit 562,hT []) :: (nat_lit 564,o341) :: (nat_lit 565,o342) :: (nat_lit 566,hT []) :: (nat_lit 568,o343) :: (nat_lit 569,hT []) :: (nat_lit 571,o345) :: (nat_lit 572,o346) :: (nat_lit 573,o347) :: (nat_lit 574,o348 P) :: (nat_lit 575,o349) :: (nat_lit 576,o350) :: (nat_lit 577,o351) :: (nat_lit 580,hT []) :: (nat_lit 583,o355) :: (nat_lit 584,o356) :: (nat_lit 585,o357) :: (nat_lit 586,hT []) :: (nat_lit 588,o358) :: (nat_lit 589,hT []) :: (nat_lit 591,o360) :: (nat_lit 592,o361) :: (nat_lit 593,hT []) :: (nat_lit 595,o362) :: (nat_lit 596,hT []) :: (nat_lit 598,o364) :: (nat_lit 599,o365) :: (nat_lit 600,hT []) :: (nat_lit 602,o366) :: (nat_lit 603,hT []) :: (nat_lit 605,o368) :: (nat_lit 606,o369) :: (nat_lit 607,hT []) :: (nat_lit 609,o370) :: (nat_lit 610,hT []) :: (nat_lit 612,o372) :: (nat_lit 613,o373) :: (nat_lit 614,hT []) :: (nat_lit 616,o374) :: (nat_lit 617,hT []) :: (nat_lit 619,o376) :: (nat_lit 620,o377) :: (nat_lit 621,hT []) :: (nat_lit 624,o379) :: (nat_lit 625,o380) :: (nat_lit 626,hT []) :: (nat_lit 629,o382) :: (nat_lit 630,o383) :: (nat_lit 638,hT []) :: (nat_lit 641,o389) :: (nat_lit 642,o390) :: (nat_lit 643,hT []) :: (nat_lit 645,o391) :: (nat_lit 646,hT []) :: (nat_lit 648,o393) :: (nat_lit 649,o394) :: (nat_lit 650,hT []) :: (nat_lit 652,o395) :: (nat_lit 653,hT []) :: (nat_lit 655,o397) :: (nat_lit 656,o398) :: (nat_lit 657,hT []) :: (nat_lit 659,o399) :: (nat_lit 660,hT []) :: (nat_lit 662,o401) :: (nat_lit 663,o402) :: (nat_lit 664,hT []) :: (nat_lit 666,o403) :: (nat_lit 667,hT []) :: (nat_lit 669,o405) :: (nat_lit 670,o406) :: (nat_lit 671,hT []) :: (nat_lit 674,o408) :: (nat_lit 675,o409) :: (nat_lit 676,hT []) :: (nat_lit 678,o410) :: (nat_lit 679,hT []) :: (nat_lit 681,o412) :: (nat_lit 682,o413) :: (nat_lit 683,o414) :: (nat_lit 684,o415 P) :: (nat_lit 685,o416) :: (nat_lit 686,o417) :: (nat_lit 687,o418) :: (nat_lit 690,hT []) :: (nat_lit 692,o421) :: (nat_lit 693,hT []) :: (nat_lit 695,o423) :: (nat_lit 696,o424) :: (nat_lit 697,hT []) :: (nat_lit 700,o426) :: (nat_lit 701,o427) :: (nat_lit 702,hT []) :: (nat_lit 704,o428) :: (nat_lit 705,hT []) :: (nat_lit 707,o430) :: (nat_lit 708,o431) :: (nat_lit 709,hT []) :: (nat_lit 711,o432) :: (nat_lit 712,hT []) :: (nat_lit 714,o434) :: (nat_lit 715,o435) :: (nat_lit 716,hT []) :: (nat_lit 719,o437) :: (nat_lit 720,o438) :: (nat_lit 721,hT []) :: (nat_lit 723,o439) :: (nat_lit 724,hT []) :: (nat_lit 726,o441) :: (nat_lit 727,o442) :: (nat_lit 728,hT []) :: (nat_lit 730,o443) :: (nat_lit 731,hT []) :: (nat_lit 733,o445) :: (nat_lit 734,o446) :: (nat_lit 735,hT []) :: (nat_lit 738,o448) :: (nat_lit 739,o449) :: (nat_lit 740,hT []) :: (nat_lit 743,o451) :: (nat_lit 744,o452) :: (nat_lit 745,hT []) :: (nat_lit 747,o453) :: (nat_lit 748,hT []) :: (nat_lit 750,o455) :: (nat_lit 751,o456) :: (nat_lit 752,hT []) :: (nat_lit 754,o457) :: (nat_lit 755,hT []) :: (nat_lit 757,o459) :: (nat_lit 758,o460) :: (nat_lit 759,hT []) :: (nat_lit 761,o461) :: (nat_lit 762,hT []) :: (nat_lit 764,o463) :: (nat_lit 765,o464) :: (nat_lit 766,hT []) :: (nat_lit 768,o465) :: (nat_lit 769,hT []) :: (nat_lit 771,o467) :: (nat_lit 772,o468) :: (nat_lit 773,hT []) :: (nat_lit 776,o470) :: (nat_lit 777,o471) :: (nat_lit 778,hT []) :: (nat_lit 781,o473) :: (nat_lit 782,o474) :: (nat_lit 783,hT []) :: (nat_lit 785,o475) :: (nat_lit 786,hT []) :: (nat_lit 788,o477) :: (nat_lit 789,o478) :: (nat_lit 790,hT []) :: (nat_lit 792,o479) :: (nat_lit 793,hT []) :: (nat_lit 795,o481) :: (nat_lit 796,o482) :: (nat_lit 797,hT []) :: (nat_lit 799,o483) :: (nat_lit 800,hT []) :: (nat_lit 802,o485) :: (nat_lit 803,o486) :: (nat_lit 804,hT []) :: (nat_lit 806,o487) :: (nat_lit 807,hT []) :: (nat_lit 809,o489) :: (nat_lit 810,o490) :: (nat_lit 811,hT []) :: (nat_lit 813,o491) :: (nat_lit 814,hT []) :: (nat_lit 816,o493) :: (nat_lit 817,o494) :: (nat_lit 818,hT []) :: (nat_lit 820,o495) :: (nat_lit 821,hT []) :: (nat_lit 823,o497) :: (nat_lit 824,o498) :: (nat_lit 825,hT []) :: (nat_lit 827,o499) :: (nat_lit 828,hT []) :: (nat_lit 830,o501) :: (nat_lit 831,o502) :: (nat_lit 832,hT []) :: (nat_lit 834,o503) :: (nat_lit 835,hT []) :: (nat_lit 837,o505) :: (nat_lit 838,o506) :: (nat_lit 839,hT []) :: (nat_lit 841,o507) :: (nat_lit 842,hT []) :: (nat_lit 844,o509) :: (nat_lit 845,o510) :: (nat_lit 846,hT []) :: (nat_lit 849,o512) :: (nat_lit 850,o513) :: (nat_lit 851,hT []) :: (nat_lit 853,o514) :: (nat_lit 854,hT []) :: (nat_lit 856,o516) :: (nat_lit 857,o517) :: (nat_lit 858,hT []) :: (nat_lit 860,o518) :: (nat_lit 861,hT []) :: (nat_lit 863,o520) :: (nat_lit 864,o521) :: (nat_lit 865,hT []) :: (nat_lit 867,o522) :: (nat_lit 868,hT []) :: (nat_lit 870,o524) :: (nat_lit 871,o525) :: (nat_lit 872,hT []) :: (nat_lit 874,o526) :: (nat_lit 875,hT []) :: (nat_lit 877,o528) :: (nat_lit 878,o529) :: (nat_lit 879,hT []) :: (nat_lit 882,o531) :: (nat_lit 883,o532) :: (nat_lit 884,hT []) :: (nat_lit 887,o534) :: (nat_lit 888,o535) :: []
def as:List Addr:=[2,3,15,17,18,20,21,29,31,32,34,35,36,38,39,41,42,43,44,45,46,47,50,57,59,60,62,63,64,66,67,69,70,71,73,74,76,77,78,80,81,83,84,85,86,87,90,97,99,100,102,103,104,106,107,109,110,111,113,114,116,117,118,120,121,123,124,125,126,127,130,137,139,140,142,143,144,146,147,149,150,151,153,154,156,157,158,160,161,163,164,165,167,168,170,171,172,173,174,177,184,186,187,189,190,191,193,194,196,197,198,200,201,203,204,205,207,208,210,211,212,214,215,217,218,219,220,221,224,226,227,229,230,231,238,239,240,241,244,251,253,254,256,257,258,259,260,263,270,272,273,275,276,277,278,279,282,289,290,291,294,301,302,303,306,309,310,311,314,315,316,318,319,321,322,323,325,326,328,329,330,332,333,335,336,337,339,340,342,343,344,346,347,349,350,351,354,355,356,359,360,368,371,372,373,375,376,378,379,380,382,383,385,386,387,389,390,392,393,394,396,397,399,400,401,404,405,406,408,409,411,412,413,415,416,418,419,420,421,422,423,424,427,434,436,437,439,440,441,442,443,446,448,449,451,452,453,456,457,458,460,461,463,464,465,468,469,470,473,474,475,478,479,480,483,484,485,488,489,497,500,501,502,505,506,507,510,511,512,514,515,517,518,519,521,522,524,525,526,528,529,531,532,533,534,535,536,537,540,543,544,552,554,555,557,558,559,561,562,564,565,566,568,569,571,572,573,574,575,576,577,580,583,584,585,586,588,589,591,592,593,595,596,598,599,600,602,603,605,606,607,609,610,612,613,614,616,617,619,620,621,624,625,626,629,630,638,641,642,643,645,646,648,649,650,652,653,655,656,657,659,660,662,663,664,666,667,669,670,671,674,675,676,678,679,681,682,683,684,685,686,687,690,692,693,695,696,697,700,701,702,704,705,707,708,709,711,712,714,715,716,719,720,721,723,724,726,727,728,730,731,733,734,735,738,739,740,743,744,745,747,748,750,751,752,754,755,757,758,759,761,762,764,765,766,768,769,771,772,773,776,777,778,781,782,783,785,786,788,789,790,792,793,795,796,797,799,800,802,803,804,806,807,809,810,811,813,814,816,817,818,820,821,823,824,825,827,828,830,831,832,834,835,837,838,839,841,842,844,845,846,849,850,851,853,854,856,857,858,860,861,863,864,865,867,868,870,871,872,874,875,877,878,879,882,883,884,887,888]
def vw:Program:=PySem.W.view pw [0,2,3,4,5,6,7,9,10,11,12,13,15,16,17,18,19,20,21,22,23,24,25,26,27,28,29,30,31,33,34,35,36,37,38,39,40,41,42,44,45,46,47,48,49,50,51,52,53,54,55,56,57,58,60,61,62,63,64,65,66,67,68,69,71,72,73,74,75,76,77,78,79,80,81,82,83,84,85]
def en:Env:={ scope:=pw.main.scope,locals:=mainNs,globals:=mainNs,cells:=[],code:=(hR 13),frame:=some 14 }
theorem hk:∀ P,as = (KK P).map (·.1):=fun _=>by kernel_rfl
noncomputable abbrev cE:Code:=.body (behindTheImports pw) en
noncomputable abbrev fB:List Frame:=[topFrame ⟨0,0,0,0⟩]
theorem t_pre (w:World) (os:OsState):topGo treeTable pw w 11 (some (.ref 6)) 12 ⟨boot_heap w.params,Array.mk [],boot_drawn,boot_toks,os⟩ (topStub pw) = some (⟨HA w.params,Array.mk [],{},187,os⟩,⟨denote treeTable cE,cE,⟨0,0,0,0⟩,fB⟩):=by kernel_rfl
theorem t_block (w:World) (os:OsState):segRun treeTable pw w 11 (some (.ref 6)) 1 1 ⟨HA w.params,Array.mk [],{},187,os⟩ (blockOf (behindTheImports pw) en cE ⟨0,0,0,0⟩ fB) = some (.next,(SharedT.mk (TB w.params) 15 {} (Array.mk []) {} 187 os).abs,cE,⟨0,0,0,0⟩):=by kernel_rfl
theorem t_body0 (w:World) (os:OsState):segRunT treeTable pw w 11 (some (.ref 6)) 1 2176 (SharedT.mk (TB w.params) 15 {} (Array.mk []) {} 187 os) (piecesOf ((behindTheImports pw).take 11) en cE ⟨0,0,0,0⟩ fB) = some (.next,(SharedT.mk (TM0 w.params) 263 {} (Array.mk []) {} 482 os),cE,⟨81,0,86,28⟩):=by kernel_rfl
theorem t_body1 (w:World) (os:OsState):segRunT treeTable pw w 11 (some (.ref 6)) 1 2267 (SharedT.mk (TM0 w.params) 263 {} (Array.mk []) {} 482 os) (piecesOf (((behindTheImports pw).drop 11).take 29) en cE ⟨81,0,86,28⟩ fB) = some (.next,(SharedT.mk (TM1 w.params) 540 {} (Array.mk []) {} 853 os),cE,⟨210,0,259,26⟩):=by kernel_rfl
theorem t_body2 (w:World) (os:OsState):segRunT treeTable pw w 11 (some (.ref 6)) 1 1964 (SharedT.mk (TM1 w.params) 540 {} (Array.mk []) {} 853 os) (piecesOf ((behindTheImports pw).drop 40) en cE ⟨210,0,259,26⟩ fB) = some (.next,(SharedT.mk (TF w.params) 889 {} (Array.mk []) {} 1357 os),cE,⟨585,0,600,15⟩):=by kernel_rfl
theorem t_split:(behindTheImports pw) = ((behindTheImports pw).take 11) ++ ((((behindTheImports pw).drop 11).take 29) ++ (((behindTheImports pw).drop 40) ++ ([]))):=by kernel_rfl
theorem t_fin (w:World) (os:OsState):topRun treeTable pw w 11 (some (.ref 6)) 2 (SharedT.mk (TF w.params) 889 {} (Array.mk []) {} 1357 os).abs ⟨doneF .next,cE,⟨585,0,600,15⟩,fB⟩ = some ⟨HF w.params,Array.mk [],{},1357,os⟩:=by kernel_rfl
theorem t_run (w:World) (os:OsState):topRun treeTable pw w 11 (some (.ref 6)) (12 + (1 + (2176 + (2267 + (1964 + 2))))) ⟨boot_heap w.params,Array.mk [],boot_drawn,boot_toks,os⟩ (topStub pw) = some ⟨HF w.params,Array.mk [],{},1357,os⟩ :=
 go_top (t_pre w os) (piece_block (q:=⟨0,0,0,0⟩) (t_block w os) (by
   have h:=piece_app (q:=⟨0,0,0,0⟩) (segRun_of (t_body0 w os)) (piece_app (q:=⟨0,0,0,0⟩) (segRun_of (t_body1 w os)) (piece_app (q:=⟨0,0,0,0⟩) (segRun_of (t_body2 w os)) (piece_nil (t_fin w os))))
   rw [← t_split] at h
   exact h))
theorem t_op (w:World):(fencedOpening treeTable pw w 12928).map (fun s=>(s.heap,s.gens,s.drawn,s.toks)) = some (boot_heap w.params,Array.mk [],boot_drawn,boot_toks):=boot_open (by kernel_rfl) (by decide) (fun s=>by kernel_rfl) w
theorem t_size (w:World):((boot_heap w.params).isNs mainGlobals && (Array.mk []:Array GenState).size == 0,(boot_heap w.params).objs.size,(boot_heap w.params).nsMap mainGlobals "__annotations__") = (true,11,(some (.ref 6))):=by kernel_rfl
theorem tk1 (w:World):staticsOk (importedModules pw.main.body) (boot_heap w.params) (HF w.params) = true:=by kernel_rfl
theorem tk2 (w:World):namesBound pw (HF w.params) = true:=by kernel_rfl
theorem tk3 (w:World) (os:OsState):gensDone ⟨HF w.params,Array.mk [],{},1357,os⟩ = true:=by kernel_rfl
theorem tk4 (w:World):laidKept (boot_heap w.params) (HF w.params) = true:=by kernel_rfl
open PySem.Calls PyProof.Rows in
theorem tkc0 (w:World) (os:OsState):seen ((recsOf vw).map (·.name)) (ownsOf vw) [] (Shared.mk (HF w.params) #[] {} 1357 os) = expectedOf vw:=by kernel_rfl
open PySem.Calls PyProof.Rows in
theorem tkc1 (w:World) (os:OsState):Heap.bltView (HF w.params) = bltViewBooted:=by kernel_rfl
open PySem.Calls PyProof.Rows in
theorem tkc2a (w:World) (os:OsState):Heap.keysOk (HF w.params) (looseW vw []) ((recsOf vw).map (·.name)) ((litsOf vw).map (·.1)) ((clssOf vw (looseW vw [])).map (·.name)) = true:=by kernel_rfl
open PySem.Calls PyProof.Rows in
theorem tkc2b (w:World) (os:OsState):Heap.accountedOkI (HF w.params) (importedModules pw.main.body) = true:=by kernel_rfl
open PySem.Calls PyProof.Rows in
theorem tkc2c (w:World) (os:OsState):Heap.isNs (HF w.params) mainGlobals = true:=by kernel_rfl
open PySem.Calls PyProof.Rows in
theorem tkc2d (w:World) (os:OsState):Heap.isNs (HF w.params) builtinsNs = true:=by kernel_rfl
open PySem.Calls PyProof.Rows in
theorem tkc2e (w:World) (os:OsState):tablesOk vw (HF w.params) = true:=by kernel_rfl
open PySem.Calls PyProof.Rows in
theorem tkc2f (w:World) (os:OsState):(fun s=>xlAt vw [] s && recOk (RowW.records PySem.Challenge.rw_mustmay_k31_faults_at_rooms.row.toRowW) s) ⟨HF w.params,Array.mk [],{},1357,os⟩ = true:=by kernel_rfl
open PySem.Calls PyProof.Rows in
theorem tkc3 (w:World) (os:OsState):tabsOk vw ⟨HF w.params,Array.mk [],{},1357,os⟩ = true:=by kernel_rfl
open PySem.Calls PyProof.Rows in
theorem tkc4 (w:World) (os:OsState):pinSeenD vw (drecsOf vw) ⟨HF w.params,Array.mk [],{},1357,os⟩ = pinGoodD (drecsOf vw):=by kernel_rfl
open PySem.Calls PyProof.Rows in
theorem tkc5 (w:World) (os:OsState):plainSeenE vw (looseW vw []) ⟨HF w.params,Array.mk [],{},1357,os⟩ = plainGoodE vw (looseW vw []):=by kernel_rfl
open PySem.Calls PyProof.Rows in
theorem tkc6 (w:World) (os:OsState):plainSeenD vw [] ⟨HF w.params,Array.mk [],{},1357,os⟩ = plainGoodD vw []:=by kernel_rfl
open PySem.Calls PyProof.Rows in
theorem tkc7 (w:World) (os:OsState):wideSeen vw ⟨HF w.params,Array.mk [],{},1357,os⟩ = wideGood vw:=by kernel_rfl
open PySem.Calls PyProof.Rows in
theorem tkc8 (w:World) (os:OsState):clsSeenW vw [] ⟨HF w.params,Array.mk [],{},1357,os⟩ = clsGoodW vw []:=by kernel_rfl
theorem and7 {a b c d e f g:Bool} (h1:a = true) (h2:b = true) (h3:c = true) (h4:d = true) (h5:e = true) (h6:f = true) (h7:g = true):(a && b && c && d && e && f && g) = true:=by rw [h1,h2,h3,h4,h5,h6,h7]; rfl
theorem ext9 {A0 A1 A2 A3 A4 A5 A6 A7 A8:Type} {a0 b0:A0} {a1 b1:A1} {a2 b2:A2} {a3 b3:A3} {a4 b4:A4} {a5 b5:A5} {a6 b6:A6} {a7 b7:A7} {a8 b8:A8} (h0:a0 = b0) (h1:a1 = b1) (h2:a2 = b2) (h3:a3 = b3) (h4:a4 = b4) (h5:a5 = b5) (h6:a6 = b6) (h7:a7 = b7) (h8:a8 = b8):(a0,a1,a2,a3,a4,a5,a6,a7,a8) = (b0,b1,b2,b3,b4,b5,b6,b7,b8):=by rw [h0,h1,h2,h3,h4,h5,h6,h7,h8]
theorem tk5 (w:World) (os:OsState):(openSeen vw [] (importedModules pw.main.body) (fun s=>xlAt vw [] s && recOk (RowW.records PySem.Challenge.rw_mustmay_k31_faults_at_rooms.row.toRowW) s) true ⟨HF w.params,Array.mk [],{},1357,os⟩) = openGood vw []:=by
 unfold openSeen openGood
 exact ext9 (tkc0 w os) (tkc1 w os) (and7 (tkc2a w os) (tkc2b w os) (tkc2c w os) (tkc2d w os) (tkc2e w os) (tkc2f w os) rfl) (tkc3 w os) (tkc4 w os) (tkc5 w os) (tkc6 w os) (tkc7 w os) (tkc8 w os)
theorem tk6 (w:World) (os:OsState):Hook.obs (kHook KK as hk) ⟨HF w.params,Array.mk [],{},1357,os⟩ = Hook.val (kHook KK as hk) w:=by kernel_rfl
theorem t_left:LeftO pw vw [] (fun s=>xlAt vw [] s && recOk (RowW.records PySem.Challenge.rw_mustmay_k31_faults_at_rooms.row.toRowW) s) (Hook.obs (kHook KK as hk)) (Hook.val (kHook KK as hk)) 12928 true :=
 LeftO.of_pieces (H₀:=boot_heap) (H₁:=HF) (m₀:=11) (ann:=(some (.ref 6))) (M:=(12 + (1 + (2176 + (2267 + (1964 + 2)))))) t_op t_size t_run (by decide) fun w=>funext fun os=>Prod.ext (by dsimp only; rw [tk1,tk2,tk3,tk4]; rfl) (Prod.ext (tk5 w os) (tk6 w os))
end
end K5
namespace K5
open PySem PySem.W PyProof.Rows L2 MX DL
set_option maxRecDepth 100000 in
set_option maxHeartbeats 0 in
theorem aj5 (w:World) (mg:Str→Option Value) (fa:Addr) (h:Heap) (KX:(KK w.params).In h) (G:h.Ns mainGlobals mg) (hmg:mg "law" = some (.ref fa)):∃ fd:FuncData,(∀ (s:Shared) (u:Value),BindsTo s fd ⟨[u],[]⟩ [("_law_script",u)])∧∀ base:Heap,(KK w.params).In base→base.Ns mainGlobals mg→bx PySem.Challenge.rw_mustmay_k31_faults_at_rooms.prog w (KK w.params) mg base CX0 9 fa fd ["_law_script"] (agD (KK w.params)):=by
 k_fill
 refine' all_mk (l:=PySem.Challenge.rw_mustmay_k31_faults_at_rooms) KX G hmg ?ag5 ?acO ?abm ?ac8 ?adh ?abh ?abr ?adV ?Rj ?ag6 ?acP ?abn ?ac9 ?adi ?abi ?abt ?adW ?Rk ?a_May ?aiB ?ah2 ?aiJ ?aiQ ?ah1 ?ah3 ?aja ?aai ?ag8 ?acR ?abp ?adb ?adl ?abk ?abv ?adY ?Rn ?ag9 ?acS ?abq ?adc ?adm ?abl ?abw ?adZ ?Ro ?ZL ?Ua ?Sw ?Uj ?Ut ?Sv ?Sx ?U8 ?K9 ?ag7 ?acQ ?abo ?ada ?adk ?abj ?abu ?adX ?Rm ?KR ?Hx ?GX ?Hz ?HD ?GR ?GZ ?HQ ?Bs ?hn ?htk ?dJ ?dR ?sU ?oX ?eQ ?fV ?oY ?oZ ?z_all ?ajb ?DP ?z_int ?zU ?z_len ?ajc ?ad0 ?z_set ?z_str ?ad1 ?Bg ?oH ?nH ?eH ?iH ?tyH ?h1H ?h2H ?h3H ?suH ?Q4 ?Tv ?Tn ?R6 ?Ln ?Lp ?Ms ?wQ ?Mv ?Mw ?Mg ?Lx ?My ?xu ?ab3 ?abx ?abD ?aij ?ah4 ?ah7 ?ab5 ?abz ?abF ?ab6 ?abA ?abG ?Tj ?SJ ?SX ?ab4 ?aby ?abE ?Hv ?Hc ?Hf ?rM ?yW ?yZ ?pP ?qI ?xU ?Bk ?xW ?xX ?yU ?Cp ?yX ?za ?vH ?xT ?vI ?vJ ?v9 ?yS ?wg ?wj ?tL ?vG ?tM ?tO ?ug ?v8 ?uh ?ul ?Nm ?Rb ?Np ?Nq ?NQ ?Sg ?NT ?NZ ?Iw ?Nk ?Iz ?IK ?JF ?iY ?jT ?fu ?inD ?ca1 ?ca2 ?ca3 ?Ja ?Ti ?wO ?mF ?jb ?mD ?vD ?v7 ?xV ?yV ?xg ?xj ?gw ?jk ?xm ?jj ?nA ?qp ?qt ?fM ?uB ?oV ?uD ?xf ?j9 ?kW ?uE ?Dn ?qu ?uC ?nq ?bU ?bj ?w6 ?m8 ?nj ?lA ?gY ?gZ ?j7 ?qm ?m6 ?m9 ?jB ?j8 ?m_law ?CK ?yh ?ql ?CV ?yp ?CG ?CZ ?yr ?CJ ?zx ?vN ?zr ?ut ?qD ?ur ?zy ?vO ?rN ?CT ?yo ?vg ?CQ ?ym ?vf ?Hj ?Bt ?zu ?CW ?yq ?vh ?Dc ?yt ?vm ?zA ?vQ ?rP ?CP ?yl ?vd ?zB ?vR ?rQ ?zE ?vU ?rR ?wy ?tW ?pQ ?zz ?vP ?rO ?wz ?tX ?pR ?wA ?tY ?pU ?Hk ?Bu ?Hg ?Ly ?Gq ?Ls ?Hl ?Bv ?Hh ?Hm ?Bw ?Hi ?CN ?yj ?Cz ?LQ ?Gv ?sJ ?LR ?Gw ?sO ?oU ?mG ?dI ?ux ?qH ?gr ?Ma ?Gx ?sS ?uw ?qG ?gq ?zN ?v6 ?jA ?Df ?yx ?lr ?Dg ?yz ?lu ?jW ?jc ?di ?Dh ?yC ?dw ?Ho ?By ?oK ?LK ?Gu ?lq ?Hs ?BK ?oO ?LC ?Gs ?sI ?wD ?uc ?iy ?Hn ?Bx ?jh ?Ht ?BL ?oR ?Te ?La ?wZ ?Di ?yD ?lw ?Hr ?BJ ?oN ?zM ?v5 ?jz ?uv ?qF ?bN ?zH ?vX ?bf ?Lz ?Gr ?sG ?zJ ?vY ?jw ?zL ?v4 ?jy ?De ?yw ?jg ?qL ?oE ?eN ?qM ?oG ?eO ?wB ?tZ ?iu ?Dd ?yu ?lg ?zG ?vW ?ju ?zK ?vZ ?jx ?zF ?vV ?gP ?wC ?t6 ?iw ?l_law ?ahs ?k_law
 (case ag5=>k_is)
 (case acO=>k_is)
 (case abm=>k_is)
 (case ac8=>k_is)
 (case adh=>k_is)
 (case abh=>k_is)
 (case abr=>k_is)
 (case adV=>k_is)
 (case Rj=>k_is)
 (case ag6=>k_is)
 (case acP=>k_is)
 (case abn=>k_is)
 (case ac9=>k_is)
 (case adi=>k_is)
 (case abi=>k_is)
 (case abt=>k_is)
 (case adW=>k_is)
 (case Rk=>k_is)
 (case a_May=>k_is)
 (case aiB=>k_is)
 (case ah2=>k_is)
 (case aiJ=>k_is)
 (case aiQ=>k_is)
 (case ah1=>k_is)
 (case ah3=>k_is)
 (case aja=>k_is)
 (case aai=>k_is)
 (case ag8=>k_is)
 (case acR=>k_is)
 (case abp=>k_is)
 (case adb=>k_is)
 (case adl=>k_is)
 (case abk=>k_is)
 (case abv=>k_is)
 (case adY=>k_is)
 (case Rn=>k_is)
 (case ag9=>k_is)
 (case acS=>k_is)
 (case abq=>k_is)
 (case adc=>k_is)
 (case adm=>k_is)
 (case abl=>k_is)
 (case abw=>k_is)
 (case adZ=>k_is)
 (case Ro=>k_is)
 (case ZL=>k_is)
 (case Ua=>k_is)
 (case Sw=>k_is)
 (case Uj=>k_is)
 (case Ut=>k_is)
 (case Sv=>k_is)
 (case Sx=>k_is)
 (case U8=>k_is)
 (case K9=>k_is)
 (case ag7=>k_is)
 (case acQ=>k_is)
 (case abo=>k_is)
 (case ada=>k_is)
 (case adk=>k_is)
 (case abj=>k_is)
 (case abu=>k_is)
 (case adX=>k_is)
 (case Rm=>k_is)
 (case KR=>k_is)
 (case Hx=>k_is)
 (case GX=>k_is)
 (case Hz=>k_is)
 (case HD=>k_is)
 (case GR=>k_is)
 (case GZ=>k_is)
 (case HQ=>k_is)
 (case Bs=>k_is)
 (case hn=>k_is)
 (case htk=>k_is)
 (case dJ=>k_is)
 (case dR=>k_is)
 (case sU=>k_is)
 (case oX=>k_is)
 (case eQ=>k_is)
 (case fV=>k_is)
 (case oY=>k_is)
 (case oZ=>k_is)
 (case z_all=>k_is)
 (case ajb=>k_is)
 (case DP=>k_is)
 (case z_int=>k_is)
 (case zU=>k_is)
 (case z_len=>k_is)
 (case ajc=>k_is)
 (case ad0=>k_is)
 (case z_set=>k_is)
 (case z_str=>k_is)
 (case ad1=>k_is)
 (case Bg=>k_is)
 (case oH=>k_is)
 (case nH=>k_is)
 (case eH=>rfl)
 (case iH=>k_is)
 (case tyH=>k_is)
 (case h1H=>k_is)
 (case h2H=>k_is)
 (case h3H=>k_is)
 (case suH=>k_is)
 (case Q4=>k_is)
 (case Tv=>k_is)
 (case Tn=>k_is)
 (case R6=>rfl)
 (case Ln=>k_is)
 (case Lp=>k_is)
 (case Ms=>k_is)
 (case wQ=>k_is)
 (case Mv=>k_is)
 (case Mw=>k_is)
 (case Mg=>k_is)
 (case Lx=>k_is)
 (case My=>k_is)
 (case xu=>k_is)
 (case ab3=>k_is)
 (case abx=>k_is)
 (case abD=>k_is)
 (case aij=>k_is)
 (case ah4=>k_is)
 (case ah7=>k_is)
 (case ab5=>k_is)
 (case abz=>k_is)
 (case abF=>k_is)
 (case ab6=>k_is)
 (case abA=>k_is)
 (case abG=>k_is)
 (case Tj=>k_is)
 (case SJ=>k_is)
 (case SX=>k_is)
 (case ab4=>k_is)
 (case aby=>k_is)
 (case abE=>k_is)
 (case Hv=>k_is)
 (case Hc=>k_is)
 (case Hf=>k_is)
 (case rM=>k_is)
 (case yW=>k_is)
 (case yZ=>k_is)
 (case pP=>k_is)
 (case qI=>k_is)
 (case xU=>k_is)
 (case Bk=>k_is)
 (case xW=>k_is)
 (case xX=>k_is)
 (case yU=>k_is)
 (case Cp=>k_is)
 (case yX=>k_is)
 (case za=>k_is)
 (case vH=>k_is)
 (case xT=>k_is)
 (case vI=>k_is)
 (case vJ=>k_is)
 (case v9=>k_is)
 (case yS=>k_is)
 (case wg=>k_is)
 (case wj=>k_is)
 (case tL=>k_is)
 (case vG=>k_is)
 (case tM=>k_is)
 (case tO=>k_is)
 (case ug=>k_is)
 (case v8=>k_is)
 (case uh=>k_is)
 (case ul=>k_is)
 (case Nm=>k_is)
 (case Rb=>k_is)
 (case Np=>k_is)
 (case Nq=>k_is)
 (case NQ=>k_is)
 (case Sg=>k_is)
 (case NT=>k_is)
 (case NZ=>k_is)
 (case Iw=>k_is)
 (case Nk=>k_is)
 (case Iz=>k_is)
 (case IK=>k_is)
 (case JF=>k_is)
 (case iY=>k_is)
 (case jT=>k_is)
 (case fu=>k_is)
 (case inD=>k_is)
 (case ca1=>k_is)
 (case ca2=>k_is)
 (case ca3=>k_is)
 (case Ja=>k_is)
 (case Ti=>k_is)
 (case wO=>k_is)
 (case mF=>k_is)
 (case jb=>k_is)
 (case mD=>k_is)
 (case vD=>k_is)
 (case v7=>k_is)
 (case xV=>k_is)
 (case yV=>k_is)
 (case xg=>k_is)
 (case xj=>k_is)
 (case gw=>k_is)
 (case jk=>k_is)
 (case xm=>k_is)
 (case jj=>k_is)
 (case nA=>k_is)
 (case qp=>k_is)
 (case qt=>k_is)
 (case fM=>k_is)
 (case uB=>k_is)
 (case oV=>k_is)
 (case uD=>k_is)
 (case xf=>k_is)
 (case j9=>k_is)
 (case kW=>k_is)
 (case uE=>k_is)
 (case Dn=>k_is)
 (case qu=>k_is)
 (case uC=>k_is)
 (case nq=>k_is)
 (case bU=>k_is)
 (case bj=>k_is)
 (case w6=>k_is)
 (case m8=>k_is)
 (case nj=>k_is)
 (case lA=>k_is)
 (case gY=>k_is)
 (case gZ=>k_is)
 (case j7=>k_is)
 (case qm=>k_is)
 (case m6=>k_is)
 (case m9=>k_is)
 (case jB=>k_is)
 (case j8=>k_is)
 (case m_law=>k_is)
 (case CK=>k_is)
 (case yh=>k_is)
 (case ql=>k_is)
 (case CV=>k_is)
 (case yp=>k_is)
 (case CG=>k_is)
 (case CZ=>k_is)
 (case yr=>k_is)
 (case CJ=>k_is)
 (case zx=>k_is)
 (case vN=>k_is)
 (case zr=>k_is)
 (case ut=>k_is)
 (case qD=>k_is)
 (case ur=>k_is)
 (case zy=>k_is)
 (case vO=>k_is)
 (case rN=>k_is)
 (case CT=>k_is)
 (case yo=>k_is)
 (case vg=>k_is)
 (case CQ=>k_is)
 (case ym=>k_is)
 (case vf=>k_is)
 (case Hj=>k_is)
 (case Bt=>k_is)
 (case zu=>k_is)
 (case CW=>k_is)
 (case yq=>k_is)
 (case vh=>k_is)
 (case Dc=>k_is)
 (case yt=>k_is)
 (case vm=>k_is)
 (case zA=>k_is)
 (case vQ=>k_is)
 (case rP=>k_is)
 (case CP=>k_is)
 (case yl=>k_is)
 (case vd=>k_is)
 (case zB=>k_is)
 (case vR=>k_is)
 (case rQ=>k_is)
 (case zE=>k_is)
 (case vU=>k_is)
 (case rR=>k_is)
 (case wy=>k_is)
 (case tW=>k_is)
 (case pQ=>k_is)
 (case zz=>k_is)
 (case vP=>k_is)
 (case rO=>k_is)
 (case wz=>k_is)
 (case tX=>k_is)
 (case pR=>k_is)
 (case wA=>k_is)
 (case tY=>k_is)
 (case pU=>k_is)
 (case Hk=>k_is)
 (case Bu=>k_is)
 (case Hg=>k_is)
 (case Ly=>k_is)
 (case Gq=>k_is)
 (case Ls=>k_is)
 (case Hl=>k_is)
 (case Bv=>k_is)
 (case Hh=>k_is)
 (case Hm=>k_is)
 (case Bw=>k_is)
 (case Hi=>k_is)
 (case CN=>k_is)
 (case yj=>k_is)
 (case Cz=>k_is)
 (case LQ=>k_is)
 (case Gv=>k_is)
 (case sJ=>k_is)
 (case LR=>k_is)
 (case Gw=>k_is)
 (case sO=>k_is)
 (case oU=>k_is)
 (case mG=>k_is)
 (case dI=>k_is)
 (case ux=>k_is)
 (case qH=>k_is)
 (case gr=>k_is)
 (case Ma=>k_is)
 (case Gx=>k_is)
 (case sS=>k_is)
 (case uw=>k_is)
 (case qG=>k_is)
 (case gq=>k_is)
 (case zN=>k_is)
 (case v6=>k_is)
 (case jA=>k_is)
 (case Df=>k_is)
 (case yx=>k_is)
 (case lr=>k_is)
 (case Dg=>k_is)
 (case yz=>k_is)
 (case lu=>k_is)
 (case jW=>k_is)
 (case jc=>k_is)
 (case di=>k_is)
 (case Dh=>k_is)
 (case yC=>k_is)
 (case dw=>k_is)
 (case Ho=>k_is)
 (case By=>k_is)
 (case oK=>k_is)
 (case LK=>k_is)
 (case Gu=>k_is)
 (case lq=>k_is)
 (case Hs=>k_is)
 (case BK=>k_is)
 (case oO=>k_is)
 (case LC=>k_is)
 (case Gs=>k_is)
 (case sI=>k_is)
 (case wD=>k_is)
 (case uc=>k_is)
 (case iy=>k_is)
 (case Hn=>k_is)
 (case Bx=>k_is)
 (case jh=>k_is)
 (case Ht=>k_is)
 (case BL=>k_is)
 (case oR=>k_is)
 (case Te=>k_is)
 (case La=>k_is)
 (case wZ=>k_is)
 (case Di=>k_is)
 (case yD=>k_is)
 (case lw=>k_is)
 (case Hr=>k_is)
 (case BJ=>k_is)
 (case oN=>k_is)
 (case zM=>k_is)
 (case v5=>k_is)
 (case jz=>k_is)
 (case uv=>k_is)
 (case qF=>k_is)
 (case bN=>k_is)
 (case zH=>k_is)
 (case vX=>k_is)
 (case bf=>k_is)
 (case Lz=>k_is)
 (case Gr=>k_is)
 (case sG=>k_is)
 (case zJ=>k_is)
 (case vY=>k_is)
 (case jw=>k_is)
 (case zL=>k_is)
 (case v4=>k_is)
 (case jy=>k_is)
 (case De=>k_is)
 (case yw=>k_is)
 (case jg=>k_is)
 (case qL=>k_is)
 (case oE=>k_is)
 (case eN=>k_is)
 (case qM=>k_is)
 (case oG=>k_is)
 (case eO=>k_is)
 (case wB=>k_is)
 (case tZ=>k_is)
 (case iu=>k_is)
 (case Dd=>k_is)
 (case yu=>k_is)
 (case lg=>k_is)
 (case zG=>k_is)
 (case vW=>k_is)
 (case ju=>k_is)
 (case zK=>k_is)
 (case vZ=>k_is)
 (case jx=>k_is)
 (case zF=>k_is)
 (case vV=>k_is)
 (case gP=>k_is)
 (case wC=>k_is)
 (case t6=>k_is)
 (case iw=>k_is)
 (case l_law=>k_is)
 (case ahs=>k_is)
 (case k_law=>k_is)
end K5
open PySem PySem.W PyProof.Rows
set_option maxRecDepth 100000 in
set_option maxHeartbeats 0 in
theorem PySem.Challenge.cw_mustmay_k31_faults_at_rooms_holds : PySem.Challenge.rw_mustmay_k31_faults_at_rooms.Holds := by
 w_on
 refine PySem.W.holds_law h_said fun said=>?_
 refine holds_open (q:=K5.vw) (loose:=[]) (Xt:=fun s=>xlAt K5.vw [] s && recOk (RowW.records PySem.Challenge.rw_mustmay_k31_faults_at_rooms.row.toRowW) s) (XP:=XL K5.vw []) (Yf:=Hook.obs (kHook K5.KK K5.as K5.hk)) (Ya:=Hook.val (kHook K5.KK K5.as K5.hk)) (YP:=Hook.says (kHook K5.KK K5.as K5.hk)) (N:=12928) K5.t_left (Hook.of (kHook K5.KK K5.as K5.hk)) (Hook.keeps (kHook K5.KK K5.as K5.hk)) (fun s e=>xl_of s (Bool.and_eq_true_iff.mp e).1) XL.keeps (by rfl) (by rfl) (by rfl) (fun s e=>recFacts_of (Bool.and_eq_true_iff.mp e).2) (by rfl) said (by decide +kernel) h_bare ?hw ?hc
 (case hw=>w_witness2)
 k_fill
 refine K5.walk (l:=PySem.Challenge.rw_mustmay_k31_faults_at_rooms) rfl rfl (fun w h Y=>PySem.W.kIn_of Y) ?F
 case F =>
   intro w mg fa h KX G hmg
   exact K5.aj5 w mg fa h KX G hmg
