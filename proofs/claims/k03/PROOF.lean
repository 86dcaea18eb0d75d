import PyProof.Rows.All
import Wide.All
import OpenK.AllK
import Wide.FinOn
import Lean
import PyProof.EqAt
import PyProof.EqKinds
import PyProof.TupleCall
import PyProof.ExcClass2
import PyProof.NsCount
import PyProof.StationsW
import PyProof.PassesOwn
import PyProof.Commute
import PyProof.RulesAs
import PyProof.NsDelKeeps
import KE.KTryMore
import PySem.Challenge.RW_mustmay_k03_bad_plans
set_option Elab.async false
set_option linter.all false
set_option maxRecDepth 100000
namespace L2
open PySem PySem.Spec PyProof.Rows
abbrev Key:=Sum Int Str
def Vv:Key→Value→Bool
  | .inl k,v=>Value.isInt k v
  | .inr x,v=>Value.isStrOf x v
def keyH (w:World):Key→Int
  | .inl k=>hashInt k
  | .inr x=>hashStr w x
theorem eZ:∀ {k:Key} {v:Value},Vv k v = true→(∃ i t,k = Sum.inl i∧v = Value.int i t) ∨ (∃ x t,k = Sum.inr x∧v = Value.str x t)
  | .inl i,v,h=>by
    obtain ⟨t,e⟩:=Value.isInt_shape (k:=i) (v:=v) h
    exact .inl ⟨i,t,rfl,e⟩
  | .inr x,v,h=>by
    obtain ⟨t,e⟩:=Value.isStrOf_shape (x:=x) (v:=v) h
    exact .inr ⟨x,t,rfl,e⟩
theorem afO (i:Int) (t:Tok):Vv (.inl i) (.int i t) = true:=by simp [Vv,Value.isInt]
theorem afP (x:Str) (t:Tok):Vv (.inr x) (.str x t) = true:=by simp [Vv,Value.isStrOf]
theorem key_ll (a b:Int):decide ((Sum.inl a:Key) = Sum.inl b) = (a == b):=by
  by_cases e:a = b
  · subst e; simp
  · have h:¬ (Sum.inl a:Key) = Sum.inl b:=fun q=>e (Sum.inl.inj q)
    rw [decide_eq_false h]
    exact (beq_eq_false_iff_ne.mpr e).symm
theorem key_rr (a b:Str):decide ((Sum.inr a:Key) = Sum.inr b) = decide (a = b):=by
  by_cases e:a = b
  · subst e; simp
  · have h:¬ (Sum.inr a:Key) = Sum.inr b:=fun q=>e (Sum.inr.inj q)
    rw [decide_eq_false h,decide_eq_false e]
theorem key_lr (a:Int) (b:Str):decide ((Sum.inl a:Key) = Sum.inr b) = false:=decide_eq_false (fun q=>nomatch q)
theorem key_rl (a:Str) (b:Int):decide ((Sum.inr a:Key) = Sum.inl b) = false:=decide_eq_false (fun q=>nomatch q)
def mO (prog:Program) (w:World):PySem.KeyKind prog w Key where
  is:=Vv
  hash:=keyH w
  inj:=fun v a b ha hb=>by
    rcases eZ ha with ⟨i,t,rfl,rfl⟩ | ⟨x,t,rfl,rfl⟩
    · rcases eZ hb with ⟨j,u,rfl,e⟩ | ⟨y,u,rfl,e⟩
      · injection e with e1 _; rw [e1]
      · exact nomatch e
    · rcases eZ hb with ⟨j,u,rfl,e⟩ | ⟨y,u,rfl,e⟩
      · exact nomatch e
      · injection e with e1 _; rw [e1]
  byValue:=fun k v h=>by
    rcases eZ h with ⟨i,t,rfl,rfl⟩ | ⟨x,t,rfl,rfl⟩ <;> rfl
  pyHash:=fun hv h=>by
    rcases eZ hv with ⟨i,t,rfl,rfl⟩ | ⟨x,t,rfl,rfl⟩
    · exact wpAny_pyHash_int h
    · exact wpAny_pyHash_str h
  eqBool:=fun hu hv h=>by
    rcases eZ hu with ⟨i,t,rfl,rfl⟩ | ⟨x,t,rfl,rfl⟩
    · rcases eZ hv with ⟨j,u,rfl,rfl⟩ | ⟨y,u,rfl,rfl⟩
      · rw [key_ll] at h; exact wpAny_eqBool_int h
      · rw [key_lr] at h; exact SeqAt.EqAt.int_str i t y u _ _ _ _ h
    · rcases eZ hv with ⟨j,u,rfl,rfl⟩ | ⟨y,u,rfl,rfl⟩
      · rw [key_rl] at h; exact SeqAt.EqAt.str_int x t j u _ _ _ _ h
      · rw [key_rr] at h; exact wpAny_eqBool_str h
  «strs»:=fun k x t v h=>by
    rcases eZ h with ⟨i,u,rfl,e⟩ | ⟨y,u,rfl,e⟩
    · exact nomatch e
    · injection e with e1 _
      subst e1
      cases v <;> rfl
theorem ab1 (prog:Program) (w:World) (i:Int) (t:Tok):(mO prog w).is (.inl i) (.int i t) = true:=afO i t
theorem ab2 (prog:Program) (w:World) (x:Str) (t:Tok):(mO prog w).is (.inr x) (.str x t) = true:=afP x t
end L2
namespace L2
open PySem PySem.Spec PyProof.Rows
inductive V where
  | non | bl (b:Bool) | int (i:Int) | str (x:Str) | byt (b:Array UInt8) | flt (b:UInt64) | ref (a:Addr) | ty (n:String)
  deriving DecidableEq
def RelV:V→Value→Prop
  | .non,u=>u = Value.none
  | .bl b,u=>u = Value.bool b
  | .int i,u=>∃ t,u = Value.int i t
  | .str x,u=>∃ t,u = Value.str x t
  | .byt b,u=>∃ t,u = Value.bytes b t
  | .flt b,u=>∃ t,u = Value.float b t
  | .ref a,u=>u = Value.ref a
  | .ty n,u=>u = Value.type n
abbrev Vals:List V→List Value→Prop:=Paired RelV
theorem Vals.length {xs:List V} {us:List Value} (r:Vals xs us):xs.length = us.length:=Paired.length r
theorem Vals.get:∀ {xs:List V} {us:List Value} {i:Nat} {x:V},Vals xs us→xs[i]? = some x→∃ u,us[i]? = some u∧RelV x u
  | _,_,_,_,.nil,e=>by simp at e
  | _,_,0,_,.cons r _,e=>by simp at e; subst e; exact ⟨_,rfl,r⟩
  | _,_,i + 1,x,.cons _ t,e=>by
    obtain ⟨u,h1,h2⟩:=Vals.get (i:=i) (x:=x) t (by simpa using e)
    exact ⟨u,by simpa using h1,h2⟩
theorem Vals.set {x:V} {u:Value} (r:RelV x u):∀ {xs:List V} {us:List Value} (i:Nat),Vals xs us→Vals (xs.set i x) (us.set i u)
  | _,_,_,.nil=>.nil
  | _,_,0,.cons _ t=>.cons r t
  | _,_,i + 1,.cons q t=>.cons q (Vals.set r i t)
theorem Vals.append:∀ {xs ys:List V} {us ws:List Value},Vals xs us→Vals ys ws→Vals (xs ++ ys) (us ++ ws)
  | _,_,_,_,.nil,s=>s
  | _,_,_,_,.cons r t,s=>.cons r (Vals.append t s)
theorem Vals.take:∀ {xs:List V} {us:List Value} (n:Nat),Vals xs us→Vals (xs.take n) (us.take n)
  | _,_,0,_=>.nil
  | _,_,_ + 1,.nil=>.nil
  | _,_,n + 1,.cons r t=>.cons r (Vals.take n t)
theorem Vals.drop:∀ {xs:List V} {us:List Value} (n:Nat),Vals xs us→Vals (xs.drop n) (us.drop n)
  | _,_,0,r=>r
  | _,_,_ + 1,.nil=>.nil
  | _,_,n + 1,.cons _ t=>Vals.drop n t
theorem Vals.none_of:∀ {xs:List V} {us:List Value} {i:Nat},Vals xs us→xs[i]? = none→us[i]? = none:=fun {xs us i} r e=>by
  have h1:=r.length
  have h2:xs.length ≤ i:=List.getElem?_eq_none_iff.mp e
  exact List.getElem?_eq_none_iff.mpr (by omega)
def uT:Option V→Option Value→Prop
  | some v,some u=>RelV v u
  | none,none=>True
  | _,_=>False
def KV {κ:Type}:List (κ × V)→List (κ × Value)→Prop:=Paired fun (p:κ × V) (q:κ × Value)=>p.1 = q.1∧RelV p.2 q.2
def kV:Key→V
  | .inl i=>.int i
  | .inr x=>.str x
inductive HO where
  | lst (xs:List V)
  | tup (xs:List V)
  | dK (kvs:List (Key × V)) | dT (kvs:List (List Key × V))
  | set (S:Int→Bool) (n:Nat)
  | ins (C dx:Addr) (fs:List (Str × V))
  | own (x:Addr)
  | xd (fs:List (Str × V))
  | met (f x:Addr)
  | rng (lo hi:Int)
  | frz (o:Obj) (u:HO)
  | tbl (ps:Array Value)
  | ext (φ:Heap→Prop)
abbrev Hp:=Addr→Option HO
def upd (H:Hp) (a:Addr) (o:HO):Hp:=fun b=>if b = a then some o else H b
theorem aL {H:Hp} {a:Addr} {o:HO}:upd H a o a = some o:=by unfold upd; rw [if_pos rfl]
theorem aD {H:Hp} {a b:Addr} {o:HO} (h:b ≠ a):upd H a o b = H b:=by unfold upd; rw [if_neg h]
theorem aQ {H:Hp} {a b:Addr} {o:HO} (h:H a = some o) (h':H b = none):a ≠ b:=by
  intro e; subst e; rw [h] at h'; cases h'
section
variable (P:Program) (w:World)
def dX (H:Hp) (h:Heap) (a:Addr):HO→Prop
  | .lst xs=>xs.length ≤ sizeLine∧∃ (its:List Value) (n:Nat),Vals xs its∧h.get? a = some { cls:=.type "list",data:=.seq its.toArray n }
  | .tup xs=>xs.length ≤ sizeLine∧∃ its:List Value,Vals xs its∧IsTup h a its.toArray
  | .dK kvs=>kvs.length ≤ sizeLine∧(a == sysModules) = false∧∃ vs,KV kvs vs∧h.DictOf (mO P w) a vs
  | .dT kvs=>kvs.length ≤ sizeLine∧(a == sysModules) = false∧∃ xs:List (List Key × Addr × Value),
      Paired (fun (p:List Key × V) (q:List Key × Addr × Value)=>p.1 = q.1∧H q.2.1 = some (.tup (p.1.map kV))∧RelV p.2 q.2.2) kvs xs ∧
      ∃ o es ep,h.get? a = some o∧o.ExactDict∧o.data = .dict es ep∧es.toList = xs.map (entryOfKey (tupleKind (mO P w)))∧(xs.map (·.1)).Nodup
  | .set S n=>h.SetOf (intKind P w) a S n
  | .ins C dx fs=>H dx = some (.own a)∧fs.length ≤ 1000∧dx ≠ a∧h.get? a = some (PySem.W.instObj C dx) ∧
      ∃ mA,h.Ns1 dx mA∧(∀ f,uT (fs.lookup f) (mA f))∧PySem.Within mA (fs.map (·.1))
  | .own _=>∃ o,h.get? a = some o
  | .xd fs=>∃ mA,h.Ns1 a mA∧∀ f,uT (fs.lookup f) (mA f)
  | .rng lo hi=>∃ t u v,h.get? a = some { cls:=.type "range",data:=.fields #[.int lo t,.int hi u,.int 1 v] }
  | .frz o u=>h.get? a = some o∧dX H h a u
  | .tbl ps=>h.get? a = some { cls:=.none,data:=.fields ps }
  | .met f x=>h.get? a = some (PySem.W.methodObj (.ref f) (.ref x))
  | .ext φ=>φ h∧(∃ o,h.get? a = some o)∧∀ h1 h2:Heap,φ h1→(∀ o,h1.get? a = some o→h2.get? a = some o)→φ h2
def HOk (H:Hp) (h:Heap):Prop:=∀ a o,H a = some o→dX P w H h a o
end
section
variable {P:Program} {w:World} {H H':Hp} {h h':Heap} {a:Addr} {o:HO}
theorem dX.lt (x:dX P w H h a o):a < h.objs.size:=by
  cases o with
  | lst xs=>obtain ⟨_,_,_,_,e⟩:=x; exact Heap.lt_size e
  | tup xs=>obtain ⟨_,_,_,p⟩:=x; exact p.lt
  | dK kvs=>obtain ⟨_,_,_,_,o,_,_,e,_⟩:=x; exact Heap.lt_size e
  | dT kvs=>obtain ⟨_,_,_,_,o,_,_,e,_⟩:=x; exact Heap.lt_size e
  | set S n=>obtain ⟨o,_,_,_,e,_⟩:=x; exact Heap.lt_size e
  | ins C dx fs=>obtain ⟨_,_,_,e,_⟩:=x; exact Heap.lt_size e
  | own y=>obtain ⟨_,e⟩:=x; exact Heap.lt_size e
  | xd fs=>obtain ⟨_,⟨_,_,_,e,_⟩,_⟩:=x; exact Heap.lt_size e
  | rng lo hi=>obtain ⟨_,_,_,e⟩:=x; exact Heap.lt_size e
  | frz ob u=>obtain ⟨e,_⟩:=x; exact Heap.lt_size e
  | tbl ps=>exact Heap.lt_size (show h.get? a = some _ from x)
  | met f y=>exact Heap.lt_size (show h.get? a = some _ from x)
  | ext φ=>obtain ⟨_,⟨_,e⟩,_⟩:=x; exact Heap.lt_size e
theorem Paired.mapP {α β:Type} {F G:α→β→Prop}:∀ {l₁:List α} {l₂:List β},Paired F l₁ l₂→(∀ a b,F a b→G a b)→Paired G l₁ l₂
  | _,_,.nil,_=>.nil
  | _,_,.cons r t,f=>.cons (f _ _ r) (Paired.mapP t f)
theorem dX.stay (x:dX P w H h a o) (k:∀ b u,(b = a ∨ H b = some (.own a))→h.get? b = some u→h'.get? b = some u)
    (ho:∀ b,H b = some (.own a)→H' b = some (.own a)) (ht:∀ b xs,H b = some (.tup xs)→H' b = some (.tup xs)):dX P w H' h' a o:=by
  induction o with
  | lst xs=>obtain ⟨z,its,n,r,e⟩:=x; exact ⟨z,its,n,r,k _ _ (.inl rfl) e⟩
  | tup xs=>obtain ⟨z,its,r,ob,e,c⟩:=x; exact ⟨z,its,r,ob,k _ _ (.inl rfl) e,c⟩
  | dK kvs=>obtain ⟨z,y,vs,r,ob,es,ep,e,c⟩:=x; exact ⟨z,y,vs,r,ob,es,ep,k _ _ (.inl rfl) e,c⟩
  | dT kvs =>
    obtain ⟨z,y,xs,r,ob,es,ep,e,c⟩:=x
    exact ⟨z,y,xs,Paired.mapP r fun p q z=>⟨z.1,ht _ _ z.2.1,z.2.2⟩,ob,es,ep,k _ _ (.inl rfl) e,c⟩
  | set S n=>obtain ⟨ob,es,ep,t,e,c⟩:=x; exact ⟨ob,es,ep,t,k _ _ (.inl rfl) e,c⟩
  | ins C dx fs =>
    obtain ⟨d,z,ne,e,mA,⟨od,es,ep,e2,c⟩,r⟩:=x
    exact ⟨ho _ d,z,ne,k _ _ (.inl rfl) e,mA,⟨od,es,ep,k _ _ (.inr d) e2,c⟩,r⟩
  | own y=>obtain ⟨ob,e⟩:=x; exact ⟨ob,k _ _ (.inl rfl) e⟩
  | xd fs=>obtain ⟨mA,⟨od,es,ep,e,c⟩,r⟩:=x; exact ⟨mA,⟨od,es,ep,k _ _ (.inl rfl) e,c⟩,r⟩
  | rng lo hi=>obtain ⟨t,u,v,e⟩:=x; exact ⟨t,u,v,k _ _ (.inl rfl) e⟩
  | frz ob u ih=>obtain ⟨e,q⟩:=x; exact ⟨k _ _ (.inl rfl) e,ih q⟩
  | tbl ps =>
    have e:h.get? a = some { cls:=.none,data:=.fields ps }:=x
    show h'.get? a = some { cls:=.none,data:=.fields ps }
    exact k a _ (.inl rfl) e
  | met f y =>
    have e:h.get? a = some (PySem.W.methodObj (.ref f) (.ref y)):=x
    show h'.get? a = some (PySem.W.methodObj (.ref f) (.ref y))
    exact k a _ (.inl rfl) e
  | ext φ=>obtain ⟨p,⟨o,e⟩,st⟩:=x; exact ⟨st _ _ p fun o q=>k _ _ (.inl rfl) q,⟨o,k _ _ (.inl rfl) e⟩,st⟩
theorem HOk.lt (x:HOk P w H h) (e:H a = some o):a < h.objs.size:=(x a o e).lt
theorem HOk.fresh (x:HOk P w H h) (e:h.objs.size ≤ a):H a = none:=by
  cases q:H a with
  | none=>rfl
  | some u=>exact absurd (Nat.lt_of_lt_of_le (x.lt q) e) (Nat.lt_irrefl _)
theorem HOk.kept (x:HOk P w H h) (k:∀ b u,h.get? b = some u→h'.get? b = some u):HOk P w H h':=fun a o e =>
  (x a o e).stay (fun b u _ q=>k b u q) (fun _ q=>q) fun _ _ q=>q
theorem HOk.laid (x:HOk P w H h) (k:∀ b u,h.get? b = some u→h'.get? b = some u) (hp:h.objs.size ≤ a) (new:dX P w (upd H a o) h' a o):HOk P w (upd H a o) h':=fun b u e=>by
  have hn:=x.fresh hp
  by_cases hb:b = a
  · subst hb; rw [aL] at e; cases e; exact new
  · rw [aD hb] at e
    exact (x b u e).stay (fun c v _ q=>k c v q) (fun c q=>by rw [aD (aQ q hn)]; exact q) fun c xs q=>by rw [aD (aQ q hn)]; exact q
end
def Rd (H:Hp) (a:Addr) (u:HO):Prop:=H a = some u ∨ ∃ o,H a = some (.frz o u)
theorem Rd.of {H:Hp} {a:Addr} {u:HO} (h:H a = some u):Rd H a u:=.inl h
theorem Rd.ok {P:Program} {w:World} {H:Hp} {h:Heap} {a:Addr} {u:HO} (r:Rd H a u) (x:HOk P w H h):dX P w H h a u:=by
  rcases r with r | ⟨o,r⟩
  · exact x a u r
  · obtain ⟨_,q⟩:=x a _ r
    exact q
def Mut:Option HO→Prop
  | some (.lst _)=>True
  | some (.dK _)=>True
  | some (.dT _)=>True
  | some (.set _ _)=>True
  | some (.ins _ _ _)=>True
  | some (.ext _)=>True
  | _=>False
section
variable {P:Program} {w:World} {H:Hp} {h h':Heap} {x e:Addr} {o':HO}
theorem HOk.write (ok:HOk P w H h) (mu:Mut (H x)) (he:e = x ∨ H e = some (.own x)) (k:∀ b u,b ≠ e→h.get? b = some u→h'.get? b = some u) (heo:∃ u,h'.get? e = some u)
    (new:dX P w (upd H x o') h' x o'):HOk P w (upd H x o') h':=fun b u q=>by
  have nown:∀ c y,H c = some (.own y)→c ≠ x:=fun c y r z=>by subst z; rw [r] at mu; exact mu
  have ntup:∀ c xs,H c = some (.tup xs)→c ≠ x:=fun c xs r z=>by subst z; rw [r] at mu; exact mu
  by_cases hb:b = x
  · subst hb; rw [aL] at q; cases q; exact new
  · rw [aD hb] at q
    by_cases hbe:b = e
    · have q':H b = some (.own x):=by
        rcases he with z | z
        · exact absurd (hbe.trans z) hb
        · rw [hbe]; exact z
      rw [q] at q'; cases q'
      obtain ⟨v,hv⟩:=heo
      exact ⟨v,by rw [hbe]; exact hv⟩
    · refine (ok b u q).stay (fun c v hc r=>k c v ?_ r) (fun c r=>by rw [aD (nown c b r)]; exact r) fun c xs r=>by rw [aD (ntup c xs r)]; exact r
      rcases hc with rfl | hc
      · exact hbe
      · rintro rfl
        rcases he with z | z
        · exact nown c b hc z
        · rw [hc] at z; cases z; exact hb rfl
end
structure Un (fs ex:List Addr) (H H':Hp) (h h':Heap):Prop where
  keep:∀ b o,h.get? b = some o→H b = none→b ∉ fs→b ∉ ex→h'.get? b = some o
  slot:∀ b o,h.get? b = some o→H b = none→b ∈ fs→b ∉ ex→∃ sl,h'.get? b = some { o with slots:=sl }
  free:∀ b o,h.get? b = some o→H b = none→b ∉ ex→H' b = none
  there:∀ b o,h.get? b = some o→b ∉ ex→∃ o',h'.get? b = some o'
  tups:∀ b xs,H b = some (.tup xs)→H' b = some (.tup xs)
  Bh:∀ b o u,H b = some (.frz o u)→H' b = some (.frz o u)
  DN:∀ b ps,H b = some (.tbl ps)→∃ more,H' b = some (.tbl (ps ++ more))
section
variable {fs fs' ex ex':List Addr} {H H1 H2:Hp} {h h1 h2 h':Heap} {a x e:Addr} {o:HO}
theorem Un.any (u:Un fs ex H H1 h h1) {b:Addr} {ob:Obj} (q:h.get? b = some ob) (n:H b = none) (hx:b ∉ ex):∃ sl,h1.get? b = some { ob with slots:=sl }:=by
  by_cases hb:b ∈ fs
  · exact u.slot b ob q n hb hx
  · exact ⟨ob.slots,u.keep b ob q n hb hx⟩
theorem Un.trans (a:Un fs ex H H1 h h1) (b:Un fs ex H1 H2 h1 h2):Un fs ex H H2 h h2 where
  keep:=fun c ob q n hc hx=>b.keep c ob (a.keep c ob q n hc hx) (a.free c ob q n hx) hc hx
  slot:=fun c ob q n hc hx=>by
    obtain ⟨sl,e1⟩:=a.slot c ob q n hc hx
    obtain ⟨sl',e2⟩:=b.slot c _ e1 (a.free c ob q n hx) hc hx
    exact ⟨sl',e2⟩
  free:=fun c ob q n hx=>by
    obtain ⟨o',e1⟩:=a.there c ob q hx
    exact b.free c o' e1 (a.free c ob q n hx) hx
  there:=fun c ob q hx=>by
    obtain ⟨o',e1⟩:=a.there c ob q hx
    exact b.there c o' e1 hx
  tups:=fun c xs q=>b.tups c xs (a.tups c xs q)
  Bh:=fun c ob xs q=>b.Bh c ob xs (a.Bh c ob xs q)
  DN:=fun c ps q=>by
    obtain ⟨m1,e1⟩:=a.DN c ps q
    obtain ⟨m2,e2⟩:=b.DN c _ e1
    exact ⟨m1 ++ m2,by rw [e2,Array.append_assoc]⟩
theorem Un.kept (k:∀ b u,h.get? b = some u→h'.get? b = some u):Un fs ex H H h h' :=
  ⟨fun b ob q _ _ _=>k b ob q,fun b ob q _ _ _=>⟨ob.slots,k b ob q⟩,fun _ _ _ n _=>n,fun b ob q _=>⟨ob,k b ob q⟩,fun _ _ q=>q,fun _ _ _ q=>q,fun _ ps q=>⟨#[],by rw [q]; simp⟩⟩
theorem Un.refl:Un fs ex H H h h:=Un.kept fun _ _ q=>q
theorem Un.laid (k:∀ b u,h.get? b = some u→h'.get? b = some u) (hp:h.objs.size ≤ a) (hn:H a = none):Un fs ex H (upd H a o) h h' where
  keep:=fun b u q _ _ _=>k b u q
  slot:=fun b u q _ _ _=>⟨u.slots,k b u q⟩
  free:=fun b u q n _=>by rw [aD (Nat.ne_of_lt (Nat.lt_of_lt_of_le (Heap.lt_size q) hp))]; exact n
  there:=fun b u q _=>⟨u,k b u q⟩
  tups:=fun b xs q=>by rw [aD (aQ q hn)]; exact q
  Bh:=fun b u xs q=>by rw [aD (aQ q hn)]; exact q
  DN:=fun b ps q=>⟨#[],by rw [aD (aQ q hn),q]; simp⟩
theorem Un.write (mu:Mut (H x)) (he:e = x ∨ H e = some (.own x)) (k:∀ b u,b ≠ e→h.get? b = some u→h'.get? b = some u) (heo:∃ u,h'.get? e = some u):Un fs ex H (upd H x o) h h':=by
  have hx:∀ b,H b = none→b ≠ x:=fun b n z=>by subst z; rw [n] at mu; exact mu
  have hb:∀ b,H b = none→b ≠ e:=fun b n z=>by
    subst z
    rcases he with r | r
    · exact hx b n r
    · rw [n] at r; cases r
  have hm:∀ b u,H b = some u→¬ Mut (some u)→b ≠ x:=fun b u q nm z=>by subst z; rw [q] at mu; exact nm mu
  refine ⟨fun b u q n _ _=>k b u (hb b n) q,fun b u q n _ _=>⟨u.slots,k b u (hb b n) q⟩,fun b u q n _=>by rw [aD (hx b n)]; exact n,fun b u q _=>?_,
    fun b xs q=>by rw [aD (hm b _ q fun z=>z)]; exact q,fun b u xs q=>by rw [aD (hm b _ q fun z=>z)]; exact q,fun b ps q=>⟨#[],by rw [aD (hm b _ q fun z=>z),q]; simp⟩⟩
  by_cases hbe:b = e
  · subst hbe; exact heo
  · exact ⟨u,k b u hbe q⟩
theorem Un.mono (u:Un fs ex H H1 h h1) (hs:∀ b ∈ fs,b ∈ fs') (hx:∀ b ∈ ex,b ∈ ex'):Un fs' ex' H H1 h h1 :=
  ⟨fun b ob q n hb he=>u.keep b ob q n (fun z=>hb (hs b z)) fun z=>he (hx b z),fun _ _ q n _ he=>u.any q n fun z=>he (hx _ z),fun b ob q n he=>u.free b ob q n fun z=>he (hx b z),fun b ob q he=>u.there b ob q fun z=>he (hx b z),u.tups,u.Bh,u.DN⟩
end
def trk (h:Heap) (H:Hp):List Addr:=(List.range h.objs.size).filter fun a=>(H a).isSome
def hidT (h:Heap) (H:Hp):Heap:=PySem.W.hideAll h (trk h H)
theorem afH (h:Heap) (H:Hp):(hidT h H).objs.size = h.objs.size:=PySem.W.hideAll_size _ _
theorem hidT_get {h:Heap} {H:Hp} {b:Addr} {o:Obj} (e:h.get? b = some o) (n:H b = none):(hidT h H).get? b = some o :=
  PySem.W.hideAll_get _ e fun hm=>by
    have q:(H b).isSome = true:=(List.mem_filter.mp hm).2
    rw [n] at q; simp at q
theorem of_hidT {h:Heap} {H:Hp} {b:Addr} {o:Obj} (e:(hidT h H).get? b = some o):h.get? b = some o∧H b = none:=by
  have e':h.get? b = some o:=PySem.W.of_hideAll (trk h H) e
  refine ⟨e',?_⟩
  cases q:H b with
  | none=>rfl
  | some x =>
    have hm:b ∈ trk h H:=List.mem_filter.mpr ⟨List.mem_range.mpr (Heap.lt_size e'),by simp [q]⟩
    have z:(hidT h H).get? b = none:=PySem.W.hideAll_none (trk h H) hm
    rw [z] at e; cases e
def allNews (g h:Heap) (L:Addr):List (Addr × Obj):=(List.range h.objs.size).filterMap fun a=>if a = L ∨ (g.get? a).isSome = true then none else (h.get? a).map fun o=>(a,o)
def rest (g h:Heap) (L d:Addr):List (Addr × Obj):=(allNews g h L).filter fun p=>decide (p.1 ≠ d)
end L2
namespace L2
open PySem PySem.Spec PyProof.Rows
structure Mod (K:PySem.W.Frag) (mg:Str→Option Value) (base:Heap):Prop where
  kin:K.In base
  glob:base.Ns mainGlobals mg
  blt:∃ mb,base.Ns builtinsNs mb∧∀ x:Str,x ≠ "__name__"→mb x = bootBuiltins x
  nolimit:base.NoLimit
structure Cx where
  prog:Program
  w:World
  K:PySem.W.Frag
  mg:Str→Option Value
  base:Heap
  A:Around
  N:List Str
  s₀:Shared
  H₀:Hp
  env:Env
  outer:List Env
  stack:List Env
  ex:List Addr
  fn:Str→Bool
  calm:Bool
  pn:List (Addr × Obj)
  xe:Value→Shared→Prop
def frs (l:List Env):List Addr:=l.filterMap (·.frame)
abbrev Cx.fs (X:Cx):List Addr:=frs X.outer
def Vis (sc:Scope) (x:Str):Prop:=sc.names.lookup x = some .local ∨ sc.names.lookup x = some .cell ∨ sc.names.lookup x = some .free
def Loc (sc:Scope) (x:Str):Prop:=sc.names.lookup x = some .local ∨ sc.names.lookup x = some .cell
def Look (env:Env) (h:Heap) (m:Str→Option Value) (x:Str) (u:Value):Prop :=
  (env.kindOf x = some .local∧m x = some u) ∨ ((env.kindOf x = some .cell ∨ env.kindOf x = some .free)∧∃ c,env.cells.lookup x = some c∧h.IsCell c (some u))
structure Cx.Ok (X:Cx):Prop where
  mod:Mod X.K X.mg X.base
  kind:X.env.scope.kind = .function
  glob:X.env.globals = mainGlobals
  blt:X.env.builtins = builtinsNs
  above:X.s₀.heap.objs.size ≤ X.env.locals
  inj:∀ x y c,X.env.cells.lookup x = some c→X.env.cells.lookup y = some c→x = y
  has:∀ x,(X.env.kindOf x = some .cell ∨ X.env.kindOf x = some .free)→∃ c,X.env.cells.lookup x = some c
  cab:∀ x c,X.fn x = true→X.env.cells.lookup x = some c→X.s₀.heap.objs.size ≤ c
  hd:X.calm = true→X.A.handled = none
  frames:X.A.frames = some X.stack
  stk:X.stack = X.outer ∨ (X.stack = X.env :: X.outer∧X.env.frame = some X.env.locals)
  exf:∀ b ∈ X.ex,b ≠ X.env.locals∧∀ x c,X.env.cells.lookup x = some c→c ≠ b
  bs:∀ b o,X.base.get? b = some o→X.s₀.heap.get? b = some o∧X.H₀ b = none
  bsz:X.base.objs.size ≤ X.s₀.heap.objs.size
  bL:∀ b o,X.base.get? b = some o→b ∉ X.ex
  exfs:∀ b ∈ X.ex,b ∉ X.fs
  Bj:X.s₀.heap.FunFrames X.base X.outer
  frf:∀ b ∈ X.fs,X.H₀ b = none
structure Inv (X:Cx) (pins:List (Addr × Obj)) (σ:List (Option V)) (H:Hp) (s:Shared):Prop where
  ok:X.Ok
  os:s.os = X.s₀.os
  bare:AllBare s.gens
  base:Un X.fs X.ex X.H₀ H X.s₀.heap s.heap
  loc:∃ m,s.heap.Ns X.env.locals m∧∀ (i:Nat) (x:Str) (v:V),X.N[i]? = some x→σ[i]? = some (some v)→Vis X.env.scope x→∃ u,RelV v u∧Look X.env s.heap m x u
  cell:∀ x c,X.env.cells.lookup x = some c→∃ v,s.heap.IsCell c v
  free:H X.env.locals = none
  pX:∀ x c,X.env.cells.lookup x = some c→H c = none
  pin:∀ p ∈ X.pn ++ pins,s.heap.get? p.1 = some p.2∧H p.1 = none∧p.1 ≠ X.env.locals∧p.1 ∉ X.fs∧∀ v,p.2.data ≠ .cell v
  hok:HOk X.prog X.w H s.heap
  len:σ.length = X.N.length
section
variable {X:Cx} {pins:List (Addr × Obj)} {σ:List (Option V)} {H H':Hp} {s:Shared} {h':Heap}
theorem Cx.Ok.nofr (ok:X.Ok) {b:Addr} {o:Obj} (e:X.base.get? b = some o):b ∉ X.fs:=fun hb=>by
  have:=(ok.Bj.mem hb).1
  rw [e] at this; cases this
theorem Inv.bs (I:Inv X pins σ H s):∀ b o,X.base.get? b = some o→s.heap.get? b = some o∧H b = none:=fun b o e =>
  ⟨I.base.keep b o (I.ok.bs b o e).1 (I.ok.bs b o e).2 (I.ok.nofr e) (I.ok.bL b o e),I.base.free b o (I.ok.bs b o e).1 (I.ok.bs b o e).2 (I.ok.bL b o e)⟩
theorem Inv.bk (I:Inv X pins σ H s):∀ b o,X.base.get? b = some o→s.heap.get? b = some o:=fun b o e=>(I.bs b o e).1
theorem Inv.mod (I:Inv X pins σ H s):Mod X.K X.mg X.base:=I.ok.mod
theorem Inv.kIn (I:Inv X pins σ H s):X.K.In s.heap:=I.ok.mod.kin.keeps I.bk
theorem Inv.nolimit (I:Inv X pins σ H s):s.heap.NoLimit:=I.ok.mod.nolimit.keeps I.bk
theorem Inv.fr (I:Inv X pins σ H s):∃ m,Fr X.base X.env.locals s.heap m :=
  let ⟨m,hn,_⟩:=I.loc
  ⟨m,hn,I.bk,Nat.le_trans I.ok.bsz I.ok.above⟩
theorem Inv.lt (I:Inv X pins σ H s):X.env.locals < s.heap.objs.size:=let ⟨_,hn,_⟩:=I.loc; hn.lt
theorem Inv.sz (I:Inv X pins σ H s):X.s₀.heap.objs.size ≤ s.heap.objs.size:=Nat.le_trans I.ok.above (Nat.le_of_lt I.lt)
theorem Inv.nofs (I:Inv X pins σ H s) {a:Addr} (h:s.heap.objs.size ≤ a):a ∉ X.fs:=fun hb=>by
  obtain ⟨_,o,ho,_⟩:=I.ok.Bj.mem hb
  exact absurd (Nat.lt_of_lt_of_le (Heap.lt_size ho) (Nat.le_trans I.sz h)) (Nat.lt_irrefl _)
theorem Inv.cne (I:Inv X pins σ H s):∀ x c,X.env.cells.lookup x = some c→c ≠ X.env.locals:=fun x c e z=>by
  obtain ⟨v,o,ho,hd⟩:=I.cell x c e
  obtain ⟨m,⟨o',es,ep,ho',hd',_⟩,_⟩:=I.loc
  rw [z,ho'] at ho; cases ho; rw [hd'] at hd; cases hd
theorem Inv.Bj (I:Inv X pins σ H s):s.heap.FunFrames X.base X.outer:=by
  have all:∀ (l:List Env),(∀ b ∈ frs l,b ∈ X.fs)→X.s₀.heap.FunFrames X.base l→s.heap.FunFrames X.base l:=by
    intro l
    induction l with
    | nil=>intro _ _; trivial
    | cons env r ih =>
      intro hs hl
      obtain ⟨hk,⟨L,o,hf,hn,ho,hd⟩,hr⟩:=hl
      have hL:L ∈ X.fs:=hs L (by unfold frs; rw [List.filterMap_cons,hf]; exact List.mem_cons_self)
      obtain ⟨sl,e⟩:=I.base.slot L o ho (I.ok.frf L hL) hL fun z=>I.ok.exfs L z hL
      exact ⟨hk,⟨L,_,hf,hn,e,hd⟩,ih (fun b hb=>hs b (by unfold frs; rw [List.filterMap_cons,hf]; exact List.mem_cons_of_mem _ hb)) hr⟩
  exact all X.outer (fun _ hb=>hb) I.ok.Bj
theorem Inv.stack (I:Inv X pins σ H s):s.heap.FunFrames X.base X.stack:=by
  rcases I.ok.stk with e | ⟨e,hf⟩
  · rw [e]; exact I.Bj
  · rw [e]
    obtain ⟨m,hn,_⟩:=I.loc
    refine .cons (by rw [I.ok.kind]; decide) hf hn ?_ I.Bj
    exact Heap.get?_none_of_le (Nat.le_trans I.ok.bsz I.ok.above)
theorem Inv.aeI (I:Inv X pins σ H s):∀ b ∈ frs X.stack,b ∈ X.env.locals :: X.fs:=fun b hb=>by
  rcases I.ok.stk with e | ⟨e,hf⟩
  · rw [e] at hb; exact List.mem_cons_of_mem _ hb
  · rw [e] at hb
    unfold frs at hb
    rw [List.filterMap_cons,hf] at hb
    exact hb
theorem Inv.aaO (I:Inv X pins σ H s):∀ b ∈ frs X.stack,H b = none:=fun b hb=>by
  rcases List.mem_cons.mp (I.aeI b hb) with e | hb
  · rw [e]; exact I.free
  · obtain ⟨_,o,ho,_⟩:=I.ok.Bj.mem hb
    exact I.base.free b o ho (I.ok.frf b hb) fun z=>I.ok.exfs b z hb
theorem Inv.step {g':Array GenState} {t':Nat} {d':Drawn} {ch:List Addr} (I:Inv X pins σ H s)
    (hch:∀ b ∈ ch,(b ∈ X.ex ∨ X.s₀.heap.objs.size ≤ b)∧b ≠ X.env.locals∧(∀ x c,X.env.cells.lookup x = some c→c ≠ b)∧∀ p ∈ X.pn ++ pins,p.1 ≠ b)
    (keep:∀ b o,b ≠ X.env.locals→b ∉ X.fs→b ∉ ch→s.heap.get? b = some o→H b = none→h'.get? b = some o)
    (slot:∀ b o,b ≠ X.env.locals→b ∈ X.fs→b ∉ ch→s.heap.get? b = some o→H b = none→∃ sl,h'.get? b = some { o with slots:=sl }) (free:∀ b o,b ∉ ch→s.heap.get? b = some o→H b = none→H' b = none)
    (there:∀ b o,b ∉ ch→s.heap.get? b = some o→∃ o',h'.get? b = some o')
    (tups:∀ b xs,H b = some (.tup xs)→H' b = some (.tup xs)) (Bh:∀ b o u,H b = some (.frz o u)→H' b = some (.frz o u)) (DN:∀ b ps,H b = some (.tbl ps)→∃ more,H' b = some (.tbl (ps ++ more)))
    (ns:∀ m,s.heap.Ns X.env.locals m→h'.Ns X.env.locals m) (hok:HOk X.prog X.w H' h') (hg:AllBare g') :
    Inv X pins σ H' { s with heap:=h',gens:=g',drawn:=d',toks:=t' }:=by
  have neL:∀ b o,X.s₀.heap.get? b = some o→b ≠ X.env.locals:=fun b o e=>Nat.ne_of_lt (Nat.lt_of_lt_of_le (Heap.lt_size e) I.ok.above)
  have neC:∀ b o,X.s₀.heap.get? b = some o→b ∉ X.ex→b ∉ ch:=fun b o e hx hb=>by
    rcases (hch b hb).1 with z | z
    · exact hx z
    · exact absurd (Nat.lt_of_lt_of_le (Heap.lt_size e) z) (Nat.lt_irrefl _)
  have cellK:∀ x c,X.env.cells.lookup x = some c→∀ v,s.heap.IsCell c v→h'.IsCell c v:=fun x c e v ⟨o,ho,hd⟩=>by
    have nch:c ∉ ch:=fun z=>(hch c z).2.2.1 x c e rfl
    by_cases hc:c ∈ X.fs
    · obtain ⟨sl,q⟩:=slot c o (I.cne x c e) hc nch ho (I.pX x c e)
      exact ⟨_,q,hd⟩
    · exact ⟨o,keep c o (I.cne x c e) hc nch ho (I.pX x c e),hd⟩
  refine ⟨I.ok,I.os,hg,⟨fun b o e n hb hx=>?_,fun b o e n hb hx=>?_,fun b o e n hx=>?_,fun b o e hx=>?_,fun b xs e=>tups b xs (I.base.tups b xs e),fun b o xs e=>Bh b o xs (I.base.Bh b o xs e),fun b ps e=>?_⟩,?_,fun x c e=>?_,?_,fun x c e=>?_,fun p hp=>?_,hok,I.len⟩
  · exact keep b o (neL b o e) hb (neC b o e hx) (I.base.keep b o e n hb hx) (I.base.free b o e n hx)
  · obtain ⟨sl,e1⟩:=I.base.slot b o e n hb hx
    obtain ⟨sl',e2⟩:=slot b _ (neL b o e) hb (neC b o e hx) e1 (I.base.free b o e n hx)
    exact ⟨sl',e2⟩
  · obtain ⟨o',e1⟩:=I.base.there b o e hx
    exact free b o' (neC b o e hx) e1 (I.base.free b o e n hx)
  · obtain ⟨o',e1⟩:=I.base.there b o e hx
    exact there b o' (neC b o e hx) e1
  · obtain ⟨m1,e1⟩:=I.base.DN b ps e
    obtain ⟨m2,e2⟩:=DN b _ e1
    exact ⟨m1 ++ m2,by rw [e2,Array.append_assoc]⟩
  · obtain ⟨m,hn,hl⟩:=I.loc
    refine ⟨m,ns m hn,fun i x v e1 e2 e3=>?_⟩
    obtain ⟨u,r,l⟩:=hl i x v e1 e2 e3
    refine ⟨u,r,?_⟩
    rcases l with l | ⟨k,c,e,z⟩
    · exact .inl l
    · exact .inr ⟨k,c,e,cellK x c e _ z⟩
  · obtain ⟨v,z⟩:=I.cell x c e
    exact ⟨v,cellK x c e v z⟩
  · obtain ⟨m,⟨o,_,_,ho,_⟩,_⟩:=I.loc
    exact free _ o (fun z=>(hch _ z).2.1 rfl) ho I.free
  · obtain ⟨v,o,ho,hd⟩:=I.cell x c e
    exact free c o (fun z=>(hch c z).2.2.1 x c e rfl) ho (I.pX x c e)
  · obtain ⟨e,n,ne,nf,d⟩:=I.pin p hp
    have nch:p.1 ∉ ch:=fun z=>(hch p.1 z).2.2.2 p hp rfl
    exact ⟨keep p.1 p.2 ne nf nch e n,free p.1 p.2 nch e n,ne,nf,d⟩
theorem Inv.un {t':Nat} (I:Inv X pins σ H s) (u:Un X.fs [] H H' s.heap h') (hok:HOk X.prog X.w H' h'):Inv X pins σ H' { s with heap:=h',toks:=t' }:=by
  obtain ⟨m,⟨o,es,ep,ho,r⟩,_⟩:=id I.loc
  obtain ⟨sl,hL⟩:=u.any ho I.free (by simp)
  exact I.step (g':=s.gens) (d':=s.drawn) (ch:=[]) (fun _ z=>nomatch z) (fun b o _ hb _ e n=>u.keep b o e n hb (by simp)) (fun b o _ hb _ e n=>u.slot b o e n hb (by simp)) (fun b o _ e n=>u.free b o e n (by simp)) (fun b o _ e=>u.there b o e (by simp)) u.tups u.Bh u.DN (fun m' hm=>by
    obtain ⟨o',es',ep',ho',r'⟩:=hm
    rw [ho] at ho'; cases ho'
    exact ⟨_,es',ep',hL,r'⟩) hok I.bare
theorem Inv.call {g':Array GenState} {t':Nat} {d':Drawn} {ch:List Addr} (I:Inv X pins σ H s) (u:Un (frs X.stack) ch H H' s.heap h') (hok:HOk X.prog X.w H' h') (hg:AllBare g')
    (hch:∀ b ∈ ch,(b ∈ X.ex ∨ X.s₀.heap.objs.size ≤ b)∧b ≠ X.env.locals∧(∀ x c,X.env.cells.lookup x = some c→c ≠ b)∧∀ p ∈ X.pn ++ pins,p.1 ≠ b) :
    Inv X pins σ H' { s with heap:=h',gens:=g',drawn:=d',toks:=t' }:=by
  obtain ⟨m,⟨o,es,ep,ho,r⟩,_⟩:=id I.loc
  obtain ⟨sl,hL⟩:=u.any ho I.free fun z=>(hch _ z).2.1 rfl
  exact I.step (ch:=ch) hch (fun b o hL hb hc e n=>u.keep b o e n (fun z=>(List.mem_cons.mp (I.aeI b z)).elim hL hb) hc) (fun b o _ _ hc e n=>u.any e n hc) (fun b o hc e n=>u.free b o e n hc) (fun b o hc e=>u.there b o e hc) u.tups u.Bh u.DN (fun m' hm=>by
    obtain ⟨o',es',ep',ho',r'⟩:=hm
    rw [ho] at ho'; cases ho'
    exact ⟨_,es',ep',hL,r'⟩) hok hg
theorem Inv.turned {t':Nat} {it:Addr} (I:Inv X pins σ H s) (k:∀ b o,b ≠ it→s.heap.get? b = some o→h'.get? b = some o) (hn:H it = none) (hL:it ≠ X.env.locals)
    (h1:it ∈ X.ex ∨ X.s₀.heap.objs.size ≤ it) (h2:∀ x c,X.env.cells.lookup x = some c→c ≠ it) (h3:∀ p ∈ X.pn ++ pins,p.1 ≠ it):Inv X pins σ H { s with heap:=h',toks:=t' }:=by
  have nit:∀ b u,H b = some u→b ≠ it:=fun b u e z=>by rw [z,hn] at e; cases e
  refine I.step (g':=s.gens) (d':=s.drawn) (ch:=[it]) (fun b hb=>?_) (fun b o _ _ hc e _=>k b o (fun z=>hc (by simp [z])) e) (fun b o _ _ hc e _=>⟨o.slots,k b o (fun z=>hc (by simp [z])) e⟩) (fun _ _ _ _ n=>n)
    (fun b o hc e=>⟨o,k b o (fun z=>hc (by simp [z])) e⟩) (fun _ _ e=>e) (fun _ _ _ e=>e) (fun b ps e=>⟨#[],by rw [e]; simp⟩) (fun m hm=>?_) (fun b u e=>?_) I.bare
  · have e:b = it:=by simpa using hb
    subst e
    exact ⟨h1,hL,h2,h3⟩
  · obtain ⟨o,es,ep,ho,r⟩:=hm
    exact ⟨o,es,ep,k _ o (Ne.symm hL) ho,r⟩
  · refine (I.hok b u e).stay (fun c v hc q=>k c v ?_ q) (fun _ q=>q) fun _ _ q=>q
    rcases hc with z | z
    · rw [z]; exact nit b u e
    · exact nit c _ z
theorem Inv.tok (I:Inv X pins σ H s) (t:Nat):Inv X pins σ H { s with toks:=t }:=I.un (h':=s.heap) (t':=t) Un.refl I.hok
theorem Inv.kept {t':Nat} (I:Inv X pins σ H s) (k:∀ b u,s.heap.get? b = some u→h'.get? b = some u):Inv X pins σ H { s with heap:=h',toks:=t' }:=I.un (Un.kept k) (I.hok.kept k)
theorem Inv.laid {a:Addr} {o:HO} {t':Nat} (I:Inv X pins σ H s) (k:∀ b u,s.heap.get? b = some u→h'.get? b = some u) (hp:s.heap.objs.size ≤ a) (new:dX X.prog X.w (upd H a o) h' a o) :
    Inv X pins σ (upd H a o) { s with heap:=h',toks:=t' }:=I.un (Un.laid k hp (I.hok.fresh hp)) (I.hok.laid k hp new)
theorem Inv.write {x e:Addr} {o:HO} {t':Nat} (I:Inv X pins σ H s) (mu:Mut (H x)) (he:e = x ∨ H e = some (.own x)) (k:∀ b u,b ≠ e→s.heap.get? b = some u→h'.get? b = some u) (heo:∃ u,h'.get? e = some u)
    (new:dX X.prog X.w (upd H x o) h' x o):Inv X pins σ (upd H x o) { s with heap:=h',toks:=t' }:=I.un (Un.write mu he k heo) (I.hok.write mu he k heo new)
theorem Inv.weak {σ':List (Option V)} (I:Inv X pins σ H s) (hl:σ'.length = σ.length) (w:∀ (i:Nat) v,σ'[i]? = some (some v)→σ[i]? = some (some v)):Inv X pins σ' H s :=
  ⟨I.ok,I.os,I.bare,I.base,let ⟨m,hn,hl'⟩:=I.loc; ⟨m,hn,fun i x v e1 e2 e3=>hl' i x v e1 (w i v e2) e3⟩,I.cell,I.free,I.pX,I.pin,I.hok,hl.trans I.len⟩
theorem Inv.afi {pins':List (Addr × Obj)} (I:Inv X pins σ H s) (h:∀ p ∈ pins',s.heap.get? p.1 = some p.2∧H p.1 = none∧p.1 ≠ X.env.locals∧p.1 ∉ X.fs∧∀ v,p.2.data ≠ .cell v):Inv X pins' σ H s :=
  ⟨I.ok,I.os,I.bare,I.base,I.loc,I.cell,I.free,I.pX,fun p hp=>(List.mem_append.mp hp).elim (fun z=>I.pin p (List.mem_append_left _ z)) (h p),I.hok,I.len⟩
theorem Qe {N:List Str} (hN:N.Nodup) {i j:Nat} {x:Str} (a:N[i]? = some x) (b:N[j]? = some x):i = j:=by
  obtain ⟨h1,e1⟩:=List.getElem?_eq_some_iff.mp a
  obtain ⟨h2,e2⟩:=List.getElem?_eq_some_iff.mp b
  exact (List.getElem_inj hN).mp (e1.trans e2.symm)
theorem VG {M:Model} {A:Around} {E:Value→Shared→Prop} {i:Nat} {x:Str} {v:V} {u:Value} {Q:Unit→Shared→Prop} (I:Inv X pins σ H s) (hN:X.N.Nodup) (hi:X.N[i]? = some x) (hx:Loc X.env.scope x) (r:RelV v u)
    (h:∀ s',Inv X pins (σ.set i (some v)) H s'→(∃ a,Heap.SameBut a s.heap s'.heap∧(a = X.env.locals ∨ X.env.cells.lookup x = some a))→Q () s') (hf:X.fn x = true ∨ X.env.scope.names.lookup x = some .local:=by first | exact .inl rfl | exact .inr rfl | assumption):wpAny M A (storeName X.env x u) Q E s:=by
  obtain ⟨m,hn,hl⟩:=id I.loc
  have hcls:(X.env.scope.kind == .class || (X.env.scope.kind == .module && X.env.locals != X.env.globals)) = false:=by rw [I.ok.kind]; rfl
  have hiσ:i < σ.length:=by rw [I.len]; exact (List.getElem?_eq_some_iff.mp hi).1
  have cne:=I.cne
  have tracked:∀ {a:Addr} {h':Heap},(∃ o,s.heap.get? a = some o∧H a = none)→Heap.SameBut a s.heap h'→HOk X.prog X.w H h':=fun {a h'} ha hs b ob e=>by
    obtain ⟨_,_,hfree⟩:=ha
    refine (I.hok b ob e).stay (fun c w' hc q=>(hs.2 c ?_).trans q) (fun _ q=>q) fun _ _ q=>q
    rintro rfl
    rcases hc with rfl | hc
    · rw [hfree] at e; cases e
    · rw [hfree] at hc; cases hc
  rcases hx with hk | hk
  · refine wpAny_storeName_local hk hn (fun h' hn' hs=>?_) hcls
    obtain ⟨oL,_,_,hoL,_⟩:=id hn
    refine h _ ⟨I.ok,I.os,I.bare,⟨fun b o e n hb hx=>?_,fun b o e n hb hx=>?_,I.base.free,fun b o e hx=>?_,I.base.tups,I.base.Bh,I.base.DN⟩,⟨_,hn',fun j y v' e1 e2 e3=>?_⟩,fun y c e=>?_,I.free,I.pX,fun p hp=>?_,tracked ⟨oL,hoL,I.free⟩ hs,by simpa using I.len⟩ ⟨_,hs,.inl rfl⟩
    · exact (hs.2 b (Nat.ne_of_lt (Nat.lt_of_lt_of_le (Heap.lt_size e) I.ok.above))).trans (I.base.keep b o e n hb hx)
    · obtain ⟨sl,e1⟩:=I.base.slot b o e n hb hx
      exact ⟨sl,(hs.2 b (Nat.ne_of_lt (Nat.lt_of_lt_of_le (Heap.lt_size e) I.ok.above))).trans e1⟩
    · obtain ⟨o',e1⟩:=I.base.there b o e hx
      exact ⟨o',(hs.2 b (Nat.ne_of_lt (Nat.lt_of_lt_of_le (Heap.lt_size e) I.ok.above))).trans e1⟩
    · by_cases hj:j = i
      · subst hj
        rw [hi] at e1; cases e1
        rw [List.getElem?_set_self hiσ] at e2
        cases e2
        exact ⟨u,r,.inl ⟨hk,by simp⟩⟩
      · rw [List.getElem?_set_ne (Ne.symm hj)] at e2
        obtain ⟨u',r',q⟩:=hl j y v' e1 e2 e3
        refine ⟨u',r',?_⟩
        rcases q with ⟨k,e⟩ | ⟨k,c,e,z⟩
        · refine .inl ⟨k,?_⟩
          have:y ≠ x:=fun e=>hj (Qe hN e1 (e ▸ hi))
          simp [this,e]
        · exact .inr ⟨k,c,e,z.sameBut hs (cne y c e)⟩
    · obtain ⟨w',z⟩:=I.cell y c e
      exact ⟨w',z.sameBut hs (cne y c e)⟩
    · obtain ⟨e,n,ne,nf,d⟩:=I.pin p hp
      exact ⟨(hs.2 p.1 ne).trans e,n,ne,nf,d⟩
  · have hfn:X.fn x = true:=by
      rcases hf with z | z
      · exact z
      · rw [z] at hk; cases hk
    obtain ⟨c,hc⟩:=I.ok.has x (.inl hk)
    obtain ⟨w',z⟩:=I.cell x c hc
    refine wpAny_storeName_cell I.ok.kind hk hc z (fun h' hc' hs=>?_)
    obtain ⟨oc,hoc,hocd⟩:=id z
    refine h { s with heap:=h' } ⟨I.ok,I.os,I.bare,⟨fun b o e n hb hx=>?_,fun b o e n hb hx=>?_,I.base.free,fun b o e hx=>?_,I.base.tups,I.base.Bh,I.base.DN⟩,⟨m,hn.sameBut hs (Ne.symm (cne x c hc)),fun j y v' e1 e2 e3=>?_⟩,fun y c' e=>?_,I.free,I.pX,fun p hp=>?_,tracked ⟨oc,hoc,I.pX x c hc⟩ hs,by simpa using I.len⟩ ⟨c,hs,.inr hc⟩
    · exact (hs.2 b (Nat.ne_of_lt (Nat.lt_of_lt_of_le (Heap.lt_size e) (I.ok.cab x c hfn hc)))).trans (I.base.keep b o e n hb hx)
    · obtain ⟨sl,e1⟩:=I.base.slot b o e n hb hx
      exact ⟨sl,(hs.2 b (Nat.ne_of_lt (Nat.lt_of_lt_of_le (Heap.lt_size e) (I.ok.cab x c hfn hc)))).trans e1⟩
    · obtain ⟨o',e1⟩:=I.base.there b o e hx
      exact ⟨o',(hs.2 b (Nat.ne_of_lt (Nat.lt_of_lt_of_le (Heap.lt_size e) (I.ok.cab x c hfn hc)))).trans e1⟩
    · by_cases hj:j = i
      · subst hj
        rw [hi] at e1; cases e1
        rw [List.getElem?_set_self hiσ] at e2
        cases e2
        exact ⟨u,r,.inr ⟨.inl hk,c,hc,hc'⟩⟩
      · rw [List.getElem?_set_ne (Ne.symm hj)] at e2
        obtain ⟨u',r',q⟩:=hl j y v' e1 e2 e3
        refine ⟨u',r',?_⟩
        rcases q with q | ⟨k,c',e,z'⟩
        · exact .inl q
        · refine .inr ⟨k,c',e,z'.sameBut hs ?_⟩
          rintro rfl
          exact hj (Qe hN e1 (I.ok.inj _ _ _ e hc ▸ hi))
    · by_cases hcc:c' = c
      · subst hcc; exact ⟨_,hc'⟩
      · obtain ⟨w2,z2⟩:=I.cell y c' e
        exact ⟨w2,z2.sameBut hs hcc⟩
    · obtain ⟨e,n,ne,nf,d⟩:=I.pin p hp
      refine ⟨(hs.2 p.1 ?_).trans e,n,ne,nf,d⟩
      intro q
      rw [q,hoc] at e
      have q':oc = p.2:=Option.some.inj e
      exact d w' (by rw [← q']; exact hocd)
theorem QW {M:Model} {A:Around} {E:Value→Shared→Prop} {i:Nat} {x:Str} {v:V} {u:Value} {Q:Unit→Shared→Prop} (I:Inv X pins σ H s) (hN:X.N.Nodup) (hi:X.N[i]? = some x) (hx:Loc X.env.scope x) (r:RelV v u)
    (h:∀ s',Inv X pins (σ.set i (some v)) H s'→Q () s') (hf:X.fn x = true ∨ X.env.scope.names.lookup x = some .local:=by first | exact .inl rfl | exact .inr rfl | assumption):wpAny M A (storeName X.env x u) Q E s :=
  VG I hN hi hx r (fun s' I' _=>h s' I') hf
theorem Inv.call' {s':Shared} {ch:List Addr} (I:Inv X pins σ H s) (ho:s'.os = s.os) (u:Un (frs X.stack) ch H H' s.heap s'.heap) (hok:HOk X.prog X.w H' s'.heap) (hg:AllBare s'.gens)
    (hch:∀ b ∈ ch,(b ∈ X.ex ∨ X.s₀.heap.objs.size ≤ b)∧b ≠ X.env.locals∧(∀ x c,X.env.cells.lookup x = some c→c ≠ b)∧∀ p ∈ X.pn ++ pins,p.1 ≠ b):Inv X pins σ H' s':=by
  obtain ⟨h',g',d',t',o'⟩:=s'
  have e:o' = s.os:=ho
  subst e
  exact I.call (g':=g') (t':=t') (d':=d') u hok hg hch
end
abbrev XK:=Value→Option Addr→Hp→Prop
abbrev St:=List (Option V)
abbrev VK:=V→Hp→Prop
abbrev TE:=St→Hp→VK→Prop
abbrev TT:=St→Hp→(Bool→Hp→Prop)→Prop
abbrev TA:=St→Hp→(List V→Hp→Prop)→Prop
structure Ends where
  nx:St→Hp→Prop
  rt:VK
  bk:St→Hp→Prop:=fun _ _=>False
  ct:St→Hp→Prop:=fun _ _=>False
abbrev TS:=Ends→St→Hp→Prop
def EP (X:Cx) (pins:List (Addr × Obj)) (σ:St) (Q:VK) (u:Value) (s':Shared):Prop:=∃ v H',Inv X pins σ H' s'∧RelV v u∧Q v H'
def TP (X:Cx) (pins:List (Addr × Obj)) (σ:St) (Q:Bool→Hp→Prop) (b:Bool) (s':Shared):Prop:=∃ H',Inv X pins σ H' s'∧Q b H'
def AP (X:Cx) (pins:List (Addr × Obj)) (σ:St) (Q:List V→Hp→Prop) (us:List Value) (s':Shared):Prop:=∃ vs H',Inv X pins σ H' s'∧Vals vs us∧Q vs H'
def SP (X:Cx) (pins:List (Addr × Obj)) (D:Ends) (f:Flow) (s':Shared):Prop :=
  match f with
  | .next=>∃ σ' H',Inv X pins σ' H' s'∧D.nx σ' H'
  | .brk=>∃ σ' H',Inv X pins σ' H' s'∧D.bk σ' H'
  | .cont=>∃ σ' H',Inv X pins σ' H' s'∧D.ct σ' H'
  | .ret u=>∃ v σ' H',Inv X pins σ' H' s'∧RelV v u∧D.rt v H'
def PE (X:Cx) (e:Expr) (t:TE):Prop :=
  ∀ (pins:List (Addr × Obj)) (s:Shared) (σ:St) (H:Hp) (Q:VK),Inv X pins σ H s→t σ H Q→wpAny (model X.prog X.w) X.A (eval e X.env) (EP X pins σ Q) X.xe s
def PT (X:Cx) (e:Expr) (t:TT):Prop :=
  ∀ (pins:List (Addr × Obj)) (s:Shared) (σ:St) (H:Hp) (Q:Bool→Hp→Prop),Inv X pins σ H s→t σ H Q→wpAny (model X.prog X.w) X.A (isTrue e X.env (eval e X.env)) (TP X pins σ Q) X.xe s
def PW (X:Cx) (e:Expr) (t:TT):Prop :=
  ∀ (whole:Sem Value) (pins:List (Addr × Obj)) (s:Shared) (σ:St) (H:Hp) (Q:Bool→Hp→Prop),Inv X pins σ H s→t σ H Q→wpAny (model X.prog X.w) X.A (isTrue e X.env whole) (TP X pins σ Q) X.xe s
theorem PW.pt {X:Cx} {e:Expr} {t:TT} (h:PW X e t):PT X e t:=h _
def PA (X:Cx) (es:List Expr) (t:TA):Prop :=
  ∀ (pos:Pos) (pins:List (Addr × Obj)) (s:Shared) (σ:St) (H:Hp) (Q:List V→Hp→Prop),Inv X pins σ H s→t σ H Q→wpAny (model X.prog X.w) X.A (spliced (backTo pos (starEach es X.env))) (AP X pins σ Q) X.xe s
def PS (X:Cx) (st:Stmt) (t:TS):Prop :=
  ∀ (pins:List (Addr × Obj)) (s:Shared) (σ:St) (H:Hp) (D:Ends),Inv X pins σ H s→t D σ H→wpAny (model X.prog X.w) X.A (exec st X.env) (SP X pins D) X.xe s
def PSs (X:Cx) (st:List Stmt) (t:TS):Prop :=
  ∀ (pins:List (Addr × Obj)) (s:Shared) (σ:St) (H:Hp) (D:Ends),Inv X pins σ H s→t D σ H→wpAny (model X.prog X.w) X.A (execs st X.env) (SP X pins D) X.xe s
theorem thn {α:Type} {t:Sem α} {Q Q':α→Shared→Prop} {M:Model} {A:Around} {E:Value→Shared→Prop} {s:Shared} (h:wpAny M A t Q E s) (hQ:∀ a s,Q a s→Q' a s):wpAny M A t Q' E s:=wpAny_mono h hQ fun _ _ x=>x
end L2
namespace L2
open PySem PySem.Spec PyProof.Rows
section
variable {X:Cx}
def xR (i:Nat):TE:=fun σ H Q=>∃ v,σ[i]? = some (some v)∧Q v H
def tC (v:V):TE:=fun _ H Q=>Q v H
theorem pe_var {i:Nat} {x:Str} {pos:Pos} (hN:X.N[i]? = some x) (hv:Vis X.env.scope x) (hd:(x == ("__debug__":Str)) = false:=by decide) (hcd:(x == ("__classdict__":Str)) = false:=by decide):PE X (.Name x pos) (xR i):=by
  intro pins s σ H Q I h
  obtain ⟨v,e,h⟩:=h
  obtain ⟨m,hn,hl⟩:=I.loc
  obtain ⟨u,r,l⟩:=hl i x v hN e hv
  have fin:EP X pins σ Q u s:=⟨v,H,I,r,h⟩
  rcases l with ⟨hk,hm⟩ | ⟨hk,c,hc,hcell⟩
  · exact wpAny_Name (wpAny_loadName_local I.ok.kind hk hn hm fin) hd
  · rcases hk with hk | hk
    · exact wpAny_Name (wpAny_loadName_cell I.ok.kind hk hc hcell fin) hd
    · exact wpAny_Name (wpAny_loadName_free I.ok.kind hk hc hcell fin hcd) hd
theorem pe_int {i j pos}:PE X (.Constant (.int i) j pos) (tC (.int i)):=fun _ _ _ H _ I h=>wpAny_Constant_int ⟨.int i,H,I.tok _,⟨_,rfl⟩,h⟩
theorem pe_bl {b j pos}:PE X (.Constant (.bool b) j pos) (tC (.bl b)):=fun _ _ _ H _ I h=>Constant_bool ⟨.bl b,H,I,rfl,h⟩
theorem aek {j pos}:PE X (.Constant .none j pos) (tC .non):=fun _ _ _ H _ I h=>Constant_none ⟨.non,H,I,rfl,h⟩
theorem pe_str {x j pos}:PE X (.Constant (.str x) j pos) (tC (.str x)):=fun _ _ _ H _ I h=>Calls.Constant_str ⟨.str x,H,I.tok _,⟨_,rfl⟩,h⟩
def Gl (X:Cx) (x:Str):Prop:=X.env.kindOf x = some .globalImplicit
theorem t7 {E:Value→Shared→Prop} {pins:List (Addr × Obj)} {s:Shared} {σ:St} {H:Hp} {x:Str} {u:Value} {pos:Pos} {Q:Value→Shared→Prop} (I:Inv X pins σ H s) (hg:Gl X x) (hm:X.mg x = some u) (h:Q u s)
    (hd:(x == ("__debug__":Str)) = false:=by decide):wpAny (model X.prog X.w) X.A (eval (.Name x pos) X.env) Q E s :=
  Calls.Name_function_global I.ok.kind hg (Calls.loadGlobal_global (by rw [I.ok.glob]; exact I.mod.glob.keeps I.bk) hm h) hd
theorem PQ {E:Value→Shared→Prop} {pins:List (Addr × Obj)} {s:Shared} {σ:St} {H:Hp} {x:Str} {u:Value} {pos:Pos} {Q:Value→Shared→Prop} (I:Inv X pins σ H s) (hg:Gl X x) (hm:X.mg x = none) (hv:bootBuiltins x = some u) (h:Q u s)
    (hn:x ≠ "__name__":=by decide) (hd:(x == ("__debug__":Str)) = false:=by decide):wpAny (model X.prog X.w) X.A (eval (.Name x pos) X.env) Q E s:=by
  obtain ⟨mb,h1,h2⟩:=I.mod.blt
  exact Calls.Name_function_global I.ok.kind hg (Calls.loadGlobal_builtin (by rw [I.ok.glob]; exact I.mod.glob.keeps I.bk) hm (by rw [I.ok.blt]; exact h1.keeps I.bk) ((h2 x hn).trans hv) h) hd
theorem Gu {x:Str} {v:V} {u:Value} {pos:Pos} (hg:Gl X x) (hm:X.mg x = some u) (r:RelV v u) (hd:(x == ("__debug__":Str)) = false:=by decide):PE X (.Name x pos) (tC v) :=
  fun _ _ _ H _ I h=>t7 I hg hm ⟨v,H,I,r,h⟩ hd
theorem oA {x:Str} {v:V} {u:Value} {pos:Pos} (hg:Gl X x) (hm:X.mg x = none) (hv:bootBuiltins x = some u) (r:RelV v u) (hn:x ≠ "__name__":=by decide) (hd:(x == ("__debug__":Str)) = false:=by decide):PE X (.Name x pos) (tC v) :=
  fun _ _ _ H _ I h=>PQ I hg hm hv ⟨v,H,I,r,h⟩ hn hd
variable {a b:Expr} {ta tb:TE} {pos:Pos}
variable {tA tB':TT} {rest:List Expr}
def tAnd (t u:TT):TT:=fun σ H Q=>t σ H fun c H1=>if c = true then u σ H1 Q else Q false H1
def tOr (t u:TT):TT:=fun σ H Q=>t σ H fun c H1=>if c = true then Q true H1 else u σ H1 Q
def tNot (t:TT):TT:=fun σ H Q=>t σ H fun c H1=>Q (!c) H1
theorem pw_and1 (ha:PT X a tA):PW X (.BoolOp .And [a] pos) tA:=by
  intro wh pins s σ H Q I h
  refine isTrue_and (thn (ha pins s σ H Q I h) fun c s1 e=>?_)
  cases c with
  | true=>exact isTrue_and_nil e
  | false=>exact e
theorem pw_or1 (ha:PT X a tA):PW X (.BoolOp .Or [a] pos) tA:=by
  intro wh pins s σ H Q I h
  refine isTrue_or (thn (ha pins s σ H Q I h) fun c s1 e=>?_)
  cases c with
  | false=>exact isTrue_or_nil e
  | true=>exact e
theorem pw_and (ha:PT X a tA) (hb:PW X (.BoolOp .And (b :: rest) pos) tB'):PW X (.BoolOp .And (a :: b :: rest) pos) (tAnd tA tB'):=by
  intro wh pins s σ H Q I h
  refine isTrue_and (thn (ha pins s σ H _ I h) fun c s1 ⟨H1,I1,q1⟩=>?_)
  cases c with
  | true=>exact hb wh pins s1 σ H1 Q I1 q1
  | false=>exact ⟨H1,I1,q1⟩
theorem pw_or (ha:PT X a tA) (hb:PW X (.BoolOp .Or (b :: rest) pos) tB'):PW X (.BoolOp .Or (a :: b :: rest) pos) (tOr tA tB'):=by
  intro wh pins s σ H Q I h
  refine isTrue_or (thn (ha pins s σ H _ I h) fun c s1 ⟨H1,I1,q1⟩=>?_)
  cases c with
  | true=>exact ⟨H1,I1,q1⟩
  | false=>exact hb wh pins s1 σ H1 Q I1 q1
theorem pt_not (ha:PT X a tA):PT X (.UnaryOp .Not a pos) (tNot tA):=by
  intro pins s σ H Q I h
  exact isTrue_not (ha pins s σ H (fun c H1=>Q (!c) H1) I h)
def tAndV (ta tb:TE):TE:=fun σ H Q=>ta σ H fun x H1=>∃ c,x = .bl c∧if c = true then tb σ H1 Q else Q (.bl false) H1
def tOrV (ta tb:TE):TE:=fun σ H Q=>ta σ H fun x H1=>∃ c,x = .bl c∧if c = true then Q (.bl true) H1 else tb σ H1 Q
def tNotV (ta:TE):TE:=fun σ H Q=>ta σ H fun x H1=>∃ c,x = .bl c∧Q (.bl (!c)) H1
theorem pe_one {op} {t:TE} (h:PE X a t):PE X (.BoolOp op [a] pos) t:=fun pins s σ H Q I hw=>BoolOp_one (h pins s σ H Q I hw)
theorem pe_and (ha:PE X a ta) (hb:PE X (.BoolOp .And (b :: rest) pos) tb):PE X (.BoolOp .And (a :: b :: rest) pos) (tAndV ta tb):=by
  intro pins s σ H Q I h
  refine BoolOp_and (thn (ha pins s σ H _ I h) fun v s1 ⟨x,H1,I1,r1,q1⟩=>?_)
  obtain ⟨c,rfl,q1⟩:=q1
  cases r1
  refine wpAny_truthy_bool ?_
  cases c with
  | true=>exact hb pins s1 σ H1 Q I1 q1
  | false=>exact ⟨.bl false,H1,I1,rfl,q1⟩
theorem pe_or (ha:PE X a ta) (hb:PE X (.BoolOp .Or (b :: rest) pos) tb):PE X (.BoolOp .Or (a :: b :: rest) pos) (tOrV ta tb):=by
  intro pins s σ H Q I h
  refine BoolOp_or (thn (ha pins s σ H _ I h) fun v s1 ⟨x,H1,I1,r1,q1⟩=>?_)
  obtain ⟨c,rfl,q1⟩:=q1
  cases r1
  refine wpAny_truthy_bool ?_
  cases c with
  | false=>exact hb pins s1 σ H1 Q I1 q1
  | true=>exact ⟨.bl true,H1,I1,rfl,q1⟩
theorem pe_not (ha:PE X a ta):PE X (.UnaryOp .Not a pos) (tNotV ta):=by
  intro pins s σ H Q I h
  refine UnaryOp_ (thn (ha pins s σ H _ I h) fun v s1 ⟨x,H1,I1,r1,q1⟩=>?_)
  obtain ⟨c,rfl,q1⟩:=q1
  cases r1
  exact not_of (wpAny_truthy_bool ⟨.bl (!c),H1,I1,rfl,q1⟩)
end
end L2
namespace L2
open PySem PySem.Spec PyProof.Rows
def SqL (K:PySem.W.Frag) (H:Hp) (a:Addr) (xs:List V):Prop :=
  Rd H a (.lst xs) ∨
    ∃ (o:Obj) (its:Array Value) (n:Nat),K.lookup a = some o∧o.cls = .type "list"∧o.dict = none∧o.data = .seq its n∧its.size ≤ sizeLine∧Vals xs its.toList
def SqT (K:PySem.W.Frag) (H:Hp) (a:Addr) (xs:List V):Prop :=
  Rd H a (.tup xs) ∨
    ∃ (o:Obj) (its:Array Value) (n:Nat),K.lookup a = some o∧o.cls = .type "tuple"∧o.data = .seq its n∧its.size ≤ sizeLine∧Vals xs its.toList
def absV:Value→Option V
  | .none=>some .non
  | .bool b=>some (.bl b)
  | .int i _=>some (.int i)
  | .str x _=>some (.str x)
  | .bytes b _=>some (.byt b)
  | .float b _=>some (.flt b)
  | .ref a=>some (.ref a)
  | .type n=>some (.ty n)
  | _=>none
theorem RelV.abs {x:V} {u:Value} (r:RelV x u):absV u = some x:=by
  cases x with
  | non=>cases r; rfl
  | bl _=>cases r; rfl
  | int _=>obtain ⟨t,rfl⟩:=r; rfl
  | str _=>obtain ⟨t,rfl⟩:=r; rfl
  | byt _=>obtain ⟨t,rfl⟩:=r; rfl
  | flt _=>obtain ⟨t,rfl⟩:=r; rfl
  | ref _=>cases r; rfl
  | ty _=>cases r; rfl
theorem RelV.inj {x y:V} {u:Value} (r:RelV x u) (q:RelV y u):x = y:=Option.some.inj (r.abs.symm.trans q.abs)
theorem Vals.inj:∀ {xs ys:List V} {us:List Value},Vals xs us→Vals ys us→xs = ys
  | _,_,_,.nil,.nil=>rfl
  | _,_,_,.cons r t,.cons r' t'=>by rw [r.inj r',Vals.inj t t']
section
variable {X:Cx} {pins:List (Addr × Obj)} {σ:St} {H:Hp} {s:Shared} {a:Addr} {xs ys:List V}
theorem SqL.of {K:PySem.W.Frag} (h:H a = some (.lst xs)):SqL K H a xs:=.inl (.inl h)
theorem SqT.of {K:PySem.W.Frag} (h:H a = some (.tup xs)):SqT K H a xs:=.inl (.inl h)
theorem Inv.list (I:Inv X pins σ H s) (h:SqL X.K H a xs):∃ its:List Value,Vals xs its∧PlainL s.heap a its.toArray∧xs.length ≤ sizeLine:=by
  rcases h with h | ⟨o,its,n,hk,hc,hd,hs,hz,r⟩
  · obtain ⟨z,its,n,r,e⟩:=h.ok I.hok
    exact ⟨its,r,⟨_,n,e,rfl,rfl,rfl⟩,z⟩
  · refine ⟨its.toList,r,⟨o,n,I.kIn a o hk,hc,hd,by simpa using hs⟩,?_⟩
    have e:=r.length
    simp only [Array.length_toList] at e
    omega
theorem Inv.tuple (I:Inv X pins σ H s) (h:SqT X.K H a xs):∃ its:List Value,Vals xs its∧IsTup s.heap a its.toArray∧xs.length ≤ sizeLine:=by
  rcases h with h | ⟨o,its,n,hk,hc,hs,hz,r⟩
  · obtain ⟨z,its,r,p⟩:=h.ok I.hok
    exact ⟨its,r,p,z⟩
  · refine ⟨its.toList,r,⟨o,I.kIn a o hk,hc,n,by simpa using hs⟩,?_⟩
    have e:=r.length
    simp only [Array.length_toList] at e
    omega
theorem Inv.ab0 (I:Inv X pins σ H s) (h:SqL X.K H a xs) (h':SqL X.K H a ys):xs = ys:=by
  obtain ⟨its,r,⟨o,n,e,_,_,d⟩,_⟩:=I.list h
  obtain ⟨its',r',⟨o',n',e',_,_,d'⟩,_⟩:=I.list h'
  rw [e] at e'; cases e'
  rw [d] at d'
  injection d' with d1 _
  have:its = its':=by simpa using congrArg Array.toList d1
  subst this
  exact r.inj r'
theorem Inv.af6 (I:Inv X pins σ H s) (h:SqT X.K H a xs) (h':SqT X.K H a ys):xs = ys:=by
  obtain ⟨its,r,⟨o,e,_,n,d⟩,_⟩:=I.tuple h
  obtain ⟨its',r',⟨o',e',_,n',d'⟩,_⟩:=I.tuple h'
  rw [e] at e'; cases e'
  rw [d] at d'
  injection d' with d1 _
  have:its = its':=by simpa using congrArg Array.toList d1
  subst this
  exact r.inj r'
end
abbrev Cx.wish (X:Cx) (E:Value→Shared→Prop):Cx:={ X with xe:=E }
abbrev Cx.nox (X:Cx):Cx:=X.wish fun _ _=>False
theorem Cx.Ok.wish {X:Cx} (ok:X.Ok) (E:Value→Shared→Prop):(X.wish E).Ok :=
  ⟨ok.mod,ok.kind,ok.glob,ok.blt,ok.above,ok.inj,ok.has,ok.cab,ok.hd,ok.frames,ok.stk,ok.exf,ok.bs,ok.bsz,ok.bL,ok.exfs,ok.Bj,ok.frf⟩
theorem Cx.Ok.uP {X:Cx} {E:Value→Shared→Prop} (ok:(X.wish E).Ok):X.Ok :=
  ⟨ok.mod,ok.kind,ok.glob,ok.blt,ok.above,ok.inj,ok.has,ok.cab,ok.hd,ok.frames,ok.stk,ok.exf,ok.bs,ok.bsz,ok.bL,ok.exfs,ok.Bj,ok.frf⟩
section
variable {X:Cx} {pins:List (Addr × Obj)} {σ:St} {H:Hp} {s:Shared} {E:Value→Shared→Prop}
theorem Inv.wish (I:Inv X pins σ H s) (E:Value→Shared→Prop):Inv (X.wish E) pins σ H s:=⟨I.ok.wish E,I.os,I.bare,I.base,I.loc,I.cell,I.free,I.pX,I.pin,I.hok,I.len⟩
theorem Inv.uP (I:Inv (X.wish E) pins σ H s):Inv X pins σ H s:=⟨I.ok.uP,I.os,I.bare,I.base,I.loc,I.cell,I.free,I.pX,I.pin,I.hok,I.len⟩
theorem SP.uP {D:Ends} {f:Flow} {s':Shared} (h:SP (X.wish E) pins D f s'):SP X pins D f s':=by
  cases f with
  | next=>obtain ⟨σ',H',I,q⟩:=h; exact ⟨σ',H',I.uP,q⟩
  | brk=>obtain ⟨σ',H',I,q⟩:=h; exact ⟨σ',H',I.uP,q⟩
  | cont=>obtain ⟨σ',H',I,q⟩:=h; exact ⟨σ',H',I.uP,q⟩
  | ret u=>obtain ⟨v,σ',H',I,r,q⟩:=h; exact ⟨v,σ',H',I.uP,r,q⟩
theorem PE.nox {e:Expr} {t:TE} (h:PE X.nox e t):PE X e t:=fun pins s σ H Q I hw =>
  wpAny_mono (h pins s σ H Q (I.wish _) hw) (fun _ _ ⟨v,H',I',r,q⟩=>⟨v,H',I'.uP,r,q⟩) fun _ _ z=>False.elim z
theorem PT.nox {e:Expr} {t:TT} (h:PT X.nox e t):PT X e t:=fun pins s σ H Q I hw =>
  wpAny_mono (h pins s σ H Q (I.wish _) hw) (fun _ _ ⟨H',I',q⟩=>⟨H',I'.uP,q⟩) fun _ _ z=>False.elim z
theorem PSs.nox {st:List Stmt} {t:TS} (h:PSs X.nox st t):PSs X st t:=fun pins s σ H D I hw =>
  wpAny_mono (h pins s σ H D (I.wish _) hw) (fun _ _ q=>q.uP) fun _ _ z=>False.elim z
end
section
variable {X:Cx} {st:Stmt} {rest:List Stmt} {t u:TS} {e:Expr} {te:TE} {pos:Pos}
def tNext:TS:=fun D σ H=>D.nx σ H
def tSeq (t u:TS):TS:=fun D σ H=>t { D with nx:=u D } σ H
theorem pss_nil:PSs X [] tNext:=fun _ _ σ H _ I h=>wpAny_execs_nil ⟨σ,H,I,h⟩
theorem vH (h1:PS X st t) (h2:PSs X rest u):PSs X (st :: rest) (tSeq t u):=by
  intro pins s σ H D I h
  refine wpAny_execs_cons (thn (h1 pins s σ H { D with nx:=u D } I h) fun f s1 q=>?_)
  cases f with
  | next =>
    obtain ⟨σ',H',I',q⟩:=q
    exact h2 pins s1 σ' H' D I' q
  | ret v=>exact q
  | brk=>exact q
  | cont=>exact q
theorem qt (h1:PS X st t):PSs X [st] t:=by
  intro pins s σ H D I h
  refine wpAny_execs_cons (thn (h1 pins s σ H D I h) fun f s1 q=>?_)
  cases f with
  | next=>exact wpAny_execs_nil q
  | ret v=>exact q
  | brk=>exact q
  | cont=>exact q
theorem Inv.quiet {pins:List (Addr × Obj)} {σ:St} {H:Hp} {s:Shared} (I:Inv X pins σ H s):interactive X.env = false:=by simp [interactive,I.ok.kind]
def Ks (te:TE):TS:=fun D σ H=>te σ H fun _ H1=>D.nx σ H1
theorem mR (he:PE X e te) (hs:swapsWith e none pos.line X.env = pure false:=by rfl):PS X (.Expr e pos) (Ks te):=by
  intro pins s σ H D I h
  exact wpAny_Expr_any (thn (he pins s σ H _ I h) fun v s1 ⟨x,H1,I1,r1,q1⟩=>⟨σ,H1,I1,q1⟩) I.quiet hs
def tRet (te:TE):TS:=fun D σ H=>te σ H D.rt
theorem Jo (he:PE X e te):PS X (.Return (some e) pos) (tRet te):=by
  intro pins s σ H D I h
  exact wpAny_Return_some (thn (he pins s σ H _ I h) fun v s1 ⟨x,H1,I1,r1,q1⟩=>⟨x,σ,H1,I1,r1,q1⟩)
def tIfS (c:TT) (t u:TS):TS:=fun D σ H=>c σ H fun b H1=>if b = true then t D σ H1 else u D σ H1
theorem ps_if {c:Expr} {a b:List Stmt} {tc:TT} (hc:PT X c tc) (ha:PSs X a t) (hb:PSs X b u):PS X (.If c a b pos) (tIfS tc t u):=by
  intro pins s σ H D I h
  refine wpAny_If (thn (hc pins s σ H _ I h) fun d s1 ⟨H1,I1,q1⟩=>?_)
  cases d with
  | true=>exact ha pins s1 σ H1 D I1 q1
  | false=>exact hb pins s1 σ H1 D I1 q1
end
abbrev TG:=V→St→Hp→(St→Hp→Prop)→Prop
abbrev TGs:=List V→St→Hp→(St→Hp→Prop)→Prop
def PG (X:Cx) (target:Expr) (t:TG):Prop :=
  ∀ (pins:List (Addr × Obj)) (s:Shared) (σ:St) (H:Hp) (v:V) (u:Value) (Q:St→Hp→Prop),Inv X pins σ H s→RelV v u→t v σ H Q →
    wpAny (model X.prog X.w) X.A (assign target X.env u) (fun _ s'=>∃ σ' H',Inv X pins σ' H' s'∧Q σ' H') X.xe s
def PGs (X:Cx) (ts:List Expr) (t:TGs):Prop :=
  ∀ (pins:List (Addr × Obj)) (s:Shared) (σ:St) (H:Hp) (vs:List V) (us:List Value) (Q:St→Hp→Prop),Inv X pins σ H s→Vals vs us→t vs σ H Q →
    wpAny (model X.prog X.w) X.A (assignInOrder ((assignEach ts X.env).map (·.2)) us) (fun _ s'=>∃ σ' H',Inv X pins σ' H' s'∧Q σ' H') X.xe s
abbrev TSet:=V→V→V→Hp→(Hp→Prop)→Prop
def PSet (X:Cx) (t:TSet):Prop :=
  ∀ (pins:List (Addr × Obj)) (s:Shared) (σ:St) (H:Hp) (o i v:V) (ov iv u:Value) (Q:Hp→Prop),Inv X pins σ H s→RelV o ov→RelV i iv→RelV v u→t o i v H Q →
    wpAny (model X.prog X.w) X.A (setItem ov iv u) (fun _ s'=>∃ H',Inv X pins σ H' s'∧Q H') X.xe s
section
variable {X:Cx} {pos:Pos}
def Ph (i:Nat):TG:=fun v σ H Q=>Q (σ.set i (some v)) H
theorem cP {i:Nat} {x:Str} (hN:X.N.Nodup) (hi:X.N[i]? = some x) (hx:Loc X.env.scope x) (hf:X.fn x = true ∨ X.env.scope.names.lookup x = some .local:=by first | exact .inl rfl | exact .inr rfl | assumption):PG X (.Name x pos) (Ph i):=by
  intro pins s σ H v u Q I r h
  exact wpAny_assign_Name (QW I hN hi hx r (fun s' I'=>⟨_,H,I',h⟩) hf)
def gNil:TGs:=fun vs σ H Q=>vs = []∧Q σ H
def gCons (t:TG) (u:TGs):TGs:=fun vs σ H Q=>∃ v r,vs = v :: r∧t v σ H fun σ' H'=>u r σ' H' Q
theorem pgs_nil:PGs X [] gNil:=by
  intro pins s σ H vs us Q I r h
  obtain ⟨e,h⟩:=h
  subst e
  cases r
  exact assignInOrder_nil ⟨σ,H,I,h⟩
theorem sy {e:Expr} {es:List Expr} {t:TG} {u:TGs} (h1:PG X e t) (h2:PGs X es u)
    (hs:(assignEach (e :: es) X.env).map (·.2) = assign e X.env :: (assignEach es X.env).map (·.2):=by rfl):PGs X (e :: es) (gCons t u):=by
  intro pins s σ H vs us Q I r h
  obtain ⟨v,vr,e1,h⟩:=h
  subst e1
  cases r with
  | cons r rr =>
    rw [hs]
    refine assignInOrder_cons (thn (h1 pins s σ H _ _ _ I r h) fun _ s1 ⟨σ1,H1,I1,q1⟩=>?_)
    exact h2 pins s1 σ1 H1 _ _ Q I1 rr q1
def gTup (K:PySem.W.Frag) (n:Nat) (t:TGs):TG:=fun v σ H Q=>∃ a xs,v = .ref a∧SqT K H a xs∧xs.length = n∧t xs σ H Q
theorem aem {es:List Expr} {k:Nat} {t:TGs} {n:Nat} (hc:X.calm = true) (h:PGs X es t)
    (hn:(assignEach es X.env).length = n:=by rfl) (hst:(assignEach es X.env).findIdx? (·.1) = none:=by rfl):PG X (.Tuple es k pos) (gTup X.K n t):=by
  intro pins s σ H v u Q I r hw
  obtain ⟨a,xs,e1,hq,hl,hw⟩:=hw
  subst e1
  cases r
  obtain ⟨its,rv,ht,hz⟩:=I.tuple hq
  refine assign_Tuple_tuple (I.ok.hd hc) ht (by simp [hn,← hl,rv.length]) hst fun h' hx=>?_
  have I1:Inv X pins σ H { s with heap:=h' }:=I.kept (t':=s.toks) fun b o e=>hx b o (Nat.ne_of_lt (Heap.lt_size e)) e
  exact h pins _ σ H xs _ Q I1 (by simpa using rv) hw
def gSub (to ti:TE) (t:TSet):TG:=fun v σ H Q=>to σ H fun o H1=>ti σ H1 fun i H2=>t o i v H2 fun H3=>Q σ H3
theorem zV {o i:Expr} {to ti:TE} {t:TSet} (ho:PE X o to) (hi:PE X i ti) (hs:PSet X t)
    (ha:∀ v,assign (.Subscript o i pos) X.env v = (do
      let ov ← holding [v] (eval o X.env)
      let iv ← holding [v,ov] (eval i X.env)
      standAt pos
      holding [v,ov,iv] (setItem ov iv v)
      release [v,ov,iv] []):=by intro _; rfl):PG X (.Subscript o i pos) (gSub to ti t):=by
  intro pins s σ H v u Q I r h
  rw [ha]
  refine wpAny_bind (wpAny_holding (thn (ho pins s σ H _ I h) fun ov s1 ⟨x,H1,I1,r1,q1⟩=>?_))
  refine wpAny_bind (wpAny_holding (thn (hi pins s1 σ H1 _ I1 q1) fun iv s2 ⟨y,H2,I2,r2,q2⟩=>?_))
  refine wpAny_bind (wpAny_standAt (wpAny_bind (wpAny_holding (thn (hs pins s2 σ H2 x y v ov iv u _ I2 r1 r2 r q2) fun _ s3 ⟨H3,I3,q3⟩=>?_))))
  exact wpAny_release ⟨σ,H3,I3,q3⟩
def tAsg (te:TE) (g:TG):TS:=fun D σ H=>te σ H fun x H1=>g x σ H1 D.nx
theorem xN {tg e:Expr} {te:TE} {g:TG} (he:PE X e te) (hg:PG X tg g) (hs:swapsWithSole [tg] e pos.line X.env = pure false:=by rfl) (hw:swappedStores [tg] e X.env = pure none:=by rfl)
    (h1:(assignEach [tg] X.env).map (·.2) = [assign tg X.env]:=by rfl):PS X (.Assign [tg] e pos) (tAsg te g):=by
  intro pins s σ H D I h
  refine wpAny_Assign_stores (thn (he pins s σ H _ I h) fun v s1 ⟨x,H1,I1,r1,q1⟩=>?_) hs hw
  rw [h1]
  exact thn (hg pins s1 σ H1 x v _ I1 r1 q1) fun _ s2 q=>q
theorem eG {i:Nat} {x:Str} {e:Expr} {te:TE} {pos':Pos} (hN:X.N.Nodup) (hi:X.N[i]? = some x) (hx:Loc X.env.scope x) (he:PE X e te) (hs:swapsWith e (some (.Name x pos')) pos.line X.env = pure false:=by rfl) (hf:X.fn x = true ∨ X.env.scope.names.lookup x = some .local:=by first | exact .inl rfl | exact .inr rfl | assumption) :
    PS X (.Assign [.Name x pos'] e pos) (tAsg te (Ph i)):=by
  intro pins s σ H D I h
  refine wpAny_Assign_Name (thn (he pins s σ H _ I h) fun v s1 ⟨y,H1,I1,r1,q1⟩=>?_) hs
  exact QW I1 hN hi hx r1 (fun s2 I2=>⟨_,H1,I2,q1⟩) hf
end
section
variable {X:Cx} {pos:Pos}
end
structure It where
  go:Nat→Hp→Prop
  yld:Nat→Hp→V→Hp→Prop
  stop:Nat→Hp→Prop
def Ku (X:Cx) (pins:List (Addr × Obj)) (H:Hp) (b:Addr):Prop :=
  H b = none∧b ≠ X.env.locals∧b ∉ X.fs∧(b ∈ X.ex ∨ X.s₀.heap.objs.size ≤ b)∧(∀ x c,X.env.cells.lookup x = some c→c ≠ b)∧∀ p ∈ X.pn ++ pins,p.1 ≠ b
theorem Inv.fpOk {X:Cx} {pins:List (Addr × Obj)} {σ:St} {H H':Hp} {s:Shared} {b:Addr} (I:Inv X pins σ H s) (hb:s.heap.objs.size ≤ b) (hn:H' b = none):Ku X pins H' b:=by
  refine ⟨hn,Nat.ne_of_gt (Nat.lt_of_lt_of_le I.lt hb),I.nofs hb,.inr (Nat.le_trans I.sz hb),fun x c e z=>?_,fun p hp z=>?_⟩
  · obtain ⟨v,q⟩:=I.cell x c e
    exact absurd (Nat.lt_of_lt_of_le q.lt (by rw [z]; exact hb)) (Nat.lt_irrefl _)
  · exact absurd (Nat.lt_of_lt_of_le (Heap.lt_size (I.pin p hp).1) (by rw [z]; exact hb)) (Nat.lt_irrefl _)
structure Turn (P:Program) (w:World) (K:PySem.W.Frag) (tg:Expr) (J:It) (fp:List Addr) (it:Addr) (tn:Nat→Heap→Prop):Prop where
  mem:it ∈ fp
  obj:∀ i h,tn i h→∀ b ∈ fp,∃ o,h.get? b = some o∧∀ v,o.data ≠ .cell v
  keep:∀ i h h',tn i h→(∀ b ∈ fp,∀ o,h.get? b = some o→h'.get? b = some o)→tn i h'
  item:∀ (X:Cx),X.prog = P→X.w = w→X.K = K→X.calm = true→∀ (i:Nat) (pins:List (Addr × Obj)) (s:Shared) (σ:St) (H:Hp) (E:Value→Shared→Prop),Inv X pins σ H s→(∀ b ∈ fp,Ku X pins H b)→tn i s.heap→J.go i H →
    wpAny (model P w) X.A (pyNext (.ref it)) (fun r s1=>∃ u,r = some u ∧
      wpAny (model P w) X.A (letOwnedTupleGo tg (.ref it) u) (fun _ s2=>∃ x H',Inv X pins σ H' s2∧RelV x u∧J.yld i H x H'∧tn (i + 1) s2.heap∧∀ b ∈ fp,H' b = none) E s1) E s
  done:∀ (X:Cx),X.prog = P→X.w = w→X.K = K→X.calm = true→∀ (i:Nat) (pins:List (Addr × Obj)) (s:Shared) (σ:St) (H:Hp) (E:Value→Shared→Prop),Inv X pins σ H s→(∀ b ∈ fp,Ku X pins H b)→tn i s.heap→J.stop i H →
    wpAny (model P w) X.A (pyNext (.ref it)) (fun r s1=>r = none∧Inv X pins σ H s1) E s
  self:∀ (A:Around) (i:Nat) (s:Shared) (Q:Value→Shared→Prop) (E:Value→Shared→Prop),tn i s.heap→Q (.ref it) s→wpAny (model P w) A (pyIter (.ref it)) Q E s
abbrev TI:=St→Hp→(It→Hp→Prop)→Prop
def PIE (X:Cx) (pins:List (Addr × Obj)) (σ:St) (tg:Expr) (R:It→Hp→Prop) (itv:Value) (s2:Shared):Prop :=
  ∃ (it:Addr) (fp:List Addr) (tn:Nat→Heap→Prop) (J:It) (H':Hp),itv = .ref it∧Inv X pins σ H' s2∧Turn X.prog X.w X.K tg J fp it tn∧tn 0 s2.heap∧(∀ b ∈ fp,Ku X pins H' b)∧R J H'
def PI (X:Cx) (tg iter:Expr) (wi:TI):Prop :=
  ∀ (pins:List (Addr × Obj)) (s:Shared) (σ:St) (H:Hp) (R:It→Hp→Prop),Inv X pins σ H s→wi σ H R →
    wpAny (model X.prog X.w) X.A (eval iter X.env) (fun v s1=>wpAny (model X.prog X.w) X.A (pyIter v) (PIE X pins σ tg R) X.xe s1) X.xe s
theorem abR {M:Model} {A:Around} {E:Value→Shared→Prop} {s:Shared} {tg:Expr} {it:Addr} {u:Value} {o:Obj} {n:String} {vs:Array Value} {Q:Unit→Shared→Prop} (ho:s.heap.get? it = some o) (hc:o.cls = .type n) (hd:o.data = .fields vs)
    (hn:["enumerate","zip","dict_itemiterator","dict_reverseitemiterator","odict_iterator","itertools.zip_longest","itertools.pairwise"].contains n = false) (hQ:Q () s):wpAny M A (letOwnedTupleGo tg (.ref it) u) Q E s:=by
  unfold letOwnedTupleGo
  cases tg <;> first
    | exact wpAny_pure hQ
    | (cases u <;> first
        | exact wpAny_pure hQ
        | (refine wpAny_bind (wpAny_load ho ?_)
           rw [hc,hd]
           show wpAny M A (if (["enumerate","zip","dict_itemiterator","dict_reverseitemiterator","odict_iterator","itertools.zip_longest","itertools.pairwise"].contains n && vs[0]? == some (rawInt _)) = true then _ else _) Q E s
           rw [if_neg (by intro h; rw [hn,Bool.false_and] at h; cases h)]
           exact wpAny_pure hQ))
def Itl (K:PySem.W.Frag) (a:Addr):It :=
  ⟨fun i H=>∃ xs x,SqL K H a xs∧xs[i]? = some x,fun i H x H'=>H' = H∧∀ xs,SqL K H a xs→xs[i]? = some x,fun i H=>∃ xs,SqL K H a xs∧xs.length ≤ i⟩
def Itt (K:PySem.W.Frag) (a:Addr):It :=
  ⟨fun i H=>∃ xs x,SqT K H a xs∧xs[i]? = some x,fun i H x H'=>H' = H∧∀ xs,SqT K H a xs→xs[i]? = some x,fun i H=>∃ xs,SqT K H a xs∧xs.length ≤ i⟩
def Itr (lo:Int) (n:Nat):It:=⟨fun i _=>i < n,fun i H x H'=>H' = H∧x = .int (lo + i),fun i _=>n ≤ i⟩
theorem af8 {P:Program} {w:World} {K:PySem.W.Frag} {tg:Expr} (a it:Addr):Turn P w K tg (Itl K a) [it] it (fun i h=>h.IsListIter it a i) where
  mem:=by simp
  obj:=fun i h st b hb=>by
    have e:b = it:=by simpa using hb
    subst e
    obtain ⟨o,e,c,d⟩:=st
    exact ⟨o,e,fun v z=>by rw [d] at z; cases z⟩
  keep:=fun i h h' st k=>st.at fun o e=>k it (by simp) o e
  item:=by
    intro X hP hw hK hc i pins s σ H E I hf st hg
    subst hP hw hK
    obtain ⟨xs,x,hq,hx⟩:=hg
    obtain ⟨its,rv,p,hz⟩:=I.list hq
    obtain ⟨u,hu,ru⟩:=rv.get hx
    obtain ⟨f0,f1,f2,f3,f4,f5⟩:=hf it (by simp)
    refine wpAny_pyNext_list_item st p.isList (x:=u) (by simpa using hu) fun h' st' sb=>?_
    have I1:Inv X pins σ H { s with heap:=h' }:=I.turned (t':=s.toks) (fun b o hb e=>(sb.2 b hb).trans e) f0 f1 f3 f4 f5
    obtain ⟨o,e,c,d⟩:=id st'
    exact ⟨u,rfl,abR (s:={ s with heap:=h' }) e c d (by decide) ⟨x,H,I1,ru,⟨rfl,fun ys hy=>by rw [I.ab0 hy hq]; exact hx⟩,st',fun b hb=>(hf b hb).1⟩⟩
  done:=by
    intro X hP hw hK hc i pins s σ H E I hf st hg
    subst hP hw hK
    obtain ⟨xs,hq,hx⟩:=hg
    obtain ⟨its,rv,p,hz⟩:=I.list hq
    obtain ⟨f0,f1,f2,f3,f4,f5⟩:=hf it (by simp)
    have hl:=rv.length
    exact wpAny_pyNext_list_end (I.ok.hd hc) st p.isList (by simp; omega) fun h' eb=>⟨rfl,I.turned (t':=s.toks) (fun b o hb e=>eb b o hb e) f0 f1 f3 f4 f5⟩
  self:=fun _ _ _ _ _ st h=>wpAny_pyIter_listiter st h
theorem aeO {P:Program} {w:World} {K:PySem.W.Frag} {tg:Expr} (a it:Addr):Turn P w K tg (Itt K a) [it] it (fun i h=>h.IsTupleIter it a i) where
  mem:=by simp
  obj:=fun i h st b hb=>by
    have e:b = it:=by simpa using hb
    subst e
    obtain ⟨o,e,c,d⟩:=st
    exact ⟨o,e,fun v z=>by rw [d] at z; cases z⟩
  keep:=fun i h h' st k=>st.at fun o e=>k it (by simp) o e
  item:=by
    intro X hP hw hK hc i pins s σ H E I hf st hg
    subst hP hw hK
    obtain ⟨xs,x,hq,hx⟩:=hg
    obtain ⟨its,rv,p,hz⟩:=I.tuple hq
    obtain ⟨u,hu,ru⟩:=rv.get hx
    obtain ⟨f0,f1,f2,f3,f4,f5⟩:=hf it (by simp)
    refine wpAny_pyNext_tuple_item st (show s.heap.IsTuple a its.toArray from p) (x:=u) (by simpa using hu) fun h' st' sb=>?_
    have I1:Inv X pins σ H { s with heap:=h' }:=I.turned (t':=s.toks) (fun b o hb e=>(sb.2 b hb).trans e) f0 f1 f3 f4 f5
    obtain ⟨o,e,c,d⟩:=id st'
    exact ⟨u,rfl,abR (s:={ s with heap:=h' }) e c d (by decide) ⟨x,H,I1,ru,⟨rfl,fun ys hy=>by rw [I.af6 hy hq]; exact hx⟩,st',fun b hb=>(hf b hb).1⟩⟩
  done:=by
    intro X hP hw hK hc i pins s σ H E I hf st hg
    subst hP hw hK
    obtain ⟨xs,hq,hx⟩:=hg
    obtain ⟨its,rv,p,hz⟩:=I.tuple hq
    obtain ⟨f0,f1,f2,f3,f4,f5⟩:=hf it (by simp)
    have hl:=rv.length
    exact wpAny_pyNext_tuple_end (I.ok.hd hc) st (show s.heap.IsTuple a its.toArray from p) (by simp; omega) fun h' eb=>⟨rfl,I.turned (t':=s.toks) (fun b o hb e=>eb b o hb e) f0 f1 f3 f4 f5⟩
  self:=fun _ _ _ _ _ st h=>wpAny_pyIter_tupleiter st h
theorem aeN {P:Program} {w:World} {K:PySem.W.Frag} {tg:Expr} (it:Addr) (lo:Int) (n:Nat):Turn P w K tg (Itr lo n) [it] it (fun i h=>IsRangeIter h it (lo + (i:Nat) * 1) ((n:Int) - (i:Nat)) 1) where
  mem:=by simp
  obj:=fun i h st b hb=>by
    have e:b = it:=by simpa using hb
    subst e
    exact ⟨_,st,fun v z=>by
      have z':Data.fields _ = Data.cell v:=z
      cases z'⟩
  keep:=fun i h h' st k=>k it (by simp) _ st
  item:=by
    intro X hP hw hK hc i pins s σ H E I hf st hg
    subst hP hw hK
    obtain ⟨f0,f1,f2,f3,f4,f5⟩:=hf it (by simp)
    have W:=Walks.range (prog:=X.prog) (w:=X.w) (I.ok.hd hc) it lo 1 n
    refine W.item i s _ _ hg st fun v h' tk hv st' kk=>?_
    obtain ⟨t,rfl⟩:=hv
    have I1:Inv X pins σ H { s with heap:=h',toks:=tk }:=I.turned (fun b o hb e=>kk b o (by simpa using hb) e) f0 f1 f3 f4 f5
    refine ⟨_,rfl,abR (s:={ s with heap:=h',toks:=tk }) (n:="range_iterator") st' rfl rfl (by decide) ⟨.int (lo + i),H,I1,⟨t,?_⟩,⟨rfl,rfl⟩,st',fun b hb=>(hf b hb).1⟩⟩
    rw [Int.mul_one]
  done:=by
    intro X hP hw hK hc i pins s σ H E I hf st hg
    subst hP hw hK
    obtain ⟨f0,f1,f2,f3,f4,f5⟩:=hf it (by simp)
    exact wpAny_pyNext_range_end (I.ok.hd hc) st (by have:n ≤ i:=hg; omega) fun h' eb=>⟨rfl,I.turned (t':=s.toks) (fun b o hb e=>eb b o hb e) f0 f1 f3 f4 f5⟩
  self:=fun _ _ _ _ _ st h=>wpAny_pyIter_rangeiter st h
end L2
namespace L2
open PySem PySem.Spec PyProof.Rows
section
variable {X:Cx} {tg:Expr}
def iList (K:PySem.W.Frag) (tl:TE):TI:=fun σ H R=>tl σ H fun x H1=>∃ a,x = .ref a∧(∃ xs,SqL K H1 a xs)∧R (Itl K a) H1
def iTup (K:PySem.W.Frag) (tl:TE):TI:=fun σ H R=>tl σ H fun x H1=>∃ a,x = .ref a∧(∃ xs,SqT K H1 a xs)∧R (Itt K a) H1
theorem pi_list {l:Expr} {tl:TE} (hl:PE X l tl):PI X tg l (iList X.K tl):=by
  intro pins s σ H R I h
  refine thn (hl pins s σ H _ I h) fun v s1 ⟨x,H1,I1,r1,q1⟩=>?_
  obtain ⟨a,e,⟨xs,hq⟩,q⟩:=q1
  subst e
  cases r1
  obtain ⟨its,rv,p,hz⟩:=I1.list hq
  refine wpAny_pyIter_list p.isList ?_
  refine ⟨s1.heap.objs.size,[s1.heap.objs.size],_,_,H1,rfl,I1.kept (t':=s1.toks) fun b o e=>Heap.get?_push_of_some _ e,af8 a _,⟨_,Heap.get?_push_size _ rfl,rfl,rfl⟩,fun b hb=>?_,q⟩
  have e:b = s1.heap.objs.size:=by simpa using hb
  subst e
  exact I1.fpOk (Nat.le_refl _) (I1.hok.fresh (Nat.le_refl _))
theorem pi_tup {l:Expr} {tl:TE} (hl:PE X l tl):PI X tg l (iTup X.K tl):=by
  intro pins s σ H R I h
  refine thn (hl pins s σ H _ I h) fun v s1 ⟨x,H1,I1,r1,q1⟩=>?_
  obtain ⟨a,e,⟨xs,hq⟩,q⟩:=q1
  subst e
  cases r1
  obtain ⟨its,rv,p,hz⟩:=I1.tuple hq
  refine wpAny_pyIter_tuple (show s1.heap.IsTuple a its.toArray from p) ?_
  refine ⟨s1.heap.objs.size,[s1.heap.objs.size],_,_,H1,rfl,I1.kept (t':=s1.toks) fun b o e=>Heap.get?_push_of_some _ e,aeO a _,⟨_,Heap.get?_push_size _ rfl,rfl,rfl⟩,fun b hb=>?_,q⟩
  have e:b = s1.heap.objs.size:=by simpa using hb
  subst e
  exact I1.fpOk (Nat.le_refl _) (I1.hok.fresh (Nat.le_refl _))
theorem range_it {pins:List (Addr × Obj)} {σ:St} {H:Hp} {s:Shared} {R:It→Hp→Prop} {E:Value→Shared→Prop} {lo hi:Int} {t u v:Tok} {tk:Nat} (I:Inv X pins σ H s) (h1:-(2 ^ 62) ≤ lo) (h2:lo < 2 ^ 62) (h3:-(2 ^ 62) ≤ hi) (h4:hi < 2 ^ 62)
    (q:R (Itr lo (hi - lo).toNat) H):wpAny (model X.prog X.w) X.A (pyIter (.ref s.heap.objs.size)) (PIE X pins σ tg R) E { s with heap:=s.heap.push { cls:=.type "range",data:=.fields #[.int lo t,.int hi u,.int 1 v] },toks:=tk }:=by
  refine wpAny_pyIter_range (IsRange.new ..) (small_one h1 h2 h3 h4) ?_
  have I1:Inv X pins σ H { s with heap:=s.heap.push { cls:=.type "range",data:=.fields #[.int lo t,.int hi u,.int 1 v] },toks:=tk }:=I.kept fun b o e=>Heap.get?_push_of_some _ e
  refine ⟨(s.heap.push { cls:=.type "range",data:=.fields #[.int lo t,.int hi u,.int 1 v] }).objs.size,[(s.heap.push { cls:=.type "range",data:=.fields #[.int lo t,.int hi u,.int 1 v] }).objs.size],_,_,H,rfl,
    I1.kept (t':=tk) fun b o e=>Heap.get?_push_of_some _ e,aeN _ lo (hi - lo).toNat,?_,fun b hb=>?_,q⟩
  · have e1:lo + ((0:Nat):Int) * 1 = lo:=by simp
    have e2:(((hi - lo).toNat:Nat):Int) - ((0:Nat):Int) = Builtin.Range.rangeSize lo hi 1:=by rw [rangeSize_one]; split <;> omega
    show IsRangeIter _ _ (lo + ((0:Nat):Int) * 1) ((((hi - lo).toNat:Nat):Int) - ((0:Nat):Int)) 1
    rw [e1,e2]
    exact Heap.get?_push_size _ rfl
  · have e:b = (s.heap.push { cls:=.type "range",data:=.fields #[.int lo t,.int hi u,.int 1 v] }).objs.size:=by simpa using hb
    subst e
    exact I1.fpOk (Nat.le_refl _) (I1.hok.fresh (Nat.le_refl _))
def iRng1 (ta:TA):TI:=fun σ H R=>ta σ H fun vs H1=>∃ j:Int,vs = [.int j]∧-(2 ^ 62) ≤ j∧j < 2 ^ 62∧R (Itr 0 j.toNat) H1
theorem afV {a:Expr} {ta:TA} {p pos:Pos} (hg:Gl X "range") (hm:X.mg "range" = none) (ha:PA X [a] ta) (hs:starEach [a] X.env = [(false,eval a X.env)]:=by rfl):PI X tg (.Call (.Name "range" p) [a] [] pos) (iRng1 ta):=by
  intro pins s σ H R I h
  refine Call_ (PQ I hg hm boot_range (PyProof.Rows.callWith_type1 (thn (ha pos pins s σ H _ I h) fun us s1 ⟨vs,H1,I1,r1,q1⟩=>?_) hs rfl))
  obtain ⟨j,e,q1,q2,q⟩:=q1
  subst e
  cases r1 with
  | cons r rr =>
    cases rr
    obtain ⟨t,rfl⟩:=r
    exact call_range_1 (range_it I1 (by omega) (by omega) q1 q2 (by simpa using q))
def tFor (wi:TI) (g:TG) (tb:TS):TS:=fun D σ H=>wi σ H fun J H1=>∃ W:Nat→Nat→St→Hp→Prop,(∃ m,W 0 m σ H1)∧∀ i m σ H,W i m σ H →
  (J.stop i H∧D.nx σ H) ∨ (J.go i H∧∃ N:St→Hp→Prop,(∀ σ' H',N σ' H'→∃ m',m' < m∧W (i + 1) m' σ' H')∧∀ x H',J.yld i H x H'→g x σ H' fun σ2 H2=>tb { D with nx:=N,ct:=N,bk:=D.nx } σ2 H2)
def Qv (fp:List Addr) (h:Heap):List (Addr × Obj):=fp.filterMap fun b=>(h.get? b).map fun o=>(b,o)
theorem xK {fp:List Addr} {h:Heap} {b:Addr} {o:Obj} (hb:b ∈ fp) (e:h.get? b = some o):(b,o) ∈ Qv fp h:=List.mem_filterMap.mpr ⟨b,hb,by rw [e]; rfl⟩
theorem afS {fp:List Addr} {h:Heap} {p:Addr × Obj} (hp:p ∈ Qv fp h):p.1 ∈ fp∧h.get? p.1 = some p.2:=by
  obtain ⟨b,hb,e⟩:=List.mem_filterMap.mp hp
  cases q:h.get? b with
  | none=>rw [q] at e; cases e
  | some o =>
    rw [q] at e
    have e':(b,o) = p:=Option.some.inj e
    subst e'
    exact ⟨hb,q⟩
theorem Inv.pinned {pins:List (Addr × Obj)} {σ:St} {H:Hp} {s:Shared} {fp:List Addr} (I:Inv X pins σ H s) (hf:∀ b ∈ fp,Ku X pins H b) (ho:∀ b ∈ fp,∃ o,s.heap.get? b = some o∧∀ v,o.data ≠ .cell v):Inv X (pins ++ Qv fp s.heap) σ H s :=
  I.afi fun p hp=>(List.mem_append.mp hp).elim (fun z=>I.pin p (List.mem_append_right _ z)) fun z=>by
    obtain ⟨hb,e⟩:=afS z
    obtain ⟨f0,f1,f2,_⟩:=hf p.1 hb
    obtain ⟨o,e',d⟩:=ho p.1 hb
    rw [e] at e'; cases e'
    exact ⟨e,f0,f1,f2,d⟩
theorem Inv.GX {pins pl:List (Addr × Obj)} {σ:St} {H:Hp} {s:Shared} (I:Inv X (pins ++ pl) σ H s):Inv X pins σ H s:=I.afi fun p hp=>I.pin p (List.mem_append_right _ (List.mem_append_left _ hp))
theorem Jm {iter:Expr} {body:List Stmt} {wi:TI} {g:TG} {tb:TS} {pos:Pos} (hp:PassesOwn (model X.prog X.w) X.A X.env X.xe) (hc:X.calm = true) (hi:PI X tg iter wi) (hg:PG X tg g) (hb:PSs X body tb)
    (hs:∀ x,foldedSetIterable iter X.env x = pure x:=by intro _; rfl):PS X (.For tg iter body [] pos) (tFor wi g tb):=by
  intro pins s σ H D I h
  refine wpAny_For (thn (hi pins s σ H _ I h) fun v s1 h1=>thn h1 fun itv s2 h2=>?_) hs
  obtain ⟨it,fp,tn,J,H2,e,I2,T,st2,f2,W,⟨m0,w0⟩,turn⟩:=h2
  subst e
  have stat:∀ {H':Hp},(∀ b ∈ fp,H' b = none)→∀ b ∈ fp,Ku X pins H' b:=fun hn b hb=>⟨hn b hb,(f2 b hb).2⟩
  refine codeAny_forLoop_any (fun n s'=>∃ i σ' H',Inv X pins σ' H' s'∧tn i s'.heap∧(∀ b ∈ fp,H' b = none)∧W i n σ' H') ?_ m0 ⟨0,σ,H2,I2,st2,fun b hb=>(f2 b hb).1,w0⟩
  rintro n s3 ⟨i,σ3,H3,I3,st3,fr3,w3⟩
  rcases turn i n σ3 H3 w3 with ⟨stop,qn⟩ | ⟨go,N,hN,step⟩
  · refine wpAny_passesOwn hp (thn (T.done X rfl rfl rfl hc i pins s3 σ3 H3 X.xe I3 (stat fr3) st3 stop) fun r s4 ⟨hr,I4⟩=>?_)
    subst hr
    exact wpAny_execs_nil ⟨σ3,H3,I4,qn⟩
  · refine wpAny_passesOwn hp (thn (T.item X rfl rfl rfl hc i pins s3 σ3 H3 X.xe I3 (stat fr3) st3 go) fun r s4 ⟨u,hr,h4⟩=>?_)
    subst hr
    refine wpAny_passesOwn hp (thn h4 fun _ s5 ⟨x,H5,I5,r5,y5,st5,fr5⟩=>?_)
    have I5':=I5.pinned (stat fr5) (T.obj _ _ st5)
    refine wpAny_passesOwn hp (thn (hg _ s5 σ3 H5 x u _ I5' r5 (step x H5 y5)) fun _ s6 ⟨σ6,H6,I6,q6⟩=>?_)
    refine wpAny_passesOwn hp (thn (hb _ s6 σ6 H6 _ I6 q6) fun f s7 q7=>?_)
    have again:∀ {σ7:St} {H7:Hp},Inv X (pins ++ Qv fp s5.heap) σ7 H7 s7→N σ7 H7→∃ m,m < n∧∃ i σ' H',Inv X pins σ' H' s7∧tn i s7.heap∧(∀ b ∈ fp,H' b = none)∧W i m σ' H':=fun {σ7 H7} I7 n7=>by
      obtain ⟨m',hm,w7⟩:=hN σ7 H7 n7
      refine ⟨m',hm,i + 1,σ7,H7,I7.GX,T.keep _ _ _ st5 fun b hb o e=>(I7.pin (b,o) (List.mem_append_right _ (List.mem_append_right _ (xK hb e)))).1,fun b hb=>?_,w7⟩
      obtain ⟨o,e,d⟩:=T.obj _ _ st5 b hb
      exact (I7.pin (b,o) (List.mem_append_right _ (List.mem_append_right _ (xK hb e)))).2.1
    cases f with
    | next=>obtain ⟨σ7,H7,I7,n7⟩:=q7; exact again I7 n7
    | cont=>obtain ⟨σ7,H7,I7,n7⟩:=q7; exact again I7 n7
    | brk=>obtain ⟨σ7,H7,I7,q7⟩:=q7; exact ⟨σ7,H7,I7.GX,q7⟩
    | ret v=>obtain ⟨x7,σ7,H7,I7,r7,q7⟩:=q7; exact ⟨x7,σ7,H7,I7.GX,r7,q7⟩
end
end L2
namespace L2
open PySem PySem.Spec PyProof.Rows
abbrev R2:=V→V→Hp→VK→Prop
def OpR (X:Cx) (f:Value→Value→Sem Value) (r:R2):Prop :=
  ∀ (pins:List (Addr × Obj)) (s:Shared) (σ:St) (H:Hp) (x y:V) (v u:Value) (Q:VK),Inv X pins σ H s→RelV x v→RelV y u→r x y H Q →
    wpAny (model X.prog X.w) X.A (f v u) (EP X pins σ Q) X.xe s
def UnR (X:Cx) (f:Value→Sem Value) (r:V→Hp→VK→Prop):Prop :=
  ∀ (pins:List (Addr × Obj)) (s:Shared) (σ:St) (H:Hp) (x:V) (v:Value) (Q:VK),Inv X pins σ H s→RelV x v→r x H Q →
    wpAny (model X.prog X.w) X.A (f v) (EP X pins σ Q) X.xe s
def pQ (X:Cx) (f:Value) (r:List V→Hp→VK→Prop):Prop :=
  ∀ (pins:List (Addr × Obj)) (s:Shared) (σ:St) (H:Hp) (xs:List V) (us:List Value) (Q:VK),Inv X pins σ H s→Vals xs us→r xs H Q →
    wpAny (model X.prog X.w) X.A (call f us) (EP X pins σ Q) X.xe s
def TruR (X:Cx) (r:V→Hp→(Bool→Hp→Prop)→Prop):Prop :=
  ∀ (pins:List (Addr × Obj)) (s:Shared) (σ:St) (H:Hp) (x:V) (v:Value) (Q:Bool→Hp→Prop),Inv X pins σ H s→RelV x v→r x H Q →
    wpAny (model X.prog X.w) X.A (truthy v) (TP X pins σ Q) X.xe s
def tOp (r:R2) (ta tb:TE):TE:=fun σ H Q=>ta σ H fun x H1=>tb σ H1 fun y H2=>r x y H2 Q
def tUn (r:V→Hp→VK→Prop) (ta:TE):TE:=fun σ H Q=>ta σ H fun x H1=>r x H1 Q
def rI (C:Int→Int→Prop) (g:Int→Int→V):R2:=fun x y H Q=>∃ i j,x = .int i∧y = .int j∧C i j∧Q (g i j) H
def rI0 (g:Int→Int→V):R2:=fun x y H Q=>∃ i j,x = .int i∧y = .int j∧Q (g i j) H
def rU (g:Int→V):V→Hp→VK→Prop:=fun x H Q=>∃ i,x = .int i∧Q (g i) H
section
variable {X:Cx} {a b c:Expr} {ta tb tc:TE} {pos:Pos}
theorem binT (ha:PE X a ta) (hb:PE X b tb) {pins:List (Addr × Obj)} {s:Shared} {σ:St} {H:Hp} {R:V→V→Hp→Prop} (I:Inv X pins σ H s)
    (h:ta σ H fun x H1=>tb σ H1 fun y H2=>R x y H2) {Q:Value→Shared→Prop} {f:Value→Value→Sem Value}
    (hf:∀ v u s2 x y H2,Inv X pins σ H2 s2→RelV x v→RelV y u→R x y H2→wpAny (model X.prog X.w) X.A (f v u) Q X.xe s2) :
    wpAny (model X.prog X.w) X.A (eval a X.env) (fun v s₁=>wpAny (model X.prog X.w) X.A (eval b X.env) (fun u s₂=>wpAny (model X.prog X.w) X.A (f v u) Q X.xe s₂) X.xe s₁) X.xe s:=by
  refine thn (ha pins s σ H _ I h) fun v s1 ⟨x,H1,I1,r1,q1⟩=>?_
  refine thn (hb pins s1 σ H1 _ I1 q1) fun u s2 ⟨y,H2,I2,r2,q2⟩=>?_
  exact hf v u s2 x y H2 I2 r1 r2 q2
theorem Qt {op:Operator} {r:R2} (ho:OpR X (binaryOp op) r) (ha:PE X a ta) (hb:PE X b tb):PE X (.BinOp a op b pos) (tOp r ta tb):=by
  intro pins s σ H Q I h
  exact wpAny_BinOp (binT ha hb I h fun v u s2 x y H2 I2 rx ry q=>ho pins s2 σ H2 x y v u Q I2 rx ry q)
theorem pe_un {op:UnaryOp} {r:V→Hp→VK→Prop} (ho:UnR X (unaryOp op) r) (ha:PE X a ta):PE X (.UnaryOp op a pos) (tUn r ta):=by
  intro pins s σ H Q I h
  exact UnaryOp_ (thn (ha pins s σ H _ I h) fun v s1 ⟨x,H1,I1,r1,q1⟩=>ho pins s1 σ H1 x v Q I1 r1 q1)
theorem opI {f:Value→Value→Sem Value} {C:Int→Int→Prop} {g:Int→Int→Int}
    (rule:∀ (i j:Int) (t u:Tok) (s:Shared) (Q:Value→Shared→Prop) (E:Value→Shared→Prop),C i j→Q (.int (g i j) s.toks) { s with toks:=s.toks + 1 }→wpAny (model X.prog X.w) X.A (f (.int i t) (.int j u)) Q E s) :
    OpR X f (rI C fun i j=>.int (g i j)):=by
  intro pins s σ H x y v u Q I rx ry h
  obtain ⟨i,j,rfl,rfl,hc,q⟩:=h
  obtain ⟨t,rfl⟩:=rx
  obtain ⟨t',rfl⟩:=ry
  exact rule i j t t' s _ _ hc ⟨.int (g i j),H,I.tok _,⟨_,rfl⟩,q⟩
theorem opI0 {f:Value→Value→Sem Value} {g:Int→Int→Int}
    (rule:∀ (i j:Int) (t u:Tok) (s:Shared) (Q:Value→Shared→Prop) (E:Value→Shared→Prop),Q (.int (g i j) s.toks) { s with toks:=s.toks + 1 }→wpAny (model X.prog X.w) X.A (f (.int i t) (.int j u)) Q E s) :
    OpR X f (rI0 fun i j=>.int (g i j)):=by
  intro pins s σ H x y v u Q I rx ry h
  obtain ⟨i,j,rfl,rfl,q⟩:=h
  obtain ⟨t,rfl⟩:=rx
  obtain ⟨t',rfl⟩:=ry
  exact rule i j t t' s _ _ ⟨.int (g i j),H,I.tok _,⟨_,rfl⟩,q⟩
theorem opB0 {f:Value→Value→Sem Value} {g:Int→Int→Bool}
    (rule:∀ (i j:Int) (t u:Tok) (s:Shared) (Q:Value→Shared→Prop) (E:Value→Shared→Prop),Q (.bool (g i j)) s→wpAny (model X.prog X.w) X.A (f (.int i t) (.int j u)) Q E s) :
    OpR X f (rI0 fun i j=>.bl (g i j)):=by
  intro pins s σ H x y v u Q I rx ry h
  obtain ⟨i,j,rfl,rfl,q⟩:=h
  obtain ⟨t,rfl⟩:=rx
  obtain ⟨t',rfl⟩:=ry
  exact rule i j t t' s _ _ ⟨.bl (g i j),H,I,rfl,q⟩
def CDiv (i j:Int):Prop:=0 < j∧j < 1073741824
def Bb (i j:Int):Prop:=(-(2 ^ 64) < i∧i < 2 ^ 64) ∨ (-(2 ^ 64) < j∧j < 2 ^ 64)
theorem Bb.ok {i j:Int} (h:Bb i j):IntMulOk i j:=by
  rcases h with ⟨h1,h2⟩ | ⟨h1,h2⟩
  · exact .of_left (intBits_le_64 h1 h2)
  · exact .of_right (intBits_le_64 h1 h2)
theorem op_add:OpR X (binaryOp .Add) (rI0 fun i j=>.int (i + j)):=opI0 fun _ _ _ _ _ _ _ q=>add_int q
theorem op_sub:OpR X (binaryOp .Sub) (rI0 fun i j=>.int (i - j)):=opI0 fun _ _ _ _ _ _ _ q=>sub_int q
theorem op_mul:OpR X (binaryOp .Mult) (rI Bb fun i j=>.int (i * j)):=opI fun _ _ _ _ _ _ _ hc q=>mul_int q hc.ok
theorem op_fdiv:OpR X (binaryOp .FloorDiv) (rI CDiv fun i j=>.int (i / j)):=opI fun i j _ _ _ _ _ hc q=>by
  have h1:(0:Int) < j:=hc.1
  have h2:j < 1073741824:=hc.2
  exact floordiv_int (by omega) (by rw [Int.fdiv_eq_ediv_of_nonneg i (by omega)]; exact q) (.inl (PyProof.noPylong_small (by omega)))
theorem op_mod:OpR X (binaryOp .Mod) (rI (fun _ j=>0 < j) fun i j=>.int (i % j)):=opI fun i j _ _ _ _ _ hc q=>by
  have h1:(0:Int) < j:=hc
  exact mod_int' (by omega) (by rw [Int.fmod_eq_emod_of_nonneg i (by omega)]; exact q)
theorem unI {f:Value→Sem Value} {g:Int→Int}
    (rule:∀ (i:Int) (t:Tok) (s:Shared) (Q:Value→Shared→Prop) (E:Value→Shared→Prop),Q (.int (g i) s.toks) { s with toks:=s.toks + 1 }→wpAny (model X.prog X.w) X.A (f (.int i t)) Q E s) :
    UnR X f (rU fun i=>.int (g i)):=by
  intro pins s σ H x v Q I rx h
  obtain ⟨i,rfl,q⟩:=h
  obtain ⟨t,rfl⟩:=rx
  exact rule i t s _ _ ⟨.int (g i),H,I.tok _,⟨_,rfl⟩,q⟩
theorem un_neg:UnR X (unaryOp .USub) (rU fun i=>.int (-i)):=unI fun _ _ _ _ _ q=>neg_int q
end
section
variable {X:Cx} {a b c:Expr} {ta tb tc:TE} {pos:Pos}
theorem fin_bl {pins:List (Addr × Obj)} {σ:St} {H:Hp} {s:Shared} {Q:VK} {k k':Bool} (I:Inv X pins σ H s) (q:Q (.bl k) H) (e:k = k'):EP X pins σ Q (.bool k') s:=by
  subst e
  exact ⟨.bl k,H,I,rfl,q⟩
theorem op_lt:OpR X (compareOp .Lt) (rI0 fun i j=>.bl (decide (i < j))):=opB0 fun _ _ _ _ _ _ _ q=>lt_int q
theorem op_le:OpR X (compareOp .LtE) (rI0 fun i j=>.bl (decide (i ≤ j))):=opB0 fun _ _ _ _ _ _ _ q=>le_int q
theorem afU:OpR X (compareOp .In) (fun x y H Q=>∃ i j,x = .str i∧y = .str j∧Q (.bl (!(Builtin.Str.occurrences j i 0 j.length 1).isEmpty)) H):=by
  intro pins s σ H x y v u Q I rx ry h
  obtain ⟨i,j,rfl,rfl,q⟩:=h
  obtain ⟨t,rfl⟩:=rx
  obtain ⟨t',rfl⟩:=ry
  exact in_str (fin_bl I q rfl)
theorem op_isN:OpR X (compareOp .Is) (fun x y H Q=>y = .non∧Q (.bl (decide (x = .non))) H):=by
  intro pins s σ H x y v u Q I rx ry h
  obtain ⟨rfl,q⟩:=h
  cases ry
  refine is_none_gen (fin_bl I q ?_)
  cases x <;> first
    | (cases rx; rfl)
    | (obtain ⟨t,rfl⟩:=rx; rfl)
theorem OpR.or {f:Value→Value→Sem Value} {r r':R2} (h:OpR X f r) (h':OpR X f r'):OpR X f (fun x y H Q=>r x y H Q ∨ r' x y H Q):=by
  intro pins s σ H x y v u Q I rx ry q
  rcases q with q | q
  · exact h pins s σ H x y v u Q I rx ry q
  · exact h' pins s σ H x y v u Q I rx ry q
theorem Qf (b:Expr) {op:CmpOp} (h:op ≠ .In:=by decide) (h2:op ≠ .NotIn:=by decide):behindInMarks op b = false:=by
  have e1:(op == CmpOp.In) = false:=by cases op <;> first | rfl | exact absurd rfl h
  have e2:(op == CmpOp.NotIn) = false:=by cases op <;> first | rfl | exact absurd rfl h2
  cases b <;> simp [behindInMarks,e1,e2]
theorem ZD {op:CmpOp} {r:R2} (ho:OpR X (compareOp op) r) (ha:PE X a ta) (hb:PE X b tb) (hm:behindInMarks op b = false):PE X (.Compare a [op] [b] pos) (tOp r ta tb):=by
  intro pins s σ H Q I h
  exact wpAny_Compare1 (binT ha hb I h fun v u s2 x y H2 I2 rx ry q=>ho pins s2 σ H2 x y v u Q I2 rx ry q) hm
def tTest (t:TE):TT:=fun σ H Q=>t σ H fun x H'=>∃ k,x = .bl k∧Q k H'
theorem Z9 {op:CmpOp} {r:R2} (ho:OpR X (compareOp op) r) (ha:PE X a ta) (hb:PE X b tb) (hm:behindInMarks op b = false):PT X (.Compare a [op] [b] pos) (tTest (tOp r ta tb)):=by
  intro pins s σ H Q I h
  refine wpAny_isTrue_Compare1 (thn (ha pins s σ H _ I h) fun v s1 ⟨x,H1,I1,r1,q1⟩=>thn (hb pins s1 σ H1 _ I1 q1) fun u s2 ⟨y,H2,I2,r2,q2⟩ =>
    thn (ho pins s2 σ H2 x y v u _ I2 r1 r2 q2) fun c s3 ⟨z,H3,I3,r3,k,e,q3⟩=>?_) hm
  subst e
  cases r3
  exact wpAny_truthy_bool ⟨H3,I3,q3⟩
def QX (r r':R2) (ta tb tc:TE):TE:=fun σ H Q=>ta σ H fun x H1=>tb σ H1 fun y H2=>r x y H2 fun z H3=>∃ k,z = .bl k ∧
  (if k = true then tc σ H3 fun w' H4=>r' y w' H4 Q else Q (.bl false) H3)
theorem pe_chain {op op':CmpOp} {r r':R2} (ho:OpR X (compareOp op) r) (ho':OpR X (compareOp op') r') (ha:PE X a ta) (hb:PE X b tb) (hc:PE X c tc)
    (hm:lastMarks [op,op'] [b,c] = false:=by with_unfolding_all rfl):PE X (.Compare a [op,op'] [b,c] pos) (QX r r' ta tb tc):=by
  intro pins s σ H Q I h
  refine Compare_chain (thn (ha pins s σ H _ I h) fun v s1 ⟨x,H1,I1,r1,q1⟩=>chain_link (thn (hb pins s1 σ H1 _ I1 q1) fun u s2 ⟨y,H2,I2,r2,q2⟩ =>
    thn (ho pins s2 σ H2 x y v u _ I2 r1 r2 q2) fun d s3 ⟨z,H3,I3,r3,k,e,q3⟩=>?_)) hm
  subst e
  cases r3
  refine wpAny_truthy_bool ?_
  cases k with
  | false=>exact ite_ff ⟨.bl false,H3,I3,rfl,q3⟩
  | true=>exact ite_tt (chain_last (thn (hc pins s3 σ H3 _ I3 q3) fun w' s4 ⟨z',H4,I4,r4,q4⟩=>ho' pins s4 σ H4 y z' u w' Q I4 r2 r4 q4))
theorem pt_chain {op op':CmpOp} {r r':R2} (ho:OpR X (compareOp op) r) (ho':OpR X (compareOp op') r') (ha:PE X a ta) (hb:PE X b tb) (hc:PE X c tc)
    (hm:lastMarks [op,op'] [b,c] = false:=by with_unfolding_all rfl):PT X (.Compare a [op,op'] [b,c] pos) (tTest (QX r r' ta tb tc)):=by
  intro pins s σ H Q I h
  refine isTrue_chain (thn (ha pins s σ H _ I h) fun v s1 ⟨x,H1,I1,r1,q1⟩=>test_link (thn (hb pins s1 σ H1 _ I1 q1) fun u s2 ⟨y,H2,I2,r2,q2⟩ =>
    thn (ho pins s2 σ H2 x y v u _ I2 r1 r2 q2) fun d s3 ⟨z,H3,I3,r3,k,e,q3⟩=>?_)) hm
  subst e
  cases r3
  refine wpAny_truthy_bool ?_
  cases k with
  | false =>
    obtain ⟨k',e',q'⟩:=q3
    cases e'
    exact ite_ff ⟨H3,I3,q'⟩
  | true =>
    refine ite_tt (test_last (thn (hc pins s3 σ H3 _ I3 q3) fun w' s4 ⟨z',H4,I4,r4,q4⟩=>thn (ho' pins s4 σ H4 y z' u w' _ I4 r2 r4 q4) fun d' s5 ⟨z2,H5,I5,r5,k2,e2,q5⟩=>?_))
    subst e2
    cases r5
    exact wpAny_truthy_bool ⟨H5,I5,q5⟩
def TruV (K:PySem.W.Frag) (x:V) (H:Hp) (k:Bool):Prop :=
  match x with
  | .non=>k = false
  | .bl b=>k = b
  | .int i=>k = (i != 0)
  | .str y=>y.length ≤ sizeLine∧k = ((y.length:Int) != 0)
  | .byt y=>y.size ≤ sizeLine∧k = ((y.size:Int) != 0)
  | .ref p=>(∃ xs,SqL K H p xs∧k = !xs.isEmpty) ∨ (∃ xs,SqT K H p xs∧k = !xs.isEmpty) ∨ ∃ kvs,H p = some (.dK kvs)∧k = !kvs.isEmpty
  | _=>False
theorem adR {κ:Type} {kvs:List (κ × V)} {vs:List (κ × Value)} (r:KV kvs vs):(!vs.isEmpty) = !kvs.isEmpty:=by
  cases r <;> rfl
theorem Pz {xs:List V} {its:List Value} (r:Vals xs its):(!its.toArray.isEmpty) = !xs.isEmpty:=by
  cases r <;> simp
theorem Dl:(sizeLine:Nat) < 2 ^ 63:=by rw [sizeLine_eq]; decide
theorem tru_ok:TruR X (fun x H Q=>∃ k,TruV X.K x H k∧Q k H):=by
  intro pins s σ H x v Q I rx h
  obtain ⟨k,e,q⟩:=h
  have hl:=Dl
  have hs:sizeLine = 16777216:=sizeLine_eq
  cases x with
  | non =>
    cases rx
    have e':k = false:=e
    subst e'
    exact truthy_none ⟨H,I,q⟩
  | bl b =>
    cases rx
    have e':k = b:=e
    subst e'
    exact wpAny_truthy_bool ⟨H,I,q⟩
  | int i =>
    obtain ⟨t,rfl⟩:=rx
    have e':k = (i != 0):=e
    subst e'
    exact PySem.P.truthy_int ⟨H,I,q⟩
  | str y =>
    obtain ⟨t,rfl⟩:=rx
    obtain ⟨hy,e'⟩:y.length ≤ sizeLine∧k = ((y.length:Int) != 0):=e
    subst e'
    exact PySem.P.truthy_str (by omega) ⟨H,I.tok _,q⟩
  | byt y =>
    obtain ⟨t,rfl⟩:=rx
    obtain ⟨hy,e'⟩:y.size ≤ sizeLine∧k = ((y.size:Int) != 0):=e
    subst e'
    exact PySem.W.truthy_bytes (by omega) ⟨H,I.tok _,q⟩
  | ref p =>
    cases rx
    have e':(∃ xs,SqL X.K H p xs∧k = !xs.isEmpty) ∨ (∃ xs,SqT X.K H p xs∧k = !xs.isEmpty) ∨ ∃ kvs,H p = some (.dK kvs)∧k = !kvs.isEmpty:=e
    rcases e' with ⟨xs,hx,e'⟩ | ⟨xs,hx,e'⟩ | ⟨kvs,hx,e'⟩
    · subst e'
      obtain ⟨its,r,pl,hz⟩:=I.list hx
      have hlen:=r.length
      exact wpAny_truthy_list pl.isList (by simp only [List.size_toArray]; omega) ⟨H,I.tok _,by rw [Pz r]; exact q⟩
    · subst e'
      obtain ⟨its,r,pl,hz⟩:=I.tuple hx
      have hlen:=r.length
      exact truthy_tuple pl (by simp only [List.size_toArray]; omega) ⟨H,I.tok _,by rw [Pz r]; exact q⟩
    · subst e'
      obtain ⟨hz,hS,vs,r,m⟩:kvs.length ≤ sizeLine∧(p == sysModules) = false∧∃ vs,KV kvs vs∧s.heap.DictOf (mO X.prog X.w) p vs:=I.hok p _ hx
      have hlen:kvs.length = vs.length:=Paired.length r
      exact wpAny_truthy_dict hS m (by omega) ⟨H,I.tok _,by rw [adR r]; exact q⟩
  | _=>exact (show False from e).elim
theorem pt_truth (ha:PE X a ta) (he:∀ whole,isTrue a X.env whole = (do let v ← whole; standAt a.pos; holding [v] (truthy v))) :
    PT X a (fun σ H Q=>ta σ H fun x H'=>∃ k,TruV X.K x H' k∧Q k H'):=by
  intro pins s σ H Q I h
  exact isTrue_plain (thn (ha pins s σ H _ I h) fun v s1 ⟨x,H1,I1,r1,q1⟩=>tru_ok pins s1 σ H1 x v Q I1 r1 q1) (he _)
theorem aej:OpR X (binaryOp .Add) (fun x y H Q=>∃ i j,x = .str i∧y = .str j∧i.length + j.length ≤ sizeLine∧Q (.str (i ++ j)) H):=by
  intro pins s σ H x y v u Q I rx ry h
  obtain ⟨i,j,rfl,rfl,hz,q⟩:=h
  obtain ⟨t,rfl⟩:=rx
  obtain ⟨t',rfl⟩:=ry
  exact add_str (fun t' tk=>⟨.str (i ++ j),H,I.tok _,⟨_,rfl⟩,q⟩) hz
theorem vals1 {x:V} {us:List Value} (r:Vals [x] us):∃ u,us = [u]∧RelV x u:=by
  cases r with
  | cons r1 r2=>cases r2; exact ⟨_,rfl,r1⟩
theorem vals2 {x y:V} {us:List Value} (r:Vals [x,y] us):∃ u w',us = [u,w']∧RelV x u∧RelV y w':=by
  cases r with
  | cons r1 r2 =>
    cases r2 with
    | cons r3 r4=>cases r4; exact ⟨_,_,rfl,r1,r3⟩
theorem afy (hc:X.calm = true):pQ X (.builtin "max") (fun xs H Q=>∃ i j,xs = [.int i,.int j]∧Q (.int (if j > i then j else i)) H):=by
  intro pins s σ H xs us Q I r h
  obtain ⟨i,j,rfl,q⟩:=h
  obtain ⟨u,w',rfl,⟨t,rfl⟩,⟨t',rfl⟩⟩:=vals2 r
  refine max_two_ints (I.ok.hd hc) fun h' tk k=>⟨_,H,I.kept k,?_,q⟩
  by_cases hj:j > i
  · rw [if_pos hj,if_pos hj]; exact ⟨_,rfl⟩
  · rw [if_neg hj,if_neg hj]; exact ⟨_,rfl⟩
theorem afz (hc:X.calm = true):pQ X (.builtin "min") (fun xs H Q=>∃ i j,xs = [.int i,.int j]∧Q (.int (if j < i then j else i)) H):=by
  intro pins s σ H xs us Q I r h
  obtain ⟨i,j,rfl,q⟩:=h
  obtain ⟨u,w',rfl,⟨t,rfl⟩,⟨t',rfl⟩⟩:=vals2 r
  refine min_two_ints (I.ok.hd hc) fun h' tk k=>⟨_,H,I.kept k,?_,q⟩
  by_cases hj:j < i
  · rw [if_pos hj,if_pos hj]; exact ⟨_,rfl⟩
  · rw [if_neg hj,if_neg hj]; exact ⟨_,rfl⟩
end
end L2
namespace L2
open PySem PySem.Spec PyProof.Rows
structure ObjM (h:Heap) (x dx C:Addr) (mA:Str→Option Value):Prop where
  obj:h.get? x = some (PySem.W.instObj C dx)
  ns:h.Ns1 dx mA
  ne:dx ≠ x
theorem Vx {h:Heap} {dx:Addr} {mA:Str→Option Value} (n:h.Ns1 dx mA):∃ od,h.get? dx = some od∧∀ name,PySem.W.lookIn name od = some (mA name):=by
  obtain ⟨o,es,ep,ho,hd,hk,_,hm⟩:=n
  refine ⟨o,ho,fun name=>?_⟩
  have e:=hm name
  unfold nsFind findBy at e
  rw [← Array.find?_toList] at e
  unfold PySem.W.lookIn
  rw [hd]
  dsimp only
  split
  · rename_i y q
    rw [q] at e
    exact congrArg some e
  · rename_i q
    rw [q] at e
    have a:es.toList.any (·.refKey) = false:=by
      rw [List.any_eq_false]
      intro y hy
      obtain ⟨z,t,hkey⟩:=hk y (Array.mem_toList_iff.mp hy)
      simp [DictEntry.refKey,hkey]
    have a':¬ es.toList.any (·.refKey) = true:=by rw [a]; exact Bool.false_ne_true
    rw [if_neg a']
    exact congrArg some e
theorem ObjM.look {h:Heap} {x dx C:Addr} {mA:Str→Option Value} (I:ObjM h x dx C mA):∃ od,PySem.W.InstAt h x (PySem.W.instObj C dx) C (some od)∧∀ name,PySem.W.lookIn name od = some (mA name) :=
  let ⟨od,ho,hl⟩:=Vx I.ns
  ⟨od,⟨I.obj,rfl,rfl,ho⟩,hl⟩
section
variable {prog:Program} {w:World} {A:Around} {E:Value→Shared→Prop} {s:Shared} {K:PySem.W.Frag} {x dx C f:Addr} {mA:Str→Option Value} {name:Str} {v:Value}
theorem get_map {expr:Bool} {Q:Value→Shared→Prop} (X:K.In s.heap) (I:ObjM s.heap x dx C mA) (hg:PySem.W.plainGet K C name = true) (hh:PySem.W.hasDictIn K C = true)
    (ha:PySem.W.findIn K (.ref C) name = some none) (hv:mA name = some v) (hv':PySem.W.handedIn v = true) (h:Q v { s with toks:=s.toks + 1 }) :
    wpAny (model prog w) A (getAttr (.ref x) name expr) Q E s:=by
  obtain ⟨od,J,hl⟩:=I.look
  exact PySem.W.get_value X J (PySem.W.plainGet_of hg).1 (PySem.W.findObj_own hh ha rfl (by rw [hl,hv])) hv' h
theorem get_meth {pl:Sem Bool} {Q:Value × List Value→Shared→Prop} (X:K.In s.heap) (I:ObjM s.heap x dx C mA) (hg:PySem.W.plainGet K C name = true)
    (hf:PySem.W.findIn K (.ref C) name = some (some (.ref f))) (ht:PySem.W.isFn K (.ref f) = true) (hv:mA name = none) (h:Q (.ref f,[.ref x]) s) :
    wpAny (model prog w) A (getMethod (.ref x) name pl) Q E s:=by
  obtain ⟨od,J,hl⟩:=I.look
  exact PySem.W.method_fn X J (PySem.W.plainGet_of hg).1 (PySem.W.plainGet_of hg).2 hf (beq_iff_eq.mp ht) (by show (PySem.W.lookIn name od).map (·.isSome) = some false; rw [hl,hv]; rfl) h
theorem set_map {ns:List Str} {Q:Unit→Shared→Prop} (X:K.In s.heap) (I:ObjM s.heap x dx C mA)
    (hs:PySem.W.findIn K (.ref C) "__setattr__" = some (some (.builtin "object.__setattr__"))) (hp:PySem.W.plainOver K C = true) (ht:PySem.W.takerIn K C name = some none) (hh:PySem.W.hasDictIn K C = true)
    (hw:PySem.Within mA ns) (hsz:ns.length ≤ sizeLine)
    (h:∀ h',ObjM h' x dx C (fun y=>if y = name then some v else mA y)→Heap.SameBut dx s.heap h'→Q () { s with heap:=h',toks:=s.toks + 2 }) :
    wpAny (model prog w) A (setAttr (.ref x) name v) Q E s:=by
  obtain ⟨od,J,hl⟩:=I.look
  refine PySem.W.set_plain X J hs (PySem.W.osa_open (s:={ s with toks:=s.toks + 1 }) (r:=none) X J hp ht fun b=>?_)
  obtain ⟨cd,hc,hd'⟩:=PySem.W.any_some hh
  have hx:s.heap.get? x = some ⟨.ref C,some dx,.plain,#[]⟩:=I.obj
  refine wpAny_bind (wpAny_pure (wpAny_bind (wpAny_bind (wpAny_loadPart hx (wpAny_bind (PySem.W.Looks.here (s:={ s with toks:=s.toks + 1 }) (PySem.W.looks_clsIn X hc) ?_))))))
  rw [hd']
  refine wpAny_pure (a:=some dx) (wpAny_bind (wpAny_pure (wpAny_bind ?_)))
  refine wpAny_nsSet1 (s:={ s with toks:=s.toks + 1 }) I.ns fun h' hn2 hs2=>?_
  obtain ⟨oD,esD,epD,hoD,hdD,hcD⟩:=hn2.count (PySem.Within.cons name v hw)
  refine wpAny_bind (wpAny_lookBehind hoD (by rw [hdD]; exact pastItsLine_dict (Nat.le_trans hcD (by rw [List.length_cons]; omega))) ?_)
  exact wpAny_pure (h _ ⟨(hs2.2 _ (Ne.symm I.ne)).trans I.obj,hn2,I.ne⟩ hs2)
theorem make_map {R:Result→Shared→Prop} {vs:List Value} {kw:List (Str × Value)} (X:K.In s.heap) (hm:PySem.W.makesIn K C = true)
    (hi:PySem.W.findIn K (.ref C) "__init__" = some (some (.ref f))) (hf:PySem.W.typeIn K (.ref f) = some (.type "function"))
    (h:codeAny (model prog w) (A.under (.builtin "type.__call__" ⟨.ref C :: vs,kw⟩)) (.call (.ref f) ⟨.ref (s.heap.objs.size + 1) :: vs,kw⟩) (PySem.W.InitBack (s.heap.objs.size + 1) R)
      { s with heap:=(s.heap.push PySem.W.emptyDict).push (PySem.W.instObj C s.heap.objs.size) }) :
    codeAny (model prog w) A (.call (.ref C) ⟨vs,kw⟩) R s:=by
  obtain ⟨hh,g,d,t,os⟩:=s
  exact PySem.W.make_core (PySem.W.makes_of X hm) (PySem.W.looks_findIn X hi) (fun self=>PySem.W.bind_fn X self hf) (.inl rfl) h
end
def jK (f:Str) (v:V):List (Str × V)→List (Str × V)
  | []=>[(f,v)]
  | (g,x) :: r=>if g = f then (g,v) :: r else (g,x) :: jK f v r
theorem zR (f g:Str) (v:V):∀ fs:List (Str × V),(jK f v fs).lookup g = if g = f then some v else fs.lookup g
  | []=>by
    show List.lookup g [(f,v)] = _
    by_cases h:g = f
    · have hb:(g == f) = true:=beq_iff_eq.mpr h
      simp only [List.lookup,hb,if_pos h]
    · have hb:(g == f) = false:=beq_eq_false_iff_ne.mpr h
      simp only [List.lookup,hb,if_neg h]
  | (k,x) :: r=>by
    have ih:=zR f g v r
    rw [show jK f v ((k,x) :: r) = (if k = f then (k,v) :: r else (k,x) :: jK f v r) from rfl]
    by_cases hk:k = f
    · rw [if_pos hk]
      by_cases h:g = k
      · have hb:(g == k) = true:=beq_iff_eq.mpr h
        simp only [List.lookup,hb,if_pos (h.trans hk)]
      · have hb:(g == k) = false:=beq_eq_false_iff_ne.mpr h
        simp only [List.lookup,hb,if_neg (fun e:g = f=>h (e.trans hk.symm))]
    · rw [if_neg hk]
      by_cases h:g = k
      · have hb:(g == k) = true:=beq_iff_eq.mpr h
        simp only [List.lookup,hb,if_neg (fun e:g = f=>hk (h.symm.trans e))]
      · have hb:(g == k) = false:=beq_eq_false_iff_ne.mpr h
        simp only [List.lookup,hb]
        exact ih
theorem vm (f:Str) (v:V):∀ fs:List (Str × V),f ∈ (jK f v fs).map (·.1)∧∀ g,g ∈ fs.map (·.1)→g ∈ (jK f v fs).map (·.1)
  | []=>⟨by simp [jK],fun g h=>by simp at h⟩
  | (k,x) :: r=>by
    obtain ⟨i1,i2⟩:=vm f v r
    rw [show jK f v ((k,x) :: r) = (if k = f then (k,v) :: r else (k,x) :: jK f v r) from rfl]
    by_cases hk:k = f
    · rw [if_pos hk]
      subst hk
      exact ⟨by simp,fun g h=>by simpa using h⟩
    · rw [if_neg hk]
      refine ⟨?_,fun g h=>?_⟩
      · rw [List.map_cons]
        exact List.mem_cons_of_mem _ i1
      · rw [List.map_cons] at h ⊢
        rcases List.mem_cons.mp h with e | e
        · exact List.mem_cons.mpr (.inl e)
        · exact List.mem_cons_of_mem _ (i2 g e)
theorem Km (f:Str) (v:V):∀ fs:List (Str × V),(jK f v fs).length ≤ fs.length + 1
  | []=>by simp [jK]
  | (k,x) :: r=>by
    have ih:=Km f v r
    rw [show jK f v ((k,x) :: r) = (if k = f then (k,v) :: r else (k,x) :: jK f v r) from rfl]
    by_cases hk:k = f
    · rw [if_pos hk,List.length_cons,List.length_cons]; omega
    · rw [if_neg hk,List.length_cons,List.length_cons]; omega
theorem uT.some_of {v:V} {o:Option Value} (r:uT (some v) o):∃ u,o = some u∧RelV v u:=by
  cases o with
  | none=>exact (show False from r).elim
  | some u=>exact ⟨u,rfl,r⟩
theorem uT.none_of {o:Option Value} (r:uT none o):o = none:=by
  cases o with
  | none=>rfl
  | some u=>exact (show False from r).elim
theorem Vq {v:V} {u:Value} (r:RelV v u):PySem.W.handedIn u = true:=by
  cases v with
  | non=>cases (show u = Value.none from r); rfl
  | bl b=>cases (show u = Value.bool b from r); rfl
  | int i=>obtain ⟨t,e⟩:=(show ∃ t,u = Value.int i t from r); cases e; rfl
  | str x=>obtain ⟨t,e⟩:=(show ∃ t,u = Value.str x t from r); cases e; rfl
  | byt b=>obtain ⟨t,e⟩:=(show ∃ t,u = Value.bytes b t from r); cases e; rfl
  | flt b=>obtain ⟨t,e⟩:=(show ∃ t,u = Value.float b t from r); cases e; rfl
  | ref a=>cases (show u = Value.ref a from r); rfl
  | ty n=>cases (show u = Value.type n from r); rfl
section
variable {P:Program} {w:World} {H H':Hp} {h h':Heap} {a C dx:Addr} {fs fs':List (Str × V)}
theorem M4 (hok:HOk P w H h) (e:H a = some (.ins C dx fs)):∃ mA,ObjM h a dx C mA∧(∀ f,uT (fs.lookup f) (mA f))∧PySem.Within mA (fs.map (·.1))∧fs.length ≤ 1000∧H dx = some (.own a):=by
  obtain ⟨d,z,ne,ob,mA,n,r,q⟩:=(show dX P w H h a (.ins C dx fs) from hok a _ e)
  exact ⟨mA,⟨ob,n,ne⟩,r,q,z,d⟩
end
structure Cls (K:PySem.W.Frag) (C:Addr):Prop where
  pg:PySem.W.plainGet K C Str.empty = true
  hd:PySem.W.hasDictIn K C = true
  po:PySem.W.plainOver K C = true
  sa:PySem.W.findIn K (.ref C) "__setattr__" = some (some (.builtin "object.__setattr__"))
theorem Cls.get {K:PySem.W.Frag} {C:Addr} (c:Cls K C) (f:Str):PySem.W.plainGet K C f = true:=c.pg
def cT (K:PySem.W.Frag) (C:Addr) (f:Str):Prop:=PySem.W.findIn K (.ref C) f = some none
theorem cT.taker {K:PySem.W.Frag} {C:Addr} {f:Str} (n:cT K C f):PySem.W.takerIn K C f = some none:=by
  unfold PySem.W.takerIn
  rw [show PySem.W.findIn K (.ref C) f = some none from n]
  rfl
structure Con (K:PySem.W.Frag) (C:Addr) (f:Str) (v:V) (u:Value):Prop where
  at_:PySem.W.findIn K (.ref C) f = some (some u)
  rel:RelV v u
  get:PySem.W.specialIn K u "__get__" = some none
  cp:PySem.W.copiedNames.contains f = false
structure Meth (K:PySem.W.Frag) (C:Addr) (m:Str) (f:Addr):Prop where
  at_:PySem.W.findIn K (.ref C) m = some (some (.ref f))
  fn:PySem.W.isFn K (.ref f) = true
  kp:PySem.W.keepIn K (.ref f) = true
section
variable {X:Cx} {pins:List (Addr × Obj)} {σ:St} {H:Hp} {s:Shared} {a C dx:Addr} {fs:List (Str × V)} {f:Str} {v:V} {A:Around} {E:Value→Shared→Prop}
theorem adL {b:Bool} {Q:Value→Shared→Prop} (I:Inv X pins σ H s) (e:H a = some (.ins C dx fs)) (c:Cls X.K C) (n:cT X.K C f) (l:fs.lookup f = some v)
    (h:∀ u s',Inv X pins σ H s'→RelV v u→Q u s'):wpAny (model X.prog X.w) A (getAttr (.ref a) f b) Q E s:=by
  obtain ⟨mA,O,r,_,_,_⟩:=M4 I.hok e
  obtain ⟨u,hu,ru⟩:=uT.some_of (v:=v) (o:=mA f) (by rw [← l]; exact r f)
  exact get_map I.kIn O (c.get f) c.hd n hu (Vq ru) (h u _ (I.tok _) ru)
theorem Pk {m:Str} {g:Addr} {pl:Sem Bool} {Q:Value × List Value→Shared→Prop} (I:Inv X pins σ H s) (e:H a = some (.ins C dx fs)) (c:Cls X.K C) (k:Meth X.K C m g) (l:fs.lookup m = none)
    (h:Q (.ref g,[.ref a]) s):wpAny (model X.prog X.w) A (getMethod (.ref a) m pl) Q E s:=by
  obtain ⟨mA,O,r,_,_,_⟩:=M4 I.hok e
  have hn:mA m = none:=uT.none_of (by rw [← l]; exact r m)
  exact get_meth I.kIn O (c.get m) k.at_ k.fn hn h
theorem aeB {y:V} {u:Value} {Q:Unit→Shared→Prop} (I:Inv X pins σ H s) (e:H a = some (.ins C dx fs)) (c:Cls X.K C) (n:cT X.K C f) (hl:fs.length < 1000) (ry:RelV y u)
    (h:∀ s',Inv X pins σ (upd H a (.ins C dx (jK f y fs))) s'→Q () s'):wpAny (model X.prog X.w) A (setAttr (.ref a) f u) Q E s:=by
  obtain ⟨mA,O,r,wi,_,ho⟩:=M4 I.hok e
  have hz:(fs.map (·.1)).length ≤ sizeLine:=by rw [List.length_map,sizeLine_eq]; omega
  refine set_map I.kIn O c.sa c.po n.taker c.hd wi hz fun h' O' sb=>h _ ?_
  have hd:∃ o,h'.get? dx = some o:=let ⟨o,_,_,e',_⟩:=O'.ns; ⟨o,e'⟩
  refine I.write (x:=a) (e:=dx) (by rw [e]; exact True.intro) (.inr ho) (fun b q hb z=>(sb.2 b hb).trans z) hd ?_
  refine ⟨by rw [aD O.ne]; exact ho,?_,O.ne,O'.obj,_,O'.ns,fun g=>?_,fun g hg=>?_⟩
  · have:=Km f y fs; omega
  · show uT ((jK f y fs).lookup g) (if g = f then some u else mA g)
    rw [zR]
    by_cases q:g = f
    · rw [if_pos q,if_pos q]; exact ry
    · rw [if_neg q,if_neg q]; exact r g
  · by_cases q:g = f
    · rw [q]; exact (vm f y fs).1
    · refine (vm f y fs).2 g (wi g fun z=>hg ?_)
      show (if g = f then some u else mA g) = none
      rw [if_neg q]; exact z
theorem Inv.made (I:Inv X pins σ H s):Inv X pins σ (upd (upd H s.heap.objs.size (.own (s.heap.objs.size + 1))) (s.heap.objs.size + 1) (.ins C s.heap.objs.size []))
    { s with heap:=(s.heap.push PySem.W.emptyDict).push (PySem.W.instObj C s.heap.objs.size) }:=by
  have e1:(s.heap.push PySem.W.emptyDict).get? s.heap.objs.size = some PySem.W.emptyDict:=Heap.get?_push_size s.heap rfl
  have e2:((s.heap.push PySem.W.emptyDict).push (PySem.W.instObj C s.heap.objs.size)).get? (s.heap.objs.size + 1) = some (PySem.W.instObj C s.heap.objs.size):=by
    have:=Heap.get?_push_size (s.heap.push PySem.W.emptyDict) (o:=PySem.W.instObj C s.heap.objs.size) rfl
    rwa [Heap.size_push] at this
  have e3:(s.heap.push PySem.W.emptyDict).Ns s.heap.objs.size (fun _=>none):=⟨PySem.W.emptyDict,#[],_,e1,rfl,(fun e he=>absurd he (by simp)),fun _=>rfl⟩
  have I1:=I.laid (a:=s.heap.objs.size) (o:=.own (s.heap.objs.size + 1)) (h':=s.heap.push PySem.W.emptyDict) (t':=s.toks) (fun b u q=>Heap.get?_push_of_some _ q) (Nat.le_refl _) ⟨_,e1⟩
  refine I1.laid (a:=s.heap.objs.size + 1) (o:=.ins C s.heap.objs.size []) (t':=s.toks) (fun b u q=>Heap.get?_push_of_some _ q) (Nat.le_of_eq (Heap.size_push _ _)) ?_
  have ne:s.heap.objs.size ≠ s.heap.objs.size + 1:=Nat.ne_of_lt (Nat.lt_succ_self _)
  refine ⟨by rw [aD ne,aL],Nat.zero_le _,ne,e2,fun _=>none,(Heap.Ns1.of_empty e3).at fun o q=>Heap.get?_push_of_some _ q,fun _=>True.intro,fun y hy=>absurd rfl hy⟩
theorem aeT {prog:Program} {w:World} {env:Env} {e:Expr} {f:Str} {pos:Pos} {s:Shared} {Q:Value→Shared→Prop} (hb:attributeBase e f env (eval e env) = eval e env)
    (h:wpAny (model prog w) A (eval e env) (fun o s₁=>wpAny (model prog w) A (getAttr o f true) Q E s₁) E s):wpAny (model prog w) A (eval (.Attribute e f pos) env) Q E s :=
  Attribute_any_ h (by rw [arm_eval_Attribute,hb])
end
def tFld (K:PySem.W.Frag) (ta:TE) (f:Str):TE:=fun σ H Q=>ta σ H fun x H1=>∃ a C dx fs v,x = .ref a∧H1 a = some (.ins C dx fs)∧Cls K C∧cT K C f∧fs.lookup f = some v∧Q v H1
def sFld (K:PySem.W.Frag) (ta tv:TE) (f:Str):TS:=fun D σ H=>tv σ H fun y H1=>ta σ H1 fun x H2=>∃ a C dx fs,x = .ref a∧H2 a = some (.ins C dx fs)∧Cls K C∧cT K C f∧fs.length < 1000 ∧
  D.nx σ (upd H2 a (.ins C dx (jK f y fs)))
section
variable {X:Cx} {o e value:Expr} {f:Str} {pos pos' tpos:Pos} {ta tv:TE}
theorem pe_fld (he:PE X e ta) (hb:attributeBase e f X.env (eval e X.env) = eval e X.env):PE X (.Attribute e f pos) (tFld X.K ta f):=by
  intro pins s σ H Q I h
  refine aeT hb (thn (he pins s σ H _ I h) fun u s1 ⟨x,H1,I1,rx,a,C,dx,fs,v,ex,ea,c,n,l,q⟩=>?_)
  subst ex
  obtain rfl:u = Value.ref a:=rx
  exact adL I1 ea c n l fun u' s2 I2 ru=>⟨v,H1,I2,ru,q⟩
theorem aes (ha:PE X o ta) (hv:PE X value tv) (hs:swapsWith value (some (.Attribute o f pos')) pos.line X.env = pure false):PS X (.Assign [.Attribute o f pos'] value pos) (sFld X.K ta tv f):=by
  intro pins s σ H D I h
  refine plainObj_wpAny_Assign_Attribute (thn (hv pins s σ H _ I h) fun u s1 ⟨y,H1,I1,ry,q⟩=>thn (ha pins s1 σ H1 _ I1 q) fun ov s2 ⟨x,H2,I2,rx,a,C,dx,fs,ex,ea,c,n,l,q2⟩=>?_) hs
  subst ex
  obtain rfl:ov = Value.ref a:=rx
  exact aeB I2 ea c n l ry fun s3 I3=>⟨σ,_,I3,q2⟩
end
section
variable {X:Cx} {pins:List (Addr × Obj)} {σ:St} {H:Hp} {s:Shared} {A:Around} {E:Value→Shared→Prop} {Q:Value→Shared→Prop} {c:Value} {b:Bool}
inductive Hl (K:PySem.W.Frag) (H:Hp):V→Value→Prop where
  | non:Hl K H .non (.type "NoneType")
  | bl (x:Bool):Hl K H (.bl x) (.type "bool")
  | int (i:Int):Hl K H (.int i) (.type "int")
  | str (x:Str):Hl K H (.str x) (.type "str")
  | flt (x:UInt64):Hl K H (.flt x) (.type "float")
  | lst {a:Addr} {xs:List V} (e:H a = some (.lst xs)):Hl K H (.ref a) (.type "list")
  | frz {a:Addr} {o:Obj} {xs:List V} (e:H a = some (.frz o (.lst xs))):Hl K H (.ref a) (.type "list")
  | tup {a:Addr} {xs:List V} (e:H a = some (.tup xs)):Hl K H (.ref a) (.type "tuple")
  | dK {a:Addr} {kvs:List (Key × V)} (e:H a = some (.dK kvs)):Hl K H (.ref a) (.type "dict")
  | dT {a:Addr} {kvs:List (List Key × V)} (e:H a = some (.dT kvs)):Hl K H (.ref a) (.type "dict")
  | ins {a C dx:Addr} {fs:List (Str × V)} (e:H a = some (.ins C dx fs)) (cl:Cls K C) (ha:PySem.W.findIn K (.ref C) "__class__" = some (some (.builtin "object.__class__")))
      (hn:PySem.W.specialIn K (.builtin "object.__class__") "__get__" = some (some (.builtin "getset_descriptor.__get__"))) (htk:PySem.W.takesIn K (.builtin "object.__class__") = some true)
      (hm:PySem.W.mroIn K C (.type "object") = some true):Hl K H (.ref a) (.ref C)
theorem afN {x:V} {u t:Value} (I:Inv X pins σ H s) (rx:RelV x u) (ty:Hl X.K H x t) (e:PySem.W.kitOne X.K t c = some b) (h:∀ tk,Q (.bool b) { s with toks:=tk }) :
    wpAny (model X.prog X.w) A (call (.builtin "isinstance") [u,c]) Q E s:=by
  cases ty with
  | non=>cases (show u = Value.none from rx); exact PySem.W.kia_one PySem.W.kitx_none I.kIn True.intro e (fun z=>nomatch z) h
  | bl y=>cases (show u = Value.bool y from rx); exact PySem.W.kia_one PySem.W.kitx_bool I.kIn True.intro e (fun z=>nomatch z) h
  | int i=>obtain ⟨t,q⟩:=(show ∃ t,u = Value.int i t from rx); cases q; exact PySem.W.kia_one PySem.W.kitx_int I.kIn True.intro e (fun z=>nomatch z) h
  | str y=>obtain ⟨t,q⟩:=(show ∃ t,u = Value.str y t from rx); cases q; exact PySem.W.kia_one PySem.W.kitx_str I.kIn True.intro e (fun z=>nomatch z) h
  | flt y=>obtain ⟨t,q⟩:=(show ∃ t,u = Value.float y t from rx); cases q; exact PySem.W.kia_one PySem.W.kitx_float I.kIn True.intro e (fun z=>nomatch z) h
  | @lst a xs ea =>
    cases (show u = Value.ref a from rx)
    obtain ⟨_,_,n,_,h1⟩:=(show dX X.prog X.w H s.heap a (.lst xs) from I.hok a _ ea)
    exact PySem.W.kia_one PySem.W.kitx_list I.kIn ⟨_,h1,rfl⟩ e (fun z=>nomatch z) h
  | @frz a ob xs ea =>
    cases (show u = Value.ref a from rx)
    obtain ⟨_,_,_,n,_,h1⟩:=(show dX X.prog X.w H s.heap a (.frz ob (.lst xs)) from I.hok a _ ea)
    exact PySem.W.kia_one PySem.W.kitx_list I.kIn ⟨_,h1,rfl⟩ e (fun z=>nomatch z) h
  | @tup a xs ea =>
    cases (show u = Value.ref a from rx)
    obtain ⟨_,_,_,p⟩:=(show dX X.prog X.w H s.heap a (.tup xs) from I.hok a _ ea)
    obtain ⟨o,h1,h2,_⟩:=p
    exact PySem.W.kia_one PySem.W.kitx_tuple I.kIn ⟨o,h1,h2⟩ e (fun z=>nomatch z) h
  | @dK a kvs ea =>
    cases (show u = Value.ref a from rx)
    obtain ⟨_,_,vs,_,p⟩:=(show dX X.prog X.w H s.heap a (.dK kvs) from I.hok a _ ea)
    obtain ⟨o,es,ep,h1,h2,_⟩:=p
    exact PySem.W.kia_one PySem.W.kitx_dict I.kIn ⟨o,h1,h2.1⟩ e (fun z=>nomatch z) h
  | @dT a kvs ea =>
    cases (show u = Value.ref a from rx)
    obtain ⟨_,_,xs,_,o,es,ep,h1,h2,_⟩:=(show dX X.prog X.w H s.heap a (.dT kvs) from I.hok a _ ea)
    exact PySem.W.kia_one PySem.W.kitx_dict I.kIn ⟨o,h1,h2.1⟩ e (fun z=>nomatch z) h
  | @ins a C dx fs ea cl ha hn htk hm =>
    cases (show u = Value.ref a from rx)
    obtain ⟨mA,O,_⟩:=M4 I.hok ea
    obtain ⟨od,J,_⟩:=O.look
    exact PySem.W.kia_one (PySem.W.kitx_own (cl.get _) cl.hd ha hn htk hm) I.kIn J e (fun z=>nomatch z) h
end
end L2
namespace L2
open PySem PySem.Spec PyProof.Rows
structure gP (k:Nat) (A:Around):Prop where
  hd:A.handled = none
  dp:A.depth + 3 * k + 5 < recursionLimit
  un:A.units + 16 * k + 200 < cLine
theorem gP.mono {j k:Nat} {A:Around} (r:gP k A) (h:j ≤ k):gP j A:=⟨r.hd,by have:=r.dp; omega,by have:=r.un; omega⟩
theorem gP.deeper {k:Nat} {A:Around} (r:gP (k + 1) A) (env:Env):gP k (A.deeper env) :=
  ⟨r.hd,by have:=r.dp; show A.depth + 1 + 3 * k + 5 < _; omega,by have:=r.un; show A.units + 3 + 16 * k + 200 < _; omega⟩
theorem gP.in1 {k:Nat} {A:Around} (r:gP (k + 1) A):gP k A.in1 :=
  ⟨r.hd,by have:=r.dp; show A.depth + 3 * k + 5 < _; omega,by have:=r.un; show A.units + 1 + 16 * k + 200 < _; omega⟩
theorem ad2 {A:Around} {C:Addr} {us:List Value} {kw:List (Str × Value)}:(A.under (.builtin "type.__call__" ⟨.ref C :: us,kw⟩)).depth = A.depth + 1:=by
  first | rfl | simp [Around.under,Code.weight,Code.isCreation,Code.isGuard,Code.isCaller,Code.frames,Code.isFrame,guardIds]
theorem ad3 {A:Around} {C:Addr} {us:List Value} {kw:List (Str × Value)}:(A.under (.builtin "type.__call__" ⟨.ref C :: us,kw⟩)).units = A.units + 1:=by
  first | rfl | simp [Around.under,Code.cUnits,Code.frames,Code.isFrame]
theorem gP.make {k:Nat} {A:Around} (r:gP (k + 1) A) (C:Addr) (us:List Value) (kw:List (Str × Value)):gP k (A.under (.builtin "type.__call__" ⟨.ref C :: us,kw⟩)) :=
  ⟨r.hd,by have:=r.dp; rw [ad2]; omega,by have:=r.un; rw [ad3]; omega⟩
theorem gP.depth {k:Nat} {A:Around} (r:gP k A):A.depth < recursionLimit:=by have:=r.dp; omega
theorem gP.units {k:Nat} {A:Around} (r:gP k A):A.units + 64 < cLine:=by have:=r.un; omega
def DK:TA:=fun _ H Q=>Q [] H
def yl (ta:TE) (tr:TA):TA:=fun σ H Q=>ta σ H fun x H1=>tr σ H1 fun xs H2=>Q (x :: xs) H2
section
variable {X:Cx} {e:Expr} {es:List Expr} {te:TE} {t:TA} {pos:Pos}
theorem gU:PA X [] DK:=fun _ _ _ _ H Q I h=>Calls.spliced_nil ⟨[],H,I,.nil,h⟩
theorem cg (ha:PE X e te) (hr:PA X es t) (hs:starEach (e :: es) X.env = (false,eval e X.env) :: starEach es X.env:=by rfl):PA X (e :: es) (yl te t):=by
  intro pos pins s σ H Q I h
  rw [hs]
  show wpAny _ _ (spliced ((false,eval e X.env) :: backTo pos (starEach es X.env))) _ _ s
  refine Calls.spliced_cons (thn (ha pins s σ H _ I h) fun u s1 ⟨x,H1,I1,r1,q1⟩=>?_)
  exact thn (hr pos pins s1 σ H1 _ I1 q1) fun us s2 ⟨xs,H2,I2,r2,q2⟩=>⟨x :: xs,H2,I2,.cons r1 r2,q2⟩
def tTup (t:TA):TE:=fun σ H Q=>t σ H fun xs H1=>xs.length ≤ sizeLine∧∀ p,H1 p = none→Q (.ref p) (upd H1 p (.tup xs))
def tLst (t:TA):TE:=fun σ H Q=>t σ H fun xs H1=>xs.length ≤ sizeLine∧∀ p,H1 p = none→Q (.ref p) (upd H1 p (.lst xs))
theorem pe_tup {x1} (h:PA X es t):PE X (.Tuple es x1 pos) (tTup t):=by
  intro pins s σ H Q I hq
  refine wpAny_Tuple_spliced (thn (h pos pins s σ H _ I hq) fun us s1 ⟨xs,H1,I1,r,z,q⟩=>⟨by rw [← r.length]; exact z,?_⟩)
  have hf:H1 s1.heap.objs.size = none:=I1.hok.fresh (Nat.le_refl _)
  refine ⟨.ref s1.heap.objs.size,upd H1 s1.heap.objs.size (.tup xs),I1.laid (t':=s1.toks) (fun b u e=>Heap.get?_push_of_some _ e) (Nat.le_refl _) ?_,rfl,q _ hf⟩
  exact ⟨z,us,r,⟨_,Heap.get?_push_size _ rfl,rfl,_,rfl⟩⟩
theorem pe_lst (h:PA X es t):PE X (.List es pos) (tLst t):=by
  intro pins s σ H Q I hq
  refine wpAny_List_spliced (thn (h pos pins s σ H _ I hq) fun us s1 ⟨xs,H1,I1,r,z,q⟩=>⟨by rw [← r.length]; exact z,?_⟩)
  have hf:H1 s1.heap.objs.size = none:=I1.hok.fresh (Nat.le_refl _)
  refine ⟨.ref s1.heap.objs.size,upd H1 s1.heap.objs.size (.lst xs),I1.laid (t':=s1.toks) (fun b u e=>Heap.get?_push_of_some _ e) (Nat.le_refl _) ?_,rfl,q _ hf⟩
  exact ⟨z,us,0,r,Heap.get?_push_size _ rfl⟩
end
abbrev Sp:=List V→Hp→VK→XK→Prop
abbrev CXT:=List Env→Hp→Shared→XK→Value→Shared→Prop
structure Env0 (P:Program) (w:World) (K:PySem.W.Frag) (mg:Str→Option Value) (base:Heap) (A:Around) (outer:List Env) (s:Shared) (H:Hp):Prop where
  frames:A.frames = some outer
  mod:Mod K mg base
  bs:∀ b o,base.get? b = some o→s.heap.get? b = some o∧H b = none
  bsz:base.objs.size ≤ s.heap.objs.size
  Bj:s.heap.FunFrames base outer
  frf:∀ b ∈ frs outer,H b = none
  hok:HOk P w H s.heap
  bare:AllBare s.gens
def CE (outer:List Env) (P:Program) (w:World) (H:Hp) (s:Shared) (Q:VK) (u:Value) (s':Shared):Prop :=
  ∃ v H',s'.os = s.os∧AllBare s'.gens∧Un (frs outer) [] H H' s.heap s'.heap∧HOk P w H' s'.heap∧RelV v u∧Q v H'
def CR (CX:CXT) (outer:List Env) (P:Program) (w:World) (H:Hp) (s:Shared) (Q:VK) (E:XK) (r:Result) (s':Shared):Prop :=
  match r with
  | .ok (.ret u)=>CE outer P w H s Q u s'
  | .ok _=>False
  | .error e=>CX outer H s E e s'
structure bB (P:Program) (w:World) (K:PySem.W.Frag) (mg:Str→Option Value) (base:Heap) (CX:CXT) (k:Nat) (f:Addr) (fd:FuncData) (ps:List Str) (sp:Sp):Prop where
  len:∀ vs H Q E,sp vs H Q E→vs.length = ps.length
  run:∀ (A:Around) (outer:List Env) (s:Shared) (H:Hp) (args:Args) (us:List Value) (vs:List V) (Q:VK) (E:XK),gP k A→Env0 P w K mg base A outer s H→BindsTo s fd args (ps.zip us)→Vals vs us→sp vs H Q E →
    codeAny (model P w) A (.call (.ref f) args) (CR CX outer P w H s Q E) s
theorem bB.mono {P:Program} {w:World} {K:PySem.W.Frag} {mg:Str→Option Value} {base:Heap} {CX:CXT} {j k:Nat} {f:Addr} {fd:FuncData} {ps:List Str} {sp:Sp} (F:bB P w K mg base CX j f fd ps sp) (h:j ≤ k) :
    bB P w K mg base CX k f fd ps sp:=⟨F.len,fun A outer s H args us vs Q E hr=>F.run A outer s H args us vs Q E (hr.mono h)⟩
theorem bB.imp {P:Program} {w:World} {K:PySem.W.Frag} {mg:Str→Option Value} {base:Heap} {CX:CXT} {k:Nat} {f:Addr} {fd:FuncData} {ps:List Str} {sp sp':Sp} (F:bB P w K mg base CX k f fd ps sp)
    (h:∀ vs H Q E,sp' vs H Q E→sp vs H Q E):bB P w K mg base CX k f fd ps sp' :=
  ⟨fun vs H Q E q=>F.len vs H Q E (h _ _ _ _ q),fun A outer s H args us vs Q E hr he hb hv hs=>F.run A outer s H args us vs Q E hr he hb hv (h _ _ _ _ hs)⟩
theorem Env0.make {P:Program} {w:World} {K:PySem.W.Frag} {mg:Str→Option Value} {base:Heap} {A:Around} {outer:List Env} {s:Shared} {H:Hp} (e:Env0 P w K mg base A outer s H) (C:Addr) (us:List Value) (kw:List (Str × Value)) :
    Env0 P w K mg base (A.under (.builtin "type.__call__" ⟨.ref C :: us,kw⟩)) outer s H:=⟨by first | exact e.frames | (simpa [Around.under,Code.envs,Code.isFrame,pushEnvs] using e.frames),e.mod,e.bs,e.bsz,e.Bj,e.frf,e.hok,e.bare⟩
theorem Env0.in1 {P:Program} {w:World} {K:PySem.W.Frag} {mg:Str→Option Value} {base:Heap} {A:Around} {outer:List Env} {s:Shared} {H:Hp} (e:Env0 P w K mg base A outer s H) :
    Env0 P w K mg base A.in1 outer s H:=⟨e.frames,e.mod,e.bs,e.bsz,e.Bj,e.frf,e.hok,e.bare⟩
section
variable {X:Cx} {pins:List (Addr × Obj)} {σ:St} {H:Hp} {s s':Shared}
theorem Inv.env0 (I:Inv X pins σ H s):Env0 X.prog X.w X.K X.mg X.base X.A X.stack s H :=
  ⟨I.ok.frames,I.ok.mod,I.bs,Nat.le_trans I.ok.bsz I.sz,I.stack,I.aaO,I.hok,I.bare⟩
theorem Inv.after {Q:VK} {u:Value} (I:Inv X pins σ H s) (h:CE X.stack X.prog X.w H s Q u s'):EP X pins σ Q u s':=by
  obtain ⟨v,H',os,bare,un,hok,r,q⟩:=h
  obtain ⟨hh,g,d,t,os'⟩:=s'
  obtain rfl:os' = s.os:=os
  exact ⟨v,H',I.call (h':=hh) (g':=g) (d':=d) (t':=t) (ch:=[]) un hok bare (fun b z=>absurd z (by simp)),r,q⟩
end
def VH (sp:Sp) (dvs:List V) (E:XK) (t:TA):TE:=fun σ H Q=>t σ H fun vs H1=>sp (vs ++ dvs) H1 Q E
def tMeth (C:Addr) (m:Str) (sp:Sp) (dvs:List V) (E:XK) (ta:TE) (t:TA):TE:=fun σ H Q=>ta σ H fun x H1=>∃ a dx fs,x = .ref a∧H1 a = some (.ins C dx fs)∧fs.lookup m = none ∧
  t σ H1 fun vs H2=>sp (x :: (vs ++ dvs)) H2 Q E
def tMake (C:Addr) (sp:Sp) (dvs:List V) (E:XK) (t:TA):TE:=fun σ H Q=>t σ H fun vs H1=>∀ x dx,H1 x = none→H1 dx = none→dx ≠ x →
  sp (.ref x :: (vs ++ dvs)) (upd (upd H1 dx (.own x)) x (.ins C dx [])) (fun v H2=>v = .non∧Q (.ref x) H2) E
def Binds (K:PySem.W.Frag) (fd:FuncData) (ps:List Str) (ds:List Value):Prop :=
  ∀ (s:Shared) (us:List Value),K.In s.heap→(us ++ ds).length = ps.length→BindsTo s fd ⟨us,[]⟩ (ps.zip (us ++ ds))
theorem Binds.all {K:PySem.W.Frag} {fd:FuncData} {ps:List Str} (h:∀ us:List Value,us.length = ps.length→bindArgs fd ⟨us,[]⟩ = pure (ps.zip us)):Binds K fd ps []:=fun s us _ hl=>by
  rw [List.append_nil] at hl ⊢
  exact .of_eq (h us hl)
def jT (CX:CXT) (X:Cx) (E:XK):Prop:=∀ (pins:List (Addr × Obj)) (σ:St) (H:Hp) (s:Shared) (e:Value) (s':Shared),Inv X pins σ H s→CX X.stack H s E e s'→X.xe e s'
section
variable {X:Cx} {CX:CXT} {k:Nat} {f C:Addr} {fd:FuncData} {ps:List Str} {sp:Sp} {dvs:List V} {ds:List Value} {E:XK} {x m:Str} {p pos apos:Pos} {e o:Expr} {es:List Expr} {ta:TE} {t:TA}
theorem aae {pins:List (Addr × Obj)} {σ:St} {H:Hp} {s:Shared} {Q:VK} {us:List Value} {vs:List V} (F:bB X.prog X.w X.K X.mg X.base CX k f fd ps sp) (hr:gP k X.A) (hb:Binds X.K fd ps ds) (hd:Vals dvs ds) (hx:jT CX X E)
    (I:Inv X pins σ H s) (r:Vals vs us) (h:sp (vs ++ dvs) H Q E):wpAny (model X.prog X.w) X.A (call (.ref f) us) (EP X pins σ Q) X.xe s:=by
  have r2:Vals (vs ++ dvs) (us ++ ds):=r.append hd
  have hl:(us ++ ds).length = ps.length:=by rw [← r2.length]; exact F.len _ _ _ _ h
  refine wpAny_call (codeAny_mono (F.run X.A X.stack s H ⟨us,[]⟩ (us ++ ds) (vs ++ dvs) Q E hr I.env0 (hb s us I.kIn hl) r2 h) fun r s' hq=>?_)
  cases r with
  | error e=>exact hx pins σ H s e s' I hq
  | ok fl =>
    cases fl with
    | ret u=>exact I.after hq
    | next=>exact False.elim hq
    | brk=>exact False.elim hq
    | cont=>exact False.elim hq
theorem bu (F:bB X.prog X.w X.K X.mg X.base CX k f fd ps sp) (hr:gP k X.A) (hg:Gl X x) (hm:X.mg x = some (.ref f)) (hk:PySem.W.keepIn X.K (.ref f) = true) (hb:Binds X.K fd ps ds) (hd:Vals dvs ds) (hx:jT CX X E)
    (ha:PA X (e :: es) t) (hdb:(x == ("__debug__":Str)) = false:=by decide) (he:starEach (e :: es) X.env = (false,eval e X.env) :: starEach es X.env:=by rfl) (hpl:(backTo pos (starEach es X.env)).any (·.1) = false:=by rfl) :
    PE X (.Call (.Name x p) (e :: es) [] pos) (VH sp dvs E t):=by
  intro pins s σ H Q I h
  refine wpAny_Call_Name_kw (t7 I hg hm ?_ hdb)
  refine PySem.W.callWith_K (h₀:=X.base) I.ok.mod.kin hk (thn (ha pos pins s σ H _ I h) fun us s1 ⟨vs,H1,I1,r,q⟩=>⟨I1.kIn,?_⟩) he hpl
  exact aae F hr hb hd hx I1 r q
theorem pe_meth0 {pl:Sem Bool} (he:PE X o ta) (c:Cls X.K C) (hm:Meth X.K C m f) (F:bB X.prog X.w X.K X.mg X.base CX k f fd ps sp) (hr:gP k X.A) (hb:Binds X.K fd ps ds) (hd:Vals dvs ds) (hx:jT CX X E)
    (ht:eval (.Call (.Attribute o m apos) [] [] pos) X.env = (do
      let ov ← eval o X.env
      standAt apos.atName
      let (f,first) ← holding [ov] (getMethod ov m pl)
      callWith pos f first (backTo pos (starEach [] X.env)) (backToKw pos (keywordEach [] X.env))):=by rfl) :
    PE X (.Call (.Attribute o m apos) [] [] pos) (tMeth C m sp dvs E ta DK):=by
  intro pins s σ H Q I h
  refine PySem.W.methodCall_KW (pl:=pl) (thn (he pins s σ H _ I h) fun u s1 ⟨x,H1,I1,rx,a,dx,fs,ex,ea,l,q⟩=>?_) ht
  subst ex
  obtain rfl:u = Value.ref a:=rx
  refine Pk I1 ea c hm l ?_
  exact PySem.W.callWith_K0 (first:=[.ref a]) I1.kIn hm.kp (aae (us:=[.ref a]) (vs:=[.ref a]) F hr hb hd hx I1 (.cons rfl .nil) q)
structure Mk (K:PySem.W.Frag) (C f:Addr):Prop where
  makes:PySem.W.makesIn K C = true
  init:PySem.W.findIn K (.ref C) "__init__" = some (some (.ref f))
  fn:PySem.W.isFn K (.ref f) = true
  kp:PySem.W.keepIn K (.ref C) = true
theorem acq {pins:List (Addr × Obj)} {σ:St} {H:Hp} {s:Shared} {Q:VK} {us:List Value} {vs:List V} (M:Mk X.K C f) (F:bB X.prog X.w X.K X.mg X.base CX k f fd ps sp) (hr:gP (k + 1) X.A) (hb:Binds X.K fd ps ds) (hd:Vals dvs ds)
    (hx:jT CX X E) (I:Inv X pins σ H s) (r:Vals vs us)
    (h:∀ x dx,H x = none→H dx = none→dx ≠ x→sp (.ref x :: (vs ++ dvs)) (upd (upd H dx (.own x)) x (.ins C dx [])) (fun v H2=>v = .non∧Q (.ref x) H2) E) :
    wpAny (model X.prog X.w) X.A (call (.ref C) us) (EP X pins σ Q) X.xe s:=by
  have hq:=h (s.heap.objs.size + 1) s.heap.objs.size (I.hok.fresh (Nat.le_succ _)) (I.hok.fresh (Nat.le_refl _)) (Nat.ne_of_lt (Nat.lt_succ_self _))
  have I2:=Inv.made (C:=C) I
  have r2:Vals (V.ref (s.heap.objs.size + 1) :: (vs ++ dvs)) (Value.ref (s.heap.objs.size + 1) :: (us ++ ds)):=.cons rfl (r.append hd)
  have hl:(Value.ref (s.heap.objs.size + 1) :: us ++ ds).length = ps.length:=by
    have e:=r2.length
    rw [F.len _ _ _ _ hq] at e
    exact e.symm
  refine wpAny_call (make_map (f:=f) I.kIn M.makes M.init (beq_iff_eq.mp M.fn) (codeAny_mono (F.run _ X.stack _ _ ⟨Value.ref (s.heap.objs.size + 1) :: us,[]⟩ (Value.ref (s.heap.objs.size + 1) :: (us ++ ds)) _ _ E (hr.make C us [])
    (I2.env0.make C us []) (hb _ (Value.ref (s.heap.objs.size + 1) :: us) I2.kIn hl) r2 hq) fun r s' hq'=>?_))
  cases r with
  | error e=>exact hx pins σ _ _ e s' I2 hq'
  | ok fl =>
    cases fl with
    | ret u =>
      obtain ⟨v,H',I3,rv,ev,q3⟩:=I2.after hq'
      subst ev
      exact ⟨rv,⟨V.ref (s.heap.objs.size + 1),H',I3,rfl,q3⟩⟩
    | next=>exact False.elim hq'
    | brk=>exact False.elim hq'
    | cont=>exact False.elim hq'
theorem uc (M:Mk X.K C f) (F:bB X.prog X.w X.K X.mg X.base CX k f fd ps sp) (hr:gP (k + 1) X.A) (hg:Gl X x) (hm:X.mg x = some (.ref C)) (hb:Binds X.K fd ps ds) (hd:Vals dvs ds) (hx:jT CX X E)
    (ha:PA X (e :: es) t) (hdb:(x == ("__debug__":Str)) = false:=by decide) (he:starEach (e :: es) X.env = (false,eval e X.env) :: starEach es X.env:=by rfl) (hpl:(backTo pos (starEach es X.env)).any (·.1) = false:=by rfl) :
    PE X (.Call (.Name x p) (e :: es) [] pos) (tMake C sp dvs E t):=by
  intro pins s σ H Q I h
  refine wpAny_Call_Name_kw (t7 I hg hm ?_ hdb)
  refine PySem.W.callWith_K (h₀:=X.base) I.ok.mod.kin M.kp (thn (ha pos pins s σ H _ I h) fun us s1 ⟨vs,H1,I1,r,q⟩=>⟨I1.kIn,?_⟩) he hpl
  exact acq M F hr hb hd hx I1 r q
theorem Gv (M:Mk X.K C f) (F:bB X.prog X.w X.K X.mg X.base CX k f fd ps sp) (hr:gP (k + 1) X.A) (hg:Gl X x) (hm:X.mg x = some (.ref C)) (hb:Binds X.K fd ps ds) (hd:Vals dvs ds) (hx:jT CX X E)
    (hdb:(x == ("__debug__":Str)) = false:=by decide):PE X (.Call (.Name x p) [] [] pos) (tMake C sp dvs E DK):=by
  intro pins s σ H Q I h
  refine wpAny_Call_Name_kw (t7 I hg hm ?_ hdb)
  exact PySem.W.callWith_K0 I.kIn M.kp (acq (us:=[]) M F hr hb hd hx I .nil h)
end
section
variable {X:Cx} {CX:CXT} {k:Nat} {f C:Addr} {fd:FuncData} {ps ks:List Str} {sp:Sp} {E:XK} {x m:Str} {p pos apos kpos:Pos} {e o:Expr} {es:List Expr} {kws:List Keyword} {te ta:TE} {t tk:TA} {nm:Option Str}
structure KBinds (K:PySem.W.Frag) (fd:FuncData) (ps ks:List Str) (g:List Value→List Value→List Value) (gV:List V→List V→List V):Prop where
  to:∀ (s:Shared) (us ws:List Value),K.In s.heap→(g us ws).length = ps.length→BindsTo s fd ⟨us,ks.zip ws⟩ (ps.zip (g us ws))
  rel:∀ {vs:List V} {us:List Value} {zs:List V} {ws:List Value},Vals vs us→Vals zs ws→Vals (gV vs zs) (g us ws)
variable {g:List Value→List Value→List Value} {gV:List V→List V→List V}
end
structure aR (N P:List Str) (sc:Scope):Prop where
  kind:sc.kind = .function
  co:sc.isCoroutine = false
  gen:sc.isGenerator = false
  nd:N.Nodup
  pre:N.take P.length = P
  par:∀ x ∈ P,sc.names.lookup x = some .local ∨ sc.names.lookup x = some .cell
  nofree:∀ y ∈ sc.names,y.2 ≠ .free
theorem Vh {kindOf:Str→Option NameKind} {x:Str}:∀ {binds:List (Str × Value)} {m:Str→Option Value},(∀ v,(x,v) ∉ binds)→bindL kindOf binds m x = m x
  | [],_,_=>rfl
  | (n,v) :: r,m,h=>by
    unfold bindL
    rw [Vh fun w hw=>h w (List.mem_cons_of_mem _ hw)]
    split
    · have:x ≠ n:=by rintro rfl; exact h v List.mem_cons_self
      simp [this]
    · rfl
theorem Vf {kindOf:Str→Option NameKind} {x:Str}:∀ {binds:List (Str × Value)} {m:Str→Option Value},(∀ v,(x,v) ∉ binds)→bindC kindOf binds m x = m x
  | [],_,_=>rfl
  | (n,v) :: r,m,h=>by
    unfold bindC
    rw [Vf fun w hw=>h w (List.mem_cons_of_mem _ hw)]
    split
    · rfl
    · have:x ≠ n:=by rintro rfl; exact h v List.mem_cons_self
      simp [this]
theorem Vg {kindOf:Str→Option NameKind} {x:Str} {v:Value}:∀ {P:List Str} {vs:List Value} {i:Nat} {m:Str→Option Value},P.Nodup→P[i]? = some x→vs[i]? = some v→kindOf x = some .local →
    bindL kindOf (P.zip vs) m x = some v
  | [],_,_,_,_,h,_,_=>by simp at h
  | _ :: _,[],_,_,_,_,h,_=>by simp at h
  | p :: P,w :: vs,0,m,nd,h1,h2,hk=>by
    simp at h1 h2; subst h1; subst h2
    show bindL kindOf ((p,w) :: P.zip vs) m p = _
    unfold bindL
    rw [Vh fun v hv=>(List.nodup_cons.mp nd).1 (List.of_mem_zip hv).1,if_pos hk]
    simp
  | p :: P,w :: vs,i + 1,m,nd,h1,h2,hk=>by
    show bindL kindOf ((p,w) :: P.zip vs) m x = _
    unfold bindL
    exact Vg (i:=i) (List.nodup_cons.mp nd).2 (by simpa using h1) (by simpa using h2) hk
theorem Ve {kindOf:Str→Option NameKind} {x:Str} {v:Value}:∀ {P:List Str} {vs:List Value} {i:Nat} {m:Str→Option Value},P.Nodup→P[i]? = some x→vs[i]? = some v→kindOf x ≠ some .local →
    bindC kindOf (P.zip vs) m x = some v
  | [],_,_,_,_,h,_,_=>by simp at h
  | _ :: _,[],_,_,_,_,h,_=>by simp at h
  | p :: P,w :: vs,0,m,nd,h1,h2,hk=>by
    simp at h1 h2; subst h1; subst h2
    show bindC kindOf ((p,w) :: P.zip vs) m p = _
    unfold bindC
    rw [Vf fun v hv=>(List.nodup_cons.mp nd).1 (List.of_mem_zip hv).1,if_neg hk]
    simp
  | p :: P,w :: vs,i + 1,m,nd,h1,h2,hk=>by
    show bindC kindOf ((p,w) :: P.zip vs) m x = _
    unfold bindC
    exact Ve (i:=i) (List.nodup_cons.mp nd).2 (by simpa using h1) (by simpa using h2) hk
def start (N:List Str) (vs:List V):St:=vs.map some ++ List.replicate (N.length - vs.length) none
def Hz (CX:CXT) (P:Program) (w:World) (K:PySem.W.Frag) (mg:Str→Option Value) (base:Heap) (N:List Str) (qual:Str) (scope:Scope) (f:Addr) (cd:Value) (A:Around) (outer:List Env) (s:Shared) (H:Hp) (E:XK):Cx where
  prog:=P
  w:=w
  K:=K
  mg:=mg
  base:=base
  A:=A.deeper (envOfC qual scope s.heap.objs.size f cd)
  N:=N
  s₀:=s
  H₀:=H
  env:=envOfC qual scope s.heap.objs.size f cd
  outer:=outer
  stack:=envOfC qual scope s.heap.objs.size f cd :: outer
  ex:=[]
  calm:=true
  fn:=fun _=>true
  pn:=[]
  xe:=fun e s'=>wpAny (model P w) (A.deeper (envOfC qual scope s.heap.objs.size f cd)) (leaving (envOfC qual scope s.heap.objs.size f cd) e) (fun _ s''=>CX outer H s E e s'') (fun e' s''=>CX outer H s E e' s'') s'
theorem abt {sc:Scope} {n:Nat} {x:Str} (h:sc.names.lookup x = some .cell):∃ c,(cellsFrom n sc.names []).lookup x = some c:=by
  have q:=PySem.W.cellsFrom_some sc.names n [] (.inl h)
  exact Option.isSome_iff_exists.mp q
theorem afK {CX:CXT} {P:Program} {w:World} {K:PySem.W.Frag} {mg:Str→Option Value} {base:Heap} {N ps:List Str} {qual:Str} {scope:Scope} {f:Addr} {cd:Value} {A:Around} {outer:List Env} {s s1:Shared} {H:Hp} {E:XK} {us:List Value} {vs:List V}
    (S:aR N ps scope) (hd:A.handled = none) (e0:Env0 P w K mg base A outer s H) (hl:vs.length = ps.length) (r:Vals vs us)
    (x:InCallC s s.heap.objs.size (bindL (envOfC qual scope s.heap.objs.size f cd).kindOf (ps.zip us) fun _=>none) (cellsFrom (s.heap.objs.size + 1) scope.names []) (bindC (envOfC qual scope s.heap.objs.size f cd).kindOf (ps.zip us) fun _=>none) s1) :
    Inv (Hz CX P w K mg base N qual scope f cd A outer s H E) [] (start N vs) H s1:=by
  have hpl:ps.length ≤ N.length:=by have:=congrArg List.length S.pre; rw [List.length_take] at this; omega
  obtain ⟨h1,tk,rfl,hk⟩:=x.done
  have noA:∀ b:Addr,b ∉ (Hz CX P w K mg base N qual scope f cd A outer s H E).ex:=fun b z=>absurd (show b ∈ ([]:List Addr) from z) (by simp)
  refine ⟨⟨e0.mod,S.kind,rfl,rfl,Nat.le_refl _,fun y z c h1 h2=>?_,fun y hy=>?_,fun y c _ h=>?_,fun _=>hd,Around.frames_deeper e0.frames,.inr ⟨rfl,rfl⟩,fun b z=>absurd z (noA b),e0.bs,e0.bsz,fun b _ _=>noA b,fun b z=>absurd z (noA b),e0.Bj,e0.frf⟩,
    rfl,e0.bare,Un.kept hk,⟨_,x.toInCall.ns,fun i y v h1 h2 h3=>?_⟩,fun y c h=>⟨_,x.cell y c h⟩,e0.hok.fresh (Nat.le_refl _),fun y c h=>?_,fun p hp=>absurd (show p ∈ ([]:List (Addr × Obj)) from hp) (by simp),e0.hok.kept hk,?_⟩
  · exact name_of_addr x.apart (PySem.mem_of_lookup h1) (PySem.mem_of_lookup h2)
  · have hy:scope.names.lookup y = some .cell ∨ scope.names.lookup y = some .free:=hy
    rcases hy with hy | hy
    · exact abt hy
    · exact absurd rfl (S.nofree _ (PySem.mem_of_lookup hy))
  · exact Nat.le_of_lt (x.above y c (PySem.mem_of_lookup h))
  · have hi:i < vs.length:=by
      unfold start at h2
      by_cases hi:i < vs.length
      · exact hi
      · rw [List.getElem?_append_right (by simpa using hi)] at h2
        rw [List.getElem?_replicate] at h2
        split at h2 <;> cases h2
    have ha:vs[i]? = some v:=by
      unfold start at h2
      rw [List.getElem?_append_left (by simpa using hi),List.getElem?_map] at h2
      cases e:vs[i]? with
      | none=>rw [e] at h2; cases h2
      | some a=>rw [e] at h2; cases h2; rfl
    obtain ⟨u,hu,rv⟩:=r.get ha
    have hp:ps[i]? = some y:=by
      rw [← S.pre,List.getElem?_take_of_lt (by omega)]; exact h1
    have ndP:ps.Nodup:=by rw [← S.pre]; exact S.nd.sublist (List.take_sublist _ _)
    refine ⟨u,rv,?_⟩
    rcases S.par y (List.mem_of_getElem? hp) with k | k
    · exact .inl ⟨k,Vg ndP hp hu k⟩
    · obtain ⟨c,e⟩:=abt (n:=s.heap.objs.size + 1) k
      refine .inr ⟨.inl k,c,e,?_⟩
      have q:=x.cell y c e
      rw [Ve ndP hp hu (by show scope.names.lookup y ≠ _; rw [k]; decide)] at q
      exact q
  · exact e0.hok.fresh (Nat.le_of_lt (x.above y c (PySem.mem_of_lookup h)))
  · unfold start
    show _ = N.length
    rw [List.length_append,List.length_map,List.length_replicate]
    omega
theorem fn_of {CX:CXT} {P:Program} {w:World} {K:PySem.W.Frag} {mg:Str→Option Value} {base:Heap} {k:Nat} {f:Addr} {name qual:Str} {params:Arguments} {body:List Stmt} {scope:Scope} {dV kV doc pm cdv ct oc:Value} {an od:Option Addr}
    {osl:Array (Option Value)} {N ps:List Str} {sp:Sp} (lk:K.lookup f = some ⟨oc,od,.func (PySem.W.fnOf name qual params body scope dV kV doc pm an cdv ct),osl⟩) (hcd:PySem.W.codeIn K cdv qual = true) (S:aR N ps scope)
    (len:∀ vs H Q E,sp vs H Q E→vs.length = ps.length)
    (hbody:∀ (A:Around) (outer:List Env) (s:Shared) (H:Hp) (vs:List V) (Q:VK) (E:XK),gP k (A.deeper (envOfC qual scope s.heap.objs.size f cdv))→sp vs H Q E →
      ∃ t,PSs (Hz CX P w K mg base N qual scope f cdv A outer s H E) body t∧t { nx:=fun _ H'=>Q .non H',rt:=Q } (start N vs) H) :
    bB P w K mg base CX (k + 1) f (PySem.W.fnOf name qual params body scope dV kV doc pm an cdv ct) ps sp:=by
  refine ⟨len,fun A outer s H args us vs Q E hr e0 hb r hsp=>?_⟩
  have hl:=len _ _ _ _ hsp
  have KX:K.In s.heap:=e0.mod.kin.keeps fun b o e=>(e0.bs b o e).1
  have lim:s.heap.NoLimit:=e0.mod.nolimit.keeps fun b o e=>(e0.bs b o e).1
  have hkind:∀ y ∈ ps.zip us,scope.names.lookup y.1 = some .local ∨ (scope.names.lookup y.1 = some .cell∧((cellsFrom (s.heap.objs.size + 1) scope.names []).lookup y.1).isSome = true):=fun ⟨n,v⟩ hy=>by
    rcases S.par n (List.of_mem_zip hy).1 with q | q
    · exact .inl q
    · exact .inr ⟨q,PySem.W.cellsFrom_some _ _ _ (.inl q)⟩
  refine codeAny_call_function hr.depth (KX _ _ lk) rfl S.co S.gen rfl (PySem.W.codeRec_of KX hcd) (hb _ _ _ _ ?_)
  refine wpAny_newFunctionEnv_cells S.kind hkind fun env he s1 x=>?_
  subst he
  refine ⟨lim.keeps x.toInCall.keep,codeAny_func ?_⟩
  obtain ⟨t,ht,hq⟩:=hbody A outer s H vs Q E (hr.deeper _) hsp
  have I:Inv (Hz CX P w K mg base N qual scope f cdv A outer s H E) [] (start N vs) H s1:=afK S hr.hd e0 hl r x
  refine wpAny_mono (ht [] s1 (start N vs) H _ I hq) (fun fl s' hs=>?_) fun e s' hs=>hs
  have fin:∀ {σ':St} {H':Hp} {v:V} {u:Value},Inv (Hz CX P w K mg base N qual scope f cdv A outer s H E) [] σ' H' s'→RelV v u→Q v H'→CE outer P w H s Q u s' :=
    fun {σ' H' v u} J rv q=>⟨v,H',J.os,J.bare,J.base,J.hok,rv,q⟩
  cases fl with
  | ret u =>
    obtain ⟨v,σ',H',J,rv,q⟩:=hs
    exact fin J rv q
  | next =>
    obtain ⟨σ',H',J,q⟩:=hs
    exact fin (v:=V.non) (u:=Value.none) J rfl q
  | brk =>
    obtain ⟨_,_,_,q⟩:=hs
    exact False.elim q
  | cont =>
    obtain ⟨_,_,_,q⟩:=hs
    exact False.elim q
end L2
namespace L2
open PySem PySem.Spec PyProof.Rows
section
variable {X:Cx} {x:Str} {p pos:Pos} {e:Expr} {es:List Expr} {t:TA} {id T:String} {r:List V→Hp→VK→Prop}
def tCB (r:List V→Hp→VK→Prop) (t:TA):TE:=fun σ H Q=>t σ H fun vs H1=>r vs H1 Q
theorem vG (hc:pQ X (.builtin id) r) (hg:Gl X x) (hm:X.mg x = none) (hv:bootBuiltins x = some (.builtin id)) (ha:PA X (e :: es) t) (hn:x ≠ "__name__":=by decide) (hdb:(x == ("__debug__":Str)) = false:=by decide)
    (he:starEach (e :: es) X.env = (false,eval e X.env) :: starEach es X.env:=by rfl) (hpl:(backTo pos (starEach es X.env)).any (·.1) = false:=by rfl):PE X (.Call (.Name x p) (e :: es) [] pos) (tCB r t):=by
  intro pins s σ H Q I h
  refine wpAny_Call_Name_kw (PQ I hg hm hv ?_ hn hdb)
  exact PyProof.Rows.callWith_builtin1 (thn (ha pos pins s σ H _ I h) fun us s1 ⟨vs,H1,I1,r1,q1⟩=>hc pins s1 σ H1 vs us Q I1 r1 q1) he hpl
theorem Jj (hc:pQ X (.type T) r) (hg:Gl X x) (hm:X.mg x = none) (hv:bootBuiltins x = some (.type T)) (ha:PA X (e :: es) t) (hn:x ≠ "__name__":=by decide) (hdb:(x == ("__debug__":Str)) = false:=by decide)
    (he:starEach (e :: es) X.env = (false,eval e X.env) :: starEach es X.env:=by rfl) (hpl:(backTo pos (starEach es X.env)).any (·.1) = false:=by rfl):PE X (.Call (.Name x p) (e :: es) [] pos) (tCB r t):=by
  intro pins s σ H Q I h
  refine wpAny_Call_Name_kw (PQ I hg hm hv ?_ hn hdb)
  exact PyProof.Rows.callWith_type1 (thn (ha pos pins s σ H _ I h) fun us s1 ⟨vs,H1,I1,r1,q1⟩=>hc pins s1 σ H1 vs us Q I1 r1 q1) he hpl
end
end L2
namespace HT
open PySem PyProof.Rows
section
open PySem.SeqAt
open PySem.AutoSeq1 (wpAny_loadPart')
open PySem.MeetsSeq PySem.MeetsSeq2 PySem.MeetsSeq3
end
section
variable {prog:Program} {w:World} {A:Around} {E:Value→Shared→Prop} {s:Shared}
def sIx (n d:Nat):Option Int→Nat
  | none=>d
  | some v=>if v < 0 then (v + (n:Int)).toNat else min v.toNat n
end
end HT
namespace L2
open PySem PySem.Spec PyProof.Rows
abbrev TO:=St→Hp→(Option Int→Hp→Prop)→Prop
def PO (X:Cx) (e:Option Expr) (t:TO):Prop :=
  ∀ (pins:List (Addr × Obj)) (s:Shared) (σ:St) (H:Hp) (Q:Option Int→Hp→Prop),Inv X pins σ H s→t σ H Q →
    wpAny (model X.prog X.w) X.A (evalPart e X.env) (fun u s'=>∃ o H',Inv X pins σ H' s'∧IsPart u o∧Q o H') X.xe s
def tNoPart:TO:=fun _ H Q=>Q none H
def tPart (t:TE):TO:=fun σ H Q=>t σ H fun x H1=>∃ i,x = .int i∧Q (some i) H1
section
variable {X:Cx} {e:Expr} {te:TE} {lo hi:Option Expr} {tl th:TO} {pos p2:Pos}
theorem po_none:PO X none tNoPart:=by
  intro pins s σ H Q I h
  rw [evalPart_none]
  exact wpAny_pure ⟨none,H,I,.none,h⟩
theorem po_some (h:PE X e te):PO X (some e) (tPart te):=by
  intro pins s σ H Q I hw
  rw [evalPart_some]
  refine thn (h pins s σ H _ I hw) fun u s1 ⟨x,H1,I1,r1,q1⟩=>?_
  obtain ⟨i,rfl,q⟩:=q1
  obtain ⟨t,rfl⟩:=r1
  exact ⟨some i,H1,I1,.int i t,q⟩
def SlR (X:Cx) (r:V→Option Int→Option Int→Hp→VK→Prop):Prop :=
  ∀ (pins:List (Addr × Obj)) (s:Shared) (σ:St) (H:Hp) (x:V) (v vl vu:Value) (lo hi:Option Int) (sl:Addr) (Q:VK),Inv X pins σ H s→RelV x v→s.heap.IsSliceOf sl vl vu .none→IsPart vl lo→IsPart vu hi→r x lo hi H Q →
    ∃ T id,typeLookup (.type T) "__getitem__" = pure (some (.builtin id))∧s.TypeIs v T∧wpAny (model X.prog X.w) X.A (getItem v (.ref sl)) (EP X pins σ Q) X.xe s
theorem SlR.or {r r':V→Option Int→Option Int→Hp→VK→Prop} (h:SlR X r) (h':SlR X r'):SlR X (fun x lo hi H Q=>r x lo hi H Q ∨ r' x lo hi H Q):=by
  intro pins s σ H x v vl vu lo hi sl Q I rx hs pl pu q
  rcases q with q | q
  · exact h pins s σ H x v vl vu lo hi sl Q I rx hs pl pu q
  · exact h' pins s σ H x v vl vu lo hi sl Q I rx hs pl pu q
def tSl (r:V→Option Int→Option Int→Hp→VK→Prop) (te:TE) (tl th:TO):TE:=fun σ H Q=>te σ H fun x H1=>tl σ H1 fun l H2=>th σ H2 fun u H3=>r x l u H3 Q
theorem pe_slice {r:V→Option Int→Option Int→Hp→VK→Prop} (hr:SlR X r) (he:PE X e te) (hl:PO X lo tl) (hu:PO X hi th):PE X (.Subscript e (.Slice lo hi none p2) pos) (tSl r te tl th):=by
  intro pins s σ H Q I h
  refine Subscript_ (thn (he pins s σ H _ I h) fun v s1 ⟨x,H1,I1,r1,q1⟩=>?_)
  refine wpAny_Slice (thn (hl pins s1 σ H1 _ I1 q1) fun vl s2 ⟨l,H2,I2,pl,q2⟩=>thn (hu pins s2 σ H2 _ I2 q2) fun vu s3 ⟨u,H3,I3,pu,q3⟩=>?_)
  rw [evalPart_none]
  refine wpAny_pure ?_
  have I4:Inv X pins σ H3 { s3 with heap:=s3.heap.push { cls:=.type "slice",data:=.fields #[vl,vu,.none] } }:=I3.kept (t':=s3.toks) fun b ob q=>Heap.get?_push_of_some _ q
  obtain ⟨T,id,hT,ht,hg⟩:=hr pins { s3 with heap:=s3.heap.push { cls:=.type "slice",data:=.fields #[vl,vu,.none] } } σ H3 x v vl vu l u s3.heap.objs.size Q I4 r1 (Heap.IsSliceOf.new ..) pl pu q3
  show wpAny (model X.prog X.w) X.A (subscriptTail e (.Slice lo hi none p2) v (.ref s3.heap.objs.size)) (EP X pins σ Q) X.xe { s3 with heap:=s3.heap.push { cls:=.type "slice",data:=.fields #[vl,vu,.none] } }
  exact tail_any (ops:=[.ref s3.heap.objs.size,v]) ht hT hg (by with_unfolding_all rfl)
def cutV (xs:List V) (lo hi:Option Int):List V:=(xs.drop (HT.sIx xs.length 0 lo)).take (HT.sIx xs.length xs.length hi - HT.sIx xs.length 0 lo)
theorem abA (xs:List V) (lo hi:Option Int):(cutV xs lo hi).length ≤ xs.length:=by
  unfold cutV
  rw [List.length_take,List.length_drop]
  omega
end
end L2
namespace L2
open PySem PySem.Spec PyProof.Rows
def ixN (n:Nat) (i:Int):Option Nat:=if 0 ≤ i then (if i < n then some i.toNat else none) else if -(n:Int) ≤ i then some (i + n).toNat else none
def atI {α:Type} (xs:List α) (i:Int):Option α:=(ixN xs.length i).bind fun j=>xs[j]?
theorem Ys {n:Nat} {i:Int} {j:Nat} (h:ixN n i = some j):seqIndex? i n = some j∧j < n∧-(n:Int) ≤ i∧i < n:=by
  unfold ixN at h
  by_cases h0:0 ≤ i
  · rw [if_pos h0] at h
    by_cases h1:i < n
    · rw [if_pos h1] at h
      have e:i.toNat = j:=Option.some.inj h
      exact ⟨by rw [seqIndex_of h0 h1,e],by omega,by omega,h1⟩
    · rw [if_neg h1] at h; cases h
  · rw [if_neg h0] at h
    by_cases h1:-(n:Int) ≤ i
    · rw [if_pos h1] at h
      have e:(i + n).toNat = j:=Option.some.inj h
      exact ⟨by rw [seqIndex_neg (by omega) h1,e],by omega,h1,by omega⟩
    · rw [if_neg h1] at h; cases h
theorem Wv {α:Type} {xs:List α} {i:Int} {v:α} (h:atI xs i = some v):∃ j,seqIndex? i xs.length = some j∧xs[j]? = some v∧j < xs.length∧-(xs.length:Int) ≤ i∧i < xs.length:=by
  unfold atI at h
  cases e:ixN xs.length i with
  | none=>rw [e] at h; cases h
  | some j =>
    rw [e] at h
    obtain ⟨h1,h2,h3,h4⟩:=Ys e
    exact ⟨j,h1,h,h2,h3,h4⟩
theorem iz {α:Type} {xs:List α} {j:Nat} {v:α} (h:xs[j]? = some v):atI xs (j:Int) = some v:=by
  have hj:j < xs.length:=(List.getElem?_eq_some_iff.mp h).1
  have e:ixN xs.length (j:Int) = some j:=by
    unfold ixN
    rw [if_pos (by omega),if_pos (by omega)]; simp
  unfold atI; rw [e]; exact h
def Ae (b:Expr):Prop:=∀ o i,subscripted b false o i = operate [o,i] (getItem o i)
def IxR (X:Cx) (r:R2):Prop :=
  ∀ (value slice:Expr) (pins:List (Addr × Obj)) (s:Shared) (σ:St) (H:Hp) (x y:V) (v u:Value) (Q:VK),Inv X pins σ H s→RelV x v→RelV y u→r x y H Q →
    subscripted slice false v u = operate [v,u] (getItem v u)→wpAny (model X.prog X.w) X.A (subscriptTail value slice v u) (EP X pins σ Q) X.xe s
def MtR (X:Cx) (id:String) (r:V→List V→Hp→VK→Prop):Prop :=
  ∀ (pins:List (Addr × Obj)) (s:Shared) (σ:St) (H:Hp) (x:V) (xs:List V) (v:Value) (us:List Value) (Q:VK),Inv X pins σ H s→RelV x v→Vals xs us→r x xs H Q →
    wpAny (model X.prog X.w) X.A (call (.builtin id) (v :: us)) (EP X pins σ Q) X.xe s
section
variable {X:Cx} {a b:Expr} {ta tb:TE} {pos:Pos}
theorem IxR.or {r r':R2} (h:IxR X r) (h':IxR X r'):IxR X (fun x y H Q=>r x y H Q ∨ r' x y H Q):=by
  intro value slice pins s σ H x y v u Q I rx ry q hs
  rcases q with q | q
  · exact h value slice pins s σ H x y v u Q I rx ry q hs
  · exact h' value slice pins s σ H x y v u Q I rx ry q hs
theorem MtR.or {id:String} {r r':V→List V→Hp→VK→Prop} (h:MtR X id r) (h':MtR X id r'):MtR X id (fun x xs H Q=>r x xs H Q ∨ r' x xs H Q):=by
  intro pins s σ H x xs v us Q I rx rs q
  rcases q with q | q
  · exact h pins s σ H x xs v us Q I rx rs q
  · exact h' pins s σ H x xs v us Q I rx rs q
theorem acg {r:R2} (hr:IxR X r) (ha:PE X a ta) (hb:PE X b tb) (hs:Ae b):PE X (.Subscript a b pos) (tOp r ta tb):=by
  intro pins s σ H Q I h
  exact Subscript_ (binT ha hb I h fun v u s2 x y H2 I2 rx ry q=>hr a b pins s2 σ H2 x y v u Q I2 rx ry q (hs _ _))
def rIxL (K:PySem.W.Frag):R2:=fun x y H Q=>∃ p xs i v,x = .ref p∧y = .int i∧SqL K H p xs∧atI xs i = some v∧Q v H
def rIxT (K:PySem.W.Frag):R2:=fun x y H Q=>∃ p xs i v,x = .ref p∧y = .int i∧SqT K H p xs∧atI xs i = some v∧Q v H
def rIxS:R2:=fun x y H Q=>∃ z i c,x = .str z∧y = .int i∧z.length ≤ sizeLine∧atI z.cps.toList i = some c∧Q (.str ⟨#[c]⟩) H
theorem M5:IxR X (rIxL X.K):=by
  intro value slice pins s σ H x y v u Q I rx ry h hs
  obtain ⟨p,xs,i,z,rfl,rfl,hq,he,q⟩:=h
  cases rx
  obtain ⟨t,rfl⟩:=ry
  obtain ⟨its,r,pl,hz⟩:=I.list hq
  obtain ⟨j,h1,h2,h3,h4,h5⟩:=Wv he
  obtain ⟨w,ew,rw'⟩:=r.get h2
  have hl:=r.length
  have hn:=Dl
  have fin:EP X pins σ Q w s:=⟨z,H,I,rw',q⟩
  by_cases h0:0 ≤ i
  · have hj:i.toNat = j:=by
      rw [seqIndex_of h0 h5] at h1
      exact Option.some.inj h1
    exact item_listR pl.isList h0 (by omega) (by rw [hj]; simpa using ew) fin hs
  · have hj:(i + (its.toArray.size:Int)).toNat = j:=by
      rw [seqIndex_neg (by omega) h4] at h1
      rw [List.size_toArray,← hl]
      exact Option.some.inj h1
    exact subscriptTail_builtinR (x:=w) pl.isList.typeIs slot_list_getitem.lookup
      (wpAny_getItem_list_neg (Q:=fun r s'=>r = w∧EP X pins σ Q r s') pl.isList (by omega) (by rw [List.size_toArray] <;> omega) (by omega) (by rw [hj]; simpa using ew) ⟨rfl,fin⟩) hs
theorem ix_tup:IxR X (rIxT X.K):=by
  intro value slice pins s σ H x y v u Q I rx ry h hs
  obtain ⟨p,xs,i,z,rfl,rfl,hq,he,q⟩:=h
  cases rx
  obtain ⟨t,rfl⟩:=ry
  obtain ⟨its,r,pl,hz⟩:=I.tuple hq
  obtain ⟨j,h1,h2,h3,h4,h5⟩:=Wv he
  obtain ⟨w,ew,rw'⟩:=r.get h2
  have hl:=r.length
  have hn:=Dl
  have fin:EP X pins σ Q w s:=⟨z,H,I,rw',q⟩
  exact subscriptTail_builtinR (x:=w) pl.typeIs slot_tuple_getitem.lookup
    (getItem_tuple (j:=j) (Q:=fun r s'=>r = w∧EP X pins σ Q r s') pl (by omega) (by omega) (by rw [List.size_toArray,← hl]; exact h1) (by simpa using ew) ⟨rfl,fin⟩) hs
theorem ix_str:IxR X rIxS:=by
  intro value slice pins s σ H x y v u Q I rx ry h hs
  obtain ⟨z,i,c,rfl,rfl,hz,he,q⟩:=h
  obtain ⟨t,rfl⟩:=rx
  obtain ⟨t',rfl⟩:=ry
  obtain ⟨j,h1,h2,h3,h4,h5⟩:=Wv he
  have hl:z.cps.toList.length = z.length:=by simp [Str.length]
  rw [hl] at h1 h4 h5
  have hn:=Dl
  exact tail_any (typeIs_str s z t) slot_str_getitem.lookup (getItem_str (c:=c) (by
    have e1:decide (i < -(2 ^ 63:Int)) = false:=decide_eq_false (by omega)
    have e2:decide (i ≥ 2 ^ 63) = false:=decide_eq_false (by omega)
    rw [e1,e2,Bool.or_false]) (by rw [h1]; simpa using h2) ⟨.str ⟨#[c]⟩,H,I.tok _,⟨_,rfl⟩,q⟩) hs
def rIx (K:PySem.W.Frag):R2:=fun x y H Q=>rIxL K x y H Q ∨ rIxT K x y H Q ∨ rIxS x y H Q
theorem ix_seq:IxR X (rIx X.K):=M5.or (ix_tup.or ix_str)
theorem ad4 (its:List Value) (n j:Nat) (u:Value):Obj.mapSeq (·.setIfInBounds j u) { cls:=.type "list",data:=.seq its.toArray n } = { cls:=.type "list",data:=.seq (its.set j u).toArray n }:=by
  simp [Obj.mapSeq]
theorem Inv.lst {pins:List (Addr × Obj)} {σ:St} {H:Hp} {s:Shared} {p:Addr} {xs:List V} (I:Inv X pins σ H s) (h:H p = some (.lst xs)) :
    ∃ (its:List Value) (n:Nat),Vals xs its∧s.heap.get? p = some { cls:=.type "list",data:=.seq its.toArray n }∧xs.length ≤ sizeLine:=by
  obtain ⟨z,its,n,r,e⟩:=I.hok p _ h
  exact ⟨its,n,r,e,z⟩
theorem Inv.lstUpd {pins:List (Addr × Obj)} {σ:St} {H:Hp} {s:Shared} {p:Addr} {xs ys:List V} {its its':List Value} {n n':Nat} {f:Obj→Obj} (I:Inv X pins σ H s) (h:H p = some (.lst xs))
    (ho:s.heap.get? p = some { cls:=.type "list",data:=.seq its.toArray n }) (hf:f { cls:=.type "list",data:=.seq its.toArray n } = { cls:=.type "list",data:=.seq its'.toArray n' }) (r:Vals ys its') (hz:ys.length ≤ sizeLine) (t:Nat) :
    Inv X pins σ (upd H p (.lst ys)) { s with heap:=s.heap.update p f,toks:=t }:=by
  have e:(s.heap.update p f).get? p = some { cls:=.type "list",data:=.seq its'.toArray n' }:=by
    rw [Heap.get?_update_self f ho (by rw [hf] <;> rfl),hf]
  refine I.write (x:=p) (e:=p) (by rw [h]; trivial) (.inl rfl) (fun b u hb q=>(Heap.get?_update_other _ _ (Ne.symm hb)).trans q) ⟨_,e⟩ ?_
  exact ⟨hz,its',n',r,e⟩
def rSetL:V→V→V→Hp→(Hp→Prop)→Prop:=fun o i v H Q=>∃ p xs k j,o = .ref p∧i = .int k∧H p = some (.lst xs)∧ixN xs.length k = some j∧Q (upd H p (.lst (xs.set j v)))
theorem set_list:PSet X rSetL:=by
  intro pins s σ H o i v ov iv u Q I ro ri rv h
  obtain ⟨p,xs,k,j,rfl,rfl,hp,hj,q⟩:=h
  cases ro
  obtain ⟨t,rfl⟩:=ri
  obtain ⟨its,n,r,ho,hz⟩:=I.lst hp
  obtain ⟨h1,h2,h3,h4⟩:=Ys hj
  have hl:=r.length
  have hn:=Dl
  have I':Inv X pins σ (upd H p (.lst (xs.set j v))) { s with heap:=s.heap.update p (Obj.mapSeq (·.setIfInBounds j u)) } :=
    I.lstUpd hp ho (ad4 its n j u) (r.set rv j) (by rw [List.length_set]; exact hz) s.toks
  by_cases h0:0 ≤ k
  · have hk:k.toNat = j:=by
      rw [seqIndex_of h0 h4] at h1
      exact Option.some.inj h1
    exact PySem.W.ki_setAt ho h0 (by omega) (by rw [List.size_toArray,← hl]; exact h4) (by rw [hk]; exact ⟨_,I',q⟩)
  · have hk:(k + (its.toArray.size:Int)).toNat = j:=by
      rw [seqIndex_neg (by omega) h3] at h1
      rw [List.size_toArray,← hl]
      exact Option.some.inj h1
    exact PySem.W.ki_setBack ho (by omega) (by rw [List.size_toArray,← hl]; exact h3) (by omega) (by rw [hk]; exact ⟨_,I',q⟩)
theorem aaL (lo hi:Option Int) (n:Nat):(sliceBounds lo hi none n).1 = ((HT.sIx n 0 lo:Nat):Int)∧(sliceBounds lo hi none n).2.1 = ((HT.sIx n n hi:Nat):Int)∧(sliceBounds lo hi none n).2.2 = 1:=by
  refine ⟨?_,?_,rfl⟩
  · cases lo with
    | none=>simp [sliceBounds,HT.sIx]
    | some i =>
      simp only [sliceBounds,HT.sIx,Option.getD_none,show (1:Int) > 0 by decide,if_true]
      by_cases h:i < 0
      · simp only [h,if_true] <;> omega
      · simp only [h,if_false] <;> omega
  · cases hi with
    | none=>simp [sliceBounds,HT.sIx]
    | some i =>
      simp only [sliceBounds,HT.sIx,Option.getD_none,show (1:Int) > 0 by decide,if_true]
      by_cases h:i < 0
      · simp only [h,if_true] <;> omega
      · simp only [h,if_false] <;> omega
theorem Ux (its:List Value) (lo hi:Option Int):slicePick its.toArray lo hi none = ((its.drop (HT.sIx its.length 0 lo)).take (HT.sIx its.length its.length hi - HT.sIx its.length 0 lo)).toArray:=by
  obtain ⟨h1,h2,h3⟩:=aaL lo hi its.toArray.size
  unfold slicePick
  rw [h1,h2,h3]
  simp only [sliceRange_one,pick_run,List.size_toArray] <;> rfl
def rSlL (K:PySem.W.Frag):V→Option Int→Option Int→Hp→VK→Prop:=fun x lo hi H Q=>∃ a xs,x = .ref a∧SqL K H a xs∧∀ p,H p = none→Q (.ref p) (upd H p (.lst (cutV xs lo hi)))
theorem sl_list:SlR X (rSlL X.K):=by
  intro pins s σ H x v vl vu lo hi sl Q I rx hs pl pu h
  obtain ⟨a,xs,rfl,hx,q⟩:=h
  cases rx
  obtain ⟨its,r,ht,hz⟩:=I.list hx
  have hlen:=r.length
  refine ⟨"list",_,slot_list_getitem.lookup,ht.isList.typeIs,?_⟩
  refine wpAny_getItem_list_slice ht.isList hs pl pu .none (by simp) ?_ (by rw [List.size_toArray] <;> omega)
  rw [Ux,← hlen]
  refine ⟨.ref s.heap.objs.size,_,I.laid (t':=s.toks) (o:=.lst (cutV xs lo hi)) (fun b ob q=>Heap.get?_push_of_some _ q) (Nat.le_refl _) ?_,rfl,q _ (I.hok.fresh (Nat.le_refl _))⟩
  exact ⟨Nat.le_trans (abA xs lo hi) hz,_,0,(r.drop (HT.sIx xs.length 0 lo)).take (HT.sIx xs.length xs.length hi - HT.sIx xs.length 0 lo),Heap.get?_push_size _ rfl⟩
def yf:V→Bool
  | .non=>true
  | .bl _=>true
  | .int _=>true
  | .str _=>true
  | _=>false
def eqV:V→V→Bool
  | .non,.non=>true
  | .bl a,.bl b=>a == b
  | .bl a,.int b=>(if a then 1 else 0) == b
  | .int a,.bl b=>a == (if b then 1 else 0)
  | .int a,.int b=>a == b
  | .str a,.str b=>a == b
  | _,_=>false
theorem eqAt_V {A:Around} {s:Shared} {y x:V} {u v:Value} (ry:RelV y u) (rx:RelV x v) (fy:yf y = true) (fx:yf x = true):SeqAt.EqAt A s u v (eqV y x):=by
  cases y with
  | non =>
    cases ry
    cases x with
    | non=>cases rx; exact SeqAt.EqAt.same _
    | bl b=>cases rx; exact SeqAt.EqAt.none_bool b
    | int b=>obtain ⟨t,rfl⟩:=rx; exact SeqAt.EqAt.none_int b t
    | str b=>obtain ⟨t,rfl⟩:=rx; exact SeqAt.EqAt.none_str b t
    | _=>exact absurd (show false = true from fx) Bool.false_ne_true
  | bl a =>
    cases ry
    cases x with
    | non=>cases rx; exact SeqAt.EqAt.bool_none a
    | bl b=>cases rx; exact SeqAt.EqAt.bool_bool a b
    | int b=>obtain ⟨t,rfl⟩:=rx; exact SeqAt.EqAt.bool_int a b t
    | str b=>obtain ⟨t,rfl⟩:=rx; exact SeqAt.EqAt.bool_str a b t
    | _=>exact absurd (show false = true from fx) Bool.false_ne_true
  | int a =>
    obtain ⟨t',rfl⟩:=ry
    cases x with
    | non=>cases rx; exact SeqAt.EqAt.int_none a t'
    | bl b=>cases rx; exact SeqAt.EqAt.int_bool a t' b
    | int b=>obtain ⟨t,rfl⟩:=rx; exact SeqAt.EqAt.int_int a t' b t
    | str b=>obtain ⟨t,rfl⟩:=rx; exact SeqAt.EqAt.int_str a t' b t
    | _=>exact absurd (show false = true from fx) Bool.false_ne_true
  | str a =>
    obtain ⟨t',rfl⟩:=ry
    cases x with
    | non=>cases rx; exact SeqAt.EqAt.str_none a t'
    | bl b=>cases rx; exact SeqAt.EqAt.str_bool a t' b
    | int b=>obtain ⟨t,rfl⟩:=rx; exact SeqAt.EqAt.str_int a t' b t
    | str b=>obtain ⟨t,rfl⟩:=rx; exact SeqAt.EqAt.str_str a t' b t
    | _=>exact absurd (show false = true from fx) Bool.false_ne_true
  | _=>exact absurd (show false = true from fy) Bool.false_ne_true
def eqU (x:V) (u:Value):Bool:=match u with
  | .none=>eqV .non x
  | .bool b=>eqV (.bl b) x
  | .int i _=>eqV (.int i) x
  | .str z _=>eqV (.str z) x
  | _=>false
theorem eqU_of {x y:V} {u:Value} (r:RelV y u) (f:yf y = true):eqU x u = eqV y x:=by
  cases y with
  | non=>cases r; rfl
  | bl b=>cases r; rfl
  | int i=>obtain ⟨t,rfl⟩:=r; rfl
  | str z=>obtain ⟨t,rfl⟩:=r; rfl
  | _=>exact absurd (show false = true from f) Bool.false_ne_true
theorem Wu {x:V}:∀ {xs:List V} {us:List Value},Vals xs us→xs.all yf = true→us.any (eqU x) = xs.any fun y=>eqV y x
  | _,_,.nil,_=>rfl
  | y :: xs,u :: us,.cons r t,f=>by
    rw [List.all_cons,Bool.and_eq_true] at f
    rw [List.any_cons,List.any_cons,eqU_of r f.1,Wu t f.2]
theorem P0 {A:Around} {s:Shared} {x:V} {v:Value} (rx:RelV x v) (fx:yf x = true):∀ {xs:List V} {us:List Value},Vals xs us→xs.all yf = true→∀ u ∈ us,SeqAt.EqAt A s u v (eqU x u)
  | _,_,.nil,_=>fun u hu=>by cases hu
  | y :: xs,u :: us,.cons r t,f=>fun u' hu=>by
    rw [List.all_cons,Bool.and_eq_true] at f
    rcases List.mem_cons.mp hu with rfl | hu
    · rw [eqU_of r f.1]; exact eqAt_V r rx f.1 fx
    · exact P0 rx fx t f.2 u' hu
def inV (x:V) (xs:List V):Bool:=xs.any fun y=>eqV y x
def rIn (K:PySem.W.Frag) (neg:Bool):R2:=fun x y H Q=>∃ p xs,y = .ref p∧(SqL K H p xs ∨ SqT K H p xs)∧yf x = true∧xs.all yf = true∧Q (.bl (if neg then !inV x xs else inV x xs)) H
theorem afT:OpR X (compareOp .In) (rIn X.K false):=by
  intro pins s σ H x y v u Q I rx ry h
  obtain ⟨p,xs,rfl,hq,fx,fs,q⟩:=h
  cases ry
  rcases hq with hq | hq
  · obtain ⟨its,r,pl,hz⟩:=I.list hq
    refine SeqAt.in_listAt (eqU x) pl.isList (fun w hw=>P0 rx fx r fs w (by simpa using hw)) ⟨.bl _,H,I,rfl,?_⟩
    rw [show its.toArray.any (eqU x) = its.any (eqU x) by simp,Wu r fs]
    exact q
  · obtain ⟨its,r,pl,hz⟩:=I.tuple hq
    refine SeqAt.in_tupleAt (eqU x) pl (fun w hw=>P0 rx fx r fs w (by simpa using hw)) ⟨.bl _,H,I,rfl,?_⟩
    rw [show its.toArray.any (eqU x) = its.any (eqU x) by simp,Wu r fs]
    exact q
theorem WD:pQ X (.builtin "len") (fun xs H Q=>∃ p ys,xs = [.ref p]∧(SqL X.K H p ys ∨ SqT X.K H p ys)∧Q (.int ys.length) H):=by
  intro pins s σ H xs us Q I r h
  obtain ⟨p,ys,rfl,hq,q⟩:=h
  obtain ⟨u,rfl,rx⟩:=vals1 r
  cases rx
  have hn:=Dl
  rcases hq with hq | hq
  · obtain ⟨its,r',pl,hz⟩:=I.list hq
    have hlen:=r'.length
    exact Calls.call_len_list pl.isList (by simp only [List.size_toArray] <;> omega) ⟨.int ys.length,H,I.tok _,⟨s.toks + 1,by rw [List.size_toArray,hlen]⟩,q⟩
  · obtain ⟨its,r',pl,hz⟩:=I.tuple hq
    have hlen:=r'.length
    exact len_tuple pl (by simp only [List.size_toArray] <;> omega) ⟨.int ys.length,H,I.tok _,⟨s.toks + 1,by rw [List.size_toArray,hlen]⟩,q⟩
theorem WF:pQ X (.builtin "len") (fun xs H Q=>∃ z,xs = [.str z]∧z.length ≤ sizeLine∧Q (.int z.length) H):=by
  intro pins s σ H xs us Q I r h
  obtain ⟨z,rfl,hz,q⟩:=h
  obtain ⟨u,rfl,t,rfl⟩:=vals1 r
  have hn:=Dl
  exact len_str (by omega) ⟨.int z.length,H,I.tok _,⟨_,rfl⟩,q⟩
theorem pQ.or {f:Value} {r r':List V→Hp→VK→Prop} (h:pQ X f r) (h':pQ X f r'):pQ X f (fun xs H Q=>r xs H Q ∨ r' xs H Q):=by
  intro pins s σ H xs us Q I rs q
  rcases q with q | q
  · exact h pins s σ H xs us Q I rs q
  · exact h' pins s σ H xs us Q I rs q
theorem WK:pQ X (.type "list") (fun xs H Q=>∃ p ys,xs = [.ref p]∧(SqL X.K H p ys ∨ SqT X.K H p ys)∧∀ l,H l = none→Q (.ref l) (upd H l (.lst ys))):=by
  intro pins s σ H xs us Q I r h
  obtain ⟨p,ys,rfl,hq,q⟩:=h
  obtain ⟨u,rfl,rx⟩:=vals1 r
  cases rx
  have fin:∀ (its:List Value),Vals ys its→ys.length ≤ sizeLine→∀ (h':Heap) (c':Nat),(∀ b o',s.heap.get? b = some o'→h'.get? b = some o') →
      h'.get? s.heap.objs.size = some { cls:=.type "list",dict:=none,data:=.seq its.toArray c',slots:=#[] }→EP X pins σ Q (.ref s.heap.objs.size) { s with heap:=h' }:=fun its r' hz h' c' kp e =>
    ⟨.ref s.heap.objs.size,_,I.laid (t':=s.toks) kp (Nat.le_refl _) (show dX X.prog X.w _ h' _ (.lst ys) from ⟨hz,its,c',r',e⟩),rfl,q _ (I.hok.fresh (Nat.le_refl _))⟩
  rcases hq with hq | hq
  · obtain ⟨its,r',pl,hz⟩:=I.list hq
    have hlen:=r'.length
    obtain ⟨o,ho,hc,n,hd⟩:=pl.isList
    exact call_list_seq p (.inl rfl) ho hc hd (fun h' c' kp e=>fin its r' hz h' c' kp e) (by simp only [List.size_toArray] <;> omega)
  · obtain ⟨its,r',pl,hz⟩:=I.tuple hq
    have hlen:=r'.length
    obtain ⟨o,ho,hc,n,hd⟩:=pl
    exact call_list_seq p (.inr rfl) ho hc hd (fun h' c' kp e=>fin its r' hz h' c' kp e) (by simp only [List.size_toArray] <;> omega)
theorem Ru:pQ X (.type "tuple") (fun xs H Q=>∃ p ys,xs = [.ref p]∧((SqL X.K H p ys∧∀ l,H l = none→Q (.ref l) (upd H l (.tup ys))) ∨ (SqT X.K H p ys∧Q (.ref p) H))):=by
  intro pins s σ H xs us Q I r h
  obtain ⟨p,ys,rfl,h⟩:=h
  obtain ⟨u,rfl,rx⟩:=vals1 r
  cases rx
  rcases h with ⟨hq,q⟩ | ⟨hq,q⟩
  · obtain ⟨its,r',pl,hz⟩:=I.list hq
    have hlen:=r'.length
    refine call_tuple_list pl.isList (fun h' kp=>?_) (by simp only [List.size_toArray] <;> omega)
    have I1:Inv X pins σ H { s with heap:=h' }:=I.kept (t':=s.toks) kp
    have I2:Inv X pins σ (upd H h'.objs.size (.tup ys)) { s with heap:=h'.push { cls:=.type "tuple",data:=.seq its.toArray } } :=
      I1.laid (t':=s.toks) (fun b o e=>Heap.get?_push_of_some _ e) (Nat.le_refl _) (show dX X.prog X.w _ _ _ (.tup ys) from ⟨hz,its,r',IsTup.new _ _⟩)
    exact ⟨.ref h'.objs.size,_,I2,rfl,q _ (I1.hok.fresh (Nat.le_refl _))⟩
  · obtain ⟨its,r',pl,hz⟩:=I.tuple hq
    exact call_tuple_same pl ⟨.ref p,H,I,rfl,q⟩
def tyV (K:PySem.W.Frag) (T:String) (x:V) (H:Hp):Prop:=match x with
  | .str _=>T = "str"
  | .int _=>T = "int"
  | .ref p=>(T = "list"∧∃ xs,SqL K H p xs) ∨ (T = "tuple"∧∃ o,K.lookup p = some o∧o.cls = .type "tuple"∧o.dict = none) ∨
      (T = "dict"∧((∃ kvs,H p = some (.dK kvs)) ∨ ∃ kvs,H p = some (.dT kvs))) ∨ (T = "set"∧∃ S n,H p = some (.set S n))
  | _=>False
theorem tyV_is {pins:List (Addr × Obj)} {σ:St} {H:Hp} {s:Shared} {T:String} {x:V} {v:Value} (I:Inv X pins σ H s) (r:RelV x v) (ty:tyV X.K T x H) :
    s.TypeIs v T∧∀ a,v = .ref a→∃ ob,s.heap.get? a = some ob∧ob.dict = none:=by
  cases x with
  | str z =>
    obtain ⟨t,rfl⟩:=r
    cases (show T = "str" from ty)
    exact ⟨typeIs_str s z t,fun _ e=>nomatch e⟩
  | int i =>
    obtain ⟨t,rfl⟩:=r
    cases (show T = "int" from ty)
    exact ⟨typeIs_int s i t,fun _ e=>nomatch e⟩
  | ref p =>
    cases r
    rcases ty with ⟨rfl,xs,hq⟩ | ⟨rfl,o,hk,hc,hd⟩ | ⟨rfl,hk⟩ | ⟨rfl,S,n,hk⟩
    · obtain ⟨its,_,pl,_⟩:=I.list hq
      refine ⟨pl.isList.typeIs,fun a e=>?_⟩
      cases e
      obtain ⟨o,n,e,c,hd,_⟩:=pl
      exact ⟨o,e,hd⟩
    · refine ⟨⟨o,I.kIn p o hk,hc⟩,fun a e=>?_⟩
      cases e
      exact ⟨o,I.kIn _ o hk,hd⟩
    · have z:∃ o,s.heap.get? p = some o∧o.ExactDict:=by
        rcases hk with ⟨kvs,hk⟩ | ⟨kvs,hk⟩
        · obtain ⟨_,_,_,_,o,_,_,e,ex,_⟩:=I.hok p _ hk
          exact ⟨o,e,ex⟩
        · obtain ⟨_,_,_,_,o,_,_,e,ex,_⟩:=I.hok p _ hk
          exact ⟨o,e,ex⟩
      obtain ⟨o,e,ex⟩:=z
      refine ⟨⟨o,e,ex.1⟩,fun a e2=>?_⟩
      cases e2
      exact ⟨o,e,ex.2.1⟩
    · obtain ⟨o,_,_,_,e,ex,_⟩:=I.hok p _ hk
      refine ⟨⟨o,e,ex.1⟩,fun a e2=>?_⟩
      cases e2
      exact ⟨o,e,ex.2.1⟩
  | _=>exact False.elim ty
def tBM (K:PySem.W.Frag) (T:String) (r:V→List V→Hp→VK→Prop) (to:TE) (t:TA):TE:=fun σ H Q=>to σ H fun x H1=>tyV K T x H1∧t σ H1 fun xs H2=>r x xs H2 Q
variable {o e:Expr} {es:List Expr} {to:TE} {t:TA} {name:Str} {apos cpos:Pos} {T id:String} {r:V→List V→Hp→VK→Prop}
theorem VB (pa:PlainAttrs T) (slot:Slot T name id) (hty:typeOf (.builtin id) = pure (.type "method_descriptor")) (hm:MtR X id r) (ho:PE X o to) (ha:PA X (e :: es) t)
    (hbase:attributeBase o name X.env (eval o X.env) = eval o X.env:=by rfl)
    (hfew:((backTo cpos (starEach (e :: es) X.env)).all (fun x=>!x.1) && (backToKw cpos (keywordEach [] X.env)).all (fun x=>x.1.isSome)
      && decide ((e :: es).length + ([]:List Keyword).length + (if ([]:List Keyword).isEmpty then 0 else 1) < 30)) = true:=by rfl)
    (hline:(apos.endLine == cpos.line) = true:=by rfl) (hs:starEach (e :: es) X.env = (false,eval e X.env) :: starEach es X.env:=by rfl) (hplain:(backTo cpos (starEach es X.env)).any (·.1) = false:=by rfl) :
    PE X (.Call (.Attribute o name apos) (e :: es) [] cpos) (tBM X.K T r to t):=by
  intro pins s σ H Q I h
  refine wpAny_Call_method_late hbase hfew hline rfl (thn (ho pins s σ H _ I h) fun v s1 ⟨x,H1,I1,r1,ty,q1⟩=>?_)
  obtain ⟨h1,h2⟩:=tyV_is I1 r1 ty
  refine ⟨T,id,pa,slot,hty,h1,h2,?_⟩
  have hA:=ha cpos pins s1 σ H1 _ I1 q1
  rw [hs] at hA ⊢
  refine Calls.callWith_builtin (by show (false || (backTo cpos (starEach es X.env)).any (·.1)) = false; rw [hplain] <;> rfl) (Calls.evalArgs_plain ?_)
  exact thn hA fun us s2 ⟨vs,H2,I2,r2,q2⟩=>hm pins s2 σ H2 x vs v us Q I2 r1 r2 q2
end
end L2
namespace L2
open PySem PySem.Spec PyProof.Rows
def MtM (X:Cx) (id:String) (r:V→List V→Hp→VK→Prop):Prop :=
  ∀ (pins:List (Addr × Obj)) (s:Shared) (σ:St) (H:Hp) (x:V) (xs:List V) (v:Value) (us:List Value) (Q:VK),Inv X pins σ H s→RelV x v→Vals xs us→r x xs H Q →
    wpAny (model X.prog X.w) X.A (call (.builtin id) (v :: us)) (EP X pins σ Q) X.xe s
theorem Vals.one:∀ {x:V} {us:List Value},Vals [x] us→∃ u,us = [u]∧RelV x u
  | _,_,.cons r .nil=>⟨_,rfl,r⟩
theorem Vals.zero:∀ {us:List Value},Vals [] us→us = []
  | _,.nil=>rfl
theorem Vals.reverse {xs:List V} {us:List Value} (h:Vals xs us):Vals xs.reverse us.reverse:=by
  induction h with
  | nil=>exact .nil
  | cons r t ih=>rw [List.reverse_cons,List.reverse_cons]; exact Vals.append ih (.cons r .nil)
theorem Vals.rep {xs:List V} {us:List Value} (h:Vals xs us):∀ k:Nat,Vals (List.replicate k xs).flatten (List.replicate k us).flatten
  | 0=>.nil
  | k + 1=>by
    rw [List.replicate_succ,List.replicate_succ,List.flatten_cons,List.flatten_cons]
    exact Vals.append h (Vals.rep h k)
theorem foldl_rep (its:List Value):∀ (k:Nat) (acc:List Value),
    List.foldl (fun x1 x2=>x1 ++ x2) acc.toArray (List.replicate k its.toArray) = (acc ++ (List.replicate k its).flatten).toArray
  | 0,acc=>by simp
  | k + 1,acc=>by
    have e:acc.toArray ++ its.toArray = (acc ++ its).toArray:=by simp
    have e2:(acc ++ its) ++ (List.replicate k its).flatten = acc ++ (List.replicate (k + 1) its).flatten:=by
      rw [List.replicate_succ,List.flatten_cons,List.append_assoc]
    rw [← e2,← foldl_rep its k (acc ++ its),← e,List.replicate_succ,List.foldl_cons]
section
variable {X:Cx} {pins:List (Addr × Obj)} {σ:St} {H:Hp} {s:Shared} {l b:Addr} {xs ys zs:List V}
theorem Inv.lset {its its':List Value} {n:Nat} {f:Array Value→Array Value} {t':Nat} (I:Inv X pins σ H s) (hH:H l = some (.lst xs))
    (e:s.heap.get? l = some { cls:=.type "list",data:=.seq its.toArray n }) (hf:f its.toArray = its'.toArray) (hv:Vals ys its') (hz:ys.length ≤ sizeLine) :
    Inv X pins σ (upd H l (.lst ys)) { s with heap:=s.heap.update l (Obj.mapSeq f),toks:=t' }:=by
  have q:=PySem.IsL.update e f
  rw [hf] at q
  refine I.write (x:=l) (e:=l) (by rw [hH]; exact trivial) (.inl rfl) (fun b' u hb hu=>(Heap.get?_update_other s.heap (Obj.mapSeq f) (Ne.symm hb)).trans hu) ⟨_,q⟩ ?_
  exact ⟨hz,its',_,hv,q⟩
theorem Inv.lnew {its:List Value} {t':Nat} (I:Inv X pins σ H s) (hv:Vals ys its) (hz:ys.length ≤ sizeLine) :
    Inv X pins σ (upd H s.heap.objs.size (.lst ys)) { s with heap:=s.heap.push { cls:=.type "list",data:=.seq its.toArray },toks:=t' } :=
  I.laid (fun _ _ q=>Heap.get?_push_of_some _ q) (Nat.le_refl _) ⟨hz,its,0,hv,Heap.get?_push_size _ rfl⟩
theorem Inv.fresh (I:Inv X pins σ H s):H s.heap.objs.size = none:=I.hok.fresh (Nat.le_refl _)
theorem Inv.lstM (I:Inv X pins σ H s) (hH:H l = some (.lst xs)):xs.length ≤ sizeLine∧∃ (its:List Value) (n:Nat),Vals xs its∧xs.length = its.length∧s.heap.get? l = some { cls:=.type "list",data:=.seq its.toArray n }:=by
  obtain ⟨z,its,n,r,e⟩:=I.hok l _ hH
  exact ⟨z,its,n,r,r.length,e⟩
theorem notLongL {n:Nat} (h:n ≤ sizeLine):Builtin.List.listTooLong n = false:=by
  unfold Builtin.List.listTooLong
  exact decide_eq_false (by omega)
end
section
variable {X:Cx}
def M7:V→List V→Hp→VK→Prop:=fun x vs H Q=>∃ l xs y,x = .ref l∧vs = [y]∧H l = some (.lst xs)∧xs.length < sizeLine∧Q .non (upd H l (.lst (xs ++ [y])))
theorem qF:MtM X "list.append" M7:=by
  intro pins s σ H x vs v us Q I rx rv h
  obtain ⟨l,xs,y,rfl,rfl,hH,hz,q⟩:=h
  cases rx
  obtain ⟨u,rfl,ru⟩:=rv.one
  obtain ⟨z,its,n,r,hl,e⟩:=I.lstM hH
  refine call_meets F.slot_list_append ⟨_,e,rfl⟩ F.entry_list_append (F.args_list_append_2 _ _) (PySem.list_append l its.toArray n u (by rw [List.size_toArray]; omega)) ⟨e,?_⟩
  refine ⟨.non,_,I.lset (its':=its ++ [u]) hH e (by simp) (r.append (.cons ru .nil)) ?_,rfl,q⟩
  rw [List.length_append,List.length_singleton]
  omega
def rCat:R2:=fun x y H Q=>∃ l b xs zs,x = .ref l∧y = .ref b∧H l = some (.lst xs)∧H b = some (.lst zs)∧xs.length + zs.length ≤ sizeLine∧∀ p,H p = none→Q (.ref p) (upd H p (.lst (xs ++ zs)))
theorem op_cat:OpR X (binaryOp .Add) rCat:=by
  intro pins s σ H x y v u Q I rx ry h
  obtain ⟨l,b,xs,zs,rfl,rfl,hH,hB,hz,q⟩:=h
  cases rx
  cases ry
  obtain ⟨z,its,n,r,hl,e⟩:=I.lstM hH
  obtain ⟨z2,its2,n2,r2,hl2,e2⟩:=I.lstM hB
  refine PySem.P.add_list e e2 ?_ (by rw [List.size_toArray,List.size_toArray]; omega)
  have ea:its.toArray ++ its2.toArray = (its ++ its2).toArray:=by simp
  rw [ea]
  exact ⟨.ref _,_,I.lnew (t':=s.toks) (r.append r2) (by rw [List.length_append]; omega),rfl,q _ I.fresh⟩
def rRep:R2:=fun x y H Q=>∃ l k xs,x = .ref l∧y = .int k∧H l = some (.lst xs)∧-(2 ^ 63) ≤ k∧k < 2 ^ 63∧xs.length * k.toNat ≤ sizeLine ∧
  ∀ p,H p = none→Q (.ref p) (upd H p (.lst (List.replicate k.toNat xs).flatten))
theorem len_rep {α:Type} (xs:List α) (k:Nat):(List.replicate k xs).flatten.length = k * xs.length:=by
  induction k with
  | zero=>simp
  | succ k ih=>rw [List.replicate_succ,List.flatten_cons,List.length_append,ih,Nat.succ_mul,Nat.add_comm]
theorem op_rep:OpR X (binaryOp .Mult) rRep:=by
  intro pins s σ H x y v u Q I rx ry h
  obtain ⟨l,k,xs,rfl,rfl,hH,h1,h2,hz,q⟩:=h
  cases rx
  obtain ⟨t,rfl⟩:=ry
  obtain ⟨z,its,n,r,hl,e⟩:=I.lstM hH
  have hlen:its.toArray.size * k.toNat ≤ sizeLine:=by rw [List.size_toArray,← hl]; exact hz
  have hcap:¬ its.toArray.size * k.toNat > (2 ^ 63 - 1) / 8:=by
    have:(sizeLine:Nat) ≤ (2 ^ 63 - 1) / 8:=by decide
    omega
  have hfit:¬ (!Builtin.List.listFitsIndex k) = true:=by
    rw [fitsIndex_both h1 h2]
    exact Bool.false_ne_true
  have hlong:¬ Builtin.List.listTooLong (its.toArray.size * k.toNat) = true:=by
    rw [notLongL hlen]
    exact Bool.false_ne_true
  have hnew:List.foldl (fun x1 x2=>x1 ++ x2) #[] (List.replicate (if its.toArray.isEmpty = true then 0 else k.toNat) its.toArray) = (List.replicate k.toNat its).flatten.toArray:=by
    have f0:∀ m:Nat,List.foldl (fun x1 x2=>x1 ++ x2) #[] (List.replicate m its.toArray) = (List.replicate m its).flatten.toArray:=fun m=>by
      have:=foldl_rep its m []
      rw [List.nil_append] at this
      exact this
    rw [f0]
    cases its with
    | nil=>simp
    | cons a r'=>rw [if_neg (by simp)]
  refine wpAny_binaryOp_repeat_ref (T:="list") (U:="int") (by decide) ⟨_,e,rfl⟩ (fun s'=>typeIs_int s' k t) noFill_list_mul F.fills_int_mul F.slot_int_rmul repeat_list F.slot_int_index.lookup
    (call_meets F.slot_int_rmul (typeIs_int s k t) F.entry_int_rmul (F.args_int_rmul_2 _ _) (int___rmul___int_list k t l its.toArray n)
      ⟨e,rfl,⟨_,e,rfl⟩,call_meets F.slot_list_mul ⟨_,e,rfl⟩ F.entry_list_mul (F.args_list_mul_2 _ _) (AutoListH.list___mul___list_int_3 l its.toArray n k t hfit hcap hlong) ⟨e,?_⟩⟩)
  rw [hnew]
  exact ⟨.ref _,_,I.lnew (t':=s.toks) (r.rep k.toNat) (by rw [len_rep,Nat.mul_comm]; exact hz),rfl,q _ I.fresh⟩
end
section
variable {prog:Program} {w:World} {A:Around} {E:Value→Shared→Prop} {s:Shared}
end
section
variable {X:Cx}
end
end L2
namespace Att
open PySem PySem.W PySem.Calls PyProof.Rows
theorem Lj {P:Params} {h:Heap}:∀ (ns:List Int) (vs:List Value),WellAll P h vs (ns.map WData.int)→IntsAre vs ns:=by
  intro ns
  induction ns with
  | nil =>
    intro vs w
    rw [List.map_nil] at w
    cases w
    exact .nil
  | cons n ns ih =>
    intro vs w
    rw [List.map_cons] at w
    cases w with
    | cons a b =>
      cases a
      exact .cons _ _ (ih _ b)
theorem af1 {l:OpenLaw} {n:Nat} (hn:l.most = some n) {P:Params} {h:Heap} {args:List WData} {vals:List Value}
    (hpre:l.row.toRowW.claim.pre args = true) (hwl:WellAll P h vals args) :
    ∃ a vs ns,vals = [Value.ref a]∧args = [WData.list (ns.map WData.int)]∧h.get? a = some { cls:=.type "list",data:=.seq vs.toArray }∧IntsAre vs ns∧ns.length ≤ n:=by
  have hsh:WShape.hasAll [] args [.list .int] = true:=(pre_splitW hpre).1
  have hc:l.pre.holds [] { args:=args } = true:=(pre_splitW hpre).2
  obtain ⟨d,r,rfl,h1,h2⟩:=hasAllW_cons hsh
  obtain rfl:=hasAllW_nil h2
  obtain ⟨xs,rfl,h3⟩:=hasW_list h1
  obtain ⟨ns,rfl⟩:=items_int h3
  have hlen:ns.length ≤ n:=by
    unfold OpenLaw.pre at hc
    have h4:(WTm.not (.lt (.lit (.int (n:Int))) (.len (.arg 0)))).holds [] { args:=[.list (ns.map .int)] } = true:=by
      have h4:=(holds_andW hc).1
      rw [hn] at h4
      exact h4
    have h5:=condW_of h4 (w_not (w_lt w_lit (w_len_list (w_arg rfl))))
    rw [List.length_map] at h5
    refine Nat.le_of_not_lt fun q=>?_
    have q':(n:Int) < ((ns.length:Nat):Int):=by omega
    first
      | (rw [decide_eq_true q'] at h5; exact absurd h5 (by decide))
      | (simp at h5; omega)
  cases hwl with
  | cons w1 w2 =>
    cases w2
    cases w1 with
    | list ho hall=>exact ⟨_,_,ns,rfl,rfl,ho,Lj ns _ hall,hlen⟩
theorem afW (l:OpenLaw) (args:List WData):l.row.toRowW.claim.post args (.bool true) args = true :=
  postW_of (r:=l.row.toRowW) (X:=(true == true))
    (show WShape.has [] (.bool true) .bool = true by first | rfl | decide | simp [WShape.has,WShape.arms,WShape.armsAll])
    (show (WTm.eq .res (.lit (.bool true))).value [] { args:=args,res:=some (.bool true),after:=args } = some (.bool (true == true)) from w_eq_bool (w_res rfl) w_lit) rfl
theorem abk {l:OpenLaw} {n:Nat} {q:Program} {loose:List Str} {XP:(Str→Option Value)→Heap→Prop} {YP:World→Heap→Prop} {d:DefRec}
    (hn:l.most = some n) (hdf:d.params.defaults = [])
    (call:∀ (w:World) (s₀ s₁:Shared) (mg mb:Str→Option Value) (fa:Addr) (o:Obj) (pm cd doc:Value) (a:Addr) (vs:List Value) (ns:List Int),
      Ground q loose [] XP w s₀ mg mb s₁.heap→YP w s₁.heap →
      s₁.heap.get? fa = some o→o.data = .func (docDef d.name d.params d.body d.scope pm cd doc)→s₁.heap.CodeRec cd d.name→mg d.name = some (.ref fa) →
      s₁.heap.get? a = some { cls:=.type "list",data:=.seq vs.toArray }→IntsAre vs ns→ns.length ≤ n→s₁.gens = #[] →
      codeAny (model l.prog w) callerA (.call (.ref fa) ⟨[.ref a],[]⟩) (fun r s'=>r = .ok (.ret (.bool true))∧OldK s₁.heap s'.heap∧s'.os = s₁.os∧AllBare s'.gens) s₁) :
    WalkO q loose XP YP l.row.toRowW d [] (fun f vs=>PySem.call f vs):=by
  intro w s₀ s₁ mg mb G Y fa o pm cd doc dV kV ho hd hcd hD hmg hg args vals as hpre hlay hrd hwl hlo
  obtain rfl:dV = .none:=Dflts.none hD hdf
  obtain rfl:kV = .none:=Dflts.noKw hD
  obtain ⟨a,vs,ns,rfl,rfl,hobj,hints,hlen⟩:=af1 hn hpre hwl
  refine enter_call (codeAny_mono (call w s₀ s₁ mg mb fa o pm cd doc a vs ns G Y ho (fd_plain hd) hcd hmg hobj hints hlen hg) fun r s' hq=>?_)
  obtain ⟨rfl,h2,h3,h4⟩:=hq
  exact ⟨.inl ⟨.bool true,.bool true,[],rfl,fun _=>rfl,.bool true,afW l _,fun _=>⟨List.Pairwise.nil,fun _ hm=>(nomatch hm)⟩⟩,h2,h3,h4⟩
section
variable {prog:Program} {w:World} {A:Around} {E:Value→Shared→Prop} {s:Shared} {K:Frag}
end
end Att
namespace L2
open PySem PySem.Spec PyProof.Rows
theorem VJ:∀ {vs:List Value} {ns:List Int},IntsAre vs ns→Vals (ns.map V.int) vs
  | _,_,.nil=>.nil
  | _,_,.cons n t h=>.cons ⟨t,rfl⟩ (VJ h)
def Only (H:Hp):Prop:=∀ b,H b = none ∨ ∃ o xs,H b = some (.frz o (.lst xs))
theorem law_call {P:Program} {w:World} {K:PySem.W.Frag} {mg mb:Str→Option Value} {CX:CXT} {k:Nat} {fa a:Addr} {fd:FuncData} {x:Str} {sp:Sp} {s₁:Shared} {vs:List Value} {ns:List Int}
    (KX:K.In s₁.heap) (hns:s₁.heap.Ns mainGlobals mg) (hb:s₁.heap.Ns builtinsNs mb) (hbb:∀ x:Str,x ≠ "__name__"→mb x = bootBuiltins x) (hlim:s₁.heap.NoLimit) (hg:s₁.gens = #[])
    (ha:s₁.heap.get? a = some { cls:=.type "list",data:=.seq vs.toArray }) (hi:IntsAre vs ns) (hl:ns.length ≤ sizeLine) (hr:gP k callerA)
    (F:∀ base:Heap,K.In base→base.Ns mainGlobals mg→bB P w K mg base CX k fa fd [x] sp) (hbind:∀ (s:Shared) (u:Value),BindsTo s fd ⟨[u],[]⟩ [(x,u)])
    (hsp:∀ H:Hp,Only H→SqL K H a (ns.map V.int)→sp [.ref a] H (fun v _=>v = .bl true) fun _ _ _=>False)
    (hCX:∀ H e s',CX [] H s₁ (fun _ _ _=>False) e s'→False) :
    codeAny (model P w) callerA (.call (.ref fa) ⟨[.ref a],[]⟩) (fun r s'=>r = .ok (.ret (.bool true))∧OldK s₁.heap s'.heap∧s'.os = s₁.os∧AllBare s'.gens) s₁:=by
  have rv:=VJ hi
  have lenV:=hi.length
  have core:∀ H:Hp,Only H→SqL K H a (ns.map V.int)→HOk P w H s₁.heap→(∀ b,H b ≠ none→b = a)→(H a ≠ none→K.lookup a = none) →
      codeAny (model P w) callerA (.call (.ref fa) ⟨[.ref a],[]⟩) (fun r s'=>r = .ok (.ret (.bool true))∧OldK s₁.heap s'.heap∧s'.os = s₁.os∧AllBare s'.gens) s₁:=by
    intro H hO hS hok hA hK
    have base_of:∀ {b:Addr} {o:Obj},s₁.heap.get? b = some o→H b = none→(hidT s₁.heap H).get? b = some o:=fun e n=>hidT_get e n
    have noA:∀ {b:Addr} {o:Obj} {es:Array DictEntry} {ep:Nat},s₁.heap.get? b = some o→o.data = .dict es ep→H b = none:=fun {b o es ep} e d=>by
      cases q:H b with
      | none=>rfl
      | some u =>
        have e':b = a:=hA b (by rw [q]; simp)
        subst e'
        rw [ha] at e; cases e
        have d':Data.seq vs.toArray _ = Data.dict es ep:=d
        cases d'
    have nsK:∀ {b:Addr} {m:Str→Option Value},s₁.heap.Ns b m→(hidT s₁.heap H).Ns b m:=fun {b m} ⟨o,es,ep,e,d,r⟩=>⟨o,es,ep,base_of e (noA e d),d,r⟩
    have hKb:K.In (hidT s₁.heap H):=fun b o e=>base_of (KX b o e) (by
      cases q:H b with
      | none=>rfl
      | some u =>
        have e':b = a:=hA b (by rw [q]; simp)
        subst e'
        rw [hK (by rw [q]; simp)] at e; cases e)
    have hM:Mod K mg (hidT s₁.heap H):=⟨hKb,nsK hns,⟨mb,nsK hb,hbb⟩,let ⟨mc,h1,h2⟩:=hlim; ⟨mc,nsK h1,h2⟩⟩
    have e0:Env0 P w K mg (hidT s₁.heap H) callerA [] s₁ H:=⟨rfl,hM,fun b o e=>of_hidT e,Nat.le_of_eq (afH _ _),trivial,fun b hb=>absurd (show b ∈ ([]:List Addr) from hb) (by simp),hok,.of_eq hg⟩
    refine codeAny_mono ((F _ hKb (nsK hns)).run callerA [] s₁ H ⟨[.ref a],[]⟩ [.ref a] [.ref a] _ _ hr e0 (hbind s₁ (.ref a)) (.cons rfl .nil) (hsp H hO hS)) fun r s' h=>?_
    cases r with
    | error e=>exact (hCX H e s' h).elim
    | ok fl =>
      cases fl with
      | next=>exact False.elim h
      | brk=>exact False.elim h
      | cont=>exact False.elim h
      | ret u =>
        obtain ⟨v,H',os,bare,un,hok',r',q⟩:=h
        have q':v = .bl true:=q
        subst q'
        obtain rfl:u = Value.bool true:=r'
        refine ⟨rfl,OldK.of_keep fun b o e=>?_,os,bare⟩
        cases q:H b with
        | none=>exact un.keep b o e q (by intro z; exact absurd (show b ∈ ([]:List Addr) from z) (by simp)) (by simp)
        | some u =>
          rcases hO b with z | ⟨ob,xs,z⟩
          · rw [q] at z; cases z
          · have z2:=un.Bh b ob _ z
            obtain ⟨e1,_⟩:=hok b _ z
            obtain ⟨e2,_⟩:=hok' b _ z2
            rw [e] at e1; cases e1
            exact e2
  cases hk:K.lookup a with
  | some o =>
    have e:=KX a o hk
    rw [ha] at e
    cases e
    refine core (fun _=>none) (fun _=>.inl rfl) (.inr ⟨_,vs.toArray,_,hk,rfl,rfl,rfl,by rw [List.size_toArray,lenV]; exact hl,by simpa using rv⟩) (fun b u z=>by have z':(none:Option HO) = some u:=z; cases z') (fun b z=>absurd rfl z) fun z=>absurd rfl z
  | none =>
    refine core (fun b=>if b = a then some (.frz { cls:=.type "list",data:=.seq vs.toArray } (.lst (ns.map V.int))) else none) (fun b=>?_) (.inl (.inr ⟨{ cls:=.type "list",data:=.seq vs.toArray },if_pos rfl⟩)) (fun b u z=>?_) (fun b z=>?_) fun _=>hk
    · by_cases hb:b = a
      · exact .inr ⟨_,_,if_pos hb⟩
      · exact .inl (if_neg hb)
    · by_cases hb:b = a
      · have z':=(if_pos hb).symm.trans z
        cases z'
        subst hb
        exact ⟨ha,by rw [List.length_map]; exact hl,vs,_,rv,ha⟩
      · have z':=(if_neg hb).symm.trans z
        cases z'
    · by_cases hb:b = a
      · exact hb
      · exact absurd (if_neg hb) z
end L2
namespace L2
open PySem PySem.Spec PyProof.Rows
theorem walk_of {l:PySem.W.OpenLaw} {n k:Nat} {q:Program} {loose:List Str} {XP:(Str→Option Value)→Heap→Prop} {YP:World→Heap→Prop} {d:DefRec} {K:Params→PySem.W.Frag} {CX:World→CXT} {sp:World→Sp} {x:Str}
    (hn:l.most = some n) (hn2:n ≤ sizeLine) (hdf:d.params.defaults = []) (hr:gP k callerA)
    (hY:∀ (w:World) (h:Heap),YP w h→(K w.params).In h)
    (F:∀ (w:World) (mg:Str→Option Value) (fa:Addr) (h:Heap),(K w.params).In h→h.Ns mainGlobals mg→mg d.name = some (.ref fa) →
      ∃ fd:FuncData,(∀ (s:Shared) (u:Value),BindsTo s fd ⟨[u],[]⟩ [(x,u)]) ∧
        ∀ base:Heap,(K w.params).In base→base.Ns mainGlobals mg→bB l.prog w (K w.params) mg base (CX w) k fa fd [x] (sp w))
    (hsp:∀ (w:World) (H:Hp) (a:Addr) (ns:List Int),ns.length ≤ n→Only H→SqL (K w.params) H a (ns.map V.int)→sp w [.ref a] H (fun v _=>v = .bl true) fun _ _ _=>False)
    (hCX:∀ (w:World) (H:Hp) (s:Shared) (e:Value) (s':Shared),CX w [] H s (fun _ _ _=>False) e s'→False) :
    PySem.W.WalkO q loose XP YP l.row.toRowW d [] (fun f vs=>PySem.call f vs):=by
  refine Att.abk hn hdf fun w s₀ s₁ mg mb fa o pm cd doc a vs ns G Y ho hd hcd hmg hobj hints hlen hg=>?_
  have KX:=hY w _ Y
  obtain ⟨fd,hb,hF⟩:=F w mg fa _ KX G.T.g hmg
  exact law_call KX G.T.g G.T.b G.T.builtins G.T.nolimit hg hobj hints (Nat.le_trans hlen hn2) hr hF hb (fun H hO hS=>hsp w H a ns hlen hO hS) fun H e s'=>hCX w H s₁ e s'
end L2
namespace L2
open PySem PySem.Spec PyProof.Rows
def inClass (s:Stmt) (j:Nat):Stmt:=match s with
  | .ClassDef _ _ _ body _ _ _ _ _ _ _=>body.getD j (.Pass ⟨0,0,0,0⟩)
  | _=>.Pass ⟨0,0,0,0⟩
def aU (s:Stmt):Arguments:=match s with
  | .FunctionDef _ a _ _ _ _ _ _ _ _=>a
  | _=>{ posonlyargs:=[],args:=[],vararg:=none,kwonlyargs:=[],kw_defaults:=[],kwarg:=none,defaults:=[] }
def aP (s:Stmt):List Stmt:=match s with
  | .FunctionDef _ _ b _ _ _ _ _ _ _=>b
  | _=>[]
def ao (s:Stmt):Scope:=match s with
  | .FunctionDef _ _ _ _ _ _ sc _ _ _=>sc
  | _=>{ kind:=.function,names:=[],isGenerator:=false,isCoroutine:=false }
abbrev CX0:CXT:=fun _ _ _ _ _ _=>False
abbrev E0:XK:=fun _ _ _=>False
theorem pass0 {X:Cx}:jT CX0 X E0:=fun _ _ _ _ _ _ _ h=>h.elim
structure Fun (K:PySem.W.Frag) (x qual:Str) (st:Stmt) (f:Addr) (fd:FuncData):Prop where
  ex:∃ (oc:Value) (od:Option Addr) (kV doc pm:Value) (an:Option Addr) (cdv ct:Value) (osl:Array (Option Value)),
    fd = PySem.W.fnOf x qual (aU st) (aP st) (ao st) .none kV doc pm an cdv ct∧K.lookup f = some ⟨oc,od,.func fd,osl⟩∧PySem.W.codeIn K cdv qual = true
  kp:PySem.W.keepIn K (.ref f) = true
section
variable {P:Program} {w:World} {K:PySem.W.Frag} {mg:Str→Option Value} {base:Heap}
theorem Fun.ok {x qual:Str} {st:Stmt} {f:Addr} {fd:FuncData} {N ps:List Str} {k:Nat} {sp:Sp} (F:Fun K x qual st f fd) (S:aR N ps (ao st)) (len:∀ vs H Q E,sp vs H Q E→vs.length = ps.length)
    (hbody:∀ (cdv:Value) (A:Around) (outer:List Env) (s:Shared) (H:Hp) (vs:List V) (Q:VK) (E:XK),gP k (A.deeper (envOfC qual (ao st) s.heap.objs.size f cdv))→sp vs H Q E →
      ∃ t,PSs (Hz CX0 P w K mg base N qual (ao st) f cdv A outer s H E).nox (aP st) t∧t { nx:=fun _ H'=>Q .non H',rt:=Q } (start N vs) H):bB P w K mg base CX0 (k + 1) f fd ps sp:=by
  obtain ⟨oc,od,kV,doc,pm,an,cdv,ct,osl,rfl,lk,hcd⟩:=F.ex
  refine fn_of lk hcd S len fun A outer s H vs Q E hr hsp=>?_
  obtain ⟨t,h,q⟩:=hbody cdv A outer s H vs Q E hr hsp
  exact ⟨t,h.nox,q⟩
theorem Fun.binds {x qual:Str} {st:Stmt} {f:Addr} {fd:FuncData} {ps:List Str} (F:Fun K x qual st f fd)
    (h:∀ (kV doc pm:Value) (an:Option Addr) (cdv ct:Value) (us:List Value),us.length = ps.length→bindArgs (PySem.W.fnOf x qual (aU st) (aP st) (ao st) .none kV doc pm an cdv ct) ⟨us,[]⟩ = pure (ps.zip us)):Binds K fd ps []:=by
  obtain ⟨oc,od,kV,doc,pm,an,cdv,ct,osl,rfl,lk,hcd⟩:=F.ex
  exact .all (h kV doc pm an cdv ct)
theorem bx {x qual:Str} {st:Stmt} {f:Addr} {oc:Value} {od an:Option Addr} {osl:Array (Option Value)} {kV doc pm cdv ct:Value} (l:K.lookup f = some ⟨oc,od,.func (PySem.W.fnOf x qual (aU st) (aP st) (ao st) .none kV doc pm an cdv ct),osl⟩)
    (c:PySem.W.codeIn K cdv qual = true) (k:PySem.W.keepIn K (.ref f) = true):Fun K x qual st f (PySem.W.fnOf x qual (aU st) (aP st) (ao st) .none kV doc pm an cdv ct):=⟨⟨oc,od,kV,doc,pm,an,cdv,ct,osl,rfl,l,c⟩,k⟩
end
section
variable {X:Cx}
theorem pv (i:Nat) {x:Str} {pos:Pos} (hN:X.N[i]? = some x:=by rfl) (hv:Vis X.env.scope x:=by first | exact Or.inl rfl | exact Or.inr (Or.inl rfl) | exact Or.inr (Or.inr rfl)) (hd:(x == ("__debug__":Str)) = false:=by decide)
    (hcd:(x == ("__classdict__":Str)) = false:=by decide):PE X (.Name x pos) (xR i):=pe_var hN hv hd hcd
end
def bC (H H':Hp):Prop:=∀ b o,H b = some o→H' b = some o
theorem bC.refl (H:Hp):bC H H:=fun _ _ h=>h
theorem bC.trans {H H1 H2:Hp} (a:bC H H1) (b:bC H1 H2):bC H H2:=fun c o h=>b c o (a c o h)
theorem bC.free {H H':Hp} (e:bC H H') {l:Addr} (h:H' l = Option.none):H l = Option.none:=by
  cases q:H l with
  | none=>rfl
  | some o =>
    rw [e l o q] at h
    cases h
theorem bC.seq {K:PySem.W.Frag} {H H':Hp} {a:Addr} {xs:List V} (e:bC H H') (h:SqL K H a xs):SqL K H' a xs:=by
  rcases h with (h | ⟨o,h⟩) | h
  · exact .inl (.inl (e _ _ h))
  · exact .inl (.inr ⟨o,e _ _ h⟩)
  · exact .inr h
end L2
set_option maxHeartbeats 1000000
namespace MX
open PySem
section
variable {prog:Program} {w:World} {A:Around} {E:Value→Shared→Prop} {h:Heap} {g:Array GenState} {d:Drawn} {t:Nat} {os:OsState}
variable {nm q:Str} {C N:Addr} {bs bm bmB:List Value} {hdct:Bool} {sn:List Str} {sub:List Value} {ab:Bool} {col:Option Bool} {dd:Option Addr} {k0 k1 k2 k3 k5:Option Value} {B newId initId:String}
abbrev aad (C t:Addr):Obj:={ cls:=.ref C,data:=.fields #[.ref t,.none,.none,.none,.bool false,.none] }
abbrev aac (vs:List Value):Obj:={ cls:=.type "tuple",data:=.seq vs.toArray }
abbrev Az (h:Heap) (C:Addr) (vs:List Value):Heap:=(h.push (aac vs)).push (aad C h.objs.size)
theorem aaU (F:ExcBaseFacts B newId initId bmB) (T:OwnTail h bmB bm) {mN:Str→Option Value} {vs:List Value} {fI:Addr} {oI:Obj} {Q:Fin→Shared→Prop}
    (hC:h.get? C = some (excClassObj nm q C N bs bm hdct sn sub ab col dd k0 k1 k2 k3 k5 newId)) (hn:h.Ns N mN) (hi:mN "__init__" = some (.ref fI)) (hf:h.get? fI = some oI) (hfc:oI.cls = .type "function")
    (hz:vs.length ≤ sizeLine)
    (k:wpAny (model prog w) A (call (.ref fI) (.ref (h.objs.size + 1) :: vs)) (fun r s'=>r = .none∧Q (.done (.ret (.ref (h.objs.size + 1)))) s') E ⟨Az h C vs,g,d,t,os⟩) :
    wpAny (model prog w) A (Builtin.«type.__call__» ⟨.ref C :: vs,[]⟩) Q E ⟨h,g,d,t,os⟩:=by
  repeat (first | with_reducible refine wpAny_loadPart_at hC ?_ | with_reducible refine wpAny_madeBy_exc hC ?_ | wp_step)
  refine codeAny_call_builtin_code (Code.quiet_builtin _ F.quiet) (wpAny_check_new_subT F T hC (codeAny_exc_new_subT F T hC ?_ hz))
  show wpAny _ _ _ _ _ _
  have up:∀ b o,h.get? b = some o→(Az h C vs).get? b = some o:=fun b o e=>Heap.get?_push_of_some _ (Heap.get?_push_of_some _ e)
  have hC1:=up _ _ hC
  have hf1:=up _ _ hf
  have hx:(Az h C vs).get? (h.objs.size + 1) = some (aad C h.objs.size):=by heap_get
  have own:(Value.ref C :: bm).contains (.ref C) = true:=by simp
  unfold isInstance
  repeat (first | with_reducible refine wpAny_loadPart_at hx ?_ | (with_reducible refine wpAny_isSubtype_exc hC1 ?_; rw [own]) | wp_step)
  show wpAny _ _ (typeLookup (.ref C) _) _ _ _
  refine wpAny_typeLookup_tail hC1 (hn.keeps up) (T.keeps up) F.mroIs F.init.lookup ?_
  rw [hi]
  refine wpAny_holding (wpAny_bind ?_)
  unfold bindSpecial
  refine wpAny_bind (wpAny_typeOf (T:="function") ⟨_,hf1,hfc⟩ ?_)
  rw [if_pos (by decide)]
  refine wpAny_pure (wpAny_bind (wpAny_mono k (fun r s' z=>?_) fun _ _ z=>z))
  obtain ⟨rfl,z⟩:=z
  wp_walk
  exact z
theorem callInit (F:ExcBaseFacts B newId initId bmB) (T:OwnTail h bmB bm) {mN:Str→Option Value} {vs:List Value} {fI:Addr} {oI:Obj} {Q:Value→Shared→Prop}
    (hC:h.get? C = some (excClassObj nm q C N bs bm hdct sn sub ab col dd k0 k1 k2 k3 k5 newId)) (hn:h.Ns N mN) (hi:mN "__init__" = some (.ref fI)) (hf:h.get? fI = some oI) (hfc:oI.cls = .type "function")
    (hz:vs.length ≤ sizeLine)
    (k:wpAny (model prog w) (A.under (.builtin "type.__call__" ⟨.ref C :: vs,[]⟩)) (call (.ref fI) (.ref (h.objs.size + 1) :: vs)) (fun r s'=>r = .none∧Q (.ref (h.objs.size + 1)) s') E ⟨Az h C vs,g,d,t,os⟩) :
    wpAny (model prog w) A (call (.ref C) vs) Q E ⟨h,g,d,t,os⟩:=by
  have e1:=tc_lookup
  have e2:=tc_bind (.ref C)
  have ty:(⟨h,g,d,t,os⟩:Shared).TypeIs (.ref C) "type":=⟨_,hC,rfl⟩
  refine wpAny_call (codeAny_of_tree ?_)
  show wpAny _ _ (callAny (.ref C) _) _ _ _
  repeat (any_goals (first | assumption | with_reducible refine wpAny_loadPart_at hC ?_ | wp_step))
  exact ⟨rfl,codeAny_call_builtin_at (Code.quiet_builtin _ (by decide +kernel)) entry_typeCall (wpAny_check_type_call_sub hC (aaU F T hC hn hi hf hfc hz k))⟩
theorem adQ (F:ExcBaseFacts B newId initId bmB) (T:OwnTail h bmB bm) {e:Addr} {oe:Obj} {fs:Array Value} {t0:Addr} {vs:List Value} {Q:Value→Shared→Prop}
    (hC:h.get? C = some (excClassObj nm q C N bs bm hdct sn sub ab col dd k0 k1 k2 k3 k5 newId)) (he:h.get? e = some oe) (hc:oe.cls = .ref C) (hd:oe.data = .fields fs) (h0:fs[0]? = some (.ref t0)) (hz:vs.length ≤ sizeLine)
    (k:∀ h',(∀ b o,b ≠ e→h.get? b = some o→h'.get? b = some o)→h'.get? e = some { oe with data:=.fields (fs.setIfInBounds 0 (.ref h.objs.size)) }→Q .none ⟨h',g,d,t,os⟩) :
    wpAny (model prog w) A (call (.builtin initId) (.ref e :: vs)) Q E ⟨h,g,d,t,os⟩:=by
  refine wpAny_call (codeAny_call_builtin F.init.plain F.initEntry (wpAny_check_init_subT F T hC he hc ?_))
  have he1:(h.push (aac vs)).get? e = some oe:=Heap.get?_push_of_some _ he
  have hlt:0 < fs.size:=(Array.getElem?_eq_some_iff.mp h0).1
  unfold Builtin.«BaseException.__init__»
  repeat (first | with_reducible refine wpAny_field he1 hd h0 ?_ | wp_step)
  rw [hd]
  dsimp only
  rw [if_pos hlt]
  refine wpAny_update' he1 (wpAny_letGo (wpAny_pure ?_))
  refine k _ (fun b o hb e1=>(Heap.get?_update_ne _ _ _ _ hb).trans (Heap.get?_push_of_some _ e1)) ?_
  obtain ⟨oc,od,oda,osl⟩:=oe
  dsimp only at hd
  subst hd
  exact Heap.get?_update_self _ he1 rfl
end
section
variable {prog:Program} {w:World} {A:Around} {E:Value→Shared→Prop} {h:Heap} {g:Array GenState} {d:Drawn} {t:Nat} {os:OsState} {x C:Addr} {ox:Obj} {cd:ClassData} {name:Str} {v:Value} {tk:Tok}
open Builtin Builtin.ObjectAttr
theorem aeJ {b:Bool} {Q:Fin→Shared→Prop} (hx:h.get? x = some ox) (hc:ox.cls = .ref C) (hn:∀ c,ox.data ≠ .cls c) (hd:ox.dict = none)
    (hcd:∃ oC,h.get? C = some oC∧oC.data = .cls cd) (hh:cd.hasDict = true)
    (k:∀ h' tk',(∀ b o,b ≠ x→h.get? b = some o→h'.get? b = some o)→h'.get? x = some { ox with dict:=some h.objs.size }→h'.Ns1 h.objs.size (fun y=>if y = name then some v else none) →
      Q (.done (.ret .none)) ⟨h',g,d,tk',os⟩) :
    wpAny (model prog w) A (storeInOwnDict (.ref x) (.ref C) (.str name tk) name v b) Q E ⟨h,g,d,t,os⟩:=by
  obtain ⟨oC,hC,hCd⟩:=hcd
  unfold storeInOwnDict
  repeat (first | (with_reducible refine wpAny_loadPart_at hx ?_; rw [hc]) | with_reducible refine wpAny_loadPart_at hC ?_ | wp_step)
  rw [hCd]
  refine wpAny_pure ?_
  rw [hh,hd]
  rw [if_neg (by decide)]
  dsimp only
  rw [if_neg (by simp [typeHasDict])]
  split
  · rename_i c q
    exact absurd q (hn c)
  have hx1:(h.push { cls:=.type "dict",data:=.dict #[] }).get? x = some ox:=Heap.get?_push_of_some _ hx
  have ne:x ≠ h.objs.size:=Nat.ne_of_lt (Heap.lt_size hx)
  refine wpAny_bind (wpAny_alloc' (wpAny_bind (wpAny_update' hx1 (wpAny_pure ?_))))
  have hx2:((h.push { cls:=.type "dict",data:=.dict #[] }).update x fun o=>{ cls:=o.cls,dict:=some h.objs.size,data:=o.data,slots:=o.slots }).get? x = some { ox with dict:=some h.objs.size }:=by
    have fr:=(Heap.get?_some_iff.mp hx).2
    obtain ⟨oc,od,oda,osl⟩:=ox
    refine Heap.get?_update_self _ hx1 ?_
    cases oda <;> first | rfl | exact fr
  have hD:((h.push { cls:=.type "dict",data:=.dict #[] }).update x fun o=>{ cls:=o.cls,dict:=some h.objs.size,data:=o.data,slots:=o.slots }).get? h.objs.size = some { cls:=.type "dict",data:=.dict #[] } :=
    (Heap.get?_update_ne _ _ _ _ ne.symm).trans (Heap.get?_push_at rfl rfl)
  have hN:((h.push { cls:=.type "dict",data:=.dict #[] }).update x fun o=>{ cls:=o.cls,dict:=some h.objs.size,data:=o.data,slots:=o.slots }).Ns h.objs.size (fun _=>none) :=
    ⟨_,#[],_,hD,rfl,fun e z=>absurd z (by simp),fun _=>rfl⟩
  show wpAny _ _ (storeInDict h.objs.size (.str name tk) name v) _ _ _
  unfold storeInDict newKeyGuard
  refine wpAny_bind (wpAny_pure (wpAny_bind (wpAny_nsSet1 (Heap.Ns1.of_empty hN) fun h' n' sb=>?_)))
  obtain ⟨oD,esD,epD,hoD,hdD,hcD⟩:=n'.count (Within.cons name v Within.nil)
  refine wpAny_bind (wpAny_lookBehind hoD (by rw [hdD]; exact pastItsLine_dict (Nat.le_trans hcD (by rw [List.length_cons,List.length_nil,sizeLine_eq]; omega))) (wpAny_pure ?_))
  exact k h' _ (fun b o hb e=>(sb.2 b (Nat.ne_of_lt (Heap.lt_size e))).trans ((Heap.get?_update_ne _ _ _ _ hb).trans (Heap.get?_push_of_some _ e))) ((sb.2 x ne).trans hx2) n'
theorem af3 {b:Bool} {Q:Fin→Shared→Prop} {dx:Addr} {mA:Str→Option Value} {ns:List Str} (hx:h.get? x = some ox) (hc:ox.cls = .ref C) (hd:ox.dict = some dx)
    (hcd:∃ oC,h.get? C = some oC∧oC.data = .cls cd) (hh:cd.hasDict = true) (hN:h.Ns1 dx mA) (hw:Within mA ns) (hz:ns.length < 1000)
    (k:∀ h' tk',Heap.SameBut dx h h'→h'.Ns1 dx (fun y=>if y = name then some v else mA y)→Q (.done (.ret .none)) ⟨h',g,d,tk',os⟩) :
    wpAny (model prog w) A (storeInOwnDict (.ref x) (.ref C) (.str name tk) name v b) Q E ⟨h,g,d,t,os⟩:=by
  obtain ⟨oC,hC,hCd⟩:=hcd
  unfold storeInOwnDict
  repeat (first | (with_reducible refine wpAny_loadPart_at hx ?_; rw [hc]) | with_reducible refine wpAny_loadPart_at hC ?_ | wp_step)
  rw [hCd]
  refine wpAny_pure ?_
  rw [hh,hd]
  rw [if_neg (by decide)]
  refine wpAny_pure ?_
  show wpAny _ _ (storeInDict dx (.str name tk) name v) _ _ _
  unfold storeInDict newKeyGuard
  refine wpAny_bind (wpAny_pure (wpAny_bind (wpAny_nsSet1 hN fun h' n' sb=>?_)))
  obtain ⟨oD,esD,epD,hoD,hdD,hcD⟩:=n'.count (Within.cons name v hw)
  refine wpAny_bind (wpAny_lookBehind hoD (by rw [hdD]; exact pastItsLine_dict (Nat.le_trans hcD (by rw [List.length_cons,sizeLine_eq]; omega))) (wpAny_pure ?_))
  exact k h' _ sb n'
end
end MX
namespace MX
open PySem PySem.W PySem.Calls PyProof.Rows Builtin Builtin.ObjectAttr
abbrev bmV:List Value:=[.type "ValueError",.type "Exception",.type "BaseException",.type "object"]
def onlyRefs:List Value→Bool
  | []=>true
  | .ref _ :: r=>onlyRefs r
  | _=>false
theorem QD (self:Value):∀ {l:List Value},onlyRefs l = true→refuseLoop self "__setattr__" (l ++ bmV) = pure ()
  | [],_=>PySem.F.store_ValueError.passes self
  | .ref c :: r,e=>by
    rw [List.cons_append,refuseLoop_ref]
    exact QD self e
  | .none :: _,e=>by cases e
  | .bool _ :: _,e=>by cases e
  | .int _ _ :: _,e=>by cases e
  | .str _ _ :: _,e=>by cases e
  | .type _ :: _,e=>by cases e
  | .builtin _ :: _,e=>by cases e
  | .float _ _ :: _,e=>by cases e
  | .bytes _ _ :: _,e=>by cases e
  | .notImplemented :: _,e=>by cases e
  | .ellipsis :: _,e=>by cases e
structure ExcGet (K:Frag) (C:Addr):Prop where
  ga:findIn K (.ref C) "__getattribute__" = some (some (.builtin "BaseException.__getattribute__"))
  gh:findIn K (.ref C) "__getattr__" = some none
  sa:findIn K (.ref C) "__setattr__" = some (some (.builtin "object.__setattr__"))
  sub:mroIn K C (.type "BaseException") = some true
  top:mroIn K C (.type "object") = some true
  cl:findIn K (.ref C) "__class__" = some (some (.builtin "object.__class__"))
  get:specialIn K (.builtin "object.__class__") "__get__" = some (some (.builtin "getset_descriptor.__get__"))
  tk:takesIn K (.builtin "object.__class__") = some true
  cls:∃ cd l,clsIn K C = some cd∧cd.hasDict = true∧cd.mro = l ++ bmV∧onlyRefs l = true
section
variable {prog:Program} {w:World} {A:Around} {E:Value→Shared→Prop} {s:Shared} {K:Frag} {x C:Addr} {ox:Obj} {od:Option Obj} {name:Str}
theorem excBy {fill expr:Bool} {tk:Tok} {Q:Value→Shared→Prop} {v:Value} (G:ExcGet K C) (X:K.In s.heap) (I:InstAt s.heap x ox C od) (hh:handedIn v = true)
    (hf:wpAny (model prog w) A.in1 (Builtin.«object.__getattribute__» ⟨[.ref x,.str name tk],[]⟩) (fun fin s'=>fin = .done (.ret v)∧Q v s') (fun _ _=>False) s) :
    wpAny (model prog w) A (getAttrBy (.ref x) (.str name tk) fill expr) Q E s:=by
  have L0:=I.type (M:=model prog w)
  have L1:=looks_findIn (M:=model prog w) X G.ga
  have L2:Looks (model prog w) s.heap (hookBefore (.ref C)) none:=looks_findIn (M:=model prog w) X G.gh
  have b:=PySem.F.attr_ValueError.ga.bind (.ref x)
  unfold getAttrBy
  refine wpAny_holding (wpAny_bind (L0.here (wpAny_bind (L1.here ?_))))
  have c1:(onTheHeap (Value.ref C) && Value.builtin "BaseException.__getattribute__" == Value.builtin "object.__getattribute__") = false:=by
    rw [show (Value.builtin "BaseException.__getattribute__" == Value.builtin "object.__getattribute__") = false by decide +kernel]
    simp
  show wpAny _ _ (if (onTheHeap (Value.ref C) && Value.builtin "BaseException.__getattribute__" == Value.builtin "object.__getattribute__") = true then _ else _) _ _ _
  rw [c1,if_neg Bool.false_ne_true]
  unfold getAttrByItsOwn
  refine wpAny_bind (L2.here (wpAny_bind (wpAny_attempt (wpAny_holding ?_))))
  have c2:callGetattribute (.ref x) (.str name tk) (.builtin "BaseException.__getattribute__") expr = boundAndCalled (.builtin "BaseException.__getattribute__") (.ref x) (.str name tk):=by cases expr <;> rfl
  rw [c2]
  unfold boundAndCalled
  rw [b]
  refine wpAny_bind (wpAny_pure ?_)
  have hk:builtinKind "BaseException.__getattribute__" = some .slot:=by decide +kernel
  have hs:splitId "BaseException.__getattribute__" = some ("BaseException","__getattribute__"):=by decide +kernel
  show wpAny (model prog w) A (call (.builtin "BaseException.__getattribute__") [.ref x,.str name tk]) _ _ s
  have sub:Looks (model prog w) s.heap (isInstance (.ref x) (.type "BaseException")) true:=L0.andThen (looks_mroIn X G.sub)
  refine wpAny_call (codeAny_call_builtin PySem.F.attr_ValueError.ga.plain PySem.F.entry_bexc_ga (@check_slot (model prog w) _ _ s "BaseException.__getattribute__" "BaseException" "__getattribute__" (.ref x) [.str name tk] [] _ hk hs sub (PySem.F.args_bexc_ga (.ref x) (.str name tk)) ?_))
  refine wpAny_mono hf (fun fin s' z=>?_) fun _ _ z=>z.elim
  obtain ⟨rfl,z⟩:=z
  show wpAny _ _ (handedOut v) _ _ _
  rw [handedOut_of hh]
  exact wpAny_pure z
theorem XH {tk:Tok} {Q:Fin→Shared→Prop} {v:Value} (X:K.In s.heap) (I:InstAt s.heap x ox C od) (hf:findObj K C od name = some (.value v)) (h:Q (.done (.ret v)) s) :
    wpAny (model prog w) A (Builtin.«object.__getattribute__» ⟨[.ref x,.str name tk],[]⟩) Q E s:=by
  obtain ⟨hp,g,d,t,os⟩:=s
  have L0:=I.type (M:=model prog w)
  have L3:=looks_find (M:=model prog w) X I hf
  unfold Builtin.«object.__getattribute__»
  repeat lk
  exact h
theorem abO {expr:Bool} {Q:Value→Shared→Prop} {v:Value} (G:ExcGet K C) (X:K.In s.heap) (I:InstAt s.heap x ox C od) (hf:findObj K C od name = some (.value v)) (hh:handedIn v = true)
    (h:Q v { s with toks:=s.toks + 1 }):wpAny (model prog w) A (getAttr (.ref x) name expr) Q E s:=by
  unfold getAttr
  exact wpAny_bind (wpAny_mkText (excBy (s:={ s with toks:=s.toks + 1 }) G X I hh (XH X I hf ⟨rfl,h⟩)))
theorem excClass {Q:Option Value→Shared→Prop} (G:ExcGet K C) (X:K.In s.heap) (I:InstAt s.heap x ox C od) (h:Q (some (.ref C)) { s with toks:=s.toks + 1 }) :
    wpAny (model prog w) A (getAttr? (.ref x) "__class__") Q E s:=by
  obtain ⟨cd,l,hc,hd,hm,hr⟩:=G.cls
  have hf:findObj K C od "__class__" = some (.bind (.builtin "getset_descriptor.__get__") (.builtin "object.__class__")):=by
    unfold findObj
    rw [hc,Option.bind_some,G.cl,Option.bind_some]
    dsimp only
    rw [G.get,Option.bind_some]
    dsimp only
    rw [G.tk,Option.bind_some]
  unfold getAttr? getAttrBy?
  refine wpAny_bind (wpAny_mkText (wpAny_bind (wpAny_attempt (excBy (v:=.ref C) (s:={ s with toks:=s.toks + 1 }) G X I rfl ?_))))
  · obtain ⟨hp,g,d,t,os⟩:=s
    have L0:=I.type (M:=model prog w)
    have L3:=looks_find (M:=model prog w) X I hf
    unfold Builtin.«object.__getattribute__»
    repeat (first | with_reducible refine wpAny_call ?_ | lk)
    refine class_get X I G.top ?_
    exact wpAny_pure ⟨rfl,wpAny_pure h⟩
theorem excSet {v:Value} {Q:Unit→Shared→Prop} (G:ExcGet K C) (X:K.In s.heap) (I:InstAt s.heap x ox C od) (ht:findIn K (.ref C) name = some none)
    (h:∀ b tk A',wpAny (model prog w) A' (storeInOwnDict (.ref x) (.ref C) (.str name tk) name v b) (fun fin s'=>fin = .done (.ret .none)∧Q () s') (fun _ _=>False) { s with toks:=s.toks + 1 }) :
    wpAny (model prog w) A (setAttr (.ref x) name v) Q E s:=by
  obtain ⟨cd,l,hc,hd,hm,hr⟩:=G.cls
  refine set_plain X I G.sa ?_
  have L0:Looks (model prog w) { s with toks:=s.toks + 1 }.heap (typeOf (.ref x)) (.ref C):=I.type
  have SF:=PySem.F.store_object
  have sub:Looks (model prog w) { s with toks:=s.toks + 1 }.heap (isInstance (.ref x) (.type "object")) true:=L0.andThen (looks_mroIn X G.top)
  refine codeAny_call_builtin SF.slot.plain SF.entry (@check_slot (model prog w) _ _ { s with toks:=s.toks + 1 } "object.__setattr__" "object" "__setattr__" (.ref x) [.str name s.toks,v] [] _ SF.kind SF.split sub (SF.args (.ref x) (.str name s.toks) v) ?_)
  have hmro:Looks (model prog w) s.heap (mroOf (.ref C)) cd.mro:=(looks_clsIn X hc).andThen .now
  rw [osa_eq,refuse_eq]
  refine wpAny_bind (wpAny_bind (L0.here (wpAny_bind (Looks.here (s:={ s with toks:=s.toks + 1 }) hmro ?_))))
  rw [hm,QD _ hr]
  refine wpAny_pure (wpAny_bind (L0.here (wpAny_bind (Looks.here (s:={ s with toks:=s.toks + 1 }) (looks_findIn X ht) (wpAny_bind (wpAny_pure (a:=none) ?_))))))
  exact wpAny_mono (h _ _ _) (fun fin s' z=>by obtain ⟨rfl,z⟩:=z; exact z) fun _ _ z=>z.elim
theorem excKit (G:ExcGet K C):KitX K (.ref x) (.ref C) (fun h=>InstAt h x ox C od) where
  ty:=fun _ _ _ I=>I.type
  it:=fun _ _ X _=>by
    obtain ⟨cd,l,hc,_⟩:=G.cls
    unfold clsIn at hc
    split at hc
    · rename_i ho
      intro A' Q' E' s' k q
      unfold isType loadHead
      exact wpAny_bind (wpAny_loadPart (k _ _ (X _ _ ho)) (wpAny_pure q))
    · cases hc
  ne:=fun h tp dd its n sl X htp=>by
    obtain ⟨cd,l,hc,_⟩:=G.cls
    refine Bool.eq_false_iff.mpr fun q=>?_
    obtain rfl:C = tp:=Value.ref.inj (beq_iff_eq.mp q)
    unfold clsIn at hc
    split at hc
    · rename_i ho
      have z:=(X _ _ ho).symm.trans htp
      cases z
    · cases hc
  ca:=fun X I k=>excClass G X I k
end
end MX
namespace L2
open PySem PySem.Spec PyProof.Rows
section
variable {prog:Program} {w:World} {A:Around} {R:Result→Shared→Prop} {s:Shared}
theorem abv {elt tg iter:Expr} {ifs:List Expr} {sc:Scope} {pos:Pos} {it acc:Value} {env:Env} (J:Nat→Shared→Prop)
    (turn:∀ n s,J n s→wpAny (model prog w) A (pyNext it) (fun r s1=>match r with
      | none=>R (.ok .next) s1
      | some v=>wpAny (model prog w) A (letOwnedTupleGo tg it v) (fun _ s2=>wpAny (model prog w) A (assign tg env v) (fun _ s3 =>
          wpAny (model prog w) A (forIn ifs true fun c r=>if r = true then do let ok ← isTrue c env (eval c env); pure (ForInStep.yield ok) else pure (ForInStep.yield r)) (fun ok s4 =>
            if ok = true then wpAny (model prog w) A (eval elt env) (fun x s5=>wpAny (model prog w) A (call (.builtin "list.append") [acc,x]) (fun _ s6=>∃ m,m < n∧J m s6) (fun _ _=>False) s5) (fun _ _=>False) s4
            else ∃ m,m < n∧J m s4) (fun _ _=>False) s3) (fun _ _=>False) s2) (fun _ _=>False) s1) (fun _ _=>False) s)
    (n:Nat) (h:J n s):codeAny (model prog w) A (.compLoop (.ListComp elt [⟨tg,iter,ifs,0⟩] sc pos) 0 it acc env) R s:=by
  refine codeAny_loop rfl J (fun n s hJ=>?_) n h
  show wpAny _ A ((compTurn (.ListComp elt [⟨tg,iter,ifs,0⟩] sc pos) 0 it acc env).onRaise (fun x=>do noteFrame x env; theTreesLotGoes x)) _ _ s
  refine wpAny_noted ?_
  rw [compTurn_list]
  refine wpAny_bind (wpAny_standAt (wpAny_bind (wpAny_mono (turn n s hJ) (fun r s1 h1=>?_) fun _ _ z=>z.elim)))
  cases r with
  | none=>exact wpAny_pure h1
  | some v =>
    refine wpAny_bind (wpAny_mono h1 (fun _ s2 h2=>?_) fun _ _ z=>z.elim)
    refine wpAny_bind (wpAny_mono h2 (fun _ s3 h3=>?_) fun _ _ z=>z.elim)
    refine wpAny_bind (wpAny_mono h3 (fun ok s4 h4=>?_) fun _ _ z=>z.elim)
    cases ok with
    | false=>exact wpAny_pure ⟨rfl,h4⟩
    | true =>
      refine wpAny_bind (wpAny_bind (wpAny_mono h4 (fun x s5 h5=>?_) fun _ _ z=>z.elim))
      exact wpAny_bind (wpAny_mono h5 (fun _ s6 h6=>wpAny_pure (wpAny_pure ⟨rfl,h6⟩)) fun _ _ z=>z.elim)
end
abbrev bR (X:Cx) (N':List Str) (sc:Scope) (cl:List (Str × Addr)) (s₀:Shared) (H₀:Hp) (C:Addr) (fp:List Addr) (pn:List (Addr × Obj)):Cx :=
  { X with N:=N',s₀:=s₀,H₀:=H₀,env:=compEnvC sc cl C X.env,outer:=X.stack,ex:=fp,fn:=fun _=>false,pn:=pn,xe:=fun _ _=>False }
def CellsOk (X:Cx):List (Str × Addr)→Prop
  | []=>True
  | (y,c) :: r=>(X.env.cells.lookup y = some c∧(X.env.kindOf y = some .cell ∨ X.env.kindOf y = some .free))∧CellsOk X r
def Jw (X:Cx) (sc:Scope) (cl:List (Str × Addr)):List Str→List (Option Nat)→Prop
  | [],[]=>True
  | y :: r,o :: q=>(match o with
      | none=>True
      | some j=>X.N[j]? = some y∧(cl.lookup y).isSome = true∧((relabel sc X.env).names.lookup y = some .cell ∨ (relabel sc X.env).names.lookup y = some .free))∧Jw X sc cl r q
  | _,_=>False
def capS (cap:List (Option Nat)) (σ:St):St:=cap.map fun o=>match o with | none=>none | some j=>(σ[j]?).join
structure VL (X:Cx) (sc:Scope) (cl:List (Str × Addr)) (N':List Str) (cap:List (Option Nat)):Prop where
  clos:closureFor sc X.env = pure cl
  kind:sc.kind = .function
  Y5:(sc.names.all fun y=>y.2 != .cell) = true
  locals:(sc.names.all fun y=>y.2 != .local || sc.names.lookup y.1 == some .local) = true
  frees:(sc.names.all fun y=>y.2 != .free || (cl.lookup y.1).isSome) = true
  cells:CellsOk X cl
  caps:Jw X sc cl N' cap
theorem CellsOk.get {X:Cx}:∀ {cl:List (Str × Addr)} {y:Str} {c:Addr},CellsOk X cl→cl.lookup y = some c→X.env.cells.lookup y = some c∧(X.env.kindOf y = some .cell ∨ X.env.kindOf y = some .free)
  | [],_,_,_,e=>by simp at e
  | (z,d) :: r,y,c,h,e=>by
    by_cases q:y = z
    · subst q
      simp only [List.lookup_cons,beq_self_eq_true] at e
      cases e
      exact h.1
    · have q':(y == z) = false:=beq_eq_false_iff_ne.mpr q
      simp only [List.lookup_cons,q'] at e
      exact CellsOk.get h.2 e
theorem Jw.get {X:Cx} {sc:Scope} {cl:List (Str × Addr)}:∀ {N':List Str} {cap:List (Option Nat)} {i j:Nat} {y:Str},Jw X sc cl N' cap→N'[i]? = some y→cap[i]? = some (some j) →
    X.N[j]? = some y∧(cl.lookup y).isSome = true∧((relabel sc X.env).names.lookup y = some .cell ∨ (relabel sc X.env).names.lookup y = some .free)
  | [],_,_,_,_,_,e,_=>by simp at e
  | _ :: _,[],_,_,_,_,_,e=>by simp at e
  | z :: r,o :: q,0,j,y,h,e1,e2=>by
    simp at e1 e2
    subst e1 e2
    exact h.1
  | z :: r,o :: q,i + 1,j,y,h,e1,e2=>Jw.get (i:=i) h.2 (by simpa using e1) (by simpa using e2)
theorem Jw.len {X:Cx} {sc:Scope} {cl:List (Str × Addr)}:∀ {N':List Str} {cap:List (Option Nat)},Jw X sc cl N' cap→cap.length = N'.length
  | [],[],_=>rfl
  | [],_ :: _,h=>h.elim
  | _ :: _,[],h=>h.elim
  | _ :: _,_ :: _,h=>by simp [Jw.len h.2]
theorem Un.sameBut {fs ex:List Addr} {H H':Hp} {h h' h'':Heap} {C:Addr} (u:Un fs ex H H' h h') (sb:Heap.SameBut C h' h'') (hC:h.get? C = none):Un fs ex H H' h h'':=by
  have ne:∀ b o,h.get? b = some o→b ≠ C:=fun b o e z=>by rw [z,hC] at e; cases e
  refine ⟨fun b o e n h1 h2=>(sb.2 b (ne b o e)).trans (u.keep b o e n h1 h2),fun b o e n h1 h2=>?_,u.free,fun b o e hx=>?_,u.tups,u.Bh,u.DN⟩
  · obtain ⟨sl,q⟩:=u.slot b o e n h1 h2
    exact ⟨sl,(sb.2 b (ne b o e)).trans q⟩
  · obtain ⟨o',q⟩:=u.there b o e hx
    exact ⟨o',(sb.2 b (ne b o e)).trans q⟩
theorem HOk.sameBut {P:Program} {w:World} {H:Hp} {h h':Heap} {C:Addr} (x:HOk P w H h) (sb:Heap.SameBut C h h') (hC:H C = none):HOk P w H h':=fun b o e=>by
  refine (x b o e).stay (fun c u hc q=>(sb.2 c ?_).trans q) (fun _ q=>q) fun _ _ q=>q
  rintro rfl
  rcases hc with z | z
  · rw [← z,hC] at e; cases e
  · rw [hC] at z; cases z
def Nt (X:Cx) (ifs:List Expr) (t:TT):Prop :=
  ∀ (pins:List (Addr × Obj)) (s:Shared) (σ:St) (H:Hp) (Q:Bool→Hp→Prop),Inv X pins σ H s→t σ H Q →
    wpAny (model X.prog X.w) X.A (forIn ifs true fun c r=>if r = true then do let ok ← isTrue c X.env (eval c X.env); pure (ForInStep.yield ok) else pure (ForInStep.yield r)) (TP X pins σ Q) X.xe s
def tTrue:TT:=fun _ H Q=>Q true H
theorem pf_nil {X:Cx}:Nt X [] tTrue:=fun _ _ _ H _ I h=>wpAny_tests_nil ⟨H,I,h⟩
def CompGo (J:It) (g:TG) (tt:TT) (te:TE) (acc:Addr) (τ0:St) (H1:Hp) (Q:VK):Prop:=∃ W:Nat→Nat→List V→St→Hp→Prop,
  (∃ m,W 0 m [] τ0 (upd H1 acc (.lst [])))∧∀ i m ys τ H,W i m ys τ H→H acc = some (.lst ys)∧ys.length < sizeLine ∧
    ((J.stop i H∧Q (.ref acc) H) ∨ (J.go i H∧∀ x H',J.yld i H x H'→g x τ H' fun τ2 H2=>tt τ2 H2 fun b H3 =>
      if b = true then te τ2 H3 fun y H4=>H4 acc = some (.lst ys)∧∃ m',m' < m∧W (i + 1) m' (ys ++ [y]) τ2 (upd H4 acc (.lst (ys ++ [y])))
      else ∃ m',m' < m∧W (i + 1) m' ys τ2 H3))
def Kr (cap:List (Option Nat)) (wi:TI) (g:TG) (tt:TT) (te:TE):TE:=fun σ H Q=>wi σ H fun J H1=>∀ acc,H1 acc = none→CompGo J g tt te acc (capS cap σ) H1 Q
section
variable {X:Cx} {tg iter elt:Expr} {ifs:List Expr} {sc:Scope} {pos:Pos} {cl:List (Str × Addr)} {N':List Str} {cap:List (Option Nat)} {wi:TI} {g:TG} {tt:TT} {te:TE}
theorem inv_comp {pins:List (Addr × Obj)} {σ:St} {H:Hp} {s:Shared} {fp:List Addr} {h1:Heap} (S:VL X sc cl N' cap) (I:Inv X pins σ H s) (hf:∀ b ∈ fp,Ku X pins H b) (hlt:∀ b ∈ fp,b < s.heap.objs.size)
    (hns:h1.Ns s.heap.objs.size (fun x=>([]:List (Str × Value)).reverse.lookup x)) (keep:∀ b o,s.heap.get? b = some o→h1.get? b = some o) :
    Inv (bR X N' sc cl s H s.heap.objs.size fp (X.pn ++ pins)) [] (capS cap σ) H { s with heap:=h1 }:=by
  have nC:∀ b o,s.heap.get? b = some o→b ≠ s.heap.objs.size:=fun b o e=>Nat.ne_of_lt (Heap.lt_size e)
  have fsub:∀ b,b ≠ X.env.locals→b ∉ X.fs→b ∉ frs X.stack:=fun b h1 h2 z=>(List.mem_cons.mp (I.aeI b z)).elim h1 h2
  refine ⟨⟨I.ok.mod,?_,I.ok.glob,I.ok.blt,Nat.le_refl _,fun x y c e1 e2=>?_,fun x hx=>?_,fun x c e=>absurd e (by simp),I.ok.hd,I.ok.frames,.inl rfl,fun b hb=>?_,I.bs,Nat.le_trans I.ok.bsz I.sz,fun b o e hb=>?_,fun b hb=>?_,I.stack,I.aaO⟩,
    rfl,I.bare,Un.kept keep,⟨_,hns,fun i y v e1 e2 e3=>?_⟩,fun y c e=>?_,I.hok.fresh (Nat.le_refl _),fun y c e=>?_,fun p hp=>?_,I.hok.kept keep,?_⟩
  · show (relabel sc X.env).kind = .function
    exact S.kind
  · exact I.ok.inj _ _ c (S.cells.get e1).1 (S.cells.get e2).1
  ·
    have key:∀ k,(relabel sc X.env).names.lookup x = some k→k ≠ .local→k ≠ .globalImplicit→(x,NameKind.free) ∈ sc.names ∨ (x,k) ∈ sc.names:=fun k hk h1 h2=>by
      obtain ⟨⟨n,k0⟩,hm,e⟩:=List.mem_map.mp (PySem.mem_of_lookup hk)
      dsimp only at e
      split at e
      · rename_i q
        have q1:k0 = NameKind.free:=by
          rw [Bool.and_eq_true,Bool.and_eq_true] at q
          exact beq_iff_eq.mp q.1.1
        cases e
        subst q1
        exact .inl hm
      · cases e
        exact .inr hm
    have fin:(x,NameKind.free) ∈ sc.names→∃ c,cl.lookup x = some c:=fun hm=>by
      have z:=List.all_eq_true.mp S.frees _ hm
      simp only [bne_self_eq_false,Bool.false_or] at z
      exact Option.isSome_iff_exists.mp z
    have hx:(relabel sc X.env).names.lookup x = some .cell ∨ (relabel sc X.env).names.lookup x = some .free:=hx
    rcases hx with hx | hx
    · rcases key _ hx (by decide) (by decide) with z | z
      · exact fin z
      · exact absurd (List.all_eq_true.mp S.Y5 _ z) (by simp)
    · rcases key _ hx (by decide) (by decide) with z | z <;> exact fin z
  · obtain ⟨_,_,_,_,h5,_⟩:=hf b hb
    exact ⟨Nat.ne_of_lt (hlt b hb),fun x c e=>h5 x c (S.cells.get e).1⟩
  · obtain ⟨_,_,_,h4,_,_⟩:=hf b hb
    rcases h4 with z | z
    · exact I.ok.bL b o e z
    · exact absurd (Nat.lt_of_lt_of_le (Nat.lt_of_lt_of_le (Heap.lt_size e) I.ok.bsz) z) (Nat.lt_irrefl _)
  · obtain ⟨_,h2,h3,_,_,_⟩:=hf b hb
    exact fsub b h2 h3
  ·
    unfold capS at e2
    rw [List.getElem?_map] at e2
    cases ec:cap[i]? with
    | none=>rw [ec] at e2; cases e2
    | some o =>
      rw [ec] at e2
      cases o with
      | none=>cases e2
      | some j =>
        have e2:(σ[j]?).join = some v:=Option.some.inj e2
        obtain ⟨hj,hs,hk⟩:=S.caps.get e1 ec
        obtain ⟨c,hc⟩:=Option.isSome_iff_exists.mp hs
        obtain ⟨c1,c2⟩:=S.cells.get hc
        have ej:σ[j]? = some (some v):=by
          cases q:σ[j]? with
          | none=>rw [q] at e2; cases e2
          | some z=>rw [q] at e2; exact congrArg some e2
        obtain ⟨m,hm,hl⟩:=id I.loc
        obtain ⟨u,ru,lk⟩:=hl j y v hj ej (c2.elim (fun z=>.inr (.inl z)) fun z=>.inr (.inr z))
        refine ⟨u,ru,?_⟩
        rcases lk with ⟨z,_⟩ | ⟨_,c',e',⟨oc,eo,ed⟩⟩
        · rcases c2 with q | q <;> · rw [q] at z; cases z
        · rw [c1] at e'
          cases e'
          exact .inr ⟨hk,c,hc,oc,keep _ _ eo,ed⟩
  · obtain ⟨v,o,e1,e2⟩:=I.cell y c (S.cells.get e).1
    exact ⟨v,o,keep _ _ e1,e2⟩
  · exact I.pX y c (S.cells.get e).1
  · have hp:p ∈ X.pn ++ pins:=by simpa using hp
    obtain ⟨e,n,ne,nf,d⟩:=I.pin p hp
    exact ⟨keep _ _ e,n,nC _ _ e,fsub _ ne nf,d⟩
  · show (capS cap σ).length = N'.length
    unfold capS
    rw [List.length_map]
    exact S.caps.len
theorem PP {pp:Pos} {use:Option (Value→Sem Unit)} {Q':Value→Shared→Prop} {pins:List (Addr × Obj)} {s:Shared} {σ:St} {H:Hp} {Q:VK} (S:VL X sc cl N' cap) (hc:X.calm = true) (hi:PI X tg iter wi) (hg:∀ s₀ H₀ C fp pn,PG (bR X N' sc cl s₀ H₀ C fp pn) tg g) (ht:∀ s₀ H₀ C fp pn,Nt (bR X N' sc cl s₀ H₀ C fp pn) ifs tt)
    (he:∀ s₀ H₀ C fp pn,PE (bR X N' sc cl s₀ H₀ C fp pn) elt te) (hs:∀ x,foldedSetIterable iter X.env x = pure x) (I:Inv X pins σ H s) (h:Kr cap wi g tt te σ H Q)
    (fin:∀ (s6:Shared) (C a:Addr) (H6:Hp) (m:Str→Option Value),s6.heap.Ns C m→Ku X pins H6 C→(∀ h',Heap.SameBut C s6.heap h'→Inv X pins σ H6 { s6 with heap:=h' })→Q (.ref a) H6→compPost (model X.prog X.w) X.A X.xe use Q' (.ref a) C (.ok .next) s6) :
    wpAny (model X.prog X.w) X.A (comprehension (.ListComp elt [⟨tg,iter,ifs,0⟩] sc pos) sc X.env pp (newList []) false (eval iter X.env) use) Q' X.xe s:=by
  have Y5:∀ y ∈ sc.names,y.2 ≠ .cell:=fun y hy z=>absurd (List.all_eq_true.mp S.Y5 y hy) (by rw [z]; decide)
  have locals:∀ y ∈ sc.names,y.2 = .local→sc.names.lookup y.1 = some .local:=fun y hy z=>by
    have q:=List.all_eq_true.mp S.locals y hy
    rw [z] at q
    simpa using q
  refine wpAny_comprehension_free (use:=use) rfl hs S.clos S.kind locals (thn (hi pins s σ H _ I h) fun v s1 h1=>thn h1 fun itv s2 h2=>?_)
  obtain ⟨it,fp,tn,J,H2,e,I2,T,st2,f2,hR⟩:=h2
  subst e
  have nAcc:H2 s2.heap.objs.size = none:=I2.hok.fresh (Nat.le_refl _)
  obtain ⟨W,⟨m0,w0⟩,step⟩:=hR s2.heap.objs.size nAcc
  refine wpAny_newObj_type (wpAny_newFunctionEnv Y5 (by intro y hy; simp at hy) (fun h1 hns hsb=>?_) S.kind)
  have I3:Inv X pins σ (upd H2 s2.heap.objs.size (.lst [])) { s2 with heap:=s2.heap.push { cls:=.type "list",data:=.seq ([]:List Value).toArray } } :=
    I2.laid (t':=s2.toks) (fun b u e=>Heap.get?_push_of_some _ e) (Nat.le_refl _) ⟨Nat.zero_le _,[],0,.nil,Heap.get?_push_size _ rfl⟩
  have fpn:∀ b ∈ fp,b < s2.heap.objs.size:=fun b hb=>by
    obtain ⟨o,e,_⟩:=T.obj _ _ st2 b hb
    exact Heap.lt_size e
  have f3:∀ b ∈ fp,Ku X pins (upd H2 s2.heap.objs.size (.lst [])) b:=fun b hb=>⟨by rw [aD (Nat.ne_of_lt (fpn b hb))]; exact (f2 b hb).1,(f2 b hb).2⟩
  have hC:(s2.heap.push { cls:=.type "list",data:=.seq ([]:List Value).toArray }).get? (s2.heap.push { cls:=.type "list",data:=.seq ([]:List Value).toArray }).objs.size = none:=Heap.get?_none_of_le (Nat.le_refl _)
  have keep:∀ b o,(s2.heap.push { cls:=.type "list",data:=.seq ([]:List Value).toArray }).get? b = some o→h1.get? b = some o:=fun b o e =>
    (hsb.2 b (Nat.ne_of_lt (Heap.lt_size e))).trans (Heap.get?_push_of_some _ e)
  have I4:=inv_comp S I3 f3 (fun b hb=>by
    show b < (s2.heap.push _).objs.size
    rw [Heap.size_push]
    exact Nat.lt_succ_of_lt (fpn b hb)) hns keep
  have fpc:∀ {H':Hp},(∀ b ∈ fp,H' b = none)→∀ b ∈ fp,Ku (bR X N' sc cl { s2 with heap:=s2.heap.push { cls:=.type "list",data:=.seq ([]:List Value).toArray } } (upd H2 s2.heap.objs.size (.lst [])) (s2.heap.push { cls:=.type "list",data:=.seq ([]:List Value).toArray }).objs.size fp (X.pn ++ pins)) [] H' b :=
    fun hn b hb=>⟨hn b hb,(I4.ok.exf b hb).1,I4.ok.exfs b hb,.inl hb,(I4.ok.exf b hb).2,fun p hp=>(f2 b hb).2.2.2.2.2 p (by simpa using hp)⟩
  have loop:∀ s5:Shared,(∃ i m ys τ H',Inv (bR X N' sc cl { s2 with heap:=s2.heap.push { cls:=.type "list",data:=.seq ([]:List Value).toArray } } (upd H2 s2.heap.objs.size (.lst [])) (s2.heap.push { cls:=.type "list",data:=.seq ([]:List Value).toArray }).objs.size fp (X.pn ++ pins)) [] τ H' s5 ∧
      tn i s5.heap∧(∀ b ∈ fp,H' b = none)∧W i m ys τ H')→codeAny (model X.prog X.w) X.A (.compLoop (.ListComp elt [⟨tg,iter,ifs,0⟩] sc pos) 0 (.ref it) (.ref s2.heap.objs.size) (compEnvC sc cl (s2.heap.push { cls:=.type "list",data:=.seq ([]:List Value).toArray }).objs.size X.env))
      (compPost (model X.prog X.w) X.A X.xe use Q' (.ref s2.heap.objs.size) (s2.heap.push { cls:=.type "list",data:=.seq ([]:List Value).toArray }).objs.size) s5:=by
    rintro s5 ⟨i0,m0',ys0,τ0,H0',I0,st0,fr0,w0'⟩
    refine abv (fun n s'=>∃ i ys τ H',Inv (bR X N' sc cl { s2 with heap:=s2.heap.push { cls:=.type "list",data:=.seq ([]:List Value).toArray } } (upd H2 s2.heap.objs.size (.lst [])) (s2.heap.push { cls:=.type "list",data:=.seq ([]:List Value).toArray }).objs.size fp (X.pn ++ pins)) [] τ H' s' ∧
      tn i s'.heap∧(∀ b ∈ fp,H' b = none)∧W i n ys τ H') ?_ m0' ⟨i0,ys0,τ0,H0',I0,st0,fr0,w0'⟩
    rintro n s' ⟨i,ys,τ,H',I',st,fr,wv⟩
    obtain ⟨hacc,hlen,alt⟩:=step i n ys τ H' wv
    rcases alt with ⟨stop,q⟩ | ⟨go,stp⟩
    · refine thn (T.done (bR X N' sc cl { s2 with heap:=s2.heap.push { cls:=.type "list",data:=.seq ([]:List Value).toArray } } (upd H2 s2.heap.objs.size (.lst [])) (s2.heap.push { cls:=.type "list",data:=.seq ([]:List Value).toArray }).objs.size fp (X.pn ++ pins)) rfl rfl rfl hc i [] s' τ H' _ I' (fpc fr) st stop) fun r s6 ⟨hr,I6⟩=>?_
      subst hr
      obtain ⟨m,hn,_⟩:=id I6.loc
      refine fin s6 _ _ H' m hn (I2.fpOk (by rw [Heap.size_push]; exact Nat.le_succ _) I6.free) (fun h' sb=>?_) q
      have un:Un (frs X.stack) fp H2 H' s2.heap h':=(Un.laid (o:=.lst []) (h':=s2.heap.push { cls:=.type "list",data:=.seq ([]:List Value).toArray }) (fun b u e=>Heap.get?_push_of_some _ e) (Nat.le_refl _) nAcc).trans (I6.base.sameBut sb hC)
      exact I2.call' (s':={ s6 with heap:=h' }) (ch:=fp) I6.os un (I6.hok.sameBut sb I6.free) I6.bare fun b hb=>⟨(f2 b hb).2.2.2.1,(f2 b hb).2.1,(f2 b hb).2.2.2.2.1,(f2 b hb).2.2.2.2.2⟩
    · refine thn (T.item (bR X N' sc cl { s2 with heap:=s2.heap.push { cls:=.type "list",data:=.seq ([]:List Value).toArray } } (upd H2 s2.heap.objs.size (.lst [])) (s2.heap.push { cls:=.type "list",data:=.seq ([]:List Value).toArray }).objs.size fp (X.pn ++ pins)) rfl rfl rfl hc i [] s' τ H' _ I' (fpc fr) st go) fun r s6 ⟨u,hr,h6⟩=>?_
      subst hr
      refine thn h6 fun _ s7 ⟨x,H7,I7,rx,y7,st7,fr7⟩=>?_
      have I7':=I7.pinned (fpc fr7) (T.obj _ _ st7)
      refine thn (hg _ _ _ _ _ _ s7 τ H7 x u _ I7' rx (stp x H7 y7)) fun _ s8 ⟨τ8,H8,I8,q8⟩=>?_
      refine thn (ht _ _ _ _ _ _ s8 τ8 H8 _ I8 q8) fun ok s9 ⟨H9,I9,q9⟩=>?_
      have again:∀ {τa:St} {Ha:Hp} {sa:Shared} {ysa:List V},Inv (bR X N' sc cl { s2 with heap:=s2.heap.push { cls:=.type "list",data:=.seq ([]:List Value).toArray } } (upd H2 s2.heap.objs.size (.lst [])) (s2.heap.push { cls:=.type "list",data:=.seq ([]:List Value).toArray }).objs.size fp (X.pn ++ pins)) ([] ++ Qv fp s7.heap) τa Ha sa →
          (∃ m',m' < n∧W (i + 1) m' ysa τa Ha)→∃ m',m' < n∧∃ i ys τ H',Inv (bR X N' sc cl { s2 with heap:=s2.heap.push { cls:=.type "list",data:=.seq ([]:List Value).toArray } } (upd H2 s2.heap.objs.size (.lst [])) (s2.heap.push { cls:=.type "list",data:=.seq ([]:List Value).toArray }).objs.size fp (X.pn ++ pins)) [] τ H' sa ∧
            tn i sa.heap∧(∀ b ∈ fp,H' b = none)∧W i m' ys τ H':=fun {τa Ha sa ysa} Ia ⟨m',lt,wa⟩=>by
        refine ⟨m',lt,i + 1,ysa,τa,Ha,Ia.GX,T.keep _ _ _ st7 fun b hb o e=>(Ia.pin (b,o) (List.mem_append_right _ (List.mem_append_right _ (xK hb e)))).1,fun b hb=>?_,wa⟩
        obtain ⟨o,e,_⟩:=T.obj _ _ st7 b hb
        exact (Ia.pin (b,o) (List.mem_append_right _ (List.mem_append_right _ (xK hb e)))).2.1
      cases ok with
      | false=>exact again I9 q9
      | true =>
        refine thn (he _ _ _ _ _ _ s9 τ8 H9 _ I9 q9) fun v s10 ⟨y,H10,I10,ry,ha,hw⟩=>?_
        refine thn (qF _ s10 τ8 H10 (.ref s2.heap.objs.size) [y] (.ref s2.heap.objs.size) [v] (fun _ Hq=>Hq = upd H10 s2.heap.objs.size (.lst (ys ++ [y]))) I10 rfl (.cons ry .nil) ⟨_,_,_,rfl,rfl,ha,hlen,rfl⟩) fun _ s11 ⟨_,H11,I11,_,e11⟩=>?_
        subst e11
        exact again I11 hw
  have start:∃ i m ys τ H',Inv (bR X N' sc cl { s2 with heap:=s2.heap.push { cls:=.type "list",data:=.seq ([]:List Value).toArray } } (upd H2 s2.heap.objs.size (.lst [])) (s2.heap.push { cls:=.type "list",data:=.seq ([]:List Value).toArray }).objs.size fp (X.pn ++ pins)) [] τ H' { s2 with heap:=h1 } ∧
      tn i h1∧(∀ b ∈ fp,H' b = none)∧W i m ys τ H' :=
    ⟨0,m0,[],capS cap σ,_,I4,T.keep _ _ _ st2 fun b hb o e=>keep _ _ (Heap.get?_push_of_some _ e),fun b hb=>(f3 b hb).1,w0⟩
  exact codeAny_compStart_list (loop _ start) (T.self _ 0 _ _ _ (T.keep _ _ _ st2 fun b hb o e=>keep _ _ (Heap.get?_push_of_some _ e)) (loop _ start))
theorem mQ (S:VL X sc cl N' cap) (hc:X.calm = true) (hi:PI X tg iter wi) (hg:∀ s₀ H₀ C fp pn,PG (bR X N' sc cl s₀ H₀ C fp pn) tg g) (ht:∀ s₀ H₀ C fp pn,Nt (bR X N' sc cl s₀ H₀ C fp pn) ifs tt)
    (he:∀ s₀ H₀ C fp pn,PE (bR X N' sc cl s₀ H₀ C fp pn) elt te) (hs:∀ x,foldedSetIterable iter X.env x = pure x:=by intro _; rfl) :
    PE X (.ListComp elt [⟨tg,iter,ifs,0⟩] sc pos) (Kr cap wi g tt te):=by
  intro pins s σ H Q I h
  rw [eval_ListComp]
  exact PP (use:=none) (Q':=EP X pins σ Q) S hc hi hg ht he hs I h fun s6 C a H6 m hn _ hI q=>⟨m,hn,fun h' sb=>⟨.ref a,H6,hI h' sb,rfl,q⟩⟩
theorem QB {i:Nat} {x:Str} {pos' spos:Pos} (S:VL X sc cl N' cap) (hc:X.calm = true) (hN:X.N.Nodup) (hi':X.N[i]? = some x) (hx:Loc X.env.scope x) (hi:PI X tg iter wi) (hg:∀ s₀ H₀ C fp pn,PG (bR X N' sc cl s₀ H₀ C fp pn) tg g) (ht:∀ s₀ H₀ C fp pn,Nt (bR X N' sc cl s₀ H₀ C fp pn) ifs tt)
    (he:∀ s₀ H₀ C fp pn,PE (bR X N' sc cl s₀ H₀ C fp pn) elt te) (hsw:swapsWith (.ListComp elt [⟨tg,iter,ifs,0⟩] sc pos) (some (.Name x pos')) spos.line X.env = pure true) (hs:∀ x,foldedSetIterable iter X.env x = pure x:=by intro _; rfl)
    (hf:X.fn x = true ∨ X.env.scope.names.lookup x = some .local:=by first | exact .inl rfl | exact .inr rfl | assumption) :
    PS X (.Assign [.Name x pos'] (.ListComp elt [⟨tg,iter,ifs,0⟩] sc pos) spos) (tAsg (Kr cap wi g tt te) (Ph i)):=by
  intro pins s σ H D I h
  rw [exec_Assign_Name_used _ _ _ _ hsw]
  refine wpAny_bind (wpAny_standAt (wpAny_bind ?_))
  show wpAny _ _ (do let _ ← comprehension (.ListComp elt [⟨tg,iter,ifs,0⟩] sc pos) sc X.env _ (newList []) false (eval iter X.env) (some (assign (.Name x pos') X.env))) _ _ s
  refine wpAny_bind (wpAny_mono (PP (use:=some (assign (.Name x pos') X.env)) (Q':=fun _ s'=>SP X pins D .next s') S hc hi hg ht he hs I h fun s6 C a H6 m hn fp hI q=>?_) (fun _ s' hq=>wpAny_pure (wpAny_pure hq)) fun _ _ e=>e)
  refine wpAny_assign_Name (VG (v:=.ref a) (hI _ (Heap.SameBut.refl _ _)) hN hi' hx rfl (fun s7 I7 ⟨a7,sb7,ha7⟩=>?_) hf)
  have ne:C ≠ a7:=by
    rintro rfl
    rcases ha7 with e | e
    · exact fp.2.1 e
    · exact fp.2.2.2.2.1 _ _ e rfl
  refine ⟨m,hn.sameBut sb7 ne,fun h' sb=>?_⟩
  have un:Un (frs X.stack) [C] H6 H6 s7.heap h':=by
    have k:∀ b o,s7.heap.get? b = some o→b ∉ [C]→h'.get? b = some o:=fun b o e n=>(sb.2 b (fun z=>n (by simp [z]))).trans e
    exact ⟨fun b o e _ _ n=>k b o e n,fun b o e _ _ n=>⟨o.slots,k b o e n⟩,fun _ _ _ n _=>n,fun b o e n=>⟨o,k b o e n⟩,fun _ _ q=>q,fun _ _ _ q=>q,fun _ ps q=>⟨#[],by simpa using q⟩⟩
  refine ⟨_,H6,I7.call' (s':={ s7 with heap:=h' }) (ch:=[C]) rfl un (I7.hok.sameBut sb fp.1) I7.bare fun b hb=>?_,q⟩
  obtain rfl:=List.mem_singleton.mp hb
  exact ⟨fp.2.2.2.1,fp.2.1,fp.2.2.2.2.1,fp.2.2.2.2.2⟩
end
end L2
namespace L2
open PySem PySem.Spec PyProof.Rows
theorem Q6 {H:Hp} {a:Addr} {o:HO} (e:H a = some o):upd H a o = H:=by
  funext b
  unfold upd
  split
  · rename_i q; rw [q,e]
  · rfl
section
variable {X:Cx} {pins:List (Addr × Obj)} {σ:St} {H:Hp} {s:Shared} {h':Heap}
theorem Inv.aeP {ch:List Addr} {a:Addr} {o:HO} {t':Nat} (I:Inv X pins σ H s) (hch:∀ b ∈ ch,Ku X pins H b) (k:∀ b u,b ∉ ch→s.heap.get? b = some u→h'.get? b = some u) (ha:s.heap.objs.size ≤ a)
    (new:dX X.prog X.w (upd H a o) h' a o):Inv X pins σ (upd H a o) { s with heap:=h',toks:=t' }:=by
  have hn:H a = none:=I.hok.fresh ha
  have nch:∀ b u,H b = some u→b ∉ ch:=fun b u e z=>by rw [(hch b z).1] at e; cases e
  have nea:∀ b u,s.heap.get? b = some u→b ≠ a:=fun b u e=>Nat.ne_of_lt (Nat.lt_of_lt_of_le (Heap.lt_size e) ha)
  refine I.step (g':=s.gens) (d':=s.drawn) (ch:=ch) (fun b hb=>?_) (fun b u _ _ hc e _=>k b u hc e) (fun b u _ _ hc e _=>⟨u.slots,k b u hc e⟩) (fun b u hc e n=>by rw [aD (nea b u e)]; exact n) (fun b u hc e=>⟨u,k b u hc e⟩)
    (fun b xs e=>by rw [aD (aQ e hn)]; exact e) (fun b u xs e=>by rw [aD (aQ e hn)]; exact e) (fun b ps e=>⟨#[],by rw [aD (aQ e hn),e]; simp⟩) (fun m hm=>?_) (fun b u e=>?_) I.bare
  · obtain ⟨_,h2,_,h4,h5,h6⟩:=hch b hb
    exact ⟨h4,h2,h5,h6⟩
  · obtain ⟨o',es,ep,ho,r⟩:=hm
    exact ⟨o',es,ep,k _ o' (fun z=>(hch _ z).2.1 rfl) ho,r⟩
  · by_cases hb:b = a
    · subst hb
      rw [aL] at e
      cases e
      exact new
    · rw [aD hb] at e
      refine (I.hok b u e).stay (fun c v hc q=>k c v ?_ q) (fun c q=>by rw [aD (aQ q hn)]; exact q) fun c xs q=>by rw [aD (aQ q hn)]; exact q
      rcases hc with z | z
      · rw [z]; exact nch b u e
      · exact nch c _ z
end
def Ite (K:PySem.W.Frag) (a:Addr):It :=
  ⟨fun i H=>∃ xs x,SqL K H a xs∧xs[i]? = some x,fun i H v H'=>∃ p x,v = .ref p∧H p = none∧H' = upd H p (.tup [.int i,x])∧∀ xs,SqL K H a xs→xs[i]? = some x,fun i H=>∃ xs,SqL K H a xs∧xs.length ≤ i⟩
theorem af7 {P:Program} {w:World} {K:PySem.W.Frag} {es:List Expr} {kk:Nat} {tp:Pos} (a e it:Addr) (hne:e ≠ it) :
    Turn P w K (.Tuple es kk tp) (Ite K a) [e,it] e (fun i h=>(∃ old,IsEnum h e it (i:Nat) old)∧h.IsListIter it a i) where
  mem:=by simp
  obj:=fun i h st b hb=>by
    obtain ⟨⟨old,s1⟩,s2⟩:=st
    rcases List.mem_cons.mp hb with z | z
    · subst z
      exact ⟨_,s1,fun v q=>by
        have q':Data.fields _ = Data.cell v:=q
        cases q'⟩
    · have z:b = it:=by simpa using z
      subst z
      obtain ⟨o,e1,c,d⟩:=s2
      exact ⟨o,e1,fun v q=>by rw [d] at q; cases q⟩
  keep:=fun i h h' st k=>by
    obtain ⟨⟨old,s1⟩,s2⟩:=st
    exact ⟨⟨old,k e (by simp) _ s1⟩,s2.at fun o q=>k it (by simp) o q⟩
  item:=by
    intro X hP hw hK hc i pins s σ H E I hf st hg
    subst hP hw hK
    obtain ⟨xs,x,hq,hx⟩:=hg
    obtain ⟨⟨old,s1⟩,s2⟩:=st
    obtain ⟨its,rv,p,hz⟩:=I.list hq
    obtain ⟨u,hu,ru⟩:=rv.get hx
    refine wpAny_pyNext_enum_item s1 s2 p.isList (x:=u) (by simpa using hu) hne fun h1 eo li tu sz kk'=>⟨_,rfl,wpAny_letOwnedTupleGo_enum eo fun h2 ie sb=>?_⟩
    have hp:H s.heap.objs.size = none:=I.hok.fresh (Nat.le_refl _)
    have lt1:e < s.heap.objs.size:=Heap.lt_size s1
    have ne1:s.heap.objs.size ≠ e:=Nat.ne_of_gt lt1
    have tu2:h2.get? s.heap.objs.size = some { cls:=.type "tuple",data:=.seq #[.int i s.toks,u] }:=(sb.2 _ ne1).trans tu
    have I2:Inv X pins σ (upd H s.heap.objs.size (.tup [.int i,x])) { s with heap:=h2,toks:=s.toks + 1 }:=I.aeP (ch:=[e,it]) hf (fun b o hb q=>by
        have hb1:b ≠ e:=fun z=>hb (by simp [z])
        have hb2:b ≠ it:=fun z=>hb (by simp [z])
        exact (sb.2 b hb1).trans (kk' b o hb1 hb2 q)) (Nat.le_refl _) ⟨by show 2 ≤ sizeLine; decide,[.int i s.toks,u],.cons ⟨_,rfl⟩ (.cons ru .nil),_,tu2,rfl,0,rfl⟩
    refine ⟨.ref s.heap.objs.size,_,I2,rfl,⟨_,x,rfl,hp,rfl,fun ys hy=>by rw [I.ab0 hy hq]; exact hx⟩,⟨⟨u,?_⟩,?_⟩,fun b hb=>?_⟩
    · have q:IsEnum h2 e it ((i:Int) + 1) u:=ie
      rw [show ((i:Int) + 1) = ((i + 1:Nat):Int) by omega] at q
      exact q
    · obtain ⟨o,e1,r⟩:=li
      exact ⟨o,(sb.2 it (Ne.symm hne)).trans e1,r⟩
    · have lt2:b < s.heap.objs.size:=by
        rcases List.mem_cons.mp hb with z | z
        · rw [z]; exact lt1
        · have z:b = it:=by simpa using z
          rw [z]
          obtain ⟨o,e1,_⟩:=s2
          exact Heap.lt_size e1
      rw [aD (Nat.ne_of_lt lt2)]
      exact (hf b hb).1
  done:=by
    intro X hP hw hK hc i pins s σ H E I hf st hg
    subst hP hw hK
    obtain ⟨xs,hq,hx⟩:=hg
    obtain ⟨⟨old,s1⟩,s2⟩:=st
    obtain ⟨its,rv,p,hz⟩:=I.list hq
    obtain ⟨f0,f1,f2,f3,f4,f5⟩:=hf it (by simp)
    have hl:=rv.length
    exact wpAny_pyNext_enum_end (I.ok.hd hc) s1 s2 p.isList (by simp; omega) fun h' eb=>⟨rfl,I.turned (t':=s.toks) (fun b o hb q=>eb b o hb q) f0 f1 f3 f4 f5⟩
  self:=fun _ _ _ _ _ st h=>wpAny_pyIter_enum st.1.choose_spec h
section
variable {X:Cx}
def iEnum (K:PySem.W.Frag) (ta:TA):TI:=fun σ H R=>ta σ H fun vs H1=>∃ a,vs = [.ref a]∧(∃ xs,SqL K H1 a xs)∧R (Ite K a) H1
theorem pi_enum {es:List Expr} {kk:Nat} {tp:Pos} {l:Expr} {ta:TA} {p pos:Pos} (hg:Gl X "enumerate") (hm:X.mg "enumerate" = none) (ha:PA X [l] ta) (hs:starEach [l] X.env = [(false,eval l X.env)]:=by rfl) :
    PI X (.Tuple es kk tp) (.Call (.Name "enumerate" p) [l] [] pos) (iEnum X.K ta):=by
  intro pins s σ H R I h
  refine Call_ (PQ I hg hm PyProof.Rows.boot_enumerate (PyProof.Rows.callWith_type1 (thn (ha pos pins s σ H _ I h) fun us s1 ⟨vs,H1,I1,r1,q1⟩=>?_) hs rfl))
  obtain ⟨a,e,⟨xs,hq⟩,q⟩:=q1
  subst e
  cases r1 with
  | cons r rr =>
    cases rr
    cases r
    obtain ⟨its,rv,pl,hz⟩:=I1.list hq
    refine call_enumerate_list pl.isList fun h' ie li sz kp=>?_
    refine wpAny_pyIter_enum (it:=s1.heap.objs.size) (i:=0) (old:=.none) ie ?_
    have I2:Inv X pins σ H1 { s1 with heap:=h' }:=I1.kept (t':=s1.toks) kp
    refine ⟨s1.heap.objs.size + 1,[s1.heap.objs.size + 1,s1.heap.objs.size],_,_,H1,rfl,I2,af7 a (s1.heap.objs.size + 1) s1.heap.objs.size (Nat.succ_ne_self _),⟨⟨.none,ie⟩,li⟩,fun b hb=>?_,q⟩
    have hb':s1.heap.objs.size ≤ b:=by
      rcases List.mem_cons.mp hb with z | z
      · rw [z]; exact Nat.le_succ _
      · have z:b = s1.heap.objs.size:=by simpa using z
        exact Nat.le_of_eq z.symm
    obtain ⟨g1,g2,g3,g4,g5,g6⟩:=I1.fpOk hb' (I1.hok.fresh hb')
    exact ⟨g1,g2,g3,g4,g5,g6⟩
end
theorem af4 (a b c:Str):a ++ b ++ c = a ++ (b ++ c):=by
  obtain ⟨a⟩:=a
  obtain ⟨b⟩:=b
  obtain ⟨c⟩:=c
  show Str.mk (a ++ b ++ c) = Str.mk (a ++ (b ++ c))
  rw [Array.append_assoc]
theorem str_nil (a:Str):a ++ Str.empty = a:=by
  obtain ⟨a⟩:=a
  show Str.mk (a ++ #[]) = Str.mk a
  rw [Array.append_empty]
theorem nil_str (a:Str):Str.empty ++ a = a:=by
  obtain ⟨a⟩:=a
  show Str.mk (#[] ++ a) = Str.mk a
  rw [Array.empty_append]
theorem str_len (a b:Str):(a ++ b).length = a.length + b.length:=by
  obtain ⟨a⟩:=a
  obtain ⟨b⟩:=b
  show (a ++ b).size = a.size + b.size
  rw [Array.size_append]
abbrev TX:=St→Hp→(Str→Hp→Prop)→Prop
def PX (X:Cx) (e:Expr) (t:TX):Prop :=
  ∀ (pins:List (Addr × Obj)) (s:Shared) (σ:St) (H:Hp) (Q:Str→Hp→Prop),Inv X pins σ H s→t σ H Q →
    wpAny (model X.prog X.w) X.A (eval e X.env) (fun u s'=>∃ x k H',u = .str x k∧Inv X pins σ H' s'∧Q x H') X.xe s
def PXs (X:Cx) (es:List Expr) (t:TX):Prop :=
  ∀ (out:Str) (pins:List (Addr × Obj)) (s:Shared) (σ:St) (H:Hp) (Q:Str→Hp→Prop),out.length + 1000000 * (es.length + 1) ≤ sizeLine→Inv X pins σ H s→t σ H (fun y H'=>Q (out ++ y) H') →
    wpAny (model X.prog X.w) X.A (joinParts out (evalEach es X.env)) (fun u s'=>∃ x k H',u = .str x k∧Inv X pins σ H' s'∧Q x H') X.xe s
section
variable {X:Cx} {e:Expr} {es:List Expr} {pos:Pos}
def xLit (x:Str):TX:=fun _ H Q=>Q x H
def fmtS:V→Str
  | .int i=>toString i
  | .str y=>y
  | _=>Str.empty
def abP:V→Prop
  | .int i=>i.natAbs.log2 < 1920
  | .str y=>y.length ≤ 100000
  | _=>False
theorem ae8:∀ {v:V},abP v→(fmtS v).length ≤ 1000000
  | .int i,h=>by
    have e:=int_text_length_le (k:=1920) (by decide) (show i.natAbs.log2 < 1920 from h)
    show (Str.ofString (toString i)).length ≤ 1000000
    rw [PySem.ofString_length]
    exact Nat.le_trans e (by decide)
  | .str y,h=>Nat.le_trans (show y.length ≤ 100000 from h) (by decide)
  | .non,h=>h.elim
  | .bl _,h=>h.elim
  | .byt _,h=>h.elim
  | .flt _,h=>h.elim
  | .ref _,h=>h.elim
  | .ty _,h=>h.elim
def xFld (te:TE):TX:=fun σ H Q=>te σ H fun v H1=>abP v∧Q (fmtS v) H1
theorem px_lit {x:Str} {k}:PX X (.Constant (.str x) k pos) (xLit x):=fun _ _ _ H _ I h=>Calls.Constant_str ⟨x,_,H,rfl,I.tok _,h⟩
theorem px_fld {te:TE} (he:PE X e te):PX X (.FormattedValue e (-1) none pos) (xFld te):=by
  intro pins s σ H Q I h
  refine FormattedValue_plain (thn (he pins s σ H _ I h) fun u s1 ⟨v,H1,I1,r,q⟩=>?_)
  obtain ⟨hd,q⟩:=q
  cases v with
  | int i =>
    obtain ⟨t,rfl⟩:=r
    exact formatField_int_small hd ⟨_,_,H1,rfl,(I1.tok _).tok _,q⟩
  | str y =>
    obtain ⟨t,rfl⟩:=r
    exact formatField_str (fun t' tk=>⟨y,t',H1,rfl,I1.tok tk,q⟩) (Nat.le_trans (show y.length ≤ 100000 from hd) (by rw [sizeLine_eq]; decide))
  | _=>exact (show False from hd).elim
def xNil:TX:=fun _ H Q=>Q Str.empty H
def xCons (ta tr:TX):TX:=fun σ H Q=>ta σ H fun x H1=>x.length ≤ 1000000∧tr σ H1 fun y H2=>Q (x ++ y) H2
theorem pxs_nil:PXs X [] xNil:=fun out pins s σ H Q hz I h=>joinParts_nil ⟨_,_,H,rfl,I.tok _,by
  have z:Q (out ++ Str.empty) H:=h
  rw [str_nil] at z
  exact z⟩ (by omega)
theorem Gy {ta tr:TX} (ha:PX X e ta) (hr:PXs X es tr):PXs X (e :: es) (xCons ta tr):=by
  intro out pins s σ H Q hz I h
  refine joinParts_consE (joinParts_cons (thn (ha pins s σ H _ I h) fun u s1 ⟨x,k,H1,eu,I1,lx,q⟩=>?_))
  subst eu
  have hl:(out ++ x).length ≤ out.length + 1000000:=by rw [str_len]; omega
  rw [List.length_cons] at hz
  have ar:∀ S a b M c:Nat,a ≤ b + c→b + (M + c) ≤ S→a ≤ S∧a + M ≤ S:=fun S a b M c h1 h2=>⟨by omega,by omega⟩
  rw [Nat.mul_succ] at hz
  obtain ⟨z1,z2⟩:=ar _ _ _ _ _ hl hz
  refine ⟨z1,hr (out ++ x) pins s1 σ H1 Q z2 I1 ?_⟩
  have e:(fun y H2=>Q (out ++ x ++ y) H2) = fun y H2=>Q (out ++ (x ++ y)) H2:=by
    funext y H2
    rw [af4]
  rw [e]
  exact q
theorem pe_fstr {e1 e2:Expr} {t:TX} (h:PXs X (e1 :: e2 :: es) t) (hz:es.length ≤ 10):PE X (.JoinedStr (e1 :: e2 :: es) pos) (fun σ H Q=>t σ H fun y H'=>Q (.str y) H'):=by
  intro pins s σ H Q I hq
  refine JoinedStr_many (thn (h Str.empty pins s σ H (fun y H'=>Q (.str y) H') (by
    rw [List.length_cons,List.length_cons,sizeLine_eq]
    show 0 + _ ≤ _
    omega) I (by
      have e:(fun y H'=>Q (.str (Str.empty ++ y)) H') = fun y H'=>Q (.str y) H':=by
        funext y H'
        rw [nil_str]
      show t σ H (fun y H'=>Q (.str (Str.empty ++ y)) H')
      rw [e]
      exact hq)) fun u s1 ⟨x,k,H1,eu,I1,q⟩=>⟨.str x,H1,I1,⟨k,eu⟩,q⟩)
end
end L2
namespace L2
open PySem PySem.Spec PyProof.Rows MX
section
variable {X:Cx} {CX:CXT} {k:Nat} {f C:Addr} {fd:FuncData} {ps:List Str} {sp:Sp} {dvs:List V} {ds:List Value} {E:XK} {x m:Str} {p pos apos:Pos} {e:Expr} {es:List Expr} {t:TA}
structure Aa (K:PySem.W.Frag) (C:Addr) (m:Str) (v:Value):Prop where
  sp:PySem.W.specialIn K (.ref C) "__getattribute__" = some (some (.builtin "type.__getattribute__"))
  rd:PySem.W.readsIn K C (.type "type") = true
  at_:PySem.W.findCls K (.ref C) (.type "type") m = some (.val v)
theorem acf {pl:Sem Bool} (F:bB X.prog X.w X.K X.mg X.base CX k f fd ps sp) (hr:gP k X.A) (hg:Gl X x) (hm:X.mg x = some (.ref C)) (ca:Aa X.K C m (.ref f)) (hk:PySem.W.keepIn X.K (.ref f) = true) (hb:Binds X.K fd ps ds) (hd:Vals dvs ds) (hx:jT CX X E)
    (ha:PA X (e :: es) t) (hdb:(x == ("__debug__":Str)) = false:=by decide) (he:starEach (e :: es) X.env = (false,eval e X.env) :: starEach es X.env:=by rfl) (hpl:(backTo pos (starEach es X.env)).any (·.1) = false:=by rfl)
    (ht:eval (.Call (.Attribute (.Name x p) m apos) (e :: es) [] pos) X.env = (do
      let ov ← eval (.Name x p) X.env
      standAt apos.atName
      let (f,first) ← holding [ov] (getMethod ov m pl)
      callWith pos f first (backTo pos (starEach (e :: es) X.env)) (backToKw pos (keywordEach [] X.env))):=by rfl) :
    PE X (.Call (.Attribute (.Name x p) m apos) (e :: es) [] pos) (VH sp dvs E t):=by
  intro pins s σ H Q I h
  refine PySem.W.methodCall_KW (pl:=pl) (t7 I hg hm ?_ hdb) ht
  refine PySem.W.method_cls I.kIn ca.sp (PySem.W.cls_value I.kIn ca.rd ca.at_ rfl ?_)
  have I1:=I.tok (s.toks + 1)
  refine PySem.W.callWith_K (first:=[]) (h₀:=X.base) I.ok.mod.kin hk (thn (ha pos pins _ σ H _ I1 h) fun us s1 ⟨vs,H1,I2,r,q⟩=>⟨I2.kIn,?_⟩) he hpl
  exact aae F hr hb hd hx I2 r q
end
def excP (n:Bool) (C:Addr) (dd:Option Addr) (e:Addr) (h:Heap):Prop:=∃ o vs t,h.get? e = some o∧o.cls = .ref C∧o.dict = dd∧o.data = .fields vs∧vs[0]? = some (.ref t)∧(n = true→vs = #[.ref t,.none,.none,.none,.bool false,.none])
def xdP (fs:List (Str × V)) (d:Addr) (h:Heap):Prop:=∃ mA,h.Ns1 d mA∧(∀ f,uT (fs.lookup f) (mA f))∧PySem.Within mA (fs.map (·.1))
abbrev HO.exc (n:Bool) (C:Addr) (dd:Option Addr) (e:Addr):HO:=.ext (excP n C dd e)
abbrev HO.xds (fs:List (Str × V)) (d:Addr):HO:=.ext (xdP fs d)
theorem excP.ok {P:Program} {w:World} {H:Hp} {h:Heap} {n:Bool} {C e:Addr} {dd:Option Addr} (x:excP n C dd e h):dX P w H h e (.exc n C dd e):=by
  refine ⟨x,?_,fun h1 h2 y k=>?_⟩
  · obtain ⟨o,_,_,q,_⟩:=x
    exact ⟨o,q⟩
  · obtain ⟨o,vs,t,q,r⟩:=y
    exact ⟨o,vs,t,k o q,r⟩
theorem xdP.ok {P:Program} {w:World} {H:Hp} {h:Heap} {fs:List (Str × V)} {d:Addr} (x:xdP fs d h):dX P w H h d (.xds fs d):=by
  refine ⟨x,?_,fun h1 h2 y k=>?_⟩
  · obtain ⟨_,⟨o,_,_,q,_⟩,_⟩:=x
    exact ⟨o,q⟩
  · obtain ⟨mA,⟨o,es,ep,q,r⟩,z⟩:=y
    exact ⟨mA,⟨o,es,ep,k o q,r⟩,z⟩
structure ExcC (K:PySem.W.Frag) (C N:Addr):Prop extends ExcGet K C where
  obj:∃ nm q bs bm sn sub ab col dd k0 k1 k2 k3 k5,K.lookup C = some (excClassObj nm q C N bs bm true sn sub ab col dd k0 k1 k2 k3 k5 "ValueError.__new__")∧PySem.W.tailIn K bmV bm = true
  ns:PySem.W.nsOkIn K N = true
  kp:PySem.W.keepIn K (.ref C) = true
theorem aea {K:PySem.W.Frag} {h:Heap} {N:Addr} {m:Str→Option Value} {n:Str} {v:Value} (X:K.In h) (G:h.Ns N m) (e:PySem.W.nsIn K N n = some (some v)):m n = some v:=by
  obtain ⟨o,es,ep,ho,hd,_,hf⟩:=G
  unfold PySem.W.nsIn at e
  split at e
  · rename_i q
    have z:=X _ _ q
    rw [ho] at z
    cases z
    cases hd
    split at e
    · rename_i he
      cases e
      rw [← hf]
      unfold nsFind findBy
      rw [← Array.find?_toList,he]
      rfl
    · split at e <;> cases e
  · cases e
section
variable {X:Cx} {CX:CXT} {k:Nat} {f C N:Addr} {fd:FuncData} {ps:List Str} {sp:Sp} {dvs:List V} {ds:List Value} {E:XK} {x m:Str} {p pos apos:Pos} {e:Expr} {es:List Expr} {t:TA}
def tMakeX (C:Addr) (sp:Sp) (dvs:List V) (E:XK) (t:TA):TE:=fun σ H Q=>t σ H fun vs H1=>vs.length ≤ 1000∧∀ a,H1 a = none →
  sp (.ref a :: (vs ++ dvs)) (upd H1 a (.exc true C none a)) (fun v H2=>v = .non∧Q (.ref a) H2) E
theorem af0 {pins:List (Addr × Obj)} {σ:St} {H:Hp} {s:Shared} {Q:VK} {us:List Value} {vs:List V} (M:ExcC X.K C N) (hi:PySem.W.nsIn X.K N "__init__" = some (some (.ref f))) (hfn:PySem.W.isFn X.K (.ref f) = true)
    (F:bB X.prog X.w X.K X.mg X.base CX k f fd ps sp) (hr:gP (k + 1) X.A) (hb:Binds X.K fd ps ds) (hd:Vals dvs ds) (hx:jT CX X E) (I:Inv X pins σ H s) (r:Vals vs us) (hz:us.length ≤ 1000)
    (h:∀ a,H a = none→sp (.ref a :: (vs ++ dvs)) (upd H a (.exc true C none a)) (fun v H2=>v = .non∧Q (.ref a) H2) E) :
    wpAny (model X.prog X.w) X.A (call (.ref C) us) (EP X pins σ Q) X.xe s:=by
  obtain ⟨nm,q,bs,bm,sn,sub,ab,col,dd,k0,k1,k2,k3,k5,lk,tl⟩:=M.obj
  have G:s.heap.Ns N (s.heap.nsMap N):=.of_isNs (PySem.W.isNs_of_in I.kIn M.ns)
  have hf:PySem.W.typeIn X.K (.ref f) = some (.type "function"):=beq_iff_eq.mp hfn
  obtain ⟨oI,ho,hc⟩:=Option.map_eq_some_iff.mp hf
  have hq:=h (s.heap.objs.size + 1) (I.hok.fresh (Nat.le_succ _))
  obtain ⟨hp,g,d,tk,os⟩:=s
  have hx1:(Az hp C us).get? (hp.objs.size + 1) = some (aad C hp.objs.size):=by
    have:=Heap.get?_push_size (hp.push (aac us)) (o:=aad C hp.objs.size) rfl
    rwa [Heap.size_push] at this
  have I2:Inv X pins σ (upd H (hp.objs.size + 1) (.exc true C none (hp.objs.size + 1))) ⟨Az hp C us,g,d,tk,os⟩ :=
    I.laid (t':=tk) (fun b u z=>Heap.get?_push_of_some _ (Heap.get?_push_of_some _ z)) (Nat.le_succ _) (excP.ok ⟨_,_,hp.objs.size,hx1,rfl,rfl,rfl,rfl,fun _=>rfl⟩)
  have r2:Vals (V.ref (hp.objs.size + 1) :: (vs ++ dvs)) (Value.ref (hp.objs.size + 1) :: (us ++ ds)):=.cons rfl (r.append hd)
  have hl:(Value.ref (hp.objs.size + 1) :: us ++ ds).length = ps.length:=by
    have z:=r2.length
    rw [F.len _ _ _ _ hq] at z
    exact z.symm
  refine callInit PySem.F.excBase_ValueError (PySem.W.tail_of_in I.kIn tl) (I.kIn _ _ lk) G (aea I.kIn G hi) (I.kIn _ _ ho) hc (Nat.le_trans hz (by rw [sizeLine_eq]; decide)) ?_
  refine wpAny_call (codeAny_mono (F.run _ X.stack _ _ ⟨Value.ref (hp.objs.size + 1) :: us,[]⟩ (Value.ref (hp.objs.size + 1) :: (us ++ ds)) _ _ E (hr.make C us []) (I2.env0.make C us []) (hb _ (Value.ref (hp.objs.size + 1) :: us) I2.kIn hl) r2 hq) fun r s' z=>?_)
  cases r with
  | error e=>exact hx pins σ _ _ e s' I2 z
  | ok fl =>
    cases fl with
    | ret u =>
      obtain ⟨v,H',I3,rv,ev,q3⟩:=I2.after z
      subst ev
      exact ⟨rv,V.ref (hp.objs.size + 1),H',I3,rfl,q3⟩
    | next=>exact False.elim z
    | brk=>exact False.elim z
    | cont=>exact False.elim z
theorem pe_makeX (M:ExcC X.K C N) (hi:PySem.W.nsIn X.K N "__init__" = some (some (.ref f))) (hfn:PySem.W.isFn X.K (.ref f) = true) (F:bB X.prog X.w X.K X.mg X.base CX k f fd ps sp) (hr:gP (k + 1) X.A) (hg:Gl X x) (hm:X.mg x = some (.ref C)) (hb:Binds X.K fd ps ds) (hd:Vals dvs ds) (hx:jT CX X E)
    (ha:PA X (e :: es) t) (hdb:(x == ("__debug__":Str)) = false:=by decide) (he:starEach (e :: es) X.env = (false,eval e X.env) :: starEach es X.env:=by rfl) (hpl:(backTo pos (starEach es X.env)).any (·.1) = false:=by rfl) :
    PE X (.Call (.Name x p) (e :: es) [] pos) (tMakeX C sp dvs E t):=by
  intro pins s σ H Q I h
  refine wpAny_Call_Name_kw (t7 I hg hm ?_ hdb)
  refine PySem.W.callWith_K (h₀:=X.base) I.ok.mod.kin M.kp (thn (ha pos pins s σ H _ I h) fun us s1 ⟨vs,H1,I1,r,hz,q⟩=>⟨I1.kIn,?_⟩) he hpl
  exact af0 M hi hfn F hr hb hd hx I1 r (by rw [List.nil_append,← r.length]; exact hz) q
def af5 (K:PySem.W.Frag) (t:TA):TE:=fun σ H Q=>t σ H fun vs H1=>∃ n a C N dd rest,vs = .ref a :: rest∧rest.length ≤ 1000∧H1 a = some (.exc n C dd a)∧ExcC K C N∧Q .non H1
theorem ace {B:Addr} {pl:Sem Bool} (hg:Gl X x) (hm:X.mg x = some (.ref B)) (ca:Aa X.K B "__init__" (.builtin "ValueError.__init__")) (ha:PA X (e :: es) t) (hdb:(x == ("__debug__":Str)) = false:=by decide)
    (he:starEach (e :: es) X.env = (false,eval e X.env) :: starEach es X.env:=by rfl) (hpl:(backTo pos (starEach es X.env)).any (·.1) = false:=by rfl)
    (ht:eval (.Call (.Attribute (.Name x p) "__init__" apos) (e :: es) [] pos) X.env = (do
      let ov ← eval (.Name x p) X.env
      standAt apos.atName
      let (f,first) ← holding [ov] (getMethod ov "__init__" pl)
      callWith pos f first (backTo pos (starEach (e :: es) X.env)) (backToKw pos (keywordEach [] X.env))):=by rfl) :
    PE X (.Call (.Attribute (.Name x p) "__init__" apos) (e :: es) [] pos) (af5 X.K t):=by
  intro pins s σ H Q I h
  refine PySem.W.methodCall_KW (pl:=pl) (t7 I hg hm ?_ hdb) ht
  refine PySem.W.method_cls I.kIn ca.sp (PySem.W.cls_value I.kIn ca.rd ca.at_ (by decide +kernel) ?_)
  have I1:=I.tok (s.toks + 1)
  refine PyProof.Rows.callWith_builtin1 (thn (ha pos pins _ σ H _ I1 h) fun us s1 ⟨vs,H1,I2,r,q⟩=>?_) he hpl
  obtain ⟨n,a,C,N,dd,rest,rfl,hz,hH,M,q⟩:=q
  cases r with
  | @cons _ u0 _ us r0 rr =>
    cases r0
    obtain ⟨nm,qn,bs,bm,sn,sub,ab,col,d2,k0,k1,k2,k3,k5,lk,tl⟩:=M.obj
    obtain ⟨⟨o,fs,t0,e1,e2,e3,e4,e5,e9⟩,_,_⟩:=I2.hok a _ hH
    obtain ⟨hp,g,d,tk,os⟩:=s1
    refine adQ PySem.F.excBase_ValueError (PySem.W.tail_of_in I2.kIn tl) (I2.kIn _ _ lk) e1 e2 e4 e5 (by rw [← rr.length]; exact Nat.le_trans hz (by rw [sizeLine_eq]; decide)) fun h' kp e6=>?_
    have I3:=I2.write (x:=a) (e:=a) (o:=.exc n C dd a) (t':=tk) (by rw [hH]; exact True.intro) (.inl rfl) (fun b u hb z=>kp b u hb z) ⟨_,e6⟩ (excP.ok ⟨_,_,hp.objs.size,e6,e2,e3,rfl,by
      have lt:0 < fs.size:=(Array.getElem?_eq_some_iff.mp e5).1
      simp [lt],fun z=>by rw [e9 z]; rfl⟩)
    rw [Q6 hH] at I3
    exact ⟨.non,H1,I3,rfl,q⟩
end
end L2
namespace L2
open PySem PySem.Spec PyProof.Rows MX
section
variable {X:Cx} {pins:List (Addr × Obj)} {σ:St} {H:Hp} {s:Shared} {h':Heap}
theorem Inv.af9 {x d:Addr} {o1 o2:HO} {t':Nat} (I:Inv X pins σ H s) (mu:Mut (H x)) (k:∀ b u,b ≠ x→s.heap.get? b = some u→h'.get? b = some u) (heo:∃ u,h'.get? x = some u) (hd:s.heap.objs.size ≤ d)
    (n1:dX X.prog X.w (upd (upd H d o2) x o1) h' x o1) (n2:dX X.prog X.w (upd (upd H d o2) x o1) h' d o2):Inv X pins σ (upd (upd H d o2) x o1) { s with heap:=h',toks:=t' }:=by
  have hn:H d = none:=I.hok.fresh hd
  have nx:∀ b,H b = none→b ≠ x:=fun b n z=>by subst z; rw [n] at mu; exact mu
  have nm:∀ b u,H b = some u→¬ Mut (some u)→b ≠ x:=fun b u q m z=>by subst z; rw [q] at mu; exact m mu
  have nd:∀ b u,s.heap.get? b = some u→b ≠ d:=fun b u e=>Nat.ne_of_lt (Nat.lt_of_lt_of_le (Heap.lt_size e) hd)
  refine I.step (g':=s.gens) (d':=s.drawn) (ch:=[]) (fun _ z=>nomatch z) (fun b u _ _ _ e n=>k b u (nx b n) e) (fun b u _ _ _ e n=>⟨u.slots,k b u (nx b n) e⟩) (fun b u _ e n=>by rw [aD (nx b n),aD (nd b u e)]; exact n) (fun b u _ e=>?_)
    (fun b xs e=>by rw [aD (nm b _ e fun z=>z),aD (aQ e hn)]; exact e) (fun b u xs e=>by rw [aD (nm b _ e fun z=>z),aD (aQ e hn)]; exact e) (fun b ps e=>⟨#[],by rw [aD (nm b _ e fun z=>z),aD (aQ e hn),e]; simp⟩) (fun m hm=>?_) (fun b u e=>?_) I.bare
  · by_cases hb:b = x
    · rw [hb]; exact heo
    · exact ⟨u,k b u hb e⟩
  · obtain ⟨o',es,ep,ho,r⟩:=hm
    exact ⟨o',es,ep,k _ o' (nx _ I.free) ho,r⟩
  · by_cases hb:b = x
    · subst hb
      rw [aL] at e
      cases e
      exact n1
    · rw [aD hb] at e
      by_cases hc:b = d
      · subst hc
        rw [aL] at e
        cases e
        exact n2
      · rw [aD hc] at e
        refine (I.hok b u e).stay (fun c v hc q=>k c v ?_ q) (fun c q=>by rw [aD (nm c _ q fun z=>z),aD (aQ q hn)]; exact q) fun c xs q=>by rw [aD (nm c _ q fun z=>z),aD (aQ q hn)]; exact q
        rcases hc with z | z
        · rw [z]; exact hb
        · exact nm c _ z fun q=>q
end
def sFldX (K:PySem.W.Frag) (ta tv:TE) (f:Str):TS:=fun D σ H=>tv σ H fun y H1=>ta σ H1 fun x H2=>∃ n a C,x = .ref a∧ExcGet K C∧cT K C f ∧
  ((H2 a = some (.exc n C none a)∧∀ d,H2 d = none→d ≠ a→D.nx σ (upd (upd H2 d (.xds [(f,y)] d)) a (.exc n C (some d) a))) ∨
    ∃ d fs,H2 a = some (.exc n C (some d) a)∧H2 d = some (.xds fs d)∧fs.length < 900∧D.nx σ (upd H2 d (.xds (jK f y fs) d)))
def tFldX (K:PySem.W.Frag) (ta:TE) (f:Str):TE:=fun σ H Q=>ta σ H fun x H1=>∃ n a C d fs v,x = .ref a∧H1 a = some (.exc n C (some d) a)∧H1 d = some (.xds fs d)∧ExcGet K C∧cT K C f∧fs.lookup f = some v∧Q v H1
section
variable {X:Cx} {o e value:Expr} {f:Str} {pos pos':Pos} {ta tv:TE}
theorem aeV {K:PySem.W.Frag} {h:Heap} {C:Addr} {cd:ClassData} (x:K.In h) (e:PySem.W.clsIn K C = some cd):∃ oC,h.get? C = some oC∧oC.data = .cls cd:=by
  unfold PySem.W.clsIn at e
  split at e
  · rename_i q
    cases e
    exact ⟨_,x _ _ q,rfl⟩
  · cases e
theorem afj (ha:PE X o ta) (hv:PE X value tv) (hs:swapsWith value (some (.Attribute o f pos')) pos.line X.env = pure false):PS X (.Assign [.Attribute o f pos'] value pos) (sFldX X.K ta tv f):=by
  intro pins s σ H D I h
  refine plainObj_wpAny_Assign_Attribute (thn (hv pins s σ H _ I h) fun u s1 ⟨y,H1,I1,ry,q⟩=>thn (ha pins s1 σ H1 _ I1 q) fun ov s2 ⟨x,H2,I2,rx,n,a,C,ex,G,na,q2⟩=>?_) hs
  subst ex
  obtain rfl:ov = Value.ref a:=rx
  obtain ⟨cd,l,hc,hdt,hm,hr⟩:=G.cls
  rcases q2 with ⟨hH,q2⟩ | ⟨d,fs,hH,hD,hl,q2⟩
  · obtain ⟨⟨ob,vs,t0,e1,e2,e3,e4,e5⟩,_,_⟩:=I2.hok a _ hH
    have IA:PySem.W.InstAt s2.heap a ob C none:=⟨e1,e2,by unfold PySem.W.notCls; rw [e4],by rw [e3]; trivial⟩
    refine excSet G I2.kIn IA na fun b tk A'=>?_
    obtain ⟨hp,g,dd,tt,os⟩:=s2
    refine aeJ e1 e2 (fun c z=>by rw [e4] at z; cases z) e3 (aeV I2.kIn hc) hdt fun h' tk' kp e6 n1=>⟨rfl,?_⟩
    have ne:a ≠ hp.objs.size:=Nat.ne_of_lt (Heap.lt_size e1)
    refine ⟨σ,_,I2.af9 (x:=a) (d:=hp.objs.size) (o1:=.exc n C (some hp.objs.size) a) (o2:=.xds [(f,y)] hp.objs.size) (t':=tk') (by rw [hH]; exact True.intro) kp ⟨_,e6⟩ (Nat.le_refl _) (excP.ok ⟨_,vs,t0,e6,e2,rfl,e4,e5⟩) (xdP.ok ⟨_,n1,fun g=>?_,fun g hg=>?_⟩),q2 _ (I2.hok.fresh (Nat.le_refl _)) ne.symm⟩
    · show uT (List.lookup g [(f,y)]) (if g = f then some u else none)
      by_cases z:g = f
      · rw [if_pos z,z]
        simp only [List.lookup_cons,beq_self_eq_true]
        exact ry
      · rw [if_neg z]
        simp only [List.lookup_cons,beq_eq_false_iff_ne.mpr z]
        trivial
    · by_cases z:g = f
      · rw [z]; simp
      · exact absurd (if_neg z) hg
  · obtain ⟨⟨ob,vs,t0,e1,e2,e3,e4,e5⟩,_,_⟩:=I2.hok a _ hH
    obtain ⟨⟨mA,n1,rl,wi⟩,_,_⟩:=I2.hok d _ hD
    have n1':=n1
    obtain ⟨oD,esD,epD,eD,_⟩:=n1'
    have IA:PySem.W.InstAt s2.heap a ob C (some oD):=⟨e1,e2,by unfold PySem.W.notCls; rw [e4],by rw [e3]; exact eD⟩
    refine excSet G I2.kIn IA na fun b tk A'=>?_
    obtain ⟨hp,g,dd,tt,os⟩:=s2
    refine af3 (ns:=fs.map (·.1)) e1 e2 e3 (aeV I2.kIn hc) hdt n1 wi (by rw [List.length_map]; omega) fun h' tk' sb n2=>⟨rfl,?_⟩
    have hd':∃ o,h'.get? d = some o:=let ⟨o,_,_,q,_⟩:=n2; ⟨o,q⟩
    refine ⟨σ,_,I2.write (x:=d) (e:=d) (o:=.xds (jK f y fs) d) (t':=tk') (by rw [hD]; exact True.intro) (.inl rfl) (fun b u hb z=>(sb.2 b hb).trans z) hd' (xdP.ok ⟨_,n2,fun g=>?_,fun g hg=>?_⟩),q2⟩
    · show uT ((jK f y fs).lookup g) (if g = f then some u else mA g)
      rw [zR]
      by_cases z:g = f
      · rw [if_pos z,if_pos z]; exact ry
      · rw [if_neg z,if_neg z]; exact rl g
    · by_cases z:g = f
      · rw [z]; exact (vm f y fs).1
      · refine (vm f y fs).2 g (wi g fun q=>hg ?_)
        show (if g = f then some u else mA g) = none
        rw [if_neg z]; exact q
theorem pe_fldX (he:PE X e ta) (hb:attributeBase e f X.env (eval e X.env) = eval e X.env):PE X (.Attribute e f pos) (tFldX X.K ta f):=by
  intro pins s σ H Q I h
  refine aeT hb (thn (he pins s σ H _ I h) fun u s1 ⟨x,H1,I1,rx,n,a,C,d,fs,v,ex,hH,hD,G,na,lk,q⟩=>?_)
  subst ex
  obtain rfl:u = Value.ref a:=rx
  obtain ⟨cd,l,hc,hdt,hm,hr⟩:=G.cls
  obtain ⟨⟨ob,vs,t0,e1,e2,e3,e4,e5⟩,_,_⟩:=I1.hok a _ hH
  obtain ⟨⟨mA,n1,rl,wi⟩,_,_⟩:=I1.hok d _ hD
  obtain ⟨oD,eD,look⟩:=Vx n1
  have IA:PySem.W.InstAt s1.heap a ob C (some oD):=⟨e1,e2,by unfold PySem.W.notCls; rw [e4],by rw [e3]; exact eD⟩
  obtain ⟨uv,hu,ru⟩:=uT.some_of (v:=v) (o:=mA f) (by rw [← lk]; exact rl f)
  have hh:PySem.W.hasDictIn X.K C = true:=by
    unfold PySem.W.hasDictIn
    rw [hc]
    exact hdt
  exact abO G I1.kIn IA (PySem.W.findObj_own hh na rfl (by rw [look,hu])) (Vq ru) ⟨v,H1,I1.tok _,ru,q⟩
inductive TyX (K:PySem.W.Frag) (H:Hp):V→Value→Prop where
  | of {x:V} {t:Value} (h:Hl K H x t):TyX K H x t
  | e0 {n:Bool} {a C:Addr} (h:H a = some (.exc n C none a)) (g:ExcGet K C):TyX K H (.ref a) (.ref C)
  | e1 {n:Bool} {a C d:Addr} {fs:List (Str × V)} (h:H a = some (.exc n C (some d) a)) (h':H d = some (.xds fs d)) (g:ExcGet K C):TyX K H (.ref a) (.ref C)
def clsV:V→Value
  | .ref C=>.ref C
  | .ty n=>.type n
  | _=>.none
def rIsi (K:PySem.W.Frag) (xs:List V) (H:Hp) (Q:VK):Prop:=∃ x c t b,xs = [x,c]∧(c = .ref (match c with | .ref C=>C | _=>0) ∨ c = .ty (match c with | .ty n=>n | _=>""))∧TyX K H x t∧PySem.W.kitOne K t (clsV c) = some b∧Q (.bl b) H
theorem call_isi:pQ X (.builtin "isinstance") (rIsi X.K):=by
  intro pins s σ H xs us Q I r h
  obtain ⟨x,c,t,b,rfl,hc,ty,ek,q⟩:=h
  cases r with
  | @cons _ u _ _ rx rr =>
    cases rr with
    | @cons _ cu _ _ rc rr =>
      cases rr
      have ec:cu = clsV c:=by
        rcases hc with z | z <;> · rw [z] at rc ⊢; exact rc
      subst ec
      have fin:∀ tk,EP X pins σ Q (.bool b) { s with toks:=tk }:=fun tk=>⟨.bl b,H,I.tok tk,rfl,q⟩
      cases ty with
      | of ty=>exact afN I rx ty ek fin
      | @e0 n a C hH G =>
        cases rx
        obtain ⟨⟨ob,vs,t0,e1,e2,e3,e4,e5⟩,_,_⟩:=I.hok a _ hH
        have IA:PySem.W.InstAt s.heap a ob C none:=⟨e1,e2,by unfold PySem.W.notCls; rw [e4],by rw [e3]; trivial⟩
        exact PySem.W.kia_one (excKit G) I.kIn IA ek (fun z=>nomatch z) fin
      | @e1 n a C d fs hH hD G =>
        cases rx
        obtain ⟨⟨ob,vs,t0,e1,e2,e3,e4,e5⟩,_,_⟩:=I.hok a _ hH
        obtain ⟨⟨mA,n1,rl,wi⟩,_,_⟩:=I.hok d _ hD
        obtain ⟨oD,esD,epD,eD,_⟩:=n1
        have IA:PySem.W.InstAt s.heap a ob C (some oD):=⟨e1,e2,by unfold PySem.W.notCls; rw [e4],by rw [e3]; exact eD⟩
        exact PySem.W.kia_one (excKit G) I.kIn IA ek (fun z=>nomatch z) fin
end
theorem kit_sub {K:PySem.W.Frag} {t:Value} {C:Addr} {cd:ClassData} {b:Bool} (h1:PySem.W.clsIn K C = some cd) (h2:PySem.W.typeIn K (.ref C) = some (.type "type")) (h3:PySem.W.subIn K t (.ref C) = some b) (h4:t = .ref C→b = true):PySem.W.kitOne K t (.ref C) = some b:=by
  unfold PySem.W.kitOne
  by_cases q:(t == Value.ref C) = true
  · rw [if_pos q,h4 (beq_iff_eq.mp q)]
  · rw [if_neg q]
    unfold PySem.W.kitCls
    dsimp only
    rw [h1,h2,if_pos (by simp)]
    exact h3
end L2
namespace L2
open PySem PySem.Spec PyProof.Rows
mutual
inductive G9 (K:PySem.W.Frag) (H:Hp):V→PyData→Prop
  | non:G9 K H .non .none
  | bl (b:Bool):G9 K H (.bl b) (.bool b)
  | int (i:Int):G9 K H (.int i) (.int i)
  | str (x:Str):G9 K H (.str x) (.str x)
  | lst {a:Addr} {xs:List V} {ds:List PyData} (h:SqL K H a xs) (r:lD K H xs ds):G9 K H (.ref a) (.list ds)
  | tup {a:Addr} {xs:List V} {ds:List PyData} (h:SqT K H a xs) (r:lD K H xs ds):G9 K H (.ref a) (.tuple ds)
inductive lD (K:PySem.W.Frag) (H:Hp):List V→List PyData→Prop
  | nil:lD K H [] []
  | cons {x:V} {xs:List V} {d:PyData} {ds:List PyData} (h:G9 K H x d) (r:lD K H xs ds):lD K H (x :: xs) (d :: ds)
end
section
variable {X:Cx} {pins:List (Addr × Obj)} {σ:St} {H:Hp} {s:Shared}
mutual
theorem G9.reads (I:Inv X pins σ H s):∀ {x:V} {d:PyData} {u:Value},G9 X.K H x d→RelV x u→∃ as,Reads s.heap u d as
  | _,_,_,.non,r=>by cases r; exact ⟨_,.none⟩
  | _,_,_,.bl b,r=>by cases r; exact ⟨_,.bool b⟩
  | _,_,_,.int i,r=>by obtain ⟨t,rfl⟩:=r; exact ⟨_,.int i t⟩
  | _,_,_,.str x,r=>by obtain ⟨t,rfl⟩:=r; exact ⟨_,.str x t⟩
  | _,_,_,.lst h q,r=>by
    cases r
    obtain ⟨its,rv,p,_⟩:=I.list h
    obtain ⟨as,z⟩:=lD.reads I q rv
    obtain ⟨o,e,c,n,dd⟩:=p.isList
    exact ⟨_,.list e c dd (by simpa using z)⟩
  | _,_,_,.tup h q,r=>by
    cases r
    obtain ⟨its,rv,p,_⟩:=I.tuple h
    obtain ⟨as,z⟩:=lD.reads I q rv
    obtain ⟨o,e,c,n,dd⟩:=p
    exact ⟨_,.tuple e c dd (by simpa using z)⟩
theorem lD.reads (I:Inv X pins σ H s):∀ {xs:List V} {ds:List PyData} {us:List Value},lD X.K H xs ds→Vals xs us→∃ as,ReadsAll s.heap us ds as
  | _,_,_,.nil,.nil=>⟨_,.nil⟩
  | _,_,_,.cons h q,.cons r rr=>by
    obtain ⟨as,z⟩:=G9.reads I h r
    obtain ⟨bs,y⟩:=lD.reads I q rr
    exact ⟨_,.cons z y⟩
end
end
def rEqD (K:PySem.W.Frag) (neg:Bool):R2:=fun x y H Q=>∃ da db,G9 K H x da∧G9 K H y db∧da.canLay0 = true∧db.canLay0 = true∧da.depth ≤ 50∧Q (.bl (PyData.eqv da db != neg)) H
section
variable {X:Cx}
theorem op_eqD (hu:X.A.units + 64 < cLine):OpR X (compareOp .Eq) (rEqD X.K false):=by
  intro pins s σ H x y v u Q I rx ry h
  obtain ⟨da,db,d1,d2,c1,c2,dp,q⟩:=h
  obtain ⟨as,r1⟩:=d1.reads I rx
  obtain ⟨bs,r2⟩:=d2.reads I ry
  exact SeqAt.compareEq_reads r1 r2 c1 c2 (by omega) ⟨.bl (PyData.eqv da db),H,I,rfl,by simpa using q⟩
theorem op_neD (hu:X.A.units + 64 < cLine):OpR X (compareOp .NotEq) (rEqD X.K true):=by
  intro pins s σ H x y v u Q I rx ry h
  obtain ⟨da,db,d1,d2,c1,c2,dp,q⟩:=h
  obtain ⟨as,r1⟩:=d1.reads I rx
  obtain ⟨bs,r2⟩:=d2.reads I ry
  exact SeqAt.compareNe_reads r1 r2 c1 c2 (by omega) ⟨.bl (!PyData.eqv da db),H,I,rfl,by simpa using q⟩
theorem op_mulS:OpR X (binaryOp .Mult) (fun x y H Q=>∃ i n,x = .str i∧y = .int n∧i.length ≤ 1000∧0 ≤ n∧n ≤ 1000∧Q (.str (Txt.mul i n)) H):=by
  intro pins s σ H x y v u Q I rx ry h
  obtain ⟨i,n,rfl,rfl,h1,h2,h3,q⟩:=h
  obtain ⟨t,rfl⟩:=rx
  obtain ⟨t',rfl⟩:=ry
  exact PySem.SB.mul (mulOk_of 1000 1000 h1 (by omega) (by omega) (by decide) (by decide)) fun t'' k=>⟨.str (Txt.mul i n),H,I.tok k,⟨_,rfl⟩,q⟩
end
end L2
namespace L2
open PySem PySem.Spec PyProof.Rows
section
variable {κ:Type} [DecidableEq κ]
def Jv (kvs:List (κ × V)) (k:κ):Option V:=(kvs.find? fun kv=>decide (kv.1 = k)).map (·.2)
def putK (kvs:List (κ × V)) (k:κ) (v:V):List (κ × V) :=
  if (kvs.any fun kv=>decide (kv.1 = k)) = true then kvs.map (fun kv=>if kv.1 = k then (kv.1,v) else kv) else kvs ++ [(k,v)]
def dropK (kvs:List (κ × V)) (k:κ):List (κ × V):=kvs.filter fun kv=>decide (kv.1 ≠ k)
theorem Q9 {p:κ × V} {r:List (κ × V)} {k:κ} (e:p.1 = k):Jv (p :: r) k = some p.2:=by simp [Jv,List.find?_cons,e]
theorem Q8 {p:κ × V} {r:List (κ × V)} {k:κ} (e:¬ p.1 = k):Jv (p :: r) k = Jv r k:=by simp [Jv,List.find?_cons,e]
theorem Q7 (k:κ):∀ kvs:List (κ × V),(kvs.any fun kv=>decide (kv.1 = k)) = (Jv kvs k).isSome
  | []=>rfl
  | p :: r=>by
    rw [List.any_cons]
    by_cases e:p.1 = k
    · simp only [Q9 e,decide_eq_true e,Bool.true_or,Option.isSome_some]
    · rw [Q8 e,decide_eq_false e,Bool.false_or]; exact Q7 k r
theorem abZ (kvs:List (κ × V)) (k:κ) (v:V):(putK kvs k v).length ≤ kvs.length + 1:=by
  unfold putK
  split
  · rw [List.length_map]; omega
  · rw [List.length_append,List.length_cons,List.length_nil]; omega
theorem uT.afM {o:Option V} {u:Option Value} (r:uT o u):o.isSome = u.isSome:=by
  cases o with
  | none=>cases u with
    | none=>rfl
    | some _=>exact (show False from r).elim
  | some _=>cases u with
    | none=>exact (show False from r).elim
    | some _=>rfl
theorem uT.getD {o:Option V} {u:Option Value} {d:V} {d':Value} (r:uT o u) (rd:RelV d d'):RelV (o.getD d) (u.getD d'):=by
  cases o with
  | none=>cases u with
    | none=>exact rd
    | some _=>exact (show False from r).elim
  | some _=>cases u with
    | none=>exact (show False from r).elim
    | some _=>exact r
theorem KV.val {kvs:List (κ × V)} {vs:List (κ × Value)} (r:KV kvs vs) (k:κ):uT (Jv kvs k) (valueAt vs k):=by
  unfold KV at r
  induction r with
  | nil=>exact True.intro
  | @cons p q ps qs h t ih =>
    obtain ⟨h1,h2⟩:=h
    by_cases e:p.1 = k
    · have e':q.1 = k:=h1.symm.trans e
      have b:valueAt (q :: qs) k = some q.2:=by simp [valueAt,List.find?_cons,e']
      rw [Q9 e,b]; exact h2
    · have e':¬ q.1 = k:=fun z=>e (h1.trans z)
      have b:valueAt (q :: qs) k = valueAt qs k:=by simp [valueAt,List.find?_cons,e']
      rw [Q8 e,b]; exact ih
theorem KV.any {kvs:List (κ × V)} {vs:List (κ × Value)} (r:KV kvs vs) (k:κ):(kvs.any fun kv=>decide (kv.1 = k)) = vs.any fun kv=>decide (kv.1 = k):=by
  unfold KV at r
  induction r with
  | nil=>rfl
  | cons h t ih=>rw [List.any_cons,List.any_cons,ih,h.1]
theorem KV.repl {kvs:List (κ × V)} {vs:List (κ × Value)} (r:KV kvs vs) (k:κ) {y:V} {u:Value} (ry:RelV y u) :
    KV (kvs.map fun kv=>if kv.1 = k then (kv.1,y) else kv) (vs.map fun kv=>if kv.1 = k then (kv.1,u) else kv):=by
  unfold KV at r ⊢
  induction r with
  | nil=>exact .nil
  | @cons p q ps qs h t ih =>
    rw [List.map_cons,List.map_cons]
    refine .cons ?_ ih
    obtain ⟨h1,h2⟩:=h
    by_cases e:p.1 = k
    · rw [if_pos e,if_pos (h1.symm.trans e)]; exact ⟨h1,ry⟩
    · rw [if_neg e,if_neg (fun z=>e (h1.trans z))]; exact ⟨h1,h2⟩
theorem KV.put {kvs:List (κ × V)} {vs:List (κ × Value)} (r:KV kvs vs) (k:κ) {y:V} {u:Value} (ry:RelV y u):KV (putK kvs k y) (stored vs k u):=by
  unfold putK stored
  rw [r.any k]
  by_cases e:(vs.any fun kv=>decide (kv.1 = k)) = true
  · rw [if_pos e,if_pos e]; exact r.repl k ry
  · rw [if_neg e,if_neg e]; exact Paired.snoc r ⟨rfl,ry⟩
theorem KV.drop {kvs:List (κ × V)} {vs:List (κ × Value)} (r:KV kvs vs) (k:κ):KV (dropK kvs k) (without vs k):=by
  unfold KV at r ⊢
  unfold dropK without
  induction r with
  | nil=>exact .nil
  | @cons p q ps qs h t ih =>
    obtain ⟨h1,h2⟩:=h
    rw [List.filter_cons,List.filter_cons]
    by_cases e:p.1 = k
    · have a:¬ decide (p.1 ≠ k) = true:=by simp [e]
      have b:¬ decide (q.1 ≠ k) = true:=by simp [h1.symm.trans e]
      rw [if_neg a,if_neg b]; exact ih
    · have e':¬ q.1 = k:=fun z=>e (h1.trans z)
      have a:decide (p.1 ≠ k) = true:=by simp [e]
      have b:decide (q.1 ≠ k) = true:=by simp [e']
      rw [if_pos a,if_pos b]; exact .cons ⟨h1,h2⟩ ih
theorem KV.keys {kvs:List (κ × V)} {vs:List (κ × Value)} (r:KV kvs vs):kvs.map (·.1) = vs.map (·.1):=by
  unfold KV at r
  induction r with
  | nil=>rfl
  | cons h t ih=>rw [List.map_cons,List.map_cons,ih,h.1]
theorem KV.length {kvs:List (κ × V)} {vs:List (κ × Value)} (r:KV kvs vs):kvs.length = vs.length:=Paired.length r
end
theorem kV_is {P:Program} {w:World} {k:Key} {u:Value} (r:RelV (kV k) u):(mO P w).is k u = true:=by
  cases k with
  | inl i=>obtain ⟨t,e⟩:=(show ∃ t,u = Value.int i t from r); subst e; exact ab1 P w i t
  | inr x=>obtain ⟨t,e⟩:=(show ∃ t,u = Value.str x t from r); subst e; exact ab2 P w x t
abbrev KT (H:Hp):List (List Key × V)→List (List Key × Addr × Value)→Prop:=Paired fun p q=>p.1 = q.1∧H q.2.1 = some (.tup (p.1.map kV))∧RelV p.2 q.2.2
theorem KT.val {H:Hp} {kvs:List (List Key × V)} {xs:List (List Key × Addr × Value)} (r:KT H kvs xs) (k:List Key):uT (Jv kvs k) ((atKey xs k).map (·.2)):=by
  induction r with
  | nil=>exact True.intro
  | @cons p q ps qs h t ih =>
    obtain ⟨h1,_,h2⟩:=h
    by_cases e:p.1 = k
    · have e':q.1 = k:=h1.symm.trans e
      have b:atKey (q :: qs) k = some q.2:=by simp [atKey,List.find?_cons,e']
      rw [Q9 e,b]; exact h2
    · have e':¬ q.1 = k:=fun z=>e (h1.trans z)
      have b:atKey (q :: qs) k = atKey qs k:=by simp [atKey,List.find?_cons,e']
      rw [Q8 e,b]; exact ih
theorem KT.repl {H:Hp} {kvs:List (List Key × V)} {xs:List (List Key × Addr × Value)} (r:KT H kvs xs) (k:List Key) {y:V} {u:Value} (ry:RelV y u) :
    KT H (kvs.map fun kv=>if kv.1 = k then (kv.1,y) else kv) (xs.map (putAt k u)):=by
  induction r with
  | nil=>exact .nil
  | @cons p q ps qs h t ih =>
    rw [List.map_cons,List.map_cons]
    refine .cons ?_ ih
    obtain ⟨h1,h2,h3⟩:=h
    unfold putAt
    by_cases e:p.1 = k
    · rw [if_pos e,if_pos (h1.symm.trans e)]; exact ⟨h1,h2,ry⟩
    · rw [if_neg e,if_neg (fun z=>e (h1.trans z))]; exact ⟨h1,h2,h3⟩
theorem KT.put {H:Hp} {kvs:List (List Key × V)} {xs:List (List Key × Addr × Value)} (r:KT H kvs xs) (k:List Key) {b:Addr} {y:V} {u:Value} (hb:H b = some (.tup (k.map kV))) (ry:RelV y u) :
    KT H (putK kvs k y) (storedH xs k b u):=by
  have e:(kvs.any fun kv=>decide (kv.1 = k)) = (atKey xs k).isSome:=by
    rw [Q7,(r.val k).afM,Option.isSome_map]
  unfold putK storedH
  rw [e]
  by_cases q:(atKey xs k).isSome = true
  · rw [if_pos q,if_pos q]; exact r.repl k ry
  · rw [if_neg q,if_neg q]; exact Paired.snoc r ⟨rfl,hb,ry⟩
theorem KT.keeps {H H':Hp} {kvs:List (List Key × V)} {xs:List (List Key × Addr × Value)} (r:KT H kvs xs) (ht:∀ b ys,H b = some (.tup ys)→H' b = some (.tup ys)):KT H' kvs xs :=
  Paired.mapP r fun _ _ z=>⟨z.1,ht _ _ z.2.1,z.2.2⟩
section
variable {P:Program} {w:World} {H:Hp} {h:Heap} {a:Addr}
theorem rd_of {u:HO} (ok:HOk P w H h) (e:Rd H a u):dX P w H h a u:=e.ok ok
theorem dk_rd {kvs:List (Key × V)} (ok:HOk P w H h) (e:Rd H a (.dK kvs)):kvs.length ≤ sizeLine∧(a == sysModules) = false∧∃ vs,KV kvs vs∧h.DictOf (mO P w) a vs :=
  show dX P w H h a (.dK kvs) from rd_of ok e
theorem dk_of {kvs:List (Key × V)} (ok:HOk P w H h) (e:H a = some (.dK kvs)):kvs.length ≤ sizeLine∧(a == sysModules) = false∧∃ vs,KV kvs vs∧h.DictOf (mO P w) a vs:=dk_rd ok (.inl e)
end
def DGet (H:Hp) (a:Addr) (y:V) (r:Option V):Prop :=
  (∃ kvs k,Rd H a (.dK kvs)∧y = kV k∧r = Jv kvs k) ∨ ∃ kvs k b,Rd H a (.dT kvs)∧y = .ref b∧H b = some (.tup (k.map kV))∧r = Jv kvs k
def DPut (H:Hp) (a:Addr) (y v:V) (H':Hp):Prop :=
  (∃ kvs k,H a = some (.dK kvs)∧y = kV k∧kvs.length < sizeLine∧H' = upd H a (.dK (putK kvs k v))) ∨
  ∃ kvs k b,H a = some (.dT kvs)∧y = .ref b∧H b = some (.tup (k.map kV))∧kvs.length < sizeLine∧H' = upd H a (.dT (putK kvs k v))
theorem DGet.k {H:Hp} {a:Addr} {kvs:List (Key × V)} {k:Key} (e:H a = some (.dK kvs)):DGet H a (kV k) (Jv kvs k):=.inl ⟨kvs,k,.inl e,rfl,rfl⟩
theorem DGet.t {H:Hp} {a b:Addr} {kvs:List (List Key × V)} {k:List Key} (e:H a = some (.dT kvs)) (eb:H b = some (.tup (k.map kV))):DGet H a (.ref b) (Jv kvs k):=.inr ⟨kvs,k,b,.inl e,rfl,eb,rfl⟩
theorem DPut.k {H:Hp} {a:Addr} {kvs:List (Key × V)} {k:Key} {v:V} (e:H a = some (.dK kvs)) (hl:kvs.length < sizeLine):DPut H a (kV k) v (upd H a (.dK (putK kvs k v))):=.inl ⟨kvs,k,e,rfl,hl,rfl⟩
theorem DPut.t {H:Hp} {a b:Addr} {kvs:List (List Key × V)} {k:List Key} {v:V} (e:H a = some (.dT kvs)) (eb:H b = some (.tup (k.map kV))) (hl:kvs.length < sizeLine) :
    DPut H a (.ref b) v (upd H a (.dT (putK kvs k v))):=.inr ⟨kvs,k,b,e,rfl,eb,hl,rfl⟩
section
variable {X:Cx} {pins:List (Addr × Obj)} {σ:St} {H:Hp} {s:Shared} {a:Addr} {y v:V} {u r:Value} {o:Option V} {A:Around} {E:Value→Shared→Prop}
theorem Inv.big (I:Inv X pins σ H s):sysModules < s.heap.objs.size:=by
  have h:mainGlobals < s.heap.objs.size:=(I.mod.glob.keeps I.bk).lt
  exact Nat.lt_trans (by decide) h
theorem d_write {h':Heap} {t':Nat} {ob:HO} (I:Inv X pins σ H s) (mu:Mut (H a)) (hs:Heap.SameBut a s.heap h') (he:∃ q,h'.get? a = some q) (new:dX X.prog X.w (upd H a ob) h' a ob) :
    Inv X pins σ (upd H a ob) { s with heap:=h',toks:=t' } :=
  I.write (x:=a) (e:=a) mu (.inl rfl) (fun b q hb z=>(hs.2 b hb).trans z) he new
theorem dk_new {P:Program} {w:World} {H':Hp} {h':Heap} {kvs:List (Key × V)} {vs:List (Key × Value)} (z:kvs.length ≤ sizeLine) (hd:(a == sysModules) = false) (rel:KV kvs vs) (dd:h'.DictOf (mO P w) a vs) :
    dX P w H' h' a (.dK kvs):=⟨z,hd,vs,rel,dd⟩
end
section
variable {X:Cx} {pins:List (Addr × Obj)} {σ:St} {H:Hp} {s:Shared} {a:Addr} {kvs:List (Key × V)} {k:Key} {u:Value} {A:Around} {E:Value→Shared→Prop}
end
section
variable {X:Cx} {o i e value:Expr} {pos pos' tpos:Pos} {td ty tv:TE}
end
theorem dk_empty {P:Program} {w:World} {H:Hp} (h:Heap) (hb:sysModules < h.objs.size):dX P w H (h.push { cls:=.type "dict",data:=.dict #[] }) h.objs.size (.dK []) :=
  ⟨Nat.zero_le _,beq_eq_false_iff_ne.mpr (Ne.symm (Nat.ne_of_lt hb)),[],.nil,Heap.DictOf.new h⟩
section
variable {X:Cx} {pos:Pos}
end
def aeK:List (TE × TE)→St→Hp→(List (V × V)→Hp→Prop)→Prop
  | [],_,H,Q=>Q [] H
  | (tk,tv) :: r,σ,H,Q=>tk σ H fun x H1=>tv σ H1 fun y H2=>aeK r σ H2 fun ps H3=>Q ((x,y) :: ps) H3
abbrev VV:List (V × V)→List (Value × Value)→Prop:=Paired fun p q=>RelV p.1 q.1∧RelV p.2 q.2
def PPs (X:Cx) (pos:Pos) (keys:List (Option Expr)) (values:List Expr) (trs:List (TE × TE)):Prop :=
  ∀ (pins:List (Addr × Obj)) (s:Shared) (σ:St) (H:Hp) (Q:List (V × V)→Hp→Prop),Inv X pins σ H s→aeK trs σ H Q →
    wpAny (model X.prog X.w) X.A (evalPairs (pairTrees keys values X.env pos)) (fun vs s'=>∃ ps H',Inv X pins σ H' s'∧VV ps vs∧Q ps H') X.xe s
theorem pps_nil {X:Cx} {pos:Pos}:PPs X pos [] [] []:=fun pins s σ H Q I h=>pairTrees_nil_walk ⟨[],H,I,.nil,h⟩
theorem pps_cons {X:Cx} {pos:Pos} {k v:Expr} {ks:List (Option Expr)} {vs:List Expr} {tk tv:TE} {trs:List (TE × TE)} (hk:PE X k tk) (hv:PE X v tv) (hr:PPs X pos ks vs trs) :
    PPs X pos (some k :: ks) (v :: vs) ((tk,tv) :: trs):=fun pins s σ H Q I h =>
  pairTrees_cons_walk (thn (hk pins s σ H _ I h) fun u s1 ⟨x,H1,I1,rx,q1⟩=>thn (hv pins s1 σ H1 _ I1 q1) fun w2 s2 ⟨y,H2,I2,ry,q2⟩ =>
    thn (hr pins s2 σ H2 _ I2 q2) fun ws s3 ⟨ps,H3,I3,rel,q3⟩=>⟨(x,y) :: ps,H3,I3,.cons ⟨rx,ry⟩ rel,q3⟩)
def Qa (kvs more:List (Key × V)):List (Key × V):=more.foldl (fun acc kv=>putK acc kv.1 kv.2) kvs
theorem KV.merge:∀ {more:List (Key × V)} {rs:List (Key × Value)} {kvs:List (Key × V)} {vs:List (Key × Value)},KV more rs→KV kvs vs→KV (Qa kvs more) (merged vs rs):=by
  intro more rs kvs vs r
  unfold KV at r
  induction r generalizing kvs vs with
  | nil=>intro q; exact q
  | @cons p q ps qs h t ih =>
    intro r0
    have e:KV (putK kvs p.1 p.2) (stored vs q.1 q.2):=by
      have:=r0.put p.1 h.2
      rw [← h.1]; exact this
    exact ih e
theorem Cm:∀ (more kvs:List (Key × V)),(Qa kvs more).length ≤ kvs.length + more.length
  | [],kvs=>by show kvs.length ≤ kvs.length + 0; omega
  | p :: r,kvs=>by
    have h1:=Cm r (putK kvs p.1 p.2)
    have h2:=abZ kvs p.1 p.2
    show (Qa (putK kvs p.1 p.2) r).length ≤ _
    rw [List.length_cons]; omega
theorem N6 {P:Program} {w:World}:∀ {kvs:List (Key × V)} {ws:List (Value × Value)},VV (kvs.map fun kv=>(kV kv.1,kv.2)) ws→∃ rs,Carries (mO P w) ws rs∧KV kvs rs
  | [],_,r=>by rw [List.map_nil] at r; cases r; exact ⟨[],True.intro,.nil⟩
  | p :: kvs,_,r=>by
    rw [List.map_cons] at r
    cases r with
    | @cons a b as bs h t =>
      obtain ⟨rs,c,q⟩:=N6 (P:=P) (w:=w) t
      obtain ⟨b1,b2⟩:=b
      exact ⟨(p.1,b2) :: rs,⟨kV_is h.1,rfl,c⟩,.cons ⟨rfl,h.2⟩ q⟩
def tDisp (trs:List (TE × TE)):TE:=fun σ H Q=>∀ p,H p = none→aeK trs σ (upd H p (.dK [])) fun ps H2=>H2 p = some (.dK [])∧∃ kvs:List (Key × V),ps = kvs.map (fun kv=>(kV kv.1,kv.2))∧kvs.length ≤ 15∧Q (.ref p) (upd H2 p (.dK (Qa [] kvs)))
theorem pe_disp {X:Cx} {pos:Pos} {keys:List (Option Expr)} {values:List Expr} {trs:List (TE × TE)} (h:PPs X pos keys values trs) (hall:keys.all (·.isSome) = true) (hl:keys.length = values.length) (h0:keys ≠ [])
    (h15:keys.length ≤ 15):PE X (.Dict keys values pos) (tDisp trs):=by
  intro pins s σ H Q I q
  have hn:=I.hok.fresh (Nat.le_refl s.heap.objs.size)
  have I1:=I.laid (a:=s.heap.objs.size) (o:=.dK []) (h':=s.heap.push { cls:=.type "dict",data:=.dict #[] }) (t':=s.toks) (fun _ _ q=>Heap.get?_push_of_some _ q) (Nat.le_refl _) (dk_empty s.heap I.big)
  refine wpAny_Dict_walk (knd:=mO X.prog X.w) hall hl h0 h15 (thn (h pins _ σ _ _ I1 (q _ hn)) fun ws s2 ⟨ps,H2,I2,rel,e,kvs,ep,lk,q2⟩=>?_)
  subst ep
  obtain ⟨rs,c,rk⟩:=N6 (P:=X.prog) (w:=X.w) rel
  obtain ⟨z,hd,vs0,r0,dd⟩:=dk_of I2.hok e
  cases r0
  refine ⟨rs,c,dd,fun h' dd' hs=>⟨.ref s.heap.objs.size,_,?_,rfl,q2⟩⟩
  have hz:(Qa [] kvs).length ≤ sizeLine:=by
    have h1:=Cm kvs []
    rw [List.length_nil] at h1
    rw [sizeLine_eq]; omega
  have he:∃ q,h'.get? s.heap.objs.size = some q:=let ⟨q,_,_,hq,_⟩:=dd'; ⟨q,hq⟩
  exact d_write I2 (by rw [e]; exact True.intro) hs he (dk_new hz hd (rk.merge .nil) dd')
structure M1 (X:Cx) (o:Expr) (m:Str) (apos:Pos) (e:Expr) (cpos:Pos):Prop where
  base:attributeBase o m X.env (eval o X.env) = eval o X.env
  few:((backTo cpos (starEach [e] X.env)).all (fun x=>!x.1) && (backToKw cpos (keywordEach [] X.env)).all (fun x=>x.1.isSome)
    && decide (([e]:List Expr).length + ([]:List Keyword).length + (if ([]:List Keyword).isEmpty then 0 else 1) < 30)) = true
  line:(apos.endLine == cpos.line) = true
  trees:backTo cpos (starEach [e] X.env) = [(false,eval e X.env)]
structure M2 (X:Cx) (o:Expr) (m:Str) (apos:Pos) (e f:Expr) (cpos:Pos):Prop where
  base:attributeBase o m X.env (eval o X.env) = eval o X.env
  few:((backTo cpos (starEach [e,f] X.env)).all (fun x=>!x.1) && (backToKw cpos (keywordEach [] X.env)).all (fun x=>x.1.isSome)
    && decide (([e,f]:List Expr).length + ([]:List Keyword).length + (if ([]:List Keyword).isEmpty then 0 else 1) < 30)) = true
  line:(apos.endLine == cpos.line) = true
  trees:backTo cpos (starEach [e,f] X.env) = [(false,eval e X.env),(false,eval f X.env)]
section
variable {X:Cx} {pins:List (Addr × Obj)} {σ:St} {H:Hp} {s:Shared} {a:Addr} {y d:V} {u r:Value} {o:Option V} {A:Around} {E:Value→Shared→Prop}
end
section
variable {X:Cx} {o e f:Expr} {apos cpos:Pos} {td ty tx:TE}
end
section
variable {X:Cx} {pins:List (Addr × Obj)} {σ:St} {H:Hp} {s:Shared} {a:Addr} {kvs:List (Key × V)} {A:Around} {E:Value→Shared→Prop}
end
section
variable {X:Cx} {pins:List (Addr × Obj)} {σ:St} {H:Hp} {s:Shared} {a:Addr} {y:V} {u:Value} {A:Around} {E:Value→Shared→Prop}
end
end L2
namespace DL
open PySem PySem.Spec PyProof.Rows MX L2
inductive D where
  | non | bl (b:Bool) | int (i:Int) | str (x:Str) | ty (n:String) | cls (c:Nat)
  | lst (xs:List D) | tup (xs:List D) | rol (xs:List D) | rot (xs:List D)
  | dK (kvs:List (Key × D)) | dT (kvs:List (List Key × D))
  | obj (c:Nat) (fs:List (Str × D)) | exc (c:Nat) (fs:List (Str × D))
inductive Out (α:Type) where
  | ok (a:α) | ex (x:D) | stuck
namespace Out
def bind {α β:Type} (o:Out α) (k:α→Out β):Out β:=match o with
  | .ok a=>k a
  | .ex x=>.ex x
  | .stuck=>.stuck
def opt {α:Type}:Option α→Out α
  | some a=>.ok a
  | none=>.stuck
def bL {α:Type}:Out α→Out α
  | .ok a=>.ok a
  | _=>.stuck
@[simp] theorem aJ {α β:Type} (a:α) (k:α→Out β):(Out.ok a).bind k = k a:=rfl
@[simp] theorem v7 {α β:Type} (x:D) (k:α→Out β):(Out.ex x).bind k = .ex x:=rfl
@[simp] theorem m5 {α β:Type} (k:α→Out β):(Out.stuck:Out α).bind k = .stuck:=rfl
@[simp] theorem gw {α:Type} (a:α):opt (some a) = .ok a:=rfl
@[simp] theorem vD {α:Type}:(opt none:Out α) = .stuck:=rfl
@[simp] theorem t8 {α:Type} (a:α):bL (Out.ok a) = .ok a:=rfl
end Out
def wpO {α:Type} (o:Out α) (P:α→Prop) (R:D→Prop):Prop:=match o with
  | .ok a=>P a
  | .ex x=>R x
  | .stuck=>False
theorem au {α β:Type} {o:Out α} {k:α→Out β} {P:β→Prop} {R:D→Prop} (h:wpO (o.bind k) P R):wpO o (fun a=>wpO (k a) P R) R:=by
  cases o <;> exact h
theorem wpO.mono {α:Type} {o:Out α} {P P':α→Prop} {R R':D→Prop} (h:wpO o P R) (k:∀ a,P a→P' a) (r:∀ x,R x→R' x):wpO o P' R':=by
  cases o with
  | ok a=>exact k a h
  | ex x=>exact r x h
  | stuck=>exact h
theorem bO {α:Type} {o:Option α} {P:α→Prop} {R:D→Prop} (h:wpO (Out.opt o) P R):∃ a,o = some a∧P a:=by
  cases o with
  | none=>exact False.elim h
  | some a=>exact ⟨a,rfl,h⟩
theorem jM {α:Type} {o:Out α} {P:α→Prop} {R R':D→Prop} (h:wpO o.bL P R):wpO o P R':=by
  cases o with
  | ok a=>exact h
  | ex x=>exact False.elim h
  | stuck=>exact h
section
variable (K:PySem.W.Frag) (Γ:Nat→Option Addr)
mutual
inductive Rep (G:Hp):V→D→Prop
  | non:Rep G .non .non
  | bl (b:Bool):Rep G (.bl b) (.bl b)
  | int (i:Int):Rep G (.int i) (.int i)
  | str (x:Str):Rep G (.str x) (.str x)
  | ty (n:String):Rep G (.ty n) (.ty n)
  | cls {c:Nat} {C:Addr} (h:Γ c = some C):Rep G (.ref C) (.cls c)
  | lst {a:Addr} {vs:List V} {ds:List D} (h:G a = some (.lst vs)) (r:aF G vs ds):Rep G (.ref a) (.lst ds)
  | tup {a:Addr} {vs:List V} {ds:List D} (h:G a = some (.tup vs)) (r:aF G vs ds):Rep G (.ref a) (.tup ds)
  | rol {a:Addr} {vs:List V} {ds:List D} (h:SqL K G a vs) (r:aF G vs ds):Rep G (.ref a) (.rol ds)
  | rot {a:Addr} {vs:List V} {ds:List D} (h:SqT K G a vs) (r:aF G vs ds):Rep G (.ref a) (.rot ds)
  | dK {a:Addr} {kvs:List (Key × V)} {kds:List (Key × D)} (h:G a = some (.dK kvs)) (r:oG G kvs kds):Rep G (.ref a) (.dK kds)
  | dT {a:Addr} {kvs:List (List Key × V)} {kds:List (List Key × D)} (h:G a = some (.dT kvs)) (r:RepT G kvs kds):Rep G (.ref a) (.dT kds)
  | obj {a:Addr} {c:Nat} {C dx:Addr} {fs:List (Str × V)} {fds:List (Str × D)} (h:G a = some (.ins C dx fs)) (g:Γ c = some C) (r:lH G fs fds):Rep G (.ref a) (.obj c fds)
  | e0 {n:Bool} {a:Addr} {c:Nat} {C:Addr} (h:G a = some (.exc n C none a)) (g:Γ c = some C):Rep G (.ref a) (.exc c [])
  | e1 {n:Bool} {a:Addr} {c:Nat} {C d:Addr} {fs:List (Str × V)} {fds:List (Str × D)} (h:G a = some (.exc n C (some d) a)) (h':G d = some (.xds fs d)) (g:Γ c = some C) (r:lH G fs fds):Rep G (.ref a) (.exc c fds)
inductive aF (G:Hp):List V→List D→Prop
  | nil:aF G [] []
  | cons {v:V} {vs:List V} {d:D} {ds:List D} (h:Rep G v d) (r:aF G vs ds):aF G (v :: vs) (d :: ds)
inductive lH (G:Hp):List (Str × V)→List (Str × D)→Prop
  | nil:lH G [] []
  | cons {f:Str} {v:V} {fs:List (Str × V)} {d:D} {fds:List (Str × D)} (h:Rep G v d) (r:lH G fs fds):lH G ((f,v) :: fs) ((f,d) :: fds)
inductive oG (G:Hp):List (Key × V)→List (Key × D)→Prop
  | nil:oG G [] []
  | cons {k:Key} {v:V} {fs:List (Key × V)} {d:D} {fds:List (Key × D)} (h:Rep G v d) (r:oG G fs fds):oG G ((k,v) :: fs) ((k,d) :: fds)
inductive RepT (G:Hp):List (List Key × V)→List (List Key × D)→Prop
  | nil:RepT G [] []
  | cons {k:List Key} {v:V} {fs:List (List Key × V)} {d:D} {fds:List (List Key × D)} (h:Rep G v d) (r:RepT G fs fds):RepT G ((k,v) :: fs) ((k,d) :: fds)
end
end
section
variable {K:PySem.W.Frag} {Γ:Nat→Option Addr} {G G':Hp}
theorem SqT.same (e:bC G G') {a:Addr} {xs:List V} (h:SqT K G a xs):SqT K G' a xs:=by
  rcases h with h | h
  · rcases h with h | ⟨o,h⟩
    · exact .inl (.inl (e _ _ h))
    · exact .inl (.inr ⟨o,e _ _ h⟩)
  · exact .inr h
mutual
theorem Rep.mono (e:bC G G'):∀ {v:V} {d:D},Rep K Γ G v d→Rep K Γ G' v d
  | _,_,.non=>.non
  | _,_,.bl b=>.bl b
  | _,_,.int i=>.int i
  | _,_,.str x=>.str x
  | _,_,.ty n=>.ty n
  | _,_,.cls h=>.cls h
  | _,_,.lst h r=>.lst (e _ _ h) (aF.mono e r)
  | _,_,.tup h r=>.tup (e _ _ h) (aF.mono e r)
  | _,_,.rol h r=>.rol (e.seq h) (aF.mono e r)
  | _,_,.rot h r=>.rot (SqT.same e h) (aF.mono e r)
  | _,_,.dK h r=>.dK (e _ _ h) (oG.mono e r)
  | _,_,.dT h r=>.dT (e _ _ h) (RepT.mono e r)
  | _,_,.obj h g r=>.obj (e _ _ h) g (lH.mono e r)
  | _,_,.e0 h g=>.e0 (e _ _ h) g
  | _,_,.e1 h h' g r=>.e1 (e _ _ h) (e _ _ h') g (lH.mono e r)
theorem aF.mono (e:bC G G'):∀ {v:List V} {d:List D},aF K Γ G v d→aF K Γ G' v d
  | _,_,.nil=>.nil
  | _,_,.cons h r=>.cons (Rep.mono e h) (aF.mono e r)
theorem lH.mono (e:bC G G'):∀ {v:List (Str × V)} {d:List (Str × D)},lH K Γ G v d→lH K Γ G' v d
  | _,_,.nil=>.nil
  | _,_,.cons h r=>.cons (Rep.mono e h) (lH.mono e r)
theorem oG.mono (e:bC G G'):∀ {v:List (Key × V)} {d:List (Key × D)},oG K Γ G v d→oG K Γ G' v d
  | _,_,.nil=>.nil
  | _,_,.cons h r=>.cons (Rep.mono e h) (oG.mono e r)
theorem RepT.mono (e:bC G G'):∀ {v:List (List Key × V)} {d:List (List Key × D)},RepT K Γ G v d→RepT K Γ G' v d
  | _,_,.nil=>.nil
  | _,_,.cons h r=>.cons (Rep.mono e h) (RepT.mono e r)
end
theorem aF.length:∀ {vs:List V} {ds:List D},aF K Γ G vs ds→vs.length = ds.length
  | _,_,.nil=>rfl
  | _,_,.cons _ r=>by rw [List.length_cons,List.length_cons,r.length]
theorem aF.get:∀ {vs:List V} {ds:List D} {i:Nat} {d:D},aF K Γ G vs ds→ds[i]? = some d→∃ v,vs[i]? = some v∧Rep K Γ G v d
  | _,_,_,_,.nil,e=>by simp at e
  | _,_,0,_,.cons h _,e=>by simp at e; subst e; exact ⟨_,rfl,h⟩
  | _,_,i + 1,d,.cons _ r,e=>by
    obtain ⟨v,h1,h2⟩:=aF.get (i:=i) (d:=d) r (by simpa using e)
    exact ⟨v,by simpa using h1,h2⟩
theorem aF.append:∀ {vs ws:List V} {ds es:List D},aF K Γ G vs ds→aF K Γ G ws es→aF K Γ G (vs ++ ws) (ds ++ es)
  | _,_,_,_,.nil,s=>s
  | _,_,_,_,.cons h r,s=>.cons h (r.append s)
theorem aF.take:∀ {vs:List V} {ds:List D} (n:Nat),aF K Γ G vs ds→aF K Γ G (vs.take n) (ds.take n)
  | _,_,0,_=>by simpa using aF.nil
  | _,_,_ + 1,.nil=>.nil
  | _,_,n + 1,.cons h r=>.cons h (r.take n)
theorem aF.drop:∀ {vs:List V} {ds:List D} (n:Nat),aF K Γ G vs ds→aF K Γ G (vs.drop n) (ds.drop n)
  | _,_,0,r=>r
  | _,_,_ + 1,.nil=>.nil
  | _,_,n + 1,.cons _ r=>r.drop n
theorem aF.set {v:V} {d:D} (h:Rep K Γ G v d):∀ {vs:List V} {ds:List D} (n:Nat),aF K Γ G vs ds→aF K Γ G (vs.set n v) (ds.set n d)
  | _,_,_,.nil=>.nil
  | _,_,0,.cons _ r=>.cons h r
  | _,_,n + 1,.cons h' r=>.cons h' (aF.set h n r)
theorem aF.rep {vs:List V} {ds:List D} (h:aF K Γ G vs ds):∀ k:Nat,aF K Γ G (List.replicate k vs).flatten (List.replicate k ds).flatten
  | 0=>.nil
  | k + 1=>by
    rw [List.replicate_succ,List.replicate_succ,List.flatten_cons,List.flatten_cons]
    exact h.append (h.rep k)
theorem aF.reverse {vs:List V} {ds:List D} (h:aF K Γ G vs ds):aF K Γ G vs.reverse ds.reverse:=by
  induction vs generalizing ds with
  | nil=>cases h; exact .nil
  | cons v vs ih =>
    cases h with
    | cons h r =>
      rw [List.reverse_cons,List.reverse_cons]
      exact (ih r).append (.cons h .nil)
theorem lH.look {f:Str}:∀ {fs:List (Str × V)} {fds:List (Str × D)} {d:D},lH K Γ G fs fds→fds.lookup f = some d→∃ v,fs.lookup f = some v∧Rep K Γ G v d
  | _,_,_,.nil,e=>by simp at e
  | _,_,d,.cons (f:=g) h r,e=>by
    by_cases q:f = g
    · subst q
      simp only [List.lookup_cons,beq_self_eq_true] at e
      cases e
      exact ⟨_,by simp [List.lookup_cons],h⟩
    · have q':(f == g) = false:=beq_eq_false_iff_ne.mpr q
      simp only [List.lookup_cons,q'] at e
      obtain ⟨v,h1,h2⟩:=r.look e
      exact ⟨v,by simp only [List.lookup_cons,q']; exact h1,h2⟩
theorem lH.none {f:Str}:∀ {fs:List (Str × V)} {fds:List (Str × D)},lH K Γ G fs fds→fds.lookup f = none→fs.lookup f = none
  | _,_,.nil,_=>rfl
  | _,_,.cons (f:=g) h r,e=>by
    by_cases q:f = g
    · subst q
      simp only [List.lookup_cons,beq_self_eq_true] at e
      cases e
    · have q':(f == g) = false:=beq_eq_false_iff_ne.mpr q
      simp only [List.lookup_cons,q'] at e ⊢
      exact r.none e
theorem lH.length:∀ {fs:List (Str × V)} {fds:List (Str × D)},lH K Γ G fs fds→fs.length = fds.length
  | _,_,.nil=>rfl
  | _,_,.cons _ r=>by rw [List.length_cons,List.length_cons,r.length]
def putD (f:Str) (d:D):List (Str × D)→List (Str × D)
  | []=>[(f,d)]
  | (g,e) :: r=>if g = f then (g,d) :: r else (g,e) :: putD f d r
theorem lH.put {f:Str} {v:V} {d:D} (h:Rep K Γ G v d):∀ {fs:List (Str × V)} {fds:List (Str × D)},lH K Γ G fs fds→lH K Γ G (jK f v fs) (putD f d fds)
  | _,_,.nil=>.cons h .nil
  | _,_,.cons (f:=g) h' r=>by
    unfold jK putD
    by_cases q:g = f
    · rw [if_pos q,if_pos q]; exact .cons h r
    · rw [if_neg q,if_neg q]; exact .cons h' (lH.put h r)
end
structure Step (G H G' H':Hp):Prop where
  gg:bC G G'
  hh:bC H H'
  gh:bC G' H'
  sep:∀ b,H b ≠ none→G b = none→G' b = none
theorem Step.refl {G H:Hp} (s:bC G H):Step G H G H:=⟨bC.refl _,bC.refl _,s,fun _ _ h=>h⟩
theorem Step.trans {G H G1 H1 G2 H2:Hp} (a:Step G H G1 H1) (b:Step G1 H1 G2 H2):Step G H G2 H2 :=
  ⟨a.gg.trans b.gg,a.hh.trans b.hh,b.gh,fun x h g=>b.sep x (fun q=>by
    cases e:H x with
    | none=>exact h e
    | some o=>rw [a.hh _ _ e] at q; cases q) (a.sep x h g)⟩
theorem bC.up {H:Hp} {p:Addr} {o:HO} (h:H p = none):bC H (upd H p o):=fun b u q=>by rw [aD (aQ q h)]; exact q
theorem aG {G H:Hp} (s:bC G H) {p:Addr} (h:H p = none):G p = none:=s.free h
theorem Step.new {G H:Hp} (s:bC G H) {p:Addr} {o:HO} (h:H p = none):Step G H (upd G p o) (upd H p o):=by
  refine ⟨bC.up (aG s h),bC.up h,fun b u q=>?_,fun b hb g=>?_⟩
  · by_cases e:b = p
    · subst e; rw [aL] at q ⊢; exact q
    · rw [aD e] at q ⊢; exact s _ _ q
  · have e:b ≠ p:=fun e=>hb (e ▸ h)
    rw [aD e]; exact g
theorem Step.aside {G H:Hp} (s:bC G H) {p:Addr} {o:HO} (h:H p = none):Step G H G (upd H p o) :=
  ⟨bC.refl _,bC.up h,s.trans (bC.up h),fun _ _ g=>g⟩
inductive Mx where
  | own (ds:List D) | fix (d:D)
def Mx.d:Mx→D
  | .own ds=>.lst ds
  | .fix d=>d
inductive Sl where
  | sh (d:D) | ol (ds:List D) | oll (dss:List (List D)) | od (kvs:List (Key × D)) | odT (kvs:List (List Key × D)) | omx (es:List Mx)
abbrev DSt:=List (Option Sl)
section
variable (K:PySem.W.Frag) (Γ:Nat→Option Addr) (G0 H0 G H:Hp) (O:Addr→Option Nat)
inductive Inner (i:Nat):List V→List (List D)→Prop
  | nil:Inner i [] []
  | cons {b:Addr} {vs ws:List V} {ds:List D} {dss:List (List D)} (h:H b = some (.lst ws)) (g:G b = none) (h0:H0 b = none) (o:O b = some i) (r:aF K Γ G ws ds) (n:V.ref b ∉ vs) (t:Inner i vs dss):Inner i (.ref b :: vs) (ds :: dss)
inductive aV (i:Nat):List V→List Mx→List Addr→Prop
  | nil:aV i [] [] []
  | own {b:Addr} {vs ws:List V} {ds:List D} {es:List Mx} {bs:List Addr} (h:H b = some (.lst ws)) (g:G b = none) (h0:H0 b = none) (o:O b = some i) (r:aF K Γ G ws ds) (n:b ∉ bs) (t:aV i vs es bs):aV i (.ref b :: vs) (.own ds :: es) (b :: bs)
  | fix {v:V} {vs:List V} {d:D} {es:List Mx} {bs:List Addr} (r:Rep K Γ G v d) (t:aV i vs es bs):aV i (v :: vs) (.fix d :: es) bs
def cM (i:Nat) (v:V):Sl→Prop
  | .sh d=>Rep K Γ G v d
  | .ol ds=>∃ a vs,v = .ref a∧H a = some (.lst vs)∧G a = none∧H0 a = none∧O a = some i∧aF K Γ G vs ds
  | .oll dss=>∃ a vs,v = .ref a∧H a = some (.lst vs)∧G a = none∧H0 a = none∧O a = some i∧V.ref a ∉ vs∧Inner K Γ H0 G H O i vs dss
  | .od kvs=>∃ a vs,v = .ref a∧H a = some (.dK vs)∧G a = none∧H0 a = none∧O a = some i∧oG K Γ G vs kvs
  | .odT kvs=>∃ a vs,v = .ref a∧H a = some (.dT vs)∧G a = none∧H0 a = none∧O a = some i∧RepT K Γ G vs kvs
  | .omx es=>∃ a vs bs,v = .ref a∧H a = some (.lst vs)∧G a = none∧H0 a = none∧O a = some i∧a ∉ bs∧aV K Γ H0 G H O i vs es bs
def Slots (σ:L2.St) (δ:DSt):Prop:=∃ O:Addr→Option Nat,∀ i s,δ[i]? = some (some s)→∃ v,σ[i]? = some (some v)∧cM K Γ H0 G H O i v s
structure SR (σ:L2.St) (δ:DSt):Prop where
  st:Step G0 H0 G H
  len:δ.length = σ.length
  sl:Slots K Γ H0 G H σ δ
end
section
variable {K:PySem.W.Frag} {Γ:Nat→Option Addr} {G0 H0 G H G' H':Hp} {O:Addr→Option Nat} {σ:L2.St} {δ:DSt}
theorem Inner.step (s:Step G H G' H') {i:Nat}:∀ {vs:List V} {dss:List (List D)},Inner K Γ H0 G H O i vs dss→Inner K Γ H0 G' H' O i vs dss
  | _,_,.nil=>.nil
  | _,_,.cons h g h0 o r n t=>.cons (s.hh _ _ h) (s.sep _ (by rw [h]; exact fun q=>nomatch q) g) h0 o (r.mono s.gg) n (t.step s)
theorem aV.step (s:Step G H G' H') {i:Nat}:∀ {vs:List V} {es:List Mx} {bs:List Addr},aV K Γ H0 G H O i vs es bs→aV K Γ H0 G' H' O i vs es bs
  | _,_,_,.nil=>.nil
  | _,_,_,.own h g h0 o r n t=>.own (s.hh _ _ h) (s.sep _ (by rw [h]; exact fun q=>nomatch q) g) h0 o (r.mono s.gg) n (t.step s)
  | _,_,_,.fix r t=>.fix (r.mono s.gg) (t.step s)
theorem cM.step (s:Step G H G' H') {i:Nat} {v:V} {x:Sl} (h:cM K Γ H0 G H O i v x):cM K Γ H0 G' H' O i v x:=by
  have sp:∀ {a:Addr} {o:HO},H a = some o→G a = none→G' a = none:=fun h g=>s.sep _ (by rw [h]; exact fun q=>nomatch q) g
  cases x with
  | sh d=>exact Rep.mono s.gg h
  | ol ds =>
    obtain ⟨a,vs,e,h1,h2,h3,h4,h5⟩:=h
    exact ⟨a,vs,e,s.hh _ _ h1,sp h1 h2,h3,h4,h5.mono s.gg⟩
  | oll ds =>
    obtain ⟨a,vs,e,h1,h2,h3,h4,h5,h6⟩:=h
    exact ⟨a,vs,e,s.hh _ _ h1,sp h1 h2,h3,h4,h5,h6.step s⟩
  | od ds =>
    obtain ⟨a,vs,e,h1,h2,h3,h4,h5⟩:=h
    exact ⟨a,vs,e,s.hh _ _ h1,sp h1 h2,h3,h4,h5.mono s.gg⟩
  | odT ds =>
    obtain ⟨a,vs,e,h1,h2,h3,h4,h5⟩:=h
    exact ⟨a,vs,e,s.hh _ _ h1,sp h1 h2,h3,h4,h5.mono s.gg⟩
  | omx ds =>
    obtain ⟨a,vs,bs,e,h1,h2,h3,h4,h5,h6⟩:=h
    exact ⟨a,vs,bs,e,s.hh _ _ h1,sp h1 h2,h3,h4,h5,h6.step s⟩
theorem SR.step (S:SR K Γ G0 H0 G H σ δ) (s:Step G H G' H'):SR K Γ G0 H0 G' H' σ δ:=by
  obtain ⟨O,q⟩:=S.sl
  refine ⟨S.st.trans s,S.len,O,fun i x e=>?_⟩
  obtain ⟨v,h1,h2⟩:=q i x e
  exact ⟨v,h1,h2.step s⟩
theorem SR.set (S:SR K Γ G0 H0 G H σ δ) {i:Nat} {v:V} {d:D} (r:Rep K Γ G v d):SR K Γ G0 H0 G H (σ.set i (some v)) (δ.set i (some (.sh d))):=by
  obtain ⟨O,q⟩:=S.sl
  refine ⟨S.st,by rw [List.length_set,List.length_set]; exact S.len,O,fun j x e=>?_⟩
  by_cases ij:i = j
  · subst ij
    rw [List.getElem?_set_self'] at e
    cases h:δ[i]? with
    | none=>rw [h] at e; simp at e
    | some y =>
      rw [h] at e
      simp at e
      have lt:i < σ.length:=by rw [← S.len]; exact (List.getElem?_eq_some_iff.mp h).1
      subst e
      exact ⟨v,by rw [List.getElem?_set_self lt],r⟩
  · rw [List.getElem?_set_ne ij] at e
    obtain ⟨v',h1,h2⟩:=q j x e
    exact ⟨v',by rw [List.getElem?_set_ne ij]; exact h1,h2⟩
theorem SR.drop (S:SR K Γ G0 H0 G H σ δ) {δ':DSt} (hl:δ'.length = δ.length) (h:∀ (i:Nat) x,δ'[i]? = some (some x)→δ[i]? = some (some x)):SR K Γ G0 H0 G H σ δ':=by
  obtain ⟨O,q⟩:=S.sl
  exact ⟨S.st,hl.trans S.len,O,fun i x e=>q i x (h i x e)⟩
end
inductive bH (K:PySem.W.Frag) (Γ:Nat→Option Addr) (H G' H':Hp):List V→List (List D)→Prop
  | nil:bH K Γ H G' H' [] []
  | cons {b:Addr} {vs ws:List V} {ds:List D} {dss:List (List D)} (f:H b = none) (h:H' b = some (.lst ws)) (g:G' b = none) (r:aF K Γ G' ws ds) (n:V.ref b ∉ vs) (t:bH K Γ H G' H' vs dss):bH K Γ H G' H' (.ref b :: vs) (ds :: dss)
section
variable (K:PySem.W.Frag) (Γ:Nat→Option Addr) (E:XK)
def okD (G H:Hp) (Q:VK) (d:D):Prop:=∀ v G' H',Step G H G' H'→Rep K Γ G' v d→Q v H'
def exD (G H:Hp) (x:D):Prop:=∀ a G' H',Step G H G' H'→Rep K Γ G' (.ref a) x→E (.ref a) none H'
def teD (f:DSt→Out D):TE:=fun σ H Q=>∃ G0 H0 G δ,SR K Γ G0 H0 G H σ δ∧wpO (f δ) (okD K Γ G H Q) (exD K Γ E G H)
def ttD (f:DSt→Out Bool):TT:=fun σ H Q=>∃ G0 H0 G δ,SR K Γ G0 H0 G H σ δ∧wpO (f δ) (fun b=>∀ G' H',Step G H G' H'→Q b H') (exD K Γ E G H)
def taD (f:DSt→Out (List D)):TA:=fun σ H Q=>∃ G0 H0 G δ,SR K Γ G0 H0 G H σ δ∧wpO (f δ) (fun ds=>∀ vs G' H',Step G H G' H'→aF K Γ G' vs ds→Q vs H') (exD K Γ E G H)
def tbD (f:DSt→Out D):TE:=fun σ H Q=>∃ G0 H0 G δ,SR K Γ G0 H0 G H σ δ∧wpO (f δ) (fun d=>∀ v G' H',Step G H G' H'→Rep K Γ H' v d→Q v H') (exD K Γ E G H)
inductive Fl where
  | nx (δ:DSt) | rt (d:D) | bk (δ:DSt) | ct (δ:DSt) | rl (ds:List D) | rll (dss:List (List D))
def FlOk (G0 H0:Hp) (N:Ends):Fl→Prop
  | .nx δ=>∀ σ G H,SR K Γ G0 H0 G H σ δ→N.nx σ H
  | .rt d=>∀ v G H,Step G0 H0 G H→Rep K Γ G v d→N.rt v H
  | .bk δ=>∀ σ G H,SR K Γ G0 H0 G H σ δ→N.bk σ H
  | .ct δ=>∀ σ G H,SR K Γ G0 H0 G H σ δ→N.ct σ H
  | .rl ds=>∀ a vs G H,Step G0 H0 G H→H0 a = none→H a = some (.lst vs)→G a = none→aF K Γ G vs ds→N.rt (.ref a) H
  | .rll dss=>∀ a vs G H,Step G0 H0 G H→H0 a = none→H a = some (.lst vs)→G a = none→V.ref a ∉ vs→bH K Γ H0 G H vs dss→N.rt (.ref a) H
def tsD (g:DSt→Out Fl):TS:=fun N σ H=>∃ G0 H0 G δ,SR K Γ G0 H0 G H σ δ∧wpO (g δ) (FlOk K Γ G0 H0 N) (exD K Γ E G0 H0)
end
section
variable {K:PySem.W.Frag} {Γ:Nat→Option Addr} {E:XK} {G H G1 H1:Hp}
theorem okD.step {Q:VK} {d:D} (h:okD K Γ G H Q d) (s:Step G H G1 H1):okD K Γ G1 H1 Q d:=fun v G' H' s' r=>h v G' H' (s.trans s') r
theorem exD.step {x:D} (h:exD K Γ E G H x) (s:Step G H G1 H1):exD K Γ E G1 H1 x:=fun v G' H' s' r=>h v G' H' (s.trans s') r
end
abbrev DE (X:Cx) (Γ:Nat→Option Addr) (E:XK) (e:Expr) (f:DSt→Out D):Prop:=PE X e (teD X.K Γ E f)
abbrev DB (X:Cx) (Γ:Nat→Option Addr) (E:XK) (e:Expr) (f:DSt→Out D):Prop:=PE X e (tbD X.K Γ E f)
abbrev DT (X:Cx) (Γ:Nat→Option Addr) (E:XK) (e:Expr) (f:DSt→Out Bool):Prop:=PT X e (ttD X.K Γ E f)
abbrev DW (X:Cx) (Γ:Nat→Option Addr) (E:XK) (e:Expr) (f:DSt→Out Bool):Prop:=PW X e (ttD X.K Γ E f)
abbrev DA (X:Cx) (Γ:Nat→Option Addr) (E:XK) (es:List Expr) (f:DSt→Out (List D)):Prop:=PA X es (taD X.K Γ E f)
abbrev DS (X:Cx) (Γ:Nat→Option Addr) (E:XK) (st:Stmt) (g:DSt→Out Fl):Prop:=PS X st (tsD X.K Γ E g)
abbrev DSs (X:Cx) (Γ:Nat→Option Addr) (E:XK) (st:List Stmt) (g:DSt→Out Fl):Prop:=PSs X st (tsD X.K Γ E g)
section
variable {X:Cx}
theorem PE.imp {e:Expr} {t t':TE} (h:PE X e t) (k:∀ σ H Q,t' σ H Q→t σ H Q):PE X e t':=fun pins s σ H Q I q=>h pins s σ H Q I (k _ _ _ q)
theorem PT.imp {e:Expr} {t t':TT} (h:PT X e t) (k:∀ σ H Q,t' σ H Q→t σ H Q):PT X e t':=fun pins s σ H Q I q=>h pins s σ H Q I (k _ _ _ q)
theorem PW.imp {e:Expr} {t t':TT} (h:PW X e t) (k:∀ σ H Q,t' σ H Q→t σ H Q):PW X e t':=fun wh pins s σ H Q I q=>h wh pins s σ H Q I (k _ _ _ q)
theorem PA.imp {e:List Expr} {t t':TA} (h:PA X e t) (k:∀ σ H Q,t' σ H Q→t σ H Q):PA X e t':=fun p pins s σ H Q I q=>h p pins s σ H Q I (k _ _ _ q)
theorem PS.imp {e:Stmt} {t t':TS} (h:PS X e t) (k:∀ D σ H,t' D σ H→t D σ H):PS X e t':=fun pins s σ H Q I q=>h pins s σ H Q I (k _ _ _ q)
theorem PSs.imp {e:List Stmt} {t t':TS} (h:PSs X e t) (k:∀ D σ H,t' D σ H→t D σ H):PSs X e t':=fun pins s σ H Q I q=>h pins s σ H Q I (k _ _ _ q)
end
end DL
namespace DL
open PySem PySem.Spec PyProof.Rows MX L2
def gv (i:Nat):DSt→Out D:=fun δ=>match δ[i]? with
  | some (some (.sh d))=>.ok d
  | _=>.stuck
def slD:Sl→D
  | .sh d=>d
  | .ol ds=>.lst ds
  | .oll dss=>.lst (dss.map .lst)
  | .od kvs=>.dK kvs
  | .odT kvs=>.dT kvs
  | .omx es=>.lst (es.map Mx.d)
def gb (i:Nat):DSt→Out D:=fun δ=>match δ[i]? with
  | some (some s)=>.ok (slD s)
  | _=>.stuck
section
variable {X:Cx} {Γ:Nat→Option Addr} {E:XK} {e a b c:Expr} {pos:Pos}
theorem aq (i:Nat) {x:Str} (h:PE X (.Name x pos) (xR i)):DE X Γ E (.Name x pos) (gv i):=PE.imp h fun σ H Q ⟨G0,H0,G,δ,S,w⟩=>by
  unfold gv at w
  split at w
  · rename_i d e
    obtain ⟨O,q⟩:=S.sl
    obtain ⟨v,h1,h2⟩:=q i _ e
    exact ⟨v,h1,w v G H (.refl S.st.gh) h2⟩
  · exact False.elim w
theorem Inner.rep {K:PySem.W.Frag} {H0 G H:Hp} {O:Addr→Option Nat} (s:bC G H) {i:Nat}:∀ {vs:List V} {dss:List (List D)},Inner K Γ H0 G H O i vs dss→aF K Γ H vs (dss.map .lst)
  | _,_,.nil=>.nil
  | _,_,.cons h g h0 o r n t=>.cons (.lst h (r.mono s)) (t.rep s)
theorem aV.rep {K:PySem.W.Frag} {H0 G H:Hp} {O:Addr→Option Nat} (s:bC G H) {i:Nat}:∀ {vs:List V} {es:List Mx} {bs:List Addr},aV K Γ H0 G H O i vs es bs→aF K Γ H vs (es.map Mx.d)
  | _,_,_,.nil=>.nil
  | _,_,_,.own h g h0 o r n t=>.cons (.lst h (r.mono s)) (t.rep s)
  | _,_,_,.fix r t=>.cons (r.mono s) (t.rep s)
theorem cM.rep {K:PySem.W.Frag} {H0 G H:Hp} {O:Addr→Option Nat} (s:bC G H) {i:Nat} {v:V} {x:Sl} (h:cM K Γ H0 G H O i v x):Rep K Γ H v (slD x):=by
  cases x with
  | sh d=>exact Rep.mono s h
  | ol ds=>obtain ⟨a,vs,e,h1,h2,h3,h4,h5⟩:=h; subst e; exact .lst h1 (h5.mono s)
  | oll ds=>obtain ⟨a,vs,e,h1,h2,h3,h4,h5,h6⟩:=h; subst e; exact .lst h1 (h6.rep s)
  | od ds=>obtain ⟨a,vs,e,h1,h2,h3,h4,h5⟩:=h; subst e; exact .dK h1 (h5.mono s)
  | odT ds=>obtain ⟨a,vs,e,h1,h2,h3,h4,h5⟩:=h; subst e; exact .dT h1 (h5.mono s)
  | omx ds=>obtain ⟨a,vs,bs,e,h1,h2,h3,h4,h5,h6⟩:=h; subst e; exact .lst h1 (h6.rep s)
theorem aY (i:Nat) {x:Str} (h:PE X (.Name x pos) (xR i)):DB X Γ E (.Name x pos) (gb i):=PE.imp h fun σ H Q ⟨G0,H0,G,δ,S,w⟩=>by
  unfold gb at w
  split at w
  · rename_i d e
    obtain ⟨O,q⟩:=S.sl
    obtain ⟨v,h1,h2⟩:=q i _ e
    exact ⟨v,h1,w v G H (.refl S.st.gh) (h2.rep S.st.gh)⟩
  · exact False.elim w
theorem bz {f:DSt→Out D} (h:DE X Γ E e f):DB X Γ E e f:=PE.imp h fun σ H Q ⟨G0,H0,G,δ,S,w⟩ =>
  ⟨G0,H0,G,δ,S,w.mono (fun d k v G' H' s r=>k v G' H' s (r.mono s.gh)) fun _ k=>k⟩
theorem de_c {v:V} {d:D} (h:PE X e (tC v)) (r:∀ G,Rep X.K Γ G v d):DE X Γ E e (fun _=>.ok d):=PE.imp h fun σ H Q ⟨G0,H0,G,δ,S,w⟩=>w v G H (.refl S.st.gh) (r G)
theorem aA {i j}:DE X Γ E (.Constant (.int i) j pos) (fun _=>.ok (.int i)):=de_c pe_int fun _=>.int i
theorem iM {i j}:DE X Γ E (.Constant (.bool i) j pos) (fun _=>.ok (.bl i)):=de_c pe_bl fun _=>.bl i
theorem uC {j}:DE X Γ E (.Constant .none j pos) (fun _=>.ok .non):=de_c aek fun _=>.non
theorem cF {x j}:DE X Γ E (.Constant (.str x) j pos) (fun _=>.ok (.str x)):=de_c pe_str fun _=>.str x
def o2 (g:D→D→Option D) (fa fb:DSt→Out D):DSt→Out D:=fun δ=>(fa δ).bind fun x=>(fb δ).bind fun y=>.opt (g x y)
def DR2 (K:PySem.W.Frag) (Γ:Nat→Option Addr) (r:R2) (g:D→D→Option D):Prop :=
  ∀ G H x y dx dy d Q,bC G H→Rep K Γ G x dx→Rep K Γ G y dy→g dx dy = some d→okD K Γ G H Q d→r x y H Q
theorem d2 {r:R2} {g:D→D→Option D} {fa fb:DSt→Out D} (hr:DR2 X.K Γ r g) (h:PE X e (tOp r (teD X.K Γ E fa) (teD X.K Γ E fb))):DE X Γ E e (o2 g fa fb):=PE.imp h fun σ H Q ⟨G0,H0,G,δ,S,w⟩=>by
  refine ⟨G0,H0,G,δ,S,(au w).mono (fun x w v G1 H1 s1 r1=>?_) fun _ k=>k⟩
  refine ⟨G0,H0,G1,δ,S.step s1,(au w).mono (fun y w u G2 H2 s2 r2=>?_) fun _ k=>k.step s1⟩
  obtain ⟨d,e,k⟩:=bO w
  exact hr G2 H2 v u x y d Q s2.gh (r1.mono s2.gg) r2 e (k.step (s1.trans s2))
def o2b (g:D→D→Option Bool) (fa fb:DSt→Out D):DSt→Out Bool:=fun δ=>(fa δ).bind fun x=>(fb δ).bind fun y=>.opt (g x y)
def bV (f:DSt→Out Bool):DSt→Out D:=fun δ=>(f δ).bind fun b=>.ok (.bl b)
def DRB (K:PySem.W.Frag) (Γ:Nat→Option Addr) (r:R2) (g:D→D→Option Bool):Prop :=
  ∀ H x y dx dy b Q,Rep K Γ H x dx→Rep K Γ H y dy→g dx dy = some b→Q (.bl b) H→r x y H Q
theorem d2b {r:R2} {g:D→D→Option Bool} {fa fb:DSt→Out D} (hr:DRB X.K Γ r g) (h:PE X e (tOp r (tbD X.K Γ E fa) (tbD X.K Γ E fb))):DE X Γ E e (bV (o2b g fa fb)):=PE.imp h fun σ H Q ⟨G0,H0,G,δ,S,w⟩=>by
  refine ⟨G0,H0,G,δ,S,(au (au w)).mono (fun x w v G1 H1 s1 r1=>?_) fun _ k=>k⟩
  refine ⟨G0,H0,G1,δ,S.step s1,(au w).mono (fun y w u G2 H2 s2 r2=>?_) fun _ k=>k.step s1⟩
  obtain ⟨d,e,k⟩:=bO w
  exact hr H2 v u x y d Q (r1.mono s2.hh) r2 e (k _ G2 H2 (s1.trans s2) (.bl d))
theorem d2t {r:R2} {g:D→D→Option Bool} {fa fb:DSt→Out D} (hr:DRB X.K Γ r g) (h:PT X e (tTest (tOp r (tbD X.K Γ E fa) (tbD X.K Γ E fb)))):DT X Γ E e (o2b g fa fb):=PT.imp h fun σ H Q ⟨G0,H0,G,δ,S,w⟩=>by
  refine ⟨G0,H0,G,δ,S,(au w).mono (fun x w v G1 H1 s1 r1=>?_) fun _ k=>k⟩
  refine ⟨G0,H0,G1,δ,S.step s1,(au w).mono (fun y w u G2 H2 s2 r2=>?_) fun _ k=>k.step s1⟩
  obtain ⟨d,e,k⟩:=bO w
  exact hr H2 v u x y d _ (r1.mono s2.hh) r2 e ⟨d,rfl,k G2 H2 (s1.trans s2)⟩
def dF:D→D→Option D
  | .int i,.int j=>some (.int (i + j))
  | .str i,.str j=>if i.length + j.length ≤ sizeLine then some (.str (i ++ j)) else none
  | .lst i,.lst j=>if i.length + j.length ≤ sizeLine then some (.lst (i ++ j)) else none
  | _,_=>none
def zZ:D→D→Option D
  | .int i,.int j=>some (.int (i - j))
  | _,_=>none
instance (i j:Int):Decidable (Bb i j):=by unfold Bb; infer_instance
instance (i j:Int):Decidable (CDiv i j):=by unfold CDiv; infer_instance
def Lw:D→D→Option D
  | .int i,.int j=>if Bb i j then some (.int (i * j)) else none
  | .str i,.int j=>if i.length ≤ 1000∧0 ≤ j∧j ≤ 1000 then some (.str (Txt.mul i j)) else none
  | .lst i,.int j=>if -(2 ^ 63) ≤ j∧j < 2 ^ 63∧i.length * j.toNat ≤ sizeLine then some (.lst (List.replicate j.toNat i).flatten) else none
  | _,_=>none
def eQ:D→D→Option D
  | .int i,.int j=>if CDiv i j then some (.int (i / j)) else none
  | _,_=>none
def cB:D→D→Option D
  | .int i,.int j=>if 0 < j then some (.int (i % j)) else none
  | _,_=>none
theorem dr_add {K:PySem.W.Frag}:DR2 K Γ (fun x y H Q=>(rI0 fun i j=>.int (i + j)) x y H Q ∨ (∃ i j,x = .str i∧y = .str j∧i.length + j.length ≤ sizeLine∧Q (.str (i ++ j)) H) ∨ rCat x y H Q) dF:=by
  intro G H x y dx dy d Q s rx ry e k
  unfold dF at e
  split at e
  · cases e; cases rx; cases ry; exact .inl ⟨_,_,rfl,rfl,k _ G H (.refl s) (.int _)⟩
  · split at e
    · cases e; cases rx; cases ry; rename_i h; exact .inr (.inl ⟨_,_,rfl,rfl,h,k _ G H (.refl s) (.str _)⟩)
    · cases e
  · split at e
    · cases e
      rename_i h
      cases rx with
      | lst h1 r1 =>
        cases ry with
        | lst h2 r2 =>
          refine .inr (.inr ⟨_,_,_,_,rfl,rfl,s _ _ h1,s _ _ h2,by rw [r1.length,r2.length]; exact h,fun p hp=>k _ _ _ (.new s hp) (.lst aL ?_)⟩)
          exact (r1.append r2).mono (bC.up (aG s hp))
    · cases e
  · cases e
theorem dG {fa fb:DSt→Out D} (ha:DE X Γ E a fa) (hb:DE X Γ E b fb):DE X Γ E (.BinOp a .Add b pos) (o2 dF fa fb):=d2 dr_add (Qt (op_add.or (aej.or op_cat)) ha hb)
theorem Ow {fa fb:DSt→Out D} (ha:DE X Γ E a fa) (hb:DE X Γ E b fb):DE X Γ E (.BinOp a .Sub b pos) (o2 zZ fa fb):=d2 (fun G H x y dx dy d Q s rx ry e k=>by
  unfold zZ at e
  split at e
  · cases e; cases rx; cases ry; exact ⟨_,_,rfl,rfl,k _ G H (.refl s) (.int _)⟩
  · cases e) (Qt op_sub ha hb)
theorem dr_mul {K:PySem.W.Frag}:DR2 K Γ (fun x y H Q=>(rI Bb fun i j=>.int (i * j)) x y H Q ∨ (∃ i n,x = .str i∧y = .int n∧i.length ≤ 1000∧0 ≤ n∧n ≤ 1000∧Q (.str (Txt.mul i n)) H) ∨ rRep x y H Q) Lw:=by
  intro G H x y dx dy d Q s rx ry e k
  unfold Lw at e
  split at e
  · split at e
    · rename_i h; cases e; cases rx; cases ry; exact .inl ⟨_,_,rfl,rfl,h,k _ G H (.refl s) (.int _)⟩
    · cases e
  · split at e
    · rename_i h; cases e; cases rx; cases ry; exact .inr (.inl ⟨_,_,rfl,rfl,h.1,h.2.1,h.2.2,k _ G H (.refl s) (.str _)⟩)
    · cases e
  · split at e
    · rename_i h
      cases e
      cases ry
      cases rx with
      | lst h1 r1 =>
        refine .inr (.inr ⟨_,_,_,rfl,rfl,s _ _ h1,h.1,h.2.1,by rw [r1.length]; exact h.2.2,fun p hp=>k _ _ _ (.new s hp) (.lst aL ?_)⟩)
        exact (r1.rep _).mono (bC.up (aG s hp))
    · cases e
  · cases e
theorem CQ {fa fb:DSt→Out D} (ha:DE X Γ E a fa) (hb:DE X Γ E b fb):DE X Γ E (.BinOp a .Mult b pos) (o2 Lw fa fb):=d2 dr_mul (Qt (op_mul.or (op_mulS.or op_rep)) ha hb)
theorem lQ {fa fb:DSt→Out D} (ha:DE X Γ E a fa) (hb:DE X Γ E b fb):DE X Γ E (.BinOp a .FloorDiv b pos) (o2 eQ fa fb):=d2 (fun G H x y dx dy d Q s rx ry e k=>by
  unfold eQ at e
  split at e
  · split at e
    · rename_i h; cases e; cases rx; cases ry; exact ⟨_,_,rfl,rfl,h,k _ G H (.refl s) (.int _)⟩
    · cases e
  · cases e) (Qt op_fdiv ha hb)
theorem cz {fa fb:DSt→Out D} (ha:DE X Γ E a fa) (hb:DE X Γ E b fb):DE X Γ E (.BinOp a .Mod b pos) (o2 cB fa fb):=d2 (fun G H x y dx dy d Q s rx ry e k=>by
  unfold cB at e
  split at e
  · split at e
    · rename_i h; cases e; cases rx; cases ry; exact ⟨_,_,rfl,rfl,h,k _ G H (.refl s) (.int _)⟩
    · cases e
  · cases e) (Qt op_mod ha hb)
def o1 (g:D→Option D) (fa:DSt→Out D):DSt→Out D:=fun δ=>(fa δ).bind fun x=>.opt (g x)
def bY:D→Option D
  | .int i=>some (.int (-i))
  | _=>none
theorem fP {fa:DSt→Out D} (ha:DE X Γ E a fa):DE X Γ E (.UnaryOp .USub a pos) (o1 bY fa):=PE.imp (pe_un un_neg ha) fun σ H Q ⟨G0,H0,G,δ,S,w⟩=>by
  refine ⟨G0,H0,G,δ,S,(au w).mono (fun x w v G1 H1 s1 r1=>?_) fun _ k=>k⟩
  obtain ⟨d,e,k⟩:=bO w
  unfold bY at e
  split at e
  · cases e; cases r1; exact ⟨_,rfl,k _ G1 H1 s1 (.int _)⟩
  · cases e
def cmpI (p:Int→Int→Bool):D→D→Option Bool
  | .int i,.int j=>some (p i j)
  | _,_=>none
theorem FQ {K:PySem.W.Frag} {p:Int→Int→Bool}:DRB K Γ (rI0 fun i j=>.bl (p i j)) (cmpI p):=fun H x y dx dy b Q rx ry e k=>by
  unfold cmpI at e
  split at e
  · cases e; cases rx; cases ry; exact ⟨_,_,rfl,rfl,k⟩
  · cases e
abbrev ltD:D→D→Option Bool:=cmpI fun i j=>decide (i < j)
abbrev leD:D→D→Option Bool:=cmpI fun i j=>decide (i ≤ j)
mutual
def toPy:D→Option PyData
  | .non=>some .none
  | .bl b=>some (.bool b)
  | .int i=>some (.int i)
  | .str x=>some (.str x)
  | .lst xs=>(toPyL xs).map .list
  | .rol xs=>(toPyL xs).map .list
  | .tup xs=>(toPyL xs).map .tuple
  | .rot xs=>(toPyL xs).map .tuple
  | _=>none
def toPyL:List D→Option (List PyData)
  | []=>some []
  | d :: r=>match toPy d,toPyL r with
    | some p,some q=>some (p :: q)
    | _,_=>none
end
mutual
theorem Rep.deep {K:PySem.W.Frag} {H:Hp}:∀ {v:V} {d:D} {p:PyData},Rep K Γ H v d→toPy d = some p→G9 K H v p
  | _,_,_,.non,e=>by simp only [toPy] at e; cases e; exact .non
  | _,_,_,.bl b,e=>by simp only [toPy] at e; cases e; exact .bl b
  | _,_,_,.int b,e=>by simp only [toPy] at e; cases e; exact .int b
  | _,_,_,.str b,e=>by simp only [toPy] at e; cases e; exact .str b
  | _,_,_,.lst h r,e=>by
    simp only [toPy] at e
    obtain ⟨q,e1,rfl⟩:=Option.map_eq_some_iff.mp e
    exact .lst (SqL.of h) (aF.deep r e1)
  | _,_,_,.rol h r,e=>by
    simp only [toPy] at e
    obtain ⟨q,e1,rfl⟩:=Option.map_eq_some_iff.mp e
    exact .lst h (aF.deep r e1)
  | _,_,_,.tup h r,e=>by
    simp only [toPy] at e
    obtain ⟨q,e1,rfl⟩:=Option.map_eq_some_iff.mp e
    exact .tup (SqT.of h) (aF.deep r e1)
  | _,_,_,.rot h r,e=>by
    simp only [toPy] at e
    obtain ⟨q,e1,rfl⟩:=Option.map_eq_some_iff.mp e
    exact .tup h (aF.deep r e1)
  | _,_,_,.ty n,e=>by simp only [toPy] at e; cases e
  | _,_,_,.cls h,e=>by simp only [toPy] at e; cases e
  | _,_,_,.dK h r,e=>by simp only [toPy] at e; cases e
  | _,_,_,.dT h r,e=>by simp only [toPy] at e; cases e
  | _,_,_,.obj h g r,e=>by simp only [toPy] at e; cases e
  | _,_,_,.e0 h g,e=>by simp only [toPy] at e; cases e
  | _,_,_,.e1 h h' g r,e=>by simp only [toPy] at e; cases e
theorem aF.deep {K:PySem.W.Frag} {H:Hp}:∀ {v:List V} {d:List D} {p:List PyData},aF K Γ H v d→toPyL d = some p→lD K H v p
  | _,_,_,.nil,e=>by simp only [toPyL] at e; cases e; exact .nil
  | _,_,_,.cons (d:=d) (ds:=ds) h r,e=>by
    simp only [toPyL] at e
    cases h1:toPy d with
    | none=>rw [h1] at e; cases e
    | some p =>
      cases h2:toPyL ds with
      | none=>rw [h1,h2] at e; cases e
      | some q =>
        rw [h1,h2] at e
        cases e
        exact .cons (Rep.deep h h1) (aF.deep r h2)
end
def layP (p:PyData):Bool:=p.canLay0 && decide (p.depth ≤ 50)
def eqD (x y:D):Option Bool:=match toPy x,toPy y with
  | some p,some q=>if layP p && layP q then some (PyData.eqv p q) else none
  | _,_=>none
def neD (x y:D):Option Bool:=(eqD x y).map (! ·)
theorem abN {x y:D} {b:Bool} (h:eqD x y = some b):∃ p q,toPy x = some p∧toPy y = some q∧p.canLay0 = true∧q.canLay0 = true∧p.depth ≤ 50∧PyData.eqv p q = b:=by
  unfold eqD at h
  split at h
  · rename_i p q h1 h2
    split at h
    · rename_i z
      unfold layP at z
      simp only [Bool.and_eq_true,decide_eq_true_eq] at z
      exact ⟨p,q,h1,h2,z.1.1,z.2.1,z.1.2,Option.some.inj h⟩
    · cases h
  · cases h
theorem drb_eq {K:PySem.W.Frag}:DRB K Γ (rEqD K false) eqD:=fun H x y dx dy b Q rx ry e k=>by
  obtain ⟨p,q,h1,h2,c1,c2,c3,e⟩:=abN e
  exact ⟨p,q,rx.deep h1,ry.deep h2,c1,c2,c3,by rw [e]; simpa using k⟩
theorem drb_ne {K:PySem.W.Frag}:DRB K Γ (rEqD K true) neD:=fun H x y dx dy b Q rx ry e k=>by
  obtain ⟨b',e',rfl⟩:=Option.map_eq_some_iff.mp e
  obtain ⟨p,q,h1,h2,c1,c2,c3,e⟩:=abN e'
  exact ⟨p,q,rx.deep h1,ry.deep h2,c1,c2,c3,by rw [e]; simpa using k⟩
def wV:D→Bool
  | .non=>true
  | _=>false
def isND (x y:D):Option Bool:=match y with
  | .non=>some (wV x)
  | _=>none
def Vz (x y:D):Option Bool:=match y with
  | .non=>some (!wV x)
  | _=>none
theorem Rep.isNon {K:PySem.W.Frag} {H:Hp} {v:V} {d:D} (r:Rep K Γ H v d):decide (v = .non) = wV d:=by
  cases r <;> first | rfl | exact decide_eq_false (fun q=>nomatch q)
theorem drb_is {K:PySem.W.Frag}:DRB K Γ (fun x y H Q=>y = .non∧Q (.bl (decide (x = .non))) H) isND:=fun H x y dx dy b Q rx ry e k=>by
  unfold isND at e
  split at e
  · cases e; cases ry; exact ⟨rfl,by rw [rx.isNon]; exact k⟩
  · cases e
def Vm:D→Option V
  | .non=>some .non
  | .bl b=>some (.bl b)
  | .int i=>some (.int i)
  | .str x=>some (.str x)
  | _=>none
def O7:List D→Option (List V)
  | []=>some []
  | d :: r=>match Vm d,O7 r with
    | some v,some vs=>some (v :: vs)
    | _,_=>none
theorem Rep.flat {K:PySem.W.Frag} {H:Hp} {v u:V} {d:D} (r:Rep K Γ H v d) (e:Vm d = some u):v = u∧yf v = true:=by
  cases r <;> simp only [Vm] at e <;> cases e <;> exact ⟨rfl,rfl⟩
theorem aF.flat {K:PySem.W.Frag} {H:Hp}:∀ {vs us:List V} {ds:List D},aF K Γ H vs ds→O7 ds = some us→vs = us∧vs.all yf = true
  | _,_,_,.nil,e=>by simp only [O7] at e; cases e; exact ⟨rfl,rfl⟩
  | _,_,_,.cons (d:=d) (ds:=ds) h r,e=>by
    simp only [O7] at e
    cases h1:Vm d with
    | none=>rw [h1] at e; cases e
    | some p =>
      cases h2:O7 ds with
      | none=>rw [h1,h2] at e; cases e
      | some q =>
        rw [h1,h2] at e
        cases e
        obtain ⟨e1,f1⟩:=h.flat h1
        obtain ⟨e2,f2⟩:=r.flat h2
        exact ⟨by rw [e1,e2],by rw [List.all_cons,f1,f2]; rfl⟩
def JQ:D→Option (List D)
  | .lst xs=>some xs
  | .rol xs=>some xs
  | .tup xs=>some xs
  | .rot xs=>some xs
  | _=>none
theorem Rep.seq {K:PySem.W.Frag} {H:Hp} {v:V} {d:D} {ds:List D} (r:Rep K Γ H v d) (e:JQ d = some ds):∃ a vs,v = .ref a∧(SqL K H a vs ∨ SqT K H a vs)∧aF K Γ H vs ds:=by
  cases r <;> simp only [JQ] at e <;> cases e
  · exact ⟨_,_,rfl,.inl (SqL.of ‹_›),‹_›⟩
  · exact ⟨_,_,rfl,.inr (SqT.of ‹_›),‹_›⟩
  · exact ⟨_,_,rfl,.inl ‹_›,‹_›⟩
  · exact ⟨_,_,rfl,.inr ‹_›,‹_›⟩
def inD (x y:D):Option Bool:=match x,y with
  | .str i,.str j=>some (!(Builtin.Str.occurrences j i 0 j.length 1).isEmpty)
  | x,y=>match Vm x,(JQ y).bind O7 with
    | some v,some vs=>some (inV v vs)
    | _,_=>none
theorem inD_some {K:PySem.W.Frag} {H:Hp} {x y:V} {dx dy:D} {b:Bool} (rx:Rep K Γ H x dx) (ry:Rep K Γ H y dy) (h:inD dx dy = some b) :
    (∃ i j,x = .str i∧y = .str j∧b = !(Builtin.Str.occurrences j i 0 j.length 1).isEmpty) ∨ ∃ p xs,y = .ref p∧(SqL K H p xs ∨ SqT K H p xs)∧yf x = true∧xs.all yf = true∧b = inV x xs:=by
  unfold inD at h
  split at h
  · cases h; cases rx; cases ry; exact .inl ⟨_,_,rfl,rfl,rfl⟩
  · cases h1:Vm dx with
    | none=>rw [h1] at h; cases h
    | some v =>
      cases h2:JQ dy with
      | none=>rw [h1,h2] at h; cases h
      | some ds =>
        rw [h1,h2] at h
        dsimp only [Option.bind_some] at h
        cases h3:O7 ds with
        | none=>rw [h3] at h; cases h
        | some vs =>
          rw [h3] at h
          cases h
          obtain ⟨e1,f1⟩:=rx.flat h1
          obtain ⟨a,ws,e2,sq,ra⟩:=ry.seq h2
          obtain ⟨e3,f3⟩:=ra.flat h3
          exact .inr ⟨a,ws,e2,sq,f1,f3,by rw [e1,e3]⟩
theorem drb_in {K:PySem.W.Frag}:DRB K Γ (fun x y H Q=>(∃ i j,x = .str i∧y = .str j∧Q (.bl (!(Builtin.Str.occurrences j i 0 j.length 1).isEmpty)) H) ∨ rIn K false x y H Q) inD:=fun H x y dx dy b Q rx ry e k=>by
  rcases inD_some rx ry e with ⟨i,j,e1,e2,rfl⟩ | ⟨p,xs,e1,sq,f1,f2,rfl⟩
  · exact .inl ⟨i,j,e1,e2,k⟩
  · exact .inr ⟨p,xs,e1,sq,f1,f2,k⟩
section
variable {fa fb:DSt→Out D} (hu:X.A.units + 64 < cLine) (ha:DB X Γ E a fa) (hb:DB X Γ E b fb)
theorem abF (hu:X.A.units + 64 < cLine) (ha:DB X Γ E a fa) (hb:DB X Γ E b fb):DE X Γ E (.Compare a [.Eq] [b] pos) (bV (o2b eqD fa fb)):=d2b drb_eq (ZD (op_eqD hu) ha hb (Qf _))
theorem de_is (ha:DB X Γ E a fa) (hb:DB X Γ E b fb):DE X Γ E (.Compare a [.Is] [b] pos) (bV (o2b isND fa fb)):=d2b drb_is (ZD op_isN ha hb (Qf _))
theorem de_in (ha:DB X Γ E a fa) (hb:DB X Γ E b fb) (hm:behindInMarks .In b = false:=by rfl):DE X Γ E (.Compare a [.In] [b] pos) (bV (o2b inD fa fb)):=d2b drb_in (ZD (afU.or afT) ha hb hm)
theorem dt_lt (ha:DB X Γ E a fa) (hb:DB X Γ E b fb):DT X Γ E (.Compare a [.Lt] [b] pos) (o2b ltD fa fb):=d2t FQ (Z9 op_lt ha hb (Qf _))
theorem zf (hu:X.A.units + 64 < cLine) (ha:DB X Γ E a fa) (hb:DB X Γ E b fb):DT X Γ E (.Compare a [.Eq] [b] pos) (o2b eqD fa fb):=d2t drb_eq (Z9 (op_eqD hu) ha hb (Qf _))
theorem O2 (hu:X.A.units + 64 < cLine) (ha:DB X Γ E a fa) (hb:DB X Γ E b fb):DT X Γ E (.Compare a [.NotEq] [b] pos) (o2b neD fa fb):=d2t drb_ne (Z9 (op_neD hu) ha hb (Qf _))
end
def o3 (g g':D→D→Option Bool) (fa fb fc:DSt→Out D):DSt→Out Bool:=fun δ=>(fa δ).bind fun x=>(fb δ).bind fun y=>(Out.opt (g x y)).bind fun k=>if k = true then (fc δ).bind fun z=>.opt (g' y z) else .ok false
theorem d3_aux {r r':R2} {g g':D→D→Option Bool} {fa fb fc:DSt→Out D} (hr:DRB X.K Γ r g) (hr':DRB X.K Γ r' g') {P:Bool→Hp→Prop} {σ:L2.St} {H:Hp}
    (w:ttD X.K Γ E (o3 g g' fa fb fc) σ H P):QX r r' (tbD X.K Γ E fa) (tbD X.K Γ E fb) (tbD X.K Γ E fc) σ H fun v H'=>∃ k,v = .bl k∧P k H':=by
  obtain ⟨G0,H0,G,δ,S,w⟩:=w
  refine ⟨G0,H0,G,δ,S,(au w).mono (fun x w v G1 H1 s1 r1=>?_) fun _ k=>k⟩
  refine ⟨G0,H0,G1,δ,S.step s1,(au w).mono (fun y w u G2 H2 s2 r2=>?_) fun _ k=>k.step s1⟩
  obtain ⟨k,e,w⟩:=bO (au w)
  refine hr H2 v u x y k _ (r1.mono s2.hh) r2 e ⟨k,rfl,?_⟩
  cases k with
  | false =>
    rw [if_neg Bool.false_ne_true] at w ⊢
    exact ⟨false,rfl,w G2 H2 (s1.trans s2)⟩
  | true =>
    rw [if_pos rfl] at w ⊢
    refine ⟨G0,H0,G2,δ,(S.step s1).step s2,(au w).mono (fun z w t G3 H3 s3 r3=>?_) fun _ k=>k.step (s1.trans s2)⟩
    obtain ⟨k,e,w⟩:=bO w
    exact hr' H3 u t y z k _ (r2.mono s3.hh) r3 e ⟨k,rfl,w G3 H3 ((s1.trans s2).trans s3)⟩
theorem d3t {r r':R2} {g g':D→D→Option Bool} {fa fb fc:DSt→Out D} (hr:DRB X.K Γ r g) (hr':DRB X.K Γ r' g') (h:PT X e (tTest (QX r r' (tbD X.K Γ E fa) (tbD X.K Γ E fb) (tbD X.K Γ E fc)))):DT X Γ E e (o3 g g' fa fb fc):=PT.imp h fun σ H Q w=>d3_aux hr hr' w
theorem d3v {r r':R2} {g g':D→D→Option Bool} {fa fb fc:DSt→Out D} (hr:DRB X.K Γ r g) (hr':DRB X.K Γ r' g') (h:PE X e (QX r r' (tbD X.K Γ E fa) (tbD X.K Γ E fb) (tbD X.K Γ E fc))):DE X Γ E e (bV (o3 g g' fa fb fc)):=PE.imp h fun σ H Q ⟨G0,H0,G,δ,S,w⟩=>by
  have w:=au w
  refine ⟨G0,H0,G,δ,S,(au w).mono (fun x w v G1 H1 s1 r1=>?_) fun _ k=>k⟩
  refine ⟨G0,H0,G1,δ,S.step s1,(au w).mono (fun y w u G2 H2 s2 r2=>?_) fun _ k=>k.step s1⟩
  obtain ⟨k,e,w⟩:=bO (au w)
  refine hr H2 v u x y k _ (r1.mono s2.hh) r2 e ⟨k,rfl,?_⟩
  cases k with
  | false =>
    rw [if_neg Bool.false_ne_true] at w ⊢
    exact w _ G2 H2 (s1.trans s2) (.bl _)
  | true =>
    rw [if_pos rfl] at w ⊢
    refine ⟨G0,H0,G2,δ,(S.step s1).step s2,(au w).mono (fun z w t G3 H3 s3 r3=>?_) fun _ k=>k.step (s1.trans s2)⟩
    obtain ⟨k,e,w⟩:=bO w
    exact hr' H3 u t y z k _ (r2.mono s3.hh) r3 e (w _ G3 H3 ((s1.trans s2).trans s3) (.bl _))
theorem XF {fa fb fc:DSt→Out D} (ha:DB X Γ E a fa) (hb:DB X Γ E b fb) (hc:DB X Γ E c fc) (hm:lastMarks [.LtE,.LtE] [b,c] = false:=by with_unfolding_all rfl):DT X Γ E (.Compare a [.LtE,.LtE] [b,c] pos) (o3 leD leD fa fb fc):=d3t FQ FQ (pt_chain op_le op_le ha hb hc hm)
theorem de_lelt {fa fb fc:DSt→Out D} (ha:DB X Γ E a fa) (hb:DB X Γ E b fb) (hc:DB X Γ E c fc) (hm:lastMarks [.LtE,.Lt] [b,c] = false:=by with_unfolding_all rfl):DE X Γ E (.Compare a [.LtE,.Lt] [b,c] pos) (bV (o3 leD ltD fa fb fc)):=d3v FQ FQ (pe_chain op_le op_lt ha hb hc hm)
def truD:D→Option Bool
  | .non=>some false
  | .bl b=>some b
  | .int i=>some (i != 0)
  | .str y=>if y.length ≤ sizeLine then some ((y.length:Int) != 0) else none
  | .lst xs=>some (!xs.isEmpty)
  | .rol xs=>some (!xs.isEmpty)
  | .tup xs=>some (!xs.isEmpty)
  | .rot xs=>some (!xs.isEmpty)
  | .dK xs=>some (!xs.isEmpty)
  | _=>none
def tst (f:DSt→Out D):DSt→Out Bool:=fun δ=>(f δ).bind fun d=>.opt (truD d)
theorem Ao {K:PySem.W.Frag} {H:Hp} {vs:List V} {ds:List D} (r:aF K Γ H vs ds):(!ds.isEmpty) = !vs.isEmpty:=by cases r <;> rfl
theorem afL {K:PySem.W.Frag} {H:Hp} {vs:List (Key × V)} {ds:List (Key × D)} (r:oG K Γ H vs ds):(!ds.isEmpty) = !vs.isEmpty:=by cases r <;> rfl
theorem Rep.tru {K:PySem.W.Frag} {H:Hp} {v:V} {d:D} {k:Bool} (r:Rep K Γ H v d) (e:truD d = some k):TruV K v H k:=by
  cases r <;> simp only [truD] at e
  case non=>cases e; exact rfl
  case bl=>cases e; exact rfl
  case int=>cases e; exact rfl
  case str =>
    split at e
    · cases e; exact ⟨‹_›,rfl⟩
    · cases e
  case lst h r=>cases e; rw [Ao r]; exact .inl ⟨_,SqL.of h,rfl⟩
  case rol h r=>cases e; rw [Ao r]; exact .inl ⟨_,h,rfl⟩
  case tup h r=>cases e; rw [Ao r]; exact .inr (.inl ⟨_,SqT.of h,rfl⟩)
  case rot h r=>cases e; rw [Ao r]; exact .inr (.inl ⟨_,h,rfl⟩)
  case dK h r=>cases e; rw [afL r]; exact .inr (.inr ⟨_,h,rfl⟩)
  all_goals cases e
theorem jD {f:DSt→Out D} (h:DB X Γ E e f) (he:∀ whole,isTrue e X.env whole = (do let v ← whole; standAt e.pos; holding [v] (truthy v)):=by intro _; rfl):DT X Γ E e (tst f):=PT.imp (pt_truth h he) fun σ H Q ⟨G0,H0,G,δ,S,w⟩=>by
  refine ⟨G0,H0,G,δ,S,(au w).mono (fun x w v G1 H1 s1 r1=>?_) fun _ k=>k⟩
  obtain ⟨k,e,q⟩:=bO w
  exact ⟨k,r1.tru e,q G1 H1 s1⟩
def Er (f g:DSt→Out Bool):DSt→Out Bool:=fun δ=>(f δ).bind fun k=>if k = true then g δ else .ok false
def orT (f g:DSt→Out Bool):DSt→Out Bool:=fun δ=>(f δ).bind fun k=>if k = true then .ok true else g δ
def xM (f:DSt→Out Bool):DSt→Out Bool:=fun δ=>(f δ).bind fun k=>.ok (!k)
variable {rest:List Expr} {ft gt:DSt→Out Bool}
theorem ae3 (ha:DT X Γ E a ft):DW X Γ E (.BoolOp .And [a] pos) ft:=pw_and1 ha
theorem wH (ha:DT X Γ E a ft):DW X Γ E (.BoolOp .Or [a] pos) ft:=pw_or1 ha
theorem dw_and (ha:DT X Γ E a ft) (hb:DW X Γ E (.BoolOp .And (b :: rest) pos) gt):DW X Γ E (.BoolOp .And (a :: b :: rest) pos) (Er ft gt):=PW.imp (pw_and ha hb) fun σ H Q ⟨G0,H0,G,δ,S,w⟩=>by
  refine ⟨G0,H0,G,δ,S,(au w).mono (fun k w G1 H1 s1=>?_) fun _ k=>k⟩
  cases k with
  | false=>rw [if_neg Bool.false_ne_true] at w ⊢; exact w G1 H1 s1
  | true=>rw [if_pos rfl] at w ⊢; exact ⟨G0,H0,G1,δ,S.step s1,w.mono (fun b q G2 H2 s2=>q G2 H2 (s1.trans s2)) fun _ k=>k.step s1⟩
theorem Cd (ha:DT X Γ E a ft) (hb:DW X Γ E (.BoolOp .Or (b :: rest) pos) gt):DW X Γ E (.BoolOp .Or (a :: b :: rest) pos) (orT ft gt):=PW.imp (pw_or ha hb) fun σ H Q ⟨G0,H0,G,δ,S,w⟩=>by
  refine ⟨G0,H0,G,δ,S,(au w).mono (fun k w G1 H1 s1=>?_) fun _ k=>k⟩
  cases k with
  | true=>rw [if_pos rfl] at w ⊢; exact w G1 H1 s1
  | false=>rw [if_neg Bool.false_ne_true] at w ⊢; exact ⟨G0,H0,G1,δ,S.step s1,w.mono (fun b q G2 H2 s2=>q G2 H2 (s1.trans s2)) fun _ k=>k.step s1⟩
theorem O3 (h:DW X Γ E e ft):DT X Γ E e ft:=L2.PW.pt h
theorem pI (ha:DT X Γ E a ft):DT X Γ E (.UnaryOp .Not a pos) (xM ft):=PT.imp (pt_not ha) fun σ H Q ⟨G0,H0,G,δ,S,w⟩ =>
  ⟨G0,H0,G,δ,S,(au w).mono (fun k w G1 H1 s1=>w G1 H1 s1) fun _ k=>k⟩
def asB:D→Option Bool
  | .bl b=>some b
  | _=>none
def Es (f g:DSt→Out D):DSt→Out D:=fun δ=>(f δ).bind fun d=>(Out.opt (asB d)).bind fun k=>if k = true then g δ else .ok (.bl false)
def orV (f g:DSt→Out D):DSt→Out D:=fun δ=>(f δ).bind fun d=>(Out.opt (asB d)).bind fun k=>if k = true then .ok (.bl true) else g δ
def notV (f:DSt→Out D):DSt→Out D:=fun δ=>(f δ).bind fun d=>(Out.opt (asB d)).bind fun k=>.ok (.bl (!k))
theorem Rep.asB {K:PySem.W.Frag} {H:Hp} {v:V} {d:D} {k:Bool} (r:Rep K Γ H v d) (e:asB d = some k):v = .bl k:=by
  cases r <;> simp only [DL.asB] at e <;> cases e; rfl
variable {fa fb:DSt→Out D}
theorem HJ {op} (ha:DE X Γ E a fa):DE X Γ E (.BoolOp op [a] pos) fa:=pe_one ha
theorem HH (ha:DE X Γ E a fa) (hb:DE X Γ E (.BoolOp .And (b :: rest) pos) fb):DE X Γ E (.BoolOp .And (a :: b :: rest) pos) (Es fa fb):=PE.imp (pe_and ha hb) fun σ H Q ⟨G0,H0,G,δ,S,w⟩=>by
  refine ⟨G0,H0,G,δ,S,(au w).mono (fun x w v G1 H1 s1 r1=>?_) fun _ k=>k⟩
  obtain ⟨k,e,w⟩:=bO (au w)
  refine ⟨k,r1.asB e,?_⟩
  cases k with
  | false=>rw [if_neg Bool.false_ne_true] at w ⊢; exact w _ G1 H1 s1 (.bl false)
  | true=>rw [if_pos rfl] at w ⊢; exact ⟨G0,H0,G1,δ,S.step s1,w.mono (fun b q=>q.step s1) fun _ k=>k.step s1⟩
theorem de_or (ha:DE X Γ E a fa) (hb:DE X Γ E (.BoolOp .Or (b :: rest) pos) fb):DE X Γ E (.BoolOp .Or (a :: b :: rest) pos) (orV fa fb):=PE.imp (pe_or ha hb) fun σ H Q ⟨G0,H0,G,δ,S,w⟩=>by
  refine ⟨G0,H0,G,δ,S,(au w).mono (fun x w v G1 H1 s1 r1=>?_) fun _ k=>k⟩
  obtain ⟨k,e,w⟩:=bO (au w)
  refine ⟨k,r1.asB e,?_⟩
  cases k with
  | true=>rw [if_pos rfl] at w ⊢; exact w _ G1 H1 s1 (.bl true)
  | false=>rw [if_neg Bool.false_ne_true] at w ⊢; exact ⟨G0,H0,G1,δ,S.step s1,w.mono (fun b q=>q.step s1) fun _ k=>k.step s1⟩
theorem de_not (ha:DE X Γ E a fa):DE X Γ E (.UnaryOp .Not a pos) (notV fa):=PE.imp (pe_not ha) fun σ H Q ⟨G0,H0,G,δ,S,w⟩=>by
  refine ⟨G0,H0,G,δ,S,(au w).mono (fun x w v G1 H1 s1 r1=>?_) fun _ k=>k⟩
  obtain ⟨k,e,w⟩:=bO (au w)
  exact ⟨k,r1.asB e,w _ G1 H1 s1 (.bl _)⟩
def ifV (t:DSt→Out Bool) (f g:DSt→Out D):DSt→Out D:=fun δ=>(t δ).bind fun k=>if k = true then f δ else g δ
def az:DSt→Out (List D):=fun _=>.ok []
def aj (f:DSt→Out D) (r:DSt→Out (List D)):DSt→Out (List D):=fun δ=>(f δ).bind fun d=>(r δ).bind fun ds=>.ok (d :: ds)
variable {es:List Expr} {fr:DSt→Out (List D)}
theorem aK:DA X Γ E [] az:=PA.imp gU fun σ H Q ⟨G0,H0,G,δ,S,w⟩=>w _ G H (.refl S.st.gh) .nil
theorem ak (ha:DE X Γ E e fa) (hr:DA X Γ E es fr) (hs:starEach (e :: es) X.env = (false,eval e X.env) :: starEach es X.env:=by rfl):DA X Γ E (e :: es) (aj fa fr):=PA.imp (cg ha hr hs) fun σ H Q ⟨G0,H0,G,δ,S,w⟩=>by
  refine ⟨G0,H0,G,δ,S,(au w).mono (fun x w v G1 H1 s1 r1=>?_) fun _ k=>k⟩
  refine ⟨G0,H0,G1,δ,S.step s1,(au w).mono (fun ds w vs G2 H2 s2 r2=>?_) fun _ k=>k.step s1⟩
  exact w _ G2 H2 (s1.trans s2) (.cons (r1.mono s2.gg) r2)
def aX (f:DSt→Out (List D)):DSt→Out D:=fun δ=>(f δ).bind fun ds=>if ds.length ≤ sizeLine then .ok (.tup ds) else .stuck
def bF (f:DSt→Out (List D)):DSt→Out D:=fun δ=>(f δ).bind fun ds=>if ds.length ≤ sizeLine then .ok (.lst ds) else .stuck
theorem dI {x1} (h:DA X Γ E es fr):DE X Γ E (.Tuple es x1 pos) (aX fr):=PE.imp (pe_tup h) fun σ H Q ⟨G0,H0,G,δ,S,w⟩=>by
  refine ⟨G0,H0,G,δ,S,(au w).mono (fun ds w vs G1 H1 s1 r1=>?_) fun _ k=>k⟩
  split at w
  · rename_i h
    exact ⟨by rw [r1.length]; exact h,fun p hp=>w _ _ _ (s1.trans (.new s1.gh hp)) (.tup aL (r1.mono (bC.up (aG s1.gh hp))))⟩
  · exact False.elim w
theorem m8 (h:DA X Γ E es fr):DE X Γ E (.List es pos) (bF fr):=PE.imp (pe_lst h) fun σ H Q ⟨G0,H0,G,δ,S,w⟩=>by
  refine ⟨G0,H0,G,δ,S,(au w).mono (fun ds w vs G1 H1 s1 r1=>?_) fun _ k=>k⟩
  split at w
  · rename_i h
    exact ⟨by rw [r1.length]; exact h,fun p hp=>w _ _ _ (s1.trans (.new s1.gh hp)) (.lst aL (r1.mono (bC.up (aG s1.gh hp))))⟩
  · exact False.elim w
theorem aF.atI {K:PySem.W.Frag} {H:Hp} {vs:List V} {ds:List D} {i:Int} {d:D} (r:aF K Γ H vs ds) (e:atI ds i = some d):∃ v,atI vs i = some v∧Rep K Γ H v d:=by
  unfold L2.atI at e ⊢
  rw [r.length]
  cases q:ixN ds.length i with
  | none=>rw [q] at e; cases e
  | some j =>
    rw [q] at e
    exact r.get e
def ixD:D→D→Option D
  | .str z,.int i=>if z.length ≤ sizeLine then (atI z.cps.toList i).map fun c=>.str ⟨#[c]⟩ else none
  | x,.int i=>(JQ x).bind fun ds=>atI ds i
  | _,_=>none
theorem dr_ix {K:PySem.W.Frag}:DR2 K Γ (rIx K) ixD:=by
  intro G H x y dx dy d Q s rx ry e k
  unfold ixD at e
  split at e
  · split at e
    · obtain ⟨c,e1,rfl⟩:=Option.map_eq_some_iff.mp e
      cases rx; cases ry
      exact .inr (.inr ⟨_,_,c,rfl,rfl,‹_›,e1,k _ G H (.refl s) (.str _)⟩)
    · cases e
  · cases ry
    obtain ⟨ds,e1,e2⟩:=Option.bind_eq_some_iff.mp e
    obtain ⟨a,vs,rfl,sq,ra⟩:=rx.seq e1
    obtain ⟨v,h1,h2⟩:=ra.atI e2
    rcases sq with sq | sq
    · exact .inl ⟨a,vs,_,v,rfl,rfl,s.seq sq,h1,k _ G H (.refl s) h2⟩
    · exact .inr (.inl ⟨a,vs,_,v,rfl,rfl,SqT.same s sq,h1,k _ G H (.refl s) h2⟩)
  · cases e
theorem de_ix (ha:DE X Γ E a fa) (hb:DE X Γ E b fb) (hs:Ae b:=by exact fun _ _=>rfl):DE X Γ E (.Subscript a b pos) (o2 ixD fa fb):=d2 dr_ix (acg ix_seq ha hb hs)
def gvo (i:Nat):DSt→Out D:=fun δ=>match δ[i]? with
  | some (some (.sh d))=>.ok d
  | some (some (.ol ds))=>.ok (.lst ds)
  | _=>.stuck
theorem iQ (i:Nat) {x:Str} {p:Pos} (h:PE X (.Name x p) (xR i)) (hb:DE X Γ E b fb) (hs:Ae b:=by exact fun _ _=>rfl):DE X Γ E (.Subscript (.Name x p) b pos) (o2 ixD (gvo i) fb):=PE.imp (acg ix_seq h hb hs) fun σ H Q ⟨G0,H0,G,δ,S,w⟩=>by
  obtain ⟨O,q⟩:=id S.sl
  unfold o2 gvo at w
  split at w
  · rename_i d e
    obtain ⟨v,h1,h2⟩:=q i _ e
    refine ⟨v,h1,G0,H0,G,δ,S,(au (o:=fb δ) w).mono (fun y w u G2 H2 s2 r2=>?_) fun _ k=>k⟩
    obtain ⟨d,e,k⟩:=bO w
    exact dr_ix G2 H2 v u _ y d Q s2.gh (Rep.mono s2.gg h2) r2 e (k.step s2)
  · rename_i ds e
    obtain ⟨v,h1,a,vs,ev,ha,ga,h0,hO,ra⟩:=q i _ e
    subst ev
    refine ⟨_,h1,G0,H0,G,δ,S,(au (o:=fb δ) w).mono (fun y w u G2 H2 s2 r2=>?_) fun _ k=>k⟩
    obtain ⟨d,e,k⟩:=bO w
    unfold ixD at e
    split at e
    · exact absurd (‹D.lst ds = D.str _›) (fun q=>by cases q)
    · cases r2
      obtain ⟨ds',e1,e2⟩:=Option.bind_eq_some_iff.mp e
      cases e1
      obtain ⟨v,h1,h2⟩:=ra.atI e2
      exact .inl ⟨a,vs,_,v,rfl,rfl,SqL.of (s2.hh _ _ ha),h1,k _ G2 H2 s2 (h2.mono s2.gg)⟩
    · cases e
  · exact False.elim w
def DRC (K:PySem.W.Frag) (Γ:Nat→Option Addr) (r:List V→Hp→VK→Prop) (g:List D→Option D):Prop :=
  ∀ G H vs ds d Q,bC G H→aF K Γ G vs ds→g ds = some d→okD K Γ G H Q d→r vs H Q
def oC (g:List D→Option D) (f:DSt→Out (List D)):DSt→Out D:=fun δ=>(f δ).bind fun ds=>.opt (g ds)
theorem dC {r:List V→Hp→VK→Prop} {g:List D→Option D} (hr:DRC X.K Γ r g) (h:PE X e (tCB r (taD X.K Γ E fr))):DE X Γ E e (oC g fr):=PE.imp h fun σ H Q ⟨G0,H0,G,δ,S,w⟩=>by
  refine ⟨G0,H0,G,δ,S,(au w).mono (fun ds w vs G1 H1 s1 r1=>?_) fun _ k=>k⟩
  obtain ⟨d,e,k⟩:=bO w
  exact hr G1 H1 vs ds d Q s1.gh r1 e (k.step s1)
def DRC1 (K:PySem.W.Frag) (Γ:Nat→Option Addr) (r:List V→Hp→VK→Prop) (g:D→Option D):Prop :=
  ∀ G H v dx d Q,bC G H→Rep K Γ H v dx→g dx = some d→okD K Γ G H Q d→r [v] H Q
theorem dC1 {r:List V→Hp→VK→Prop} {g:D→Option D} (hr:DRC1 X.K Γ r g) (h:PE X e (tCB r (yl (tbD X.K Γ E fa) DK))):DE X Γ E e (o1 g fa):=PE.imp h fun σ H Q ⟨G0,H0,G,δ,S,w⟩=>by
  refine ⟨G0,H0,G,δ,S,(au w).mono (fun x w v G1 H1 s1 r1=>?_) fun _ k=>k⟩
  obtain ⟨d,e,k⟩:=bO w
  exact hr G1 H1 v x d Q s1.gh r1 e (k.step s1)
def d9:D→Option D
  | .str z=>if z.length ≤ sizeLine then some (.int z.length) else none
  | x=>(JQ x).map fun ds=>.int ds.length
theorem drc_len {K:PySem.W.Frag}:DRC1 K Γ (fun xs H Q=>(∃ p ys,xs = [.ref p]∧(SqL K H p ys ∨ SqT K H p ys)∧Q (.int ys.length) H) ∨ ∃ z,xs = [.str z]∧z.length ≤ sizeLine∧Q (.int z.length) H) d9:=by
  intro G H v dx d Q s r e k
  unfold d9 at e
  split at e
  · split at e
    · cases e; cases r; exact .inr ⟨_,rfl,‹_›,k _ G H (.refl s) (.int _)⟩
    · cases e
  · obtain ⟨ds,e1,rfl⟩:=Option.map_eq_some_iff.mp e
    obtain ⟨a,vs,rfl,sq,ra⟩:=r.seq e1
    exact .inl ⟨a,vs,rfl,sq,by rw [ra.length]; exact k _ G H (.refl s) (.int _)⟩
variable {p:Pos}
theorem dY (hg:Gl X "len") (hm:X.mg "len" = none) (ha:DB X Γ E a fa) (hs:starEach [a] X.env = [(false,eval a X.env)]:=by rfl):DE X Γ E (.Call (.Name "len" p) [a] [] pos) (o1 d9 fa) :=
  dC1 drc_len (vG (WD.or WF) hg hm PySem.boot_len (cg ha gU (by rw [hs]; rfl)) (by decide) (by decide) (by rw [hs]; rfl) (by rfl))
def intD:D→Option D
  | .int i=>some (.int i)
  | .bl k=>some (.int (if k then 1 else 0))
  | _=>none
def maxD:List D→Option D
  | [.int i,.int j]=>some (.int (if j > i then j else i))
  | _=>none
def minD:List D→Option D
  | [.int i,.int j]=>some (.int (if j < i then j else i))
  | _=>none
theorem de_max (hc:X.calm = true) (hg:Gl X "max") (hm:X.mg "max" = none) (ha:DA X Γ E (e :: es) fr) (he:starEach (e :: es) X.env = (false,eval e X.env) :: starEach es X.env:=by rfl) (hpl:(backTo pos (starEach es X.env)).any (·.1) = false:=by rfl):DE X Γ E (.Call (.Name "max" p) (e :: es) [] pos) (oC maxD fr) :=
  dC (fun G H vs ds d Q s r e k=>by
    unfold maxD at e
    split at e
    · cases e
      cases r with
      | cons r1 r2=>cases r1; cases r2 with
        | cons r2 r3=>cases r2; cases r3; exact ⟨_,_,rfl,k _ G H (.refl s) (.int _)⟩
    · cases e) (vG (afy hc) hg hm (by decide +kernel) ha (by decide) (by decide) he hpl)
theorem de_min (hc:X.calm = true) (hg:Gl X "min") (hm:X.mg "min" = none) (ha:DA X Γ E (e :: es) fr) (he:starEach (e :: es) X.env = (false,eval e X.env) :: starEach es X.env:=by rfl) (hpl:(backTo pos (starEach es X.env)).any (·.1) = false:=by rfl):DE X Γ E (.Call (.Name "min" p) (e :: es) [] pos) (oC minD fr) :=
  dC (fun G H vs ds d Q s r e k=>by
    unfold minD at e
    split at e
    · cases e
      cases r with
      | cons r1 r2=>cases r1; cases r2 with
        | cons r2 r3=>cases r2; cases r3; exact ⟨_,_,rfl,k _ G H (.refl s) (.int _)⟩
    · cases e) (vG (afz hc) hg hm (by decide +kernel) ha (by decide) (by decide) he hpl)
def nU:D→Option D
  | .lst xs=>some (.tup xs)
  | .rol xs=>some (.tup xs)
  | .tup xs=>some (.tup xs)
  | _=>none
theorem vd (hg:Gl X "tuple") (hm:X.mg "tuple" = none) (ha:DE X Γ E a fa) (hs:starEach [a] X.env = [(false,eval a X.env)]:=by rfl):DE X Γ E (.Call (.Name "tuple" p) [a] [] pos) (oC (fun ds=>match ds with | [x]=>nU x | _=>none) (aj fa az)) :=
  dC (fun G H vs ds d Q s r e k=>by
    cases r with
    | nil=>cases e
    | cons r1 r2 =>
      cases r2 with
      | cons _ _=>cases e
      | nil =>
        dsimp only at e
        unfold nU at e
        split at e
        · cases e
          cases r1 with
          | lst h ra=>exact ⟨_,_,rfl,.inl ⟨s.seq (SqL.of h),fun l hl=>k _ _ _ (.new s hl) (.tup aL (ra.mono (bC.up (aG s hl))))⟩⟩
        · cases e
          cases r1 with
          | rol h ra=>exact ⟨_,_,rfl,.inl ⟨s.seq h,fun l hl=>k _ _ _ (.new s hl) (.tup aL (ra.mono (bC.up (aG s hl))))⟩⟩
        · cases e
          cases r1 with
          | tup h ra=>exact ⟨_,_,rfl,.inr ⟨SqT.of (s _ _ h),k _ G H (.refl s) (.tup h ra)⟩⟩
        · cases e) (Jj Ru hg hm (by decide +kernel) (ak ha aK (by rw [hs]; rfl)) (by decide) (by decide) (by rw [hs]; rfl) (by rfl))
end
end DL
namespace DL
open PySem PySem.Spec PyProof.Rows MX L2
section
variable {K:PySem.W.Frag} {Γ:Nat→Option Addr} {G0 H0 G H G' H':Hp} {O O':Addr→Option Nat} {σ:L2.St} {δ:DSt}
theorem Inner.reO (k:∀ b,H b ≠ none→O' b = O b) {i:Nat}:∀ {vs:List V} {dss:List (List D)},Inner K Γ H0 G H O i vs dss→Inner K Γ H0 G H O' i vs dss
  | _,_,.nil=>.nil
  | _,_,.cons h g h0 o r n t=>.cons h g h0 (by rw [k _ (by rw [h]; exact fun q=>nomatch q)]; exact o) r n (t.reO k)
theorem aV.reO (k:∀ b,H b ≠ none→O' b = O b) {i:Nat}:∀ {vs:List V} {es:List Mx} {bs:List Addr},aV K Γ H0 G H O i vs es bs→aV K Γ H0 G H O' i vs es bs
  | _,_,_,.nil=>.nil
  | _,_,_,.own h g h0 o r n t=>.own h g h0 (by rw [k _ (by rw [h]; exact fun q=>nomatch q)]; exact o) r n (t.reO k)
  | _,_,_,.fix r t=>.fix r (t.reO k)
theorem cM.reO {i:Nat} {v:V} {x:Sl} (h:cM K Γ H0 G H O i v x) (k:∀ b,H b ≠ none→O' b = O b):cM K Γ H0 G H O' i v x:=by
  have kk:∀ {a:Addr} {o:HO},H a = some o→O' a = O a:=fun h=>k _ (by rw [h]; exact fun q=>nomatch q)
  cases x with
  | sh d=>exact h
  | ol ds=>obtain ⟨a,vs,e,h1,h2,h3,h4,h5⟩:=h; exact ⟨a,vs,e,h1,h2,h3,(kk h1).trans h4,h5⟩
  | oll ds=>obtain ⟨a,vs,e,h1,h2,h3,h4,h5,h6⟩:=h; exact ⟨a,vs,e,h1,h2,h3,(kk h1).trans h4,h5,h6.reO k⟩
  | od ds=>obtain ⟨a,vs,e,h1,h2,h3,h4,h5⟩:=h; exact ⟨a,vs,e,h1,h2,h3,(kk h1).trans h4,h5⟩
  | odT ds=>obtain ⟨a,vs,e,h1,h2,h3,h4,h5⟩:=h; exact ⟨a,vs,e,h1,h2,h3,(kk h1).trans h4,h5⟩
  | omx ds=>obtain ⟨a,vs,bs,e,h1,h2,h3,h4,h5,h6⟩:=h; exact ⟨a,vs,bs,e,h1,h2,h3,(kk h1).trans h4,h5,h6.reO k⟩
theorem Inner.frame {i j:Nat} (ij:j ≠ i) (hh:∀ b,O b ≠ some i→H' b = H b) (gg:bC G G') (gn:∀ b,O b ≠ some i→G b = none→G' b = none):∀ {vs:List V} {dss:List (List D)},Inner K Γ H0 G H O j vs dss→Inner K Γ H0 G' H' O j vs dss
  | _,_,.nil=>.nil
  | _,_,.cons h g h0 o r n t=>.cons ((hh _ (by rw [o]; exact fun q=>ij (Option.some.inj q))).trans h) (gn _ (by rw [o]; exact fun q=>ij (Option.some.inj q)) g) h0 o (r.mono gg) n (t.frame ij hh gg gn)
theorem aV.frame {i j:Nat} (ij:j ≠ i) (hh:∀ b,O b ≠ some i→H' b = H b) (gg:bC G G') (gn:∀ b,O b ≠ some i→G b = none→G' b = none):∀ {vs:List V} {es:List Mx} {bs:List Addr},aV K Γ H0 G H O j vs es bs→aV K Γ H0 G' H' O j vs es bs
  | _,_,_,.nil=>.nil
  | _,_,_,.own h g h0 o r n t=>.own ((hh _ (by rw [o]; exact fun q=>ij (Option.some.inj q))).trans h) (gn _ (by rw [o]; exact fun q=>ij (Option.some.inj q)) g) h0 o (r.mono gg) n (t.frame ij hh gg gn)
  | _,_,_,.fix r t=>.fix (r.mono gg) (t.frame ij hh gg gn)
theorem cM.frame {i j:Nat} {v:V} {x:Sl} (h:cM K Γ H0 G H O j v x) (ij:j ≠ i) (hh:∀ b,O b ≠ some i→H' b = H b) (gg:bC G G') (gn:∀ b,O b ≠ some i→G b = none→G' b = none):cM K Γ H0 G' H' O j v x:=by
  have nz:∀ {a:Addr},O a = some j→O a ≠ some i:=fun o=>by rw [o]; exact fun q=>ij (Option.some.inj q)
  cases x with
  | sh d=>exact Rep.mono gg h
  | ol ds=>obtain ⟨a,vs,e,h1,h2,h3,h4,h5⟩:=h; exact ⟨a,vs,e,(hh _ (nz h4)).trans h1,gn _ (nz h4) h2,h3,h4,h5.mono gg⟩
  | oll ds=>obtain ⟨a,vs,e,h1,h2,h3,h4,h5,h6⟩:=h; exact ⟨a,vs,e,(hh _ (nz h4)).trans h1,gn _ (nz h4) h2,h3,h4,h5,h6.frame ij hh gg gn⟩
  | od ds=>obtain ⟨a,vs,e,h1,h2,h3,h4,h5⟩:=h; exact ⟨a,vs,e,(hh _ (nz h4)).trans h1,gn _ (nz h4) h2,h3,h4,h5.mono gg⟩
  | odT ds=>obtain ⟨a,vs,e,h1,h2,h3,h4,h5⟩:=h; exact ⟨a,vs,e,(hh _ (nz h4)).trans h1,gn _ (nz h4) h2,h3,h4,h5.mono gg⟩
  | omx ds=>obtain ⟨a,vs,bs,e,h1,h2,h3,h4,h5,h6⟩:=h; exact ⟨a,vs,bs,e,(hh _ (nz h4)).trans h1,gn _ (nz h4) h2,h3,h4,h5,h6.frame ij hh gg gn⟩
theorem Slots.put {i:Nat} {v:V} {x:Sl} (hl:δ.length = σ.length) (q:∀ j s,δ[j]? = some (some s)→j ≠ i→∃ v,σ[j]? = some (some v)∧cM K Γ H0 G H O j v s) (n:cM K Γ H0 G H O i v x):Slots K Γ H0 G H (σ.set i (some v)) (δ.set i (some x)):=by
  refine ⟨O,fun j y e=>?_⟩
  by_cases ij:i = j
  · subst ij
    rw [List.getElem?_set_self'] at e
    cases h:δ[i]? with
    | none=>rw [h] at e; simp at e
    | some z =>
      rw [h] at e
      simp at e
      have lt:i < σ.length:=by rw [← hl]; exact (List.getElem?_eq_some_iff.mp h).1
      subst e
      exact ⟨v,by rw [List.getElem?_set_self lt],n⟩
  · rw [List.getElem?_set_ne ij] at e
    obtain ⟨v',h1,h2⟩:=q j y e (fun z=>ij z.symm)
    exact ⟨v',by rw [List.getElem?_set_ne ij]; exact h1,h2⟩
theorem sE {α:Type} {l:List α} {i:Nat} {x:α} (h:l[i]? = some x):l.set i x = l:=by
  obtain ⟨lt,e⟩:=List.getElem?_eq_some_iff.mp h
  subst e
  exact List.set_getElem_self lt
theorem SR.setl (S:SR K Γ G0 H0 G H σ δ) (s:Step G H G' H') {i:Nat} {a:Addr} {vs:List V} {ds:List D} (f:H a = none) (h:H' a = some (.lst vs)) (g:G' a = none) (r:aF K Γ G' vs ds) :
    SR K Γ G0 H0 G' H' (σ.set i (some (.ref a))) (δ.set i (some (.ol ds))):=by
  obtain ⟨O,q⟩:=S.sl
  have k:∀ b,H b ≠ none→(fun b=>if b = a then some i else O b) b = O b:=fun b hb=>by
    have:b ≠ a:=fun z=>hb (z ▸ f)
    simp [this]
  refine ⟨S.st.trans s,by rw [List.length_set,List.length_set]; exact S.len,Slots.put (O:=fun b=>if b = a then some i else O b) S.len (fun j y e ij=>?_) ⟨a,vs,rfl,h,g,aG S.st.hh f,by simp,r⟩⟩
  obtain ⟨v,h1,h2⟩:=q j y e
  exact ⟨v,h1,(h2.reO k).step s⟩
theorem bH.mem {G' H':Hp}:∀ {vs:List V} {dss:List (List D)},bH K Γ H G' H' vs dss→∀ b,V.ref b ∈ vs→H b = none∧H' b ≠ none
  | _,_,.nil,b,hb=>by cases hb
  | _,_,.cons f h g r n t,b,hb=>by
    rcases List.mem_cons.mp hb with z | z
    · cases z; exact ⟨f,by rw [h]; exact fun q=>nomatch q⟩
    · exact t.mem b z
theorem bH.inner {i:Nat} {vs₀:List V} (h0:∀ b,H b = none→H0 b = none) (o:∀ b,V.ref b ∈ vs₀→O b = some i):∀ {vs:List V} {dss:List (List D)},(∀ b,V.ref b ∈ vs→V.ref b ∈ vs₀)→bH K Γ H G' H' vs dss→Inner K Γ H0 G' H' O i vs dss
  | _,_,_,.nil=>.nil
  | _,_,m,.cons f h g r n t=>.cons h g (h0 _ f) (o _ (m _ List.mem_cons_self)) r n (bH.inner h0 o (fun b hb=>m b (List.mem_cons_of_mem _ hb)) t)
theorem SR.setll (S:SR K Γ G0 H0 G H σ δ) (s:Step G H G' H') {i:Nat} {a:Addr} {vs:List V} {dss:List (List D)} (f:H a = none) (h:H' a = some (.lst vs)) (g:G' a = none) (n:V.ref a ∉ vs) (r:bH K Γ H G' H' vs dss) :
    SR K Γ G0 H0 G' H' (σ.set i (some (.ref a))) (δ.set i (some (.oll dss))):=by
  obtain ⟨O,q⟩:=S.sl
  have k:∀ b,H b ≠ none→(fun b=>if b = a ∨ V.ref b ∈ vs then some i else O b) b = O b:=fun b hb=>by
    have h1:b ≠ a:=fun z=>hb (z ▸ f)
    have h2:V.ref b ∉ vs:=fun z=>hb (r.mem b z).1
    simp [h1,h2]
  refine ⟨S.st.trans s,by rw [List.length_set,List.length_set]; exact S.len,Slots.put (O:=fun b=>if b = a ∨ V.ref b ∈ vs then some i else O b) S.len (fun j y e ij=>?_) ⟨a,vs,rfl,h,g,aG S.st.hh f,by simp,n,r.inner (vs₀:=vs) (fun b z=>aG S.st.hh z) (fun b z=>by simp [z]) fun _ z=>z⟩⟩
  obtain ⟨v,h1,h2⟩:=q j y e
  exact ⟨v,h1,(h2.reO k).step s⟩
theorem SR.write (S:SR K Γ G0 H0 G H σ δ) (q:∀ i s,δ[i]? = some (some s)→∃ v,σ[i]? = some (some v)∧cM K Γ H0 G H O i v s) {i:Nat} {a:Addr} {o:HO} {v:V} {x:Sl} (g:G a = none) (h0:H0 a = none) (oa:O a = some i) (hv:σ[i]? = some (some v))
    (n:cM K Γ H0 G (upd H a o) O i v x):SR K Γ G0 H0 G (upd H a o) σ (δ.set i (some x)):=by
  have hh:∀ b,O b ≠ some i→upd H a o b = H b:=fun b hb=>aD fun z=>hb (z ▸ oa)
  refine ⟨⟨S.st.gg,fun b u e=>?_,fun b u e=>?_,S.st.sep⟩,by rw [List.length_set]; exact S.len,?_⟩
  · rw [aD (aQ e h0)]; exact S.st.hh _ _ e
  · rw [aD (aQ e g)]; exact S.st.gh _ _ e
  · have z:=Slots.put (v:=v) (i:=i) (x:=x) S.len (fun j y e ij=>by
      obtain ⟨v',h1,h2⟩:=q j y e
      exact ⟨v',h1,h2.frame ij hh (bC.refl _) (fun _ _ g=>g)⟩) n
    rwa [sE hv] at z
def d7 (G H:Hp) (p:Addr→Bool):Hp:=fun b=>if p b = true then H b else G b
theorem SR.Pb (S:SR K Γ G0 H0 G H σ δ) (q:∀ i s,δ[i]? = some (some s)→∃ v,σ[i]? = some (some v)∧cM K Γ H0 G H O i v s) {i:Nat} (p:Addr→Bool) (hp:∀ b,p b = true→O b = some i∧G b = none∧H0 b = none) {v:V} {d:D} (hv:σ[i]? = some (some v))
    (n:Rep K Γ (d7 G H p) v d):SR K Γ G0 H0 (d7 G H p) H σ (δ.set i (some (.sh d))):=by
  have gg:bC G (d7 G H p):=fun b u e=>by
    unfold d7
    split
    · rw [(hp b ‹_›).2.1] at e; cases e
    · exact e
  have gn:∀ b,O b ≠ some i→G b = none→d7 G H p b = none:=fun b hb g=>by
    unfold d7
    split
    · exact absurd (hp b ‹_›).1 hb
    · exact g
  refine ⟨⟨S.st.gg.trans gg,S.st.hh,fun b u e=>?_,fun b hb g0=>?_⟩,by rw [List.length_set]; exact S.len,?_⟩
  · unfold d7 at e
    split at e
    · exact e
    · exact S.st.gh _ _ e
  · unfold d7
    split
    · exact absurd (hp b ‹_›).2.2 hb
    · exact S.st.sep b hb g0
  · have z:=Slots.put (v:=v) (i:=i) (x:=.sh d) S.len (fun j y e ij=>by
      obtain ⟨v',h1,h2⟩:=q j y e
      exact ⟨v',h1,h2.frame ij (fun _ _=>rfl) gg gn⟩) n
    rwa [sE hv] at z
theorem Inner.facts {i:Nat}:∀ {vs:List V} {dss:List (List D)},Inner K Γ H0 G H O i vs dss→∀ b,V.ref b ∈ vs→O b = some i∧G b = none∧H0 b = none
  | _,_,.nil,b,hb=>by cases hb
  | _,_,.cons h g h0 o r n t,b,hb=>by
    rcases List.mem_cons.mp hb with z | z
    · cases z; exact ⟨o,g,h0⟩
    · exact t.facts b z
theorem Inner.frozen {i:Nat} {p:Addr→Bool} (gg:bC G (d7 G H p)):∀ {vs:List V} {dss:List (List D)},(∀ b,V.ref b ∈ vs→p b = true)→Inner K Γ H0 G H O i vs dss→aF K Γ (d7 G H p) vs (dss.map .lst)
  | _,_,_,.nil=>.nil
  | _,_,m,.cons h g h0 o r n t=>.cons (.lst (by unfold d7; rw [if_pos (m _ List.mem_cons_self)]; exact h) (r.mono gg)) (Inner.frozen gg (fun b' hb=>m b' (List.mem_cons_of_mem _ hb)) t)
theorem aV.facts {i:Nat}:∀ {vs:List V} {es:List Mx} {bs:List Addr},aV K Γ H0 G H O i vs es bs→∀ b ∈ bs,O b = some i∧G b = none∧H0 b = none
  | _,_,_,.nil,b,hb=>by cases hb
  | _,_,_,.own h g h0 o r n t,b,hb=>by
    rcases List.mem_cons.mp hb with z | z
    · cases z; exact ⟨o,g,h0⟩
    · exact t.facts b z
  | _,_,_,.fix r t,b,hb=>t.facts b hb
theorem aV.frozen {i:Nat} {p:Addr→Bool} (gg:bC G (d7 G H p)):∀ {vs:List V} {es:List Mx} {bs:List Addr},(∀ b ∈ bs,p b = true)→aV K Γ H0 G H O i vs es bs→aF K Γ (d7 G H p) vs (es.map Mx.d)
  | _,_,_,_,.nil=>.nil
  | _,_,_,m,.own h g h0 o r n t=>.cons (.lst (by unfold d7; rw [if_pos (m _ List.mem_cons_self)]; exact h) (r.mono gg)) (aV.frozen gg (fun b' hb=>m b' (List.mem_cons_of_mem _ hb)) t)
  | _,_,_,m,.fix r t=>.cons (r.mono gg) (aV.frozen gg m t)
def frzS:Sl→Sl
  | .sh d=>.sh d
  | .ol ds=>.sh (.lst ds)
  | .oll dss=>.sh (.lst (dss.map .lst))
  | .od kvs=>.sh (.dK kvs)
  | .odT kvs=>.sh (.dT kvs)
  | .omx es=>.sh (.lst (es.map Mx.d))
def frz (i:Nat) (δ:DSt):DSt:=match δ[i]? with
  | some (some s)=>δ.set i (some (frzS s))
  | _=>δ
theorem fV {p:Addr→Bool} (hp:∀ b,p b = true→G b = none):bC G (d7 G H p):=fun b u e=>by
  unfold d7
  split
  · rw [hp b ‹_›] at e; cases e
  · exact e
theorem SR.freeze (S:SR K Γ G0 H0 G H σ δ) (i:Nat):∃ G',SR K Γ G0 H0 G' H σ (frz i δ):=by
  obtain ⟨O,q⟩:=id S.sl
  unfold frz
  split
  · rename_i s e
    obtain ⟨v,hv,h⟩:=q i s e
    cases s with
    | sh d=>exact ⟨G,by rw [show frzS (.sh d) = .sh d from rfl,sE e]; exact S⟩
    | ol ds =>
      obtain ⟨a,vs,ev,h1,h2,h3,h4,h5⟩:=h
      subst ev
      have hp:∀ b,decide (b = a) = true→O b = some i∧G b = none∧H0 b = none:=fun b z=>by obtain rfl:=of_decide_eq_true z; exact ⟨h4,h2,h3⟩
      exact ⟨_,S.Pb q (fun b=>decide (b = a)) hp hv (.lst (by unfold d7; rw [if_pos (by simp)]; exact h1) (h5.mono (fV fun b z=>(hp b z).2.1)))⟩
    | oll ds =>
      obtain ⟨a,vs,ev,h1,h2,h3,h4,h5,h6⟩:=h
      subst ev
      have hp:∀ b,decide (b = a ∨ V.ref b ∈ vs) = true→O b = some i∧G b = none∧H0 b = none:=fun b z=>by
        rcases of_decide_eq_true z with z | z
        · subst z; exact ⟨h4,h2,h3⟩
        · exact h6.facts b z
      exact ⟨_,S.Pb q (fun b=>decide (b = a ∨ V.ref b ∈ vs)) hp hv (.lst (by unfold d7; rw [if_pos (by simp)]; exact h1) (h6.frozen (fV fun b z=>(hp b z).2.1) fun b hb=>by simp [hb]))⟩
    | od ds =>
      obtain ⟨a,vs,ev,h1,h2,h3,h4,h5⟩:=h
      subst ev
      have hp:∀ b,decide (b = a) = true→O b = some i∧G b = none∧H0 b = none:=fun b z=>by obtain rfl:=of_decide_eq_true z; exact ⟨h4,h2,h3⟩
      exact ⟨_,S.Pb q (fun b=>decide (b = a)) hp hv (.dK (by unfold d7; rw [if_pos (by simp)]; exact h1) (h5.mono (fV fun b z=>(hp b z).2.1)))⟩
    | odT ds =>
      obtain ⟨a,vs,ev,h1,h2,h3,h4,h5⟩:=h
      subst ev
      have hp:∀ b,decide (b = a) = true→O b = some i∧G b = none∧H0 b = none:=fun b z=>by obtain rfl:=of_decide_eq_true z; exact ⟨h4,h2,h3⟩
      exact ⟨_,S.Pb q (fun b=>decide (b = a)) hp hv (.dT (by unfold d7; rw [if_pos (by simp)]; exact h1) (h5.mono (fV fun b z=>(hp b z).2.1)))⟩
    | omx ds =>
      obtain ⟨a,vs,bs,ev,h1,h2,h3,h4,h5,h6⟩:=h
      subst ev
      have hp:∀ b,decide (b = a ∨ b ∈ bs) = true→O b = some i∧G b = none∧H0 b = none:=fun b z=>by
        rcases of_decide_eq_true z with z | z
        · subst z; exact ⟨h4,h2,h3⟩
        · exact h6.facts b z
      exact ⟨_,S.Pb q (fun b=>decide (b = a ∨ b ∈ bs)) hp hv (.lst (by unfold d7; rw [if_pos (by simp)]; exact h1) (h6.frozen (fV fun b z=>(hp b z).2.1) fun b hb=>by simp [hb]))⟩
  · exact ⟨G,S⟩
end
section
variable (K:PySem.W.Frag) (Γ:Nat→Option Addr) (E:XK)
def okF (G H:Hp) (Q:VK) (ds:List D):Prop:=∀ a vs G' H',Step G H G' H'→H a = none→H' a = some (.lst vs)→G' a = none→aF K Γ G' vs ds→Q (.ref a) H'
def okFF (G H:Hp) (Q:VK) (dss:List (List D)):Prop:=∀ a vs G' H',Step G H G' H'→H a = none→H' a = some (.lst vs)→G' a = none→V.ref a ∉ vs→bH K Γ H G' H' vs dss→Q (.ref a) H'
def tfD (f:DSt→Out (List D)):TE:=fun σ H Q=>∃ G0 H0 G δ,SR K Γ G0 H0 G H σ δ∧wpO (f δ) (okF K Γ G H Q) (exD K Γ E G H)
def tffD (f:DSt→Out (List (List D))):TE:=fun σ H Q=>∃ G0 H0 G δ,SR K Γ G0 H0 G H σ δ∧wpO (f δ) (okFF K Γ G H Q) (exD K Γ E G H)
end
abbrev DF (X:Cx) (Γ:Nat→Option Addr) (E:XK) (e:Expr) (f:DSt→Out (List D)):Prop:=PE X e (tfD X.K Γ E f)
abbrev DFF (X:Cx) (Γ:Nat→Option Addr) (E:XK) (e:Expr) (f:DSt→Out (List (List D))):Prop:=PE X e (tffD X.K Γ E f)
section
variable {X:Cx} {Γ:Nat→Option Addr} {E:XK} {e a b c:Expr} {pos:Pos} {es:List Expr} {fa fb:DSt→Out D} {fr:DSt→Out (List D)}
theorem bH.frozen {K:PySem.W.Frag} {G0 H0 G H:Hp} {p:Addr→Bool} (gg:bC G (d7 G H p)):∀ {vs:List V} {dss:List (List D)},(∀ b,V.ref b ∈ vs→p b = true)→bH K Γ H0 G H vs dss→aF K Γ (d7 G H p) vs (dss.map .lst)
  | _,_,_,.nil=>.nil
  | _,_,m,.cons f h g r n t=>.cons (.lst (by unfold d7; rw [if_pos (m _ List.mem_cons_self)]; exact h) (r.mono gg)) (bH.frozen (G0:=G0) gg (fun b' hb=>m b' (List.mem_cons_of_mem _ hb)) t)
theorem bH.gnone {K:PySem.W.Frag} {H G' H':Hp}:∀ {vs:List V} {dss:List (List D)},bH K Γ H G' H' vs dss→∀ b,V.ref b ∈ vs→G' b = none
  | _,_,.nil,b,hb=>by cases hb
  | _,_,.cons f h g r n t,b,hb=>by
    rcases List.mem_cons.mp hb with z | z
    · cases z; exact g
    · exact t.gnone b z
theorem Step.frz {G H G' H':Hp} (s:Step G H G' H') (p:Addr→Bool) (hp:∀ b,p b = true→G' b = none∧H b = none):Step G H (d7 G' H' p) H' :=
  ⟨s.gg.trans (fV fun b z=>(hp b z).1),s.hh,fun b u e=>by
    unfold d7 at e
    split at e
    · exact e
    · exact s.gh _ _ e,fun b hb g=>by
    unfold d7
    split
    · exact absurd (hp b ‹_›).2 hb
    · exact s.sep b hb g⟩
def vp (f:DSt→Out (List D)):DSt→Out D:=fun δ=>(f δ).bind fun ds=>.ok (.lst ds)
def Vy (f:DSt→Out (List (List D))):DSt→Out D:=fun δ=>(f δ).bind fun dss=>.ok (.lst (dss.map .lst))
theorem Ov {f:DSt→Out (List D)} (h:DF X Γ E e f):DE X Γ E e (vp f):=PE.imp h fun σ H Q ⟨G0,H0,G,δ,S,w⟩=>by
  refine ⟨G0,H0,G,δ,S,(au w).mono (fun ds w a vs G1 H1 s1 f h g r=>?_) fun _ k=>k⟩
  have hp:∀ b,decide (b = a) = true→G1 b = none∧H b = none:=fun b z=>by obtain rfl:=of_decide_eq_true z; exact ⟨g,f⟩
  exact w _ _ H1 (s1.frz (fun b=>decide (b = a)) hp) (.lst (by unfold d7; rw [if_pos (by simp)]; exact h) (r.mono (fV fun b z=>(hp b z).1)))
def Ey (f:DSt→Out (List D)):DSt→Out (List D):=fun δ=>(f δ).bind fun ds=>if ds.length ≤ sizeLine then .ok ds else .stuck
theorem df_lst (h:DA X Γ E es fr):DF X Γ E (.List es pos) (Ey fr):=PE.imp (pe_lst h) fun σ H Q ⟨G0,H0,G,δ,S,w⟩=>by
  refine ⟨G0,H0,G,δ,S,(au w).mono (fun ds w vs G1 H1 s1 r1=>?_) fun _ k=>k⟩
  split at w
  · rename_i h
    exact ⟨by rw [r1.length]; exact h,fun p hp=>w p vs G1 _ (s1.trans (.aside s1.gh hp)) (aG s1.hh hp) aL (aG s1.gh hp) r1⟩
  · exact False.elim w
def jZ (f:DSt→Out D):DSt→Out (List D):=fun δ=>(f δ).bind fun d=>.opt (JQ d)
theorem aeX {p:Pos} (hg:Gl X "list") (hm:X.mg "list" = none) (ha:DE X Γ E a fa) (hs:starEach [a] X.env = [(false,eval a X.env)]:=by rfl):DF X Γ E (.Call (.Name "list" p) [a] [] pos) (jZ fa) :=
  PE.imp (Jj WK hg hm (by decide +kernel) (cg ha gU (by rw [hs]; rfl)) (by decide) (by decide) (by rw [hs]; rfl) (by rfl)) fun σ H Q ⟨G0,H0,G,δ,S,w⟩=>by
    refine ⟨G0,H0,G,δ,S,(au w).mono (fun d w v G1 H1 s1 r1=>?_) fun _ k=>k⟩
    obtain ⟨ds,e,w⟩:=bO w
    obtain ⟨a,vs,rfl,sq,ra⟩:=r1.seq e
    exact ⟨a,vs,rfl,sq.imp (fun z=>s1.gh.seq z) (fun z=>SqT.same s1.gh z),fun l hl=>w l vs G1 _ (s1.trans (.aside s1.gh hl)) (aG s1.hh hl) aL (aG s1.gh hl) ra⟩
end
section
variable {X:Cx} {Γ:Nat→Option Addr} {E:XK} {e a b c:Expr} {pos:Pos} {es:List Expr} {fa fb:DSt→Out D} {fr:DSt→Out (List D)} {ft:DSt→Out Bool} {st:Stmt} {rest sa sb:List Stmt} {g g':DSt→Out Fl}
def eN:DSt→Out Fl:=fun δ=>.ok (.nx δ)
def bA (g g':DSt→Out Fl):DSt→Out Fl:=fun δ=>(g δ).bind fun fl=>match fl with
  | .nx δ'=>g' δ'
  | fl=>.ok fl
theorem bZ:DSs X Γ E [] eN:=PSs.imp pss_nil fun N σ H ⟨G0,H0,G,δ,S,w⟩=>w σ G H S
theorem cG (h1:DS X Γ E st g) (h2:DSs X Γ E rest g'):DSs X Γ E (st :: rest) (bA g g'):=PSs.imp (vH h1 h2) fun N σ H ⟨G0,H0,G,δ,S,w⟩=>by
  refine ⟨G0,H0,G,δ,S,(au w).mono (fun fl w=>?_) fun _ k=>k⟩
  cases fl with
  | nx δ'=>exact fun σ' G' H' S'=>⟨G0,H0,G',δ',S',w⟩
  | rt d=>exact w
  | bk d=>exact w
  | ct d=>exact w
  | rl d=>exact w
  | rll d=>exact w
theorem aM (h1:DS X Γ E st g):DSs X Γ E [st] g:=qt h1
theorem adD (i:Nat) (h:DS X Γ E st g):DS X Γ E st (fun δ=>g (frz i δ)):=PS.imp h fun N σ H ⟨G0,H0,G,δ,S,w⟩=>by
  obtain ⟨G',S'⟩:=S.freeze i
  exact ⟨G0,H0,G',_,S',w⟩
def vK (f:DSt→Out D):DSt→Out Fl:=fun δ=>(f δ).bind fun _=>.ok (.nx δ)
theorem aeZ (he:DE X Γ E e fa) (hs:swapsWith e none pos.line X.env = pure false:=by rfl):DS X Γ E (.Expr e pos) (vK fa):=PS.imp (mR he hs) fun N σ H ⟨G0,H0,G,δ,S,w⟩ =>
  ⟨G0,H0,G,δ,S,(au w).mono (fun d w v G' H' s r=>w σ G' H' (S.step s)) fun x k=>exD.step k S.st⟩
def bU (f:DSt→Out D):DSt→Out Fl:=fun δ=>(f δ).bind fun d=>.ok (.rt d)
theorem bf (he:DE X Γ E e fa):DS X Γ E (.Return (some e) pos) (bU fa):=PS.imp (Jo he) fun N σ H ⟨G0,H0,G,δ,S,w⟩ =>
  ⟨G0,H0,G,δ,S,(au w).mono (fun d w v G' H' s r=>w v G' H' (S.st.trans s) r) fun x k=>exD.step k S.st⟩
def sRetf (f:DSt→Out (List D)):DSt→Out Fl:=fun δ=>(f δ).bind fun d=>.ok (.rl d)
theorem ds_retf (he:DF X Γ E e fr):DS X Γ E (.Return (some e) pos) (sRetf fr):=PS.imp (Jo he) fun N σ H ⟨G0,H0,G,δ,S,w⟩ =>
  ⟨G0,H0,G,δ,S,(au w).mono (fun d w a vs G' H' s f h g r=>w a vs G' H' (S.st.trans s) (aG S.st.hh f) h g r) fun x k=>exD.step k S.st⟩
theorem bH.reF {K:PySem.W.Frag} {H H2 G' H':Hp} (k:∀ b,H b = none→H2 b = none):∀ {vs:List V} {dss:List (List D)},bH K Γ H G' H' vs dss→bH K Γ H2 G' H' vs dss
  | _,_,.nil=>.nil
  | _,_,.cons f h g r n t=>.cons (k _ f) h g r n (bH.reF k t)
def aeu (f:DSt→Out (List (List D))):DSt→Out Fl:=fun δ=>(f δ).bind fun d=>.ok (.rll d)
theorem ds_retff {ff:DSt→Out (List (List D))} (he:DFF X Γ E e ff):DS X Γ E (.Return (some e) pos) (aeu ff):=PS.imp (Jo he) fun N σ H ⟨G0,H0,G,δ,S,w⟩ =>
  ⟨G0,H0,G,δ,S,(au w).mono (fun d w a vs G' H' s f h g n r=>w a vs G' H' (S.st.trans s) (aG S.st.hh f) h g n (r.reF fun b z=>aG S.st.hh z)) fun x k=>exD.step k S.st⟩
def sRetv (i:Nat):DSt→Out Fl:=fun δ=>match δ[i]? with
  | some (some (.sh d))=>.ok (.rt d)
  | some (some (.ol ds))=>.ok (.rl ds)
  | some (some (.oll dss))=>.ok (.rll dss)
  | _=>.stuck
theorem Inner.toN {K:PySem.W.Frag} {H0 G H:Hp} {O:Addr→Option Nat} {i:Nat}:∀ {vs:List V} {dss:List (List D)},Inner K Γ H0 G H O i vs dss→bH K Γ H0 G H vs dss
  | _,_,.nil=>.nil
  | _,_,.cons h g h0 o r n t=>.cons h0 h g r n t.toN
theorem ae1 (i:Nat) {x:Str} {p:Pos} (hv:PE X (.Name x p) (xR i)):DS X Γ E (.Return (some (.Name x p)) pos) (sRetv i):=PS.imp (Jo hv) fun N σ H ⟨G0,H0,G,δ,S,w⟩=>by
  obtain ⟨O,q⟩:=id S.sl
  unfold sRetv at w
  split at w
  · rename_i d e
    obtain ⟨v,hv,h⟩:=q i _ e
    exact ⟨v,hv,w v G H S.st h⟩
  · rename_i d e
    obtain ⟨v,hv,a,vs,ev,h1,h2,h3,h4,h5⟩:=q i _ e
    subst ev
    exact ⟨_,hv,w a vs G H S.st h3 h1 h2 h5⟩
  · rename_i d e
    obtain ⟨v,hv,a,vs,ev,h1,h2,h3,h4,h5,h6⟩:=q i _ e
    subst ev
    exact ⟨_,hv,w a vs G H S.st h3 h1 h2 h5 h6.toN⟩
  · exact False.elim w
def sIf (t:DSt→Out Bool) (g g':DSt→Out Fl):DSt→Out Fl:=fun δ=>(t δ).bind fun k=>if k = true then g δ else g' δ
theorem fQ (hc:DT X Γ E c ft) (ha:DSs X Γ E sa g) (hb:DSs X Γ E sb g'):DS X Γ E (.If c sa sb pos) (sIf ft g g'):=PS.imp (ps_if hc ha hb) fun N σ H ⟨G0,H0,G,δ,S,w⟩=>by
  refine ⟨G0,H0,G,δ,S,(au w).mono (fun k w G1 H1 s1=>?_) fun x k=>exD.step k S.st⟩
  cases k with
  | true=>rw [if_pos rfl] at w ⊢; exact ⟨G0,H0,G1,δ,S.step s1,w⟩
  | false=>rw [if_neg Bool.false_ne_true] at w ⊢; exact ⟨G0,H0,G1,δ,S.step s1,w⟩
def tgD (K:PySem.W.Frag) (Γ:Nat→Option Addr) (f:D→DSt→Option DSt):TG:=fun v σ H Q=>∃ G0 H0 G δ d δ',SR K Γ G0 H0 G H σ δ∧Rep K Γ G v d∧f d δ = some δ'∧∀ σ',SR K Γ G0 H0 G H σ' δ'→Q σ' H
def tgsD (K:PySem.W.Frag) (Γ:Nat→Option Addr) (f:List D→DSt→Option DSt):TGs:=fun vs σ H Q=>∃ G0 H0 G δ ds δ',SR K Γ G0 H0 G H σ δ∧aF K Γ G vs ds∧f ds δ = some δ'∧∀ σ',SR K Γ G0 H0 G H σ' δ'→Q σ' H
abbrev DG (X:Cx) (Γ:Nat→Option Addr) (e:Expr) (f:D→DSt→Option DSt):Prop:=PG X e (tgD X.K Γ f)
abbrev DGs (X:Cx) (Γ:Nat→Option Addr) (es:List Expr) (f:List D→DSt→Option DSt):Prop:=PGs X es (tgsD X.K Γ f)
theorem PG.imp {e:Expr} {t t':TG} (h:PG X e t) (k:∀ v σ H Q,t' v σ H Q→t v σ H Q):PG X e t':=fun pins s σ H v u Q I r q=>h pins s σ H v u Q I r (k _ _ _ _ q)
theorem PGs.imp {e:List Expr} {t t':TGs} (h:PGs X e t) (k:∀ v σ H Q,t' v σ H Q→t v σ H Q):PGs X e t':=fun pins s σ H v u Q I r q=>h pins s σ H v u Q I r (k _ _ _ _ q)
def gN (i:Nat):D→DSt→Option DSt:=fun d δ=>some (δ.set i (some (.sh d)))
theorem cO {i:Nat} {x:Str} (h:PG X (.Name x pos) (Ph i)):DG X Γ (.Name x pos) (gN i):=PG.imp h fun v σ H Q ⟨G0,H0,G,δ,d,δ',S,r,e,q⟩=>by
  cases e
  exact q _ (S.set r)
def pY:List D→DSt→Option DSt:=fun ds δ=>match ds with
  | []=>some δ
  | _=>none
def cN (f:D→DSt→Option DSt) (g:List D→DSt→Option DSt):List D→DSt→Option DSt:=fun ds δ=>match ds with
  | d :: r=>(f d δ).bind (g r)
  | []=>none
theorem Xx:DGs X Γ [] pY:=PGs.imp pgs_nil fun vs σ H Q ⟨G0,H0,G,δ,ds,δ',S,r,e,q⟩=>by
  cases r with
  | nil=>cases e; exact ⟨rfl,q _ S⟩
  | cons _ _=>cases e
theorem rD {f:D→DSt→Option DSt} {h:List D→DSt→Option DSt} (h1:DG X Γ e f) (h2:DGs X Γ es h) (hh:∀ {t:TG} {u:TGs},PG X e t→PGs X es u→PGs X (e :: es) (gCons t u)):DGs X Γ (e :: es) (cN f h):=PGs.imp (hh h1 h2) fun vs σ H Q ⟨G0,H0,G,δ,ds,δ',S,r,e,q⟩=>by
  cases r with
  | nil=>cases e
  | cons r1 r2 =>
    unfold cN at e
    obtain ⟨δ1,e1,e2⟩:=Option.bind_eq_some_iff.mp e
    exact ⟨_,_,rfl,G0,H0,G,δ,_,δ1,S,r1,e1,fun σ' S'=>⟨G0,H0,G,δ1,_,δ',S',r2,e2,q⟩⟩
def gT (n:Nat) (f:List D→DSt→Option DSt):D→DSt→Option DSt:=fun d δ=>match d with
  | .tup ds=>if ds.length = n then f ds δ else none
  | _=>none
theorem adC {f:List D→DSt→Option DSt} {n:Nat} (hh:∀ {t:TGs},PGs X es t→PG X e (gTup X.K n t)) (h:DGs X Γ es f):DG X Γ e (gT n f):=PG.imp (hh h) fun v σ H Q ⟨G0,H0,G,δ,d,δ',S,r,e,q⟩=>by
  unfold gT at e
  split at e
  · split at e
    · cases r with
      | tup h1 r1=>exact ⟨_,_,rfl,SqT.of (S.st.gh _ _ h1),by rw [r1.length]; assumption,G0,H0,G,δ,_,δ',S,r1,e,q⟩
    · cases e
  · cases e
def sAsg (f:DSt→Out D) (g:D→DSt→Option DSt):DSt→Out Fl:=fun δ=>(f δ).bind fun d=>(Out.opt (g d δ)).bind fun δ'=>.ok (.nx δ')
theorem ds_asg {tg:Expr} {f:D→DSt→Option DSt} (hh:∀ {te:TE} {g:TG},PE X e te→PG X tg g→PS X (.Assign [tg] e pos) (tAsg te g)) (he:DE X Γ E e fa) (hg:DG X Γ tg f):DS X Γ E (.Assign [tg] e pos) (sAsg fa f):=PS.imp (hh he hg) fun N σ H ⟨G0,H0,G,δ,S,w⟩=>by
  refine ⟨G0,H0,G,δ,S,(au w).mono (fun d w v G1 H1 s1 r1=>?_) fun x k=>exD.step k S.st⟩
  obtain ⟨δ',e,w⟩:=bO (au w)
  exact ⟨G0,H0,G1,δ,d,δ',S.step s1,r1,e,fun σ' S'=>w σ' G1 H1 S'⟩
def jE (i:Nat) (f:DSt→Out D):DSt→Out Fl:=fun δ=>(f δ).bind fun d=>.ok (.nx (δ.set i (some (.sh d))))
theorem fU (i:Nat) {x:Str} {pos':Pos} (hh:∀ {te:TE},PE X e te→PS X (.Assign [.Name x pos'] e pos) (tAsg te (Ph i))) (he:DE X Γ E e fa):DS X Γ E (.Assign [.Name x pos'] e pos) (jE i fa):=PS.imp (hh he) fun N σ H ⟨G0,H0,G,δ,S,w⟩ =>
  ⟨G0,H0,G,δ,S,(au w).mono (fun d w v G1 H1 s1 r1=>w _ G1 H1 ((S.step s1).set r1)) fun x k=>exD.step k S.st⟩
def kh (i:Nat) (f:DSt→Out (List D)):DSt→Out Fl:=fun δ=>(f δ).bind fun d=>.ok (.nx (δ.set i (some (.ol d))))
theorem ae2 (i:Nat) {x:Str} {pos':Pos} (hh:∀ {te:TE},PE X e te→PS X (.Assign [.Name x pos'] e pos) (tAsg te (Ph i))) (he:DF X Γ E e fr):DS X Γ E (.Assign [.Name x pos'] e pos) (kh i fr):=PS.imp (hh he) fun N σ H ⟨G0,H0,G,δ,S,w⟩ =>
  ⟨G0,H0,G,δ,S,(au w).mono (fun d w a vs G1 H1 s1 f h g r=>w _ G1 H1 (S.setl s1 f h g r)) fun x k=>exD.step k S.st⟩
def pN (i:Nat) (f:DSt→Out (List (List D))):DSt→Out Fl:=fun δ=>(f δ).bind fun d=>.ok (.nx (δ.set i (some (.oll d))))
end
end DL
namespace DL
open PySem PySem.Spec PyProof.Rows MX L2
section
variable {X:Cx} {Γ:Nat→Option Addr} {E:XK} {e a b c:Expr} {pos:Pos} {es:List Expr} {fa fb:DSt→Out D} {fr:DSt→Out (List D)} {ft:DSt→Out Bool} {st:Stmt} {rest sa sb:List Stmt} {g g':DSt→Out Fl}
def GC (i:Nat) (f:DSt→Out D):DSt→Out Fl:=fun δ=>match δ[i]? with
  | some (some (.ol ds))=>(f δ).bind fun d=>if ds.length < sizeLine then .ok (.nx (δ.set i (some (.ol (ds ++ [d]))))) else .stuck
  | _=>.stuck
theorem XC (i:Nat) {x m:Str} {p apos cpos:Pos} (hv:PE X (.Name x p) (xR i)) (he:DE X Γ E e fa) (hh:∀ {to te:TE},PE X (.Name x p) to→PE X e te→PS X (.Expr (.Call (.Attribute (.Name x p) m apos) [e] [] cpos) pos) (Ks (tBM X.K "list" M7 to (yl te DK)))) :
    DS X Γ E (.Expr (.Call (.Attribute (.Name x p) m apos) [e] [] cpos) pos) (GC i fa) :=
  PS.imp (hh hv he) fun N σ H ⟨G0,H0,G,δ,S,w⟩=>by
    obtain ⟨O,q⟩:=id S.sl
    unfold GC at w
    split at w
    · rename_i ds ei
      obtain ⟨v,hvi,h⟩:=id (q i _ ei)
      obtain ⟨aa,vs,ev,h1,h2,h3,h4,h5⟩:=h
      subst ev
      refine ⟨_,hvi,.inl ⟨rfl,vs,SqL.of h1⟩,G0,H0,G,δ,S,(au w).mono (fun d w u G1 H1 s1 r1=>?_) fun x k=>exD.step k S.st⟩
      split at w
      · rename_i hz
        have S1:=S.step s1
        have q1:∀ i s,δ[i]? = some (some s)→∃ v,σ[i]? = some (some v)∧cM X.K Γ H0 G1 H1 O i v s:=fun j y e=>by
          obtain ⟨v',z1,z2⟩:=q j y e
          exact ⟨v',z1,z2.step s1⟩
        refine ⟨aa,vs,u,rfl,rfl,s1.hh _ _ h1,by rw [h5.length]; exact hz,w σ G1 _ (S1.write q1 (s1.sep aa (by rw [h1]; exact fun z=>nomatch z) h2) h3 h4 hvi ?_)⟩
        exact ⟨aa,vs ++ [u],rfl,aL,s1.sep aa (by rw [h1]; exact fun z=>nomatch z) h2,h3,h4,(h5.mono s1.gg).append (.cons r1 .nil)⟩
      · exact False.elim w
    · exact False.elim w
def vJ (i:Nat) (f:DSt→Out (List D)):DSt→Out Fl:=fun δ=>match δ[i]? with
  | some (some (.oll dss))=>(f δ).bind fun d=>if dss.length < sizeLine then .ok (.nx (δ.set i (some (.oll (dss ++ [d]))))) else .stuck
  | some (some (.ol []))=>(f δ).bind fun d=>.ok (.nx (δ.set i (some (.oll [d]))))
  | _=>.stuck
theorem Inner.length {K:PySem.W.Frag} {H0 G H:Hp} {O:Addr→Option Nat} {i:Nat}:∀ {vs:List V} {dss:List (List D)},Inner K Γ H0 G H O i vs dss→vs.length = dss.length
  | _,_,.nil=>rfl
  | _,_,.cons h g h0 o r n t=>by rw [List.length_cons,List.length_cons,t.length]
theorem Inner.Q5 {K:PySem.W.Frag} {H0 G H:Hp} {O:Addr→Option Nat} {i:Nat} {a:Addr} {o:HO}:∀ {vs:List V} {dss:List (List D)},V.ref a ∉ vs→Inner K Γ H0 G H O i vs dss→Inner K Γ H0 G (upd H a o) O i vs dss
  | _,_,_,.nil=>.nil
  | _,_,m,.cons h g h0 oo r n t=>.cons ((aD fun z=>m (by rw [z]; exact List.mem_cons_self)).trans h) g h0 oo r n (Inner.Q5 (fun z=>m (List.mem_cons_of_mem _ z)) t)
theorem Inner.snoc {K:PySem.W.Frag} {H0 G H:Hp} {O:Addr→Option Nat} {i:Nat} {b:Addr} {ws:List V} {ds:List D} (h:H b = some (.lst ws)) (g:G b = none) (h0:H0 b = none) (o:O b = some i) (r:aF K Γ G ws ds):∀ {vs:List V} {dss:List (List D)},V.ref b ∉ vs→Inner K Γ H0 G H O i vs dss→Inner K Γ H0 G H O i (vs ++ [.ref b]) (dss ++ [ds])
  | _,_,_,.nil=>.cons h g h0 o r (by simp) .nil
  | _,_,m,.cons h' g' h0' o' r' n' t=>.cons h' g' h0' o' r' (fun z=>by
      rcases List.mem_append.mp z with z | z
      · exact n' z
      · exact m (by rw [List.mem_singleton.mp z]; exact List.mem_cons_self)) (Inner.snoc h g h0 o r (fun z=>m (List.mem_cons_of_mem _ z)) t)
theorem ds_appl (i:Nat) {x m:Str} {p apos cpos:Pos} (hv:PE X (.Name x p) (xR i)) (he:DF X Γ E e fr) (hh:∀ {to te:TE},PE X (.Name x p) to→PE X e te→PS X (.Expr (.Call (.Attribute (.Name x p) m apos) [e] [] cpos) pos) (Ks (tBM X.K "list" M7 to (yl te DK)))) :
    DS X Γ E (.Expr (.Call (.Attribute (.Name x p) m apos) [e] [] cpos) pos) (vJ i fr) :=
  PS.imp (hh hv he) fun N σ H ⟨G0,H0,G,δ,S,w⟩=>by
    obtain ⟨O,q⟩:=id S.sl
    have core:∀ (dss:List (List D)) (aa:Addr) (vs:List V),δ[i]? ≠ none→σ[i]? = some (some (.ref aa))→H aa = some (.lst vs)→G aa = none→H0 aa = none→O aa = some i→V.ref aa ∉ vs→Inner X.K Γ H0 G H O i vs dss→dss.length < sizeLine →
        wpO ((fr δ).bind fun d=>.ok (.nx (δ.set i (some (.oll (dss ++ [d])))))) (FlOk X.K Γ G0 H0 N) (exD X.K Γ E G0 H0)→Ks (tBM X.K "list" M7 (xR i) (yl (tfD X.K Γ E fr) DK)) N σ H:=by
      intro dss aa vs hδ hvi h1 h2 h3 h4 h5 h6 hz w
      refine ⟨_,hvi,.inl ⟨rfl,vs,SqL.of h1⟩,G0,H0,G,δ,S,(au w).mono (fun d w b ws G1 H1 s1 fb hb gb rb=>?_) fun x k=>exD.step k S.st⟩
      have ne:aa ≠ b:=fun z=>by rw [z,fb] at h1; cases h1
      have nm:V.ref b ∉ vs:=fun z=>by
        have:=h6.facts b z
        have st:∀ {vs:List V} {dss:List (List D)},Inner X.K Γ H0 G H O i vs dss→V.ref b ∈ vs→H b ≠ none:=by
          intro vs dss hI
          induction hI with
          | nil=>intro z; cases z
          | cons h g h0 o r n t ih =>
            intro z
            rcases List.mem_cons.mp z with z | z
            · cases z; rw [h]; exact fun q=>nomatch q
            · exact ih z
        exact st h6 z fb
      have k:∀ b',H b' ≠ none→(fun b'=>if b' = b then some i else O b') b' = O b':=fun b' hb'=>by
        have:b' ≠ b:=fun z=>hb' (z ▸ fb)
        simp [this]
      have S1:=S.step s1
      have q1:∀ j s,δ[j]? = some (some s)→∃ v,σ[j]? = some (some v)∧cM X.K Γ H0 G1 H1 (fun b'=>if b' = b then some i else O b') j v s:=fun j y e=>by
        obtain ⟨v',z1,z2⟩:=q j y e
        exact ⟨v',z1,(z2.reO k).step s1⟩
      have ga:G1 aa = none:=s1.sep aa (by rw [h1]; exact fun z=>nomatch z) h2
      refine ⟨aa,vs,.ref b,rfl,rfl,s1.hh _ _ h1,by rw [h6.length]; exact hz,w σ G1 _ (S1.write q1 ga h3 (by simp [ne,h4]) hvi ?_)⟩
      refine ⟨aa,vs ++ [.ref b],rfl,aL,ga,h3,by simp [ne,h4],fun z=>?_,?_⟩
      · rcases List.mem_append.mp z with z | z
        · exact h5 z
        · have z:V.ref aa = V.ref b:=by simpa using z
          cases z
          exact ne rfl
      · exact Inner.snoc ((aD (Ne.symm ne)).trans hb) gb (aG S.st.hh fb) (by simp) rb nm (Inner.Q5 h5 ((h6.reO k).step s1))
    unfold vJ at w
    split at w
    · rename_i dss ei
      obtain ⟨v,hvi,aa,vs,ev,h1,h2,h3,h4,h5,h6⟩:=id (q i _ ei)
      subst ev
      by_cases hz:dss.length < sizeLine
      · refine core dss aa vs (by rw [ei]; exact fun z=>nomatch z) hvi h1 h2 h3 h4 h5 h6 hz ?_
        have e2:((fr δ).bind fun d=>if dss.length < sizeLine then Out.ok (Fl.nx (δ.set i (some (.oll (dss ++ [d]))))) else .stuck) = (fr δ).bind fun d=>.ok (.nx (δ.set i (some (.oll (dss ++ [d]))))):=by
          congr 1; funext d; rw [if_pos hz]
        rw [e2] at w
        exact w
      · refine ⟨_,hvi,.inl ⟨rfl,vs,SqL.of h1⟩,G0,H0,G,δ,S,(au w).mono (fun d w b ws G1 H1 s1 fb hb gb rb=>?_) fun x k=>exD.step k S.st⟩
        rw [if_neg hz] at w
        exact False.elim w
    · rename_i ei
      obtain ⟨v,hvi,aa,vs,ev,h1,h2,h3,h4,h5⟩:=id (q i _ ei)
      subst ev
      cases h5
      exact core [] aa [] (by rw [ei]; exact fun z=>nomatch z) hvi h1 h2 h3 h4 (by simp) .nil (by decide) w
    · exact False.elim w
def sExt (i:Nat) (f:DSt→Out D):DSt→Out Fl:=fun δ=>match δ[i]? with
  | some (some (.ol ds))=>(f δ).bind fun d=>match d with
    | .lst zs=>if ds.length + zs.length ≤ sizeLine then .ok (.nx (δ.set i (some (.ol (ds ++ zs))))) else .stuck
    | _=>.stuck
  | _=>.stuck
def sClr (i:Nat):DSt→Out Fl:=fun δ=>match δ[i]? with
  | some (some (.ol _))=>.ok (.nx (δ.set i (some (.ol []))))
  | some (some (.oll _))=>.ok (.nx (δ.set i (some (.ol []))))
  | _=>.stuck
theorem Inner.at {K:PySem.W.Frag} {H0 G H:Hp} {O:Addr→Option Nat} {i:Nat}:∀ {vs:List V} {dss:List (List D)} {j:Nat} {ds:List D},Inner K Γ H0 G H O i vs dss→dss[j]? = some ds→∃ b ws,vs[j]? = some (.ref b)∧H b = some (.lst ws)∧G b = none∧H0 b = none∧O b = some i∧aF K Γ G ws ds
  | _,_,_,_,.nil,e=>by simp at e
  | _,_,0,_,.cons h g h0 o r n t,e=>by simp at e; subst e; exact ⟨_,_,rfl,h,g,h0,o,r⟩
  | _,_,j + 1,_,.cons h g h0 o r n t,e=>by
    obtain ⟨b,ws,z1,z⟩:=Inner.at (j:=j) t (by simpa using e)
    exact ⟨b,ws,by simpa using z1,z⟩
theorem Inner.put {K:PySem.W.Frag} {H0 G H:Hp} {O:Addr→Option Nat} {i:Nat} {b:Addr} {ws:List V} {ds:List D} (r:aF K Γ G ws ds):∀ {vs:List V} {dss:List (List D)} {j:Nat},Inner K Γ H0 G H O i vs dss→vs[j]? = some (.ref b)→Inner K Γ H0 G (upd H b (.lst ws)) O i vs (dss.set j ds)
  | _,_,_,.nil,e=>by simp at e
  | _,_,0,.cons h g h0 o r' n t,e=>by
    simp at e
    subst e
    exact .cons aL g h0 o r n (Inner.Q5 n t)
  | _,_,j + 1,.cons (b:=b') (vs:=vs') h g h0 o r' n t,e=>by
    have e':vs'[j]? = some (V.ref b):=by simpa using e
    have ne:b' ≠ b:=fun z=>n (by rw [z]; exact List.mem_of_getElem? e')
    exact .cons ((aD ne).trans h) g h0 o r' n (Inner.put (j:=j) r t e')
def VD (i:Nat) (fk:DSt→Out D):DSt→Out Fl:=fun δ=>match δ[i]? with
  | some (some (.oll dss))=>(fk δ).bind fun k=>match k with
    | .int k=>match ixN dss.length k with
      | some j=>.ok (.nx (δ.set i (some (.oll (dss.set j [])))))
      | none=>.stuck
    | _=>.stuck
  | _=>.stuck
theorem ixN_lt {n:Nat} {i:Int} {j:Nat} (h:ixN n i = some j):j < n:=(Ys h).2.1
def sPut (i:Nat) (fe fk:DSt→Out D):DSt→Out Fl:=fun δ=>(fe δ).bind fun d=>match δ[i]? with
  | some (some (.ol ds))=>(fk δ).bind fun k=>match k with
    | .int k=>match ixN ds.length k with
      | some j=>.ok (.nx (δ.set i (some (.ol (ds.set j d)))))
      | none=>.stuck
    | _=>.stuck
  | _=>.stuck
def yh (i:Nat) (fe fk fl:DSt→Out D):DSt→Out Fl:=fun δ=>(fe δ).bind fun d=>match δ[i]? with
  | some (some (.oll dss))=>(fk δ).bind fun k=>match k with
    | .int k=>match ixN dss.length k with
      | some j=>(fl δ).bind fun l=>match l with
        | .int l=>match ixN (dss.getD j []).length l with
          | some m=>.ok (.nx (δ.set i (some (.oll (dss.set j ((dss.getD j []).set m d))))))
          | none=>.stuck
        | _=>.stuck
      | none=>.stuck
    | _=>.stuck
  | _=>.stuck
theorem XD (i:Nat) {x:Str} {p p2 p3:Pos} {fc:DSt→Out D} (hv:PE X (.Name x p) (xR i)) (he:DE X Γ E e fa) (hb:DE X Γ E b fb) (hc:DE X Γ E c fc) (hh:∀ {te to ti:TE},PE X e te→PE X (.Subscript (.Name x p) b p3) to→PE X c ti→PS X (.Assign [.Subscript (.Subscript (.Name x p) b p3) c p2] e pos) (tAsg te (gSub to ti rSetL))) (hs:Ae b:=by exact fun _ _=>rfl) :
    DS X Γ E (.Assign [.Subscript (.Subscript (.Name x p) b p3) c p2] e pos) (yh i fa fb fc) :=
  PS.imp (hh he (acg M5 hv hb hs) hc) fun N σ H ⟨G0,H0,G,δ,S,w⟩=>by
    refine ⟨G0,H0,G,δ,S,(au w).mono (fun d w u G1 H1 s1 r1=>?_) fun x k=>exD.step k S.st⟩
    have S1:=S.step s1
    obtain ⟨O,q⟩:=id S1.sl
    split at w
    · rename_i dss ei
      obtain ⟨v,hvi,aa,vs,ev,h1,h2,h3,h4,h5,h6⟩:=id (q i _ ei)
      subst ev
      refine ⟨_,hvi,G0,H0,G1,δ,S1,(au w).mono (fun d2 w u2 G2 H2 s2 r2=>?_) fun x k=>exD.step k S1.st⟩
      split at w
      · rename_i k
        split at w
        · rename_i j hj
          cases r2
          have S2:=S1.step s2
          have lt:=ixN_lt hj
          have I6:=h6.step s2
          obtain ⟨bb,ws,z1,z2,z3,z4,z5,z6⟩:=I6.at (j:=j) (ds:=dss[j]) (by simp [lt])
          have gd:dss.getD j [] = dss[j]:=by simp [lt]
          refine ⟨aa,vs,k,.ref bb,rfl,rfl,SqL.of (s2.hh _ _ h1),by unfold atI; rw [h6.length,hj]; exact z1,G0,H0,G2,δ,S2,(au w).mono (fun d3 w u3 G3 H3 s3 r3=>?_) fun x k=>exD.step k S2.st⟩
          split at w
          · rename_i l
            split at w
            · rename_i m hm
              cases r3
              have S3:=S2.step s3
              have I7:=I6.step s3
              have q1:∀ i s,δ[i]? = some (some s)→∃ v,σ[i]? = some (some v)∧cM X.K Γ H0 G3 H3 O i v s:=fun j y e=>by
                obtain ⟨v',z1,z2⟩:=q j y e
                exact ⟨v',z1,(z2.step s2).step s3⟩
              have ga:G3 aa = none:=s3.sep aa (by rw [s2.hh _ _ h1]; exact fun z=>nomatch z) (s2.sep aa (by rw [h1]; exact fun z=>nomatch z) h2)
              have gb:G3 bb = none:=s3.sep bb (by rw [z2]; exact fun z=>nomatch z) z3
              have ne:aa ≠ bb:=fun z=>h5 (by rw [z]; exact List.mem_of_getElem? z1)
              rw [gd] at hm w
              refine ⟨bb,ws,l,m,rfl,rfl,s3.hh _ _ z2,by rw [z6.length]; exact hm,w σ G3 _ (S3.write q1 gb z4 z5 hvi ?_)⟩
              exact ⟨aa,vs,rfl,(aD ne).trans (s3.hh _ _ (s2.hh _ _ h1)),ga,h3,h4,h5,I7.put (aF.set (r1.mono (s2.trans s3).gg) m (z6.mono s3.gg)) z1⟩
            · exact False.elim w
          · exact False.elim w
        · exact False.elim w
      · exact False.elim w
    · exact False.elim w
structure Yl (K:PySem.W.Frag) (Γ:Nat→Option Addr) (G1:Hp) (J:It) (ds:List D):Prop where
  go:∀ i H,bC G1 H→i < ds.length→J.go i H
  yld:∀ i G H x H' d,bC G1 G→bC G H→J.yld i H x H'→ds[i]? = some d→∃ G',Step G H G' H'∧Rep K Γ G' x d
  stop:∀ i H,bC G1 H→ds.length ≤ i→J.stop i H
def tiD (K:PySem.W.Frag) (Γ:Nat→Option Addr) (E:XK) (f:DSt→Out (List D)):TI:=fun σ H R=>∃ G0 H0 G δ,SR K Γ G0 H0 G H σ δ∧wpO (f δ) (fun ds=>∀ J G' H',Step G H G' H'→Yl K Γ G' J ds→R J H') (exD K Γ E G H)
abbrev DI (X:Cx) (Γ:Nat→Option Addr) (E:XK) (tg iter:Expr) (f:DSt→Out (List D)):Prop:=PI X tg iter (tiD X.K Γ E f)
theorem PI.imp {tg iter:Expr} {t t':TI} (h:PI X tg iter t) (k:∀ σ H R,t' σ H R→t σ H R):PI X tg iter t':=fun pins s σ H R I q=>h pins s σ H R I (k _ _ _ q)
theorem afo {K:PySem.W.Frag} {G:Hp} {a:Addr} {vs:List V} {ds:List D} (h:SqL K G a vs) (r:aF K Γ G vs ds):Yl K Γ G (Itl K a) ds:=by
  refine ⟨fun i H s lt=>?_,fun i G' H x H' d s s' y e=>?_,fun i H s le=>⟨vs,s.seq h,by rw [r.length]; exact le⟩⟩
  · obtain ⟨v,e,_⟩:=r.get (i:=i) (d:=ds[i]) (by simp [lt])
    exact ⟨vs,v,s.seq h,e⟩
  · obtain ⟨rfl,y⟩:=y
    obtain ⟨v,e1,e2⟩:=r.get e
    have:=y vs ((s.trans s').seq h)
    rw [e1] at this
    cases this
    exact ⟨G',.refl s',e2.mono s⟩
theorem yl_tup {K:PySem.W.Frag} {G:Hp} {a:Addr} {vs:List V} {ds:List D} (h:SqT K G a vs) (r:aF K Γ G vs ds):Yl K Γ G (Itt K a) ds:=by
  refine ⟨fun i H s lt=>?_,fun i G' H x H' d s s' y e=>?_,fun i H s le=>⟨vs,SqT.same s h,by rw [r.length]; exact le⟩⟩
  · obtain ⟨v,e,_⟩:=r.get (i:=i) (d:=ds[i]) (by simp [lt])
    exact ⟨vs,v,SqT.same s h,e⟩
  · obtain ⟨rfl,y⟩:=y
    obtain ⟨v,e1,e2⟩:=r.get e
    have:=y vs (SqT.same (s.trans s') h)
    rw [e1] at this
    cases this
    exact ⟨G',.refl s',e2.mono s⟩
theorem pi_or {tg iter:Expr} {w w':TI} (h:PI X tg iter w) (h':PI X tg iter w'):PI X tg iter (fun σ H R=>w σ H R ∨ w' σ H R):=fun pins s σ H R I q=>by
  rcases q with q | q
  · exact h pins s σ H R I q
  · exact h' pins s σ H R I q
theorem zc {tg:Expr} (ha:DE X Γ E a fa):DI X Γ E tg a (jZ fa):=PI.imp (pi_or (pi_list ha) (pi_tup ha)) fun σ H R ⟨G0,H0,G,δ,S,w⟩=>by
  unfold jZ at w
  cases h:fa δ with
  | stuck=>rw [h] at w; exact False.elim w
  | ex x=>rw [h] at w; exact .inl ⟨G0,H0,G,δ,S,by rw [h]; exact w⟩
  | ok d =>
    rw [h] at w
    obtain ⟨ds,e,k⟩:=bO w
    cases d <;> simp only [JQ] at e <;> cases e
    · refine .inl ⟨G0,H0,G,δ,S,?_⟩
      rw [h]
      intro v G1 H1 s1 r1
      cases r1 with
      | lst h r=>exact ⟨_,rfl,⟨_,SqL.of (s1.gh _ _ h)⟩,k _ G1 H1 s1 (afo (SqL.of h) r)⟩
    · refine .inr ⟨G0,H0,G,δ,S,?_⟩
      rw [h]
      intro v G1 H1 s1 r1
      cases r1 with
      | tup h r=>exact ⟨_,rfl,⟨_,SqT.of (s1.gh _ _ h)⟩,k _ G1 H1 s1 (yl_tup (SqT.of h) r)⟩
    · refine .inl ⟨G0,H0,G,δ,S,?_⟩
      rw [h]
      intro v G1 H1 s1 r1
      cases r1 with
      | rol h r=>exact ⟨_,rfl,⟨_,s1.gh.seq h⟩,k _ G1 H1 s1 (afo h r)⟩
    · refine .inr ⟨G0,H0,G,δ,S,?_⟩
      rw [h]
      intro v G1 H1 s1 r1
      cases r1 with
      | rot h r=>exact ⟨_,rfl,⟨_,SqT.same s1.gh h⟩,k _ G1 H1 s1 (yl_tup h r)⟩
def rngL (lo:Int) (n:Nat):List D:=(List.range n).map fun i=>.int (lo + (i:Nat))
theorem yl_rng {K:PySem.W.Frag} {G:Hp} {lo:Int} {n:Nat}:Yl K Γ G (Itr lo n) (rngL lo n):=by
  have hl:(rngL lo n).length = n:=by simp [rngL]
  refine ⟨fun i H s lt=>by rw [hl] at lt; exact lt,fun i G' H x H' d s s' y e=>?_,fun i H s le=>by rw [hl] at le; exact le⟩
  obtain ⟨rfl,rfl⟩:=y
  unfold rngL at e
  rw [List.getElem?_map] at e
  obtain ⟨j,e1,e2⟩:=Option.map_eq_some_iff.mp e
  obtain ⟨lt,e3⟩:=List.getElem?_eq_some_iff.mp e1
  rw [List.getElem_range] at e3
  subst e2 e3
  exact ⟨G',.refl s',.int _⟩
def Gz (f:DSt→Out D):DSt→Out (List D):=fun δ=>(f δ).bind fun d=>match d with
  | .int j=>if -(2 ^ 62) ≤ j∧j < 2 ^ 62 then .ok (rngL 0 j.toNat) else .stuck
  | _=>.stuck
theorem qx {tg:Expr} {p:Pos} (hg:Gl X "range") (hm:X.mg "range" = none) (ha:DE X Γ E a fa) (hs:starEach [a] X.env = [(false,eval a X.env)]:=by rfl):DI X Γ E tg (.Call (.Name "range" p) [a] [] pos) (Gz fa) :=
  PI.imp (afV hg hm (cg ha gU (by rw [hs]; rfl)) hs) fun σ H R ⟨G0,H0,G,δ,S,w⟩=>by
    refine ⟨G0,H0,G,δ,S,(au w).mono (fun d w v G1 H1 s1 r1=>?_) fun _ k=>k⟩
    split at w
    · split at w
      · rename_i h; cases r1; exact ⟨_,rfl,h.1,h.2,w _ G1 H1 s1 yl_rng⟩
      · exact False.elim w
    · exact False.elim w
def tG:Nat→List D→List D
  | _,[]=>[]
  | n,d :: ds=>.tup [.int n,d] :: tG (n + 1) ds
theorem Vk:∀ (ds:List D) (n i:Nat),(tG n ds)[i]? = (ds[i]?).map fun d=>.tup [.int ((n + i:Nat):Int),d]
  | [],n,i=>by simp [tG]
  | d :: ds,n,0=>by simp [tG]
  | d :: ds,n,i + 1=>by
    have:=Vk ds (n + 1) i
    simp only [tG,List.getElem?_cons_succ]
    rw [this]
    congr 1
    funext d
    congr 2
    simp only [List.cons.injEq,D.int.injEq,and_true]
    omega
theorem Vl (ds:List D):∀ n,(tG n ds).length = ds.length:=by
  induction ds with
  | nil=>intro n; rfl
  | cons d ds ih=>intro n; simp [tG,ih]
theorem afn {K:PySem.W.Frag} {G:Hp} {a:Addr} {vs:List V} {ds:List D} (h:SqL K G a vs) (r:aF K Γ G vs ds):Yl K Γ G (Ite K a) (tG 0 ds):=by
  refine ⟨fun i H s lt=>?_,fun i G' H x H' d s s' y e=>?_,fun i H s le=>⟨vs,s.seq h,by rw [Vl] at le; rw [r.length]; exact le⟩⟩
  · rw [Vl] at lt
    obtain ⟨v,e,_⟩:=r.get (i:=i) (d:=ds[i]) (by simp [lt])
    exact ⟨vs,v,s.seq h,e⟩
  · obtain ⟨p,x0,rfl,hp,rfl,y⟩:=y
    rw [Vk] at e
    obtain ⟨d0,e0,rfl⟩:=Option.map_eq_some_iff.mp e
    obtain ⟨v,e1,e2⟩:=r.get e0
    have:=y vs ((s.trans s').seq h)
    rw [e1] at this
    cases this
    refine ⟨_,.new s' hp,.tup aL (.cons ?_ (.cons ((e2.mono s).mono (bC.up (aG s' hp))) .nil))⟩
    rw [Nat.zero_add]
    exact .int _
def vo:D→Option (List D)
  | .lst xs=>some xs
  | .rol xs=>some xs
  | _=>none
def enum (f:DSt→Out D):DSt→Out (List D):=fun δ=>(f δ).bind fun d=>(Out.opt (vo d)).bind fun ds=>.ok (tG 0 ds)
theorem aeY {es':List Expr} {kk:Nat} {tp p:Pos} (hg:Gl X "enumerate") (hm:X.mg "enumerate" = none) (ha:DE X Γ E a fa) (hs:starEach [a] X.env = [(false,eval a X.env)]:=by rfl):DI X Γ E (.Tuple es' kk tp) (.Call (.Name "enumerate" p) [a] [] pos) (enum fa) :=
  PI.imp (pi_enum hg hm (cg ha gU (by rw [hs]; rfl)) hs) fun σ H R ⟨G0,H0,G,δ,S,w⟩=>by
    refine ⟨G0,H0,G,δ,S,(au w).mono (fun d w v G1 H1 s1 r1=>?_) fun _ k=>k⟩
    obtain ⟨ds,e,w⟩:=bO (au w)
    unfold vo at e
    split at e
    · cases e
      cases r1 with
      | lst h r=>exact ⟨_,rfl,⟨_,SqL.of (s1.gh _ _ h)⟩,w _ G1 H1 s1 (afn (SqL.of h) r)⟩
    · cases e
      cases r1 with
      | rol h r=>exact ⟨_,rfl,⟨_,s1.gh.seq h⟩,w _ G1 H1 s1 (afn h r)⟩
    · cases e
def O9 (tg:D→DSt→Option DSt) (body:DSt→Out Fl):List D→DSt→Out Fl
  | [],δ=>.ok (.nx δ)
  | d :: ds,δ=>(Out.opt (tg d δ)).bind fun δ1=>(body δ1).bind fun fl=>match fl with
    | .nx δ2=>O9 tg body ds δ2
    | .ct δ2=>O9 tg body ds δ2
    | .bk δ2=>.ok (.nx δ2)
    | fl=>.ok fl
def xO (fi:DSt→Out (List D)) (tg:D→DSt→Option DSt) (body:DSt→Out Fl):DSt→Out Fl:=fun δ=>(fi δ).bind fun ds=>O9 tg body ds δ
def un2 (H0 G1:Hp):Hp:=fun b=>match H0 b with
  | some o=>some o
  | none=>G1 b
theorem sJ {H0 G1:Hp} {b:Addr}:un2 H0 G1 b = none ↔ H0 b = none∧G1 b = none:=by
  unfold un2
  cases h:H0 b <;> simp
theorem un2_some {H0 G1:Hp} {b:Addr} {o:HO} (h:un2 H0 G1 b = some o):H0 b = some o ∨ G1 b = some o:=by
  unfold un2 at h
  cases h0:H0 b with
  | none=>rw [h0] at h; exact .inr h
  | some u=>rw [h0] at h; exact .inl h
theorem Inner.reH {K:PySem.W.Frag} {H0 H0' G H:Hp} {O:Addr→Option Nat} {i:Nat} (k:∀ b,H0 b = none→G b = none→H0' b = none):∀ {vs:List V} {dss:List (List D)},Inner K Γ H0 G H O i vs dss→Inner K Γ H0' G H O i vs dss
  | _,_,.nil=>.nil
  | _,_,.cons h g h0 o r n t=>.cons h g (k _ h0 g) o r n (Inner.reH k t)
theorem aV.reH {K:PySem.W.Frag} {H0 H0' G H:Hp} {O:Addr→Option Nat} {i:Nat} (k:∀ b,H0 b = none→G b = none→H0' b = none):∀ {vs:List V} {es:List Mx} {bs:List Addr},aV K Γ H0 G H O i vs es bs→aV K Γ H0' G H O i vs es bs
  | _,_,_,.nil=>.nil
  | _,_,_,.own h g h0 o r n t=>.own h g (k _ h0 g) o r n (aV.reH k t)
  | _,_,_,.fix r t=>.fix r (aV.reH k t)
theorem cM.reH {K:PySem.W.Frag} {H0 H0' G H:Hp} {O:Addr→Option Nat} {i:Nat} {v:V} {x:Sl} (h:cM K Γ H0 G H O i v x) (k:∀ b,H0 b = none→G b = none→H0' b = none):cM K Γ H0' G H O i v x:=by
  cases x with
  | sh d=>exact h
  | ol ds=>obtain ⟨a,vs,e,h1,h2,h3,h4,h5⟩:=h; exact ⟨a,vs,e,h1,h2,k _ h3 h2,h4,h5⟩
  | oll ds=>obtain ⟨a,vs,e,h1,h2,h3,h4,h5,h6⟩:=h; exact ⟨a,vs,e,h1,h2,k _ h3 h2,h4,h5,h6.reH k⟩
  | od ds=>obtain ⟨a,vs,e,h1,h2,h3,h4,h5⟩:=h; exact ⟨a,vs,e,h1,h2,k _ h3 h2,h4,h5⟩
  | odT ds=>obtain ⟨a,vs,e,h1,h2,h3,h4,h5⟩:=h; exact ⟨a,vs,e,h1,h2,k _ h3 h2,h4,h5⟩
  | omx ds=>obtain ⟨a,vs,bs,e,h1,h2,h3,h4,h5,h6⟩:=h; exact ⟨a,vs,bs,e,h1,h2,k _ h3 h2,h4,h5,h6.reH k⟩
theorem SR.later {K:PySem.W.Frag} {G0 H0 G1 H1 G H:Hp} {σ:L2.St} {δ:DSt} (s1:Step G0 H0 G1 H1) (S:SR K Γ G0 H0 G H σ δ) (s:bC G1 G):SR K Γ G1 (un2 H0 G1) G H σ δ:=by
  refine ⟨⟨s,fun b o e=>?_,S.st.gh,fun b hb g=>?_⟩,S.len,?_⟩
  · rcases un2_some e with e | e
    · exact S.st.hh _ _ e
    · exact S.st.gh _ _ (s _ _ e)
  · have h0:H0 b ≠ none:=fun z=>hb (sJ.mpr ⟨z,g⟩)
    exact S.st.sep b h0 (s1.gg.free g)
  · obtain ⟨O,q⟩:=S.sl
    refine ⟨O,fun i x e=>?_⟩
    obtain ⟨v,h1,h2⟩:=q i x e
    exact ⟨v,h1,h2.reH fun b z g=>sJ.mpr ⟨z,s.free g⟩⟩
theorem Step.back {G0 H0 G1 H1 G H:Hp} (s1:Step G0 H0 G1 H1) (s:Step G1 (un2 H0 G1) G H):Step G0 H0 G H :=
  ⟨s1.gg.trans s.gg,fun b o e=>s.hh _ _ (by unfold un2; rw [e]),s.gh,fun b hb g=>s.sep b (fun z=>hb (sJ.mp z).1) (s1.sep b hb g)⟩
theorem SR.back {K:PySem.W.Frag} {G0 H0 G1 H1 G H:Hp} {σ:L2.St} {δ:DSt} (s1:Step G0 H0 G1 H1) (S:SR K Γ G1 (un2 H0 G1) G H σ δ):SR K Γ G0 H0 G H σ δ:=by
  refine ⟨s1.back S.st,S.len,?_⟩
  obtain ⟨O,q⟩:=S.sl
  refine ⟨O,fun i x e=>?_⟩
  obtain ⟨v,h1,h2⟩:=q i x e
  exact ⟨v,h1,h2.reH fun b z _=>(sJ.mp z).1⟩
theorem HR {tg iter:Expr} {body:List Stmt} {fi:DSt→Out (List D)} {t:D→DSt→Option DSt} (hh:∀ {wi:TI} {g:TG} {tb:TS},PI X tg iter wi→PG X tg g→PSs X body tb→PS X (.For tg iter body [] pos) (tFor wi g tb)) (hi:DI X Γ E tg iter fi) (hg:DG X Γ tg t) (hb:DSs X Γ E body g) :
    DS X Γ E (.For tg iter body [] pos) (xO fi t g):=PS.imp (hh hi hg hb) fun N σ H ⟨G0,H0,G,δ,S,w⟩=>by
  refine ⟨G0,H0,G,δ,S,(au w).mono (fun ds w J G1 H1 s1 Y=>?_) fun x k=>exD.step k S.st⟩
  have sb:Step G0 H0 G1 H1:=S.st.trans s1
  refine ⟨fun i m σ H=>∃ G δ,SR X.K Γ G0 H0 G H σ δ∧bC G1 G∧m = ds.length - i∧i ≤ ds.length∧wpO (O9 t g (ds.drop i) δ) (FlOk X.K Γ G0 H0 N) (exD X.K Γ E G0 H0),⟨_,G1,δ,S.step s1,bC.refl _,rfl,Nat.zero_le _,w⟩,?_⟩
  rintro i m σ H ⟨G2,δ2,S2,s2,rfl,hi,w⟩
  by_cases lt:i < ds.length
  · refine .inr ⟨Y.go i H (s2.trans S2.st.gh) lt,fun σ' H'=>∃ G δ,SR X.K Γ G0 H0 G H' σ' δ∧bC G1 G∧wpO (O9 t g (ds.drop (i + 1)) δ) (FlOk X.K Γ G0 H0 N) (exD X.K Γ E G0 H0),fun σ' H' ⟨G',δ',a1,a2,a3⟩=>⟨ds.length - (i + 1),by omega,G',δ',a1,a2,rfl,lt,a3⟩,fun x H' y=>?_⟩
    obtain ⟨G3,s3,r3⟩:=Y.yld i G2 H x H' ds[i] s2 S2.st.gh y (by simp [lt])
    rw [List.drop_eq_getElem_cons lt] at w
    obtain ⟨δ3,e3,w⟩:=bO (au w)
    have S3:=(S2.step s3).later sb (s2.trans s3.gg)
    refine ⟨G1,un2 H0 G1,G3,δ2,ds[i],δ3,S3,r3,e3,fun σ4 S4=>?_⟩
    refine ⟨G1,un2 H0 G1,G3,δ3,S4,(au w).mono (fun fl w=>?_) fun x k a G' H' s' r'=>k a G' H' (sb.back s') r'⟩
    cases fl with
    | nx δ'=>exact fun σ' G' H' S'=>⟨G',δ',S'.back sb,S'.st.gg,w⟩
    | ct δ'=>exact fun σ' G' H' S'=>⟨G',δ',S'.back sb,S'.st.gg,w⟩
    | bk δ'=>exact fun σ' G' H' S'=>w σ' G' H' (S'.back sb)
    | rt d=>exact fun v G' H' s' r'=>w v G' H' (sb.back s') r'
    | rl d=>exact fun a vs G' H' s' f h g r=>w a vs G' H' (sb.back s') (sJ.mp f).1 h g r
    | rll d=>exact fun a vs G' H' s' f h g n r=>w a vs G' H' (sb.back s') (sJ.mp f).1 h g n (r.reF fun b z=>(sJ.mp z).1)
  · obtain rfl:i = ds.length:=by omega
    rw [List.drop_length] at w
    exact .inl ⟨Y.stop _ H (s2.trans S2.st.gh) (Nat.le_refl _),w σ G2 H S2⟩
def capD (cap:List (Option Nat)) (δ:DSt):DSt:=cap.map fun o=>match o with
  | none=>none
  | some j=>match δ[j]? with
    | some (some (.sh d))=>some (.sh d)
    | _=>none
def Od {α:Type} (tg:D→DSt→Option DSt) (t:DSt→Out Bool) (fe:DSt→Out α):List D→DSt→Out (List α)
  | [],_=>.ok []
  | d :: ds,δ=>(Out.opt (tg d δ)).bind fun δ1=>(t δ1).bL.bind fun k=>if k = true then (fe δ1).bL.bind fun y=>(Od tg t fe ds δ1).bind fun ys=>.ok (y :: ys) else Od tg t fe ds δ1
def jJ {α:Type} (cap:List (Option Nat)) (fi:DSt→Out (List D)) (tg:D→DSt→Option DSt) (t:DSt→Out Bool) (fe:DSt→Out α):DSt→Out (List α):=fun δ=>(fi δ).bind fun ds=>if ds.length < sizeLine then Od tg t fe ds (capD cap δ) else .stuck
abbrev DTs (X:Cx) (Γ:Nat→Option Addr) (E:XK) (ifs:List Expr) (f:DSt→Out Bool):Prop:=Nt X ifs (ttD X.K Γ E f)
theorem lR:DTs X Γ E [] (fun _=>.ok true):=fun pins s σ H Q I ⟨G0,H0,G,δ,S,w⟩=>pf_nil pins s σ H Q I (w G H (.refl S.st.gh))
theorem SR.cap {K:PySem.W.Frag} {G0 H0 G H:Hp} {σ:L2.St} {δ:DSt} (S:SR K Γ G0 H0 G H σ δ) (cap:List (Option Nat)):SR K Γ G H G H (capS cap σ) (capD cap δ):=by
  refine ⟨.refl S.st.gh,by simp [capS,capD],fun _=>none,fun i x e=>?_⟩
  obtain ⟨O,q⟩:=S.sl
  unfold capD at e
  rw [List.getElem?_map] at e
  obtain ⟨o,e1,e2⟩:=Option.map_eq_some_iff.mp e
  cases o with
  | none=>cases e2
  | some j =>
    dsimp only at e2
    split at e2
    · rename_i d ej
      cases e2
      obtain ⟨v,h1,h2⟩:=q j _ ej
      exact ⟨v,by unfold capS; rw [List.getElem?_map,e1]; simp [h1],h2⟩
    · cases e2
def UG (δ:DSt):Prop:=∀ (i:Nat) x,δ[i]? = some (some x)→∃ d,x = .sh d
def ShT (t:D→DSt→Option DSt):Prop:=∀ d δ δ',t d δ = some δ'→UG δ→UG δ'
theorem sh_cap (cap:List (Option Nat)) (δ:DSt):UG (capD cap δ):=fun i x e=>by
  unfold capD at e
  rw [List.getElem?_map] at e
  obtain ⟨o,e1,e2⟩:=Option.map_eq_some_iff.mp e
  cases o with
  | none=>cases e2
  | some j =>
    dsimp only at e2
    split at e2
    · cases e2; exact ⟨_,rfl⟩
    · cases e2
theorem QV (i:Nat):ShT (gN i):=fun d δ δ' e h j x ej=>by
  cases e
  rw [List.getElem?_set] at ej
  split at ej
  · split at ej
    · cases ej; exact ⟨_,rfl⟩
    · cases ej
  · exact h j x ej
theorem SR.beside {K:PySem.W.Frag} {G0 H0 G H:Hp} {σ:L2.St} {δ:DSt} (S:SR K Γ G0 H0 G H σ δ) (sh:UG δ) {a:Addr} {o:HO} (g:G a = none) (h0:H0 a = none):SR K Γ G0 H0 G (upd H a o) σ δ:=by
  have sx:=S.st
  refine ⟨⟨sx.gg,fun b u e=>by rw [aD (aQ e h0)]; exact sx.hh _ _ e,fun b u e=>by rw [aD (aQ e g)]; exact sx.gh _ _ e,sx.sep⟩,S.len,?_⟩
  obtain ⟨O,q⟩:=S.sl
  refine ⟨O,fun i x e=>?_⟩
  obtain ⟨d,rfl⟩:=sh i x e
  exact q i _ e
theorem abK {cap:List (Option Nat)} {fi:DSt→Out (List D)} {t:D→DSt→Option DSt} {ft:DSt→Out Bool} {fe:DSt→Out D} (sh:ShT t) (σ:L2.St) (H:Hp) (Q:VK):tfD X.K Γ E (jJ cap fi t ft fe) σ H Q→Kr cap (tiD X.K Γ E fi) (tgD X.K Γ t) (ttD X.K Γ E0 ft) (teD X.K Γ E0 fe) σ H Q:=fun ⟨G0,H0,G,δ,S,w⟩=>by
  refine ⟨G0,H0,G,δ,S,(au w).mono (fun ds w J G1 H1 s1 Y=>?_) fun x k=>k⟩
  by_cases hz:ds.length < sizeLine
  · rw [if_pos hz] at w
    intro acc hacc
    have Sc:=(S.step s1).cap cap
    refine ⟨fun i m ys τ H=>∃ G δ done,Step G1 H1 G H∧SR X.K Γ G1 H1 G H τ δ∧UG δ∧H acc = some (.lst ys)∧G acc = none∧aF X.K Γ G ys done∧m = ds.length - i∧i ≤ ds.length∧ys.length ≤ i ∧
      wpO (Od t ft fe (ds.drop i) δ) (fun rest=>∀ G' H' vs,Step G1 H1 G' H'→H' acc = some (.lst vs)→G' acc = none→aF X.K Γ G' vs (done ++ rest)→Q (.ref acc) H') (fun _=>True),?_,?_⟩
    · have g1:G1 acc = none:=aG s1.gh hacc
      have st:=Step.aside s1.gh (o:=.lst []) hacc
      refine ⟨_,G1,_,[],st,Sc.step st,sh_cap _ _,aL,g1,.nil,rfl,Nat.zero_le _,Nat.le_refl _,w.mono (fun rest k G' H' vs s' h' g' r'=>k acc vs G' H' (s1.trans s') (aG s1.hh hacc) h' g' r') fun _ _=>trivial⟩
    · rintro i m ys τ H ⟨G2,δ2,done,st,S2,sh2,h2,g2,r2,rfl,hi,hl,w⟩
      refine ⟨h2,Nat.lt_of_le_of_lt (Nat.le_trans hl hi) hz,?_⟩
      by_cases lt:i < ds.length
      · refine .inr ⟨Y.go i H (st.gg.trans st.gh) lt,fun x H' y=>?_⟩
        obtain ⟨G3,s3,r3⟩:=Y.yld i G2 H x H' ds[i] st.gg st.gh y (by simp [lt])
        rw [List.drop_eq_getElem_cons lt] at w
        obtain ⟨δ3,e3,w⟩:=bO (au w)
        refine ⟨G1,H1,G3,δ2,ds[i],δ3,S2.step s3,r3,e3,fun σ4 S4=>?_⟩
        have w:=jM (R':=exD X.K Γ E0 G3 H') (au w)
        refine ⟨G1,H1,G3,δ3,S4,w.mono (fun k w G5 H5 s5=>?_) fun _ k=>k⟩
        have s25:=s3.trans s5
        have sh3:=sh _ _ _ e3 sh2
        cases k with
        | false =>
          rw [if_neg Bool.false_ne_true] at w
          dsimp only
          rw [if_neg Bool.false_ne_true]
          exact ⟨_,Nat.sub_lt_sub_left lt (Nat.lt_succ_self i),G5,δ3,done,st.trans s25,S4.step s5,sh3,s25.hh _ _ h2,s25.sep acc (by rw [h2]; exact fun z=>nomatch z) g2,r2.mono s25.gg,rfl,lt,Nat.le_succ_of_le hl,w⟩
        | true =>
          rw [if_pos rfl] at w
          dsimp only
          rw [if_pos rfl]
          have w:=jM (R':=exD X.K Γ E0 G5 H5) (au w)
          refine ⟨G1,H1,G5,δ3,S4.step s5,w.mono (fun y w v G6 H6 s6 r6=>?_) fun _ k=>k⟩
          have s26:=s25.trans s6
          have h6:=s26.hh _ _ h2
          have g6:G6 acc = none:=s26.sep acc (by rw [h2]; exact fun z=>nomatch z) g2
          have n1:H1 acc = none:=hacc
          refine ⟨h6,_,Nat.sub_lt_sub_left lt (Nat.lt_succ_self i),G6,δ3,done ++ [y],?_,?_,sh3,aL,g6,(r2.mono s26.gg).append (.cons r6 .nil),rfl,lt,by rw [List.length_append]; exact Nat.succ_le_succ hl,?_⟩
          · have sx:=st.trans s26
            exact ⟨sx.gg,fun b u e=>by rw [aD (aQ e n1)]; exact sx.hh _ _ e,fun b u e=>by rw [aD (aQ e g6)]; exact sx.gh _ _ e,sx.sep⟩
          · exact ((S4.step s5).step s6).beside sh3 g6 n1
          · refine (au w).mono (fun rest k G' H' vs s' h' g' r'=>k G' H' vs s' h' g' (by simpa using r')) fun _ k=>k
      · obtain rfl:i = ds.length:=by omega
        rw [List.drop_length] at w
        exact .inl ⟨Y.stop _ H (st.gg.trans st.gh) (Nat.le_refl _),w G2 H ys st h2 g2 (by simpa using r2)⟩
  · rw [if_neg hz] at w
    exact False.elim w
theorem tE {tg iter elt:Expr} {ifs:List Expr} {sc:Scope} {cl:List (Str × Addr)} {N':List Str} {cap:List (Option Nat)} {fi:DSt→Out (List D)} {t:D→DSt→Option DSt} {ft:DSt→Out Bool} {fe:DSt→Out D}
    (hh:∀ {wi:TI} {g:TG} {tt:TT} {te:TE},PI X tg iter wi→(∀ s₀ H₀ C fp pn,PG (bR X N' sc cl s₀ H₀ C fp pn) tg g)→(∀ s₀ H₀ C fp pn,Nt (bR X N' sc cl s₀ H₀ C fp pn) ifs tt)→(∀ s₀ H₀ C fp pn,PE (bR X N' sc cl s₀ H₀ C fp pn) elt te)→PE X (.ListComp elt [⟨tg,iter,ifs,0⟩] sc pos) (Kr cap wi g tt te))
    (hi:DI X Γ E tg iter fi) (sh:ShT t) (hg:∀ s₀ H₀ C fp pn,PG (bR X N' sc cl s₀ H₀ C fp pn) tg (tgD X.K Γ t)) (ht:∀ s₀ H₀ C fp pn,Nt (bR X N' sc cl s₀ H₀ C fp pn) ifs (ttD X.K Γ E0 ft)) (he:∀ s₀ H₀ C fp pn,PE (bR X N' sc cl s₀ H₀ C fp pn) elt (teD X.K Γ E0 fe)) :
    DF X Γ E (.ListComp elt [⟨tg,iter,ifs,0⟩] sc pos) (jJ cap fi t ft fe):=PE.imp (hh hi hg ht he) (abK sh)
theorem bH.snoc {K:PySem.W.Frag} {H G' H':Hp} {b:Addr} {ws:List V} {ds:List D} (f:H b = none) (h:H' b = some (.lst ws)) (g:G' b = none) (r:aF K Γ G' ws ds):∀ {vs:List V} {dss:List (List D)},V.ref b ∉ vs→bH K Γ H G' H' vs dss→bH K Γ H G' H' (vs ++ [.ref b]) (dss ++ [ds])
  | _,_,_,.nil=>.cons f h g r (by simp) .nil
  | _,_,m,.cons f' h' g' r' n' t=>.cons f' h' g' r' (fun z=>by
      rcases List.mem_append.mp z with z | z
      · exact n' z
      · exact m (by rw [List.mem_singleton.mp z]; exact List.mem_cons_self)) (bH.snoc f h g r (fun z=>m (List.mem_cons_of_mem _ z)) t)
theorem bH.step {K:PySem.W.Frag} {H G H1 G2 H2:Hp} (s:Step G H1 G2 H2):∀ {vs:List V} {dss:List (List D)},bH K Γ H G H1 vs dss→bH K Γ H G2 H2 vs dss
  | _,_,.nil=>.nil
  | _,_,.cons f h g r n t=>.cons f (s.hh _ _ h) (s.sep _ (by rw [h]; exact fun q=>nomatch q) g) (r.mono s.gg) n (bH.step s t)
theorem bH.Q5 {K:PySem.W.Frag} {H G' H':Hp} {a:Addr} {o:HO}:∀ {vs:List V} {dss:List (List D)},V.ref a ∉ vs→bH K Γ H G' H' vs dss→bH K Γ H G' (upd H' a o) vs dss
  | _,_,_,.nil=>.nil
  | _,_,m,.cons f h g r n t=>.cons f ((aD fun z=>m (by rw [z]; exact List.mem_cons_self)).trans h) g r n (bH.Q5 (fun z=>m (List.mem_cons_of_mem _ z)) t)
theorem bH.length {K:PySem.W.Frag} {H G' H':Hp}:∀ {vs:List V} {dss:List (List D)},bH K Γ H G' H' vs dss→vs.length = dss.length
  | _,_,.nil=>rfl
  | _,_,.cons f h g r n t=>by rw [List.length_cons,List.length_cons,t.length]
theorem FP {cap:List (Option Nat)} {fi:DSt→Out (List D)} {t:D→DSt→Option DSt} {ft:DSt→Out Bool} {fe:DSt→Out (List D)} (sh:ShT t) (σ:L2.St) (H:Hp) (Q:VK):tffD X.K Γ E (jJ cap fi t ft fe) σ H Q→Kr cap (tiD X.K Γ E fi) (tgD X.K Γ t) (ttD X.K Γ E0 ft) (tfD X.K Γ E0 fe) σ H Q:=fun ⟨G0,H0,G,δ,S,w⟩=>by
  refine ⟨G0,H0,G,δ,S,(au w).mono (fun ds w J G1 H1 s1 Y=>?_) fun x k=>k⟩
  by_cases hz:ds.length < sizeLine
  · rw [if_pos hz] at w
    intro acc hacc
    have Sc:=(S.step s1).cap cap
    refine ⟨fun i m ys τ H=>∃ G δ done,Step G1 H1 G H∧SR X.K Γ G1 H1 G H τ δ∧UG δ∧H acc = some (.lst ys)∧G acc = none∧V.ref acc ∉ ys∧bH X.K Γ H1 G H ys done∧m = ds.length - i∧i ≤ ds.length∧ys.length ≤ i ∧
      wpO (Od t ft fe (ds.drop i) δ) (fun rest=>∀ G' H' vs,Step G1 H1 G' H'→H' acc = some (.lst vs)→G' acc = none→V.ref acc ∉ vs→bH X.K Γ H1 G' H' vs (done ++ rest)→Q (.ref acc) H') (fun _=>True),?_,?_⟩
    · have g1:G1 acc = none:=aG s1.gh hacc
      have st:=Step.aside s1.gh (o:=.lst []) hacc
      refine ⟨_,G1,_,[],st,Sc.step st,sh_cap _ _,aL,g1,(by simp),.nil,rfl,Nat.zero_le _,Nat.le_refl _,w.mono (fun rest k G' H' vs s' h' g' n' r'=>k acc vs G' H' (s1.trans s') (aG s1.hh hacc) h' g' n' (r'.reF fun b z=>aG s1.hh z)) fun _ _=>trivial⟩
    · rintro i m ys τ H ⟨G2,δ2,done,st,S2,sh2,h2,g2,n2,r2,rfl,hi,hl,w⟩
      refine ⟨h2,Nat.lt_of_le_of_lt (Nat.le_trans hl hi) hz,?_⟩
      by_cases lt:i < ds.length
      · refine .inr ⟨Y.go i H (st.gg.trans st.gh) lt,fun x H' y=>?_⟩
        obtain ⟨G3,s3,r3⟩:=Y.yld i G2 H x H' ds[i] st.gg st.gh y (by simp [lt])
        rw [List.drop_eq_getElem_cons lt] at w
        obtain ⟨δ3,e3,w⟩:=bO (au w)
        refine ⟨G1,H1,G3,δ2,ds[i],δ3,S2.step s3,r3,e3,fun σ4 S4=>?_⟩
        have w:=jM (R':=exD X.K Γ E0 G3 H') (au w)
        refine ⟨G1,H1,G3,δ3,S4,w.mono (fun k w G5 H5 s5=>?_) fun _ k=>k⟩
        have s25:=s3.trans s5
        have sh3:=sh _ _ _ e3 sh2
        cases k with
        | false =>
          rw [if_neg Bool.false_ne_true] at w
          dsimp only
          rw [if_neg Bool.false_ne_true]
          exact ⟨_,Nat.sub_lt_sub_left lt (Nat.lt_succ_self i),G5,δ3,done,st.trans s25,S4.step s5,sh3,s25.hh _ _ h2,s25.sep acc (by rw [h2]; exact fun z=>nomatch z) g2,n2,r2.step s25,rfl,lt,Nat.le_succ_of_le hl,w⟩
        | true =>
          rw [if_pos rfl] at w
          dsimp only
          rw [if_pos rfl]
          have w:=jM (R':=exD X.K Γ E0 G5 H5) (au w)
          refine ⟨G1,H1,G5,δ3,S4.step s5,w.mono (fun y w bb wv G6 H6 s6 fb hb gb rb=>?_) fun _ k=>k⟩
          have s26:=s25.trans s6
          have h6:=s26.hh _ _ h2
          have g6:G6 acc = none:=s26.sep acc (by rw [h2]; exact fun z=>nomatch z) g2
          have n1:H1 acc = none:=hacc
          have neb:acc ≠ bb:=fun z=>by
            have:=s25.hh _ _ h2
            rw [z,fb] at this
            cases this
          have nbm:V.ref bb ∉ ys:=fun z=>(r2.step s25).mem bb z |>.2 fb
          have f1:H1 bb = none:=aG ((st.trans s25).hh) fb
          refine ⟨h6,_,Nat.sub_lt_sub_left lt (Nat.lt_succ_self i),G6,δ3,done ++ [y],?_,?_,sh3,aL,g6,(fun z=>by
            rcases List.mem_append.mp z with z | z
            · exact n2 z
            · exact neb (V.ref.inj (List.mem_singleton.mp z))),bH.snoc f1 ((aD (Ne.symm neb)).trans hb) gb rb nbm (bH.Q5 n2 (r2.step s26)),rfl,lt,by rw [List.length_append]; exact Nat.succ_le_succ hl,?_⟩
          · have sx:=st.trans s26
            exact ⟨sx.gg,fun b u e=>by rw [aD (aQ e n1)]; exact sx.hh _ _ e,fun b u e=>by rw [aD (aQ e g6)]; exact sx.gh _ _ e,sx.sep⟩
          · exact ((S4.step s5).step s6).beside sh3 g6 n1
          · refine (au w).mono (fun rest k G' H' vs s' h' g' n' r'=>k G' H' vs s' h' g' n' (by simpa using r')) fun _ k=>k
      · obtain rfl:i = ds.length:=by omega
        rw [List.drop_length] at w
        exact .inl ⟨Y.stop _ H (st.gg.trans st.gh) (Nat.le_refl _),w G2 H ys st h2 g2 n2 (by simpa using r2)⟩
  · rw [if_neg hz] at w
    exact False.elim w
theorem dff_comp {tg iter elt:Expr} {ifs:List Expr} {sc:Scope} {cl:List (Str × Addr)} {N':List Str} {cap:List (Option Nat)} {fi:DSt→Out (List D)} {t:D→DSt→Option DSt} {ft:DSt→Out Bool} {fe:DSt→Out (List D)}
    (hh:∀ {wi:TI} {g:TG} {tt:TT} {te:TE},PI X tg iter wi→(∀ s₀ H₀ C fp pn,PG (bR X N' sc cl s₀ H₀ C fp pn) tg g)→(∀ s₀ H₀ C fp pn,Nt (bR X N' sc cl s₀ H₀ C fp pn) ifs tt)→(∀ s₀ H₀ C fp pn,PE (bR X N' sc cl s₀ H₀ C fp pn) elt te)→PE X (.ListComp elt [⟨tg,iter,ifs,0⟩] sc pos) (Kr cap wi g tt te))
    (hi:DI X Γ E tg iter fi) (sh:ShT t) (hg:∀ s₀ H₀ C fp pn,PG (bR X N' sc cl s₀ H₀ C fp pn) tg (tgD X.K Γ t)) (ht:∀ s₀ H₀ C fp pn,Nt (bR X N' sc cl s₀ H₀ C fp pn) ifs (ttD X.K Γ E0 ft)) (he:∀ s₀ H₀ C fp pn,PE (bR X N' sc cl s₀ H₀ C fp pn) elt (tfD X.K Γ E0 fe)) :
    DFF X Γ E (.ListComp elt [⟨tg,iter,ifs,0⟩] sc pos) (jJ cap fi t ft fe):=PE.imp (hh hi hg ht he) (FP sh)
section
variable {tg iter elt:Expr} {ifs:List Expr} {sc:Scope} {cl:List (Str × Addr)} {N':List Str} {cap:List (Option Nat)} {fi:DSt→Out (List D)} {t:D→DSt→Option DSt} {ft:DSt→Out Bool} {x:Str} {pos' spos:Pos}
theorem Vi (i:Nat) {fe:DSt→Out (List D)}
    (hh:∀ {wi:TI} {g:TG} {tt:TT} {te:TE},PI X tg iter wi→(∀ s₀ H₀ C fp pn,PG (bR X N' sc cl s₀ H₀ C fp pn) tg g)→(∀ s₀ H₀ C fp pn,Nt (bR X N' sc cl s₀ H₀ C fp pn) ifs tt)→(∀ s₀ H₀ C fp pn,PE (bR X N' sc cl s₀ H₀ C fp pn) elt te)→PS X (.Assign [.Name x pos'] (.ListComp elt [⟨tg,iter,ifs,0⟩] sc pos) spos) (tAsg (Kr cap wi g tt te) (Ph i)))
    (hi:DI X Γ E tg iter fi) (sh:ShT t) (hg:∀ s₀ H₀ C fp pn,PG (bR X N' sc cl s₀ H₀ C fp pn) tg (tgD X.K Γ t)) (ht:∀ s₀ H₀ C fp pn,Nt (bR X N' sc cl s₀ H₀ C fp pn) ifs (ttD X.K Γ E0 ft)) (he:∀ s₀ H₀ C fp pn,PE (bR X N' sc cl s₀ H₀ C fp pn) elt (tfD X.K Γ E0 fe)) :
    DS X Γ E (.Assign [.Name x pos'] (.ListComp elt [⟨tg,iter,ifs,0⟩] sc pos) spos) (pN i (jJ cap fi t ft fe)):=PS.imp (hh hi hg ht he) fun N σ H ⟨G0,H0,G,δ,S,w⟩=>FP sh _ _ _
  ⟨G0,H0,G,δ,S,(au w).mono (fun d w a vs G1 H1 s1 f h g n r=>w _ G1 H1 (S.setll s1 f h g n r)) fun x k=>exD.step k S.st⟩
end
end
end DL
namespace DL
open PySem PySem.Spec PyProof.Rows MX L2
def jF (n:Nat) (ds:List D):DSt:=ds.map (fun d=>some (.sh d)) ++ List.replicate (n - ds.length) none
def m9:Fl→Out D
  | .nx _=>.ok .non
  | .rt d=>.ok d
  | .rl ds=>.ok (.lst ds)
  | .rll dss=>.ok (.lst (dss.map .lst))
  | _=>.stuck
def endF:Fl→Out (List D)
  | .rl ds=>.ok ds
  | _=>.stuck
def endFF:Fl→Out (List (List D))
  | .rll ds=>.ok ds
  | _=>.stuck
def dR (n:Nat) (g:DSt→Out Fl) (ds:List D):Out D:=(g (jF n ds)).bind m9
def runL (n:Nat) (g:DSt→Out Fl) (ds:List D):Out (List D):=(g (jF n ds)).bind endF
def runLL (n:Nat) (g:DSt→Out Fl) (ds:List D):Out (List (List D)):=(g (jF n ds)).bind endFF
def spF (K:PySem.W.Frag) (Γ:Nat→Option Addr) (n:Nat) (F:List D→Out (List D)):Sp:=fun vs H Q E=>vs.length = n∧∃ G ds,bC G H∧aF K Γ G vs ds∧wpO (F ds) (okF K Γ G H Q) (exD K Γ E G H)
def spFF (K:PySem.W.Frag) (Γ:Nat→Option Addr) (n:Nat) (F:List D→Out (List (List D))):Sp:=fun vs H Q E=>vs.length = n∧∃ G ds,bC G H∧aF K Γ G vs ds∧wpO (F ds) (okFF K Γ G H Q) (exD K Γ E G H)
def spD (K:PySem.W.Frag) (Γ:Nat→Option Addr) (n:Nat) (F:List D→Out D):Sp:=fun vs H Q E=>vs.length = n∧∃ G ds,bC G H∧aF K Γ G vs ds∧wpO (F ds) (okD K Γ G H Q) (exD K Γ E G H)
theorem SR.M9 {K:PySem.W.Frag} {Γ:Nat→Option Addr} {G H:Hp} {vs:List V} {ds:List D} {N:List Str} (s:bC G H) (r:aF K Γ G vs ds):SR K Γ G H G H (L2.start N vs) (jF N.length ds):=by
  refine ⟨.refl s,by simp [jF,L2.start,r.length],fun _=>none,fun i x e=>?_⟩
  unfold jF at e
  by_cases h:i < ds.length
  · rw [List.getElem?_append_left (by simpa using h),List.getElem?_map] at e
    obtain ⟨d,e1,e2⟩:=Option.map_eq_some_iff.mp e
    cases e2
    obtain ⟨v,h1,h2⟩:=r.get e1
    refine ⟨v,?_,h2⟩
    unfold L2.start
    rw [List.getElem?_append_left (by rw [List.length_map,r.length]; exact h),List.getElem?_map,h1]
    rfl
  · rw [List.getElem?_append_right (by simpa using h),List.getElem?_replicate] at e
    split at e <;> cases e
theorem frz_rl {K:PySem.W.Frag} {Γ:Nat→Option Addr} {G H:Hp} {Q:VK} {ds:List D} (q:okD K Γ G H Q (.lst ds)):okF K Γ G H Q ds:=fun a vs G1 H1 s1 f h g r=>by
  have hp:∀ b,decide (b = a) = true→G1 b = none∧H b = none:=fun b z=>by obtain rfl:=of_decide_eq_true z; exact ⟨g,f⟩
  exact q _ _ H1 (s1.frz (fun b=>decide (b = a)) hp) (.lst (by unfold d7; rw [if_pos (by simp)]; exact h) (r.mono (fV fun b z=>(hp b z).1)))
theorem XM {K:PySem.W.Frag} {Γ:Nat→Option Addr} {G H:Hp} {Q:VK} {dss:List (List D)} (q:okD K Γ G H Q (.lst (dss.map .lst))):okFF K Γ G H Q dss:=fun a vs G1 H1 s1 f h g n r=>by
  have hp:∀ b,decide (b = a ∨ V.ref b ∈ vs) = true→G1 b = none∧H b = none:=fun b z=>by
    rcases of_decide_eq_true z with z | z
    · subst z; exact ⟨g,f⟩
    · exact ⟨r.gnone b z,(r.mem b z).1⟩
  exact q _ _ H1 (s1.frz (fun b=>decide (b = a ∨ V.ref b ∈ vs)) hp) (.lst (by unfold d7; rw [if_pos (by simp)]; exact h) (bH.frozen (G0:=G) (fV fun b z=>(hp b z).1) (fun b hb=>by simp [hb]) r))
section
variable {P:Program} {w:World} {K:PySem.W.Frag} {mg:Str→Option Value} {base:Heap} {Γ:Nat→Option Addr}
theorem Fun.okD {x qual:Str} {st:Stmt} {f:Addr} {fd:FuncData} {N ps:List Str} {k:Nat} {g:DSt→Out Fl} (F:L2.Fun K x qual st f fd) (S:aR N ps (ao st))
    (h:∀ (cdv:Value) (A:Around) (outer:List Env) (s:Shared) (H:Hp) (E:XK),gP k (A.deeper (envOfC qual (ao st) s.heap.objs.size f cdv))→DSs (Hz CX0 P w K mg base N qual (ao st) f cdv A outer s H E).nox Γ E0 (aP st) g) :
    bB P w K mg base CX0 (k + 1) f fd ps (spD K Γ ps.length fun ds=>(dR N.length g ds).bL) :=
  L2.Fun.ok F S (fun vs H Q E h=>h.1) fun cdv A outer s H vs Q E hr ⟨hl,G,ds,sg,r,q⟩=>by
    refine ⟨_,h cdv A outer s H E hr,G,H,G,jF N.length ds,SR.M9 sg r,(au (jM (R':=exD K Γ E0 G H) q)).mono (fun fl q=>?_) fun _ k=>k⟩
    cases fl with
    | nx δ=>exact fun σ G' H' S'=>q _ G' H' S'.st .non
    | rt d=>exact fun v G' H' s' r'=>q v G' H' s' r'
    | bk δ=>exact False.elim q
    | ct δ=>exact False.elim q
    | rl ds=>exact frz_rl q
    | rll dss=>exact XM q
theorem Fun.okF {x qual:Str} {st:Stmt} {f:Addr} {fd:FuncData} {N ps:List Str} {k:Nat} {g:DSt→Out Fl} (F:L2.Fun K x qual st f fd) (S:aR N ps (ao st))
    (h:∀ (cdv:Value) (A:Around) (outer:List Env) (s:Shared) (H:Hp) (E:XK),gP k (A.deeper (envOfC qual (ao st) s.heap.objs.size f cdv))→DSs (Hz CX0 P w K mg base N qual (ao st) f cdv A outer s H E).nox Γ E0 (aP st) g) :
    bB P w K mg base CX0 (k + 1) f fd ps (spF K Γ ps.length fun ds=>(runL N.length g ds).bL) :=
  L2.Fun.ok F S (fun vs H Q E h=>h.1) fun cdv A outer s H vs Q E hr ⟨hl,G,ds,sg,r,q⟩=>by
    refine ⟨_,h cdv A outer s H E hr,G,H,G,jF N.length ds,SR.M9 sg r,(au (jM (R':=exD K Γ E0 G H) q)).mono (fun fl q=>?_) fun _ k=>k⟩
    cases fl with
    | rl ds=>exact fun a vs G' H' s f h g r=>q a vs G' H' s f h g r
    | _=>exact False.elim q
theorem Fun.okFF {x qual:Str} {st:Stmt} {f:Addr} {fd:FuncData} {N ps:List Str} {k:Nat} {g:DSt→Out Fl} (F:L2.Fun K x qual st f fd) (S:aR N ps (ao st))
    (h:∀ (cdv:Value) (A:Around) (outer:List Env) (s:Shared) (H:Hp) (E:XK),gP k (A.deeper (envOfC qual (ao st) s.heap.objs.size f cdv))→DSs (Hz CX0 P w K mg base N qual (ao st) f cdv A outer s H E).nox Γ E0 (aP st) g) :
    bB P w K mg base CX0 (k + 1) f fd ps (spFF K Γ ps.length fun ds=>(runLL N.length g ds).bL) :=
  L2.Fun.ok F S (fun vs H Q E h=>h.1) fun cdv A outer s H vs Q E hr ⟨hl,G,ds,sg,r,q⟩=>by
    refine ⟨_,h cdv A outer s H E hr,G,H,G,jF N.length ds,SR.M9 sg r,(au (jM (R':=exD K Γ E0 G H) q)).mono (fun fl q=>?_) fun _ k=>k⟩
    cases fl with
    | rll ds=>exact fun a vs G' H' s f h g n r=>q a vs G' H' s f h g n r
    | _=>exact False.elim q
theorem okFF_D {CX:CXT} {k n:Nat} {f:Addr} {fd:FuncData} {ps:List Str} {F:List D→Out (List (List D))} (h:bB P w K mg base CX k f fd ps (spFF K Γ n F)):bB P w K mg base CX k f fd ps (spD K Γ n fun ds=>(F ds).bind fun xs=>.ok (.lst (xs.map .lst))) :=
  h.imp fun vs H Q E ⟨hl,G,ds,sg,r,q⟩=>⟨hl,G,ds,sg,r,(au q).mono (fun xs q=>XM q) fun _ k=>k⟩
end
section
variable {X:Cx} {Γ:Nat→Option Addr} {E:XK} {e a b c o:Expr} {pos apos:Pos} {es:List Expr} {fa fb fo:DSt→Out D} {fr:DSt→Out (List D)} {CX:CXT}
def oF (n:Nat) (F:List D→Out D) (fr:DSt→Out (List D)):DSt→Out D:=fun δ=>(fr δ).bind fun ds=>if ds.length = n then F ds else .stuck
theorem cD {n:Nat} {F:List D→Out D} (h:PE X e (VH (spD X.K Γ n F) [] E (taD X.K Γ E fr))):DE X Γ E e (oF n F fr):=PE.imp h fun σ H Q ⟨G0,H0,G,δ,S,w⟩=>by
  refine ⟨G0,H0,G,δ,S,(au w).mono (fun ds w vs G1 H1 s1 r1=>?_) fun _ k=>k⟩
  split at w
  · rename_i h
    rw [List.append_nil]
    exact ⟨by rw [r1.length]; exact h,G1,ds,s1.gh,r1,w.mono (fun d k=>k.step s1) fun x k=>k.step s1⟩
  · exact False.elim w
def Nj {α:Type} (X:Cx) (Γ:Nat→Option Addr) (CX:CXT) (m:Str) (sp:(List D→Out α)→Sp):List (Nat × (List D→Out α))→Prop
  | []=>True
  | (c,F) :: r=>(∃ C f fd ps k,Γ c = some C∧Cls X.K C∧Meth X.K C m f∧bB X.prog X.w X.K X.mg X.base CX k f fd ps (sp F)∧gP k X.A∧Binds X.K fd ps [])∧Nj X Γ CX m sp r
theorem Nj.get {α:Type} {m:Str} {sp:(List D→Out α)→Sp}:∀ {M:List (Nat × (List D→Out α))} {c:Nat} {F:List D→Out α},Nj X Γ CX m sp M→M.lookup c = some F →
    ∃ C f fd ps k,Γ c = some C∧Cls X.K C∧Meth X.K C m f∧bB X.prog X.w X.K X.mg X.base CX k f fd ps (sp F)∧gP k X.A∧Binds X.K fd ps []
  | [],_,_,_,e=>by cases e
  | (c',F') :: r,c,F,h,e=>by
    by_cases q:c = c'
    · subst q
      simp only [List.lookup_cons,beq_self_eq_true] at e
      cases e
      exact h.1
    · have q':(c == c') = false:=beq_eq_false_iff_ne.mpr q
      simp only [List.lookup_cons,q'] at e
      exact h.2.get e
def tMethD {α:Type} (Γ:Nat→Option Addr) (m:Str) (sp:(List D→Out α)→Sp) (M:List (Nat × (List D→Out α))) (E:XK) (ta:TE) (t:TA):TE:=fun σ H Q=>ta σ H fun x H1=>∃ c a C dx fs F,x = .ref a∧H1 a = some (.ins C dx fs)∧Γ c = some C∧M.lookup c = some F∧fs.lookup m = none ∧
  t σ H1 fun vs H2=>sp F (x :: vs) H2 Q E
theorem Ay {α:Type} {m:Str} {sp:(List D→Out α)→Sp} {M:List (Nat × (List D→Out α))} {ta:TE} {pl:Sem Bool} (hM:Nj X Γ CX m sp M) (hx:jT CX X E) (he:PE X o ta)
    (ht:eval (.Call (.Attribute o m apos) [] [] pos) X.env = (do
      let ov ← eval o X.env
      standAt apos.atName
      let (f,first) ← holding [ov] (getMethod ov m pl)
      callWith pos f first (backTo pos (starEach [] X.env)) (backToKw pos (keywordEach [] X.env))):=by rfl) :
    PE X (.Call (.Attribute o m apos) [] [] pos) (tMethD Γ m sp M E ta DK):=by
  intro pins s σ H Q I h
  refine PySem.W.methodCall_KW (pl:=pl) (thn (he pins s σ H _ I h) fun u s1 ⟨x,H1,I1,rx,c,a,C,dx,fs,F,ex,ea,hc,hF,l,q⟩=>?_) ht
  subst ex
  obtain rfl:u = Value.ref a:=rx
  obtain ⟨C',f,fd,ps,k,hc',cl,hm,G,hr,hb⟩:=hM.get hF
  rw [hc] at hc'
  cases hc'
  refine Pk I1 ea cl hm l ?_
  exact PySem.W.callWith_K0 (first:=[.ref a]) I1.kIn hm.kp (aae (dvs:=[]) (us:=[.ref a]) (vs:=[.ref a]) G hr hb .nil hx I1 (.cons rfl .nil) (by rw [List.append_nil]; exact q))
def oM (m:Str) (n:Nat) (M:List (Nat × (List D→Out D))) (fo:DSt→Out D) (fr:DSt→Out (List D)):DSt→Out D:=fun δ=>(fo δ).bind fun o=>match o with
  | .obj c fs=>match M.lookup c with
    | some F=>if (fs.lookup m).isNone = true then (fr δ).bind fun ds=>if ds.length + 1 = n then F (o :: ds) else .stuck else .stuck
    | none=>.stuck
  | _=>.stuck
theorem Fz {m:Str} {n:Nat} {M:List (Nat × (List D→Out D))} (h:PE X e (tMethD Γ m (spD X.K Γ n) M E (teD X.K Γ E fo) DK)):DE X Γ E e (oM m n M fo az):=PE.imp h fun σ H Q ⟨G0,H0,G,δ,S,w⟩=>by
  refine ⟨G0,H0,G,δ,S,(au w).mono (fun d w v G1 H1 s1 r1=>?_) fun _ k=>k⟩
  split at w
  · rename_i c fs
    split at w
    · rename_i F hF
      split at w
      · rename_i hn
        have r1':=r1
        cases r1 with
        | obj ha hc rf =>
          refine ⟨c,_,_,_,_,F,rfl,s1.gh _ _ ha,hc,hF,rf.none (Option.isNone_iff_eq_none.mp hn),?_⟩
          have w:wpO (if 0 + 1 = n then F [.obj c fs] else .stuck) (okD X.K Γ G H Q) (exD X.K Γ E G H):=w
          split at w
          · rename_i hl
            exact ⟨hl,G1,_,s1.gh,.cons r1' .nil,w.mono (fun d k=>k.step s1) fun x k=>k.step s1⟩
          · exact False.elim w
      · exact False.elim w
    · exact False.elim w
  · exact False.elim w
def oFl {α:Type} (n:Nat) (F:List D→Out α) (fr:DSt→Out (List D)):DSt→Out α:=fun δ=>(fr δ).bind fun ds=>if ds.length = n then F ds else .stuck
theorem dcallF {n:Nat} {F:List D→Out (List D)} (h:PE X e (VH (spF X.K Γ n F) [] E (taD X.K Γ E fr))):DF X Γ E e (oFl n F fr):=PE.imp h fun σ H Q ⟨G0,H0,G,δ,S,w⟩=>by
  refine ⟨G0,H0,G,δ,S,(au w).mono (fun ds w vs G1 H1 s1 r1=>?_) fun _ k=>k⟩
  split at w
  · rename_i h
    rw [List.append_nil]
    exact ⟨by rw [r1.length]; exact h,G1,ds,s1.gh,r1,w.mono (fun d k a vs G' H' s f h g r=>k a vs G' H' (s1.trans s) (aG s1.hh f) h g r) fun x k=>k.step s1⟩
  · exact False.elim w
def FldOk (K:PySem.W.Frag) (Γ:Nat→Option Addr) (f:Str):List Nat→Prop
  | []=>True
  | c :: r=>(∃ C,Γ c = some C∧Cls K C∧cT K C f)∧FldOk K Γ f r
theorem FldOk.get {K:PySem.W.Frag} {f:Str}:∀ {cs:List Nat} {c:Nat},FldOk K Γ f cs→cs.contains c = true→∃ C,Γ c = some C∧Cls K C∧cT K C f
  | [],_,_,e=>by cases e
  | d :: r,c,h,e=>by
    by_cases q:c = d
    · subst q; exact h.1
    · exact h.2.get (by simpa [q] using e)
def Qh (f:Str) (cs:List Nat) (fo:DSt→Out D):DSt→Out D:=fun δ=>(fo δ).bind fun o=>match o with
  | .obj c fs=>if cs.contains c = true then .opt (fs.lookup f) else .stuck
  | _=>.stuck
theorem de_fld {f:Str} {cs:List Nat} (hf:FldOk X.K Γ f cs) (he:DE X Γ E o fo) (hb:attributeBase o f X.env (eval o X.env) = eval o X.env:=by rfl):DE X Γ E (.Attribute o f pos) (Qh f cs fo):=PE.imp (pe_fld he hb) fun σ H Q ⟨G0,H0,G,δ,S,w⟩=>by
  refine ⟨G0,H0,G,δ,S,(au w).mono (fun d w v G1 H1 s1 r1=>?_) fun _ k=>k⟩
  split at w
  · rename_i c fs
    split at w
    · rename_i hc
      obtain ⟨d,e,k⟩:=bO w
      cases r1 with
      | obj ha hC rf =>
        obtain ⟨C',hC',cl,na⟩:=hf.get hc
        rw [hC] at hC'
        cases hC'
        obtain ⟨v,h1,h2⟩:=rf.look e
        exact ⟨_,_,_,_,v,rfl,s1.gh _ _ ha,cl,na,h1,k _ G1 H1 s1 h2⟩
    · exact False.elim w
  · exact False.elim w
def spI (K:PySem.W.Frag) (Γ:Nat→Option Addr) (c n:Nat) (F:List D→Out (List (Str × D))):Sp:=fun vs H Q E=>vs.length = n + 1∧∃ a dx C us G ds,vs = .ref a :: us∧H a = some (.ins C dx [])∧Γ c = some C∧G a = none∧bC G H∧aF K Γ G us ds ∧
  wpO (F ds) (fun fds=>∀ fs G' H',bC G G'→(∀ b o,H b = some o→b ≠ a→H' b = some o)→bC G' H'→(∀ b,H b ≠ none→G b = none→G' b = none)→H' a = some (.ins C dx fs)→lH K Γ G' fs fds→Q .non H')
    (fun x=>∀ a' G' H',bC G G'→(∀ b o,H b = some o→b ≠ a→H' b = some o)→bC G' H'→(∀ b,H b ≠ none→G b = none→G' b = none)→Rep K Γ G' (.ref a') x→E (.ref a') none H')
def oMk (c n:Nat) (F:List D→Out (List (Str × D))) (fr:DSt→Out (List D)):DSt→Out D:=fun δ=>(fr δ).bind fun ds=>if ds.length = n then (F ds).bind fun fds=>.ok (.obj c fds) else .stuck
theorem afe {c n:Nat} {C:Addr} {F:List D→Out (List (Str × D))} {G H G1 H1:Hp} {Q:VK} {vs:List V} {ds:List D} (hC:Γ c = some C) (s1:Step G H G1 H1) (r1:aF X.K Γ G1 vs ds) (hl:ds.length = n) (w:wpO ((F ds).bind fun fds=>.ok (.obj c fds)) (okD X.K Γ G H Q) (exD X.K Γ E G H)) (x dx:Addr) (hx:H1 x = none) (hdx:H1 dx = none) (ne:dx ≠ x) :
    spI X.K Γ c n F (.ref x :: vs) (upd (upd H1 dx (.own x)) x (.ins C dx [])) (fun v H2=>v = .non∧Q (.ref x) H2) E:=by
  have gx:G1 x = none:=aG s1.gh hx
  have gdx:G1 dx = none:=aG s1.gh hdx
  have up:∀ b o,H1 b = some o→b ≠ x∧upd (upd H1 dx (.own x)) x (.ins C dx []) b = some o:=fun b o e=>⟨aQ e hx,by rw [aD (aQ e hx),aD (aQ e hdx)]; exact e⟩
  have nn:∀ b,H1 b ≠ none→upd (upd H1 dx (.own x)) x (.ins C dx []) b ≠ none:=fun b hb z=>by
    cases q:H1 b with
    | none=>exact hb q
    | some o=>rw [(up b o q).2] at z; cases z
  refine ⟨by rw [List.length_cons,r1.length,hl],x,dx,C,vs,G1,ds,rfl,aL,hC,gx,fun b o e=>(up b o (s1.gh _ _ e)).2,r1,(au w).mono (fun fds w fs G' H' a1 a2 a3 a4 a5 a6=>⟨rfl,?_⟩) fun ex k a' G' H' a1 a2 a3 a4 a5=>k a' G' H' (s1.trans ⟨a1,fun b o e=>a2 b o (up b o e).2 (up b o e).1,a3,fun b hb g=>a4 b (nn b hb) g⟩) a5⟩
  have gx':G' x = none:=a4 x (by rw [aL]; exact fun z=>nomatch z) gx
  refine w _ (upd G' x (.ins C dx fs)) H' (s1.trans ⟨a1.trans (bC.up gx'),fun b o e=>a2 b o (up b o e).2 (up b o e).1,fun b o e=>?_,fun b hb g=>?_⟩) (.obj aL hC (a6.mono (bC.up gx')))
  · by_cases z:b = x
    · subst z; rw [aL] at e; cases e; exact a5
    · rw [aD z] at e; exact a3 _ _ e
  · have z:b ≠ x:=fun z=>hb (by rw [z]; exact hx)
    rw [aD z]; exact a4 b (nn b hb) g
theorem J1 {c n:Nat} {C:Addr} {F:List D→Out (List (Str × D))} (hC:Γ c = some C) (h:PE X e (tMake C (spI X.K Γ c n F) [] E (taD X.K Γ E fr))):DE X Γ E e (oMk c n F fr):=PE.imp h fun σ H Q ⟨G0,H0,G,δ,S,w⟩=>by
  refine ⟨G0,H0,G,δ,S,(au w).mono (fun ds w vs G1 H1 s1 r1=>?_) fun _ k=>k⟩
  split at w
  · rename_i hl
    intro x dx hx hdx ne
    rw [List.append_nil]
    exact afe hC s1 r1 hl w x dx hx hdx ne
  · exact False.elim w
theorem Xy {c n:Nat} {C:Addr} {F:List D→Out (List (Str × D))} (hC:Γ c = some C) (h:PE X e (tMake C (spI X.K Γ c n F) [] E DK)):DE X Γ E e (oMk c n F az):=PE.imp h fun σ H Q ⟨G0,H0,G,δ,S,w⟩=>by
  have w:wpO (if 0 = n then (F []).bind fun fds=>.ok (.obj c fds) else .stuck) (okD X.K Γ G H Q) (exD X.K Γ E G H):=w
  split at w
  · rename_i hl
    intro x dx hx hdx ne
    rw [List.append_nil]
    exact afe (G:=G) (H:=H) hC (.refl S.st.gh) .nil hl w x dx hx hdx ne
  · exact False.elim w
structure pP (K:PySem.W.Frag) (C:Addr):Prop where
  cls:Cls K C
  ha:PySem.W.findIn K (.ref C) "__class__" = some (some (.builtin "object.__class__"))
  hn:PySem.W.specialIn K (.builtin "object.__class__") "__get__" = some (some (.builtin "getset_descriptor.__get__"))
  htk:PySem.W.takesIn K (.builtin "object.__class__") = some true
  hm:PySem.W.mroIn K C (.type "object") = some true
  ty:PySem.W.typeIn K (.ref C) = some (.type "type")
  cd:∃ cd,PySem.W.clsIn K C = some cd
def Bq (K:PySem.W.Frag) (Γ:Nat→Option Addr) (cv:V) (isi:D→Option Bool):Prop:=∀ H v d b,Rep K Γ H v d→isi d = some b→∃ t,TyX K H v t∧PySem.W.kitOne K t (clsV cv) = some b
def vC (isi:D→Option Bool) (fo:DSt→Out D):DSt→Out D:=fun δ=>(fo δ).bind fun d=>(Out.opt (isi d)).bind fun b=>.ok (.bl b)
theorem rC {cv:V} {isi:D→Option Bool} {p:Pos} (hc:(cv = .ref (match cv with | .ref C=>C | _=>0) ∨ cv = .ty (match cv with | .ty n=>n | _=>""))) (hi:Bq X.K Γ cv isi) (hg:Gl X "isinstance") (hm:X.mg "isinstance" = none) (ho:DB X Γ E o fo) (hcv:PE X c (tC cv))
    (hs:starEach [o,c] X.env = (false,eval o X.env) :: starEach [c] X.env:=by rfl) (hs2:starEach [c] X.env = [(false,eval c X.env)]:=by rfl):DE X Γ E (.Call (.Name "isinstance" p) [o,c] [] pos) (vC isi fo) :=
  PE.imp (vG call_isi hg hm PyProof.Rows.boot_isinstance (cg ho (cg hcv gU (by rw [hs2]; rfl)) hs) (by decide) (by decide) hs (by rw [hs2]; rfl)) fun σ H Q ⟨G0,H0,G,δ,S,w⟩=>by
    refine ⟨G0,H0,G,δ,S,(au w).mono (fun d w v G1 H1 s1 r1=>?_) fun _ k=>k⟩
    obtain ⟨b,e,k⟩:=bO (au w)
    obtain ⟨t,ty,kt⟩:=hi H1 v d b r1 e
    exact ⟨v,cv,t,b,rfl,hc,ty,kt,k _ G1 H1 s1 (.bl b)⟩
end
end DL
namespace DL
open PySem PySem.Spec PyProof.Rows MX L2
abbrev kc (d:D):DSt→Out D:=fun _=>.ok d
abbrev Dt (g:D→Option D):List D→Option D:=fun ds=>match ds with
  | [x]=>g x
  | _=>none
abbrev Bg (i:Nat) (g:DSt→Out Fl):DSt→Out Fl:=fun δ=>g (frz i δ)
structure Def (P:Program) (w:World) (K:PySem.W.Frag) (mg:Str→Option Value) (base:Heap) (x:Str) (k:Nat) (ps:List Str) (sp:Sp):Prop where
  ex:∃ f fd,bB P w K mg base CX0 k f fd ps sp∧Binds K fd ps []∧mg x = some (.ref f)∧PySem.W.keepIn K (.ref f) = true
structure Ini (P:Program) (w:World) (K:PySem.W.Frag) (mg:Str→Option Value) (base:Heap) (C:Addr) (k:Nat) (ps:List Str) (sp:Sp):Prop where
  ex:∃ f fd,Mk K C f∧bB P w K mg base CX0 k f fd ps sp∧Binds K fd ps []
def yz {α:Type} (P:Program) (w:World) (K:PySem.W.Frag) (mg:Str→Option Value) (base:Heap) (Γ:Nat→Option Addr) (m:Str) (sp:(List D→Out α)→Sp) (k:Nat):List (Nat × (List D→Out α))→Prop
  | []=>True
  | (c,F) :: r=>(∃ C f fd ps,Γ c = some C∧Cls K C∧Meth K C m f∧bB P w K mg base CX0 k f fd ps (sp F)∧Binds K fd ps [])∧yz P w K mg base Γ m sp k r
theorem yz.ok {α:Type} {X:Cx} {Γ:Nat→Option Addr} {m:Str} {sp:(List D→Out α)→Sp} {k:Nat} (hr:gP k X.A):∀ {M:List (Nat × (List D→Out α))},yz X.prog X.w X.K X.mg X.base Γ m sp k M→Nj X Γ CX0 m sp M
  | [],_=>trivial
  | (c,F) :: r,⟨⟨C,f,fd,ps,h1,h2,h3,h4,h5⟩,t⟩=>⟨⟨C,f,fd,ps,k,h1,h2,h3,h4,hr,h5⟩,yz.ok hr t⟩
abbrev dOff (F:List D→Out (List (List D))):List D→Out D:=fun ds=>(F ds).bind fun xs=>.ok (.lst (xs.map .lst))
abbrev QZ (M:List (Nat × (List D→Out (List (List D))))):List (Nat × (List D→Out D)):=M.map fun p=>(p.1,dOff p.2)
theorem yz.dFF {P:Program} {w:World} {K:PySem.W.Frag} {mg:Str→Option Value} {base:Heap} {Γ:Nat→Option Addr} {m:Str} {n k:Nat}:∀ {M:List (Nat × (List D→Out (List (List D))))},yz P w K mg base Γ m (spFF K Γ n) k M→yz P w K mg base Γ m (spD K Γ n) k (QZ M)
  | [],_=>trivial
  | (c,F) :: r,⟨⟨C,f,fd,ps,h1,h2,h3,h4,h5⟩,t⟩=>⟨⟨C,f,fd,ps,h1,h2,h3,okFF_D h4,h5⟩,yz.dFF t⟩
def Ni (K:PySem.W.Frag) (Γ:Nat→Option Addr) (cv:Value):List (Nat × Bool)→Prop
  | []=>True
  | (c,b) :: r=>(∃ C',Γ c = some C'∧pP K C'∧PySem.W.kitOne K (.ref C') cv = some b)∧Ni K Γ cv r
theorem Ni.get {K:PySem.W.Frag} {Γ:Nat→Option Addr} {cv:Value}:∀ {tab:List (Nat × Bool)} {c:Nat} {b:Bool},Ni K Γ cv tab→tab.lookup c = some b→∃ C',Γ c = some C'∧pP K C'∧PySem.W.kitOne K (.ref C') cv = some b
  | [],_,_,_,e=>by cases e
  | (c',b') :: r,c,b,h,e=>by
    by_cases q:c = c'
    · subst q
      simp only [List.lookup_cons,beq_self_eq_true] at e
      cases e
      exact h.1
    · have q':(c == c') = false:=beq_eq_false_iff_ne.mpr q
      simp only [List.lookup_cons,q'] at e
      exact h.2.get e
def isiE (tab:List (Nat × Bool)):D→Option Bool
  | .obj c _=>tab.lookup c
  | .non=>some false
  | .bl _=>some false
  | .int _=>some false
  | .str _=>some false
  | .lst _=>some false
  | .tup _=>some false
  | .dK _=>some false
  | .dT _=>some false
  | _=>none
theorem sub_tt {K:PySem.W.Frag} {a:String} {C:Addr} {l:List Value} (h:PySem.fastBuiltinMro a = some l) (n:l.all (fun v=>match v with | .type _=>true | _=>false) = true):PySem.W.subIn K (.type a) (.ref C) = some false:=by
  show (PySem.fastBuiltinMro a).map (·.contains (Value.ref C)) = some false
  rw [h]
  simp only [Option.map_some,Option.some.injEq]
  cases q:l.contains (Value.ref C) with
  | false=>rfl
  | true =>
    have m:=List.contains_iff_mem.mp q
    have:=List.all_eq_true.mp n _ m
    cases this
theorem mro_int:PySem.fastBuiltinMro "int" = some [.type "int",.type "object"]:=by decide +kernel
theorem mro_bool:PySem.fastBuiltinMro "bool" = some [.type "bool",.type "int",.type "object"]:=by decide +kernel
theorem mro_str:PySem.fastBuiltinMro "str" = some [.type "str",.type "object"]:=by decide +kernel
theorem mro_list:PySem.fastBuiltinMro "list" = some [.type "list",.type "object"]:=by decide +kernel
theorem mro_tuple:PySem.fastBuiltinMro "tuple" = some [.type "tuple",.type "object"]:=by decide +kernel
theorem ab3:PySem.fastBuiltinMro "dict" = some [.type "dict",.type "object"]:=by decide +kernel
theorem mro_none:PySem.fastBuiltinMro "NoneType" = some [.type "NoneType",.type "object"]:=by decide +kernel
theorem isiE_ok {K:PySem.W.Frag} {Γ:Nat→Option Addr} {C:Addr} {tab:List (Nat × Bool)} (ty:PySem.W.typeIn K (.ref C) = some (.type "type")) (cd:∃ cd,PySem.W.clsIn K C = some cd) (h:Ni K Γ (.ref C) tab):Bq K Γ (.ref C) (isiE tab):=by
  intro H v d b r e
  have bi:∀ {T:String} {l:List Value},PySem.fastBuiltinMro T = some l→l.all (fun v=>match v with | .type _=>true | _=>false) = true→PySem.W.kitOne K (.type T) (.ref C) = some false:=fun {T l} h1 h2=>by
    obtain ⟨cd,e⟩:=cd
    exact kit_sub e ty (sub_tt h1 h2) fun q=>nomatch q
  cases r <;> simp only [isiE] at e
  case non=>cases e; exact ⟨_,.of .non,bi mro_none rfl⟩
  case bl=>cases e; exact ⟨_,.of (.bl _),bi mro_bool rfl⟩
  case int=>cases e; exact ⟨_,.of (.int _),bi mro_int rfl⟩
  case str=>cases e; exact ⟨_,.of (.str _),bi mro_str rfl⟩
  case lst h1 _=>cases e; exact ⟨_,.of (.lst h1),bi mro_list rfl⟩
  case tup h1 _=>cases e; exact ⟨_,.of (.tup h1),bi mro_tuple rfl⟩
  case dK h1 _=>cases e; exact ⟨_,.of (.dK h1),bi ab3 rfl⟩
  case dT h1 _=>cases e; exact ⟨_,.of (.dT h1),bi ab3 rfl⟩
  case obj h1 g _ =>
    obtain ⟨C',g',i,k⟩:=h.get e
    rw [g] at g'
    cases g'
    exact ⟨_,.of (.ins h1 i.cls i.ha i.hn i.htk i.hm),k⟩
  all_goals cases e
def oR (n:String) (tab:List (Nat × Bool)):D→Option Bool
  | .obj c _=>tab.lookup c
  | .non=>some false
  | .bl _=>some (n == "bool" || n == "int")
  | .int _=>some (n == "int")
  | .str _=>some (n == "str")
  | .lst _=>some (n == "list")
  | .tup _=>some (n == "tuple")
  | .dK _=>some (n == "dict")
  | .dT _=>some (n == "dict")
  | _=>none
def ttB (a b:String):Option Bool:=if (Value.type a == Value.type b) = true then some true else if PySem.W.kitMeta b = true then (PySem.fastBuiltinMro a).map (·.contains (.type b)) else none
def Q0 (n:String):Bool:=ttB "NoneType" n == some false && ttB "bool" n == some (n == "bool" || n == "int") && ttB "int" n == some (n == "int") && ttB "str" n == some (n == "str") && ttB "list" n == some (n == "list") && ttB "tuple" n == some (n == "tuple") && ttB "dict" n == some (n == "dict")
theorem Gh {K:PySem.W.Frag} {Γ:Nat→Option Addr} {n:String} {tab:List (Nat × Bool)} (a:Q0 n = true) (h:Ni K Γ (.type n) tab):Bq K Γ (.ty n) (oR n tab):=by
  unfold Q0 at a
  simp only [Bool.and_eq_true,beq_iff_eq] at a
  obtain ⟨⟨⟨⟨⟨⟨a0,a1⟩,a2⟩,a3⟩,a4⟩,a5⟩,a6⟩:=a
  intro H v d b r e
  cases r <;> simp only [oR] at e
  case non=>cases e; exact ⟨_,.of .non,a0⟩
  case bl=>cases e; exact ⟨_,.of (.bl _),a1⟩
  case int=>cases e; exact ⟨_,.of (.int _),a2⟩
  case str=>cases e; exact ⟨_,.of (.str _),a3⟩
  case lst h1 _=>cases e; exact ⟨_,.of (.lst h1),a4⟩
  case tup h1 _=>cases e; exact ⟨_,.of (.tup h1),a5⟩
  case dK h1 _=>cases e; exact ⟨_,.of (.dK h1),a6⟩
  case dT h1 _=>cases e; exact ⟨_,.of (.dT h1),a6⟩
  case obj h1 g _ =>
    obtain ⟨C',g',i,k⟩:=h.get e
    rw [g] at g'
    cases g'
    exact ⟨_,.of (.ins h1 i.cls i.ha i.hn i.htk i.hm),k⟩
  all_goals cases e
theorem tt_bool:Q0 "bool" = true:=by decide +kernel
theorem tt_int:Q0 "int" = true:=by decide +kernel
theorem tt_str:Q0 "str" = true:=by decide +kernel
theorem tt_list:Q0 "list" = true:=by decide +kernel
theorem tt_tuple:Q0 "tuple" = true:=by decide +kernel
end DL
namespace DL
open PySem PySem.Spec PyProof.Rows MX L2
theorem Af (i j:Int):dF (.int i) (.int j) = some (.int (i + j)):=rfl
theorem Ba (i j:Int):zZ (.int i) (.int j) = some (.int (i - j)):=rfl
theorem Av {i j:Int} (h:Bb i j):Lw (.int i) (.int j) = some (.int (i * j)):=by show (if Bb i j then _ else _) = _; rw [if_pos h]
theorem vg {i j:Int} (h:CDiv i j):eQ (.int i) (.int j) = some (.int (i / j)):=by show (if CDiv i j then _ else _) = _; rw [if_pos h]
theorem Ar {i j:Int} (h:0 < j):cB (.int i) (.int j) = some (.int (i % j)):=by show (if 0 < j then _ else _) = _; rw [if_pos h]
theorem Ah (p:Int→Int→Bool) (i j:Int):cmpI p (.int i) (.int j) = some (p i j):=rfl
theorem Ju (b:Bool):truD (.bl b) = some b:=rfl
theorem U3 (b:Bool):asB (.bl b) = some b:=rfl
theorem Iz (xs:List D):d9 (.lst xs) = some (.int xs.length):=rfl
theorem IK (xs:List D):d9 (.rol xs) = some (.int xs.length):=rfl
theorem IV (xs:List D):d9 (.tup xs) = some (.int xs.length):=rfl
theorem Vs (xs:List D) (i:Int):ixD (.lst xs) (.int i) = atI xs i:=rfl
theorem Vt (xs:List D) (i:Int):ixD (.rol xs) (.int i) = atI xs i:=rfl
theorem Vu (xs:List D) (i:Int):ixD (.tup xs) (.int i) = atI xs i:=rfl
theorem Ik (i:Int):intD (.int i) = some (.int i):=rfl
theorem Ij (b:Bool):intD (.bl b) = some (.int (if b then 1 else 0)):=rfl
theorem Dn (i j:Int):maxD [.int i,.int j] = some (.int (if j > i then j else i)):=rfl
theorem Do (i j:Int):minD [.int i,.int j] = some (.int (if j < i then j else i)):=rfl
theorem modb (a b:Int) {m:Int} (h:0 < m) (h2:m ≤ 2 ^ 32):Bb (a % m) b:=by
  have h3:=Int.emod_nonneg a (show m ≠ 0 by omega)
  have h4:=Int.emod_lt_of_pos a h
  exact .inl ⟨by omega,by omega⟩
theorem aeW {a b:Int} (h1:-1000000000 ≤ a) (h2:a ≤ 1000000000):Bb a b:=.inl ⟨by omega,by omega⟩
theorem aeU {a b:Int} (h1:0 < b) (h2:b < 1073741824):CDiv a b:=⟨h1,h2⟩
def nxP (o:Out Fl) (I:DSt→Prop):Prop:=match o with
  | .ok (.nx δ)=>I δ
  | _=>False
theorem Jd (δ:DSt) (I:DSt→Prop):nxP (.ok (.nx δ)) I = I δ:=rfl
theorem Y6 {o:Out Fl} {I:DSt→Prop} (h:nxP o I):∃ δ,o = .ok (.nx δ)∧I δ:=by
  unfold nxP at h
  split at h
  · exact ⟨_,rfl,h⟩
  · exact h.elim
theorem if_t {α:Type} {a b:α}:(if true = true then a else b) = a:=if_pos rfl
theorem if_f {α:Type} {a b:α}:(if false = true then a else b) = b:=if_neg Bool.false_ne_true
theorem Y7 {a b:String}:Str.ofString a = Str.ofString b ↔ a = b:=by
  constructor
  · intro h
    rw [Str.ofString_eq_toList,Str.ofString_eq_toList] at h
    have h1:a.toList.map Char.toNat = b.toList.map Char.toNat:=by
      have:=congrArg (fun s:Str=>s.cps.toList) h
      simpa using this
    have inj:∀ {x y:List Char},x.map Char.toNat = y.map Char.toNat→x = y:=by
      intro x
      induction x with
      | nil=>intro y h; cases y with | nil=>rfl | cons _ _=>cases h
      | cons c x ih =>
        intro y h
        cases y with
        | nil=>cases h
        | cons d y =>
          simp only [List.map_cons,List.cons.injEq] at h
          rw [ih h.2]
          congr 1
          exact Char.ext (UInt32.toNat_inj.mp h.1)
    exact String.toList_inj.mp (inj h1)
  · rintro rfl; rfl
theorem Ax (a b:String):(Str.ofString a == Str.ofString b) = (a == b):=by
  by_cases h:a = b
  · subst h; simp
  · rw [beq_eq_false_iff_ne.mpr h,beq_eq_false_iff_ne.mpr (fun q=>h (Y7.mp q))]
mutual
theorem eqv_refl:∀ d:PyData,d.canLay0 = true→PyData.eqv d d = true
  | .none,_=>by simp [PyData.eqv]
  | .bool b,_=>by simp [PyData.eqv]
  | .int i,_=>by simp [PyData.eqv]
  | .str x,_=>by simp [PyData.eqv]
  | .list xs,h=>by
    simp only [PyData.eqv]
    exact eqvAll_refl xs (by simpa [PyData.canLay0] using h)
  | .tuple xs,h=>by
    simp only [PyData.eqv]
    exact eqvAll_refl xs (by simpa [PyData.canLay0] using h)
  | .dict _,h=>by simp [PyData.canLay0] at h
theorem eqvAll_refl:∀ ds:List PyData,PyData.canLayAll0 ds = true→PyData.eqvAll ds ds = true
  | [],_=>by simp [PyData.eqvAll]
  | d :: ds,h=>by
    simp only [PyData.canLayAll0,Bool.and_eq_true] at h
    simp only [PyData.eqvAll,eqv_refl d h.1,eqvAll_refl ds h.2,Bool.and_self]
end
mutual
def gK:Nat→D→Bool
  | _,.non=>true
  | _,.bl _=>true
  | _,.int _=>true
  | _,.str x=>PyData.strOk x
  | n + 1,.lst xs=>t6 n xs
  | n + 1,.tup xs=>t6 n xs
  | n + 1,.rol xs=>t6 n xs
  | n + 1,.rot xs=>t6 n xs
  | _,_=>false
def t6:Nat→List D→Bool
  | _,[]=>true
  | n,d :: ds=>gK n d && t6 n ds
end
mutual
theorem M6:∀ (d:D) (n:Nat),gK n d = true→∃ p,toPy d = some p∧p.canLay0 = true∧p.depth ≤ n
  | .non,n,_=>⟨_,rfl,by simp [PyData.canLay0],by simp [PyData.depth]⟩
  | .bl b,n,_=>⟨_,rfl,by simp [PyData.canLay0],by simp [PyData.depth]⟩
  | .int b,n,_=>⟨_,rfl,by simp [PyData.canLay0],by simp [PyData.depth]⟩
  | .str x,n,h=>⟨_,rfl,by simpa [PyData.canLay0,gK] using h,by simp [PyData.depth]⟩
  | .lst xs,n + 1,h=>by
    obtain ⟨q,e,c,k⟩:=zO xs n (by simpa [gK] using h)
    exact ⟨.list q,by simp [toPy,e],by simpa [PyData.canLay0] using c,by simp [PyData.depth]; omega⟩
  | .rol xs,n + 1,h=>by
    obtain ⟨q,e,c,k⟩:=zO xs n (by simpa [gK] using h)
    exact ⟨.list q,by simp [toPy,e],by simpa [PyData.canLay0] using c,by simp [PyData.depth]; omega⟩
  | .tup xs,n + 1,h=>by
    obtain ⟨q,e,c,k⟩:=zO xs n (by simpa [gK] using h)
    exact ⟨.tuple q,by simp [toPy,e],by simpa [PyData.canLay0] using c,by simp [PyData.depth]; omega⟩
  | .rot xs,n + 1,h=>by
    obtain ⟨q,e,c,k⟩:=zO xs n (by simpa [gK] using h)
    exact ⟨.tuple q,by simp [toPy,e],by simpa [PyData.canLay0] using c,by simp [PyData.depth]; omega⟩
  | .lst xs,0,h=>by simp [gK] at h
  | .rol xs,0,h=>by simp [gK] at h
  | .tup xs,0,h=>by simp [gK] at h
  | .rot xs,0,h=>by simp [gK] at h
  | .ty _,n,h=>by simp [gK] at h
  | .cls _,n,h=>by simp [gK] at h
  | .dK _,n,h=>by simp [gK] at h
  | .dT _,n,h=>by simp [gK] at h
  | .obj _ _,n,h=>by simp [gK] at h
  | .exc _ _,n,h=>by simp [gK] at h
theorem zO:∀ (ds:List D) (n:Nat),t6 n ds = true→∃ p,toPyL ds = some p∧PyData.canLayAll0 p = true∧PyData.depthAll p ≤ n
  | [],n,_=>⟨_,rfl,by simp [PyData.canLayAll0],by simp [PyData.depthAll]⟩
  | d :: ds,n,h=>by
    simp only [t6,Bool.and_eq_true] at h
    obtain ⟨p,e1,c1,k1⟩:=M6 d n h.1
    obtain ⟨q,e2,c2,k2⟩:=zO ds n h.2
    exact ⟨p :: q,by simp [toPyL,e1,e2],by simp [PyData.canLayAll0,c1,c2],by simp [PyData.depthAll]; omega⟩
end
def eqB (x y:D):Bool:=match toPy x,toPy y with
  | some p,some q=>PyData.eqv p q
  | _,_=>false
theorem FW {x y:D} (hx:gK 50 x = true) (hy:gK 50 y = true):eqD x y = some (eqB x y):=by
  obtain ⟨p,e1,c1,k1⟩:=M6 x 50 hx
  obtain ⟨q,e2,c2,k2⟩:=M6 y 50 hy
  unfold eqD eqB layP
  rw [e1,e2]
  simp [c1,c2,k1,k2]
theorem Y4 {x y:D} (hx:gK 50 x = true) (hy:gK 50 y = true):neD x y = some (!eqB x y):=by
  unfold neD
  rw [FW hx hy]
  rfl
theorem O4 {n:Nat} {x:D} (hx:gK n x = true):eqB x x = true:=by
  obtain ⟨p,e1,c1,k1⟩:=M6 x n hx
  unfold eqB
  rw [e1]
  exact eqv_refl p c1
theorem O5 {x:D} (hx:gK 50 x = true):eqD x x = some true:=by rw [FW hx hx,O4 hx]
theorem vB {x:D} (hx:gK 50 x = true):neD x x = some false:=by rw [Y4 hx hx,O4 hx]; rfl
theorem ae4 (i j:Int):eqB (.int i) (.int j) = (i == j):=by simp [eqB,toPy,PyData.eqv]
theorem eqB_bl (i j:Bool):eqB (.bl i) (.bl j) = (i == j):=by simp [eqB,toPy,PyData.eqv]
theorem HY (i j:Int):eqD (.int i) (.int j) = some (i == j):=by rw [FW (by simp [gK]) (by simp [gK]),ae4]
theorem Jb (i j:Int):neD (.int i) (.int j) = some (!(i == j)):=by rw [Y4 (by simp [gK]) (by simp [gK]),ae4]
theorem Ib:eqD .non .non = some true:=O5 (by simp [gK])
theorem Jc:neD .non .non = some false:=vB (by simp [gK])
theorem HX (i j:Bool):eqD (.bl i) (.bl j) = some (i == j):=by rw [FW (by simp [gK]) (by simp [gK]),eqB_bl]
theorem Ja (i j:Bool):neD (.bl i) (.bl j) = some (!(i == j)):=by rw [Y4 (by simp [gK]) (by simp [gK]),eqB_bl]
theorem U4 {α:Type} (x0:α) (r:List α):atI (x0 :: r) 0 = some x0:=iz (j:=0) rfl
theorem U5 {α:Type} (x0 x1:α) (r:List α):atI (x0 :: x1 :: r) 1 = some x1:=iz (j:=1) rfl
theorem U6 {α:Type} (x0 x1 x2:α) (r:List α):atI (x0 :: x1 :: x2 :: r) 2 = some x2:=iz (j:=2) rfl
theorem U7 {α:Type} (x0 x1 x2 x3:α) (r:List α):atI (x0 :: x1 :: x2 :: x3 :: r) 3 = some x3:=iz (j:=3) rfl
theorem U8 {α:Type} (x0 x1 x2 x3 x4:α) (r:List α):atI (x0 :: x1 :: x2 :: x3 :: x4 :: r) 4 = some x4:=iz (j:=4) rfl
theorem U9 {α:Type} (x0 x1 x2 x3 x4 x5:α) (r:List α):atI (x0 :: x1 :: x2 :: x3 :: x4 :: x5 :: r) 5 = some x5:=iz (j:=5) rfl
theorem Va {α:Type} (x0 x1 x2 x3 x4 x5 x6:α) (r:List α):atI (x0 :: x1 :: x2 :: x3 :: x4 :: x5 :: x6 :: r) 6 = some x6:=iz (j:=6) rfl
theorem Vb {α:Type} (x0 x1 x2 x3 x4 x5 x6 x7:α) (r:List α):atI (x0 :: x1 :: x2 :: x3 :: x4 :: x5 :: x6 :: x7 :: r) 7 = some x7:=iz (j:=7) rfl
theorem Vc {α:Type} (x0 x1 x2 x3 x4 x5 x6 x7 x8:α) (r:List α):atI (x0 :: x1 :: x2 :: x3 :: x4 :: x5 :: x6 :: x7 :: x8 :: r) 8 = some x8:=iz (j:=8) rfl
theorem Vd {α:Type} (x0 x1 x2 x3 x4 x5 x6 x7 x8 x9:α) (r:List α):atI (x0 :: x1 :: x2 :: x3 :: x4 :: x5 :: x6 :: x7 :: x8 :: x9 :: r) 9 = some x9:=iz (j:=9) rfl
theorem Hr {α:Type} (x0 x1 x2 x3 x4 x5 x6 x7 x8 x9 x10:α) (r:List α):atI (x0 :: x1 :: x2 :: x3 :: x4 :: x5 :: x6 :: x7 :: x8 :: x9 :: x10 :: r) 10 = some x10:=iz (j:=10) rfl
theorem Hs {α:Type} (x0 x1 x2 x3 x4 x5 x6 x7 x8 x9 x10 x11:α) (r:List α):atI (x0 :: x1 :: x2 :: x3 :: x4 :: x5 :: x6 :: x7 :: x8 :: x9 :: x10 :: x11 :: r) 11 = some x11:=iz (j:=11) rfl
end DL
namespace DL
open PySem PySem.Spec PyProof.Rows MX L2
section
variable {X:Cx} {Γ:Nat→Option Addr} {E:XK} {e a b c o:Expr} {pos apos p:Pos} {es:List Expr} {fa fb fo:DSt→Out D} {fr:DSt→Out (List D)}
theorem Ra:∀ {bs:List Bool} {us:List Value},Vals (bs.map V.bl) us→us = bs.map Value.bool
  | [],_,r=>by cases r; rfl
  | b :: bs,_,r=>by
    cases r with
    | cons r1 r2=>cases r1; rw [Ra r2]; rfl
theorem all_range (bs:List Bool):(List.range bs.length).all (fun i=>bs.getD i true) = bs.all id:=by
  induction bs with
  | nil=>rfl
  | cons b bs ih =>
    rw [List.length_cons,List.range_succ_eq_map,List.all_cons,List.all_map,List.all_cons]
    have:((fun i=>(b :: bs).getD i true) ∘ Nat.succ) = fun i=>bs.getD i true:=by funext i; simp
    rw [this,ih]; simp
theorem N5 (hc:X.calm = true):pQ X (.builtin "all") (fun xs H Q=>∃ (q:Addr) (bs:List Bool),xs = [.ref q]∧SqL X.K H q (bs.map V.bl)∧Q (.bl (bs.all id)) H):=by
  intro pins s σ H xs us Q I r h
  obtain ⟨q,bs,rfl,hq,k⟩:=h
  obtain ⟨u,rfl,rx⟩:=vals1 r
  cases rx
  obtain ⟨its,r',pl,hz⟩:=I.list hq
  have ei:=Ra r'
  subst ei
  refine call_all_walk (PySem.wpAny_pyIter_list pl.isList ?_)
  have hh:X.A.in1.handled = none:=I.ok.hd hc
  have hlt:q < s.heap.objs.size:=by obtain ⟨ob,hob,_⟩:=pl.isList; exact Heap.lt_size hob
  refine ⟨_,_,_,_,_,_,fun i=>bs.getD i true,rfl,Walks.list hh s.heap.objs.size q (Nat.ne_of_lt hlt) _,⟨⟨_,Heap.get?_push_size _ rfl,rfl,rfl⟩,pl.isList.push _⟩,fun i v s' Q' E' hv hQ=>?_,fun h' tk kp=>?_⟩
  · have hv:(bs.map Value.bool)[i]? = some v:=by simpa using hv
    rw [List.getElem?_map] at hv
    obtain ⟨b,hb,rfl⟩:=Option.map_eq_some_iff.mp hv
    have hQ:Q' (bs.getD i true) s':=hQ
    rw [List.getD_eq_getElem?_getD,hb] at hQ
    exact wpAny_truthy_bool hQ
  · have es:(bs.map Value.bool).toArray.size = bs.length:=by simp
    rw [es,all_range]
    exact ⟨.bl _,H,I.kept (t':=tk) fun b ob hb=>kp b ob (by simp; exact Nat.ne_of_lt (Heap.lt_size hb)) (Heap.get?_push_of_some _ hb),rfl,k⟩
def yR:List D→Option (List Bool)
  | []=>some []
  | d :: r=>match asB d,yR r with
    | some b,some bs=>some (b :: bs)
    | _,_=>none
theorem aF.bools {K:PySem.W.Frag} {H:Hp}:∀ {vs:List V} {ds:List D} {bs:List Bool},aF K Γ H vs ds→yR ds = some bs→vs = bs.map V.bl
  | _,_,_,.nil,e=>by simp only [yR] at e; cases e; rfl
  | _,_,_,.cons (d:=d) (ds:=ds) h r,e=>by
    simp only [yR] at e
    cases h1:asB d with
    | none=>rw [h1] at e; cases e
    | some b =>
      cases h2:yR ds with
      | none=>rw [h1,h2] at e; cases e
      | some bs =>
        rw [h1,h2] at e
        cases e
        rw [h.asB h1,r.bools h2]; rfl
def allD (d:D):Option D:=(vo d).bind fun ds=>(yR ds).map fun bs=>.bl (bs.all id)
theorem Rep.vo {K:PySem.W.Frag} {H:Hp} {v:V} {d:D} {ds:List D} (r:Rep K Γ H v d) (e:vo d = some ds):∃ a vs,v = .ref a∧SqL K H a vs∧aF K Γ H vs ds:=by
  cases r <;> simp only [DL.vo] at e <;> cases e
  · exact ⟨_,_,rfl,SqL.of ‹_›,‹_›⟩
  · exact ⟨_,_,rfl,‹_›,‹_›⟩
theorem de_all (hc:X.calm = true) (hg:Gl X "all") (hm:X.mg "all" = none) (ha:DB X Γ E a fa) (hs:starEach [a] X.env = [(false,eval a X.env)]:=by rfl):DE X Γ E (.Call (.Name "all" p) [a] [] pos) (o1 allD fa) :=
  dC1 (fun G H v dx d Q s r e k=>by
    unfold allD at e
    obtain ⟨ds,e1,e2⟩:=Option.bind_eq_some_iff.mp e
    obtain ⟨bs,e3,rfl⟩:=Option.map_eq_some_iff.mp e2
    obtain ⟨q,vs,rfl,sq,ra⟩:=r.vo e1
    exact ⟨q,bs,rfl,(ra.bools e3) ▸ sq,k _ G H (.refl s) (.bl _)⟩) (vG (N5 hc) hg hm (by decide +kernel) (cg ha gU (by rw [hs]; rfl)) (by decide) (by decide) (by rw [hs]; rfl) (by rfl))
def Its (x:Str):It:=⟨fun i _=>i < x.cps.size,fun i H v H'=>H' = H∧∃ c,x.cps[i]? = some c∧v = .str ⟨#[c]⟩,fun i _=>x.cps.size ≤ i⟩
theorem Q3 {P:Program} {w:World} {K:PySem.W.Frag} {tg:Expr} (x:Str) (tk:Tok) (it:Addr):Turn P w K tg (Its x) [it] it (fun i h=>h.IsStrIter it "str_ascii_iterator" x tk i) where
  mem:=by simp
  obj:=fun i h st b hb=>by
    have z:b = it:=by simpa using hb
    subst z
    obtain ⟨ob,e1,e2,e3⟩:=st
    exact ⟨ob,e1,fun v z=>by rw [e3] at z; cases z⟩
  keep:=fun i h h' st kp=>by
    obtain ⟨ob,e1,e2⟩:=st
    exact ⟨ob,kp it (by simp) ob e1,e2⟩
  item:=by
    intro X hP hw hK hc i pins s σ H E I hf st hg
    subst hP hw hK
    obtain ⟨f0,f1,f2,f3,f4,f5⟩:=hf it (by simp)
    have lt:i < x.cps.size:=hg
    have hx:x.cps[i]? = some x.cps[i]:=Array.getElem?_eq_getElem lt
    refine wpAny_pyNext_ascii_item st hx fun h' st' sb=>?_
    have I1:Inv X pins σ H { s with heap:=h',toks:=s.toks + 1 }:=I.turned (t':=s.toks + 1) (fun b ob hb q=>(sb.2 b hb).trans q) f0 f1 f3 f4 f5
    obtain ⟨ob,e1,e2,e3⟩:=id st'
    exact ⟨_,rfl,abR (s:={ s with heap:=h',toks:=s.toks + 1 }) e1 e2 e3 (by decide) ⟨.str ⟨#[x.cps[i]]⟩,H,I1,⟨_,rfl⟩,⟨rfl,_,hx,rfl⟩,st',fun b hb=>(hf b hb).1⟩⟩
  done:=by
    intro X hP hw hK hc i pins s σ H E I hf st hg
    subst hP hw hK
    obtain ⟨f0,f1,f2,f3,f4,f5⟩:=hf it (by simp)
    have hx:x.cps[i]? = none:=by
      have:x.cps.size ≤ i:=hg
      simp [this]
    exact wpAny_pyNext_ascii_end (I.ok.hd hc) st hx fun h' eb=>⟨rfl,I.turned (t':=s.toks) (fun b ob hb q=>eb b ob hb q) f0 f1 f3 f4 f5⟩
  self:=fun _ _ _ _ _ st h=>wpAny_pyIter_striter_ascii st h
theorem Uz {P:Program} {w:World} {K:PySem.W.Frag} {tg:Expr} (x:Str) (tk:Tok) (it:Addr):Turn P w K tg (Its x) [it] it (fun i h=>h.IsStrIter it "str_iterator" x tk i) where
  mem:=by simp
  obj:=fun i h st b hb=>by
    have z:b = it:=by simpa using hb
    subst z
    obtain ⟨ob,e1,e2,e3⟩:=st
    exact ⟨ob,e1,fun v z=>by rw [e3] at z; cases z⟩
  keep:=fun i h h' st kp=>by
    obtain ⟨ob,e1,e2⟩:=st
    exact ⟨ob,kp it (by simp) ob e1,e2⟩
  item:=by
    intro X hP hw hK hc i pins s σ H E I hf st hg
    subst hP hw hK
    obtain ⟨f0,f1,f2,f3,f4,f5⟩:=hf it (by simp)
    have lt:i < x.cps.size:=hg
    have hx:x.cps[i]? = some x.cps[i]:=Array.getElem?_eq_getElem lt
    refine wpAny_pyNext_wide_item st hx fun h' st' sb=>?_
    have I1:Inv X pins σ H { s with heap:=h',toks:=s.toks + 1 }:=I.turned (t':=s.toks + 1) (fun b ob hb q=>(sb.2 b hb).trans q) f0 f1 f3 f4 f5
    obtain ⟨ob,e1,e2,e3⟩:=id st'
    exact ⟨_,rfl,abR (s:={ s with heap:=h',toks:=s.toks + 1 }) e1 e2 e3 (by decide) ⟨.str ⟨#[x.cps[i]]⟩,H,I1,⟨_,rfl⟩,⟨rfl,_,hx,rfl⟩,st',fun b hb=>(hf b hb).1⟩⟩
  done:=by
    intro X hP hw hK hc i pins s σ H E I hf st hg
    subst hP hw hK
    obtain ⟨f0,f1,f2,f3,f4,f5⟩:=hf it (by simp)
    have hx:x.cps[i]? = none:=by
      have:x.cps.size ≤ i:=hg
      simp [this]
    exact wpAny_pyNext_wide_end (I.ok.hd hc) st hx fun h' eb=>⟨rfl,I.turned (t':=s.toks) (fun b ob hb q=>eb b ob hb q) f0 f1 f3 f4 f5⟩
  self:=fun _ _ _ _ _ st h=>wpAny_pyIter_striter_wide st h
def iStr (tl:TE):TI:=fun σ H R=>tl σ H fun v H1=>∃ x,v = .str x∧R (Its x) H1
theorem pi_str {tg l:Expr} {tl:TE} (hl:PE X l tl):PI X tg l (iStr tl):=by
  intro pins s σ H R I h
  refine thn (hl pins s σ H _ I h) fun v s1 ⟨x,H1,I1,r1,q1⟩=>?_
  obtain ⟨z,ez,q⟩:=q1
  subst ez
  obtain ⟨tk,rfl⟩:=r1
  have fp:∀ b ∈ [s1.heap.objs.size],Ku X pins H1 b:=fun b hb=>by
    have eb:b = s1.heap.objs.size:=by simpa using hb
    subst eb
    exact I1.fpOk (Nat.le_refl _) (I1.hok.fresh (Nat.le_refl _))
  cases ha:z.cps.all (· < 128) with
  | true=>exact wpAny_pyIter_ascii ha ⟨s1.heap.objs.size,[s1.heap.objs.size],_,_,H1,rfl,I1.kept (t':=s1.toks) fun b ob q=>Heap.get?_push_of_some _ q,Q3 z tk _,⟨_,Heap.get?_push_size _ rfl,rfl,rfl⟩,fp,q⟩
  | false=>exact wpAny_pyIter_wide ha ⟨s1.heap.objs.size,[s1.heap.objs.size],_,_,H1,rfl,I1.kept (t':=s1.toks) fun b ob q=>Heap.get?_push_of_some _ q,Uz z tk _,⟨_,Heap.get?_push_size _ rfl,rfl,rfl⟩,fp,q⟩
def acE (x:Str):List D:=x.cps.toList.map fun c=>.str ⟨#[c]⟩
theorem yl_str {K:PySem.W.Frag} {G:Hp} {x:Str}:Yl K Γ G (Its x) (acE x):=by
  have hl:(acE x).length = x.cps.size:=by simp [acE]
  refine ⟨fun i H s lt=>by rw [hl] at lt; exact lt,fun i G' H v H' d s s' y ed=>?_,fun i H s le=>by rw [hl] at le; exact le⟩
  obtain ⟨rfl,ch,hx,rfl⟩:=y
  unfold acE at ed
  rw [List.getElem?_map] at ed
  obtain ⟨ch',e1,rfl⟩:=Option.map_eq_some_iff.mp ed
  have e2:x.cps.toList[i]? = some ch:=by simpa using hx
  rw [e1] at e2
  cases e2
  exact ⟨G',.refl s',.str _⟩
def strO (f:DSt→Out D):DSt→Out (List D):=fun δ=>(f δ).bind fun d=>match d with
  | .str x=>.ok (acE x)
  | _=>.stuck
theorem di_str {tg:Expr} (ha:DE X Γ E a fa):DI X Γ E tg a (strO fa):=PI.imp (pi_str ha) fun σ H R ⟨G0,H0,G,δ,S,w⟩=>by
  refine ⟨G0,H0,G,δ,S,(au w).mono (fun d w v G1 H1 s1 r1=>?_) fun _ k=>k⟩
  split at w
  · cases r1; exact ⟨_,rfl,w _ G1 H1 s1 yl_str⟩
  · exact False.elim w
def rSlS:V→Option Int→Option Int→Hp→VK→Prop:=fun x lo hi H Q=>∃ z,x = .str z∧z.length ≤ sizeLine∧Q (.str (Txt.slice z lo hi)) H
theorem sl_str:SlR X rSlS:=by
  intro pins s σ H x v vl vu lo hi sl Q I rx hs pl pu h
  obtain ⟨z,rfl,hz,q⟩:=h
  obtain ⟨t,rfl⟩:=rx
  obtain ⟨ob,h1,h2,h3⟩:=hs
  refine ⟨"str",_,PySem.F.slot_str_getitem.lookup,typeIs_str _ _ _,?_⟩
  have fin:∀ t' k,EP X pins σ Q (.str (Txt.slice z lo hi) t') { s with toks:=k }:=fun t' k=>⟨.str _,H,I.tok k,⟨_,rfl⟩,q⟩
  cases pl with
  | none =>
    cases pu with
    | none=>exact wpAny_getItem_str_slice (l:=none) (u:=none) (st:=none) ⟨ob,h1,h2,h3⟩ rfl (post_val_or_str ⟨Nat.le_trans (Txt.slice_le z _ _) hz,fun t' k=>fin t' k⟩)
    | int j u=>exact wpAny_getItem_str_slice (l:=none) (u:=some (j,u)) (st:=none) ⟨ob,h1,h2,h3⟩ rfl (post_val_or_str ⟨Nat.le_trans (Txt.slice_le z _ _) hz,fun t' k=>fin t' k⟩)
  | int i u' =>
    cases pu with
    | none=>exact wpAny_getItem_str_slice (l:=some (i,u')) (u:=none) (st:=none) ⟨ob,h1,h2,h3⟩ rfl (post_val_or_str ⟨Nat.le_trans (Txt.slice_le z _ _) hz,fun t' k=>fin t' k⟩)
    | int j u=>exact wpAny_getItem_str_slice (l:=some (i,u')) (u:=some (j,u)) (st:=none) ⟨ob,h1,h2,h3⟩ rfl (post_val_or_str ⟨Nat.le_trans (Txt.slice_le z _ _) hz,fun t' k=>fin t' k⟩)
def toD (K:PySem.W.Frag) (Γ:Nat→Option Addr) (E:XK) (f:DSt→Out (Option Int)):TO:=fun σ H Q=>∃ G0 H0 G δ,SR K Γ G0 H0 G H σ δ∧wpO (f δ) (fun b=>∀ G' H',Step G H G' H'→Q b H') (exD K Γ E G H)
abbrev DO (X:Cx) (Γ:Nat→Option Addr) (E:XK) (lo:Option Expr) (f:DSt→Out (Option Int)):Prop:=PO X lo (toD X.K Γ E f)
theorem PO.imp {lo:Option Expr} {t t':TO} (h:PO X lo t) (k:∀ σ H Q,t' σ H Q→t σ H Q):PO X lo t':=fun pins s σ H Q I q=>h pins s σ H Q I (k _ _ _ q)
def noI:DSt→Out (Option Int):=fun _=>.ok none
def soI (f:DSt→Out D):DSt→Out (Option Int):=fun δ=>(f δ).bind fun d=>match d with
  | .int i=>.ok (some i)
  | _=>.stuck
theorem Xz:DO X Γ E none noI:=PO.imp po_none fun σ H Q ⟨G0,H0,G,δ,S,w⟩=>w G H (.refl S.st.gh)
theorem wG (h:DE X Γ E e fa):DO X Γ E (some e) (soI fa):=PO.imp (po_some h) fun σ H Q ⟨G0,H0,G,δ,S,w⟩=>by
  refine ⟨G0,H0,G,δ,S,(au w).mono (fun d w v G1 H1 s1 r1=>?_) fun _ k=>k⟩
  split at w
  · cases r1; exact ⟨_,rfl,w G1 H1 s1⟩
  · exact False.elim w
def cutL (xs:List D) (lo hi:Option Int):List D:=List.take (HT.sIx xs.length xs.length hi - HT.sIx xs.length 0 lo) (List.drop (HT.sIx xs.length 0 lo) xs)
def cutD:D→Option Int→Option Int→Option D
  | .str z,lo,hi=>if z.length ≤ sizeLine then some (.str (Txt.slice z lo hi)) else none
  | .lst xs,lo,hi=>some (.lst (cutL xs lo hi))
  | .rol xs,lo,hi=>some (.lst (cutL xs lo hi))
  | _,_,_=>none
def oSl (fa:DSt→Out D) (fl fh:DSt→Out (Option Int)):DSt→Out D:=fun δ=>(fa δ).bind fun x=>(fl δ).bind fun l=>(fh δ).bind fun h=>.opt (cutD x l h)
theorem aF.cut {K:PySem.W.Frag} {H:Hp} {vs:List V} {ds:List D} (r:aF K Γ H vs ds) (lo hi:Option Int):aF K Γ H (cutV vs lo hi) (cutL ds lo hi):=by
  unfold cutV cutL
  rw [r.length]
  exact (r.drop _).take _
theorem zb {lo hi:Option Expr} {p2:Pos} {fl fh:DSt→Out (Option Int)} (he:DE X Γ E e fa) (hl:DO X Γ E lo fl) (hu:DO X Γ E hi fh):DE X Γ E (.Subscript e (.Slice lo hi none p2) pos) (oSl fa fl fh):=PE.imp (pe_slice (sl_str.or sl_list) he hl hu) fun σ H Q ⟨G0,H0,G,δ,S,w⟩=>by
  refine ⟨G0,H0,G,δ,S,(au w).mono (fun x w v G1 H1 s1 r1=>?_) fun _ k=>k⟩
  refine ⟨G0,H0,G1,δ,S.step s1,(au w).mono (fun l w G2 H2 s2=>?_) fun _ k=>k.step s1⟩
  refine ⟨G0,H0,G2,δ,(S.step s1).step s2,(au w).mono (fun h w G3 H3 s3=>?_) fun _ k=>k.step (s1.trans s2)⟩
  obtain ⟨d,e,k⟩:=bO w
  have r3:=(r1.mono s2.gg).mono s3.gg
  have k3:=k.step ((s1.trans s2).trans s3)
  unfold cutD at e
  split at e
  · split at e
    · cases e; cases r1; exact .inl ⟨_,rfl,‹_›,k3 _ G3 H3 (.refl s3.gh) (.str _)⟩
    · cases e
  · cases e
    cases r3 with
    | lst h r=>exact .inr ⟨_,_,rfl,SqL.of (s3.gh _ _ h),fun q hq=>k3 _ _ _ (.new s3.gh hq) (.lst aL ((r.cut _ _).mono (bC.up (aG s3.gh hq))))⟩
  · cases e
    cases r3 with
    | rol h r=>exact .inr ⟨_,_,rfl,s3.gh.seq h,fun q hq=>k3 _ _ _ (.new s3.gh hq) (.lst aL ((r.cut _ _).mono (bC.up (aG s3.gh hq))))⟩
  · cases e
theorem afm:∀ {ss:List Str} {us:List Value},Vals (ss.map V.str) us→StrsAre us ss
  | [],_,r=>by cases r; exact .nil
  | x :: ss,_,r=>by
    cases r with
    | cons r1 r2=>obtain ⟨t,rfl⟩:=r1; exact .cons x t (afm r2)
def rJoin (K:PySem.W.Frag):V→List V→Hp→VK→Prop:=fun x vs H Q=>∃ (z:Str) (q:Addr) (ss:List Str),x = .str z∧vs = [.ref q]∧SqL K H q (ss.map V.str)∧(ss.map (·.length)).sum + ss.length * z.length ≤ 16777216∧Q (.str (Txt.join z ss)) H
theorem mt_join:MtR X "str.join" (rJoin X.K):=by
  intro pins s σ H x vs v us Q I rx rv h
  obtain ⟨z,q,ss,rfl,rfl,hq,hz,k⟩:=h
  obtain ⟨t,rfl⟩:=rx
  obtain ⟨u,rfl,ru⟩:=rv.one
  cases ru
  obtain ⟨its,r',pl,_⟩:=I.list hq
  exact join_list pl.isList (by simpa using afm r') hz fun t' tk=>⟨.str _,H,I.tok tk,⟨_,rfl⟩,k⟩
def Kq:List D→Option (List Str)
  | []=>some []
  | .str x :: r=>(Kq r).map (x :: ·)
  | _=>none
theorem aF.strs {K:PySem.W.Frag} {H:Hp}:∀ {vs:List V} {ds:List D} {ss:List Str},aF K Γ H vs ds→Kq ds = some ss→vs = ss.map V.str
  | _,_,_,.nil,e=>by simp only [Kq] at e; cases e; rfl
  | _,_,_,.cons (d:=d) (ds:=ds) h r,e=>by
    unfold Kq at e
    split at e
    · rename_i z; cases z
    · rename_i z
      cases z
      obtain ⟨q,e1,rfl⟩:=Option.map_eq_some_iff.mp e
      cases h
      rw [aF.strs r e1]; rfl
    · cases e
def joinD (z:Str) (d:D):Option D:=(vo d).bind fun ds=>(Kq ds).bind fun ss=>if (ss.map (·.length)).sum + ss.length * z.length ≤ 16777216 then some (.str (Txt.join z ss)) else none
def oJoin (fo fa:DSt→Out D):DSt→Out D:=fun δ=>(fo δ).bind fun d=>match d with
  | .str z=>(fa δ).bind fun y=>.opt (joinD z y)
  | _=>.stuck
theorem de_join {m:Str} {apos cpos:Pos} (ho:DE X Γ E o fo) (ha:DE X Γ E a fa) (hh:∀ {to te:TE},PE X o to→PE X a te→PE X (.Call (.Attribute o m apos) [a] [] cpos) (tBM X.K "str" (rJoin X.K) to (yl te DK))):DE X Γ E (.Call (.Attribute o m apos) [a] [] cpos) (oJoin fo fa):=PE.imp (hh ho ha) fun σ H Q ⟨G0,H0,G,δ,S,w⟩=>by
  refine ⟨G0,H0,G,δ,S,(au w).mono (fun d w v G1 H1 s1 r1=>?_) fun _ k=>k⟩
  split at w
  · rename_i z
    cases r1
    refine ⟨rfl,G0,H0,G1,δ,S.step s1,(au w).mono (fun y w u G2 H2 s2 r2=>?_) fun _ k=>k.step s1⟩
    obtain ⟨r,e,k⟩:=bO w
    unfold joinD at e
    obtain ⟨ds,e1,e2⟩:=Option.bind_eq_some_iff.mp e
    obtain ⟨ss,e3,e4⟩:=Option.bind_eq_some_iff.mp e2
    split at e4
    · cases e4
      obtain ⟨q,vs,rfl,sq,ra⟩:=r2.vo e1
      exact ⟨z,q,ss,rfl,rfl,(ra.strs e3) ▸ s2.gh.seq sq,‹_›,k _ G2 H2 (s1.trans s2) (.str _)⟩
    · cases e4
  · exact False.elim w
def oZ:List Str→List Str→List Str
  | acc,[]=>acc
  | acc,x :: r=>oZ (if acc.contains x then acc else acc ++ [x]) r
end
end DL
namespace DL
open PySem PySem.Spec PyProof.Rows MX L2
theorem Aw:∀ (l acc:List Str) (x:Str),oZ acc (l ++ [x]) = if (oZ acc l).contains x then oZ acc l else oZ acc l ++ [x]
  | [],acc,x=>rfl
  | y :: l,acc,x=>by simp only [List.cons_append,oZ]; exact Aw l _ x
theorem Qg:∀ (l acc:List Str),(oZ acc l).length ≤ acc.length + l.length
  | [],acc=>Nat.le_refl _
  | y :: l,acc=>by
    simp only [oZ,List.length_cons]
    have h1:=Qg l (if acc.contains y then acc else acc ++ [y])
    have h2:(if acc.contains y = true then acc else acc ++ [y]).length ≤ acc.length + 1:=by split <;> simp
    omega
theorem Dp:∀ (l acc:List Str),(acc ++ l).Nodup→oZ acc l = acc ++ l
  | [],acc,_=>by simp [oZ]
  | y :: l,acc,h=>by
    have hy:y ∉ acc:=fun z=>by
      have:=(List.nodup_append.mp h).2.2 y z y List.mem_cons_self
      exact this rfl
    simp only [oZ]
    rw [if_neg (by simpa using hy),Dp l (acc ++ [y]) (by simpa using h)]
    simp
section
variable {prog:Program} {w:World} {A:Around} {E:Value→Shared→Prop} {R:Result→Shared→Prop}
theorem isS (x:Str) (t:Tok):(PySem.strKind prog w).is x (.str x t) = true:=strKind_is prog w x t
theorem acx {h h':Heap} {a:Addr} {S:Str→Bool} {n:Nat} (x:h.SetOf (PySem.strKind prog w) a S n) (k:∀ o,h.get? a = some o→h'.get? a = some o):h'.SetOf (PySem.strKind prog w) a S n:=by
  obtain ⟨o,es,ep,tb,ho,z⟩:=x
  exact ⟨o,es,ep,tb,k o ho,z⟩
theorem acy {h:Heap} {a:Addr} {S S':Str→Bool} {n n':Nat} (x:h.SetOf (PySem.strKind prog w) a S n) (e:S = S') (en:n = n'):h.SetOf (PySem.strKind prog w) a S' n':=by subst e en; exact x
theorem set_loop {I l S:Addr} {items:Array Value} {ss:List Str} (hi:items.toList.length = ss.length) (hv:∀ (i:Nat) v,items[i]? = some v→∃ x t,ss[i]? = some x∧v = .str x t) (W:Walks prog w A.in1 I [I,l] [I] items.size (fun i v=>items[i]? = some v) (fun i h=>h.IsListIter I l i∧h.IsList l items))
    (nI:S ≠ I) (nl:S ≠ l) (few:ss.length + 1 < scanBound):∀ (k i:Nat) (s:Shared),items.size - i = k→i ≤ items.size→(s.heap.IsListIter I l i∧s.heap.IsList l items) →
      s.heap.SetOf (PySem.strKind prog w) S (fun x=>(oZ [] (ss.take i)).contains x) (oZ [] (ss.take i)).length →
      (∀ h' tk,(∀ b o,b ≠ S→b ≠ I→s.heap.get? b = some o→h'.get? b = some o)→h'.SetOf (PySem.strKind prog w) S (fun x=>(oZ [] ss).contains x) (oZ [] ss).length→R (.ok (.ret .none)) { s with heap:=h',toks:=tk }) →
      codeAny (model prog w) A (.builtin "set.update.loop" ⟨[.ref S,.ref I],[]⟩) R s:=by
  have hsz:items.size = ss.length:=by simpa using hi
  intro k
  induction k with
  | zero =>
    intro i s ek le st hS q
    obtain rfl:i = items.size:=by omega
    refine codeAny_builtin PyProof.Rows.F.entry_set_update_loop ?_
    rw [Around.under_plainId PyProof.Rows.F.plain_set_update_loop _]
    show wpAny _ A.in1 (pyNext (.ref I) >>= _) _ _ s
    refine wpAny_bind (W.done s _ _ st fun h' tk kp=>wpAny_pure (q h' tk (fun b o h1 h2 z=>kp b o (by simpa using h2) z) ?_))
    have z:=acx hS fun o ho=>kp S o (by simpa using nI) ho
    rwa [hsz,List.take_length] at z
  | succ k ih =>
    intro i s ek le st hS q
    have lt:i < items.size:=by omega
    refine codeAny_builtin PyProof.Rows.F.entry_set_update_loop ?_
    rw [Around.under_plainId PyProof.Rows.F.plain_set_update_loop _]
    show wpAny _ A.in1 (pyNext (.ref I) >>= _) _ _ s
    refine wpAny_bind (W.item i s _ _ lt st fun v h1 tk1 pv st1 kp1=>?_)
    obtain ⟨x,t,hx,rfl⟩:=hv i v pv
    have hS1:=acx (h':=h1) hS fun o ho=>kp1 S o (by simpa using nI) ho
    show wpAny _ A.in1 (holding [Value.str x t] (setAdd S (.str x t)) >>= _) _ _ _
    refine wpAny_bind (wpAny_holding ?_)
    unfold setAdd
    refine wpAny_holding (wpAny_bind ((PySem.strKind prog w).pyHash (k:=x) (isS x t) ?_))
    have nl2:=Qg (ss.take i) []
    have tl:(ss.take i).length ≤ ss.length:=List.length_take_le' i ss
    refine wpAny_setAddHashed_of (knd:=PySem.strKind prog w) (k:=x) (isS x t) rfl hS1 (by simp at nl2; omega) fun h2 sb hS2=>?_
    have tk2:ss.take (i + 1) = ss.take i ++ [x]:=by
      obtain ⟨hl,e⟩:=List.getElem?_eq_some_iff.mp hx
      rw [List.take_succ,hx]; rfl
    have hS3:h2.SetOf (PySem.strKind prog w) S (fun x=>(oZ [] (ss.take (i + 1))).contains x) (oZ [] (ss.take (i + 1))).length:=by
      refine acy hS2 (funext fun y=>?_) ?_
      · rw [tk2,Aw]
        by_cases c:(oZ [] (ss.take i)).contains x = true
        · rw [if_pos c]
          by_cases e:y = x
          · subst e; simp only [c,Bool.true_or]
          · simp [e]
        · rw [if_neg c]
          simp
      · rw [tk2,Aw]
        by_cases c:(oZ [] (ss.take i)).contains x = true
        · rw [if_pos c,if_pos c]
        · rw [if_neg c,if_neg c]; simp
    refine wpAny_pure ⟨plainId_quiet PyProof.Rows.F.plain_set_update_loop _,ih (i + 1) _ (by omega) lt ?_ hS3 fun h3 tk3 kp3 z=>q h3 tk3 (fun b o b1 b2 y=>kp3 b o b1 b2 ((sb.2 b b1).trans (kp1 b o (by simpa using b2) y))) z⟩
    refine W.frame _ _ _ st1 fun b hb o y=>?_
    have bS:b ≠ S:=fun z=>by
      subst z
      rcases List.mem_cons.mp hb with z | z
      · exact nI z
      · exact nl (by simpa using z)
    exact (sb.2 b bS).trans y
set_option maxHeartbeats 4000000 in
theorem Rt {s:Shared} {l:Addr} {items:Array Value} {ss:List Str} {Q:Value→Shared→Prop} (hh:A.handled = none) (hl:s.heap.IsList l items) (hi:items.toList.length = ss.length) (hv:∀ (i:Nat) v,items[i]? = some v→∃ x t,ss[i]? = some x∧v = .str x t) (few:ss.length + 1 < scanBound)
    (q:∀ (h':Heap) (tk:Nat),h'.SetOf (PySem.strKind prog w) s.heap.objs.size (fun x=>(oZ [] ss).contains x) (oZ [] ss).length→(∀ b o,s.heap.get? b = some o→h'.get? b = some o)→Q (.ref s.heap.objs.size) { s with heap:=h',toks:=tk }) :
    wpAny (model prog w) A (call (.type "set") [.ref l]) Q E s:=by
  obtain ⟨c0,tl0,mro0⟩:=PySem.F.called_set.mro
  have made0:=PySem.F.called_set.made
  have sub0:=PySem.F.called_set.sub
  have nt0:=PySem.F.called_set.notType
  have cc0:=PySem.F.called_set.canCreate
  have tc0:=PySem.F.typeCall_set_1 (.ref l)
  refine wpAny_call (codeAny_of_tree ?_)
  show wpAny _ _ (callAny (.type "set") _) _ _ _
  refine wpAny_pure ⟨Code.quiet_builtin _ (by decide +kernel),codeAny_builtin PySem.F.entry_type_call ?_⟩
  rw [Around.under_plain (weight_type_call_type "set" [.ref l] []) rfl]
  repeat (any_goals (first | assumption | wp_step))
  refine codeAny_mono (code_set_new_1 (.ref l) (E:=E) (Q₁:=fun ob s1=>∃ led:Bool,ob = .ref s.heap.objs.size∧s1 = { s with heap:=s.heap.push { cls:=.type "set",dict:=none,data:=.set #[] 0 (.fresh 0 0 led) } }) fun led=>⟨led,rfl,rfl⟩) fun r1 s1 z1=>?_
  cases r1 with
  | error e=>exact z1
  | ok fl1 =>
    cases fl1 with
    | ret ob1 =>
      obtain ⟨led,rfl,rfl⟩:=z1
      have hS:=Heap.get?_push_size s.heap (o:={ cls:=.type "set",dict:=none,data:=.set #[] 0 (.fresh 0 0 led) }) rfl
      have hT:Shared.TypeIs { s with heap:=s.heap.push { cls:=.type "set",dict:=none,data:=.set #[] 0 (.fresh 0 0 led) } } (.ref s.heap.objs.size) "set":=⟨_,hS,rfl⟩
      have il0:=PySem.F.called_set.init.lookup
      have ib0:=PySem.F.called_set.init.bind (.ref s.heap.objs.size)
      repeat (any_goals (first | assumption | wp_step))
      refine codeAny_mono (codeAny_call_builtin (R:=wants (fun r2 s2=>r2 = .none∧∃ h' tk,s2 = { s with heap:=h',toks:=tk }∧h'.SetOf (PySem.strKind prog w) s.heap.objs.size (fun x=>(oZ [] ss).contains x) (oZ [] ss).length∧(∀ b o,s.heap.get? b = some o→h'.get? b = some o)) E)
        PySem.F.called_set.init.plain PySem.F.entry_set_init (check_set_init_1 hT ?_)) fun r2 s2 z2=>?_
      · obtain ⟨⟨cl,dl,dt,sl⟩,hol,hc1,nn,hd1⟩:=hl
        dsimp only at hc1 hd1
        subst hc1
        subst hd1
        have hol1:=Heap.get?_push_of_some (h:=s.heap) { cls:=.type "set",dict:=none,data:=.set #[] 0 (.fresh 0 0 led) } hol
        have sls:=PySem.F.sub_list_set
        have slf:=PySem.F.sub_list_frozenset
        have nld:(Value.type "list" == Value.type "dict") = false:=by decide
        have hl1:(s.heap.push { cls:=.type "set",dict:=none,data:=.set #[] 0 (.fresh 0 0 led) }).IsList l items:=⟨_,hol1,rfl,nn,rfl⟩
        unfold Builtin.«set.__init__» noKeywords Builtin.Frozenset.updateFrom
        generalize hPI:pyIter = PI
        wp_walk
        subst hPI
        refine wpAny_pyIter_list hl1 (wpAny_bind (wpAny_runValue ?_))
        have lS:l < s.heap.objs.size:=Heap.lt_size hol
        have h3:A.in1.in1.in1.handled = none:=by simp [hh]
        have sz1:(s.heap.push { cls:=.type "set",dict:=none,data:=.set #[] 0 (.fresh 0 0 led) }).objs.size = s.heap.objs.size + 1:=Heap.size_push ..
        have nel:l ≠ (s.heap.push { cls:=.type "set",dict:=none,data:=.set #[] 0 (.fresh 0 0 led) }).objs.size:=by rw [sz1]; exact Nat.ne_of_lt (Nat.lt_succ_of_lt lS)
        refine set_loop hi hv (Walks.list h3 _ l nel items) (by rw [sz1]; exact Nat.ne_of_lt (Nat.lt_succ_self _)) (Nat.ne_of_gt lS) few (items.size - 0) 0 _ rfl (Nat.zero_le _) ⟨⟨_,Heap.get?_push_size _ rfl,rfl,rfl⟩,hl1.push _⟩ ?_ fun h' tk kp z=>?_
        · exact acy ((PyProof.Rows.setObjOf_fresh (knd:=PySem.strKind prog w) led).setOf (Heap.get?_push_of_some _ hS) (by decide)) rfl rfl
        · refine wpAny_pure (wpAny_pure ⟨rfl,h',tk,rfl,z,fun b o y=>?_⟩)
          have blt:=Heap.lt_size y
          exact kp b o (Nat.ne_of_lt blt) (by rw [sz1]; exact Nat.ne_of_lt (Nat.lt_succ_of_lt blt)) (Heap.get?_push_of_some _ (Heap.get?_push_of_some _ y))
      · cases r2 with
        | error e=>exact z2
        | ok fl2 =>
          cases fl2 with
          | ret r =>
            obtain ⟨rfl,h',tk,rfl,zS,kp⟩:=z2
            repeat (any_goals (first | assumption | wp_step))
            exact q _ _ zS kp
          | _=>exact z2.elim
    | _=>exact z1.elim
end
def sstP (n:Nat) (a:Addr) (h:Heap):Prop:=∃ o es ep tb,h.get? a = some o∧o.ExactSet∧o.data = .set es ep tb∧tb.fits es.size = true∧es.size = n
section
variable {X:Cx} {Γ:Nat→Option Addr} {E:XK} {e a b c o:Expr} {pos apos p p2 pos2:Pos} {fa:DSt→Out D}
theorem sst_ok {P:Program} {w:World} {H:Hp} {h:Heap} {n:Nat} {a:Addr} (x:sstP n a h):dX P w H h a (.ext (sstP n a)):=by
  refine ⟨x,?_,fun h1 h2 y k=>?_⟩
  · obtain ⟨o,_,_,_,q,_⟩:=x
    exact ⟨o,q⟩
  · obtain ⟨o,es,ep,tb,q,r⟩:=y
    exact ⟨o,es,ep,tb,k o q,r⟩
theorem adh (hc:X.calm = true):pQ X (.type "set") (fun xs H Q=>∃ (q:Addr) (ss:List Str),xs = [.ref q]∧SqL X.K H q (ss.map V.str)∧ss.length ≤ 1000∧∀ z,H z = none→Q (.ref z) (upd H z (.ext (sstP (oZ [] ss).length z)))):=by
  intro pins s σ H xs us Q I r h
  obtain ⟨q,ss,rfl,hq,hz,k⟩:=h
  obtain ⟨u,rfl,rx⟩:=vals1 r
  cases rx
  obtain ⟨its,r',pl,_⟩:=I.list hq
  have hl:=r'.length
  rw [List.length_map] at hl
  refine Rt (ss:=ss) (I.ok.hd hc) pl.isList (by simpa using hl.symm) (fun i v hv=>?_) (by unfold scanBound; omega) fun h' tk hS kp=>?_
  · have hv:its[i]? = some v:=by simpa using hv
    have lt:i < its.length:=(List.getElem?_eq_some_iff.mp hv).1
    have:(ss.map V.str)[i]? = some (V.str ss[i]):=by rw [List.getElem?_map,List.getElem?_eq_getElem (by omega)]; rfl
    obtain ⟨u,hu,ru⟩:=r'.get this
    rw [hv] at hu
    cases hu
    obtain ⟨t,rfl⟩:=ru
    exact ⟨_,t,List.getElem?_eq_getElem (by omega),rfl⟩
  · obtain ⟨ob,es,ep,tb,h1,h2,h3,_,_,_,h4,h5⟩:=hS
    exact ⟨.ref s.heap.objs.size,_,I.laid (t':=tk) kp (Nat.le_refl _) (sst_ok ⟨ob,es,ep,tb,h1,h2,h3,h4,h5⟩),rfl,k _ (I.hok.fresh (Nat.le_refl _))⟩
theorem adg:pQ X (.builtin "len") (fun xs H Q=>∃ (z:Addr) (n:Nat),xs = [.ref z]∧H z = some (.ext (sstP n z))∧n ≤ 1000∧Q (.int n) H):=by
  intro pins s σ H xs us Q I r h
  obtain ⟨z,n,rfl,hz,hn,k⟩:=h
  obtain ⟨u,rfl,rx⟩:=vals1 r
  cases rx
  obtain ⟨⟨ob,es,ep,tb,h1,h2,h3,h4,h5⟩,_,_⟩:=I.hok z _ hz
  refine call_len_set h1 h2 h3 h4 (by omega) ⟨.int n,H,I.tok _,⟨s.toks + 1,by rw [h5]⟩,k⟩
def Dk:D→Option D:=fun d=>(vo d).bind fun ds=>(Kq ds).bind fun ss=>if ss.length ≤ 1000 then some (.int (oZ [] ss).length) else none
theorem afA (hc:X.calm = true) (hg:Gl X "len") (hm:X.mg "len" = none) (hg2:Gl X "set") (hm2:X.mg "set" = none) (ha:DE X Γ E a fa) (hs:starEach [a] X.env = [(false,eval a X.env)]:=by rfl) (hs2:starEach [.Call (.Name "set" p2) [a] [] pos2] X.env = [(false,eval (.Call (.Name "set" p2) [a] [] pos2) X.env)]:=by rfl) :
    DE X Γ E (.Call (.Name "len" p) [.Call (.Name "set" p2) [a] [] pos2] [] pos) (o1 Dk fa) :=
  PE.imp (vG adg hg hm PySem.boot_len (cg (Jj (adh hc) hg2 hm2 (by decide +kernel) (cg ha gU (by rw [hs]; rfl)) (by decide) (by decide) (by rw [hs]; rfl) (by rfl)) gU (by rw [hs2]; rfl)) (by decide) (by decide) (by rw [hs2]; rfl) (by rfl)) fun σ H Q ⟨G0,H0,G,δ,S,w⟩=>by
    refine ⟨G0,H0,G,δ,S,(au w).mono (fun d w v G1 H1 s1 r1=>?_) fun _ k=>k⟩
    obtain ⟨r,e,k⟩:=bO w
    unfold Dk at e
    obtain ⟨ds,e1,e2⟩:=Option.bind_eq_some_iff.mp e
    obtain ⟨ss,e3,e4⟩:=Option.bind_eq_some_iff.mp e2
    split at e4
    · rename_i hz
      cases e4
      obtain ⟨q,vs,rfl,sq,ra⟩:=r1.vo e1
      have ev:=ra.strs e3
      subst ev
      have hn:=Qg ss []
      exact ⟨q,ss,rfl,s1.gh.seq sq,hz,fun z hz0=>⟨z,_,rfl,aL,by simp at hn; omega,k _ G1 _ (s1.trans (.aside s1.gh hz0)) (.int _)⟩⟩
    · cases e4
end
end DL
namespace DL
open PySem PySem.Spec PyProof.Rows MX L2
mutual
def noL:D→Bool
  | .non=>true
  | .bl _=>true
  | .int _=>true
  | .str _=>true
  | .ty _=>true
  | .cls _=>true
  | .tup xs=>noLs xs
  | .obj _ fs=>noLf fs
  | _=>false
def noLs:List D→Bool
  | []=>true
  | d :: r=>noL d && noLs r
def noLf:List (Str × D)→Bool
  | []=>true
  | (_,d) :: r=>noL d && noLf r
end
section
variable {K:PySem.W.Frag} {Γ:Nat→Option Addr} {G1 G2:Hp}
mutual
theorem Rep.less (e:∀ b o,G1 b = some o→(∀ vs,o ≠ .lst vs)→G2 b = some o):∀ {v:V} {d:D},Rep K Γ G1 v d→noL d = true→Rep K Γ G2 v d
  | _,_,.non,_=>.non
  | _,_,.bl b,_=>.bl b
  | _,_,.int i,_=>.int i
  | _,_,.str x,_=>.str x
  | _,_,.ty n,_=>.ty n
  | _,_,.cls h,_=>.cls h
  | _,_,.tup h r,q=>.tup (e _ _ h (fun _ z=>nomatch z)) (aF.less e r (by simpa [noL] using q))
  | _,_,.obj h g r,q=>.obj (e _ _ h (fun _ z=>nomatch z)) g (lH.less e r (by simpa [noL] using q))
  | _,_,.lst _ _,q=>by simp [noL] at q
  | _,_,.rol _ _,q=>by simp [noL] at q
  | _,_,.rot _ _,q=>by simp [noL] at q
  | _,_,.dK _ _,q=>by simp [noL] at q
  | _,_,.dT _ _,q=>by simp [noL] at q
  | _,_,.e0 _ _,q=>by simp [noL] at q
  | _,_,.e1 _ _ _ _,q=>by simp [noL] at q
theorem aF.less (e:∀ b o,G1 b = some o→(∀ vs,o ≠ .lst vs)→G2 b = some o):∀ {v:List V} {d:List D},aF K Γ G1 v d→noLs d = true→aF K Γ G2 v d
  | _,_,.nil,_=>.nil
  | _,_,.cons h r,q=>by
    simp only [noLs,Bool.and_eq_true] at q
    exact .cons (Rep.less e h q.1) (aF.less e r q.2)
theorem lH.less (e:∀ b o,G1 b = some o→(∀ vs,o ≠ .lst vs)→G2 b = some o):∀ {v:List (Str × V)} {d:List (Str × D)},lH K Γ G1 v d→noLf d = true→lH K Γ G2 v d
  | _,_,.nil,_=>.nil
  | _,_,.cons h r,q=>by
    simp only [noLf,Bool.and_eq_true] at q
    exact .cons (Rep.less e h q.1) (lH.less e r q.2)
end
end
section
variable {K:PySem.W.Frag} {Γ:Nat→Option Addr} {G0 H0 G H:Hp} {σ:L2.St} {δ:DSt}
def lends:Sl→Bool
  | .sh _=>true
  | .ol _=>true
  | .oll _=>true
  | _=>false
theorem Inner.lsts {O:Addr→Option Nat} {i:Nat}:∀ {vs:List V} {dss:List (List D)},Inner K Γ H0 G H O i vs dss→∀ b,V.ref b ∈ vs→∃ us,H b = some (.lst us)
  | _,_,.nil,b,hb=>by cases hb
  | _,_,.cons h g h0 o r n t,b,hb=>by
    rcases List.mem_cons.mp hb with z | z
    · cases z; exact ⟨_,h⟩
    · exact t.lsts b z
theorem SR.lend (S:SR K Γ G0 H0 G H σ δ) (i:Nat) (hl:∀ s,δ[i]? = some (some s)→lends s = true):∃ G',SR K Γ G0 H0 G' H σ (frz i δ)∧∀ b,G' b = G b ∨ (G b = none∧∃ vs,G' b = some (.lst vs)):=by
  obtain ⟨O,q⟩:=id S.sl
  unfold frz
  split
  · rename_i s e
    obtain ⟨v,hv,h⟩:=q i s e
    cases s with
    | sh d=>exact ⟨G,by rw [show frzS (.sh d) = .sh d from rfl,sE e]; exact S,fun _=>.inl rfl⟩
    | ol ds =>
      obtain ⟨a,vs,ev,h1,h2,h3,h4,h5⟩:=h
      subst ev
      have hp:∀ b,decide (b = a) = true→O b = some i∧G b = none∧H0 b = none:=fun b z=>by obtain rfl:=of_decide_eq_true z; exact ⟨h4,h2,h3⟩
      refine ⟨_,S.Pb q (fun b=>decide (b = a)) hp hv (.lst (by unfold d7; rw [if_pos (by simp)]; exact h1) (h5.mono (fV fun b z=>(hp b z).2.1))),fun b=>?_⟩
      unfold d7
      by_cases z:b = a
      · subst z
        exact .inr ⟨h2,vs,by rw [if_pos (by simp)]; exact h1⟩
      · exact .inl (if_neg (by simp [z]))
    | oll ds =>
      obtain ⟨a,vs,ev,h1,h2,h3,h4,h5,h6⟩:=h
      subst ev
      have hp:∀ b,decide (b = a ∨ V.ref b ∈ vs) = true→O b = some i∧G b = none∧H0 b = none:=fun b z=>by
        rcases of_decide_eq_true z with z | z
        · subst z; exact ⟨h4,h2,h3⟩
        · exact h6.facts b z
      refine ⟨_,S.Pb q (fun b=>decide (b = a ∨ V.ref b ∈ vs)) hp hv (.lst (by unfold d7; rw [if_pos (by simp)]; exact h1) (h6.frozen (fV fun b z=>(hp b z).2.1) fun b hb=>by simp [hb])),fun b=>?_⟩
      unfold d7
      by_cases z:b = a ∨ V.ref b ∈ vs
      · refine .inr ⟨(hp b (decide_eq_true z)).2.1,?_⟩
        rw [if_pos (decide_eq_true z)]
        rcases z with z | z
        · subst z; exact ⟨_,h1⟩
        · exact h6.lsts b z
      · exact .inl (if_neg (by simp [z]))
    | od ds=>exact absurd (hl _ e) (by simp [lends])
    | odT ds=>exact absurd (hl _ e) (by simp [lends])
    | omx ds=>exact absurd (hl _ e) (by simp [lends])
  · exact ⟨G,S,fun _=>.inl rfl⟩
end
section
variable {X:Cx} {Γ:Nat→Option Addr} {E:XK} {e:Expr}
def zQ (i:Nat) (f:DSt→Out D):DSt→Out D:=fun δ=>match δ[i]? with
  | some (some s)=>if lends s = true then (f (frz i δ)).bL.bind fun d=>if noL d = true then .ok d else .stuck else .stuck
  | _=>.stuck
theorem MN (i:Nat) {f:DSt→Out D} (h:DE X Γ E e f):DE X Γ E e (zQ i f):=PE.imp h fun σ H Q ⟨G0,H0,G,δ,S,w⟩=>by
  unfold zQ at w
  split at w
  · rename_i s es
    by_cases hl:lends s = true
    · rw [if_pos hl] at w
      obtain ⟨G',S',hG⟩:=S.lend i (fun s' e'=>by rw [es] at e'; cases e'; exact hl)
      refine ⟨G0,H0,G',_,S',(jM (au w)).mono (fun d w v G1 H1 s1 r1=>?_) fun _ k=>k⟩
      by_cases hd:noL d = true
      · rw [if_pos hd] at w
        have key:∀ b,(∃ vs,G' b = some (.lst vs))∧G b = none ∨ G' b = G b:=fun b=>by
          rcases hG b with z | ⟨z1,z2⟩
          · exact .inr z
          · exact .inl ⟨z2,z1⟩
        classical
        refine w v (fun b=>if G b = none∧G' b ≠ none then none else G1 b) H1 ⟨fun b o q=>?_,s1.hh,fun b o q=>?_,fun b hb g=>?_⟩ (r1.less (fun b o q n=>?_) hd)
        · rw [if_neg (fun z=>by rw [q] at z; cases z.1)]
          refine s1.gg b o ?_
          rcases key b with ⟨_,z⟩ | z
          · rw [q] at z; cases z
          · rw [z]; exact q
        · split at q
          · cases q
          · exact s1.gh b o q
        · split
          · rfl
          · rename_i nz
            have:G' b = none:=by
              cases z:G' b with
              | none=>rfl
              | some o=>exact absurd ⟨g,by rw [z]; exact fun z=>nomatch z⟩ nz
            exact s1.sep b hb this
        · rw [if_neg fun z=>?_]
          · exact q
          · rcases key b with ⟨⟨vs,z1⟩,_⟩ | z1
            · have:=s1.gg b _ z1
              rw [q] at this
              exact n vs (Option.some.inj this)
            · exact z.2 (z1.trans z.1)
      · rw [if_neg hd] at w
        exact False.elim w
    · rw [if_neg hl] at w
      exact False.elim w
  · exact False.elim w
end
end DL
namespace DL
open PySem PySem.Spec PyProof.Rows MX L2
def keyD:D→Option Key
  | .int i=>some (.inl i)
  | .str x=>some (.inr x)
  | _=>none
def hasK (kvs:List (Key × D)) (k:Key):Bool:=kvs.any fun kv=>decide (kv.1 = k)
def putKD (kvs:List (Key × D)) (k:Key) (v:D):List (Key × D) :=
  if (kvs.any fun kv=>decide (kv.1 = k)) = true then kvs.map (fun kv=>if kv.1 = k then (kv.1,v) else kv) else kvs ++ [(k,v)]
section
variable {X:Cx} {Γ:Nat→Option Addr} {E:XK} {e a b c:Expr} {pos:Pos} {es:List Expr} {fa fb:DSt→Out D} {fr:DSt→Out (List D)} {ft:DSt→Out Bool} {K:PySem.W.Frag} {G H:Hp}
theorem Rep.key {v:V} {d:D} {k:Key} (r:Rep K Γ G v d) (e:keyD d = some k):v = kV k:=by
  cases r <;> simp only [keyD] at e <;> cases e <;> rfl
theorem oG.any {k:Key}:∀ {kvs:List (Key × V)} {kds:List (Key × D)},oG K Γ G kvs kds→(kvs.any fun kv=>decide (kv.1 = k)) = (kds.any fun kv=>decide (kv.1 = k))
  | _,_,.nil=>rfl
  | _,_,.cons h r=>by rw [List.any_cons,List.any_cons,r.any]
theorem oG.snoc {k:Key} {v:V} {d:D} (h:Rep K Γ G v d):∀ {kvs:List (Key × V)} {kds:List (Key × D)},oG K Γ G kvs kds→oG K Γ G (kvs ++ [(k,v)]) (kds ++ [(k,d)])
  | _,_,.nil=>.cons h .nil
  | _,_,.cons h' r=>.cons h' (r.snoc h)
theorem oG.repl {k:Key} {v:V} {d:D} (h:Rep K Γ G v d):∀ {kvs:List (Key × V)} {kds:List (Key × D)},oG K Γ G kvs kds→oG K Γ G (kvs.map fun kv=>if kv.1 = k then (kv.1,v) else kv) (kds.map fun kv=>if kv.1 = k then (kv.1,d) else kv)
  | _,_,.nil=>.nil
  | _,_,.cons (k:=k') h' r=>by
    rw [List.map_cons,List.map_cons]
    by_cases z:k' = k
    · simp only [z,if_true]; exact .cons h (r.repl h)
    · simp only [z,if_false]; exact .cons h' (r.repl h)
theorem oG.put {k:Key} {v:V} {d:D} (h:Rep K Γ G v d) {kvs:List (Key × V)} {kds:List (Key × D)} (r:oG K Γ G kvs kds):oG K Γ G (putK kvs k v) (putKD kds k d):=by
  unfold putK putKD
  rw [r.any]
  split
  · exact r.repl h
  · exact r.snoc h
theorem oG.length:∀ {kvs:List (Key × V)} {kds:List (Key × D)},oG K Γ G kvs kds→kvs.length = kds.length
  | _,_,.nil=>rfl
  | _,_,.cons _ r=>by rw [List.length_cons,List.length_cons,r.length]
theorem oG.has {k:Key} {kvs:List (Key × V)} {kds:List (Key × D)} (r:oG K Γ G kvs kds):(Jv kvs k).isSome = hasK kds k:=by
  unfold hasK
  rw [← Q7,r.any]
def repL (fa fb:DSt→Out D):DSt→Out (List D):=fun δ=>(fa δ).bind fun x=>(fb δ).bind fun y=>match x,y with
  | .lst i,.int j=>if -(2 ^ 63) ≤ j∧j < 2 ^ 63∧i.length * j.toNat ≤ sizeLine then .ok (List.replicate j.toNat i).flatten else .stuck
  | _,_=>.stuck
theorem df_rep (ha:DE X Γ E a fa) (hb:DE X Γ E b fb):DF X Γ E (.BinOp a .Mult b pos) (repL fa fb):=PE.imp (Qt op_rep ha hb) fun σ H Q ⟨G0,H0,G,δ,S,w⟩=>by
  refine ⟨G0,H0,G,δ,S,(au w).mono (fun x w v G1 H1 s1 r1=>?_) fun _ k=>k⟩
  refine ⟨G0,H0,G1,δ,S.step s1,(au w).mono (fun y w u G2 H2 s2 r2=>?_) fun _ k=>k.step s1⟩
  split at w
  · split at w
    · rename_i h
      cases r2
      cases r1 with
      | lst h1 r1 =>
        refine ⟨_,_,_,rfl,rfl,s2.gh _ _ (s2.gg _ _ h1),h.1,h.2.1,by rw [r1.length]; exact h.2.2,fun l hl=>?_⟩
        have st:=(s1.trans s2)
        exact w l _ G2 _ (st.trans (.aside st.gh hl)) (aG st.hh hl) aL (aG st.gh hl) ((r1.rep _).mono s2.gg)
    · exact False.elim w
  · exact False.elim w
end
end DL
namespace DL
open PySem PySem.Spec PyProof.Rows MX L2
section
variable {M:Model} {A:Around} {E:Value→Shared→Prop} {s:Shared}
structure Sta (fs:List Addr) (e:Addr) (oe:Obj) (vs:Array Value) (tb:Option Addr) (h h':Heap):Prop where
  keep:∀ b o,b ∉ fs→b ≠ e→some b ≠ tb→h.get? b = some o→h'.get? b = some o
  slot:∀ b o,b ≠ e→some b ≠ tb→h.get? b = some o→∃ sl,h'.get? b = some { o with slots:=sl }
  new:∃ T oT ts,h.objs.size ≤ T∧T ≠ e∧h'.get? e = some { oe with data:=.fields (vs.setIfInBounds 1 (.ref T)) }∧h'.get? T = some oT∧oT.data = .fields ts∧ts[3]? = some .none
theorem Vj {base:Heap} {env:Env} {outer:List Env} {L e:Addr} {oe:Obj} {vs:Array Value} {hd:Value} {nx:Bool} {Q:Unit→Shared→Prop}
    (fr:A.frames = some (env :: outer)) (ff:s.heap.FunFrames base (env :: outer)) (fL:env.frame = some L) (ge:s.heap.get? e = some oe) (de:oe.data = .fields vs) (sz:1 < vs.size)
    (k:∀ h',Sta (frs (env :: outer)) e oe vs none s.heap h'→Q () { s with heap:=h' }) :
    wpAny M A (do let a ← frameOf env; let pl ← entryPlaceOf L nx; let b ← EntryCells.newEntry hd a .none (rawInt L) .none pl; setField (.ref e) 1 b) (fun _ s2=>wpAny M A (setFlight (.ref e) none) Q E s2) E s:=by
  have ne:e ∉ frs (env :: outer):=fun z=>by
    obtain ⟨_,o,q1,q2⟩:=ff.mem z
    rw [ge] at q1
    cases q1
    exact q2 vs de
  refine wpAny_bind (wpAny_frameOf_fun fr ff fL fun h1 so=>wpAny_bind (wpAny_entryPlaceOf fun pl hp=>?_))
  unfold EntryCells.newEntry newFields
  refine wpAny_bind (wpAny_newObj_type ?_ (hp.sizeOk5 _ _ _ _ _))
  have g1:h1.get? e = some oe:=(so.2.1 e ne).trans ge
  generalize hoT:({ cls:=.type "traceback",dict:=none,data:=.fields ([hd,.ref L,.none,rawInt L,.none] ++ (if pl.isEmpty then List.replicate 6 Value.none else pl)).toArray }:Obj) = oT0
  have g2:=Heap.get?_push_of_some (h:=h1) oT0 g1
  refine wpAny_setField g2 de sz ?_
  have nT:h1.objs.size ≠ e:=fun z=>absurd (Heap.lt_size g1) (by rw [z]; exact Nat.lt_irrefl _)
  have d3:=Obj.data_mapFields de (·.setIfInBounds 1 (Value.ref h1.objs.size))
  have g3:=Heap.get?_update_self (Obj.mapFields (·.setIfInBounds 1 (Value.ref h1.objs.size))) g2 (Obj.isFreed_of_fields d3)
  have dT:oT0.data = .fields ([hd,.ref L,.none,rawInt L,.none] ++ (if pl.isEmpty then List.replicate 6 Value.none else pl)).toArray:=by rw [← hoT]
  have fT:oT0.isFreed = false:=Obj.isFreed_of_fields dT
  have t3:=(Heap.get?_update_other (h1.push oT0) (Obj.mapFields (·.setIfInBounds 1 (Value.ref h1.objs.size))) (Ne.symm nT)).trans (Heap.get?_push_size h1 fT)
  unfold setFlight
  refine wpAny_bind (wpAny_field g3 d3 (x:=.ref h1.objs.size) (by simp [sz]) ?_)
  rw [if_pos (show (Value.ref h1.objs.size != Value.none) = true by simp)]
  refine wpAny_setField t3 dT (by simp only [List.size_toArray,List.length_append,List.length_cons,List.length_nil] <;> omega) (k _ ?_)
  have kp:∀ b o,b ≠ e→h1.get? b = some o→(((h1.push oT0).update e (Obj.mapFields (·.setIfInBounds 1 (Value.ref h1.objs.size)))).update h1.objs.size (Obj.mapFields (·.setIfInBounds 3 ((none:Option Addr).elim Value.none fun f=>rawInt f)))).get? b = some o:=fun b o hb q=>by
    have nb:h1.objs.size ≠ b:=fun z=>absurd (Heap.lt_size q) (by rw [← z]; exact Nat.lt_irrefl _)
    rw [Heap.get?_update_other _ _ nb,Heap.get?_update_other _ _ (Ne.symm hb)]
    exact Heap.get?_push_of_some _ q
  refine ⟨fun b o hb he _ q=>kp b o he ((so.2.1 b hb).trans q),fun b o he _ q=>?_,h1.objs.size,_,_,?_,nT,?_,Heap.get?_update_self _ t3 (Obj.isFreed_of_fields (Obj.data_mapFields dT _)),Obj.data_mapFields dT _,?_⟩
  · obtain ⟨sl,q1⟩:=so.2.2 b o q
    exact ⟨sl,kp b _ he q1⟩
  · rw [so.1]; exact Nat.le_refl _
  · rw [Heap.get?_update_other _ _ nT,g3]
    obtain ⟨oc,od,odt,osl⟩:=oe
    cases de
    rfl
  · first | (simp; done) | (rcases hp with rfl | ⟨_,_,_,_,_,_,_,rfl⟩ <;> simp)
def TbOk (h:Heap) (e:Addr) (vs:Array Value):Option Addr→Prop
  | none=>vs[1]? = some .none
  | some T=>vs[1]? = some (.ref T)∧T ≠ e∧∃ oT ts,h.get? T = some oT∧oT.data = .fields ts∧ts[3]? = some .none
theorem ab4 {base:Heap} {env:Env} {outer:List Env} {L e:Addr} {oe:Obj} {vs:Array Value} {tb:Option Addr} {Q:Unit→Shared→Prop}
    (fr:A.frames = some (env :: outer)) (ff:s.heap.FunFrames base (env :: outer)) (fL:env.frame = some L) (ge:s.heap.get? e = some oe) (de:oe.data = .fields vs) (ht:TbOk s.heap e vs tb)
    (k:∀ h',Sta (frs (env :: outer)) e oe vs tb s.heap h'→Q () { s with heap:=h' }) :
    wpAny M A (noteFrame (.ref e) env) (fun _ s2=>wpAny M A (setFlight (.ref e) none) Q E s2) E s:=by
  unfold noteFrame
  simp only [fL]
  cases tb with
  | none =>
    refine wpAny_bind (wpAny_field ge de ht ?_)
    rw [if_neg (by decide)]
    exact Vj fr ff fL ge de (Array.getElem?_eq_some_iff.mp ht).1 k
  | some T =>
    obtain ⟨h1,nT,oT,ts,gT,dT,h3⟩:=ht
    refine wpAny_bind (wpAny_field ge de h1 ?_)
    rw [if_pos (show (Value.ref T != Value.none) = true by simp)]
    refine wpAny_bind (wpAny_field gT dT h3 ?_)
    rw [if_neg (show ¬ ((Value.none == rawInt L) = true) by simp [rawInt])]
    refine wpAny_bind (wpAny_setField gT dT (Array.getElem?_eq_some_iff.mp h3).1 ?_)
    have ot:∀ b,b ≠ T→(s.heap.update T (Obj.mapFields (·.setIfInBounds 3 Value.none))).get? b = s.heap.get? b:=fun b hb=>Heap.get?_update_other _ _ (Ne.symm hb)
    have nr:∀ b o,s.heap.get? b = some o→(∀ ws,o.data ≠ .fields ws)→b ≠ T:=fun b o q hn z=>by
      rw [z,gT] at q
      cases q
      exact hn ts dT
    refine Vj (s:={ s with heap:=s.heap.update T (Obj.mapFields (·.setIfInBounds 3 Value.none)) }) fr (ff.of_keeps fun b o q hn=>⟨o,(ot b (nr b o q hn)).trans q,rfl⟩) fL ((ot e (Ne.symm nT)).trans ge) de (Array.getElem?_eq_some_iff.mp h1).1 fun h' S=>k h' ?_
    refine ⟨fun b o hb he ht q=>S.keep b o hb he (by simp) ((ot b (fun z=>ht (by rw [z]))).trans q),fun b o he ht q=>S.slot b o he (by simp) ((ot b (fun z=>ht (by rw [z]))).trans q),?_⟩
    obtain ⟨T2,o2,t2,q1,q2,q3,q4,q5,q6⟩:=S.new
    refine ⟨T2,o2,t2,?_,q2,q3,q4,q5,q6⟩
    rw [← Heap.size_update s.heap T (Obj.mapFields (·.setIfInBounds 3 Value.none))]
    exact q1
theorem afR {base:Heap} {env:Env} {outer:List Env} {L e:Addr} {oe:Obj} {vs:Array Value} {tb:Option Addr} {Q:Unit→Shared→Prop}
    (fr:A.frames = some (env :: outer)) (ff:s.heap.FunFrames base (env :: outer)) (fL:env.frame = some L) (ge:s.heap.get? e = some oe) (de:oe.data = .fields vs) (ht:TbOk s.heap e vs tb)
    (k:∀ h',Sta (frs (env :: outer)) e oe vs tb s.heap h'→Q () { s with heap:=h' }):wpAny M A (leaving env (.ref e)) Q E s:=by
  unfold leaving
  exact wpAny_bind (ab4 fr ff fL ge de ht k)
end
end DL
namespace DL
open PySem PySem.Spec PyProof.Rows MX L2
theorem Uy {P:Program} {w:World} {H:Hp} {h:Heap} {a:Addr} {u:HO} (ok:HOk P w H h) (q:H a = some u):∃ ob,h.get? a = some ob:=by
  have:=ok a u q
  cases u with
  | lst xs=>obtain ⟨_,_,_,_,e⟩:=this; exact ⟨_,e⟩
  | tup xs=>obtain ⟨_,_,_,ob,e,_⟩:=this; exact ⟨ob,e⟩
  | dK kvs=>obtain ⟨_,_,_,_,ob,_,_,e,_⟩:=this; exact ⟨ob,e⟩
  | dT kvs=>obtain ⟨_,_,_,_,ob,_,_,e,_⟩:=this; exact ⟨ob,e⟩
  | set S n=>obtain ⟨ob,_,_,_,e,_⟩:=this; exact ⟨ob,e⟩
  | ins C dx fs=>obtain ⟨_,_,_,e,_⟩:=this; exact ⟨_,e⟩
  | own y=>obtain ⟨ob,e⟩:=this; exact ⟨ob,e⟩
  | xd fs=>obtain ⟨_,⟨ob,_,_,e,_⟩,_⟩:=this; exact ⟨ob,e⟩
  | rng lo hi=>obtain ⟨_,_,_,e⟩:=this; exact ⟨_,e⟩
  | frz ob u=>obtain ⟨e,_⟩:=this; exact ⟨ob,e⟩
  | tbl ps=>exact ⟨_,(show h.get? a = some _ from this)⟩
  | met f y=>exact ⟨_,(show h.get? a = some _ from this)⟩
  | ext φ=>obtain ⟨_,⟨ob,e⟩,_⟩:=this; exact ⟨ob,e⟩
theorem Gn {P:Program} {w:World} {H:Hp} {h:Heap} {a:Addr} (ok:HOk P w H h) (q:h.get? a = none):H a = none:=by
  cases z:H a with
  | none=>rfl
  | some u =>
    obtain ⟨ob,e⟩:=Uy ok z
    rw [q] at e
    cases e
def CX1 (P:Program) (w:World):CXT:=fun outer H s E e s'=>∃ a H' C dd o vs T,e = .ref a∧s'.os = s.os∧AllBare s'.gens∧Un (frs outer) [] H H' s.heap s'.heap∧HOk P w H' s'.heap∧H' a = some (.exc false C dd a) ∧
  s'.heap.get? a = some o∧o.data = .fields vs∧TbOk s'.heap a vs (some T)∧H' T = none∧s.heap.objs.size ≤ T∧E (.ref a) none H'
section
variable {X:Cx} {pins:List (Addr × Obj)} {σ:L2.St} {H:Hp} {s:Shared}
theorem afl {n:Bool} {a C:Addr} {dd:Option Addr} {o:Obj} {vs:Array Value} {tb:Option Addr} {h':Heap} (I:Inv X pins σ H s) (ha:H a = some (.exc n C dd a)) (g:s.heap.get? a = some o) (d:o.data = .fields vs)
    (ht:∀ T,tb = some T→H T = none) (S:Sta (frs X.stack) a o vs tb s.heap h'):HOk X.prog X.w (upd H a (.exc false C dd a)) h':=by
  obtain ⟨T2,oT,ts,q1,q2,q3,q4,q5,q6⟩:=S.new
  obtain ⟨⟨o',vs',t,e1,e2,e3,e4,e5,e6⟩,_,_⟩:=I.hok a _ ha
  rw [g] at e1
  cases e1
  rw [d] at e4
  cases e4
  intro b u e
  by_cases hb:b = a
  · subst hb
    rw [aL] at e
    cases e
    exact excP.ok ⟨_,_,t,q3,e2,e3,rfl,by rw [Array.getElem?_setIfInBounds_ne (by decide)]; exact e5,fun z=>by cases z⟩
  · rw [aD hb] at e
    have nk:∀ c v,H c = some v→c ≠ a→∀ w',s.heap.get? c = some w'→h'.get? c = some w':=fun c v hc na w' z =>
      S.keep c w' (fun m=>by rw [I.aaO c m] at hc; cases hc) na (fun m=>by rw [ht c m.symm] at hc; cases hc) z
    refine (I.hok b u e).stay (fun c v hc z=>?_) (fun c z=>?_) fun c xs z=>?_
    · rcases hc with rfl | hc
      · exact nk c u e hb v z
      · exact nk c _ hc (fun m=>by rw [m,ha] at hc; cases hc) v z
    · rw [aD (fun m=>by rw [m,ha] at z; cases z)]; exact z
    · rw [aD (fun m=>by rw [m,ha] at z; cases z)]; exact z
theorem ae7 {A':Around} {E:XK} {Ex:Value→Shared→Prop} {n:Bool} {a C:Addr} {dd:Option Addr} {o:Obj} {vs:Array Value} {tb:Option Addr} (I:Inv X pins σ H s) (fA:A'.frames = some X.stack) (hs:X.stack = X.env :: X.outer) (hf:X.env.frame = some X.env.locals) (hx:X.ex = [])
    (ha:H a = some (.exc n C dd a)) (g:s.heap.get? a = some o) (d:o.data = .fields vs) (tk:TbOk s.heap a vs tb) (ht:∀ T,tb = some T→H T = none∧X.s₀.heap.get? T = none) (k:E (.ref a) none (upd H a (.exc false C dd a))) :
    wpAny (model X.prog X.w) A' (leaving X.env (.ref a)) (fun _ s''=>CX1 X.prog X.w X.outer X.H₀ X.s₀ E (.ref a) s'') Ex s:=by
  have fr:=fA
  have ff:=I.stack
  rw [hs] at fr ff
  refine afR fr ff hf g d tk fun h' S=>?_
  have S':Sta (frs X.stack) a o vs tb s.heap h':=by rw [hs]; exact S
  have hk:=afl I ha g d (fun T z=>(ht T z).1) S'
  obtain ⟨T2,oT,ts,q1,q2,q3,q4,q5,q6⟩:=S.new
  obtain ⟨⟨o',vs',t,e1,e2,e3,e4,e5,e6⟩,_,_⟩:=I.hok a _ ha
  have nex:∀ b:Addr,b ∉ X.ex:=fun b z=>by rw [hx] at z; cases z
  have neL:∀ b u,X.s₀.heap.get? b = some u→b ≠ X.env.locals:=fun b u e z=>by
    have:=Heap.lt_size e
    rw [z] at this
    exact absurd (Nat.lt_of_lt_of_le this I.ok.above) (Nat.lt_irrefl _)
  have neT:∀ b u,X.s₀.heap.get? b = some u→some b ≠ tb:=fun b u e z=>by
    rw [(ht b z.symm).2] at e
    cases e
  have nfr:∀ b u,X.s₀.heap.get? b = some u→b ∉ frs X.outer→b ∉ frs (X.env :: X.outer):=fun b u e hb z=>by
    unfold frs at z hb
    rw [List.filterMap_cons,hf] at z
    rcases List.mem_cons.mp z with z | z
    · exact neL b u e z
    · exact hb z
  have T2n:H T2 = none:=Gn I.hok (Heap.get?_none_of_le q1)
  have s1:1 < vs.size:=by
    cases tb with
    | none=>exact (Array.getElem?_eq_some_iff.mp (show vs[1]? = some .none from tk)).1
    | some T=>exact (Array.getElem?_eq_some_iff.mp tk.1).1
  refine ⟨a,upd H a (.exc false C dd a),C,dd,_,_,T2,rfl,I.os,I.bare,⟨fun b u e n hb _=>?_,fun b u e n hb _=>?_,fun b u e n _=>?_,fun b u e _=>?_,fun b xs e=>?_,fun b u xs e=>?_,fun b ps e=>?_⟩,hk,aL,q3,rfl,⟨by simp [s1],q2,oT,ts,q4,q5,q6⟩,by rw [aD q2]; exact T2n,?_,k⟩
  · have nb:b ≠ a:=fun z=>by have:=I.base.free b u e n (nex b); rw [z,ha] at this; cases this
    exact S.keep b u (nfr b u e hb) nb (neT b u e) (I.base.keep b u e n hb (nex b))
  · have nb:b ≠ a:=fun z=>by have:=I.base.free b u e n (nex b); rw [z,ha] at this; cases this
    obtain ⟨sl,z⟩:=I.base.slot b u e n hb (nex b)
    obtain ⟨sl2,z2⟩:=S.slot b _ nb (neT b u e) z
    exact ⟨sl2,z2⟩
  · have:=I.base.free b u e n (nex b)
    rw [aD (fun z=>by rw [z,ha] at this; cases this)]
    exact this
  · by_cases nb:b = a
    · rw [nb]; exact ⟨_,q3⟩
    · obtain ⟨o2,z⟩:=I.base.there b u e (nex b)
      obtain ⟨sl,z2⟩:=S.slot b _ nb (neT b u e) z
      exact ⟨_,z2⟩
  · have:=I.base.tups b xs e
    rw [aD (fun z=>by rw [z,ha] at this; cases this)]
    exact this
  · have:=I.base.Bh b u xs e
    rw [aD (fun z=>by rw [z,ha] at this; cases this)]
    exact this
  · obtain ⟨m,this⟩:=I.base.DN b ps e
    exact ⟨m,by rw [aD (fun z=>by rw [z,ha] at this; cases this)]; exact this⟩
  · exact Nat.le_trans I.sz q1
end
section
variable {P:Program} {w:World} {K:PySem.W.Frag} {mg:Str→Option Value} {base:Heap} {N:List Str} {qual:Str} {scope:Scope} {f:Addr} {cd:Value} {A:Around} {outer:List Env} {s:Shared} {H:Hp} {E:XK}
theorem pass1:jT (CX1 P w) (Hz (CX1 P w) P w K mg base N qual scope f cd A outer s H E) E:=fun pins σ H1 s1 e s' I ⟨a,H',C,dd,o,vs,T,ee,os,bare,un,hok,ha,g,d,tk,hT,sT,k⟩=>by
  subst ee
  have J:=I.call' (ch:=[]) os un hok bare (fun b z=>by cases z)
  exact ae7 (A':=A.deeper (envOfC qual scope s.heap.objs.size f cd)) J J.ok.frames rfl rfl rfl ha g d tk (fun T' z=>by
    cases z
    refine ⟨hT,?_⟩
    exact Heap.get?_none_of_le (Nat.le_trans I.sz sT)) (by rw [Q6 ha]; exact k)
theorem pass10 {X:Cx}:jT (CX1 P w) X E0:=fun _ _ _ _ _ _ _ ⟨_,_,_,_,_,_,_,_,_,_,_,_,_,_,_,_,_,_,k⟩=>k.elim
def Thr (X:Cx) (E:XK):Prop:=∀ (pins:List (Addr × Obj)) (σ:L2.St) (H:Hp) (s:Shared) (a C:Addr) (dd:Option Addr),Inv X pins σ H s→H a = some (.exc true C dd a)→E (.ref a) none (upd H a (.exc false C dd a))→X.xe (.ref a) s
theorem thr1:Thr (Hz (CX1 P w) P w K mg base N qual scope f cd A outer s H E) E:=fun pins σ H1 s1 a C dd I ha k=>by
  obtain ⟨⟨o,vs,t,e1,e2,e3,e4,e5,e6⟩,_,_⟩:=I.hok a _ ha
  have e6:=e6 rfl
  exact ae7 (A':=A.deeper (envOfC qual scope s.heap.objs.size f cd)) (tb:=none) I I.ok.frames rfl rfl rfl ha e1 e4 (by rw [e6]; rfl) (fun T z=>by cases z) k
end
end DL
namespace DL
open PySem PySem.Spec PyProof.Rows MX L2
section
variable {M:Model} {A:Around} {E:Value→Shared→Prop} {s:Shared} {env:Env}
variable {nm q:Str} {C N:Addr} {bs bm:List Value} {hdct:Bool} {sn:List Str} {sub:List Value} {ab:Bool} {col:Option Bool} {dd:Option Addr} {k0 k1 k2 k3 k5:Option Value} {newId:String}
theorem aet {x:Sem Value} {Q:Flow→Shared→Prop} (hb:bm.contains (.type "BaseException") = true) (hh:A.handled = none)
    (h:wpAny M A x (fun v s1=>∃ e t od sl,v = .ref e∧s1.heap.get? C = some (excClassObj nm q C N bs bm hdct sn sub ab col dd k0 k1 k2 k3 k5 newId) ∧
      s1.heap.get? e = some ⟨.ref C,od,.fields #[.ref t,.none,.none,.none,.bool false,.none],sl⟩∧E (.ref e) s1) E s) :
    wpAny M A (raiseStmt env (some x) none) Q E s:=by
  have hc:(Value.ref C :: bm).contains (.type "BaseException") = true:=by rw [List.contains_cons,hb,Bool.or_true]
  unfold raiseStmt
  refine wpAny_bind (wpAny_mono h (fun v s1 h1=>?_) fun _ _ z=>z)
  obtain ⟨e,t,od,sl,rfl,hC,he,hE⟩:=h1
  obtain ⟨hp,g,d,tk,os⟩:=s1
  repeat (first | with_reducible refine wpAny_loadPart_at he ?_ | with_reducible refine wpAny_loadPart_at hC ?_ | (with_reducible refine wpAny_isSubtype_exc hC ?_; rw [hc]) | wp_step)
  exact wpAny_raiseNew_none hh hE
end
def tThrow (C:Addr) (E:XK) (te:TE):TS:=fun _ σ H=>te σ H fun v H1=>∃ a dd,v = .ref a∧H1 a = some (.exc true C dd a)∧E (.ref a) none (upd H1 a (.exc false C dd a))
theorem ps_throw {X:Cx} {E:XK} {x:Expr} {pos:Pos} {te:TE} {C N:Addr} (hM:ExcC X.K C N) (hT:Thr X E) (hc:X.calm = true) (hx:PE X x te):PS X (.Raise (some x) none pos) (tThrow C E te):=by
  intro pins s σ H D I h
  rw [arm_exec_Raise]
  obtain ⟨nm,q,bs,bm,sn,sub,ab,col,d2,k0,k1,k2,k3,k5,lk,tl⟩:=hM.obj
  have hb:bm.contains (.type "BaseException") = true:=(PySem.W.tail_of_in I.kIn tl).hasType (by decide +kernel)
  have e1:evalOpt (some x) X.env = some (eval x X.env):=by first | rfl | (unfold evalOpt; rfl) | simp only [evalOpt]
  have e2:evalOpt none X.env = none:=by first | rfl | (unfold evalOpt; rfl) | simp only [evalOpt]
  rw [e1,e2]
  refine wpAny_bind (wpAny_standAt (aet (nm:=nm) (q:=q) (C:=C) (N:=N) (bs:=bs) (bm:=bm) (hdct:=true) (sn:=sn) (sub:=sub) (ab:=ab) (col:=col) (dd:=d2) (k0:=k0) (k1:=k1) (k2:=k2) (k3:=k3) (k5:=k5) (newId:="ValueError.__new__") hb (I.ok.hd hc) (wpAny_bind (thn (hx pins s σ H _ I h) fun v s1 ⟨y,H1,I1,r1,a,dd,ey,ha,k⟩=>wpAny_bind (wpAny_standAt (wpAny_pure ?_))))))
  subst ey
  obtain rfl:v = Value.ref a:=r1
  obtain ⟨⟨o,vs,t,e1,e2,e3,e4,e5,e6⟩,_,_⟩:=I1.hok a _ ha
  have e6:=e6 rfl
  subst e6
  obtain ⟨oc,od,odt,osl⟩:=o
  cases e2
  cases e4
  exact ⟨a,t,od,osl,rfl,I1.kIn _ _ lk,e1,hT pins σ H1 s1 a C dd I1 ha k⟩
section
variable {X:Cx} {pins:List (Addr × Obj)} {σ:L2.St} {H:Hp} {s:Shared}
def Far (X:Cx) (pins:List (Addr × Obj)) (T:Addr):Prop:=X.s₀.heap.objs.size ≤ T∧T ≠ X.env.locals∧(∀ x c,X.env.cells.lookup x = some c→c ≠ T)∧∀ p ∈ X.pn ++ pins,p.1 ≠ T
theorem far_of {T:Addr} (I:Inv X pins σ H s) (h:s.heap.objs.size ≤ T):Far X pins T:=by
  refine ⟨Nat.le_trans I.sz h,fun z=>?_,fun x c e z=>?_,fun p hp z=>?_⟩
  · have:=I.lt
    rw [← z] at this
    exact absurd (Nat.lt_of_lt_of_le this h) (Nat.lt_irrefl _)
  · obtain ⟨v,o,ho,_⟩:=I.cell x c e
    have:=Heap.lt_size ho
    rw [z] at this
    exact absurd (Nat.lt_of_lt_of_le this h) (Nat.lt_irrefl _)
  · have:=Heap.lt_size (I.pin p hp).1
    rw [z] at this
    exact absurd (Nat.lt_of_lt_of_le this h) (Nat.lt_irrefl _)
def nones (X:Cx):L2.St:=List.replicate X.N.length none
def xeT (X:Cx) (pins:List (Addr × Obj)) (E:XK):Value→Shared→Prop:=fun e s'=>∃ a H' C dd o vs T,e = .ref a∧Inv X pins (nones X) H' s'∧H' a = some (.exc false C dd a)∧s'.heap.get? a = some o∧o.data = .fields vs∧TbOk s'.heap a vs (some T)∧H' T = none∧Far X pins T∧E (.ref a) none H'
abbrev tryX (X:Cx) (pins:List (Addr × Obj)) (E:XK):Cx:={ X with pn:=X.pn ++ pins,xe:=xeT X pins E }
theorem to_try {E:XK} (I:Inv X pins σ H s):Inv (tryX X pins E) [] σ H s :=
  ⟨⟨I.ok.mod,I.ok.kind,I.ok.glob,I.ok.blt,I.ok.above,I.ok.inj,I.ok.has,I.ok.cab,I.ok.hd,I.ok.frames,I.ok.stk,I.ok.exf,I.ok.bs,I.ok.bsz,I.ok.bL,I.ok.exfs,I.ok.Bj,I.ok.frf⟩,I.os,I.bare,I.base,I.loc,I.cell,I.free,I.pX,fun p hp=>I.pin p (by rw [List.append_nil] at hp; exact hp),I.hok,I.len⟩
theorem Qm {E:XK} {ps:List (Addr × Obj)} (I:Inv (tryX X pins E) ps σ H s):Inv X pins σ H s :=
  ⟨⟨I.ok.mod,I.ok.kind,I.ok.glob,I.ok.blt,I.ok.above,I.ok.inj,I.ok.has,I.ok.cab,I.ok.hd,I.ok.frames,I.ok.stk,I.ok.exf,I.ok.bs,I.ok.bsz,I.ok.bL,I.ok.exfs,I.ok.Bj,I.ok.frf⟩,I.os,I.bare,I.base,I.loc,I.cell,I.free,I.pX,fun p hp=>I.pin p (List.mem_append_left _ hp),I.hok,I.len⟩
theorem sp_try {E:XK} {D:Ends} {f:Flow} {s':Shared} (h:SP (tryX X pins E) [] D f s'):SP X pins D f s':=by
  cases f with
  | next=>obtain ⟨σ',H',I,q⟩:=h; exact ⟨σ',H',Qm I,q⟩
  | brk=>obtain ⟨σ',H',I,q⟩:=h; exact ⟨σ',H',Qm I,q⟩
  | cont=>obtain ⟨σ',H',I,q⟩:=h; exact ⟨σ',H',Qm I,q⟩
  | ret u=>obtain ⟨v,σ',H',I,r,q⟩:=h; exact ⟨v,σ',H',Qm I,r,q⟩
theorem passT {E:XK}:jT (CX1 X.prog X.w) (tryX X pins E) E:=fun ps σ H1 s1 e s' I ⟨a,H',C,dd,o,vs,T,ee,os,bare,un,hok,ha,g,d,tk,hT,sT,k⟩=>by
  have I1:=Qm I
  have J:=I1.call' (ch:=[]) os un hok bare (fun b z=>by cases z)
  refine ⟨a,H',C,dd,o,vs,T,ee,J.weak (by rw [J.len]; simp [nones]) fun i v z=>?_,ha,g,d,tk,hT,far_of I1 sT,k⟩
  unfold nones at z
  rw [List.getElem?_replicate] at z
  split at z <;> cases z
theorem sta_inv {n:Bool} {a C T:Addr} {dd:Option Addr} {o:Obj} {vs:Array Value} {h':Heap} (I:Inv X pins σ H s) (ha:H a = some (.exc n C dd a)) (g:s.heap.get? a = some o) (d:o.data = .fields vs) (hT:H T = none) (far:Far X pins T)
    (S:Sta (frs X.stack) a o vs (some T) s.heap h'):Inv X pins σ (upd H a (.exc false C dd a)) { s with heap:=h' }:=by
  have nt:∀ b,b ∉ [T]→some b ≠ some T:=fun b hx z=>hx (by rw [Option.some.inj z]; exact List.mem_singleton.mpr rfl)
  refine I.call' (ch:=[T]) rfl ⟨fun b u e n hb hx=>?_,fun b u e n hb hx=>?_,fun b u e n hx=>?_,fun b u e hx=>?_,fun b xs e=>?_,fun b u xs e=>?_,fun b ps e=>?_⟩ (afl I ha g d (fun T' z=>by cases z; exact hT) S) I.bare fun b hb=>?_
  · exact S.keep b u hb (fun z=>by rw [z,ha] at n; cases n) (nt b hx) e
  · exact S.slot b u (fun z=>by rw [z,ha] at n; cases n) (nt b hx) e
  · rw [aD (fun z=>by rw [z,ha] at n; cases n)]; exact n
  · by_cases z:b = a
    · obtain ⟨T2,oT,ts,q1,q2,q3,_⟩:=S.new
      rw [z]; exact ⟨_,q3⟩
    · obtain ⟨sl,z2⟩:=S.slot b u z (nt b hx) e
      exact ⟨_,z2⟩
  · rw [aD (fun z=>by rw [z,ha] at e; cases e)]; exact e
  · rw [aD (fun z=>by rw [z,ha] at e; cases e)]; exact e
  · exact ⟨#[],by rw [aD (fun z=>by rw [z,ha] at e; cases e),e]; simp⟩
  · obtain rfl:=List.mem_singleton.mp hb
    exact ⟨.inr far.1,far.2.1,far.2.2.1,far.2.2.2⟩
theorem afE {M:Model} {A:Around} {E:Value→Shared→Prop} {a T:Addr} {o:Obj} {vs:Array Value} {Q:Unit→Shared→Prop} (I:Inv X pins σ H s) (g:s.heap.get? a = some o) (d:o.data = .fields vs) (tk:TbOk s.heap a vs (some T)) (hT:H T = none) (far:Far X pins T)
    (k:∀ h',Inv X pins σ H { s with heap:=h' }→Q () { s with heap:=h' }):wpAny M A (setFlight (.ref a) none) Q E s:=by
  obtain ⟨h1,nT,oT,ts,gT,dT,h3⟩:=tk
  unfold setFlight
  refine wpAny_bind (wpAny_field g d h1 ?_)
  rw [if_pos (show (Value.ref T != Value.none) = true by simp)]
  refine wpAny_setField gT dT (Array.getElem?_eq_some_iff.mp h3).1 (k _ ?_)
  exact I.turned (t':=s.toks) (it:=T) (fun b u hb e=>(Heap.get?_update_other _ _ (Ne.symm hb)).trans e) hT far.2.1 (.inr far.1) far.2.2.1 far.2.2.2
theorem goes_ok {M:Model} {A:Around} {E:Value→Shared→Prop} {j:Nat} {n:Str} {pos:Pos} {Q:Unit→Shared→Prop} (I:Inv X pins σ H s) (hN:X.N.Nodup) (hj:X.N[j]? = some n) (hl:X.env.kindOf n = some .local)
    (k:∀ s',Inv X pins (σ.set j none) H s'→Q () s'):wpAny M A (do bindName X.env n .none; unbindBehindTheSuite X.env n pos) Q E s:=by
  obtain ⟨m,hn,hm⟩:=id I.loc
  have hcls:(X.env.scope.kind == .class || (X.env.scope.kind == .module && X.env.locals != X.env.globals)) = false:=by rw [I.ok.kind]; rfl
  refine wpAny_nameGoes_keeps hl hn hcls fun h' v hn' hs=>k _ ?_
  have neL:∀ b o,X.s₀.heap.get? b = some o→b ≠ X.env.locals:=fun b o e=>Nat.ne_of_lt (Nat.lt_of_lt_of_le (Heap.lt_size e) I.ok.above)
  have fL:=I.free
  refine ⟨I.ok,I.os,I.bare,⟨fun b o e n hb hx=>?_,fun b o e n hb hx=>?_,I.base.free,fun b o e hx=>?_,I.base.tups,I.base.Bh,I.base.DN⟩,⟨_,hn',fun i y v' e1 e2 e3=>?_⟩,fun y c e=>?_,I.free,I.pX,fun p hp=>?_,fun b ob e=>?_,by rw [List.length_set]; exact I.len⟩
  · exact (hs.2 b (neL b o e)).trans (I.base.keep b o e n hb hx)
  · obtain ⟨sl,e1⟩:=I.base.slot b o e n hb hx
    exact ⟨sl,(hs.2 b (neL b o e)).trans e1⟩
  · obtain ⟨o',e1⟩:=I.base.there b o e hx
    exact ⟨o',(hs.2 b (neL b o e)).trans e1⟩
  · by_cases ij:j = i
    · subst ij
      rw [List.getElem?_set_self'] at e2
      cases z:σ[j]? with
      | none=>rw [z] at e2; simp at e2
      | some y=>rw [z] at e2; simp at e2
    · rw [List.getElem?_set_ne ij] at e2
      obtain ⟨u',r',q⟩:=hm i y v' e1 e2 e3
      refine ⟨u',r',?_⟩
      rcases q with ⟨kk,e⟩ | ⟨kk,c,e,z⟩
      · refine .inl ⟨kk,?_⟩
        have:y ≠ n:=fun z=>ij (Qe hN hj (z ▸ e1))
        simp [this,e]
      · exact .inr ⟨kk,c,e,z.sameBut hs (I.cne y c e)⟩
  · obtain ⟨w',z⟩:=I.cell y c e
    exact ⟨w',z.sameBut hs (I.cne y c e)⟩
  · obtain ⟨e,n,ne,nf,d⟩:=I.pin p hp
    exact ⟨(hs.2 p.1 ne).trans e,n,ne,nf,d⟩
  · refine (I.hok b ob e).stay (fun c w' hc q=>(hs.2 c ?_).trans q) (fun _ q=>q) fun _ _ q=>q
    rintro rfl
    rcases hc with rfl | hc
    · rw [fL] at e; cases e
    · rw [fL] at hc; cases hc
abbrev markX (X:Cx) (e:Value):Cx:={ X with A:=X.A.mark (some e),calm:=false,xe:=fun _ _=>False }
theorem to_mark {e:Value} (I:Inv X pins σ H s):Inv (markX X e) pins σ H s :=
  ⟨⟨I.ok.mod,I.ok.kind,I.ok.glob,I.ok.blt,I.ok.above,I.ok.inj,I.ok.has,I.ok.cab,(fun z=>by cases z),I.ok.frames,I.ok.stk,I.ok.exf,I.ok.bs,I.ok.bsz,I.ok.bL,I.ok.exfs,I.ok.Bj,I.ok.frf⟩,I.os,I.bare,I.base,I.loc,I.cell,I.free,I.pX,I.pin,I.hok,I.len⟩
theorem of_mark {e:Value} (ok:X.Ok) (I:Inv (markX X e) pins σ H s):Inv X pins σ H s :=
  ⟨ok,I.os,I.bare,I.base,I.loc,I.cell,I.free,I.pX,I.pin,I.hok,I.len⟩
def IsX (H:Hp) (a C:Addr):Prop:=(∃ n,H a = some (.exc n C none a)) ∨ ∃ n d fs,H a = some (.exc n C (some d) a)∧H d = some (.xds fs d)
theorem typ_exc {M:Model} {a C:Addr} (I:Inv X pins σ H s) (t:IsX H a C):PySem.W.Looks M s.heap (typeOf (.ref a)) (.ref C):=by
  rcases t with ⟨n,hH⟩ | ⟨n,dx,fs,hH,hD⟩
  · obtain ⟨⟨ob,vs,t0,e1,e2,e3,e4,e5⟩,_,_⟩:=I.hok a _ hH
    have IA:PySem.W.InstAt s.heap a ob C none:=⟨e1,e2,by unfold PySem.W.notCls; rw [e4],by rw [e3]; trivial⟩
    exact IA.type
  · obtain ⟨⟨ob,vs,t0,e1,e2,e3,e4,e5⟩,_,_⟩:=I.hok a _ hH
    obtain ⟨⟨mA,n1,rl,wi⟩,_,_⟩:=I.hok _ _ hD
    obtain ⟨oD,esD,epD,eD,_⟩:=n1
    have IA:PySem.W.InstAt s.heap a ob C (some oD):=⟨e1,e2,by unfold PySem.W.notCls; rw [e4],by rw [e3]; exact eD⟩
    exact IA.type
theorem run_try {E:XK} {D:Ends} {body:List Stmt} {tb:TS} {i j:Nat} {x n cn:Str} {HE:Addr} {p1 p2 p3 p4 p5 pos:Pos} (hs:X.stack = X.env :: X.outer) (hf:X.env.frame = some X.env.locals) (hN:X.N.Nodup) (hi:X.N[i]? = some x) (hx:Loc X.env.scope x) (hj:X.N[j]? = some n) (hij:j ≠ i) (hl:X.env.scope.names.lookup n = some .local)
    (hg:Gl X cn) (hm:X.mg cn = some (.ref HE)) (hb:PSs (tryX X pins E) body tb) (I:Inv X pins σ H s) (h:tb D σ H)
    (hE:∀ a H',E (.ref a) none H'→(∃ C,IsX H' a C∧PySem.W.exmOne X.K (.ref C) (.ref HE) = some true)∧D.nx ((nones X).set i (some (.ref a))) H')
    (hdb:(cn == ("__debug__":Str)) = false) (hd:(n == ("__debug__":Str)) = false) (hcd:(n == ("__classdict__":Str)) = false) (hsw:swapsWith (.Name n p3) (some (.Name x p2)) p4.line X.env = pure false) (hff:X.fn x = true ∨ X.env.scope.names.lookup x = some .local) (hfn:X.fn n = true ∨ X.env.scope.names.lookup n = some .local) :
    wpAny (model X.prog X.w) X.A (exec (.Try body [.ExceptHandler (some (.Name cn p1)) (some n) [.Assign [.Name x p2] (.Name n p3) p4] p5] [] [] pos) X.env) (SP X pins D) X.xe s:=by
  refine wpAny_Try_except (wpAny_mono (hb [] s σ H D (to_try I) h) (fun f s1 h1=>?_) fun e s1 h1=>?_)
  · have:=sp_try h1
    cases f with
    | next=>exact wpAny_execs_nil this
    | brk=>exact this
    | cont=>exact this
    | ret u=>exact this
  · obtain ⟨a,H',C,dd,o,vs,T,ee,I1,ha,g,d,tk,hT,far,k⟩:=h1
    subst ee
    obtain ⟨⟨C',isx,hk⟩,nx⟩:=hE a H' k
    have fr:=I1.ok.frames
    have ff:=I1.stack
    rw [hs] at fr ff
    refine ab4 fr ff hf g d tk fun h2 S=>?_
    have S':Sta (frs X.stack) a o vs (some T) s1.heap h2:=by rw [hs]; exact S
    have I2:=sta_inv I1 ha g d hT far S'
    rw [Q6 ha] at I2
    obtain ⟨T2,oT,ts,q1,q2,q3,q4,q5,q6⟩:=S.new
    have far2:Far X pins T2:=far_of I1 q1
    have T2n:H' T2 = none:=Gn I1.hok (Heap.get?_none_of_le q1)
    have s1z:1 < vs.size:=(Array.getElem?_eq_some_iff.mp tk.1).1
    have J2:Inv (markX X (.ref a)) pins (nones X) H' { s1 with heap:=h2 }:=to_mark I2
    refine wpAny_handleBy_cons (codeAny_handlers_test (t7 J2 hg hm ?_ hdb)) (by intro q; cases q)
    refine (PySem.W.exm_one J2.kIn (typ_exc J2 isx) hk).here ?_
    rw [if_pos rfl]
    refine codeAny_handlers_suite_as (afE J2 q3 rfl (T:=T2) ⟨by simp [s1z],q2,oT,ts,q4,q5,q6⟩ T2n far2 fun h3 J3=>?_)
    refine QW (X:=markX X (.ref a)) (v:=.ref a) J3 hN hj (.inl hl) rfl (fun s4 J4=>?_) hfn
    have e4:((nones X).set j (some (V.ref a)))[j]? = some (some (.ref a)):=by
      rw [List.getElem?_set_self]
      rw [nones,List.length_replicate]
      exact (List.getElem?_eq_some_iff.mp hj).1
    refine wpAny_mono (qt (X:=markX X (.ref a)) (eG hN hi hx (pe_var hj (.inl hl) hd hcd) hsw hff) pins s4 _ H' { nx:=fun σ' H2=>σ' = ((nones X).set j (some (.ref a))).set i (some (.ref a))∧H2 = H',rt:=fun _ _=>False } J4 ⟨.ref a,e4,rfl,rfl⟩) (fun f s5 h5=>?_) fun _ _ z=>False.elim z
    cases f with
    | brk=>obtain ⟨_,_,_,z⟩:=h5; exact False.elim z
    | cont=>obtain ⟨_,_,_,z⟩:=h5; exact False.elim z
    | ret u=>obtain ⟨_,_,_,_,_,z⟩:=h5; exact False.elim z
    | next =>
      obtain ⟨σ5,H5,J5,rfl,rfl⟩:=h5
      refine goes_ok (of_mark I.ok J5) hN hj hl fun s6 I6=>⟨_,H5,I6.weak (by simp) fun ix v z=>?_,nx⟩
      by_cases e:i = ix
      · subst e
        rw [List.getElem?_set_self (by rw [nones,List.length_replicate]; exact (List.getElem?_eq_some_iff.mp hi).1)] at z
        cases z
        rw [List.getElem?_set_ne hij,List.getElem?_set_self (by rw [List.length_set,nones,List.length_replicate]; exact (List.getElem?_eq_some_iff.mp hi).1)]
      · rw [List.getElem?_set_ne e,nones,List.getElem?_replicate] at z
        split at z <;> cases z
end
end DL
namespace DL
open PySem PySem.Spec PyProof.Rows MX L2
theorem bJ {X:Cx} {E:XK}:jT CX0 X E:=fun _ _ _ _ _ _ _ h=>h.elim
section
variable {P:Program} {w:World} {K:PySem.W.Frag} {mg:Str→Option Value} {base:Heap} {Γ:Nat→Option Addr}
theorem ae9 {x qual:Str} {st:Stmt} {f:Addr} {fd:FuncData} {N ps:List Str} {k:Nat} {g:DSt→Out Fl} (F:L2.Fun K x qual st f fd) (S:aR N ps (ao st))
    (h:∀ (cdv:Value) (A:Around) (outer:List Env) (s:Shared) (H:Hp) (E:XK),gP k (A.deeper (envOfC qual (ao st) s.heap.objs.size f cdv))→DSs (Hz (CX1 P w) P w K mg base N qual (ao st) f cdv A outer s H E) Γ E (aP st) g) :
    bB P w K mg base (CX1 P w) (k + 1) f fd ps (spD K Γ ps.length fun ds=>dR N.length g ds):=by
  obtain ⟨oc,od,kV,doc,pm,an,cdv,ct,osl,rfl,lk,hcd⟩:=F.ex
  refine fn_of lk hcd S (fun vs H Q E h=>h.1) fun A outer s H vs Q E hr ⟨hl,G,ds,sg,r,q⟩=>?_
  refine ⟨_,h cdv A outer s H E hr,G,H,G,jF N.length ds,SR.M9 sg r,(au q).mono (fun fl q=>?_) fun _ k=>k⟩
  cases fl with
  | nx δ=>exact fun σ G' H' S'=>q _ G' H' S'.st .non
  | rt d=>exact fun v G' H' s' r'=>q v G' H' s' r'
  | bk δ=>exact False.elim q
  | ct δ=>exact False.elim q
  | rl ds=>exact frz_rl q
  | rll dss=>exact XM q
structure Def1 (P:Program) (w:World) (K:PySem.W.Frag) (mg:Str→Option Value) (base:Heap) (x:Str) (k:Nat) (ps:List Str) (sp:Sp):Prop where
  ex:∃ f fd,bB P w K mg base (CX1 P w) k f fd ps sp∧Binds K fd ps []∧mg x = some (.ref f)∧PySem.W.keepIn K (.ref f) = true
structure Ini1 (P:Program) (w:World) (K:PySem.W.Frag) (mg:Str→Option Value) (base:Heap) (C:Addr) (k:Nat) (ps:List Str) (sp:Sp):Prop where
  ex:∃ f fd,Mk K C f∧bB P w K mg base (CX1 P w) k f fd ps sp∧Binds K fd ps []
end
section
variable {X:Cx} {Γ:Nat→Option Addr} {E:XK} {e a b c o:Expr} {pos apos:Pos} {es:List Expr} {fa fb fo:DSt→Out D} {fr:DSt→Out (List D)} {CX:CXT}
def CatOk (K:PySem.W.Frag) (Γ:Nat→Option Addr) (HE:Addr) (cat:Nat→Bool):Prop:=∀ c C,cat c = true→Γ c = some C→PySem.W.exmOne K (.ref C) (.ref HE) = some true
def sTry (cat:Nat→Bool) (i:Nat) (g:DSt→Out Fl):DSt→Out Fl:=fun δ=>match g δ with
  | .ok fl=>.ok fl
  | .ex (.exc c fs)=>if cat c = true then .ok (.nx ((List.replicate δ.length none).set i (some (.sh (.exc c fs))))) else .stuck
  | _=>.stuck
theorem ds_try {cat:Nat→Bool} {body:List Stmt} {g:DSt→Out Fl} {i j:Nat} {x n cn:Str} {HE:Addr} {p1 p2 p3 p4 p5:Pos} (hcat:CatOk X.K Γ HE cat) (hs:X.stack = X.env :: X.outer) (hf:X.env.frame = some X.env.locals) (hN:X.N.Nodup) (hi:X.N[i]? = some x) (hx:Loc X.env.scope x) (hj:X.N[j]? = some n) (hij:j ≠ i) (hl:X.env.scope.names.lookup n = some .local)
    (hg:Gl X cn) (hm:X.mg cn = some (.ref HE)) (hb:∀ (pins:List (Addr × Obj)) (E':XK),DSs (tryX X pins E') Γ E' body g)
    (hdb:(cn == ("__debug__":Str)) = false:=by decide) (hd:(n == ("__debug__":Str)) = false:=by decide) (hcd:(n == ("__classdict__":Str)) = false:=by decide) (hsw:swapsWith (.Name n p3) (some (.Name x p2)) p4.line X.env = pure false:=by rfl) (hff:X.fn x = true ∨ X.env.scope.names.lookup x = some .local:=by first | exact .inl rfl | exact .inr rfl) (hfn:X.fn n = true ∨ X.env.scope.names.lookup n = some .local:=by first | exact .inl rfl | exact .inr rfl) :
    DS X Γ E (.Try body [.ExceptHandler (some (.Name cn p1)) (some n) [.Assign [.Name x p2] (.Name n p3) p4] p5] [] [] pos) (sTry cat i g):=by
  intro pins s σ H D' I ⟨G0,H0,G,δ,S,w⟩
  refine run_try (E:=fun v _ H'=>∃ a x G',v = .ref a∧g δ = .ex x∧Step G0 H0 G' H'∧Rep X.K Γ G' (.ref a) x) hs hf hN hi hx hj hij hl hg hm (hb pins _) I ⟨G0,H0,G,δ,S,?_⟩ (fun a H' ⟨a',x,G',ea,eg,st,r⟩=>?_) hdb hd hcd hsw hff hfn
  · unfold sTry at w
    cases q:g δ with
    | ok fl=>rw [q] at w; exact w
    | ex x=>exact fun a G' H' st r=>⟨a,x,G',rfl,rfl,st,r⟩
    | stuck=>rw [q] at w; exact w
  · cases ea
    unfold sTry at w
    rw [eg] at w
    have go:∀ c fs,x = .exc c fs→cat c = true∧D'.nx ((nones X).set i (some (.ref a))) H':=fun c fs ex=>by
      subst ex
      by_cases hc:cat c = true
      · refine ⟨hc,?_⟩
        simp only [hc,if_true] at w
        refine w _ G' H' ⟨st,by rw [List.length_set,List.length_set,List.length_replicate,nones,List.length_replicate,S.len,I.len],fun _=>none,fun k s' z=>?_⟩
        by_cases e:i = k
        · subst e
          have lt:i < X.N.length:=(List.getElem?_eq_some_iff.mp hi).1
          rw [List.getElem?_set_self (by rw [List.length_replicate,S.len,I.len]; exact lt)] at z
          cases z
          exact ⟨.ref a,by rw [List.getElem?_set_self (by rw [nones,List.length_replicate]; exact lt)],r⟩
        · rw [List.getElem?_set_ne e,List.getElem?_replicate] at z
          split at z <;> cases z
      · simp only [hc] at w
        exact False.elim w
    cases r with
    | e0 h gC =>
      obtain ⟨hc,nx⟩:=go _ _ rfl
      exact ⟨⟨_,.inl ⟨_,st.gh _ _ h⟩,hcat _ _ hc gC⟩,nx⟩
    | e1 h h' gC rf =>
      obtain ⟨hc,nx⟩:=go _ _ rfl
      exact ⟨⟨_,.inr ⟨_,_,_,st.gh _ _ h,st.gh _ _ h'⟩,hcat _ _ hc gC⟩,nx⟩
    | _=>exact False.elim w
end
def V8 (K:PySem.W.Frag) (Γ:Nat→Option Addr) (cv:Value):List (Nat × Bool)→Prop
  | []=>True
  | (c,b) :: r=>(∃ C',Γ c = some C'∧ExcGet K C'∧PySem.W.kitOne K (.ref C') cv = some b)∧V8 K Γ cv r
theorem V8.get {K:PySem.W.Frag} {Γ:Nat→Option Addr} {cv:Value}:∀ {tab:List (Nat × Bool)} {c:Nat} {b:Bool},V8 K Γ cv tab→tab.lookup c = some b→∃ C',Γ c = some C'∧ExcGet K C'∧PySem.W.kitOne K (.ref C') cv = some b
  | [],_,_,_,e=>by cases e
  | (c',b') :: r,c,b,h,e=>by
    by_cases q:c = c'
    · subst q
      simp only [List.lookup_cons,beq_self_eq_true] at e
      cases e
      exact h.1
    · have q':(c == c') = false:=beq_eq_false_iff_ne.mpr q
      simp only [List.lookup_cons,q'] at e
      exact h.2.get e
def isiX (tab:List (Nat × Bool)):D→Option Bool
  | .exc c _=>tab.lookup c
  | d=>isiE [] d
theorem isiX_ok {K:PySem.W.Frag} {Γ:Nat→Option Addr} {C:Addr} {tab:List (Nat × Bool)} (ty:PySem.W.typeIn K (.ref C) = some (.type "type")) (cd:∃ cd,PySem.W.clsIn K C = some cd) (h:V8 K Γ (.ref C) tab):Bq K Γ (.ref C) (isiX tab):=by
  intro H v d b r e
  have old:=isiE_ok (K:=K) (Γ:=Γ) (tab:=[]) ty cd trivial H v d b r
  cases r with
  | e0 h1 g =>
    obtain ⟨C',g',i,k⟩:=h.get e
    rw [g] at g'
    cases g'
    exact ⟨_,.e0 h1 i,k⟩
  | e1 h1 h2 g rf =>
    obtain ⟨C',g',i,k⟩:=h.get e
    rw [g] at g'
    cases g'
    exact ⟨_,.e1 h1 h2 i,k⟩
  | _=>exact old e
theorem exm_mk {K:PySem.W.Frag} {C HE:Addr} {cd:ClassData} (h1:PySem.W.clsIn K HE = some cd) (h2:PySem.W.typeIn K (.ref HE) = some (.type "type")) (h3:PySem.W.mroIn K C (.ref HE) = some true) (h4:PySem.W.mroIn K HE (.type "BaseException") = some true):PySem.W.exmOne K (.ref C) (.ref HE) = some true:=by
  unfold PySem.W.exmOne
  have e:PySem.W.subIn K (.ref HE) (.type "BaseException") = some true:=h4
  rw [e,if_pos (by rfl)]
  unfold PySem.W.kitCls
  dsimp only
  rw [h1,h2,if_pos (by simp)]
  exact h3
end DL
namespace DL
open PySem PySem.Spec PyProof.Rows MX L2
section
variable {K:PySem.W.Frag} {Γ:Nat→Option Addr} {G0 H0 G H G' H':Hp} {O O':Addr→Option Nat} {σ:L2.St} {δ:DSt}
theorem Inner.toM {i:Nat}:∀ {vs:List V} {dss:List (List D)},Inner K Γ H0 G H O i vs dss→∃ bs,aV K Γ H0 G H O i vs (dss.map .own) bs∧∀ b ∈ bs,V.ref b ∈ vs
  | _,_,.nil=>⟨[],.nil,fun b z=>by cases z⟩
  | _,_,.cons (b:=b) h g h0 o r n t=>by
    obtain ⟨bs,t',m⟩:=t.toM
    exact ⟨b :: bs,.own h g h0 o r (fun z=>n (m _ z)) t',fun c z=>by
      rcases List.mem_cons.mp z with z | z
      · rw [z]; exact List.mem_cons_self
      · exact List.mem_cons_of_mem _ (m c z)⟩
def Qc:Sl→Sl
  | .oll dss=>.omx (dss.map .own)
  | s=>s
def mix (i:Nat) (δ:DSt):DSt:=match δ[i]? with
  | some (some s)=>δ.set i (some (Qc s))
  | _=>δ
theorem SR.mix (S:SR K Γ G0 H0 G H σ δ) (i:Nat):SR K Γ G0 H0 G H σ (DL.mix i δ):=by
  obtain ⟨O,q⟩:=id S.sl
  unfold DL.mix
  split
  · rename_i s e
    obtain ⟨v,hv,h⟩:=q i s e
    have go:cM K Γ H0 G H O i v (Qc s):=by
      cases s with
      | oll dss =>
        obtain ⟨a,vs,ev,h1,h2,h3,h4,h5,h6⟩:=h
        obtain ⟨bs,m,mm⟩:=h6.toM
        exact ⟨a,vs,bs,ev,h1,h2,h3,h4,fun z=>h5 (mm _ z),m⟩
      | _=>exact h
    refine ⟨S.st,by rw [List.length_set]; exact S.len,?_⟩
    have z:=Slots.put (v:=v) (i:=i) (x:=Qc s) S.len (fun j y e _=>q j y e) go
    rwa [sE hv] at z
  · exact S
theorem aV.length {i:Nat}:∀ {vs:List V} {es:List Mx} {bs:List Addr},aV K Γ H0 G H O i vs es bs→vs.length = es.length
  | _,_,_,.nil=>rfl
  | _,_,_,.own _ _ _ _ _ _ t=>by rw [List.length_cons,List.length_cons,t.length]
  | _,_,_,.fix _ t=>by rw [List.length_cons,List.length_cons,t.length]
theorem aV.at {i:Nat}:∀ {vs:List V} {es:List Mx} {bs:List Addr} {j:Nat} {ds:List D},aV K Γ H0 G H O i vs es bs→es[j]? = some (.own ds)→∃ b ws,vs[j]? = some (.ref b)∧b ∈ bs∧H b = some (.lst ws)∧G b = none∧H0 b = none∧O b = some i∧aF K Γ G ws ds
  | _,_,_,_,_,.nil,e=>by simp at e
  | _,_,_,0,_,.own h g h0 o r n t,e=>by simp at e; subst e; exact ⟨_,_,rfl,List.mem_cons_self,h,g,h0,o,r⟩
  | _,_,_,0,_,.fix r t,e=>by simp at e
  | _,_,_,j + 1,_,.own h g h0 o r n t,e=>by
    obtain ⟨b,ws,z1,z2,z⟩:=aV.at (j:=j) t (by simpa using e)
    exact ⟨b,ws,by simpa using z1,List.mem_cons_of_mem _ z2,z⟩
  | _,_,_,j + 1,_,.fix r t,e=>by
    obtain ⟨b,ws,z1,z2,z⟩:=aV.at (j:=j) t (by simpa using e)
    exact ⟨b,ws,by simpa using z1,z2,z⟩
theorem aV.fixAt {i:Nat}:∀ {vs:List V} {es:List Mx} {bs:List Addr} {j:Nat} {d:D},aV K Γ H0 G H O i vs es bs→es[j]? = some (.fix d)→∃ v,vs[j]? = some v∧Rep K Γ G v d
  | _,_,_,_,_,.nil,e=>by simp at e
  | _,_,_,0,_,.own h g h0 o r n t,e=>by simp at e
  | _,_,_,0,_,.fix r t,e=>by simp at e; subst e; exact ⟨_,rfl,r⟩
  | _,_,_,j + 1,_,.own h g h0 o r n t,e=>by
    obtain ⟨v,z1,z⟩:=aV.fixAt (j:=j) t (by simpa using e)
    exact ⟨v,by simpa using z1,z⟩
  | _,_,_,j + 1,_,.fix r t,e=>by
    obtain ⟨v,z1,z⟩:=aV.fixAt (j:=j) t (by simpa using e)
    exact ⟨v,by simpa using z1,z⟩
theorem aV.Q5 {i:Nat} {a:Addr} {o:HO}:∀ {vs:List V} {es:List Mx} {bs:List Addr},a ∉ bs→aV K Γ H0 G H O i vs es bs→aV K Γ H0 G (upd H a o) O i vs es bs
  | _,_,_,_,.nil=>.nil
  | _,_,_,m,.own h g h0 oo r n t=>.own ((aD fun z=>m (by rw [z]; exact List.mem_cons_self)).trans h) g h0 oo r n (aV.Q5 (fun z=>m (List.mem_cons_of_mem _ z)) t)
  | _,_,_,m,.fix r t=>.fix r (aV.Q5 m t)
theorem aV.put {i:Nat} {b:Addr} {ws:List V} {ds ds':List D} (r:aF K Γ G ws ds):∀ {vs:List V} {es:List Mx} {bs:List Addr} {j:Nat},aV K Γ H0 G H O i vs es bs→es[j]? = some (.own ds')→vs[j]? = some (.ref b)→aV K Γ H0 G (upd H b (.lst ws)) O i vs (es.set j (.own ds)) bs
  | _,_,_,_,.nil,e,_=>by simp at e
  | _,_,_,0,.own h g h0 o r' n t,e,e2=>by
    simp at e2
    subst e2
    exact .own aL g h0 o r n (aV.Q5 n t)
  | _,_,_,0,.fix _ t,e,e2=>by simp at e
  | _,_,_,j + 1,.own (b:=b') (vs:=vs') h g h0 o r' n t,e,e2=>by
    have e':vs'[j]? = some (V.ref b):=by simpa using e2
    obtain ⟨b2,_,z1,z2,_⟩:=t.at (j:=j) (by simpa using e)
    rw [e'] at z1
    cases z1
    exact .own ((aD fun (z:b' = b)=>n (by rw [z]; exact z2)).trans h) g h0 o r' n (aV.put (j:=j) r t (by simpa using e) e')
  | _,_,_,j + 1,.fix r' t,e,e2=>.fix r' (aV.put (j:=j) r t (by simpa using e) (by simpa using e2))
theorem aV.reG {i:Nat} (gg:bC G G'):∀ {vs:List V} {es:List Mx} {bs:List Addr},(∀ b ∈ bs,G' b = none)→aV K Γ H0 G H O i vs es bs→aV K Γ H0 G' H O i vs es bs
  | _,_,_,_,.nil=>.nil
  | _,_,_,m,.own h g h0 o r n t=>.own h (m _ List.mem_cons_self) h0 o (r.mono gg) n (aV.reG gg (fun b z=>m b (List.mem_cons_of_mem _ z)) t)
  | _,_,_,m,.fix r t=>.fix (r.mono gg) (aV.reG gg m t)
theorem aV.setF {i:Nat} {v:V} {d:D} (r:Rep K Γ G v d):∀ {vs:List V} {es:List Mx} {bs:List Addr} (j:Nat),aV K Γ H0 G H O i vs es bs→∃ bs',(∀ b ∈ bs',b ∈ bs)∧aV K Γ H0 G H O i (vs.set j v) (es.set j (.fix d)) bs'
  | _,_,_,_,.nil=>⟨[],fun b z=>z,.nil⟩
  | _,_,_,0,.own (bs:=bs) h g h0 o r' n t=>⟨bs,fun c z=>List.mem_cons_of_mem _ z,.fix r t⟩
  | _,_,_,0,.fix (bs:=bs) r' t=>⟨bs,fun c z=>z,.fix r t⟩
  | _,_,_,j + 1,.own (b:=b) h g h0 o r' n t=>by
    obtain ⟨bs',m,z⟩:=aV.setF r j t
    refine ⟨b :: bs',fun c hc=>?_,.own h g h0 o r' (fun z=>n (m _ z)) z⟩
    rcases List.mem_cons.mp hc with z | z
    · rw [z]; exact List.mem_cons_self
    · exact List.mem_cons_of_mem _ (m c z)
  | _,_,_,j + 1,.fix r' t=>by
    obtain ⟨bs',m,z⟩:=aV.setF r j t
    exact ⟨bs',m,.fix r' z⟩
theorem aV.adH {i:Nat} {bb:Addr} {ws:List V} {ds:List D} (hw:H bb = some (.lst ws)) (gg:bC G (d7 G H fun b=>decide (b = bb))):∀ {vs:List V} {es:List Mx} {bs:List Addr} {j:Nat},aV K Γ H0 G H O i vs es bs→es[j]? = some (.own ds)→vs[j]? = some (.ref bb) →
    ∃ bs',bb ∉ bs'∧(∀ b ∈ bs',b ∈ bs)∧aV K Γ H0 (d7 G H fun b=>decide (b = bb)) H O i vs (es.set j (.fix (.lst ds))) bs'
  | _,_,_,_,.nil,e,_=>by simp at e
  | _,_,_,0,.own (b:=b) (bs:=bs) h g h0 o r n t,e,e2=>by
    simp at e e2
    subst e e2
    refine ⟨bs,n,fun c z=>List.mem_cons_of_mem _ z,.fix (.lst (by unfold d7; rw [if_pos (by simp)]; exact h) (r.mono gg)) (t.reG gg fun c hc=>?_)⟩
    unfold d7
    rw [if_neg (by simp; rintro rfl; exact n hc)]
    exact (t.facts c hc).2.1
  | _,_,_,0,.fix _ t,e,_=>by simp at e
  | _,_,_,j + 1,.own (b:=b) h g h0 o r n t,e,e2=>by
    have e':=(by simpa using e:_)
    obtain ⟨bs',m1,m2,z⟩:=aV.adH (j:=j) hw gg t (by simpa using e) (by simpa using e2)
    obtain ⟨b2,_,z1,z2,_⟩:=t.at (j:=j) (by simpa using e)
    have e3:=(by simpa using e2:_)
    rw [z1] at e3
    have eb:b2 = bb:=by simpa using e3
    have nb:b ≠ bb:=fun z=>n (by rw [z,← eb]; exact z2)
    refine ⟨b :: bs',fun z=>?_,fun c hc=>?_,.own h (by unfold d7; rw [if_neg (by simpa using nb)]; exact g) h0 o (r.mono gg) (fun z=>n (m2 _ z)) z⟩
    · rcases List.mem_cons.mp z with z | z
      · exact nb z.symm
      · exact m1 z
    · rcases List.mem_cons.mp hc with z | z
      · rw [z]; exact List.mem_cons_self
      · exact List.mem_cons_of_mem _ (m2 c z)
  | _,_,_,j + 1,.fix r t,e,e2=>by
    obtain ⟨bs',m1,m2,z⟩:=aV.adH (j:=j) hw gg t (by simpa using e) (by simpa using e2)
    exact ⟨bs',m1,m2,.fix (r.mono gg) z⟩
theorem SR.frzSl (S:SR K Γ G0 H0 G H σ δ) (q:∀ i s,δ[i]? = some (some s)→∃ v,σ[i]? = some (some v)∧cM K Γ H0 G H O i v s) {i:Nat} (p:Addr→Bool) (hp:∀ b,p b = true→O b = some i∧G b = none∧H0 b = none) {v:V} {x:Sl} (hv:σ[i]? = some (some v))
    (n:cM K Γ H0 (d7 G H p) H O i v x):SR K Γ G0 H0 (d7 G H p) H σ (δ.set i (some x)):=by
  have gg:bC G (d7 G H p):=fV fun b z=>(hp b z).2.1
  have gn:∀ b,O b ≠ some i→G b = none→d7 G H p b = none:=fun b hb g=>by
    unfold d7
    split
    · exact absurd (hp b ‹_›).1 hb
    · exact g
  refine ⟨⟨S.st.gg.trans gg,S.st.hh,fun b u e=>?_,fun b hb g0=>?_⟩,by rw [List.length_set]; exact S.len,?_⟩
  · unfold d7 at e
    split at e
    · exact e
    · exact S.st.gh _ _ e
  · unfold d7
    split
    · exact absurd (hp b ‹_›).2.2 hb
    · exact S.st.sep b hb g0
  · have z:=Slots.put (v:=v) (i:=i) (x:=x) S.len (fun j y e ij=>by
      obtain ⟨v',h1,h2⟩:=q j y e
      exact ⟨v',h1,h2.frame ij (fun _ _=>rfl) gg gn⟩) n
    rwa [sE hv] at z
def adG (es:List Mx) (j:Nat):List Mx:=match es[j]? with
  | some (.own ds)=>es.set j (.fix (.lst ds))
  | _=>es
def Pg (i:Nat) (k:Int) (δ:DSt):DSt:=match δ[i]? with
  | some (some (.omx es))=>match ixN es.length k with
    | some j=>δ.set i (some (.omx (adG es j)))
    | none=>δ
  | _=>δ
theorem SR.Pg (S:SR K Γ G0 H0 G H σ δ) (i:Nat) (k:Int):∃ G',SR K Γ G0 H0 G' H σ (DL.Pg i k δ):=by
  obtain ⟨O,q⟩:=id S.sl
  unfold DL.Pg
  split
  · rename_i es e
    split
    · rename_i j hj
      unfold adG
      split
      · rename_i ds ej
        obtain ⟨v,hv,a,vs,bs,ev,h1,h2,h3,h4,h5,h6⟩:=q i _ e
        subst ev
        obtain ⟨bb,ws,z1,z2,z3,z4,z5,z6,z7⟩:=h6.at ej
        have hp:∀ b,decide (b = bb) = true→O b = some i∧G b = none∧H0 b = none:=fun b z=>by obtain rfl:=of_decide_eq_true z; exact ⟨z6,z4,z5⟩
        obtain ⟨bs',m1,m2,z⟩:=h6.adH z3 (fV fun b z=>(hp b z).2.1) ej z1
        refine ⟨_,S.frzSl q (fun b=>decide (b = bb)) hp hv ⟨a,vs,bs',rfl,h1,?_,h3,h4,fun z=>h5 (m2 _ z),z⟩⟩
        unfold d7
        rw [if_neg (by simp; rintro rfl; exact h5 z2)]
        exact h2
      · exact ⟨G,by rw [sE e]; exact S⟩
    · exact ⟨G,S⟩
  · exact ⟨G,S⟩
end
section
variable {X:Cx} {Γ:Nat→Option Addr} {E:XK} {st:Stmt} {g:DSt→Out Fl} {e a b c o:Expr} {pos apos:Pos} {es:List Expr} {fa fb fo:DSt→Out D} {fr:DSt→Out (List D)} {CX:CXT}
theorem OJ (i:Nat) (h:DS X Γ E st g):DS X Γ E st (fun δ=>g (mix i δ)):=PS.imp h fun N σ H ⟨G0,H0,G,δ,S,w⟩=>⟨G0,H0,G,_,S.mix i,w⟩
def rF (i:Nat) (fk:DSt→Out D) (g:DSt→Out Fl):DSt→Out Fl:=fun δ=>match fk δ with
  | .ok (.int k)=>g (Pg i k δ)
  | _=>.stuck
theorem abL (i:Nat) (fk:DSt→Out D) (h:DS X Γ E st g):DS X Γ E st (rF i fk g):=PS.imp h fun N σ H ⟨G0,H0,G,δ,S,w⟩=>by
  unfold rF at w
  split at w
  · rename_i k _
    obtain ⟨G',S'⟩:=S.Pg i k
    exact ⟨G0,H0,G',_,S',w⟩
  · exact False.elim w
def ixM (i:Nat) (fk:DSt→Out D):DSt→Out D:=fun δ=>match δ[i]? with
  | some (some (.omx es))=>(fk δ).bind fun k=>match k with
    | .int k=>match ixN es.length k with
      | some j=>match es[j]? with
        | some (.fix d)=>.ok d
        | _=>.stuck
      | none=>.stuck
    | _=>.stuck
  | _=>.stuck
theorem de_ixM (i:Nat) {x:Str} {p:Pos} (h:PE X (.Name x p) (xR i)) (hb:DE X Γ E b fb) (hs:Ae b:=by exact fun _ _=>rfl):DE X Γ E (.Subscript (.Name x p) b pos) (ixM i fb):=PE.imp (acg M5 h hb hs) fun σ H Q ⟨G0,H0,G,δ,S,w⟩=>by
  obtain ⟨O,q⟩:=id S.sl
  unfold ixM at w
  split at w
  · rename_i es e
    obtain ⟨v,hv,a,vs,bs,ev,h1,h2,h3,h4,h5,h6⟩:=q i _ e
    subst ev
    refine ⟨_,hv,G0,H0,G,δ,S,(au w).mono (fun d w u G1 H1 s1 r1=>?_) fun x k=>k⟩
    split at w
    · rename_i k
      split at w
      · rename_i j hj
        split at w
        · rename_i d ej
          cases r1
          obtain ⟨v,z1,z2⟩:=(h6.step s1).fixAt ej
          exact ⟨a,vs,k,v,rfl,rfl,SqL.of (s1.hh _ _ h1),by unfold atI; rw [h6.length,hj]; exact z1,w v G1 H1 s1 z2⟩
        · exact False.elim w
      · exact False.elim w
    · exact False.elim w
  · exact False.elim w
def zY (i:Nat) (fe fk:DSt→Out D):DSt→Out Fl:=fun δ=>(fe δ).bind fun d=>match δ[i]? with
  | some (some (.omx es))=>(fk δ).bind fun k=>match k with
    | .int k=>match ixN es.length k with
      | some j=>.ok (.nx (δ.set i (some (.omx (es.set j (.fix d))))))
      | none=>.stuck
    | _=>.stuck
  | _=>.stuck
theorem ae0 (i:Nat) {x:Str} {p p2:Pos} (hv:PE X (.Name x p) (xR i)) (he:DE X Γ E e fa) (hb:DE X Γ E b fb) (hh:∀ {te to ti:TE},PE X e te→PE X (.Name x p) to→PE X b ti→PS X (.Assign [.Subscript (.Name x p) b p2] e pos) (tAsg te (gSub to ti rSetL))) :
    DS X Γ E (.Assign [.Subscript (.Name x p) b p2] e pos) (zY i fa fb) :=
  PS.imp (hh he hv hb) fun N σ H ⟨G0,H0,G,δ,S,w⟩=>by
    refine ⟨G0,H0,G,δ,S,(au w).mono (fun d w u G1 H1 s1 r1=>?_) fun x k=>exD.step k S.st⟩
    have S1:=S.step s1
    obtain ⟨O,q⟩:=id S1.sl
    split at w
    · rename_i es ei
      obtain ⟨v,hvi,aa,vs,bs,ev,h1,h2,h3,h4,h5,h6⟩:=id (q i _ ei)
      subst ev
      refine ⟨_,hvi,G0,H0,G1,δ,S1,(au w).mono (fun d2 w u2 G2 H2 s2 r2=>?_) fun x k=>exD.step k S1.st⟩
      split at w
      · rename_i k
        split at w
        · rename_i j hj
          cases r2
          have S2:=S1.step s2
          have q1:∀ i s,δ[i]? = some (some s)→∃ v,σ[i]? = some (some v)∧cM X.K Γ H0 G2 H2 O i v s:=fun j y e=>by
            obtain ⟨v',z1,z2⟩:=q j y e
            exact ⟨v',z1,z2.step s2⟩
          have ga:G2 aa = none:=s2.sep aa (by rw [h1]; exact fun z=>nomatch z) h2
          obtain ⟨bs',m,z⟩:=(h6.step s2).setF (r1.mono s2.gg) j
          have na:aa ∉ bs':=fun z=>h5 (m _ z)
          refine ⟨aa,vs,k,j,rfl,rfl,s2.hh _ _ h1,by rw [h6.length]; exact hj,w σ G2 _ (S2.write q1 ga h3 h4 hvi ⟨aa,_,bs',rfl,aL,ga,h3,h4,na,aV.Q5 na z⟩)⟩
        · exact False.elim w
      · exact False.elim w
    · exact False.elim w
def iy (i:Nat) (fe fk fl:DSt→Out D):DSt→Out Fl:=fun δ=>(fe δ).bind fun d=>match δ[i]? with
  | some (some (.omx es))=>(fk δ).bind fun k=>match k with
    | .int k=>match ixN es.length k with
      | some j=>match es[j]? with
        | some (.own ds)=>(fl δ).bind fun l=>match l with
          | .int l=>match ixN ds.length l with
            | some m=>.ok (.nx (δ.set i (some (.omx (es.set j (.own (ds.set m d)))))))
            | none=>.stuck
          | _=>.stuck
        | _=>.stuck
      | none=>.stuck
    | _=>.stuck
  | _=>.stuck
theorem O1 (i:Nat) {x:Str} {p p2 p3:Pos} {fc:DSt→Out D} (hv:PE X (.Name x p) (xR i)) (he:DE X Γ E e fa) (hb:DE X Γ E b fb) (hc:DE X Γ E c fc) (hh:∀ {te to ti:TE},PE X e te→PE X (.Subscript (.Name x p) b p3) to→PE X c ti→PS X (.Assign [.Subscript (.Subscript (.Name x p) b p3) c p2] e pos) (tAsg te (gSub to ti rSetL))) (hs:Ae b:=by exact fun _ _=>rfl) :
    DS X Γ E (.Assign [.Subscript (.Subscript (.Name x p) b p3) c p2] e pos) (iy i fa fb fc) :=
  PS.imp (hh he (acg M5 hv hb hs) hc) fun N σ H ⟨G0,H0,G,δ,S,w⟩=>by
    refine ⟨G0,H0,G,δ,S,(au w).mono (fun d w u G1 H1 s1 r1=>?_) fun x k=>exD.step k S.st⟩
    have S1:=S.step s1
    obtain ⟨O,q⟩:=id S1.sl
    split at w
    · rename_i es ei
      obtain ⟨v,hvi,aa,vs,bs,ev,h1,h2,h3,h4,h5,h6⟩:=id (q i _ ei)
      subst ev
      refine ⟨_,hvi,G0,H0,G1,δ,S1,(au w).mono (fun d2 w u2 G2 H2 s2 r2=>?_) fun x k=>exD.step k S1.st⟩
      split at w
      · rename_i k
        split at w
        · rename_i j hj
          split at w
          · rename_i ds ej
            cases r2
            have S2:=S1.step s2
            have I6:=h6.step s2
            obtain ⟨bb,ws,z1,z0,z2,z3,z4,z5,z6⟩:=I6.at ej
            refine ⟨aa,vs,k,.ref bb,rfl,rfl,SqL.of (s2.hh _ _ h1),by unfold atI; rw [h6.length,hj]; exact z1,G0,H0,G2,δ,S2,(au w).mono (fun d3 w u3 G3 H3 s3 r3=>?_) fun x k=>exD.step k S2.st⟩
            split at w
            · rename_i l
              split at w
              · rename_i m hm
                cases r3
                have S3:=S2.step s3
                have I7:=I6.step s3
                have q1:∀ i s,δ[i]? = some (some s)→∃ v,σ[i]? = some (some v)∧cM X.K Γ H0 G3 H3 O i v s:=fun j y e=>by
                  obtain ⟨v',z1,z2⟩:=q j y e
                  exact ⟨v',z1,(z2.step s2).step s3⟩
                have ga:G3 aa = none:=s3.sep aa (by rw [s2.hh _ _ h1]; exact fun z=>nomatch z) (s2.sep aa (by rw [h1]; exact fun z=>nomatch z) h2)
                have gb:G3 bb = none:=s3.sep bb (by rw [z2]; exact fun z=>nomatch z) z3
                have ne:aa ≠ bb:=fun z=>h5 (by rw [z]; exact z0)
                refine ⟨bb,ws,l,m,rfl,rfl,s3.hh _ _ z2,by rw [z6.length]; exact hm,w σ G3 _ (S3.write q1 gb z4 z5 hvi ?_)⟩
                exact ⟨aa,vs,bs,rfl,(aD ne).trans (s3.hh _ _ (s2.hh _ _ h1)),ga,h3,h4,h5,I7.put (aF.set (r1.mono (s2.trans s3).gg) m (z6.mono s3.gg)) ej z1⟩
              · exact False.elim w
            · exact False.elim w
          · exact False.elim w
        · exact False.elim w
      · exact False.elim w
    · exact False.elim w
end
end DL
namespace DL
open PySem PySem.Spec PyProof.Rows MX L2
def sG (i:Int):Bool:=decide (-1000000 ≤ i) && decide (i ≤ 1000000)
theorem Vn {i:Int} (h:sG i = true):abP (.int i):=by
  unfold sG at h
  simp only [Bool.and_eq_true,decide_eq_true_eq] at h
  show i.natAbs.log2 < 1920
  have z:i.natAbs ≤ 1000000:=by omega
  by_cases q:i.natAbs = 0
  · rw [q]; decide
  · exact Nat.lt_of_le_of_lt ((Nat.le_log2 (n:=1000000) (by decide)).mpr (Nat.le_trans (Nat.log2_self_le q) z)) (by decide)
def spX2 (C:Addr) (f g:Str):Sp:=fun vs H Q _=>∃ (e:Addr) (v u:V),vs = [.ref e,v,u]∧abP v∧abP u∧H e = some (.exc true C none e) ∧
  ∀ (d:Addr) (H':Hp),H d = none→H' e = some (.exc true C (some d) e)→H' d = some (.xds [(f,v),(g,u)] d)→(∀ b o,H b = some o→b ≠ e→H' b = some o)→Q .non H'
section
variable {X:Cx} {Γ:Nat→Option Addr} {E:XK} {st:Stmt} {e a b c o:Expr} {pos apos:Pos} {es:List Expr} {fa fb fo:DSt→Out D} {fr:DSt→Out (List D)}
def xP (c:Nat) (f g:Str) (fr:DSt→Out (List D)):DSt→Out Fl:=fun δ=>(fr δ).bind fun ds=>match ds with
  | [.int i,.int j]=>if (sG i && sG j) = true then .ex (.exc c [(f,.int i),(g,.int j)]) else .stuck
  | _=>.stuck
theorem Ai {c k:Nat} {C N fI:Addr} {fd:FuncData} {ps:List Str} {x f g:Str} {p cpos:Pos} (hC:Γ c = some C) (hM:ExcC X.K C N) (hi:PySem.W.nsIn X.K N "__init__" = some (some (.ref fI))) (hfn:PySem.W.isFn X.K (.ref fI) = true) (F:bB X.prog X.w X.K X.mg X.base CX0 k fI fd ps (spX2 C f g)) (hr:gP (k + 1) X.A) (hb:Binds X.K fd ps []) (hT:Thr X E) (hc:X.calm = true) (hg:Gl X x) (hm:X.mg x = some (.ref C)) (ha:DA X Γ E (e :: es) fr)
    (hdb:(x == ("__debug__":Str)) = false:=by decide) (he:starEach (e :: es) X.env = (false,eval e X.env) :: starEach es X.env:=by rfl) (hpl:(backTo cpos (starEach es X.env)).any (·.1) = false:=by rfl) :
    DS X Γ E (.Raise (some (.Call (.Name x p) (e :: es) [] cpos)) none pos) (xP c f g fr) :=
  PS.imp (ps_throw hM hT hc (pe_makeX (E:=E) hM hi hfn F hr hg hm hb .nil bJ ha hdb he hpl)) fun D' σ H ⟨G0,H0,G,δ,S,w⟩=>by
    refine ⟨G0,H0,G,δ,S,(au w).mono (fun ds w vs G1 H1 s1 r1=>?_) fun _ k=>k.step S.st⟩
    split at w
    · rename_i i j
      by_cases hs:(sG i && sG j) = true
      · rw [if_pos hs] at w
        cases r1 with
        | cons q1 r1 =>
          cases r1 with
          | cons q2 r1 =>
            cases r1
            cases q1
            cases q2
            have hs':=Bool.and_eq_true_iff.mp hs
            refine ⟨by show 2 ≤ 1000; decide,fun a ha=>⟨a,_,_,rfl,Vn hs'.1,Vn hs'.2,aL,fun d H' hd h1 h2 kp=>⟨rfl,a,some d,rfl,h1,?_⟩⟩⟩
            have da:d ≠ a:=fun z=>by rw [z,aL] at hd; cases hd
            have hd1:H1 d = none:=by rw [aD da] at hd; exact hd
            have g1:G1 a = none:=aG s1.gh ha
            have g2:G1 d = none:=aG s1.gh hd1
            have st:Step G1 H1 (upd (upd G1 a (.exc false C (some d) a)) d (.xds [(f,.int i),(g,.int j)] d)) (upd H' a (.exc false C (some d) a)):=by
              refine ⟨fun b u e=>?_,fun b u e=>?_,fun b u e=>?_,fun b hb e=>?_⟩
              · rw [aD (aQ e g2),aD (aQ e g1)]; exact e
              · have nb:=aQ e ha
                rw [aD nb]
                exact kp b u (by rw [aD nb]; exact e) nb
              · by_cases z:b = d
                · subst z
                  rw [aL] at e
                  rw [aD da,h2]
                  exact e
                · rw [aD z] at e
                  by_cases z2:b = a
                  · subst z2; rw [aL] at e ⊢; exact e
                  · rw [aD z2] at e ⊢
                    exact kp b u (by rw [aD z2]; exact s1.gh _ _ e) z2
              · rw [aD (fun z=>hb (by rw [z]; exact hd1)),aD (fun z=>hb (by rw [z]; exact ha))]; exact e
            exact w a _ _ (S.st.trans (s1.trans st)) (.e1 (n:=false) (by rw [aD da.symm,aL]) aL hC (.cons (.int i) (.cons (.int j) .nil)))
      · rw [if_neg hs] at w
        exact False.elim w
    · exact False.elim w
def FldX (K:PySem.W.Frag) (Γ:Nat→Option Addr) (f:Str) (c:Nat):Prop:=∃ C,Γ c = some C∧ExcGet K C∧cT K C f
def Qi (f:Str) (c:Nat) (fo:DSt→Out D):DSt→Out D:=fun δ=>(fo δ).bind fun d=>match d with
  | .exc c' ((f1,d1) :: r)=>if c' = c then Out.opt (((f1,d1) :: r).lookup f) else .stuck
  | _=>.stuck
theorem MK {f:Str} {c:Nat} (hf:FldX X.K Γ f c) (he:DE X Γ E o fo) (hb:attributeBase o f X.env (eval o X.env) = eval o X.env:=by rfl):DE X Γ E (.Attribute o f pos) (Qi f c fo):=PE.imp (pe_fldX he hb) fun σ H Q ⟨G0,H0,G,δ,S,w⟩=>by
  refine ⟨G0,H0,G,δ,S,(au w).mono (fun d w2 v G1 H1 s1 r1=>?_) fun _ k=>k⟩
  split at w2
  · rename_i c' f1 d1 r
    split at w2
    · rename_i hc
      subst hc
      obtain ⟨d,e,k⟩:=bO w2
      obtain ⟨C,gC,ge,na⟩:=hf
      cases r1 with
      | e1 h h' g rf =>
        rw [gC] at g
        cases g
        obtain ⟨v,l1,l2⟩:=rf.look e
        exact ⟨_,_,_,_,_,v,rfl,s1.gh _ _ h,s1.gh _ _ h',ge,na,l1,k _ G1 H1 s1 l2⟩
    · exact False.elim w2
  · exact False.elim w2
def catL (fa fb:DSt→Out D):DSt→Out (List D):=fun δ=>(fa δ).bind fun x=>(fb δ).bind fun y=>match x,y with
  | .lst i,.lst j=>if i.length + j.length ≤ sizeLine then .ok (i ++ j) else .stuck
  | _,_=>.stuck
theorem df_cat (ha:DE X Γ E a fa) (hb:DE X Γ E b fb):DF X Γ E (.BinOp a .Add b pos) (catL fa fb):=PE.imp (Qt op_cat ha hb) fun σ H Q ⟨G0,H0,G,δ,S,w⟩=>by
  refine ⟨G0,H0,G,δ,S,(au w).mono (fun x w v G1 H1 s1 r1=>?_) fun _ k=>k⟩
  refine ⟨G0,H0,G1,δ,S.step s1,(au w).mono (fun y w u G2 H2 s2 r2=>?_) fun _ k=>k.step s1⟩
  split at w
  · split at w
    · rename_i h
      cases r2 with
      | lst h2 r2 =>
      cases r1 with
      | lst h1 r1 =>
        refine ⟨_,_,_,_,rfl,rfl,s2.gh _ _ (s2.gg _ _ h1),s2.gh _ _ h2,by rw [r1.length,r2.length]; exact h,fun l hl=>?_⟩
        have st:=(s1.trans s2)
        exact w l _ G2 _ (st.trans (.aside st.gh hl)) (aG st.hh hl) aL (aG st.gh hl) ((r1.mono s2.gg).append r2)
    · exact False.elim w
  · exact False.elim w
def mkD1 (fk fv:DSt→Out D):DSt→Out D:=fun δ=>(fk δ).bind fun k=>(fv δ).bind fun v=>(Out.opt (keyD k)).bind fun key=>.ok (.dK [(key,v)])
theorem Ou {p:Pos} (ha:DE X Γ E a fa) (hb:DE X Γ E b fb):DE X Γ E (.Dict [some a] [b] p) (mkD1 fa fb) :=
  PE.imp (pe_disp (pps_cons ha hb pps_nil) rfl rfl (by simp) (by simp)) fun σ H Q ⟨G0,H0,G,δ,S,w⟩=>fun q hq=>by
    have s0:Step G H G (upd H q (.dK [])):=.aside S.st.gh hq
    have S0:=S.step s0
    refine ⟨G0,H0,G,δ,S0,(au w).mono (fun d w v G1 H1 s1 r1=>?_) fun x k=>exD.step k s0⟩
    refine ⟨G0,H0,G1,δ,S0.step s1,(au w).mono (fun d2 w v2 G2 H2 s2 r2=>?_) fun x k=>exD.step k (s0.trans s1)⟩
    obtain ⟨key,ek,w⟩:=bO (au w)
    have hz:H2 q = some (.dK []):=s2.hh _ _ (s1.hh _ _ aL)
    have s02:=s0.trans (s1.trans s2)
    have gq:G2 q = none:=(s1.trans s2).sep q (by rw [aL]; exact fun z=>nomatch z) (aG S.st.gh hq)
    refine ⟨hz,[(key,v2)],by rw [r1.key ek]; rfl,by simp,w _ (upd G2 q (.dK [(key,v2)])) _ ⟨fun b o hb=>?_,fun b o hb=>?_,fun b o hb=>?_,fun b hb g=>?_⟩ (.dK aL (.cons (r2.mono (bC.up gq)) .nil))⟩
    · rw [aD (aQ (s02.gg _ _ hb) gq)]; exact s02.gg _ _ hb
    · rw [aD (aQ hb hq)]; exact s02.hh _ _ hb
    · by_cases z:b = q
      · subst z; rw [aL] at hb ⊢; exact hb
      · rw [aD z] at hb ⊢; exact s02.gh _ _ hb
    · rw [aD (fun z=>hb (by rw [z]; exact hq))]; exact s02.sep b hb g
end
section
variable {K:PySem.W.Frag}
theorem afg {N:Addr} {c:Value} {d:Option Addr} {es:Array DictEntry} {n:Nat} {sl:Array (Option Value)} (h:K.lookup N = some ⟨c,d,.dict es n,sl⟩) (e:(es.toList.all fun e=>match e.key with | .str _ _=>true | _=>false) = true):PySem.W.nsOkIn K N = true:=by
  unfold PySem.W.nsOkIn
  rw [h]
  dsimp only
  rw [← Array.all_toList]
  exact e
theorem tail_mk {HE:Addr} {c:Value} {d:Option Addr} {cd:ClassData} {sl:Array (Option Value)} (h:K.lookup HE = some ⟨c,d,.cls cd,sl⟩) (ok:PySem.W.nsOkIn K cd.ns = true) (ni:PySem.W.nsIn K cd.ns "__init__" = some none):PySem.W.tailIn K bmV (.ref HE :: bmV) = true:=by
  have b:PySem.W.tailIn K bmV bmV = true:=by
    unfold PySem.W.tailIn
    rw [beq_self_eq_true]
    rfl
  unfold PySem.W.tailIn
  dsimp only
  rw [h]
  dsimp only
  rw [ok,ni,b]
  simp
theorem exc_mk {HE C N:Addr} {nm q:Str} {bs:List Value} {sn:List Str} {sub:List Value} {ab:Bool} {col:Option Bool} {dd:Option Addr} {k0 k1 k2 k3 k5:Option Value}
    (o:K.lookup C = some (excClassObj nm q C N bs (.ref HE :: bmV) true sn sub ab col dd k0 k1 k2 k3 k5 "ValueError.__new__")) (tl:PySem.W.tailIn K bmV (.ref HE :: bmV) = true) (ok:PySem.W.nsOkIn K N = true)
    (ga:PySem.W.findIn K (.ref C) "__getattribute__" = some (some (.builtin "BaseException.__getattribute__"))) (gh:PySem.W.findIn K (.ref C) "__getattr__" = some none) (sa:PySem.W.findIn K (.ref C) "__setattr__" = some (some (.builtin "object.__setattr__")))
    (su:PySem.W.mroIn K C (.type "BaseException") = some true) (to:PySem.W.mroIn K C (.type "object") = some true) (cl:PySem.W.findIn K (.ref C) "__class__" = some (some (.builtin "object.__class__")))
    (get:PySem.W.specialIn K (.builtin "object.__class__") "__get__" = some (some (.builtin "getset_descriptor.__get__"))) (tk:PySem.W.takesIn K (.builtin "object.__class__") = some true) (kp:PySem.W.keepIn K (.ref C) = true):ExcC K C N∧∃ cd,PySem.W.clsIn K C = some cd:=by
  have cc:PySem.W.clsIn K C = some { name:=nm,bases:=bs,mro:=.ref C :: .ref HE :: bmV,ns:=N,qualname:=q,hasDict:=true,slotNames:=sn,subclasses:=sub,abstract:=ab,collection:=col,hasDel:=false }:=by
    unfold PySem.W.clsIn
    rw [o]
  exact ⟨⟨⟨ga,gh,sa,su,to,cl,get,tk,⟨_,[.ref C,.ref HE],cc,rfl,rfl,rfl⟩⟩,⟨nm,q,bs,_,sn,sub,ab,col,dd,k0,k1,k2,k3,k5,o,tl⟩,ok,kp⟩,_,cc⟩
end
def noStar:Expr→Bool
  | .Starred _ _=>false
  | _=>true
theorem af2 {e:Expr} {es:List Expr} {env:Env} (h:noStar e = true):starEach (e :: es) env = (false,eval e env) :: starEach es env:=by
  cases e <;> first | rfl | cases h
structure XIni (P:Program) (w:World) (K:PySem.W.Frag) (mg:Str→Option Value) (base:Heap) (N:Addr) (k:Nat) (ps:List Str) (sp:Sp):Prop where
  ex:∃ f fd,PySem.W.nsIn K N "__init__" = some (some (.ref f))∧PySem.W.isFn K (.ref f) = true∧bB P w K mg base CX0 k f fd ps sp∧Binds K fd ps []
abbrev vA (i:Nat) (g:DSt→Out Fl):DSt→Out Fl:=fun δ=>g (mix i δ)
end DL
namespace DL
open PySem PySem.Spec PyProof.Rows MX L2
structure DEx (X:Cx) (Γ:Nat→Option Addr) (E:XK) (e:Expr) (f:DSt→Out D):Prop where
  h:DE X Γ E e f
structure DAx (X:Cx) (Γ:Nat→Option Addr) (E:XK) (es:List Expr) (f:DSt→Out (List D)):Prop where
  h:DA X Γ E es f
structure DSx (X:Cx) (Γ:Nat→Option Addr) (E:XK) (st:Stmt) (g:DSt→Out Fl):Prop where
  h:DS X Γ E st g
structure DSsx (X:Cx) (Γ:Nat→Option Addr) (E:XK) (st:List Stmt) (g:DSt→Out Fl):Prop where
  h:DSs X Γ E st g
section
variable {X:Cx} {Γ:Nat→Option Addr} {E:XK} {e a b:Expr} {es:List Expr} {fa fb:DSt→Out D} {fr:DSt→Out (List D)} {pos p:Pos} {st:Stmt} {rest:List Stmt} {g g':DSt→Out Fl}
theorem dn:DAx X Γ E [] az:=⟨aK⟩
theorem dk (ha:DEx X Γ E e fa) (hr:DAx X Γ E es fr) (hs:noStar e = true:=by rfl):DAx X Γ E (e :: es) (aj fa fr):=⟨ak ha.h hr.h (af2 hs)⟩
theorem oJ {x1} (h:DAx X Γ E es fr):DEx X Γ E (.Tuple es x1 pos) (aX fr):=⟨dI h.h⟩
theorem wF (h:DAx X Γ E es fr):DEx X Γ E (.List es pos) (bF fr):=⟨m8 h.h⟩
theorem vf {i:Int} {j}:DEx X Γ E (.Constant (.int i) j pos) (fun _=>.ok (.int i)):=⟨aA⟩
theorem dbl {i:Bool} {j}:DEx X Γ E (.Constant (.bool i) j pos) (fun _=>.ok (.bl i)):=⟨iM⟩
theorem dnon {j}:DEx X Γ E (.Constant .none j pos) (fun _=>.ok .non):=⟨uC⟩
theorem dZ {x:Str} {j}:DEx X Γ E (.Constant (.str x) j pos) (fun _=>.ok (.str x)):=⟨cF⟩
theorem ddic (ha:DEx X Γ E a fa) (hb:DEx X Γ E b fb):DEx X Γ E (.Dict [some a] [b] p) (mkD1 fa fb):=⟨Ou ha.h hb.h⟩
theorem dxc (h1:DSx X Γ E st g) (h2:DSsx X Γ E rest g'):DSsx X Γ E (st :: rest) (bA g g'):=⟨cG h1.h h2.h⟩
theorem dx1 (h1:DSx X Γ E st g):DSsx X Γ E [st] g:=⟨aM h1.h⟩
theorem dxlst (i:Nat) {x:Str} {pos':Pos} (hN:X.N.Nodup) (hi:X.N[i]? = some x) (hx:Loc X.env.scope x) (h:DAx X Γ E es fr) (hs:swapsWith (.List es p) (some (.Name x pos')) pos.line X.env = pure false:=by rfl) (hf:X.fn x = true ∨ X.env.scope.names.lookup x = some .local:=by first | exact .inl rfl | exact .inr rfl) :
    DSx X Γ E (.Assign [.Name x pos'] (.List es p) pos) (kh i (Ey fr)):=⟨ae2 i (fun h=>eG hN hi hx h hs hf) (df_lst h.h)⟩
theorem abM (i j:Nat) {x:Str} {pos' p3:Pos} (hN:X.N.Nodup) (hi:X.N[i]? = some x) (hx:Loc X.env.scope x) (hj:DEx X Γ E a fa) (h:DAx X Γ E es fr) (hs:swapsWith (.BinOp a .Add (.List es p) p3) (some (.Name x pos')) pos.line X.env = pure false:=by rfl) (hf:X.fn x = true ∨ X.env.scope.names.lookup x = some .local:=by first | exact .inl rfl | exact .inr rfl) :
    DSx X Γ E (.Assign [.Name x pos'] (.BinOp a .Add (.List es p) p3) pos) (Bg j (kh i (catL fa (bF fr)))):=⟨adD j (ae2 i (fun h=>eG hN hi hx h hs hf) (df_cat hj.h (m8 h.h)))⟩
end
section
variable {P:Program} {w:World} {K:PySem.W.Frag} {mg:Str→Option Value} {base:Heap} {Γ:Nat→Option Addr}
theorem Qn {x qual:Str} {st:Stmt} {f:Addr} {fd:FuncData} {N ps:List Str} {k:Nat} {g:DSt→Out Fl} (F:L2.Fun K x qual st f fd) (S:aR N ps (ao st))
    (h:∀ (cdv:Value) (A:Around) (outer:List Env) (s:Shared) (H:Hp) (E:XK),gP k (A.deeper (envOfC qual (ao st) s.heap.objs.size f cdv))→DSsx (Hz CX0 P w K mg base N qual (ao st) f cdv A outer s H E).nox Γ E0 (aP st) g) :
    bB P w K mg base CX0 (k + 1) f fd ps (spD K Γ ps.length fun ds=>(dR N.length g ds).bL):=DL.Fun.okD F S fun cdv A outer s H E hr=>(h cdv A outer s H E hr).h
end
end DL
namespace K2
open PySem L2 MX DL
def top (i:Nat):Stmt:=PySem.Challenge.pw_mustmay_k03_bad_plans.main.body.getD i (.Pass ⟨0,0,0,0⟩)
structure Ad where
  Door:Addr
  Must:Addr
  May:Addr
  Shut:Addr
  Torn:Addr
  Draft:Addr
  Plan:Addr
  BadPlan:Addr
  zT:Addr
  HallError:Addr
def Ga (t:Ad):Nat→Option Addr:=fun c=>[t.Door,t.Must,t.May,t.Shut,t.Torn,t.Draft,t.Plan,t.BadPlan][c]?
abbrev qX:Nat:=1
abbrev Cy:Nat:=2
abbrev pR:Nat:=3
abbrev pU:Nat:=4
abbrev fJ:Nat:=5
abbrev j4:Nat:=6
abbrev bI:Nat:=7
def oU:D→Option Bool:=isiX [(bI,true)]
def jH:D→Option Bool:=oR "bool" []
def Aq:D→Option Bool:=oR "int" []
def bQ:D→Option Bool:=oR "list" []
def jQ:D→Option Bool:=oR "str" []
def jh:D→Option Bool:=oR "tuple" []
def dJ:Nat→Bool:=fun c=>c == bI
structure Txt (K:PySem.W.Frag) (mg:Str→Option Value) (t:Ad):Prop where
  g_Door:mg "Door" = some (.ref t.Door)
  i_Door:pP K t.Door
  g_Must:mg "Must" = some (.ref t.Must)
  Ig:pP K t.Must
  g_May:mg "May" = some (.ref t.May)
  Vr:pP K t.May
  g_Shut:mg "Shut" = some (.ref t.Shut)
  Ih:pP K t.Shut
  g_Torn:mg "Torn" = some (.ref t.Torn)
  Ii:pP K t.Torn
  afa:mg "Draft" = some (.ref t.Draft)
  Gg:pP K t.Draft
  g_Plan:mg "Plan" = some (.ref t.Plan)
  Px:pP K t.Plan
  vh:mg "BadPlan" = some (.ref t.BadPlan)
  Ka:mg "HallError" = some (.ref t.HallError)
  Wz:Aa K t.HallError "__init__" (.builtin "ValueError.__init__")
  dm:ExcC K t.BadPlan t.zT
  dw:cT K t.BadPlan "room"
  cJ:cT K t.BadPlan "action"
  dJ:CatOk K (Ga t) t.HallError dJ
  gm:cT K t.Draft "actions"
  gr:cT K t.Draft "rooms"
  qG:cT K t.May "to"
  nD:cT K t.Must "to"
  gZ:cT K t.Plan "actions"
  ig:cT K t.Plan "rooms"
  nF:cT K t.Shut "to"
  nG:cT K t.Torn "to"
  b_all:mg "all" = none
  adc:mg "bool" = none
  JV:mg "enumerate" = none
  b_int:mg "int" = none
  cC:mg "isinstance" = none
  iB:mg "len" = none
  NT:mg "list" = none
  b_max:mg "max" = none
  b_min:mg "min" = none
  Ag:mg "range" = none
  b_set:mg "set" = none
  b_str:mg "str" = none
  v6:mg "tuple" = none
  oU:Bq K (Ga t) (.ref t.BadPlan) oU
  jH:Bq K (Ga t) (.ty "bool") jH
  Aq:Bq K (Ga t) (.ty "int") Aq
  bQ:Bq K (Ga t) (.ty "list") bQ
  jQ:Bq K (Ga t) (.ty "str") jQ
  jh:Bq K (Ga t) (.ty "tuple") jh
  uY:∃ u,mg "LETTERS" = some u∧RelV (.str "abcdefghijklmnopqrstuvwxyz") u
  iK:∃ u,mg "MOST_ACTIONS" = some u∧RelV (.int 8) u
  lL:∃ u,mg "MOST_ROOMS" = some u∧RelV (.int 2000) u
  lM:∃ u,mg "MOST_SIGNS" = some u∧RelV (.int 8) u
section
variable {P:Program} {w:World} {K:PySem.W.Frag} {mg:Str→Option Value} {base:Heap} {t:Ad}
abbrev kj:Stmt:=inClass (top 2) 0
abbrev kO:Stmt:=inClass (top 5) 0
abbrev kY:Stmt:=inClass (top 6) 0
def yw:List D→Out (List (Str × D)):=fun ds=>match ds with
  | [d]=>.ok [("to",d)]
  | _=>.stuck
def UJ:List D→Out (List (Str × D)):=yw
def yx:List D→Out (List (Str × D)):=fun ds=>match ds with
  | []=>.ok [("to",.non)]
  | _=>.stuck
def Cu:List D→Out (List (Str × D)):=yx
def aaM (K:PySem.W.Frag):Sp:=fun vs H Q _=>∃ a C dx v,vs = [.ref a,v]∧H a = some (.ins C dx [])∧Cls K C∧cT K C "to"∧Q .non (upd H a (.ins C dx [("to",v)]))
theorem aak:aR ["self","to"] ["self","to"] (ao kj):=⟨rfl,rfl,rfl,by decide +kernel,rfl,by decide +kernel,by decide +kernel⟩
theorem Zm {f:Addr} {fd:FuncData} (F:L2.Fun K "__init__" "Door.__init__" kj f fd):bB P w K mg base CX0 1 f fd ["self","to"] (aaM K):=by
  refine F.ok aak (fun vs H Q E h=>?_) (fun cdv A outer s H vs Q E hr h=>?_)
  · obtain ⟨a,C,dx,v,rfl,_⟩:=h
    rfl
  · obtain ⟨a,C,dx,v,rfl,hH,cl,na,q⟩:=h
    refine ⟨_,qt (aes (pv 0) (pv 1) rfl),?_⟩
    exact ⟨_,rfl,_,rfl,a,C,dx,_,rfl,hH,cl,na,(by decide),q⟩
theorem aaN {K:PySem.W.Frag} {Γ:Nat→Option Addr} {G H:Hp} {a C dx:Addr} {v:V} {d:D} {f:Str} {Q:VK} (ga:G a = none) (sg:bC G H) (r:Rep K Γ G v d)
    (w:∀ fs G' H',bC G G'→(∀ b o,H b = some o→b ≠ a→H' b = some o)→bC G' H'→(∀ b,H b ≠ none→G b = none→G' b = none)→H' a = some (.ins C dx fs)→lH K Γ G' fs [(f,d)]→Q .non H'):Q .non (upd H a (.ins C dx [(f,v)])) :=
  w [(f,v)] G _ (bC.refl _) (fun b o e hb=>by rw [aD hb]; exact e) (fun b o e=>by rw [aD (aQ e ga)]; exact sg _ _ e) (fun _ _ g=>g) aL (.cons r .nil)
theorem ok_to {c:Nat} {f C0:Addr} {fd:FuncData} (F:bB P w K mg base CX0 1 f fd ["self","to"] (aaM K)) (hc:Ga t c = some C0) (cl:Cls K C0) (na:cT K C0 "to"):bB P w K mg base CX0 1 f fd ["self","to"] (spI K (Ga t) c 1 yw):=F.imp fun vs H Q E h=>by
  obtain ⟨hl,a,dx,C,us,G,ds,rfl,hH,hC,ga,sg,r,w⟩:=h
  rw [hc] at hC
  cases hC
  cases r with
  | nil=>cases hl
  | cons r1 r2 =>
    cases r2 with
    | cons _ _=>cases hl
    | nil=>exact ⟨a,C0,dx,_,rfl,hH,cl,na,aaN ga sg r1 w⟩
theorem aap:aR ["self"] ["self"] (ao kO):=⟨rfl,rfl,rfl,by decide +kernel,rfl,by decide +kernel,by decide +kernel⟩
theorem aar:aR ["self"] ["self"] (ao kY):=⟨rfl,rfl,rfl,by decide +kernel,rfl,by decide +kernel,by decide +kernel⟩
theorem Zt {f fD:Addr} {fd fdD:FuncData} (F:L2.Fun K "__init__" "Shut.__init__" kO f fd) (T:Txt K mg t) (G0:bB P w K mg base CX0 1 fD fdD ["self","to"] (aaM K)) (ca:Aa K t.Door "__init__" (.ref fD)) (hk:PySem.W.keepIn K (.ref fD) = true) (hb:Binds K fdD ["self","to"] []):bB P w K mg base CX0 2 f fd ["self"] (spI K (Ga t) pR 0 yx):=by
  refine F.ok aap (fun vs H Q E h=>h.1) (fun cdv A outer s H vs Q E hr h=>?_)
  obtain ⟨hl,a,dx,C,us,G,ds,rfl,hH,hC,ga,sg,r,w⟩:=h
  cases hC
  cases r with
  | cons _ _=>cases hl
  | nil =>
    refine ⟨_,qt (mR (acf G0 hr rfl T.g_Door ca hk hb .nil pass0 (cg (pv 0) (cg aek gU)))),?_⟩
    exact ⟨_,rfl,a,_,dx,_,rfl,hH,T.Ih.cls,T.nF,aaN ga sg .non w⟩
theorem Zv {f fD:Addr} {fd fdD:FuncData} (F:L2.Fun K "__init__" "Torn.__init__" kY f fd) (T:Txt K mg t) (G0:bB P w K mg base CX0 1 fD fdD ["self","to"] (aaM K)) (ca:Aa K t.Door "__init__" (.ref fD)) (hk:PySem.W.keepIn K (.ref fD) = true) (hb:Binds K fdD ["self","to"] []):bB P w K mg base CX0 2 f fd ["self"] (spI K (Ga t) pU 0 Cu):=by
  refine F.ok aar (fun vs H Q E h=>h.1) (fun cdv A outer s H vs Q E hr h=>?_)
  obtain ⟨hl,a,dx,C,us,G,ds,rfl,hH,hC,ga,sg,r,w⟩:=h
  cases hC
  cases r with
  | cons _ _=>cases hl
  | nil =>
    refine ⟨_,qt (mR (acf G0 hr rfl T.g_Door ca hk hb .nil pass0 (cg (pv 0) (cg aek gU)))),?_⟩
    exact ⟨_,rfl,a,_,dx,_,rfl,hH,T.Ii.cls,T.nG,aaN ga sg .non w⟩
abbrev kI:Stmt:=inClass (top 3) 0
theorem aan:aR ["self"] ["self"] (ao kI):=⟨rfl,rfl,rfl,by decide +kernel,rfl,by decide +kernel,by decide +kernel⟩
def Kc:DSt→Out Fl:=(bU (kc (.str "must")))
def yq:List D→Out D:=fun ds=>(dR 1 Kc ds).bL
theorem Zq {f:Addr} {fd:FuncData} (F:L2.Fun K "word" "Must.word" kI f fd) (T:Txt K mg t) :bB P w K mg base CX0 1 f fd ["self"] (spD K (Ga t) 1 yq):=by
  refine DL.Fun.okD F aan fun cdv A outer s H E hr=>?_
  exact (aM (bf cF))
abbrev nM:Stmt:=inClass (top 4) 0
theorem acr:aR ["self"] ["self"] (ao nM):=⟨rfl,rfl,rfl,by decide +kernel,rfl,by decide +kernel,by decide +kernel⟩
def Pj:DSt→Out Fl:=(bU (kc (.str "may")))
def Cq:List D→Out D:=fun ds=>(dR 1 Pj ds).bL
theorem ab9 {f:Addr} {fd:FuncData} (F:L2.Fun K "word" "May.word" nM f fd) (T:Txt K mg t) :bB P w K mg base CX0 1 f fd ["self"] (spD K (Ga t) 1 Cq):=by
  refine DL.Fun.okD F acr fun cdv A outer s H E hr=>?_
  exact (aM (bf cF))
abbrev kW:Stmt:=inClass (top 5) 1
theorem aaq:aR ["self"] ["self"] (ao kW):=⟨rfl,rfl,rfl,by decide +kernel,rfl,by decide +kernel,by decide +kernel⟩
def Kd:DSt→Out Fl:=(bU (kc (.str "shut")))
def yr:List D→Out D:=fun ds=>(dR 1 Kd ds).bL
theorem Zu {f:Addr} {fd:FuncData} (F:L2.Fun K "word" "Shut.word" kW f fd) (T:Txt K mg t) :bB P w K mg base CX0 1 f fd ["self"] (spD K (Ga t) 1 yr):=by
  refine DL.Fun.okD F aaq fun cdv A outer s H E hr=>?_
  exact (aM (bf cF))
abbrev kZ:Stmt:=inClass (top 6) 1
theorem aas:aR ["self"] ["self"] (ao kZ):=⟨rfl,rfl,rfl,by decide +kernel,rfl,by decide +kernel,by decide +kernel⟩
def Ke:DSt→Out Fl:=(bU (kc (.str "torn")))
def yt:List D→Out D:=fun ds=>(dR 1 Ke ds).bL
theorem Zw {f:Addr} {fd:FuncData} (F:L2.Fun K "word" "Torn.word" kZ f fd) (T:Txt K mg t) :bB P w K mg base CX0 1 f fd ["self"] (spD K (Ga t) 1 yt):=by
  refine DL.Fun.okD F aas fun cdv A outer s H E hr=>?_
  exact (aM (bf cF))
def GR:List (Nat × (List D→Out D)):=[(qX,yq),(Cy,Cq),(pR,yr),(pU,yt)]
abbrev ju:Stmt:=inClass (top 3) 1
theorem Ui:aR ["self"] ["self"] (ao ju):=⟨rfl,rfl,rfl,by decide +kernel,rfl,by decide +kernel,by decide +kernel⟩
def XQ:DSt→Out Fl:=(bU (kc (.bl true)))
def VN:List D→Out D:=fun ds=>(dR 1 XQ ds).bL
theorem Tu {f:Addr} {fd:FuncData} (F:L2.Fun K "needs" "Must.needs" ju f fd) (T:Txt K mg t) :bB P w K mg base CX0 1 f fd ["self"] (spD K (Ga t) 1 VN):=by
  refine DL.Fun.okD F Ui fun cdv A outer s H E hr=>?_
  exact (aM (bf iM))
abbrev kE:Stmt:=inClass (top 4) 1
theorem aam:aR ["self"] ["self"] (ao kE):=⟨rfl,rfl,rfl,by decide +kernel,rfl,by decide +kernel,by decide +kernel⟩
def abQ:DSt→Out Fl:=(bU (kc (.bl false)))
def aaX:List D→Out D:=fun ds=>(dR 1 abQ ds).bL
theorem Zo {f:Addr} {fd:FuncData} (F:L2.Fun K "needs" "May.needs" kE f fd) (T:Txt K mg t) :bB P w K mg base CX0 1 f fd ["self"] (spD K (Ga t) 1 aaX):=by
  refine DL.Fun.okD F aam fun cdv A outer s H E hr=>?_
  exact (aM (bf iM))
abbrev jw:Stmt:=inClass (top 5) 2
theorem Uj:aR ["self"] ["self"] (ao jw):=⟨rfl,rfl,rfl,by decide +kernel,rfl,by decide +kernel,by decide +kernel⟩
def XR:DSt→Out Fl:=(bU (kc (.bl false)))
def VP:List D→Out D:=fun ds=>(dR 1 XR ds).bL
theorem Tv {f:Addr} {fd:FuncData} (F:L2.Fun K "needs" "Shut.needs" jw f fd) (T:Txt K mg t) :bB P w K mg base CX0 1 f fd ["self"] (spD K (Ga t) 1 VP):=by
  refine DL.Fun.okD F Uj fun cdv A outer s H E hr=>?_
  exact (aM (bf iM))
abbrev jx:Stmt:=inClass (top 6) 2
theorem Uk:aR ["self"] ["self"] (ao jx):=⟨rfl,rfl,rfl,by decide +kernel,rfl,by decide +kernel,by decide +kernel⟩
def XS:DSt→Out Fl:=(bU (kc (.bl true)))
def VR:List D→Out D:=fun ds=>(dR 1 XS ds).bL
theorem Tw {f:Addr} {fd:FuncData} (F:L2.Fun K "needs" "Torn.needs" jx f fd) (T:Txt K mg t) :bB P w K mg base CX0 1 f fd ["self"] (spD K (Ga t) 1 VR):=by
  refine DL.Fun.okD F Uk fun cdv A outer s H E hr=>?_
  exact (aM (bf iM))
abbrev ik:Stmt:=inClass (top 3) 2
theorem QL:aR ["self"] ["self"] (ao ik):=⟨rfl,rfl,rfl,by decide +kernel,rfl,by decide +kernel,by decide +kernel⟩
def Ss:DSt→Out Fl:=(bU (kc (.bl true)))
def Rb:List D→Out D:=fun ds=>(dR 1 Ss ds).bL
theorem Qo {f:Addr} {fd:FuncData} (F:L2.Fun K "allows" "Must.allows" ik f fd) (T:Txt K mg t) :bB P w K mg base CX0 1 f fd ["self"] (spD K (Ga t) 1 Rb):=by
  refine DL.Fun.okD F QL fun cdv A outer s H E hr=>?_
  exact (aM (bf iM))
abbrev jt:Stmt:=inClass (top 4) 2
theorem Uh:aR ["self"] ["self"] (ao jt):=⟨rfl,rfl,rfl,by decide +kernel,rfl,by decide +kernel,by decide +kernel⟩
def XN:DSt→Out Fl:=(bU (kc (.bl true)))
def VM:List D→Out D:=fun ds=>(dR 1 XN ds).bL
theorem Tt {f:Addr} {fd:FuncData} (F:L2.Fun K "allows" "May.allows" jt f fd) (T:Txt K mg t) :bB P w K mg base CX0 1 f fd ["self"] (spD K (Ga t) 1 VM):=by
  refine DL.Fun.okD F Uh fun cdv A outer s H E hr=>?_
  exact (aM (bf iM))
abbrev ir:Stmt:=inClass (top 5) 3
theorem QM:aR ["self"] ["self"] (ao ir):=⟨rfl,rfl,rfl,by decide +kernel,rfl,by decide +kernel,by decide +kernel⟩
def Su:DSt→Out Fl:=(bU (kc (.bl false)))
def Rc:List D→Out D:=fun ds=>(dR 1 Su ds).bL
theorem Qp {f:Addr} {fd:FuncData} (F:L2.Fun K "allows" "Shut.allows" ir f fd) (T:Txt K mg t) :bB P w K mg base CX0 1 f fd ["self"] (spD K (Ga t) 1 Rc):=by
  refine DL.Fun.okD F QM fun cdv A outer s H E hr=>?_
  exact (aM (bf iM))
abbrev iu:Stmt:=inClass (top 6) 3
theorem QQ:aR ["self"] ["self"] (ao iu):=⟨rfl,rfl,rfl,by decide +kernel,rfl,by decide +kernel,by decide +kernel⟩
def Sv:DSt→Out Fl:=(bU (kc (.bl false)))
def Rf:List D→Out D:=fun ds=>(dR 1 Sv ds).bL
theorem Qq {f:Addr} {fd:FuncData} (F:L2.Fun K "allows" "Torn.allows" iu f fd) (T:Txt K mg t) :bB P w K mg base CX0 1 f fd ["self"] (spD K (Ga t) 1 Rf):=by
  refine DL.Fun.okD F QQ fun cdv A outer s H E hr=>?_
  exact (aM (bf iM))
abbrev nO:Stmt:=inClass (top 3) 3
theorem acs:aR ["self","to"] ["self","to"] (ao nO):=⟨rfl,rfl,rfl,by decide +kernel,rfl,by decide +kernel,by decide +kernel⟩
def adI:DSt→Out Fl:=(bU (oMk qX 1 yw (aj (gv 1) az)))
def acG:List D→Out D:=fun ds=>(dR 2 adI ds).bL
theorem aca {f:Addr} {fd:FuncData} (F:L2.Fun K "led" "Must.led" nO f fd) (T:Txt K mg t) (Hf:Ini P w K mg base t.Must 1 ["self","to"] (spI K (Ga t) qX 1 yw)):bB P w K mg base CX0 3 f fd ["self","to"] (spD K (Ga t) 2 acG):=by
  obtain ⟨f_Must,fd_Must,acQ,acM,ac8⟩:=Hf.ex
  refine DL.Fun.okD F acs fun cdv A outer s H E hr=>?_
  exact (aM (bf (J1 (c:=qX) rfl (uc acQ acM (hr.mono (by decide)) rfl T.g_Must ac8 .nil bJ (ak (aq 1 (pv 1)) aK)))))
abbrev qH:Stmt:=inClass (top 4) 3
theorem aex:aR ["self","to"] ["self","to"] (ao qH):=⟨rfl,rfl,rfl,by decide +kernel,rfl,by decide +kernel,by decide +kernel⟩
def afF:DSt→Out Fl:=(bU (oMk Cy 1 UJ (aj (gv 1) az)))
def afp:List D→Out D:=fun ds=>(dR 2 afF ds).bL
theorem aef {f:Addr} {fd:FuncData} (F:L2.Fun K "led" "May.led" qH f fd) (T:Txt K mg t) (UL:Ini P w K mg base t.May 1 ["self","to"] (spI K (Ga t) Cy 1 UJ)):bB P w K mg base CX0 3 f fd ["self","to"] (spD K (Ga t) 2 afp):=by
  obtain ⟨f_May,fd_May,M_May,G_May,b_May⟩:=UL.ex
  refine DL.Fun.okD F aex fun cdv A outer s H E hr=>?_
  exact (aM (bf (J1 (c:=Cy) rfl (uc M_May G_May (hr.mono (by decide)) rfl T.g_May b_May .nil bJ (ak (aq 1 (pv 1)) aK)))))
abbrev nP:Stmt:=inClass (top 5) 4
theorem acu:aR ["self","to"] ["self","to"] (ao nP):=⟨rfl,rfl,rfl,by decide +kernel,rfl,by decide +kernel,by decide +kernel⟩
def adJ:DSt→Out Fl:=(bU (oMk pR 0 yx az))
def acH:List D→Out D:=fun ds=>(dR 2 adJ ds).bL
theorem acb {f:Addr} {fd:FuncData} (F:L2.Fun K "led" "Shut.led" nP f fd) (T:Txt K mg t) (Hh:Ini P w K mg base t.Shut 2 ["self"] (spI K (Ga t) pR 0 yx)):bB P w K mg base CX0 4 f fd ["self","to"] (spD K (Ga t) 2 acH):=by
  obtain ⟨f_Shut,fd_Shut,acS,acO,ada⟩:=Hh.ex
  refine DL.Fun.okD F acu fun cdv A outer s H E hr=>?_
  exact (aM (bf (Xy (c:=pR) rfl (Gv acS acO (hr.mono (by decide)) rfl T.g_Shut ada .nil bJ))))
abbrev nQ:Stmt:=inClass (top 6) 4
theorem acv:aR ["self","to"] ["self","to"] (ao nQ):=⟨rfl,rfl,rfl,by decide +kernel,rfl,by decide +kernel,by decide +kernel⟩
def adK:DSt→Out Fl:=(bU (oMk pU 0 Cu az))
def acI:List D→Out D:=fun ds=>(dR 2 adK ds).bL
theorem acd {f:Addr} {fd:FuncData} (F:L2.Fun K "led" "Torn.led" nQ f fd) (T:Txt K mg t) (Hi:Ini P w K mg base t.Torn 2 ["self"] (spI K (Ga t) pU 0 Cu)):bB P w K mg base CX0 4 f fd ["self","to"] (spD K (Ga t) 2 acI):=by
  obtain ⟨f_Torn,fd_Torn,acT,acP,adb⟩:=Hi.ex
  refine DL.Fun.okD F acv fun cdv A outer s H E hr=>?_
  exact (aM (bf (Xy (c:=pU) rfl (Gv acT acP (hr.mono (by decide)) rfl T.g_Torn adb .nil bJ))))
abbrev km:Stmt:=inClass (top 2) 1
theorem aal:aR ["self"] ["self"] (ao km):=⟨rfl,rfl,rfl,by decide +kernel,rfl,by decide +kernel,by decide +kernel⟩
def J9:DSt→Out Fl:=(bU (aX (aj (oM "word" 1 GR (gv 0) az) (aj (Qh "to" [qX,Cy,pR,pU] (gv 0)) az))))
def iD:List D→Out D:=fun ds=>(dR 1 J9 ds).bL
theorem Zn {f:Addr} {fd:FuncData} (F:L2.Fun K "told" "Door.told" km f fd) (T:Txt K mg t) (acU:yz P w K mg base (Ga t) "word" (spD K (Ga t) 1) 1 GR):bB P w K mg base CX0 2 f fd ["self"] (spD K (Ga t) 1 iD):=by
  refine DL.Fun.okD F aal fun cdv A outer s H E hr=>?_
  exact (aM (bf (dI (ak (Fz (Ay (acU.ok (hr.mono (by decide))) bJ (aq 0 (pv 0)))) (ak (de_fld (cs:=[qX,Cy,pR,pU]) ⟨⟨t.Must,rfl,T.Ig.cls,T.nD⟩,⟨t.May,rfl,T.Vr.cls,T.qG⟩,⟨t.Shut,rfl,T.Ih.cls,T.nF⟩,⟨t.Torn,rfl,T.Ii.cls,T.nG⟩,trivial⟩ (aq 0 (pv 0))) aK)))))
def z8:List (Nat × (List D→Out D)):=[(qX,iD),(Cy,iD),(pR,iD),(pU,iD)]
abbrev qI:Stmt:=top 7
theorem aey:aR ["needs","allows","to"] ["needs","allows","to"] (ao qI):=⟨rfl,rfl,rfl,by decide +kernel,rfl,by decide +kernel,by decide +kernel⟩
def Vo:DSt→Out Fl:=(bA (sIf (Er (tst (gb 0)) (tst (gb 1))) (bU (oMk qX 1 yw (aj (gv 2) az))) eN)
  (bA (sIf (tst (gb 1)) (bU (oMk Cy 1 UJ (aj (gv 2) az))) eN)
  (bA (sIf (tst (gb 0)) (bU (oMk pU 0 Cu az)) eN)
  (bU (oMk pR 0 yx az)))))
def qw:List D→Out D:=fun ds=>(dR 3 Vo ds).bL
theorem aeg {f:Addr} {fd:FuncData} (F:L2.Fun K "door_of" "door_of" qI f fd) (T:Txt K mg t) (Hf:Ini P w K mg base t.Must 1 ["self","to"] (spI K (Ga t) qX 1 yw)) (UL:Ini P w K mg base t.May 1 ["self","to"] (spI K (Ga t) Cy 1 UJ)) (Hi:Ini P w K mg base t.Torn 2 ["self"] (spI K (Ga t) pU 0 Cu)) (Hh:Ini P w K mg base t.Shut 2 ["self"] (spI K (Ga t) pR 0 yx)):bB P w K mg base CX0 4 f fd ["needs","allows","to"] (spD K (Ga t) 3 qw):=by
  obtain ⟨f_Must,fd_Must,acQ,acM,ac8⟩:=Hf.ex
  obtain ⟨f_May,fd_May,M_May,G_May,b_May⟩:=UL.ex
  obtain ⟨f_Torn,fd_Torn,acT,acP,adb⟩:=Hi.ex
  obtain ⟨f_Shut,fd_Shut,acS,acO,ada⟩:=Hh.ex
  refine DL.Fun.okD F aey fun cdv A outer s H E hr=>?_
  exact (cG (fQ (O3 (dw_and (jD (aY 0 (pv 0))) (ae3 (jD (aY 1 (pv 1)))))) (aM (bf (J1 (c:=qX) rfl (uc acQ acM (hr.mono (by decide)) rfl T.g_Must ac8 .nil bJ (ak (aq 2 (pv 2)) aK))))) bZ)
      (cG (fQ (jD (aY 1 (pv 1))) (aM (bf (J1 (c:=Cy) rfl (uc M_May G_May (hr.mono (by decide)) rfl T.g_May b_May .nil bJ (ak (aq 2 (pv 2)) aK))))) bZ)
      (cG (fQ (jD (aY 0 (pv 0))) (aM (bf (Xy (c:=pU) rfl (Gv acT acP (hr.mono (by decide)) rfl T.g_Torn adb .nil bJ)))) bZ)
      (aM (bf (Xy (c:=pR) rfl (Gv acS acO (hr.mono (by decide)) rfl T.g_Shut ada .nil bJ)))))))
abbrev gA:Stmt:=inClass (top 10) 0
theorem Ms:aR ["self","room","action"] ["self","room","action"] (ao gA):=⟨rfl,rfl,rfl,by decide +kernel,rfl,by decide +kernel,by decide +kernel⟩
theorem LR {f:Addr} {fd:FuncData} (F:L2.Fun K "__init__" "BadPlan.__init__" gA f fd) (T:Txt K mg t):bB P w K mg base CX0 1 f fd ["self","room","action"] (spX2 t.BadPlan "room" "action"):=by
  refine F.ok Ms (fun vs H Q E h=>?_) (fun cdv A outer s H vs Q E hr h=>?_)
  · obtain ⟨e,v,u,rfl,_⟩:=h
    rfl
  · obtain ⟨e,v,u,rfl,ov,ou,hH,k⟩:=h
    refine ⟨_,vH (mR (ace rfl T.Ka T.Wz (cg (pv 0) (cg (pe_fstr (Gy px_lit (Gy (px_fld (pv 1)) (Gy px_lit (Gy (px_fld (pv 2)) pxs_nil)))) (by decide)) gU))))
      (vH (afj (pv 0) (pv 1) rfl) (qt (afj (pv 0) (pv 2) rfl))),?_⟩
    refine ⟨_,rfl,(by decide),_,rfl,ov,ae8 ov,(by decide),_,rfl,ou,ae8 ou,?_⟩
    refine ⟨true,e,t.BadPlan,t.zT,none,_,rfl,(by show 1 ≤ 1000; decide),hH,T.dm,?_⟩
    refine ⟨_,rfl,_,rfl,true,e,t.BadPlan,rfl,T.dm.toExcGet,T.dw,.inl ⟨hH,fun d hd ne=>?_⟩⟩
    refine ⟨_,rfl,_,rfl,true,e,t.BadPlan,rfl,T.dm.toExcGet,T.cJ,.inr ⟨d,[("room",v)],aL,(by rw [aD ne,aL]),(by show 1 < 900; decide),?_⟩⟩
    have rn:¬ (("room":Str) = "action"):=by decide +kernel
    have ef:jK "action" u [(("room":Str),v)] = [(("room":Str),v),(("action":Str),u)]:=by
      show (if ("room":Str) = "action" then _ else (("room":Str),v) :: jK "action" u []) = _
      rw [if_neg rn]
      rfl
    refine k d _ hd (by rw [aD ne.symm,aL]) (by rw [aL,ef]) fun b o q hb=>?_
    have nb:b ≠ d:=aQ q hd
    rw [aD nb,aD hb,aD nb]
    exact q
abbrev qJ:Stmt:=top 16
theorem aez:aR ["thing"] ["thing"] (ao qJ):=⟨rfl,rfl,rfl,by decide +kernel,rfl,by decide +kernel,by decide +kernel⟩
def zP:DSt→Out D:=(bV (o2b inD (gb 0) (kc (.str "abcdefghijklmnopqrstuvwxyz"))))
def Vp:DSt→Out Fl:=(bA (sIf (orT (xM (tst (vC jQ (gb 0)))) (xM (o3 leD leD (kc (.int 1)) (o1 d9 (gb 0)) (kc (.int 8))))) (bU (kc (.bl false))) eN)
  (bU (o1 allD (vp (jJ [none] (strO (gv 0)) (gN 0) (fun _=>.ok true) zP)))))
def cL:List D→Out D:=fun ds=>(dR 1 Vp ds).bL
theorem aeh {f:Addr} {fd:FuncData} (F:L2.Fun K "is_name" "is_name" qJ f fd) (T:Txt K mg t) :bB P w K mg base CX0 1 f fd ["thing"] (spD K (Ga t) 1 cL):=by
  obtain ⟨u_MOST_SIGNS,X3,aab⟩:=T.lM
  obtain ⟨u_LETTERS,afG,afY⟩:=T.uY
  refine DL.Fun.okD F aez fun cdv A outer s H E hr=>?_
  exact (cG (fQ (O3 (Cd (pI (jD (bz (rC (cv:=.ty "str") (.inr rfl) T.jQ rfl T.cC (aY 0 (pv 0)) (oA rfl T.b_str (by decide +kernel) rfl))))) (wH (pI (XF (bz aA) (bz (dY rfl T.iB (aY 0 (pv 0)))) (bz (de_c (Gu (v:=.int 8) rfl X3 aab) (fun _=>.int _)))))))) (aM (bf iM)) bZ)
      (aM (bf (de_all rfl rfl T.b_all (bz (Ov (tE (fun a b c d=>mQ (N':=["sign"]) (cap:=[none]) ⟨rfl,rfl,by decide +kernel,by decide +kernel,by rfl,trivial,⟨trivial,trivial⟩⟩ rfl a b c d) (di_str (aq 0 (pv 0))) (QV 0) (fun _ _ _ _ _=>(cO (cP (i:=0) (show (["sign"]:List Str).Nodup by decide +kernel) rfl (by first | exact .inl rfl | exact .inr rfl)))) (fun _ _ _ _ _=>lR) (fun _ _ _ _ _=>(de_in (aY 0 (pv 0)) (bz (de_c (Gu (v:=.str "abcdefghijklmnopqrstuvwxyz") rfl afG afY) (fun _=>.str _))))))))))))
abbrev dW:Stmt:=top 17
theorem GF:aR ["thing"] ["thing"] (ao dW):=⟨rfl,rfl,rfl,by decide +kernel,rfl,by decide +kernel,by decide +kernel⟩
def cA:DSt→Out D:=(oF 1 cL (aj (gv 0) az))
def fW:DSt→Out Fl:=(bA (sIf (orT (xM (tst (vC bQ (gb 0)))) (xM (o3 leD leD (kc (.int 1)) (o1 d9 (gb 0)) (kc (.int 8))))) (bU (kc (.bl false))) eN)
  (bU (Es (o1 allD (vp (jJ [none] (jZ (gv 0)) (gN 0) (fun _=>.ok true) cA))) (bV (o2b eqD (o1 Dk (gv 0)) (o1 d9 (gb 0)))))))
def bc:List D→Out D:=fun ds=>(dR 1 fW ds).bL
theorem Gs {f:Addr} {fd:FuncData} (F:L2.Fun K "is_action_list" "is_action_list" dW f fd) (T:Txt K mg t) (G7:Def P w K mg base "is_name" 1 ["thing"] (spD K (Ga t) 1 cL)):bB P w K mg base CX0 2 f fd ["thing"] (spD K (Ga t) 1 bc):=by
  obtain ⟨u_MOST_ACTIONS,Pn,QC⟩:=T.iK
  obtain ⟨Am,fd_is_name,afs,Hu,vy,qC⟩:=G7.ex
  refine DL.Fun.okD F GF fun cdv A outer s H E hr=>?_
  exact (cG (fQ (O3 (Cd (pI (jD (bz (rC (cv:=.ty "list") (.inr rfl) T.bQ rfl T.cC (aY 0 (pv 0)) (oA rfl T.NT (by decide +kernel) rfl))))) (wH (pI (XF (bz aA) (bz (dY rfl T.iB (aY 0 (pv 0)))) (bz (de_c (Gu (v:=.int 8) rfl Pn QC) (fun _=>.int _)))))))) (aM (bf iM)) bZ)
      (aM (bf (HH (de_all rfl rfl T.b_all (bz (Ov (tE (fun a b c d=>mQ (N':=["name"]) (cap:=[none]) ⟨rfl,rfl,by decide +kernel,by decide +kernel,by rfl,trivial,⟨trivial,trivial⟩⟩ rfl a b c d) (zc (aq 0 (pv 0))) (QV 0) (fun _ _ _ _ _=>(cO (cP (i:=0) (show (["name"]:List Str).Nodup by decide +kernel) rfl (by first | exact .inl rfl | exact .inr rfl)))) (fun _ _ _ _ _=>lR) (fun _ _ _ _ _=>(cD (bu afs (hr.mono (by decide)) rfl vy qC Hu .nil bJ (ak (aq 0 (pv 0)) aK)))))))) (HJ (abF hr.units (bz (afA rfl rfl T.iB rfl T.b_set (aq 0 (pv 0)))) (bz (dY rfl T.iB (aY 0 (pv 0))))))))))
abbrev gH:Stmt:=top 18
theorem Mu:aR ["actions"] ["actions"] (ao gH):=⟨rfl,rfl,rfl,by decide +kernel,rfl,by decide +kernel,by decide +kernel⟩
def rK:DSt→Out Fl:=(sIf (xM (tst (oF 1 bc (aj (gv 0) az)))) (xP bI "room" "action" (aj (o1 bY (kc (.int 1))) (aj (o1 bY (kc (.int 1))) az))) eN)
def cZ:List D→Out D:=fun ds=>dR 1 rK ds
theorem Mi {f:Addr} {fd:FuncData} (F:L2.Fun K "need_actions" "need_actions" gH f fd) (T:Txt K mg t) (mW:Def P w K mg base "is_action_list" 2 ["thing"] (spD K (Ga t) 1 bc)) (mX:XIni P w K mg base t.zT 1 ["self","room","action"] (spX2 t.BadPlan "room" "action")):bB P w K mg base (CX1 P w) 3 f fd ["actions"] (spD K (Ga t) 1 cZ):=by
  obtain ⟨jf,ae6,Hc,mZ,gk,dO⟩:=mW.ex
  obtain ⟨afB,adE,qQ,qR,uQ,uW⟩:=mX.ex
  refine ae9 F Mu fun cdv A outer s H E hr=>?_
  exact (aM (fQ (pI (jD (bz (cD (bu Hc (hr.mono (by decide)) rfl gk dO mZ .nil bJ (ak (aq 0 (pv 0)) aK)))))) (aM (Ai (c:=bI) rfl T.dm qQ qR uQ (hr.mono (by decide)) uW thr1 rfl rfl T.vh (ak (fP aA) (ak (fP aA) aK)))) bZ))
abbrev qK:Stmt:=top 19
theorem aeA:aR ["thing","many"] ["thing","many"] (ao qK):=⟨rfl,rfl,rfl,by decide +kernel,rfl,by decide +kernel,by decide +kernel⟩
def Ie:DSt→Out Fl:=(bU (Es (vC Aq (gb 0)) (Es (notV (vC jH (gb 0))) (bV (o3 leD ltD (kc (.int 0)) (gb 0) (gb 1))))))
def j0:List D→Out D:=fun ds=>(dR 2 Ie ds).bL
theorem aei {f:Addr} {fd:FuncData} (F:L2.Fun K "is_room" "is_room" qK f fd) (T:Txt K mg t) :bB P w K mg base CX0 1 f fd ["thing","many"] (spD K (Ga t) 2 j0):=by
  refine DL.Fun.okD F aeA fun cdv A outer s H E hr=>?_
  exact (aM (bf (HH (rC (cv:=.ty "int") (.inr rfl) T.Aq rfl T.cC (aY 0 (pv 0)) (oA rfl T.b_int (by decide +kernel) rfl)) (HH (de_not (rC (cv:=.ty "bool") (.inr rfl) T.jH rfl T.cC (aY 0 (pv 0)) (oA rfl T.adc (by decide +kernel) rfl))) (HJ (de_lelt (bz aA) (aY 0 (pv 0)) (aY 1 (pv 1))))))))
abbrev gG:Stmt:=top 20
theorem yj:aR ["thing","many","torn_too","word"] ["thing","many","torn_too"] (ao gG):=⟨rfl,rfl,rfl,by decide +kernel,rfl,by decide +kernel,by decide +kernel⟩
def rJ:DSt→Out Fl:=(bA (sIf (orT (xM (tst (vC jh (gb 0)))) (o2b neD (o1 d9 (gb 0)) (kc (.int 2)))) (bU (kc (.bl false))) eN)
  (bA (jE 3 (o2 ixD (gvo 0) (kc (.int 0))))
  (bA (sIf (xM (tst (vC jQ (gb 3)))) (bU (kc (.bl false))) eN)
  (bA (sIf (orT (o2b eqD (gb 3) (kc (.str "must"))) (o2b eqD (gb 3) (kc (.str "may")))) (bU (oF 2 j0 (aj (o2 ixD (gvo 0) (kc (.int 1))) (aj (gv 1) az)))) eN)
  (bU (Es (bV (o2b isND (o2 ixD (gvo 0) (kc (.int 1))) (kc .non))) (orV (bV (o2b eqD (gb 3) (kc (.str "shut")))) (Es (bV (o2b eqD (gb 3) (kc (.str "torn")))) (gv 2)))))))))
def aN:List D→Out D:=fun ds=>(dR 4 rJ ds).bL
theorem Mh {f:Addr} {fd:FuncData} (F:L2.Fun K "is_told_door" "is_told_door" gG f fd) (T:Txt K mg t) (G8:Def P w K mg base "is_room" 1 ["thing","many"] (spD K (Ga t) 2 j0)):bB P w K mg base CX0 2 f fd ["thing","many","torn_too"] (spD K (Ga t) 3 aN):=by
  obtain ⟨An,fd_is_room,aft,Hv,vz,qD⟩:=G8.ex
  refine DL.Fun.okD F yj fun cdv A outer s H E hr=>?_
  exact (cG (fQ (O3 (Cd (pI (jD (bz (rC (cv:=.ty "tuple") (.inr rfl) T.jh rfl T.cC (aY 0 (pv 0)) (oA rfl T.v6 (by decide +kernel) rfl))))) (wH (O2 hr.units (bz (dY rfl T.iB (aY 0 (pv 0)))) (bz aA))))) (aM (bf iM)) bZ)
      (cG (fU 3 (fun h=>eG (i:=3) yj.nd rfl (by first | exact .inl rfl | exact .inr rfl) h) (iQ 0 (pv 0) aA))
      (cG (fQ (pI (jD (bz (rC (cv:=.ty "str") (.inr rfl) T.jQ rfl T.cC (aY 3 (pv 3)) (oA rfl T.b_str (by decide +kernel) rfl))))) (aM (bf iM)) bZ)
      (cG (fQ (O3 (Cd (zf hr.units (aY 3 (pv 3)) (bz cF)) (wH (zf hr.units (aY 3 (pv 3)) (bz cF))))) (aM (bf (cD (bu aft (hr.mono (by decide)) rfl vz qD Hv .nil bJ (ak (iQ 0 (pv 0) aA) (ak (aq 1 (pv 1)) aK)))))) bZ)
      (aM (bf (HH (de_is (bz (iQ 0 (pv 0) aA)) (bz uC)) (HJ (de_or (abF hr.units (aY 3 (pv 3)) (bz cF)) (HJ (HH (abF hr.units (aY 3 (pv 3)) (bz cF)) (HJ (aq 2 (pv 2))))))))))))))
abbrev jB:Stmt:=top 21
theorem jL:aR ["rows","many_actions","torn_too","room","row","action","thing"] ["rows","many_actions","torn_too"] (ao jB):=⟨rfl,rfl,rfl,by decide +kernel,rfl,by decide +kernel,by decide +kernel⟩
def cI:DSt→Out Fl:=(sIf (xM (tst (oF 3 aN (aj (gv 6) (aj (o1 d9 (gb 0)) (aj (gv 2) az)))))) (xP bI "room" "action" (aj (gv 3) (aj (gv 5) az))) eN)
def bN:DSt→Out Fl:=(bA (sIf (orT (xM (tst (vC bQ (gb 4)))) (o2b neD (o1 d9 (gb 4)) (gb 1))) (xP bI "room" "action" (aj (gv 3) (aj (o1 bY (kc (.int 1))) az))) eN)
  (xO (enum (gv 4)) (gT 2 (cN (gN 5) (cN (gN 6) pY))) cI))
def my:DSt→Out Fl:=(bA (sIf (orT (xM (tst (vC bQ (gb 0)))) (xM (o3 leD leD (kc (.int 1)) (o1 d9 (gb 0)) (kc (.int 2000))))) (xP bI "room" "action" (aj (o1 bY (kc (.int 1))) (aj (o1 bY (kc (.int 1))) az))) eN)
  (xO (enum (gv 0)) (gT 2 (cN (gN 3) (cN (gN 4) pY))) bN))
def bh:List D→Out D:=fun ds=>dR 7 my ds
theorem TV {f:Addr} {fd:FuncData} (F:L2.Fun K "need_rooms" "need_rooms" jB f fd) (T:Txt K mg t) (mX:XIni P w K mg base t.zT 1 ["self","room","action"] (spX2 t.BadPlan "room" "action")) (qN:Def P w K mg base "is_told_door" 2 ["thing","many","torn_too"] (spD K (Ga t) 3 aN)):bB P w K mg base (CX1 P w) 3 f fd ["rows","many_actions","torn_too"] (spD K (Ga t) 3 bh):=by
  obtain ⟨u_MOST_ROOMS,XX,aaa⟩:=T.lL
  obtain ⟨afB,adE,qQ,qR,uQ,uW⟩:=mX.ex
  obtain ⟨lY,agc,Ng,qU,iY,fZ⟩:=qN.ex
  refine ae9 F jL fun cdv A outer s H E hr=>?_
  exact (cG (fQ (O3 (Cd (pI (jD (bz (rC (cv:=.ty "list") (.inr rfl) T.bQ rfl T.cC (aY 0 (pv 0)) (oA rfl T.NT (by decide +kernel) rfl))))) (wH (pI (XF (bz aA) (bz (dY rfl T.iB (aY 0 (pv 0)))) (bz (de_c (Gu (v:=.int 2000) rfl XX aaa) (fun _=>.int _)))))))) (aM (Ai (c:=bI) rfl T.dm qQ qR uQ (hr.mono (by decide)) uW thr1 rfl rfl T.vh (ak (fP aA) (ak (fP aA) aK)))) bZ)
      (aM (HR (fun a b c=>Jm PassesOwn.leaving rfl a b c) (aeY rfl T.JV (aq 0 (pv 0))) (adC (n:=2) (fun h=>aem rfl h) (rD (cO (cP (i:=3) jL.nd rfl (by first | exact .inl rfl | exact .inr rfl))) (rD (cO (cP (i:=4) jL.nd rfl (by first | exact .inl rfl | exact .inr rfl))) Xx (fun a b=>sy a b)) (fun a b=>sy a b))) (cG (fQ (O3 (Cd (pI (jD (bz (rC (cv:=.ty "list") (.inr rfl) T.bQ rfl T.cC (aY 4 (pv 4)) (oA rfl T.NT (by decide +kernel) rfl))))) (wH (O2 hr.units (bz (dY rfl T.iB (aY 4 (pv 4)))) (aY 1 (pv 1)))))) (aM (Ai (c:=bI) rfl T.dm qQ qR uQ (hr.mono (by decide)) uW thr1 rfl rfl T.vh (ak (aq 3 (pv 3)) (ak (fP aA) aK)))) bZ)
      (aM (HR (fun a b c=>Jm PassesOwn.leaving rfl a b c) (aeY rfl T.JV (aq 4 (pv 4))) (adC (n:=2) (fun h=>aem rfl h) (rD (cO (cP (i:=5) jL.nd rfl (by first | exact .inl rfl | exact .inr rfl))) (rD (cO (cP (i:=6) jL.nd rfl (by first | exact .inl rfl | exact .inr rfl))) Xx (fun a b=>sy a b)) (fun a b=>sy a b))) (aM (fQ (pI (jD (bz (cD (bu Ng (hr.mono (by decide)) rfl iY fZ qU .nil bJ (ak (aq 6 (pv 6)) (ak (dY rfl T.iB (aY 0 (pv 0))) (ak (aq 2 (pv 2)) aK)))))))) (aM (Ai (c:=bI) rfl T.dm qQ qR uQ (hr.mono (by decide)) uW thr1 rfl rfl T.vh (ak (aq 3 (pv 3)) (ak (aq 5 (pv 5)) aK)))) bZ))))))))
abbrev lu:Stmt:=top 22
theorem GJ:aR ["told","word"] ["told"] (ao lu):=⟨rfl,rfl,rfl,by decide +kernel,rfl,by decide +kernel,by decide +kernel⟩
def Kg:DSt→Out Fl:=(bA (jE 1 (o2 ixD (gvo 0) (kc (.int 0))))
  (bU (oF 3 qw (aj (bV (o2b inD (gb 1) (aX (aj (kc (.str "must")) (aj (kc (.str "torn")) az))))) (aj (bV (o2b inD (gb 1) (aX (aj (kc (.str "must")) (aj (kc (.str "may")) az))))) (aj (o2 ixD (gvo 0) (kc (.int 1))) az))))))
def iG:List D→Out D:=fun ds=>(dR 2 Kg ds).bL
theorem Zy {f:Addr} {fd:FuncData} (F:L2.Fun K "made_door" "made_door" lu f fd) (T:Txt K mg t) (GZ:Def P w K mg base "door_of" 4 ["needs","allows","to"] (spD K (Ga t) 3 qw)):bB P w K mg base CX0 5 f fd ["told"] (spD K (Ga t) 1 iG):=by
  obtain ⟨Al,fd_door_of,afr,Ht,vq,qz⟩:=GZ.ex
  refine DL.Fun.okD F GJ fun cdv A outer s H E hr=>?_
  exact (cG (fU 1 (fun h=>eG (i:=1) GJ.nd rfl (by first | exact .inl rfl | exact .inr rfl) h) (iQ 0 (pv 0) aA))
      (aM (bf (cD (bu afr (hr.mono (by decide)) rfl vq qz Ht .nil bJ (ak (de_in (aY 1 (pv 1)) (bz (dI (ak cF (ak cF aK))))) (ak (de_in (aY 1 (pv 1)) (bz (dI (ak cF (ak cF aK))))) (ak (iQ 0 (pv 0) aA) aK))))))))
abbrev lw:Stmt:=top 23
theorem aau:aR ["row"] ["row"] (ao lw):=⟨rfl,rfl,rfl,by decide +kernel,rfl,by decide +kernel,by decide +kernel⟩
def uK:DSt→Out D:=(oF 1 iG (aj (gv 0) az))
def Kh:DSt→Out Fl:=(bU (oC (Dt nU) (aj (vp (jJ [none] (jZ (gv 0)) (gN 0) (fun _=>.ok true) uK)) az)))
def iI:List D→Out D:=fun ds=>(dR 1 Kh ds).bL
theorem Zz {f:Addr} {fd:FuncData} (F:L2.Fun K "made_room" "made_room" lw f fd) (T:Txt K mg t) (yo:Def P w K mg base "made_door" 5 ["told"] (spD K (Ga t) 1 iG)):bB P w K mg base CX0 6 f fd ["row"] (spD K (Ga t) 1 iI):=by
  obtain ⟨tQ,fd_made_door,aa1,yO,oW,j5⟩:=yo.ex
  refine DL.Fun.okD F aau fun cdv A outer s H E hr=>?_
  exact (aM (bf (vd rfl T.v6 (Ov (tE (fun a b c d=>mQ (N':=["told"]) (cap:=[none]) ⟨rfl,rfl,by decide +kernel,by decide +kernel,by rfl,trivial,⟨trivial,trivial⟩⟩ rfl a b c d) (zc (aq 0 (pv 0))) (QV 0) (fun _ _ _ _ _=>(cO (cP (i:=0) (show (["told"]:List Str).Nodup by decide +kernel) rfl (by first | exact .inl rfl | exact .inr rfl)))) (fun _ _ _ _ _=>lR) (fun _ _ _ _ _=>(cD (bu aa1 (hr.mono (by decide)) rfl oW j5 yO .nil bJ (ak (aq 0 (pv 0)) aK)))))))))
abbrev lz:Stmt:=top 24
theorem aav:aR ["doors"] ["doors"] (ao lz):=⟨rfl,rfl,rfl,by decide +kernel,rfl,by decide +kernel,by decide +kernel⟩
def uL:DSt→Out D:=(oM "told" 1 z8 (gv 0) az)
def Kl:DSt→Out Fl:=(sRetf (jJ [none] (jZ (gv 0)) (gN 0) (fun _=>.ok true) uL))
def iJ:List D→Out (List D):=fun ds=>(runL 1 Kl ds).bL
theorem ZC {f:Addr} {fd:FuncData} (F:L2.Fun K "told_room" "told_room" lz f fd) (T:Txt K mg t) (Hd:yz P w K mg base (Ga t) "told" (spD K (Ga t) 1) 2 z8):bB P w K mg base CX0 3 f fd ["doors"] (spF K (Ga t) 1 iJ):=by
  refine DL.Fun.okF F aav fun cdv A outer s H E hr=>?_
  exact (aM (ds_retf (tE (fun a b c d=>mQ (N':=["door"]) (cap:=[none]) ⟨rfl,rfl,by decide +kernel,by decide +kernel,by rfl,trivial,⟨trivial,trivial⟩⟩ rfl a b c d) (zc (aq 0 (pv 0))) (QV 0) (fun _ _ _ _ _=>(cO (cP (i:=0) (show (["door"]:List Str).Nodup by decide +kernel) rfl (by first | exact .inl rfl | exact .inr rfl)))) (fun _ _ _ _ _=>lR) (fun _ _ _ _ _=>(Fz (Ay (Hd.ok (hr.mono (by decide))) bJ (aq 0 (pv 0))))))))
abbrev jn:Stmt:=inClass (top 25) 0
theorem Ud:aR ["self","actions","rows"] ["self","actions","rows"] (ao jn):=⟨rfl,rfl,rfl,by decide +kernel,rfl,by decide +kernel,by decide +kernel⟩
def rW:DSt→Out D:=(oF 1 iI (aj (gv 0) az))
def Aj:DSt→Out D:=(oF 1 cZ (aj (gv 1) az))
def FZ:DSt→Out D:=(o1 d9 (gb 1))
def MT:DSt→Out D:=(oC (Dt nU) (aj (gv 1) az))
def M3:DSt→Out D:=(oC (Dt nU) (aj (vp (jJ [none] (jZ (gv 2)) (gN 0) (fun _=>.ok true) rW)) az))
def yg (torn:Bool) (ds:List D):Out (List (Str × D)):=match ds with
  | [acts,rows] =>
    let δ:DSt:=[none,some (.sh acts),some (.sh rows)]
    (Aj δ).bind fun _=>(FZ δ).bind fun n=>(bh [rows,n,.bl torn]).bind fun _=>(MT δ).bL.bind fun ta=>(M3 δ).bL.bind fun tr=>.ok [("actions",ta),("rooms",tr)]
  | _=>.stuck
def nW:List D→Out (List (Str × D)):=yg true
def uf:List D→Out (List (Str × D)):=yg false
def spT (b:Bool):Sp:=fun vs H Q _=>∃ v,vs = [v]∧Q (.bl b) H
abbrev jo:Stmt:=inClass (top 25) 1
theorem Ue:aR ["self"] ["self"] (ao jo):=⟨rfl,rfl,rfl,by decide +kernel,rfl,by decide +kernel,by decide +kernel⟩
theorem Tq {f:Addr} {fd:FuncData} (F:L2.Fun K "lets_torn" "Draft.lets_torn" jo f fd):bB P w K mg base CX0 1 f fd ["self"] (spT true):=by
  refine F.ok Ue (fun vs H Q E h=>?_) (fun cdv A outer s H vs Q E hr h=>?_)
  · obtain ⟨v,rfl,_⟩:=h
    rfl
  · obtain ⟨v,rfl,q⟩:=h
    exact ⟨_,qt (Jo pe_bl),q⟩
abbrev kJ:Stmt:=inClass (top 26) 0
theorem aao:aR ["self"] ["self"] (ao kJ):=⟨rfl,rfl,rfl,by decide +kernel,rfl,by decide +kernel,by decide +kernel⟩
theorem Zr {f:Addr} {fd:FuncData} (F:L2.Fun K "lets_torn" "Plan.lets_torn" kJ f fd):bB P w K mg base CX0 1 f fd ["self"] (spT false):=by
  refine F.ok aao (fun vs H Q E h=>?_) (fun cdv A outer s H vs Q E hr h=>?_)
  · obtain ⟨v,rfl,_⟩:=h
    rfl
  · obtain ⟨v,rfl,q⟩:=h
    exact ⟨_,qt (Jo pe_bl),q⟩
theorem afJ {K:PySem.W.Frag} {Γ:Nat→Option Addr} {G H:Hp} {a C dx:Addr} {v1 v2:V} {acts rows:D} {torn:Bool} {Q:VK} {E:XK} (hH:H a = some (.ins C dx [])) (ga:G a = none) (sg:bC G H) (r1:Rep K Γ G v1 acts) (r2:Rep K Γ G v2 rows) (cl:Cls K C) (na1:cT K C "actions") (na2:cT K C "rooms")
    (w:wpO (yg torn [acts,rows]) (fun fds=>∀ fs G' H',bC G G'→(∀ b o,H b = some o→b ≠ a→H' b = some o)→bC G' H'→(∀ b,H b ≠ none→G b = none→G' b = none)→H' a = some (.ins C dx fs)→lH K Γ G' fs fds→Q .non H')
      (fun x=>∀ a' G' H',bC G G'→(∀ b o,H b = some o→b ≠ a→H' b = some o)→bC G' H'→(∀ b,H b ≠ none→G b = none→G' b = none)→Rep K Γ G' (.ref a') x→E (.ref a') none H')) :
    tSeq (Ks (teD K Γ E Aj)) (tSeq (Ks (VH (spD K Γ 3 bh) [] E (yl (teD K Γ E (gv 2)) (yl (teD K Γ E FZ) (yl (tMeth C "lets_torn" (spT torn) [] E (xR 0) DK) DK))))) (tSeq (sFld K (xR 0) (teD K Γ E0 MT) "actions") (sFld K (xR 0) (teD K Γ E0 M3) "rooms"))) { nx:=fun _ H'=>Q .non H',rt:=Q } [some (.ref a),some v1,some v2] H:=by
  have S0:SR K Γ G H G H [some (.ref a),some v1,some v2] [none,some (.sh acts),some (.sh rows)]:=by
    refine ⟨.refl sg,rfl,fun _=>none,fun i x e=>?_⟩
    match i,e with
    | 1,e=>cases e; exact ⟨v1,rfl,r1⟩
    | 2,e=>cases e; exact ⟨v2,rfl,r2⟩
    | i + 3,e=>simp at e
  have g2:gv 2 [none,some (.sh acts),some (.sh rows)] = .ok rows:=rfl
  have ex:∀ {x:D},(∀ a' G' H',bC G G'→(∀ b o,H b = some o→b ≠ a→H' b = some o)→bC G' H'→(∀ b,H b ≠ none→G b = none→G' b = none)→Rep K Γ G' (.ref a') x→E (.ref a') none H')→exD K Γ E G H x:=fun k a' G' H' st r=>k a' G' H' st.gg (fun b o e _=>st.hh _ _ e) st.gh st.sep r
  have w1:=au w
  refine ⟨G,H,G,_,S0,w1.mono (fun d1 w1 u1 G1 H1 s1 _=>?_) fun _ k=>ex k⟩
  have S1:=S0.step s1
  refine ⟨G,H,G1,_,S1,?_⟩
  rw [g2]
  intro u2 G2 H2 s2 q2
  have S2:=S1.step s2
  have w2:=au w1
  refine ⟨G,H,G2,_,S2,w2.mono (fun n w2 u3 G3 H3 s3 q3=>?_) fun _ k=>(ex k).step (s1.trans s2)⟩
  have s03:=((s1.trans s2).trans s3)
  refine ⟨_,rfl,a,dx,[],rfl,s03.hh _ _ hH,rfl,_,rfl,rfl,G3,[rows,n,.bl torn],s03.gh,.cons (q2.mono s3.gg) (.cons q3 (.cons (.bl _) .nil)),?_⟩
  have w3:=au w2
  refine w3.mono (fun d3 w3 u4 G4 H4 s4 _=>?_) fun _ k=>(ex k).step s03
  have s04:=s03.trans s4
  have S4:=S0.step s04
  have w4:=jM (R':=exD K Γ E0 G4 H4) (au w3)
  refine ⟨G,H,G4,_,S4,w4.mono (fun ta w4 u5 G5 H5 s5 q5=>?_) fun _ k=>k⟩
  have s05:=s04.trans s5
  have g5:G5 a = none:=s05.sep a (by rw [hH]; exact fun z=>nomatch z) ga
  refine ⟨_,rfl,a,C,dx,[],rfl,s05.hh _ _ hH,cl,na1,(by decide),?_⟩
  have st5:Step G5 (upd H5 a (.ins C dx (jK "actions" u5 []))) G5 (upd H5 a (.ins C dx (jK "actions" u5 []))):=.refl fun b o e=>by rw [aD (aQ e g5)]; exact s05.gh _ _ e
  have S5:SR K Γ G5 (upd H5 a (.ins C dx (jK "actions" u5 []))) G5 (upd H5 a (.ins C dx (jK "actions" u5 []))) [some (.ref a),some v1,some v2] [none,some (.sh acts),some (.sh rows)]:=by
    refine ⟨st5,rfl,fun _=>none,fun i x e=>?_⟩
    match i,e with
    | 1,e=>cases e; exact ⟨v1,rfl,r1.mono s05.gg⟩
    | 2,e=>cases e; exact ⟨v2,rfl,r2.mono s05.gg⟩
    | i + 3,e=>simp at e
  have w5:=jM (R':=exD K Γ E0 G5 (upd H5 a (.ins C dx (jK "actions" u5 [])))) (au w4)
  refine ⟨_,_,G5,_,S5,w5.mono (fun tr w5 u6 G6 H6 s6 q6=>?_) fun _ k=>k⟩
  have h6:=s6.hh _ _ (aL (H:=H5) (a:=a) (o:=.ins C dx (jK "actions" u5 [])))
  refine ⟨_,rfl,a,C,dx,_,rfl,h6,cl,na2,(by show 1 < 1000; decide),?_⟩
  have g6:G6 a = none:=s6.sep a (by rw [aL]; exact fun z=>nomatch z) g5
  have ne:¬ (("actions":Str) = "rooms"):=by decide +kernel
  have ef:jK "rooms" u6 (jK "actions" u5 []) = [(("actions":Str),u5),(("rooms":Str),u6)]:=by
    show (if ("actions":Str) = "rooms" then _ else (("actions":Str),u5) :: jK "rooms" u6 []) = _
    rw [if_neg ne]
    rfl
  refine w5 [("actions",u5),("rooms",u6)] G6 _ (s05.gg.trans s6.gg) (fun b o e hb=>?_) (fun b o e=>?_) (fun b hb g0=>?_) (by rw [aL,ef]) (.cons (q5.mono s6.gg) (.cons q6 .nil))
  · rw [aD hb]
    exact s6.hh _ _ (by rw [aD hb]; exact s05.hh _ _ e)
  · rw [aD (aQ e g6)]
    exact s6.gh _ _ e
  · refine s6.sep b (fun z=>?_) (s05.sep b hb g0)
    by_cases e:b = a
    · subst e; rw [aL] at z; cases z
    · rw [aD e] at z
      cases q:H b with
      | none=>exact hb q
      | some o=>rw [s05.hh _ _ q] at z; cases z
theorem Cp {f fT C:Addr} {fd fdT:FuncData} {c:Nat} {torn:Bool} (F:L2.Fun K "__init__" "Draft.__init__" jn f fd) (T:Txt K mg t) (lC:Def1 P w K mg base "need_actions" 3 ["actions"] (spD K (Ga t) 1 cZ)) (p6:Def1 P w K mg base "need_rooms" 3 ["rows","many_actions","torn_too"] (spD K (Ga t) 3 bh)) (sO:Def P w K mg base "made_room" 6 ["row"] (spD K (Ga t) 1 iI)) (hC:Ga t c = some C) (cl:Cls K C) (na1:cT K C "actions") (na2:cT K C "rooms") (hmT:Meth K C "lets_torn" fT) (GT:bB P w K mg base CX0 1 fT fdT ["self"] (spT torn)) (bT:Binds K fdT ["self"] []):bB P w K mg base (CX1 P w) 7 f fd ["self","actions","rows"] (spI K (Ga t) c 2 (yg torn)):=by
  obtain ⟨lZ,agd,Nh,qW,iZ,f9⟩:=lC.ex
  obtain ⟨qj,fd_need_rooms,V7,v5,mL,jk⟩:=p6.ex
  obtain ⟨tR,fd_made_room,aa2,yP,oX,j6⟩:=sO.ex
  obtain ⟨oc,od,kV,doc,pm,an,cdv,ct,osl,rfl,lk,hcd⟩:=F.ex
  refine fn_of lk hcd Ud (fun vs H Q E h=>h.1) fun A outer s H vs Q E hr h=>?_
  obtain ⟨hl,a,dx,C',us,G,ds,rfl,hH,hC',ga,sg,r,w⟩:=h
  rw [hC] at hC'
  cases hC'
  cases r with
  | nil=>cases hl
  | @cons v1 us acts ds r1 r =>
    cases r with
    | nil=>cases hl
    | @cons v2 us rows ds r2 r =>
      cases r with
      | cons _ _=>cases hl
      | nil =>
        refine ⟨tSeq (Ks (teD K (Ga t) E Aj)) (tSeq (Ks (VH (spD K (Ga t) 3 bh) [] E (yl (teD K (Ga t) E (gv 2)) (yl (teD K (Ga t) E FZ) (yl (tMeth C "lets_torn" (spT torn) [] E (xR 0) DK) DK))))) (tSeq (sFld K (xR 0) (teD K (Ga t) E0 MT) "actions") (sFld K (xR 0) (teD K (Ga t) E0 M3) "rooms"))),vH (mR (cD (bu Nh (hr.mono (by decide)) rfl iZ f9 qW .nil pass1 (ak (aq 1 (pv 1)) aK)))) (vH (mR (bu V7 (hr.mono (by decide)) rfl mL jk v5 .nil pass1 (cg (aq 2 (pv 2)) (cg (dY rfl T.iB (aY 1 (pv 1))) (cg (pe_meth0 (pv 0) cl hmT GT (hr.mono (by decide)) bT .nil bJ) gU))))) (vH (aes (pv 0) (PE.nox (vd rfl T.v6 (aq 1 (pv 1)))) rfl) (qt (aes (pv 0) (PE.nox (vd rfl T.v6 (Ov (tE (fun a b c d=>mQ (N':=["row"]) (cap:=[none]) ⟨rfl,rfl,by decide +kernel,by decide +kernel,by rfl,trivial,⟨trivial,trivial⟩⟩ rfl a b c d) (zc (aq 2 (pv 2))) (QV 0) (fun _ _ _ _ _=>(cO (cP (i:=0) (show (["row"]:List Str).Nodup by decide +kernel) rfl (by first | exact .inl rfl | exact .inr rfl)))) (fun _ _ _ _ _=>lR) (fun _ _ _ _ _=>(cD (bu aa2 (hr.mono (by decide)) rfl oX j6 yP .nil bJ (ak (aq 0 (pv 0)) aK)))))))) rfl)))),?_⟩
        exact afJ hH ga sg r1 r2 cl na1 na2 w
abbrev jq:Stmt:=inClass (top 25) 5
theorem Ug:aR ["self"] ["self"] (ao jq):=⟨rfl,rfl,rfl,by decide +kernel,rfl,by decide +kernel,by decide +kernel⟩
def rY:DSt→Out (List D):=(oFl 1 iJ (aj (gv 0) az))
def Ge:DSt→Out Fl:=(aeu (jJ [none] (jZ (Qh "rooms" [fJ,j4] (gv 0))) (gN 0) (fun _=>.ok true) rY))
def lE:List D→Out (List (List D)):=fun ds=>(runLL 1 Ge ds).bL
theorem Tr {f:Addr} {fd:FuncData} (F:L2.Fun K "told" "Draft.told" jq f fd) (T:Txt K mg t) (yp:Def P w K mg base "told_room" 3 ["doors"] (spF K (Ga t) 1 iJ)):bB P w K mg base CX0 4 f fd ["self"] (spFF K (Ga t) 1 lE):=by
  obtain ⟨tU,fd_told_room,aa3,yQ,oY,j7⟩:=yp.ex
  refine DL.Fun.okFF F Ug fun cdv A outer s H E hr=>?_
  exact (aM (ds_retff (dff_comp (fun a b c d=>mQ (N':=["doors"]) (cap:=[none]) ⟨rfl,rfl,by decide +kernel,by decide +kernel,by rfl,trivial,⟨trivial,trivial⟩⟩ rfl a b c d) (zc (de_fld (cs:=[fJ,j4]) ⟨⟨t.Draft,rfl,T.Gg.cls,T.gr⟩,⟨t.Plan,rfl,T.Px.cls,T.ig⟩,trivial⟩ (aq 0 (pv 0)))) (QV 0) (fun _ _ _ _ _=>(cO (cP (i:=0) (show (["doors"]:List Str).Nodup by decide +kernel) rfl (by first | exact .inl rfl | exact .inr rfl)))) (fun _ _ _ _ _=>lR) (fun _ _ _ _ _=>(dcallF (bu aa3 (hr.mono (by decide)) rfl oY j7 yQ .nil bJ (ak (aq 0 (pv 0)) aK)))))))
def gW:List (Nat × (List D→Out (List (List D)))):=[(fJ,lE),(j4,lE)]
abbrev gB:Stmt:=top 28
theorem Mt:aR ["_law_script","_law_k"] ["_law_script","_law_k"] (ao gB):=⟨rfl,rfl,rfl,by decide +kernel,rfl,by decide +kernel,by decide +kernel⟩
def zq:DSt→Out Fl:=(bA (sIf (o2b ltD (gb 1) (o1 d9 (gb 0))) (bU (o2 ixD (gvo 0) (gv 1))) eN)
  (bU (kc (.int 0))))
def cX:List D→Out D:=fun ds=>(dR 2 zq ds).bL
theorem Ma {f:Addr} {fd:FuncData} (F:L2.Fun K "_law_cell_at" "_law_cell_at" gB f fd) (T:Txt K mg t) :bB P w K mg base CX0 1 f fd ["_law_script","_law_k"] (spD K (Ga t) 2 cX):=by
  refine DL.Fun.okD F Mt fun cdv A outer s H E hr=>?_
  exact (cG (fQ (dt_lt (aY 1 (pv 1)) (bz (dY rfl T.iB (aY 0 (pv 0))))) (aM (bf (iQ 0 (pv 0) (aq 1 (pv 1))))) bZ)
      (aM (bf aA)))
abbrev jy:Stmt:=top 29
theorem uN:aR ["_law_cell","_law_k","_law_number"] ["_law_cell","_law_k"] (ao jy):=⟨rfl,rfl,rfl,by decide +kernel,rfl,by decide +kernel,by decide +kernel⟩
def Gf:DSt→Out Fl:=(bA (jE 2 (o2 cB (o2 dF (o2 dF (o2 Lw (o2 cB (gv 0) (kc (.int 2147483647))) (kc (.int 48271))) (o2 Lw (gv 1) (kc (.int 7919)))) (kc (.int 104729))) (kc (.int 2147483647))))
  (bA (jE 2 (o2 cB (o2 dF (o2 dF (o2 Lw (o2 cB (o2 Lw (gv 2) (gv 2)) (kc (.int 2147483629))) (kc (.int 16807))) (o2 Lw (gv 1) (kc (.int 104729)))) (kc (.int 11))) (kc (.int 2147483587))))
  (bU (o2 cB (o2 Lw (gv 2) (gv 2)) (kc (.int 2147483549))))))
def aO:List D→Out D:=fun ds=>(dR 3 Gf ds).bL
theorem Tz {f:Addr} {fd:FuncData} (F:L2.Fun K "_law_mixed" "_law_mixed" jy f fd) (T:Txt K mg t) :bB P w K mg base CX0 1 f fd ["_law_cell","_law_k"] (spD K (Ga t) 2 aO):=by
  refine Qn F uN fun cdv A outer s H E hr=>?_
  exact (dxc ⟨(fU 2 (fun h=>eG (i:=2) uN.nd rfl (by first | exact .inl rfl | exact .inr rfl) h) (cz (dG (dG (CQ (cz (aq 0 (pv 0)) aA) aA) (CQ (aq 1 (pv 1)) aA)) aA) aA))⟩
      (dxc ⟨(fU 2 (fun h=>eG (i:=2) uN.nd rfl (by first | exact .inl rfl | exact .inr rfl) h) (cz (dG (dG (CQ (cz (CQ (aq 2 (pv 2)) (aq 2 (pv 2))) aA) aA) (CQ (aq 1 (pv 1)) aA)) aA) aA))⟩
      (dx1 ⟨(bf (cz (CQ (aq 2 (pv 2)) (aq 2 (pv 2))) aA))⟩)))
abbrev jz:Stmt:=top 30
theorem dM:aR ["_law_cell","_law_many","_law_letters","_law_base","_law_size","_law_at","_law_names_here","_law_k","_law_sign"] ["_law_cell","_law_many"] (ao jz):=⟨rfl,rfl,rfl,by decide +kernel,rfl,by decide +kernel,by decide +kernel⟩
def mG:DSt→Out D:=(o2 ixD (gvo 1) (o2 cB (oF 2 aO (aj (gv 2) (aj (o2 dF (kc (.int 902)) (gv 0)) az))) (kc (.int 26))))
def rZ:DSt→Out D:=(oSl (gv 1) noI (soI (o2 dF (kc (.int 1)) (o2 cB (o2 dF (gv 0) (oF 2 aO (aj (gv 2) (aj (kc (.int 899)) az)))) (kc (.int 8))))))
def mF:DSt→Out Fl:=(bA (jE 8 (o2 ixD (gvo 2) (o2 cB (o2 dF (oF 2 aO (aj (gv 0) (aj (o2 dF (kc (.int 902)) (gv 5)) az))) (gv 7)) (kc (.int 26)))))
  (GC 6 (o2 dF (o2 dF (oSl (gv 3) noI (soI (gv 5))) (gv 8)) (oSl (gv 3) (soI (o2 dF (gv 5) (kc (.int 1)))) (soI (gv 4))))))
def mj:DSt→Out Fl:=(bA (jE 2 (kc (.str "abcdefghijklmnopqrstuvwxyz")))
  (bA (jE 3 (oJoin (kc (.str "")) (vp (jJ [none,some 2,some 0] (Gz (kc (.int 8))) (gN 0) (fun _=>.ok true) mG))))
  (bA (sIf (o2b eqD (o2 cB (oF 2 aO (aj (gv 0) (aj (kc (.int 900)) az))) (kc (.int 3))) (kc (.int 0))) (bU (vp (jJ [none,some 3,some 0] (Gz (gv 1)) (gN 0) (fun _=>.ok true) rZ))) eN)
  (bA (jE 4 (o2 dF (kc (.int 1)) (o2 cB (oF 2 aO (aj (gv 0) (aj (kc (.int 901)) az))) (kc (.int 8)))))
  (bA (jE 5 (o2 cB (oF 2 aO (aj (gv 0) (aj (kc (.int 911)) az))) (gv 4)))
  (bA (kh 6 (Ey az))
  (bA (xO (Gz (gv 1)) (gN 7) mF)
  (sRetv 6))))))))
def lF:List D→Out D:=fun ds=>(dR 9 mj ds).bL
theorem TJ {f:Addr} {fd:FuncData} (F:L2.Fun K "_law_names" "_law_names" jz f fd) (T:Txt K mg t) (dD:Def P w K mg base "_law_mixed" 1 ["_law_cell","_law_k"] (spD K (Ga t) 2 aO)):bB P w K mg base CX0 2 f fd ["_law_cell","_law_many"] (spD K (Ga t) 2 lF):=by
  obtain ⟨je,Ce,bK,bD,bw,bj⟩:=dD.ex
  refine Qn F dM fun cdv A outer s H E hr=>?_
  exact (dxc ⟨(fU 2 (fun h=>eG (i:=2) dM.nd rfl (by first | exact .inl rfl | exact .inr rfl) h) cF)⟩
      (dxc ⟨(fU 3 (fun h=>eG (i:=3) dM.nd rfl (by first | exact .inl rfl | exact .inr rfl) h) (de_join cF (Ov (tE (fun a b c d=>mQ (N':=["_law_j","_law_letters","_law_cell"]) (cap:=[none,some 2,some 0]) ⟨rfl,rfl,by decide +kernel,by decide +kernel,by rfl,⟨⟨rfl,by first | exact .inl rfl | exact .inr rfl⟩,⟨rfl,by first | exact .inl rfl | exact .inr rfl⟩,trivial⟩,⟨trivial,⟨rfl,rfl,by first | exact .inl rfl | exact .inr rfl⟩,⟨rfl,rfl,by first | exact .inl rfl | exact .inr rfl⟩,trivial⟩⟩ rfl a b c d) (qx rfl T.Ag aA) (QV 0) (fun _ _ _ _ _=>(cO (cP (i:=0) (show (["_law_j","_law_letters","_law_cell"]:List Str).Nodup by decide +kernel) rfl (by first | exact .inl rfl | exact .inr rfl)))) (fun _ _ _ _ _=>lR) (fun _ _ _ _ _=>(iQ 1 (pv 1) (cz (cD (bu bK (hr.mono (by decide)) rfl bw bj bD .nil bJ (ak (aq 2 (pv 2)) (ak (dG aA (aq 0 (pv 0))) aK)))) aA))))) (fun a b=>VB PySem.F.plainAttrs_str PySem.F.slot_str_join PySem.F.type_str_join mt_join a (cg b gU))))⟩
      (dxc ⟨(fQ (zf hr.units (bz (cz (cD (bu bK (hr.mono (by decide)) rfl bw bj bD .nil bJ (ak (aq 0 (pv 0)) (ak aA aK)))) aA)) (bz aA)) (aM (bf (Ov (tE (fun a b c d=>mQ (N':=["_law_k","_law_base","_law_cell"]) (cap:=[none,some 3,some 0]) ⟨rfl,rfl,by decide +kernel,by decide +kernel,by rfl,⟨⟨rfl,by first | exact .inl rfl | exact .inr rfl⟩,⟨rfl,by first | exact .inl rfl | exact .inr rfl⟩,trivial⟩,⟨trivial,⟨rfl,rfl,by first | exact .inl rfl | exact .inr rfl⟩,⟨rfl,rfl,by first | exact .inl rfl | exact .inr rfl⟩,trivial⟩⟩ rfl a b c d) (qx rfl T.Ag (aq 1 (pv 1))) (QV 0) (fun _ _ _ _ _=>(cO (cP (i:=0) (show (["_law_k","_law_base","_law_cell"]:List Str).Nodup by decide +kernel) rfl (by first | exact .inl rfl | exact .inr rfl)))) (fun _ _ _ _ _=>lR) (fun _ _ _ _ _=>(zb (aq 1 (pv 1)) Xz (wG (dG aA (cz (dG (aq 0 (pv 0)) (cD (bu bK (hr.mono (by decide)) rfl bw bj bD .nil bJ (ak (aq 2 (pv 2)) (ak aA aK))))) aA))))))))) bZ)⟩
      (dxc ⟨(fU 4 (fun h=>eG (i:=4) dM.nd rfl (by first | exact .inl rfl | exact .inr rfl) h) (dG aA (cz (cD (bu bK (hr.mono (by decide)) rfl bw bj bD .nil bJ (ak (aq 0 (pv 0)) (ak aA aK)))) aA)))⟩
      (dxc ⟨(fU 5 (fun h=>eG (i:=5) dM.nd rfl (by first | exact .inl rfl | exact .inr rfl) h) (cz (cD (bu bK (hr.mono (by decide)) rfl bw bj bD .nil bJ (ak (aq 0 (pv 0)) (ak aA aK)))) (aq 4 (pv 4))))⟩
      (dxc (dxlst 6 dM.nd rfl (by first | exact .inl rfl | exact .inr rfl) dn)
      (dxc ⟨(HR (fun a b c=>Jm PassesOwn.never rfl a b c) (qx rfl T.Ag (aq 1 (pv 1))) (cO (cP (i:=7) dM.nd rfl (by first | exact .inl rfl | exact .inr rfl))) (cG (fU 8 (fun h=>eG (i:=8) dM.nd rfl (by first | exact .inl rfl | exact .inr rfl) h) (iQ 2 (pv 2) (cz (dG (cD (bu bK (hr.mono (by decide)) rfl bw bj bD .nil bJ (ak (aq 0 (pv 0)) (ak (dG aA (aq 5 (pv 5))) aK)))) (aq 7 (pv 7))) aA)))
      (aM (XC 6 (pv 6) (dG (dG (zb (aq 3 (pv 3)) Xz (wG (aq 5 (pv 5)))) (aq 8 (pv 8))) (zb (aq 3 (pv 3)) (wG (dG (aq 5 (pv 5)) aA)) (wG (aq 4 (pv 4))))) (fun a b=>mR (VB PySem.F.plainAttrs_list PySem.F.slot_list_append PySem.F.type_list_append qF a (cg b gU)))))))⟩
      (dx1 ⟨(ae1 6 (pv 6))⟩))))))))
abbrev lg:Stmt:=top 31
theorem aat:aR ["_law_x","_law_many"] ["_law_x","_law_many"] (ao lg):=⟨rfl,rfl,rfl,by decide +kernel,rfl,by decide +kernel,by decide +kernel⟩
def Kf:DSt→Out Fl:=(bA (sIf (o2b eqD (o2 cB (gv 0) (kc (.int 5))) (kc (.int 4))) (bU (aX (aj (kc (.str "shut")) (aj (kc .non) az)))) eN)
  (bU (aX (aj (o2 ixD (bF (aj (kc (.str "must")) (aj (kc (.str "may")) az))) (o2 cB (gv 0) (kc (.int 2)))) (aj (o2 cB (o2 eQ (gv 0) (kc (.int 5))) (gv 1)) az)))))
def gM:List D→Out D:=fun ds=>(dR 2 Kf ds).bL
theorem Zx {f:Addr} {fd:FuncData} (F:L2.Fun K "_law_door" "_law_door" lg f fd) (T:Txt K mg t) :bB P w K mg base CX0 1 f fd ["_law_x","_law_many"] (spD K (Ga t) 2 gM):=by
  refine DL.Fun.okD F aat fun cdv A outer s H E hr=>?_
  exact (cG (fQ (zf hr.units (bz (cz (aq 0 (pv 0)) aA)) (bz aA)) (aM (bf (dI (ak cF (ak uC aK))))) bZ)
      (aM (bf (dI (ak (de_ix (m8 (ak cF (ak cF aK))) (cz (aq 0 (pv 0)) aA)) (ak (cz (lQ (aq 0 (pv 0)) aA) (aq 1 (pv 1))) aK))))))
abbrev jA:Stmt:=top 32
theorem oE:aR ["_law_cell","_law_many","_law_acts","_law_cells","_law_rows","_law_room","_law_one"] ["_law_cell","_law_many","_law_acts","_law_cells"] (ao jA):=⟨rfl,rfl,rfl,by decide +kernel,rfl,by decide +kernel,by decide +kernel⟩
def mH:DSt→Out D:=(oF 2 gM (aj (oF 2 aO (aj (gv 2) (aj (o2 dF (o2 dF (kc (.int 40)) (o2 Lw (kc (.int 8)) (gv 3))) (gv 0)) az))) (aj (gv 1) az)))
def mD:DSt→Out Fl:=(vJ 4 (jJ [none,some 1,some 0,some 5] (Gz (gv 2)) (gN 0) (fun _=>.ok true) mH))
def iV:DSt→Out Fl:=(yh 4 (oF 2 gM (aj (oF 2 aO (aj (gv 6) (aj (kc (.int 7)) az))) (aj (gv 1) az))) (o2 cB (gv 6) (gv 1)) (o2 cB (o2 eQ (gv 6) (gv 1)) (gv 2)))
def wU:DSt→Out Fl:=(bA (kh 4 (Ey az))
  (bA (xO (Gz (gv 1)) (gN 5) mD)
  (bA (xO (jZ (gv 3)) (gN 6) iV)
  (sRetv 4))))
def lG:List D→Out D:=fun ds=>(dR 7 wU ds).bL
theorem TQ {f:Addr} {fd:FuncData} (F:L2.Fun K "_law_rooms" "_law_rooms" jA f fd) (T:Txt K mg t) (ym:Def P w K mg base "_law_door" 1 ["_law_x","_law_many"] (spD K (Ga t) 2 gM)) (dD:Def P w K mg base "_law_mixed" 1 ["_law_cell","_law_k"] (spD K (Ga t) 2 aO)):bB P w K mg base CX0 2 f fd ["_law_cell","_law_many","_law_acts","_law_cells"] (spD K (Ga t) 4 lG):=by
  obtain ⟨tO,fd__law_door,Jx,sZ,j8,iU⟩:=ym.ex
  obtain ⟨je,Ce,bK,bD,bw,bj⟩:=dD.ex
  refine Qn F oE fun cdv A outer s H E hr=>?_
  exact (dxc (dxlst 4 oE.nd rfl (by first | exact .inl rfl | exact .inr rfl) dn)
      (dxc ⟨(HR (fun a b c=>Jm PassesOwn.never rfl a b c) (qx rfl T.Ag (aq 1 (pv 1))) (cO (cP (i:=5) oE.nd rfl (by first | exact .inl rfl | exact .inr rfl))) (aM (ds_appl 4 (pv 4) (tE (fun a b c d=>mQ (N':=["_law_k","_law_many","_law_cell","_law_room"]) (cap:=[none,some 1,some 0,some 5]) ⟨rfl,rfl,by decide +kernel,by decide +kernel,by rfl,⟨⟨rfl,by first | exact .inl rfl | exact .inr rfl⟩,⟨rfl,by first | exact .inl rfl | exact .inr rfl⟩,⟨rfl,by first | exact .inl rfl | exact .inr rfl⟩,trivial⟩,⟨trivial,⟨rfl,rfl,by first | exact .inl rfl | exact .inr rfl⟩,⟨rfl,rfl,by first | exact .inl rfl | exact .inr rfl⟩,⟨rfl,rfl,by first | exact .inl rfl | exact .inr rfl⟩,trivial⟩⟩ rfl a b c d) (qx rfl T.Ag (aq 2 (pv 2))) (QV 0) (fun _ _ _ _ _=>(cO (cP (i:=0) (show (["_law_k","_law_many","_law_cell","_law_room"]:List Str).Nodup by decide +kernel) rfl (by first | exact .inl rfl | exact .inr rfl)))) (fun _ _ _ _ _=>lR) (fun _ _ _ _ _=>(cD (bu Jx (hr.mono (by decide)) rfl j8 iU sZ .nil bJ (ak (cD (bu bK (hr.mono (by decide)) rfl bw bj bD .nil bJ (ak (aq 2 (pv 2)) (ak (dG (dG aA (CQ aA (aq 3 (pv 3)))) (aq 0 (pv 0))) aK)))) (ak (aq 1 (pv 1)) aK)))))) (fun a b=>mR (VB PySem.F.plainAttrs_list PySem.F.slot_list_append PySem.F.type_list_append qF a (cg b gU))))))⟩
      (dxc ⟨(HR (fun a b c=>Jm PassesOwn.never rfl a b c) (zc (aq 3 (pv 3))) (cO (cP (i:=6) oE.nd rfl (by first | exact .inl rfl | exact .inr rfl))) (aM (XD 4 (pv 4) (cD (bu Jx (hr.mono (by decide)) rfl j8 iU sZ .nil bJ (ak (cD (bu bK (hr.mono (by decide)) rfl bw bj bD .nil bJ (ak (aq 6 (pv 6)) (ak aA aK)))) (ak (aq 1 (pv 1)) aK)))) (cz (aq 6 (pv 6)) (aq 1 (pv 1))) (cz (lQ (aq 6 (pv 6)) (aq 1 (pv 1))) (aq 2 (pv 2))) (fun a b c=>xN a (zV b c set_list)))))⟩
      (dx1 ⟨(ae1 4 (pv 4))⟩))))
abbrev eX:Stmt:=top 33
theorem gJ:aR ["_law_x","_law_many","_law_some"] ["_law_x","_law_many"] (ao eX):=⟨rfl,rfl,rfl,by decide +kernel,rfl,by decide +kernel,by decide +kernel⟩
def pJ:DSt→Out Fl:=(bA (kh 2 (Ey (aj (kc .non) (aj (kc (.str "must")) (aj (kc (.int 0)) (aj (kc (.bl true)) (aj (aX (aj (kc (.str "must")) az)) (aj (aX (aj (kc (.str "may")) az)) (aj (aX (aj (kc (.str "shut")) az)) (aj (aX az) (aj (aX (aj (kc (.str "must")) (aj (gv 1) az))) (aj (aX (aj (kc (.str "may")) (aj (gv 1) az))) (aj (aX (aj (kc (.str "must")) (aj (o1 bY (kc (.int 1))) az))) az)))))))))))))
  (bA (Bg 2 (kh 2 (catL (gv 2) (bF (aj (aX (aj (kc (.str "must")) (aj (kc (.bl true)) az))) (aj (aX (aj (kc (.str "may")) (aj (kc (.bl false)) az))) (aj (aX (aj (kc (.str "must")) (aj (kc .non) az))) (aj (aX (aj (kc (.str "may")) (aj (kc .non) az))) (aj (aX (aj (kc (.str "shut")) (aj (kc (.int 0)) az))) (aj (aX (aj (kc (.str "torn")) (aj (kc (.int 0)) az))) az))))))))))
  (bA (GC 2 (aX (aj (kc (.str "open")) (aj (kc (.int 0)) az))))
  (bA (Bg 2 (kh 2 (catL (gv 2) (bF (aj (bF (aj (kc (.str "must")) (aj (kc (.int 0)) az))) (aj (bF (aj (kc (.str "shut")) (aj (kc .non) az))) (aj (aX (aj (kc (.str "must")) (aj (kc (.int 0)) (aj (kc (.int 0)) az)))) (aj (aX (aj (kc .non) (aj (kc (.int 0)) az))) (aj (aX (aj (kc (.int 0)) (aj (kc (.str "must")) az))) (aj (aX (aj (kc (.int 1)) (aj (kc (.int 1)) az))) (aj (aX (aj (kc (.str "")) (aj (kc (.int 0)) az))) (aj (aX (aj (kc (.str "Must")) (aj (kc (.int 0)) az))) az))))))))))))
  (bA (Bg 2 (kh 2 (catL (gv 2) (bF (aj (aX (aj (kc (.str "may")) (aj (kc (.str "0")) az))) (aj (aX (aj (kc (.str "must")) (aj (bF (aj (kc (.int 0)) az)) az))) (aj (aX (aj (kc (.str "may")) (aj (aX (aj (kc (.int 0)) az)) az))) (aj (aX (aj (aX (aj (kc (.str "must")) (aj (kc (.int 0)) az))) (aj (kc (.int 0)) az))) (aj (mkD1 (kc (.str "must")) (kc (.int 0))) az)))))))))
  (bA (GC 2 (aX (aj (kc (.str "must")) (aj (o2 dF (gv 1) (o2 eQ (gv 0) (kc (.int 64)))) az))))
  (bU (o2 ixD (gvo 2) (o2 cB (gv 0) (kc (.int 32)))))))))))
def dq:List D→Out D:=fun ds=>(dR 3 pJ ds).bL
theorem Jh {f:Addr} {fd:FuncData} (F:L2.Fun K "_law_bad_door" "_law_bad_door" eX f fd) (T:Txt K mg t) :bB P w K mg base CX0 1 f fd ["_law_x","_law_many"] (spD K (Ga t) 2 dq):=by
  refine Qn F gJ fun cdv A outer s H E hr=>?_
  exact (dxc (dxlst 2 gJ.nd rfl (by first | exact .inl rfl | exact .inr rfl) (dk dnon (dk dZ (dk vf (dk dbl (dk (oJ (dk dZ dn)) (dk (oJ (dk dZ dn)) (dk (oJ (dk dZ dn)) (dk (oJ dn) (dk (oJ (dk dZ (dk ⟨(aq 1 (pv 1))⟩ dn))) (dk (oJ (dk dZ (dk ⟨(aq 1 (pv 1))⟩ dn))) (dk (oJ (dk dZ (dk ⟨(fP aA)⟩ dn))) dn))))))))))))
      (dxc (abM 2 2 gJ.nd rfl (by first | exact .inl rfl | exact .inr rfl) ⟨(aq 2 (pv 2))⟩ (dk (oJ (dk dZ (dk dbl dn))) (dk (oJ (dk dZ (dk dbl dn))) (dk (oJ (dk dZ (dk dnon dn))) (dk (oJ (dk dZ (dk dnon dn))) (dk (oJ (dk dZ (dk vf dn))) (dk (oJ (dk dZ (dk vf dn))) dn)))))))
      (dxc ⟨(XC 2 (pv 2) (dI (ak cF (ak aA aK))) (fun a b=>mR (VB PySem.F.plainAttrs_list PySem.F.slot_list_append PySem.F.type_list_append qF a (cg b gU))))⟩
      (dxc (abM 2 2 gJ.nd rfl (by first | exact .inl rfl | exact .inr rfl) ⟨(aq 2 (pv 2))⟩ (dk (wF (dk dZ (dk vf dn))) (dk (wF (dk dZ (dk dnon dn))) (dk (oJ (dk dZ (dk vf (dk vf dn)))) (dk (oJ (dk dnon (dk vf dn))) (dk (oJ (dk vf (dk dZ dn))) (dk (oJ (dk vf (dk vf dn))) (dk (oJ (dk dZ (dk vf dn))) (dk (oJ (dk dZ (dk vf dn))) dn)))))))))
      (dxc (abM 2 2 gJ.nd rfl (by first | exact .inl rfl | exact .inr rfl) ⟨(aq 2 (pv 2))⟩ (dk (oJ (dk dZ (dk dZ dn))) (dk (oJ (dk dZ (dk (wF (dk vf dn)) dn))) (dk (oJ (dk dZ (dk (oJ (dk vf dn)) dn))) (dk (oJ (dk (oJ (dk dZ (dk vf dn))) (dk vf dn))) (dk (ddic dZ vf) dn))))))
      (dxc ⟨(XC 2 (pv 2) (dI (ak cF (ak (dG (aq 1 (pv 1)) (lQ (aq 0 (pv 0)) aA)) aK))) (fun a b=>mR (VB PySem.F.plainAttrs_list PySem.F.slot_list_append PySem.F.type_list_append qF a (cg b gU))))⟩
      (dx1 ⟨(bf (iQ 2 (pv 2) (cz (aq 0 (pv 0)) aA)))⟩)))))))
abbrev cV:Stmt:=top 34
theorem fK:aR ["_law_x","_law_names_here","_law_some"] ["_law_x","_law_names_here"] (ao cV):=⟨rfl,rfl,rfl,by decide +kernel,rfl,by decide +kernel,by decide +kernel⟩
def jW:DSt→Out Fl:=(bA (kh 2 (Ey (aj (bF az) (aj (kc .non) (aj (kc (.str "a")) (aj (oC (Dt nU) (aj (gv 1) az)) (aj (mkD1 (kc (.str "a")) (kc (.int 0))) (aj (kc (.int 0)) (aj (o2 dF (gv 1) (bF (aj (o2 ixD (gvo 1) (o2 cB (o2 eQ (gv 0) (kc (.int 32))) (o1 d9 (gb 1)))) az))) (aj (bF (aj (kc (.str "")) az)) (aj (bF (aj (kc (.str "A")) az)) (aj (bF (aj (kc (.str "a1")) az)) az))))))))))))
  (bA (GC 2 (bF (aj (kc (.str "a b")) az)))
  (bA (Bg 2 (kh 2 (catL (gv 2) (bF (aj (bF (aj (kc (.str "abcdefghi")) az)) (aj (bF (aj (kc .non) az)) (aj (bF (aj (kc (.int 1)) az)) (aj (bF (aj (bF (aj (kc (.str "a")) az)) az)) (aj (o2 dF (gv 1) (bF (aj (kc (.str "")) az))) (aj (o2 dF (gv 1) (bF (aj (kc (.str "aB")) az))) (aj (bF (aj (kc (.str "a")) (aj (kc (.str "a")) az))) (aj (bF (aj (kc (.str " a")) az)) (aj (bF (aj (kc (.str "-")) az)) az)))))))))))))
  (bA (Bg 2 (kh 2 (catL (gv 2) (bF (aj (bF (aj (kc (.str "a")) (aj (kc (.str "b")) (aj (kc (.str "c")) (aj (kc (.str "d")) (aj (kc (.str "e")) (aj (kc (.str "f")) (aj (kc (.str "g")) (aj (kc (.str "h")) (aj (kc (.str "i")) az)))))))))) (aj (bF (aj (aX (aj (kc (.str "a")) az)) az)) (aj (bF (aj (kc (.bl true)) az)) (aj (bF (aj (kc (.str "a")) (aj (kc .non) az))) az))))))))
  (bU (o2 ixD (gvo 2) (o2 cB (gv 0) (kc (.int 24)))))))))
def cj:List D→Out D:=fun ds=>(dR 3 jW ds).bL
theorem Bm {f:Addr} {fd:FuncData} (F:L2.Fun K "_law_bad_actions" "_law_bad_actions" cV f fd) (T:Txt K mg t) :bB P w K mg base CX0 1 f fd ["_law_x","_law_names_here"] (spD K (Ga t) 2 cj):=by
  refine Qn F fK fun cdv A outer s H E hr=>?_
  exact (dxc (dxlst 2 fK.nd rfl (by first | exact .inl rfl | exact .inr rfl) (dk (wF dn) (dk dnon (dk dZ (dk ⟨(vd rfl T.v6 (aq 1 (pv 1)))⟩ (dk (ddic dZ vf) (dk vf (dk ⟨(dG (aq 1 (pv 1)) (m8 (ak (iQ 1 (pv 1) (cz (lQ (aq 0 (pv 0)) aA) (dY rfl T.iB (aY 1 (pv 1))))) aK)))⟩ (dk (wF (dk dZ dn)) (dk (wF (dk dZ dn)) (dk (wF (dk dZ dn)) dn)))))))))))
      (dxc ⟨(XC 2 (pv 2) (m8 (ak cF aK)) (fun a b=>mR (VB PySem.F.plainAttrs_list PySem.F.slot_list_append PySem.F.type_list_append qF a (cg b gU))))⟩
      (dxc (abM 2 2 fK.nd rfl (by first | exact .inl rfl | exact .inr rfl) ⟨(aq 2 (pv 2))⟩ (dk (wF (dk dZ dn)) (dk (wF (dk dnon dn)) (dk (wF (dk vf dn)) (dk (wF (dk (wF (dk dZ dn)) dn)) (dk ⟨(dG (aq 1 (pv 1)) (m8 (ak cF aK)))⟩ (dk ⟨(dG (aq 1 (pv 1)) (m8 (ak cF aK)))⟩ (dk (wF (dk dZ (dk dZ dn))) (dk (wF (dk dZ dn)) (dk (wF (dk dZ dn)) dn))))))))))
      (dxc (abM 2 2 fK.nd rfl (by first | exact .inl rfl | exact .inr rfl) ⟨(aq 2 (pv 2))⟩ (dk (wF (dk dZ (dk dZ (dk dZ (dk dZ (dk dZ (dk dZ (dk dZ (dk dZ (dk dZ dn)))))))))) (dk (wF (dk (oJ (dk dZ dn)) dn)) (dk (wF (dk dbl dn)) (dk (wF (dk dZ (dk dnon dn))) dn)))))
      (dx1 ⟨(bf (iQ 2 (pv 2) (cz (aq 0 (pv 0)) aA)))⟩)))))
abbrev dU:Stmt:=top 35
theorem ue:aR ["_law_x","_law_rows","_law_some"] ["_law_x","_law_rows"] (ao dU):=⟨rfl,rfl,rfl,by decide +kernel,rfl,by decide +kernel,by decide +kernel⟩
def nj:DSt→Out Fl:=(bA (jE 2 (bF (aj (bF az) (aj (kc .non) (aj (kc (.str "")) (aj (kc (.int 0)) (aj (oC (Dt nU) (aj (gv 1) az)) (aj (mkD1 (kc (.int 0)) (gv 1)) (aj (kc (.bl true)) (aj (vp (repL (bF (aj (o2 ixD (gvo 1) (kc (.int 0))) az)) (kc (.int 2001)))) az))))))))))
  (bU (o2 ixD (gvo 2) (o2 cB (gv 0) (kc (.int 8))))))
def cR:List D→Out D:=fun ds=>(dR 3 nj ds).bL
theorem Gr {f:Addr} {fd:FuncData} (F:L2.Fun K "_law_bad_rooms" "_law_bad_rooms" dU f fd) (T:Txt K mg t) :bB P w K mg base CX0 1 f fd ["_law_x","_law_rows"] (spD K (Ga t) 2 cR):=by
  refine Qn F ue fun cdv A outer s H E hr=>?_
  exact (dxc ⟨(fU 2 (fun h=>eG (i:=2) ue.nd rfl (by first | exact .inl rfl | exact .inr rfl) h) (m8 (ak (m8 aK) (ak uC (ak cF (ak aA (ak (vd rfl T.v6 (aq 1 (pv 1))) (ak (Ou aA (aq 1 (pv 1))) (ak iM (ak (Ov (df_rep (m8 (ak (iQ 1 (pv 1) aA) aK)) aA)) aK))))))))))⟩
      (dx1 ⟨(bf (iQ 2 (pv 2) (cz (aq 0 (pv 0)) aA)))⟩))
abbrev eY:Stmt:=top 36
theorem vL:aR ["_law_x","_law_doors","_law_some"] ["_law_x","_law_doors"] (ao eY):=⟨rfl,rfl,rfl,by decide +kernel,rfl,by decide +kernel,by decide +kernel⟩
def pK:DSt→Out Fl:=(bA (jE 2 (bF (aj (kc .non) (aj (oSl (gv 1) noI (soI (o1 bY (kc (.int 1))))) (aj (o2 dF (gv 1) (bF (aj (o2 ixD (gvo 1) (kc (.int 0))) az))) (aj (oC (Dt nU) (aj (gv 1) az)) (aj (bF az) (aj (kc (.str "must")) (aj (kc (.int 0)) (aj (mkD1 (kc (.int 0)) (gv 1)) az))))))))))
  (bU (o2 ixD (gvo 2) (o2 cB (gv 0) (kc (.int 8))))))
def bM:List D→Out D:=fun ds=>(dR 3 pK ds).bL
theorem Ji {f:Addr} {fd:FuncData} (F:L2.Fun K "_law_bad_room" "_law_bad_room" eY f fd) (T:Txt K mg t) :bB P w K mg base CX0 1 f fd ["_law_x","_law_doors"] (spD K (Ga t) 2 bM):=by
  refine Qn F vL fun cdv A outer s H E hr=>?_
  exact (dxc ⟨(fU 2 (fun h=>eG (i:=2) vL.nd rfl (by first | exact .inl rfl | exact .inr rfl) h) (m8 (ak uC (ak (zb (aq 1 (pv 1)) Xz (wG (fP aA))) (ak (dG (aq 1 (pv 1)) (m8 (ak (iQ 1 (pv 1) aA) aK))) (ak (vd rfl T.v6 (aq 1 (pv 1))) (ak (m8 aK) (ak cF (ak aA (ak (Ou aA (aq 1 (pv 1))) aK))))))))))⟩
      (dx1 ⟨(bf (iQ 2 (pv 2) (cz (aq 0 (pv 0)) aA)))⟩))
abbrev gD:Stmt:=top 37
theorem pO:aR ["_law_names_here","_law_rows","_law_plain","_law_found","e"] ["_law_names_here","_law_rows","_law_plain"] (ao gD):=⟨rfl,rfl,rfl,by decide +kernel,rfl,by decide +kernel,by decide +kernel⟩
def rG:DSt→Out Fl:=(bA (jE 3 (kc .non))
  (bA (sTry dJ 3 (sIf (tst (gb 2)) (vK (oMk j4 2 uf (aj (gv 0) (aj (gv 1) az)))) (vK (oMk fJ 2 nW (aj (gv 0) (aj (gv 1) az))))))
  (bA (sIf (orT (xM (tst (vC oU (gb 3)))) (orT (tst (vC jH (Qi "room" bI (gv 3)))) (tst (vC jH (Qi "action" bI (gv 3)))))) (bU (kc .non)) eN)
  (bU (aX (aj (Qi "room" bI (gv 3)) (aj (Qi "action" bI (gv 3)) az)))))))
def aZ:List D→Out D:=fun ds=>(dR 5 rG ds).bL
theorem Mf {f:Addr} {fd:FuncData} (F:L2.Fun K "_law_refused" "_law_refused" gD f fd) (T:Txt K mg t) (Hg:Ini1 P w K mg base t.Plan 7 ["self","actions","rows"] (spI K (Ga t) j4 2 uf)) (Ac:Ini1 P w K mg base t.Draft 7 ["self","actions","rows"] (spI K (Ga t) fJ 2 nW)):bB P w K mg base CX0 9 f fd ["_law_names_here","_law_rows","_law_plain"] (spD K (Ga t) 3 aZ):=by
  obtain ⟨f_Plan,fd_Plan,acR,acN,ac9⟩:=Hg.ex
  obtain ⟨f_Draft,fd_Draft,V9,V4,Ww⟩:=Ac.ex
  refine Qn F pO fun cdv A outer s H E hr=>?_
  exact (dxc ⟨(fU 3 (fun h=>eG (i:=3) pO.nd rfl (by first | exact .inl rfl | exact .inr rfl) h) uC)⟩
      (dxc ⟨(ds_try (cat:=dJ) (i:=3) (j:=4) T.dJ rfl rfl pO.nd rfl (by first | exact .inl rfl | exact .inr rfl) rfl (by decide) rfl rfl T.Ka (fun pins E'=>(aM (fQ (jD (aY 2 (pv 2))) (aM (aeZ (J1 (c:=j4) rfl (uc acR acN (hr.mono (by decide)) rfl T.g_Plan ac9 .nil passT (ak (aq 0 (pv 0)) (ak (aq 1 (pv 1)) aK)))))) (aM (aeZ (J1 (c:=fJ) rfl (uc V9 V4 (hr.mono (by decide)) rfl T.afa Ww .nil passT (ak (aq 0 (pv 0)) (ak (aq 1 (pv 1)) aK))))))))))⟩
      (dxc ⟨(fQ (O3 (Cd (pI (jD (bz (rC (cv:=.ref t.BadPlan) (.inl rfl) T.oU rfl T.cC (aY 3 (pv 3)) (Gu rfl T.vh rfl))))) (Cd (jD (bz (rC (cv:=.ty "bool") (.inr rfl) T.jH rfl T.cC (bz (MK (c:=bI) ⟨t.BadPlan,rfl,T.dm.toExcGet,T.dw⟩ (aq 3 (pv 3)))) (oA rfl T.adc (by decide +kernel) rfl)))) (wH (jD (bz (rC (cv:=.ty "bool") (.inr rfl) T.jH rfl T.cC (bz (MK (c:=bI) ⟨t.BadPlan,rfl,T.dm.toExcGet,T.cJ⟩ (aq 3 (pv 3)))) (oA rfl T.adc (by decide +kernel) rfl)))))))) (aM (bf uC)) bZ)⟩
      (dx1 ⟨(bf (dI (ak (MK (c:=bI) ⟨t.BadPlan,rfl,T.dm.toExcGet,T.dw⟩ (aq 3 (pv 3))) (ak (MK (c:=bI) ⟨t.BadPlan,rfl,T.dm.toExcGet,T.cJ⟩ (aq 3 (pv 3))) aK))))⟩))))
abbrev gF:Stmt:=top 38
theorem g8:aR ["_law_names_here","_law_rows","_law_x","_law_y","_law_way","_law_room","_law_action","_law_handed"] ["_law_names_here","_law_rows","_law_x","_law_y"] (ao gF):=⟨rfl,rfl,rfl,by decide +kernel,rfl,by decide +kernel,by decide +kernel⟩
def nA:DSt→Out (List D):=(jZ (gv 0))
def rH:DSt→Out Fl:=(bA (jE 4 (o2 cB (gv 2) (kc (.int 8))))
  (bA (jE 5 (o2 cB (o2 eQ (gv 2) (kc (.int 8))) (o1 d9 (gb 1))))
  (bA (jE 6 (o2 cB (o2 eQ (gv 2) (kc (.int 64))) (o1 d9 (gb 0))))
  (bA (sIf (o2b eqD (gb 4) (kc (.int 0))) (bU (aX (aj (oF 2 cj (aj (gv 3) (aj (gv 0) az))) (aj (gv 1) (aj (aX (aj (o1 bY (kc (.int 1))) (aj (o1 bY (kc (.int 1))) az))) az))))) eN)
  (bA (sIf (o2b eqD (gb 4) (kc (.int 1))) (bU (aX (aj (gv 0) (aj (oF 2 cR (aj (gv 3) (aj (gv 1) az))) (aj (aX (aj (o1 bY (kc (.int 1))) (aj (o1 bY (kc (.int 1))) az))) az))))) eN)
  (bA (pN 7 (jJ [none] (jZ (gv 1)) (gN 0) (fun _=>.ok true) nA))
  (bA (sIf (o2b eqD (o2 cB (o2 eQ (gv 2) (kc (.int 512))) (kc (.int 4))) (kc (.int 1))) (vA 7 (iy 7 (aX (aj (kc (.str "open")) (aj (kc .non) az))) (o1 bY (kc (.int 1))) (o1 bY (kc (.int 1))))) eN)
  (bA (sIf (o2b eqD (o2 cB (o2 eQ (gv 2) (kc (.int 512))) (kc (.int 4))) (kc (.int 2))) (vA 7 (iy 7 (aX (aj (kc (.str "torn")) (aj (kc .non) az))) (o1 bY (kc (.int 1))) (o1 bY (kc (.int 1))))) eN)
  (bA (sIf (Er (o2b eqD (o2 cB (o2 eQ (gv 2) (kc (.int 512))) (kc (.int 4))) (kc (.int 3))) (o2b ltD (gb 5) (o2 zZ (o1 d9 (gb 1)) (kc (.int 1))))) (vA 7 (rF 7 (o1 bY (kc (.int 1))) (zY 7 (oF 2 bM (aj (o2 eQ (gv 2) (kc (.int 2048))) (aj (ixM 7 (o1 bY (kc (.int 1)))) az))) (o1 bY (kc (.int 1)))))) eN)
  (bA (sIf (o2b eqD (gb 4) (kc (.int 2))) (bA (vA 7 (rF 7 (gv 5) (zY 7 (oF 2 bM (aj (gv 3) (aj (ixM 7 (gv 5)) az))) (gv 5))))
  (Bg 7 (bU (aX (aj (gv 0) (aj (gv 7) (aj (aX (aj (gv 5) (aj (o1 bY (kc (.int 1))) az))) az))))))) eN)
  (bA (vA 7 (iy 7 (oF 2 dq (aj (gv 3) (aj (o1 d9 (gb 1)) az))) (gv 5) (gv 6)))
  (Bg 7 (bU (aX (aj (gv 0) (aj (gv 7) (aj (aX (aj (gv 5) (aj (gv 6) az))) az)))))))))))))))))
def cY:List D→Out D:=fun ds=>(dR 8 rH ds).bL
theorem Mg {f:Addr} {fd:FuncData} (F:L2.Fun K "_law_spoiled" "_law_spoiled" gF f fd) (T:Txt K mg t) (jR:Def P w K mg base "_law_bad_actions" 1 ["_law_x","_law_names_here"] (spD K (Ga t) 2 cj)) (mV:Def P w K mg base "_law_bad_rooms" 1 ["_law_x","_law_rows"] (spD K (Ga t) 2 cR)) (pq:Def P w K mg base "_law_bad_room" 1 ["_law_x","_law_doors"] (spD K (Ga t) 2 bM)) (ph:Def P w K mg base "_law_bad_door" 1 ["_law_x","_law_many"] (spD K (Ga t) 2 dq)):bB P w K mg base CX0 2 f fd ["_law_names_here","_law_rows","_law_x","_law_y"] (spD K (Ga t) 4 cY):=by
  obtain ⟨gR,acF,Cr,jU,eE,cU⟩:=jR.ex
  obtain ⟨jd,ae5,Hb,mY,gf,dN⟩:=mV.ex
  obtain ⟨jP,afD,xU,jN,eV,du⟩:=pq.ex
  obtain ⟨jO,afC,Kv,pA,gY,eU⟩:=ph.ex
  refine Qn F g8 fun cdv A outer s H E hr=>?_
  exact (dxc ⟨(fU 4 (fun h=>eG (i:=4) g8.nd rfl (by first | exact .inl rfl | exact .inr rfl) h) (cz (aq 2 (pv 2)) aA))⟩
      (dxc ⟨(fU 5 (fun h=>eG (i:=5) g8.nd rfl (by first | exact .inl rfl | exact .inr rfl) h) (cz (lQ (aq 2 (pv 2)) aA) (dY rfl T.iB (aY 1 (pv 1)))))⟩
      (dxc ⟨(fU 6 (fun h=>eG (i:=6) g8.nd rfl (by first | exact .inl rfl | exact .inr rfl) h) (cz (lQ (aq 2 (pv 2)) aA) (dY rfl T.iB (aY 0 (pv 0)))))⟩
      (dxc ⟨(fQ (zf hr.units (aY 4 (pv 4)) (bz aA)) (aM (bf (dI (ak (cD (bu Cr (hr.mono (by decide)) rfl eE cU jU .nil bJ (ak (aq 3 (pv 3)) (ak (aq 0 (pv 0)) aK)))) (ak (aq 1 (pv 1)) (ak (dI (ak (fP aA) (ak (fP aA) aK))) aK)))))) bZ)⟩
      (dxc ⟨(fQ (zf hr.units (aY 4 (pv 4)) (bz aA)) (aM (bf (dI (ak (aq 0 (pv 0)) (ak (cD (bu Hb (hr.mono (by decide)) rfl gf dN mY .nil bJ (ak (aq 3 (pv 3)) (ak (aq 1 (pv 1)) aK)))) (ak (dI (ak (fP aA) (ak (fP aA) aK))) aK)))))) bZ)⟩
      (dxc ⟨(Vi 7 (fun a b c d=>QB (i:=7) (N':=["_law_doors"]) (cap:=[none]) ⟨rfl,rfl,by decide +kernel,by decide +kernel,by rfl,trivial,⟨trivial,trivial⟩⟩ rfl g8.nd rfl (by first | exact .inl rfl | exact .inr rfl) a b c d rfl) (zc (aq 1 (pv 1))) (QV 0) (fun _ _ _ _ _=>(cO (cP (i:=0) (show (["_law_doors"]:List Str).Nodup by decide +kernel) rfl (by first | exact .inl rfl | exact .inr rfl)))) (fun _ _ _ _ _=>lR) (fun _ _ _ _ _=>(aeX rfl T.NT (aq 0 (pv 0)))))⟩
      (dxc ⟨(fQ (zf hr.units (bz (cz (lQ (aq 2 (pv 2)) aA) aA)) (bz aA)) (aM (OJ 7 (O1 7 (pv 7) (dI (ak cF (ak uC aK))) (fP aA) (fP aA) (fun a b c=>xN a (zV b c set_list))))) bZ)⟩
      (dxc ⟨(fQ (zf hr.units (bz (cz (lQ (aq 2 (pv 2)) aA) aA)) (bz aA)) (aM (OJ 7 (O1 7 (pv 7) (dI (ak cF (ak uC aK))) (fP aA) (fP aA) (fun a b c=>xN a (zV b c set_list))))) bZ)⟩
      (dxc ⟨(fQ (O3 (dw_and (zf hr.units (bz (cz (lQ (aq 2 (pv 2)) aA) aA)) (bz aA)) (ae3 (dt_lt (aY 5 (pv 5)) (bz (Ow (dY rfl T.iB (aY 1 (pv 1))) aA)))))) (aM (OJ 7 (abL 7 (o1 bY (kc (.int 1))) (ae0 7 (pv 7) (cD (bu xU (hr.mono (by decide)) rfl eV du jN .nil bJ (ak (lQ (aq 2 (pv 2)) aA) (ak (de_ixM 7 (pv 7) (fP aA)) aK)))) (fP aA) (fun a b c=>xN a (zV b c set_list)))))) bZ)⟩
      (dxc ⟨(fQ (zf hr.units (aY 4 (pv 4)) (bz aA)) (cG (OJ 7 (abL 7 (gv 5) (ae0 7 (pv 7) (cD (bu xU (hr.mono (by decide)) rfl eV du jN .nil bJ (ak (aq 3 (pv 3)) (ak (de_ixM 7 (pv 7) (aq 5 (pv 5))) aK)))) (aq 5 (pv 5)) (fun a b c=>xN a (zV b c set_list)))))
      (aM (adD 7 (bf (dI (ak (aq 0 (pv 0)) (ak (aq 7 (pv 7)) (ak (dI (ak (aq 5 (pv 5)) (ak (fP aA) aK))) aK)))))))) bZ)⟩
      (dxc ⟨(OJ 7 (O1 7 (pv 7) (cD (bu Kv (hr.mono (by decide)) rfl gY eU pA .nil bJ (ak (aq 3 (pv 3)) (ak (dY rfl T.iB (aY 1 (pv 1))) aK)))) (aq 5 (pv 5)) (aq 6 (pv 6)) (fun a b c=>xN a (zV b c set_list))))⟩
      (dx1 ⟨(adD 7 (bf (dI (ak (aq 0 (pv 0)) (ak (aq 7 (pv 7)) (ak (dI (ak (aq 5 (pv 5)) (ak (aq 6 (pv 6)) aK))) aK))))))⟩))))))))))))
abbrev dj:Stmt:=top 39
theorem jY:aR ["_law_names_here","_law_rows","_law_x","_law_place","_law_handed"] ["_law_names_here","_law_rows","_law_x"] (ao dj):=⟨rfl,rfl,rfl,by decide +kernel,rfl,by decide +kernel,by decide +kernel⟩
def pZ:DSt→Out (List D):=(jZ (gv 0))
def mq:DSt→Out Fl:=(bA (jE 3 (aX (aj (o2 cB (gv 2) (o1 d9 (gb 1))) (aj (o2 cB (o2 eQ (gv 2) (kc (.int 8))) (o1 d9 (gb 0))) az))))
  (bA (pN 4 (jJ [none] (jZ (gv 1)) (gN 0) (fun _=>.ok true) pZ))
  (bA (yh 4 (aX (aj (kc (.str "torn")) (aj (kc .non) az))) (o2 ixD (gvo 3) (kc (.int 0))) (o2 ixD (gvo 3) (kc (.int 1))))
  (bA (sIf (orT (o2b neD (zQ 4 (oF 3 aZ (aj (gv 0) (aj (gv 4) (aj (kc (.bl true)) az))))) (gb 3)) (o2b neD (oM "told" 1 (QZ gW) (zQ 4 (oMk fJ 2 nW (aj (gv 0) (aj (gv 4) az)))) az) (gb 4))) (bU (kc (.bl false))) eN)
  (bA (sIf (o2b eqD (gb 3) (aX (aj (o2 zZ (o1 d9 (gb 1)) (kc (.int 1))) (aj (o2 zZ (o1 d9 (gb 0)) (kc (.int 1))) az)))) (bU (kc (.bl true))) eN)
  (bA (yh 4 (aX (aj (kc (.str "may")) (aj (o1 d9 (gb 1)) az))) (o1 bY (kc (.int 1))) (o1 bY (kc (.int 1))))
  (bA (sIf (o2b neD (zQ 4 (oF 3 aZ (aj (gv 0) (aj (gv 4) (aj (kc (.bl false)) az))))) (aX (aj (o2 zZ (o1 d9 (gb 1)) (kc (.int 1))) (aj (o2 zZ (o1 d9 (gb 0)) (kc (.int 1))) az)))) (bU (kc (.bl false))) eN)
  (bU (bV (o2b eqD (zQ 4 (oF 3 aZ (aj (gv 0) (aj (gv 4) (aj (kc (.bl true)) az))))) (gb 3)))))))))))
def dh:List D→Out D:=fun ds=>(dR 5 mq ds).bL
theorem Ds {f:Addr} {fd:FuncData} (F:L2.Fun K "_law_torn_right" "_law_torn_right" dj f fd) (T:Txt K mg t) (fM:Def P w K mg base "_law_refused" 9 ["_law_names_here","_law_rows","_law_plain"] (spD K (Ga t) 3 aZ)) (uR:yz P w K mg base (Ga t) "told" (spFF K (Ga t) 1) 4 gW) (Ac:Ini1 P w K mg base t.Draft 7 ["self","actions","rows"] (spI K (Ga t) fJ 2 nW)):bB P w K mg base CX0 10 f fd ["_law_names_here","_law_rows","_law_x"] (spD K (Ga t) 3 dh):=by
  obtain ⟨iR,Li,fO,c7,b8,bW⟩:=fM.ex
  obtain ⟨f_Draft,fd_Draft,V9,V4,Ww⟩:=Ac.ex
  refine Qn F jY fun cdv A outer s H E hr=>?_
  exact (dxc ⟨(fU 3 (fun h=>eG (i:=3) jY.nd rfl (by first | exact .inl rfl | exact .inr rfl) h) (dI (ak (cz (aq 2 (pv 2)) (dY rfl T.iB (aY 1 (pv 1)))) (ak (cz (lQ (aq 2 (pv 2)) aA) (dY rfl T.iB (aY 0 (pv 0)))) aK))))⟩
      (dxc ⟨(Vi 4 (fun a b c d=>QB (i:=4) (N':=["_law_doors"]) (cap:=[none]) ⟨rfl,rfl,by decide +kernel,by decide +kernel,by rfl,trivial,⟨trivial,trivial⟩⟩ rfl jY.nd rfl (by first | exact .inl rfl | exact .inr rfl) a b c d rfl) (zc (aq 1 (pv 1))) (QV 0) (fun _ _ _ _ _=>(cO (cP (i:=0) (show (["_law_doors"]:List Str).Nodup by decide +kernel) rfl (by first | exact .inl rfl | exact .inr rfl)))) (fun _ _ _ _ _=>lR) (fun _ _ _ _ _=>(aeX rfl T.NT (aq 0 (pv 0)))))⟩
      (dxc ⟨(XD 4 (pv 4) (dI (ak cF (ak uC aK))) (iQ 3 (pv 3) aA) (iQ 3 (pv 3) aA) (fun a b c=>xN a (zV b c set_list)))⟩
      (dxc ⟨(fQ (O3 (Cd (O2 hr.units (bz (MN 4 (cD (bu fO (hr.mono (by decide)) rfl b8 bW c7 .nil bJ (ak (aq 0 (pv 0)) (ak (aq 4 (pv 4)) (ak iM aK))))))) (aY 3 (pv 3))) (wH (O2 hr.units (bz (Fz (Ay ((yz.dFF uR).ok (hr.mono (by decide))) bJ (MN 4 (J1 (c:=fJ) rfl (uc V9 V4 (hr.mono (by decide)) rfl T.afa Ww .nil pass10 (ak (aq 0 (pv 0)) (ak (aq 4 (pv 4)) aK)))))))) (aY 4 (pv 4)))))) (aM (bf iM)) bZ)⟩
      (dxc ⟨(fQ (zf hr.units (aY 3 (pv 3)) (bz (dI (ak (Ow (dY rfl T.iB (aY 1 (pv 1))) aA) (ak (Ow (dY rfl T.iB (aY 0 (pv 0))) aA) aK))))) (aM (bf iM)) bZ)⟩
      (dxc ⟨(XD 4 (pv 4) (dI (ak cF (ak (dY rfl T.iB (aY 1 (pv 1))) aK))) (fP aA) (fP aA) (fun a b c=>xN a (zV b c set_list)))⟩
      (dxc ⟨(fQ (O2 hr.units (bz (MN 4 (cD (bu fO (hr.mono (by decide)) rfl b8 bW c7 .nil bJ (ak (aq 0 (pv 0)) (ak (aq 4 (pv 4)) (ak iM aK))))))) (bz (dI (ak (Ow (dY rfl T.iB (aY 1 (pv 1))) aA) (ak (Ow (dY rfl T.iB (aY 0 (pv 0))) aA) aK))))) (aM (bf iM)) bZ)⟩
      (dx1 ⟨(bf (abF hr.units (bz (MN 4 (cD (bu fO (hr.mono (by decide)) rfl b8 bW c7 .nil bJ (ak (aq 0 (pv 0)) (ak (aq 4 (pv 4)) (ak iM aK))))))) (aY 3 (pv 3))))⟩))))))))
abbrev GD:Stmt:=top 40
theorem xQ:aR ["_law_script","_law_cell","_law_names_here","_law_rows","_law_k","_law_one","_law_acts","_law_handed","_law_due"] ["_law_script"] (ao GD):=⟨rfl,rfl,rfl,by decide +kernel,rfl,by decide +kernel,by decide +kernel⟩
def Gk:DSt→Out Fl:=(bA (jE 5 (oF 2 cX (aj (gv 0) (aj (gv 4) az))))
  (bA (sAsg (oF 4 cY (aj (gv 2) (aj (gv 3) (aj (oF 2 aO (aj (gv 5) (aj (o2 dF (kc (.int 20)) (gv 4)) az))) (aj (oF 2 aO (aj (gv 5) (aj (o2 dF (kc (.int 50)) (gv 4)) az))) az))))) (gT 3 (cN (gN 6) (cN (gN 7) (cN (gN 8) pY)))))
  (sIf (orT (o2b neD (oF 3 aZ (aj (gv 6) (aj (gv 7) (aj (kc (.bl true)) az)))) (gb 8)) (o2b neD (oF 3 aZ (aj (gv 6) (aj (gv 7) (aj (kc (.bl false)) az)))) (gb 8))) (bU (kc (.bl false))) eN)))
def g_law:DSt→Out Fl:=(bA (jE 1 (oF 2 cX (aj (gv 0) (aj (kc (.int 0)) az))))
  (bA (jE 2 (oF 2 lF (aj (gv 1) (aj (o2 dF (kc (.int 1)) (o2 cB (oF 2 aO (aj (gv 1) (aj (kc (.int 1)) az))) (kc (.int 4)))) az))))
  (bA (jE 3 (oF 4 lG (aj (gv 1) (aj (o2 dF (kc (.int 1)) (o2 cB (oF 2 aO (aj (gv 1) (aj (kc (.int 2)) az))) (kc (.int 4)))) (aj (o1 d9 (gb 2)) (aj (oSl (gv 0) (soI (kc (.int 1))) (soI (kc (.int 20)))) az))))))
  (bA (xO (Gz (oC maxD (aj (kc (.int 1)) (aj (oC minD (aj (o1 d9 (gb 0)) (aj (kc (.int 20)) az))) az)))) (gN 4) Gk)
  (bU (Es (oF 3 dh (aj (gv 2) (aj (gv 3) (aj (oF 2 aO (aj (gv 1) (aj (kc (.int 3)) az))) az)))) (bV (o2b eqD (oM "told" 1 (QZ gW) (oMk j4 2 uf (aj (gv 2) (aj (gv 3) az))) az) (gb 3)))))))))
def F_law:List D→Out D:=fun ds=>(dR 9 g_law ds).bL
theorem ok_law {f:Addr} {fd:FuncData} (F:L2.Fun K "law" "law" GD f fd) (T:Txt K mg t) (qL:Def P w K mg base "_law_cell_at" 1 ["_law_script","_law_k"] (spD K (Ga t) 2 cX)) (vM:Def P w K mg base "_law_names" 2 ["_law_cell","_law_many"] (spD K (Ga t) 2 lF)) (dD:Def P w K mg base "_law_mixed" 1 ["_law_cell","_law_k"] (spD K (Ga t) 2 aO)) (vN:Def P w K mg base "_law_rooms" 2 ["_law_cell","_law_many","_law_acts","_law_cells"] (spD K (Ga t) 4 lG)) (qM:Def P w K mg base "_law_spoiled" 2 ["_law_names_here","_law_rows","_law_x","_law_y"] (spD K (Ga t) 4 cY)) (fM:Def P w K mg base "_law_refused" 9 ["_law_names_here","_law_rows","_law_plain"] (spD K (Ga t) 3 aZ)) (lB:Def P w K mg base "_law_torn_right" 10 ["_law_names_here","_law_rows","_law_x"] (spD K (Ga t) 3 dh)) (uR:yz P w K mg base (Ga t) "told" (spFF K (Ga t) 1) 4 gW) (Hg:Ini1 P w K mg base t.Plan 7 ["self","actions","rows"] (spI K (Ga t) j4 2 uf)):bB P w K mg base CX0 11 f fd ["_law_script"] (spD K (Ga t) 1 F_law):=by
  obtain ⟨lW,aga,yu,lJ,gj,d8⟩:=qL.ex
  obtain ⟨qg,fd__law_names,V5,vZ,mJ,ji⟩:=vM.ex
  obtain ⟨je,Ce,bK,bD,bw,bj⟩:=dD.ex
  obtain ⟨qi,fd__law_rooms,V6,v4,mK,jj⟩:=vN.ex
  obtain ⟨lX,agb,Nf,qT,iW,fY⟩:=qM.ex
  obtain ⟨iR,Li,fO,c7,b8,bW⟩:=fM.ex
  obtain ⟨iC,adF,DY,lK,fu,di⟩:=lB.ex
  obtain ⟨f_Plan,fd_Plan,acR,acN,ac9⟩:=Hg.ex
  refine Qn F xQ fun cdv A outer s H E hr=>?_
  exact (dxc ⟨(fU 1 (fun h=>eG (i:=1) xQ.nd rfl (by first | exact .inl rfl | exact .inr rfl) h) (cD (bu yu (hr.mono (by decide)) rfl gj d8 lJ .nil bJ (ak (aq 0 (pv 0)) (ak aA aK)))))⟩
      (dxc ⟨(fU 2 (fun h=>eG (i:=2) xQ.nd rfl (by first | exact .inl rfl | exact .inr rfl) h) (cD (bu V5 (hr.mono (by decide)) rfl mJ ji vZ .nil bJ (ak (aq 1 (pv 1)) (ak (dG aA (cz (cD (bu bK (hr.mono (by decide)) rfl bw bj bD .nil bJ (ak (aq 1 (pv 1)) (ak aA aK)))) aA)) aK)))))⟩
      (dxc ⟨(fU 3 (fun h=>eG (i:=3) xQ.nd rfl (by first | exact .inl rfl | exact .inr rfl) h) (cD (bu V6 (hr.mono (by decide)) rfl mK jj v4 .nil bJ (ak (aq 1 (pv 1)) (ak (dG aA (cz (cD (bu bK (hr.mono (by decide)) rfl bw bj bD .nil bJ (ak (aq 1 (pv 1)) (ak aA aK)))) aA)) (ak (dY rfl T.iB (aY 2 (pv 2))) (ak (zb (aq 0 (pv 0)) (wG aA) (wG aA)) aK)))))))⟩
      (dxc ⟨(HR (fun a b c=>Jm PassesOwn.never rfl a b c) (qx rfl T.Ag (de_max rfl rfl T.b_max (ak aA (ak (de_min rfl rfl T.b_min (ak (dY rfl T.iB (aY 0 (pv 0))) (ak aA aK))) aK)))) (cO (cP (i:=4) xQ.nd rfl (by first | exact .inl rfl | exact .inr rfl))) (cG (fU 5 (fun h=>eG (i:=5) xQ.nd rfl (by first | exact .inl rfl | exact .inr rfl) h) (cD (bu yu (hr.mono (by decide)) rfl gj d8 lJ .nil bJ (ak (aq 0 (pv 0)) (ak (aq 4 (pv 4)) aK)))))
      (cG (ds_asg (fun a b=>xN a b) (cD (bu Nf (hr.mono (by decide)) rfl iW fY qT .nil bJ (ak (aq 2 (pv 2)) (ak (aq 3 (pv 3)) (ak (cD (bu bK (hr.mono (by decide)) rfl bw bj bD .nil bJ (ak (aq 5 (pv 5)) (ak (dG aA (aq 4 (pv 4))) aK)))) (ak (cD (bu bK (hr.mono (by decide)) rfl bw bj bD .nil bJ (ak (aq 5 (pv 5)) (ak (dG aA (aq 4 (pv 4))) aK)))) aK)))))) (adC (n:=3) (fun h=>aem rfl h) (rD (cO (cP (i:=6) xQ.nd rfl (by first | exact .inl rfl | exact .inr rfl))) (rD (cO (cP (i:=7) xQ.nd rfl (by first | exact .inl rfl | exact .inr rfl))) (rD (cO (cP (i:=8) xQ.nd rfl (by first | exact .inl rfl | exact .inr rfl))) Xx (fun a b=>sy a b)) (fun a b=>sy a b)) (fun a b=>sy a b))))
      (aM (fQ (O3 (Cd (O2 hr.units (bz (cD (bu fO (hr.mono (by decide)) rfl b8 bW c7 .nil bJ (ak (aq 6 (pv 6)) (ak (aq 7 (pv 7)) (ak iM aK)))))) (aY 8 (pv 8))) (wH (O2 hr.units (bz (cD (bu fO (hr.mono (by decide)) rfl b8 bW c7 .nil bJ (ak (aq 6 (pv 6)) (ak (aq 7 (pv 7)) (ak iM aK)))))) (aY 8 (pv 8)))))) (aM (bf iM)) bZ)))))⟩
      (dx1 ⟨(bf (HH (cD (bu DY (hr.mono (by decide)) rfl fu di lK .nil bJ (ak (aq 2 (pv 2)) (ak (aq 3 (pv 3)) (ak (cD (bu bK (hr.mono (by decide)) rfl bw bj bD .nil bJ (ak (aq 1 (pv 1)) (ak aA aK)))) aK))))) (HJ (abF hr.units (bz (Fz (Ay ((yz.dFF uR).ok (hr.mono (by decide))) bJ (J1 (c:=j4) rfl (uc acR acN (hr.mono (by decide)) rfl T.g_Plan ac9 .nil pass10 (ak (aq 2 (pv 2)) (ak (aq 3 (pv 3)) aK))))))) (aY 3 (pv 3))))))⟩)))))
end
end K2
namespace DL
open PySem MX L2
theorem abu {α β:Type} {fe:DSt→Out β} (g:α→D) (h:α→β):∀ (xs:List α) (δ:DSt),(∀ x ∈ xs,fe (δ.set 0 (some (.sh (g x)))) = .ok (h x))→Od (gN 0) (fun _=>.ok true) fe (xs.map g) δ = .ok (xs.map h)
  | [],_,_=>rfl
  | x :: xs,δ,k=>by
    have e1:=k x List.mem_cons_self
    have e2:=abu g h xs (δ.set 0 (some (.sh (g x)))) (fun y hy=>by rw [List.set_set]; exact k y (List.mem_cons_of_mem _ hy))
    rw [List.map_cons,List.map_cons]
    unfold Od
    simp only [gN,Out.gw,Out.aJ,Out.t8,e1,e2,if_true]
theorem jc {α β:Type} {cap:List (Option Nat)} {fi:DSt→Out (List D)} {fe:DSt→Out β} {δ:DSt} (g:α→D) (h:α→β) (xs:List α) (e:fi δ = .ok (xs.map g)) (hz:xs.length < 1000000) (k:∀ x ∈ xs,fe ((capD cap δ).set 0 (some (.sh (g x)))) = .ok (h x)):jJ cap fi (gN 0) (fun _=>.ok true) fe δ = .ok (xs.map h):=by
  unfold jJ
  rw [e]
  simp only [Out.aJ]
  rw [if_pos (by rw [List.length_map]; exact Nat.lt_of_lt_of_le hz (by decide)),abu g h xs _ k]
theorem ade (l:List Bool):yR (l.map D.bl) = some l:=by
  induction l with
  | nil=>rfl
  | cons b l ih=>simp [yR,ih,asB]
theorem Jt (l:List Str):Kq (l.map D.str) = some l:=by
  induction l with
  | nil=>rfl
  | cons b l ih=>simp [Kq,ih]
theorem En {α:Type} (f:α→Bool) (l:List α):allD (.lst (l.map fun x=>.bl (f x))) = some (.bl (l.all f)):=by
  unfold allD
  have:(l.map fun x=>D.bl (f x)) = (l.map f).map D.bl:=by simp
  rw [this]
  simp only [vo,Option.bind_some,ade,Option.map_some]
  congr 2
  induction l with
  | nil=>rfl
  | cons a l ih=>simp
theorem rngL_map (n:Nat):rngL 0 n = (List.range n).map fun i=>D.int (i:Nat):=by
  unfold rngL
  congr 1
  funext i
  rw [Int.zero_add]
theorem Gd {α:Type} {body:DSt→Out Fl} {tg:D→DSt→Option DSt} (g:α→D) (I:List α→DSt→Prop):∀ (xs done:List α) (δ:DSt),(∀ x done δ,I done δ→x ∈ xs→∃ δ1,tg (g x) δ = some δ1∧nxP (body δ1) (I (done ++ [x])))→I done δ→∃ δ',O9 tg body (xs.map g) δ = .ok (.nx δ')∧I (done ++ xs) δ'
  | [],done,δ,_,i=>⟨δ,rfl,by simpa using i⟩
  | x :: xs,done,δ,h,i=>by
    obtain ⟨δ1,e1,w⟩:=h x done δ i List.mem_cons_self
    obtain ⟨δ',e2,i'⟩:=Y6 w
    obtain ⟨δ2,e3,i2⟩:=Gd g I xs (done ++ [x]) δ' (fun y dn δ hi hy=>h y dn δ hi (List.mem_cons_of_mem _ hy)) i'
    exact ⟨δ2,by rw [List.map_cons]; unfold O9; rw [e1]; simp only [Out.gw,Out.aJ,e2]; exact e3,by simpa using i2⟩
theorem Pa {α:Type} {body:DSt→Out Fl} {tg:D→DSt→Option DSt} (g:α→D) (I:List α→DSt→Prop) (xs:List α) (δ:DSt) (h:∀ x done rest δ,xs = done ++ x :: rest→I done δ→∃ δ1,tg (g x) δ = some δ1∧nxP (body δ1) (I (done ++ [x]))) (i:I [] δ):∃ δ',O9 tg body (xs.map g) δ = .ok (.nx δ')∧I xs δ':=by
  have go:∀ (ys done:List α) (δ:DSt),xs = done ++ ys→I done δ→∃ δ',O9 tg body (ys.map g) δ = .ok (.nx δ')∧I xs δ':=by
    intro ys
    induction ys with
    | nil=>intro done δ e i; exact ⟨δ,rfl,by rw [e,List.append_nil]; exact i⟩
    | cons x ys ih =>
      intro done δ e i
      obtain ⟨δ1,e1,w⟩:=h x done ys δ e i
      obtain ⟨δ',e2,i'⟩:=Y6 w
      obtain ⟨δ2,e3,i2⟩:=ih (done ++ [x]) δ' (by rw [e]; simp) i'
      exact ⟨δ2,by rw [List.map_cons]; unfold O9; rw [e1]; simp only [Out.gw,Out.aJ,e2]; exact e3,i2⟩
  exact go xs [] δ rfl i
theorem rng_lo (j:Int) (h:0 ≤ j):(-(2 ^ 62):Int) ≤ j:=by omega
theorem rng_hi (j:Int) (h:j < 1000000):j < (2 ^ 62:Int):=by omega
theorem rng1_int {f:DSt→Out D} {δ:DSt} {j:Int} (h:f δ = .ok (.int j)) (h0:0 ≤ j) (h1:j < 1000000):Gz f δ = .ok (rngL 0 j.toNat):=by
  unfold Gz
  rw [h]
  simp only [Out.aJ]
  rw [if_pos ⟨rng_lo j h0,rng_hi j h1⟩]
theorem vI {f:DSt→Out D} {δ:DSt} {n:Nat} (h:f δ = .ok (.int (n:Nat))) (hn:n < 1000000):Gz f δ = .ok ((List.range n).map fun i=>D.int (i:Nat)):=by
  have a:(n:Int) < 1000000:=by omega
  have b:(0:Int) ≤ (n:Int):=by omega
  generalize hj:(n:Int) = j at h a b
  have e:=rng1_int h b a
  have t:j.toNat = n:=by omega
  rw [e,t,rngL_map]
theorem aW {A B:DSt→Out Fl} {δ δ':DSt} {r:Out D} (h:A δ = .ok (.nx δ')) (k:((B δ').bind m9).bL = r):((bA A B δ).bind m9).bL = r:=by
  unfold bA
  rw [h]
  exact k
theorem ud {f:DSt→Out D} {δ:DSt} {d:D} (h:f δ = .ok d):((bU f δ).bind m9).bL = .ok d:=by
  unfold bU
  rw [h]
  rfl
end DL
namespace DL
open PySem MX L2 PySem.Builtin PySem.Builtin.Str
def ofL (l:List Nat):Str:=⟨l.toArray⟩
theorem qp (l:List Nat):(ofL l).length = l.length:=by show l.toArray.size = _; simp
theorem afh {a b:List Nat} (h:ofL a = ofL b):a = b:=by
  have:=congrArg (fun s:Str=>s.cps.toList) h
  simpa [ofL] using this
theorem ofL_app (a b:List Nat):ofL a ++ ofL b = ofL (a ++ b):=by
  show Str.append (ofL a) (ofL b) = _
  unfold Str.append ofL
  simp
theorem Dv (l:List Nat):∀ (m i:Nat),(List.range' i m).filterMap (fun x=>l.toArray[x]?) = (l.drop i).take m
  | 0,i=>by simp
  | m + 1,i=>by
    rw [List.range'_succ,List.filterMap_cons]
    have ih:=Dv l m (i + 1)
    by_cases h:i < l.length
    · simp only [List.getElem?_toArray,List.getElem?_eq_getElem h]
      rw [List.drop_eq_getElem_cons h,List.take_succ_cons]
      congr 1
      simpa using ih
    · have e:l[i]? = none:=List.getElem?_eq_none (by omega)
      simp only [List.getElem?_toArray,e]
      have e2:l.drop i = []:=List.drop_eq_nil_of_le (by omega)
      have e3:l.drop (i + 1) = []:=List.drop_eq_nil_of_le (by omega)
      rw [e3] at ih
      rw [e2]
      simpa using ih
theorem idx_ss (i j n:Nat) (h1:i ≤ j) (h2:j ≤ n):strSliceIndices (some (i:Int)) (some (j:Int)) 1 n = List.range' i (j - i):=by
  unfold strSliceIndices sliceRange
  have a1:¬ ((i:Int) < 0):=by omega
  have a2:¬ ((j:Int) < 0):=by omega
  have b1:max (0:Int) (min (i:Int) (n:Int)) = i:=by omega
  have b2:max (0:Int) (min (j:Int) (n:Int)) = j:=by omega
  simp only [show (1:Int) > 0 by decide,if_true,a1,a2,if_false,b1,b2]
  have c:(if (i:Int) < j then ((j:Int) - i + 1 - 1) / 1 else 0).toNat = j - i:=by
    split
    · rw [Int.ediv_one]; omega
    · simp; omega
  rw [c,List.range'_eq_map_range]
  congr 1
  funext k
  omega
theorem idx_ns (j n:Nat) (h2:j ≤ n):strSliceIndices none (some (j:Int)) 1 n = List.range' 0 j:=by
  have:=idx_ss 0 j n (Nat.zero_le _) h2
  rw [Nat.sub_zero] at this
  rw [← this]
  unfold strSliceIndices
  simp only [show (1:Int) > 0 by decide,if_true]
  have e:max (0:Int) (min (if ((0:Nat):Int) < 0 then ((0:Nat):Int) + (n:Int) else ((0:Nat):Int)) (n:Int)) = 0:=by
    rw [if_neg (by omega)]
    omega
  rw [e]
theorem slice_ss (l:List Nat) (i j:Nat) (h1:i ≤ j) (h2:j ≤ l.length):Txt.slice (ofL l) (some (i:Int)) (some (j:Int)) = ofL ((l.drop i).take (j - i)):=by
  unfold Txt.slice
  rw [qp,idx_ss i j _ h1 h2]
  split
  · rename_i h
    simp at h
    have:i = 0∧j = l.length:=by omega
    obtain ⟨rfl,rfl⟩:=this
    simp
  · show (⟨((List.range' i (j - i)).filterMap fun x=>l.toArray[x]?).toArray⟩:Str) = _
    rw [Dv]
    rfl
theorem slice_ns (l:List Nat) (j:Nat) (h2:j ≤ l.length):Txt.slice (ofL l) none (some (j:Int)) = ofL (l.take j):=by
  unfold Txt.slice
  rw [qp,idx_ns j _ h2]
  split
  · rename_i h
    simp at h
    subst h
    simp
  · show (⟨((List.range' 0 j).filterMap fun x=>l.toArray[x]?).toArray⟩:Str) = _
    rw [Dv]
    simp [ofL]
theorem abc:(Str.ofString "abcdefghijklmnopqrstuvwxyz") = ofL ((List.range 26).map (97 + ·)):=by decide +kernel
theorem abc_at {i:Int} (h0:0 ≤ i) (h1:i < 26):ixD (.str "abcdefghijklmnopqrstuvwxyz") (.int i) = some (.str (ofL [97 + i.toNat])):=by
  obtain ⟨k,rfl⟩:=Int.eq_ofNat_of_zero_le h0
  have hk:k < 26:=by omega
  have key:∀ k:Fin 26,ixD (.str (Str.ofString "abcdefghijklmnopqrstuvwxyz")) (.int ((k.val:Nat):Int)) = some (.str (ofL [97 + ((k.val:Nat):Int).toNat])):=by
    intro k
    have e:(if (Str.ofString "abcdefghijklmnopqrstuvwxyz").length ≤ sizeLine then (atI (Str.ofString "abcdefghijklmnopqrstuvwxyz").cps.toList ((k.val:Nat):Int)).map fun c=>D.str ⟨#[c]⟩ else none) = ixD (.str (Str.ofString "abcdefghijklmnopqrstuvwxyz")) (.int ((k.val:Nat):Int)):=rfl
    rw [← e,abc,qp,if_pos (by simp; decide)]
    show (atI (((List.range 26).map (97 + ·)).toArray.toList) ((k.val:Nat):Int)).map _ = _
    have:atI (((List.range 26).map (97 + ·)).toArray.toList) ((k.val:Nat):Int) = some (97 + k.val):=iz (by simp)
    rw [this]
    simp [ofL]
  exact key ⟨k,hk⟩
theorem abc_in {c:Nat} (h0:97 ≤ c) (h1:c < 123):inD (.str (ofL [c])) (.str "abcdefghijklmnopqrstuvwxyz") = some true:=by
  have key:∀ k:Fin 26,(!(occurrences (Str.ofString "abcdefghijklmnopqrstuvwxyz") (ofL [97 + k.val]) 0 (Str.ofString "abcdefghijklmnopqrstuvwxyz").length 1).isEmpty) = true:=by decide +kernel
  have:=key ⟨c - 97,by omega⟩
  rw [show 97 + (c - 97) = c by omega] at this
  show some _ = some true
  rw [this]
theorem join_ones (l:List Nat):Txt.join (Str.ofString "") (l.map fun c=>ofL [c]) = ofL l:=by
  have e0:(Str.ofString "").cps = #[]:=by decide +kernel
  have go:∀ (l:List Nat) (a:Array Nat),(l.map fun c=>ofL [c]).foldl (fun acc p=>acc ++ (Str.ofString "").cps ++ p.cps) a = a ++ l.toArray:=by
    intro l
    induction l with
    | nil=>intro a; simp
    | cons c l ih =>
      intro a
      rw [List.map_cons,List.foldl_cons,ih,e0]
      apply Array.ext'
      simp [ofL]
  show glued _ _ = _
  unfold glued
  cases l with
  | nil=>rfl
  | cons c l =>
    simp only [List.map_cons,List.drop_one,List.tail_cons,List.headD_cons]
    rw [go]
    unfold ofL
    congr 1
    apply Array.ext'
    simp
end DL
local macro_rules
  | `(tactic| walk_at $s:str)=>do
    let t:=s.getString
    unless t.startsWith "ev" do Lean.Macro.throwUnsupported
    let (h,r):=match t.splitOn ":" with
      | [h,r]=>(h,r)
      | _=>(t,"")
    let minus:=(h.splitOn "-").drop 1
    let all:=("dR jF m9 bA eN vK jE kh pN sIf bU xO GC vJ sExt sClr VD sPut yh sAsg gv gb gvo slD o1 o2 o2b o3 oC oF oM oMk Qh vC bV Er orT xM tst Es orV notV ifV az aj aX bF Ey jZ vp Vy kc Dt Bg frz frzS bY Af Ba Av vg Ar Ah Ju U3 Iz IK IV Vs Vt Vu Ik Ij U4 U5 U6 U7 U8 U9 Va Vb Vc Vd Hr Hs Dn Do HY Jb HX Ja Ib Jc isND Vz wV gN pY cN gT Out.aJ Out.v7 Out.m5 Out.gw Out.vD Out.t8 Jd List.map_cons List.map_nil List.length_cons List.length_nil List.append_assoc List.nil_append List.cons_append List.getElem?_cons_zero List.getElem?_cons_succ List.getElem?_nil List.set_cons_zero List.set_cons_succ Nat.zero_add Nat.reduceAdd Nat.reduceSub List.replicate_succ List.replicate_zero List.lookup_cons List.lookup_nil Option.some.injEq Option.bind_some Option.map_some Nat.reduceBEq Nat.reduceEqDiff Int.reduceLT Int.reduceLE Int.reduceNeg Int.reduceAdd Int.reduceMul Int.reduceSub Nat.reduceLeDiff reduceIte if_t if_f ite_true decide_true decide_false Bool.not_true Bool.not_false Nat.reduceEqDiff Bool.false_eq_true Option.isNone_none Option.isNone_some Ax String.reduceBEq String.reduceEq beq_self_eq_true List.contains_cons List.contains_nil Bool.or_false Bool.or_true Bool.true_or Bool.false_or Bool.and_true Bool.and_false Bool.true_and Bool.false_and Bool.not_eq_true eq_self_iff_true Int.cast_ofNat_Int Int.reduceBEq Int.natCast_zero".splitOn " ").filter fun x=>!minus.contains x
    let ids:=(all ++ (r.splitOn " ").filter (· ≠ "")).toArray.map fun x=>Lean.mkIdent x.toName
    let args ← ids.mapM fun i=>`(Lean.Parser.Tactic.simpLemma| $i:term)
    `(tactic| simp only [$args,*])
namespace K2
open PySem L2 MX DL
inductive Dr where
  | must (n:Nat) | may (n:Nat) | shut | torn
def Dr.w:Dr→Str
  | .must _=>"must"
  | .may _=>"may"
  | .shut=>"shut"
  | .torn=>"torn"
def Dr.to:Dr→D
  | .must n=>.int n
  | .may n=>.int n
  | .shut=>.non
  | .torn=>.non
def Dr.d (x:Dr):D:=.tup [.str x.w,x.to]
def Dr.ob:Dr→D
  | .must n=>.obj qX [("to",.int n)]
  | .may n=>.obj Cy [("to",.int n)]
  | .shut=>.obj pR [("to",.non)]
  | .torn=>.obj pU [("to",.non)]
def Dr.ok (many:Nat) (t:Bool):Dr→Prop
  | .must n=>n < many
  | .may n=>n < many
  | .shut=>True
  | .torn=>t = true
theorem s0:(0:Nat) ≤ sizeLine:=by decide
theorem s1:(1:Nat) ≤ sizeLine:=by decide
theorem s2:(2:Nat) ≤ sizeLine:=by decide
theorem q11:eqD (.str "must") (.str "must") = some true:=by decide +kernel
theorem q12:eqD (.str "must") (.str "may") = some false:=by decide +kernel
theorem q21:eqD (.str "may") (.str "must") = some false:=by decide +kernel
theorem q22:eqD (.str "may") (.str "may") = some true:=by decide +kernel
theorem q31:eqD (.str "shut") (.str "must") = some false:=by decide +kernel
theorem q32:eqD (.str "shut") (.str "may") = some false:=by decide +kernel
theorem q33:eqD (.str "shut") (.str "shut") = some true:=by decide +kernel
theorem q41:eqD (.str "torn") (.str "must") = some false:=by decide +kernel
theorem q42:eqD (.str "torn") (.str "may") = some false:=by decide +kernel
theorem q43:eqD (.str "torn") (.str "shut") = some false:=by decide +kernel
theorem q44:eqD (.str "torn") (.str "torn") = some true:=by decide +kernel
theorem n1:inD (.str "must") (.tup [.str "must",.str "torn"]) = some true:=by decide +kernel
theorem n2:inD (.str "may") (.tup [.str "must",.str "torn"]) = some false:=by decide +kernel
theorem n3:inD (.str "shut") (.tup [.str "must",.str "torn"]) = some false:=by decide +kernel
theorem n4:inD (.str "torn") (.tup [.str "must",.str "torn"]) = some true:=by decide +kernel
theorem m1:inD (.str "must") (.tup [.str "must",.str "may"]) = some true:=by decide +kernel
theorem m2:inD (.str "may") (.tup [.str "must",.str "may"]) = some true:=by decide +kernel
theorem m3:inD (.str "shut") (.tup [.str "must",.str "may"]) = some false:=by decide +kernel
theorem m4:inD (.str "torn") (.tup [.str "must",.str "may"]) = some false:=by decide +kernel
theorem p1:inD (.str "must") (.tup [.str "must",.str "shut"]) = some true:=by decide +kernel
theorem p2:inD (.str "may") (.tup [.str "must",.str "shut"]) = some false:=by decide +kernel
theorem p3:inD (.str "shut") (.tup [.str "must",.str "shut"]) = some true:=by decide +kernel
theorem p4:inD (.str "torn") (.tup [.str "must",.str "shut"]) = some false:=by decide +kernel
theorem ok_must:PyData.strOk "must" = true:=by decide +kernel
theorem ok_may:PyData.strOk "may" = true:=by decide +kernel
theorem ok_shut:PyData.strOk "shut" = true:=by decide +kernel
theorem ok_torn:PyData.strOk "torn" = true:=by decide +kernel
theorem Nb (n many:Nat) (h:n < many):j0 [.int n,.int many] = .ok (.bl true):=by
  unfold j0 Ie
  have h1:(n:Int) < (many:Int):=by omega
  have h0:(0:Int) ≤ (n:Int):=by omega
  walk_at "ev: Aq jH oR h0 h1"
theorem sS (x:Dr) (many:Nat) (t:Bool) (h:x.ok many t):aN [x.d,.int many,.bl t] = .ok (.bl true):=by
  unfold aN rJ Dr.d
  cases x with
  | must n=>simp only [dR,jF,m9,bA,eN,vK,jE,kh,pN,sIf,bU,xO,GC,vJ,sExt,sClr,VD,sPut,yh,sAsg,gv,gb,gvo,slD,o1,o2,o2b,o3,oC,oF,oM,oMk,Qh,vC,bV,Er,orT,xM,tst,Es,orV,notV,ifV,az,aj,aX,bF,Ey,jZ,vp,Vy,kc,Dt,Bg,frz,frzS,bY,Af,Ba,Av,vg,Ar,Ah,Ju,U3,Iz,IK,IV,Vs,Vt,Vu,Ik,Ij,U4,U5,U6,U7,U8,U9,Va,Vb,Vc,Vd,Hr,Hs,Dn,Do,HY,Jb,HX,Ja,Ib,Jc,isND,Vz,wV,gN,pY,cN,gT,Out.aJ,Out.v7,Out.m5,Out.gw,Out.vD,Out.t8,Jd,List.map_cons,List.map_nil,List.length_cons,List.length_nil,List.append_assoc,List.nil_append,List.cons_append,List.getElem?_cons_zero,List.getElem?_cons_succ,List.getElem?_nil,List.set_cons_zero,List.set_cons_succ,Nat.zero_add,Nat.reduceAdd,Nat.reduceSub,List.replicate_succ,List.replicate_zero,List.lookup_cons,List.lookup_nil,Option.some.injEq,Option.bind_some,Option.map_some,Nat.reduceBEq,Nat.reduceEqDiff,Int.reduceLT,Int.reduceLE,Int.reduceNeg,Int.reduceAdd,Int.reduceMul,Int.reduceSub,Nat.reduceLeDiff,reduceIte,if_t,if_f,ite_true,decide_true,decide_false,Bool.not_true,Bool.not_false,Nat.reduceEqDiff,Bool.false_eq_true,Option.isNone_none,Option.isNone_some,Ax,String.reduceBEq,String.reduceEq,beq_self_eq_true,List.contains_cons,List.contains_nil,Bool.or_false,Bool.or_true,Bool.true_or,Bool.false_or,Bool.and_true,Bool.and_false,Bool.true_and,Bool.false_and,Bool.not_eq_true,eq_self_iff_true,Int.cast_ofNat_Int,Int.reduceBEq,Int.natCast_zero,jh,jQ,oR,Dr.w,Dr.to,q11,Nb n many h]
  | may n=>simp only [dR,jF,m9,bA,eN,vK,jE,kh,pN,sIf,bU,xO,GC,vJ,sExt,sClr,VD,sPut,yh,sAsg,gv,gb,gvo,slD,o1,o2,o2b,o3,oC,oF,oM,oMk,Qh,vC,bV,Er,orT,xM,tst,Es,orV,notV,ifV,az,aj,aX,bF,Ey,jZ,vp,Vy,kc,Dt,Bg,frz,frzS,bY,Af,Ba,Av,vg,Ar,Ah,Ju,U3,Iz,IK,IV,Vs,Vt,Vu,Ik,Ij,U4,U5,U6,U7,U8,U9,Va,Vb,Vc,Vd,Hr,Hs,Dn,Do,HY,Jb,HX,Ja,Ib,Jc,isND,Vz,wV,gN,pY,cN,gT,Out.aJ,Out.v7,Out.m5,Out.gw,Out.vD,Out.t8,Jd,List.map_cons,List.map_nil,List.length_cons,List.length_nil,List.append_assoc,List.nil_append,List.cons_append,List.getElem?_cons_zero,List.getElem?_cons_succ,List.getElem?_nil,List.set_cons_zero,List.set_cons_succ,Nat.zero_add,Nat.reduceAdd,Nat.reduceSub,List.replicate_succ,List.replicate_zero,List.lookup_cons,List.lookup_nil,Option.some.injEq,Option.bind_some,Option.map_some,Nat.reduceBEq,Nat.reduceEqDiff,Int.reduceLT,Int.reduceLE,Int.reduceNeg,Int.reduceAdd,Int.reduceMul,Int.reduceSub,Nat.reduceLeDiff,reduceIte,if_t,if_f,ite_true,decide_true,decide_false,Bool.not_true,Bool.not_false,Nat.reduceEqDiff,Bool.false_eq_true,Option.isNone_none,Option.isNone_some,Ax,String.reduceBEq,String.reduceEq,beq_self_eq_true,List.contains_cons,List.contains_nil,Bool.or_false,Bool.or_true,Bool.true_or,Bool.false_or,Bool.and_true,Bool.and_false,Bool.true_and,Bool.false_and,Bool.not_eq_true,eq_self_iff_true,Int.cast_ofNat_Int,Int.reduceBEq,Int.natCast_zero,jh,jQ,oR,Dr.w,Dr.to,q21,q22,Nb n many h]
  | shut=>walk_at "ev: jh jQ oR Dr.w Dr.to q31 q32 q33"
  | torn =>
    obtain rfl:t = true:=h
    walk_at "ev: jh jQ oR Dr.w Dr.to q41 q42 q43 q44"
theorem acJ (n a:Bool) (to:D):qw [.bl n,.bl a,to] = .ok (match n,a with | true,true=>.obj qX [("to",to)] | false,true=>.obj Cy [("to",to)] | true,false=>.obj pU [("to",.non)] | false,false=>.obj pR [("to",.non)]):=by
  unfold qw Vo
  cases n <;> cases a <;> walk_at "ev: yw UJ Cu yx" <;> rfl
theorem F_made (x:Dr):iG [x.d] = .ok x.ob:=by
  unfold iG Kg Dr.d
  cases x <;> walk_at "ev: Dr.w Dr.to Dr.ob s2 n1 n2 n3 n4 m1 m2 m3 m4 acJ"
theorem F_told' (x:Dr):iD [x.ob] = .ok x.d:=by
  unfold iD J9
  cases x <;> walk_at "ev: Dr.d Dr.w Dr.to Dr.ob s2 qX Cy pR pU GR yq Kc Cq Pj yr Kd yt Ke"
theorem M_told' (x:Dr) (δ:DSt) (fo:DSt→Out D) (h:fo δ = .ok x.ob):oM "told" 1 z8 fo az δ = .ok x.d:=by
  have e:=F_told' x
  cases x <;> · unfold Dr.ob at e h; simp only [dR,jF,m9,bA,eN,vK,jE,kh,pN,sIf,bU,xO,GC,vJ,sExt,sClr,VD,sPut,yh,sAsg,gv,gb,gvo,slD,o1,o2,o2b,o3,oC,oF,oM,oMk,Qh,vC,bV,Er,orT,xM,tst,Es,orV,notV,ifV,az,aj,aX,bF,Ey,jZ,vp,Vy,kc,Dt,Bg,frz,frzS,bY,Af,Ba,Av,vg,Ar,Ah,Ju,U3,Iz,IK,IV,Vs,Vt,Vu,Ik,Ij,U4,U5,U6,U7,U8,U9,Va,Vb,Vc,Vd,Hr,Hs,Dn,Do,HY,Jb,HX,Ja,Ib,Jc,isND,Vz,wV,gN,pY,cN,gT,Out.aJ,Out.v7,Out.m5,Out.gw,Out.vD,Out.t8,Jd,List.map_cons,List.map_nil,List.length_cons,List.length_nil,List.append_assoc,List.nil_append,List.cons_append,List.getElem?_cons_zero,List.getElem?_cons_succ,List.getElem?_nil,List.set_cons_zero,List.set_cons_succ,Nat.zero_add,Nat.reduceAdd,Nat.reduceSub,List.replicate_succ,List.replicate_zero,List.lookup_cons,List.lookup_nil,Option.some.injEq,Option.bind_some,Option.map_some,Nat.reduceBEq,Nat.reduceEqDiff,Int.reduceLT,Int.reduceLE,Int.reduceNeg,Int.reduceAdd,Int.reduceMul,Int.reduceSub,Nat.reduceLeDiff,reduceIte,if_t,if_f,ite_true,decide_true,decide_false,Bool.not_true,Bool.not_false,Nat.reduceEqDiff,Bool.false_eq_true,Option.isNone_none,Option.isNone_some,Ax,String.reduceBEq,String.reduceEq,beq_self_eq_true,List.contains_cons,List.contains_nil,Bool.or_false,Bool.or_true,Bool.true_or,Bool.false_or,Bool.and_true,Bool.and_false,Bool.true_and,Bool.false_and,Bool.not_eq_true,eq_self_iff_true,Int.cast_ofNat_Int,Int.reduceBEq,Int.natCast_zero,h,z8,qX,Cy,pR,pU] at e ⊢; exact e
theorem V1 (r:List Dr) (h:r.length ≤ 100):iI [.lst (r.map Dr.d)] = .ok (.tup (r.map Dr.ob)):=by
  unfold iI Kh
  have e:=jc (cap:=[none]) (fi:=jZ (gv 0)) (fe:=uK) (δ:=[some (.sh (.lst (r.map Dr.d)))]) Dr.d Dr.ob r rfl (by omega) (fun x _=>by
    unfold uK
    show (oF 1 iG (aj (gv 0) az) [some (.sh x.d)]) = _
    simp only [dR,jF,m9,bA,eN,vK,jE,kh,pN,sIf,bU,xO,GC,vJ,sExt,sClr,VD,sPut,yh,sAsg,gv,gb,gvo,slD,o1,o2,o2b,o3,oC,oF,oM,oMk,Qh,vC,bV,Er,orT,xM,tst,Es,orV,notV,ifV,az,aj,aX,bF,Ey,jZ,vp,Vy,kc,Dt,Bg,frz,frzS,bY,Af,Ba,Av,vg,Ar,Ah,Ju,U3,Iz,IK,IV,Vs,Vt,Vu,Ik,Ij,U4,U5,U6,U7,U8,U9,Va,Vb,Vc,Vd,Hr,Hs,Dn,Do,HY,Jb,HX,Ja,Ib,Jc,isND,Vz,wV,gN,pY,cN,gT,Out.aJ,Out.v7,Out.m5,Out.gw,Out.vD,Out.t8,Jd,List.map_cons,List.map_nil,List.length_cons,List.length_nil,List.append_assoc,List.nil_append,List.cons_append,List.getElem?_cons_zero,List.getElem?_cons_succ,List.getElem?_nil,List.set_cons_zero,List.set_cons_succ,Nat.zero_add,Nat.reduceAdd,Nat.reduceSub,List.replicate_succ,List.replicate_zero,List.lookup_cons,List.lookup_nil,Option.some.injEq,Option.bind_some,Option.map_some,Nat.reduceBEq,Nat.reduceEqDiff,Int.reduceLT,Int.reduceLE,Int.reduceNeg,Int.reduceAdd,Int.reduceMul,Int.reduceSub,Nat.reduceLeDiff,reduceIte,if_t,if_f,ite_true,decide_true,decide_false,Bool.not_true,Bool.not_false,Nat.reduceEqDiff,Bool.false_eq_true,Option.isNone_none,Option.isNone_some,Ax,String.reduceBEq,String.reduceEq,beq_self_eq_true,List.contains_cons,List.contains_nil,Bool.or_false,Bool.or_true,Bool.true_or,Bool.false_or,Bool.and_true,Bool.and_false,Bool.true_and,Bool.false_and,Bool.not_eq_true,eq_self_iff_true,Int.cast_ofNat_Int,Int.reduceBEq,Int.natCast_zero,F_made x])
  walk_at "ev: e nU"
theorem V2 (r:List Dr) (h:r.length ≤ 100):iJ [.tup (r.map Dr.ob)] = .ok (r.map Dr.d):=by
  unfold iJ Kl runL sRetf
  have e:=jc (cap:=[none]) (fi:=jZ (gv 0)) (fe:=uL) (δ:=[some (.sh (.tup (r.map Dr.ob)))]) Dr.ob Dr.d r rfl (by omega) (fun x _=>by
    unfold uL
    exact M_told' x _ _ rfl)
  walk_at "ev: e endF"
def bG (rows:List (List Dr)):D:=.lst (rows.map fun r=>.lst (r.map Dr.d))
def QH (rows:List (List Dr)):D:=.tup (rows.map fun r=>.tup (r.map Dr.ob))
structure Rows (many acts:Nat) (t:Bool) (rows:List (List Dr)):Prop where
  n:rows.length = many
  row:∀ r ∈ rows,r.length = acts∧∀ x ∈ r,x.ok many t
theorem FT {α:Type} (g:α→D):∀ (xs:List α) (k:Nat),tG k (xs.map g) = (List.zipIdx xs k).map fun p=>D.tup [.int p.2,g p.1]
  | [],_=>rfl
  | x :: xs,k=>by rw [List.map_cons,List.zipIdx_cons,List.map_cons,← FT g xs (k + 1)]; rfl
theorem F_rows (many acts:Nat) (t:Bool) (rows:List (List Dr)) (R:Rows many acts t rows) (h1:1 ≤ many) (h2:many ≤ 2000) (h3:acts ≤ 8):bh [bG rows,.int acts,.bl t] = .ok .non:=by
  unfold bh my bG
  have hn:=R.n
  have a1:(1:Int) ≤ (rows.length:Int):=by omega
  have a2:(rows.length:Int) ≤ 2000:=by omega
  walk_at "ev: bQ oR List.length_map a1 a2 enum vo FT"
  have step:∀ (p:List Dr × Nat) (done:List (List Dr × Nat)) (δ:DSt),(∃ a b c d:Option Sl,δ = [some (.sh (bG rows)),some (.sh (.int acts)),some (.sh (.bl t)),a,b,c,d])→p ∈ rows.zipIdx →
      ∃ δ1,gT 2 (cN (gN 3) (cN (gN 4) pY)) (D.tup [.int p.2,.lst (p.1.map Dr.d)]) δ = some δ1∧nxP (bN δ1) fun δ=>∃ a b c d:Option Sl,δ = [some (.sh (bG rows)),some (.sh (.int acts)),some (.sh (.bl t)),a,b,c,d]:=by
    rintro ⟨r,i⟩ done δ ⟨a,b,c,d,rfl⟩ hp
    refine ⟨_,rfl,?_⟩
    have hr:=R.row r (List.fst_mem_of_mem_zipIdx hp)
    have hl:(r.length:Int) = (acts:Int):=by rw [hr.1]
    have step2:∀ (p:Dr × Nat) (done:List (Dr × Nat)) (δ:DSt),(∃ a b:Option Sl,δ = [some (.sh (bG rows)),some (.sh (.int acts)),some (.sh (.bl t)),some (.sh (.int i)),some (.sh (.lst (r.map Dr.d))),a,b])→p ∈ r.zipIdx →
        ∃ δ1,gT 2 (cN (gN 5) (cN (gN 6) pY)) (D.tup [.int p.2,p.1.d]) δ = some δ1∧nxP (cI δ1) fun δ=>∃ a b:Option Sl,δ = [some (.sh (bG rows)),some (.sh (.int acts)),some (.sh (.bl t)),some (.sh (.int i)),some (.sh (.lst (r.map Dr.d))),a,b]:=by
      rintro ⟨x,j⟩ done δ ⟨a,b,rfl⟩ hq
      refine ⟨_,rfl,?_⟩
      have e:=sS x many t (hr.2 x (List.fst_mem_of_mem_zipIdx hq))
      unfold cI
      unfold bG
      walk_at "ev: List.length_map hn e"
      exact ⟨_,_,rfl⟩
    obtain ⟨δ',e1,i1⟩:=Gd (fun p:Dr × Nat=>D.tup [.int p.2,p.1.d]) (fun _ δ=>∃ a b:Option Sl,δ = [some (.sh (bG rows)),some (.sh (.int acts)),some (.sh (.bl t)),some (.sh (.int i)),some (.sh (.lst (r.map Dr.d))),a,b]) r.zipIdx [] [some (.sh (bG rows)),some (.sh (.int acts)),some (.sh (.bl t)),some (.sh (.int i)),some (.sh (.lst (r.map Dr.d))),c,d] step2 ⟨_,_,rfl⟩
    unfold bN
    walk_at "ev: bQ oR List.length_map hl enum vo FT e1"
    obtain ⟨a,b,rfl⟩:=i1
    exact ⟨_,_,_,_,rfl⟩
  obtain ⟨δ',e1,i1⟩:=Gd (fun p:List Dr × Nat=>D.tup [.int p.2,.lst (p.1.map Dr.d)]) (fun _ δ=>∃ a b c d:Option Sl,δ = [some (.sh (bG rows)),some (.sh (.int acts)),some (.sh (.bl t)),a,b,c,d]) rows.zipIdx [] [some (.sh (bG rows)),some (.sh (.int acts)),some (.sh (.bl t)),none,none,none,none] step ⟨_,_,_,_,rfl⟩
  unfold bG at e1
  walk_at "ev: e1"
def NameL (l:List Nat):Prop:=1 ≤ l.length∧l.length ≤ 8∧∀ c ∈ l,97 ≤ c∧c < 123
theorem acL (l:List Nat) (h:NameL l):cL [.str (ofL l)] = .ok (.bl true):=by
  unfold cL Vp
  have a1:(1:Int) ≤ (l.length:Int):=by have:=h.1; omega
  have a2:(l.length:Int) ≤ 8:=by have:=h.2.1; omega
  have a3:l.length ≤ sizeLine:=Nat.le_trans h.2.1 (by decide)
  have e:=jc (cap:=[none]) (fi:=strO (gv 0)) (fe:=zP) (δ:=[some (.sh (.str (ofL l)))]) (fun c=>D.str (ofL [c])) (fun _=>D.bl true) l rfl (by have:=h.2.1; omega) (fun c hc=>by
    unfold zP
    have e:=abc_in (h.2.2 c hc).1 (h.2.2 c hc).2
    show bV (o2b inD (gb 0) (kc (.str "abcdefghijklmnopqrstuvwxyz"))) [some (.sh (.str (ofL [c])))] = _
    walk_at "ev: e")
  have e2:=En (fun _:Nat=>true) l
  walk_at "ev: jQ oR d9 qp a1 a2 a3 e e2"
  simp
def aH (ns:List (List Nat)):List D:=ns.map fun l=>.str (ofL l)
structure Names (ns:List (List Nat)):Prop where
  ok:∀ l ∈ ns,NameL l
  lo:1 ≤ ns.length
  hi:ns.length ≤ 8
  nd:ns.Nodup
theorem F_acts (ns:List (List Nat)) (N:Names ns):cZ [.lst (aH ns)] = .ok .non:=by
  unfold cZ rK bc fW
  have h1:=N.lo
  have h2:=N.hi
  have a1:(1:Int) ≤ (ns.length:Int):=by omega
  have a2:(ns.length:Int) ≤ 8:=by omega
  have e:=jc (cap:=[none]) (fi:=jZ (gv 0)) (fe:=cA) (δ:=[some (.sh (.lst (aH ns)))]) (fun l=>D.str (ofL l)) (fun _=>D.bl true) ns rfl (by omega) (fun l hl=>by
    unfold cA
    have e:=acL l (N.ok l hl)
    show oF 1 cL (aj (gv 0) az) [some (.sh (.str (ofL l)))] = _
    walk_at "ev: e")
  have e2:=En (fun _:List Nat=>true) ns
  have e3:ns.all (fun _=>true) = true:=by simp
  have e4:Dk (.lst (aH ns)) = some (.int ns.length):=by
    unfold Dk
    have q:aH ns = (ns.map ofL).map D.str:=by unfold aH; simp
    simp only [vo,Option.bind_some,q,Jt]
    rw [if_pos (by rw [List.length_map]; omega),Dp _ _ (by
      simp only [List.nil_append]
      exact List.pairwise_map.mpr (N.nd.imp fun h q=>h (afh q)))]
    simp
  have e5:(aH ns).length = ns.length:=by simp [aH]
  walk_at "ev: bQ oR e5 a1 a2 e e2 e3 e4"
def plan (c:Nat) (ns:List (List Nat)) (rows:List (List Dr)):D:=.obj c [("actions",.tup (aH ns)),("rooms",QH rows)]
theorem F_init (t:Bool) (many:Nat) (ns:List (List Nat)) (rows:List (List Dr)) (N:Names ns) (R:Rows many ns.length t rows) (h1:1 ≤ many) (h2:many ≤ 60):yg t [.lst (aH ns),bG rows] = .ok [("actions",.tup (aH ns)),("rooms",QH rows)]:=by
  have e5:(aH ns).length = ns.length:=by simp [aH]
  have e1:=F_acts ns N
  have e2:=F_rows many ns.length t rows R h1 (by omega) N.hi
  have hn:=R.n
  have e3:=jc (cap:=[none]) (fi:=jZ (gv 2)) (fe:=rW) (δ:=[none,some (.sh (.lst (aH ns))),some (.sh (bG rows))]) (fun r:List Dr=>D.lst (r.map Dr.d)) (fun r=>D.tup (r.map Dr.ob)) rows rfl (by omega) (fun r hr=>by
    unfold rW
    have h8:=N.hi
    have e:=V1 r (by rw [(R.row r hr).1]; omega)
    show oF 1 iI (aj (gv 0) az) [some (.sh (.lst (r.map Dr.d)))] = _
    walk_at "ev: e")
  unfold yg Aj FZ MT M3
  walk_at "ev: e1 e2 e5 e3 nU QH"
end K2
namespace K2
open PySem L2 MX DL
structure Pl (c many:Nat) (t:Bool) (ns:List (List Nat)) (rows:List (List Dr)):Prop where
  c:c = fJ ∨ c = j4
  N:Names ns
  R:Rows many ns.length t rows
  lo:1 ≤ many
  hi:many ≤ 60
section
variable {c many:Nat} {t:Bool} {ns:List (List Nat)} {rows:List (List Dr)} {δ:DSt} {fo:DSt→Out D}
theorem F_told_p (P:Pl c many t ns rows):lE [plan c ns rows] = .ok (rows.map fun r=>r.map Dr.d):=by
  have hn:=P.R.n
  have h8:=P.N.hi
  have h60:=P.hi
  have f:(Qh "rooms" [fJ,j4] (gv 0)) [some (.sh (plan c ns rows))] = .ok (QH rows):=by
    unfold plan
    rcases P.c with rfl | rfl <;> walk_at "ev: fJ j4"
  have e:=jc (cap:=[none]) (fi:=jZ (Qh "rooms" [fJ,j4] (gv 0))) (fe:=rY) (δ:=[some (.sh (plan c ns rows))]) (fun r:List Dr=>D.tup (r.map Dr.ob)) (fun r=>r.map Dr.d) rows (by
      unfold jZ; rw [f]; rfl) (by omega) (fun r hr=>by
    unfold rY
    have e:=V2 r (by rw [(P.R.row r hr).1]; omega)
    show oFl 1 iJ (aj (gv 0) az) [some (.sh (.tup (r.map Dr.ob)))] = _
    walk_at "ev: e oFl")
  unfold lE Ge runLL aeu
  walk_at "ev: e endFF"
theorem Hd (P:Pl c many t ns rows) (h:fo δ = .ok (plan c ns rows)):oM "told" 1 (QZ gW) fo az δ = .ok (bG rows):=by
  have e:=F_told_p P
  unfold plan at h e
  have m:∀ l:List (List Dr),List.map D.lst (l.map fun r=>r.map Dr.d) = l.map fun r=>D.lst (r.map Dr.d):=fun l=>by simp
  rcases P.c with rfl | rfl <;> · simp only [fJ,j4] at h e; walk_at "ev: h QZ dOff gW fJ j4 e bG m"
end
theorem Iw {α:Type} (n:Nat) (f:α→D):∀ xs:List α,(∀ x ∈ xs,gK n (f x) = true)→t6 n (xs.map f) = true
  | [],_=>by simp [t6]
  | x :: xs,h=>by
    rw [List.map_cons]
    simp only [t6,Bool.and_eq_true]
    exact ⟨h x List.mem_cons_self,Iw n f xs fun y hy=>h y (List.mem_cons_of_mem _ hy)⟩
theorem lay_d (x:Dr) (n:Nat):gK (n + 1) x.d = true:=by
  cases x <;> simp [Dr.d,Dr.w,Dr.to,gK,t6,ok_must,ok_may,ok_shut,ok_torn]
theorem abW (rows:List (List Dr)):gK 50 (bG rows) = true:=by
  show t6 49 _ = true
  exact Iw 49 _ _ fun r _=>by
    show t6 48 _ = true
    exact Iw 48 _ _ fun x _=>lay_d x 47
section
variable {c many:Nat} {t:Bool} {ns:List (List Nat)} {rows:List (List Dr)} {δ:DSt} {fo:DSt→Out D}
end
def eF (c k:Int):Int :=
  let n:=(c % 2147483647 * 48271 + k * 7919 + 104729) % 2147483647
  let n:=(n * n % 2147483629 * 16807 + k * 104729 + 11) % 2147483587
  n * n % 2147483549
theorem afd (c k:Int):0 ≤ eF c k:=by unfold eF; exact Int.emod_nonneg _ (by decide)
theorem jb (c k:Int) (h0:0 ≤ k) (h1:k ≤ 1000000):aO [.int c,.int k] = .ok (.int (eF c k)):=by
  unfold aO Gf
  have m1:∀ a b:Int,Bb (a % 2147483647) b:=fun a b=>modb a b (by decide) (by decide)
  have m2:∀ a b:Int,Bb (a % 2147483629) b:=fun a b=>modb a b (by decide) (by decide)
  have m3:∀ a b:Int,Bb (a % 2147483587) b:=fun a b=>modb a b (by decide) (by decide)
  have mk:∀ b:Int,Bb k b:=fun b=>aeW (by omega) (by omega)
  walk_at "ev: m1 m2 m3 mk"
  rfl
theorem F_cell (ns:List Int) (k:Nat):cX [.rol (ns.map .int),.int k] = .ok (.int (ns.getD k 0)):=by
  unfold cX zq
  walk_at "ev: List.length_map"
  by_cases h:k < ns.length
  · have h':(k:Int) < (ns.length:Int):=by omega
    have e:atI (ns.map D.int) (k:Int) = some (.int ns[k]):=iz (by simp [h])
    walk_at "ev: h' e"
    simp [h]
  · have h':¬ (k:Int) < (ns.length:Int):=by omega
    walk_at "ev: h'"
    simp [h]
theorem jm (x:Int) {m:Nat} (h:1 ≤ m):∃ n:Nat,x % (m:Int) = (n:Int)∧n < m:=by
  have h1:=Int.emod_nonneg x (show (m:Int) ≠ 0 by omega)
  have h2:=Int.emod_lt_of_pos x (show (0:Int) < m by omega)
  exact ⟨(x % (m:Int)).toNat,by omega,by omega⟩
def dr (x:Int) (many:Nat):Dr:=if x % 5 = 4 then .shut else if x % 2 = 0 then .must (x / 5 % (many:Int)).toNat else .may (x / 5 % (many:Int)).toNat
theorem dr_ok (x:Int) {many:Nat} (h:1 ≤ many):(dr x many).ok many false:=by
  have h1:=Int.emod_nonneg (x / 5) (show (many:Int) ≠ 0 by omega)
  have h2:=Int.emod_lt_of_pos (x / 5) (show (0:Int) < many by omega)
  unfold dr
  split
  · trivial
  · split
    · show _ < many; omega
    · show _ < many; omega
theorem F_door (x:Int) (many:Nat) (h:1 ≤ many):gM [.int x,.int many] = .ok (dr x many).d:=by
  unfold gM Kf
  have m0:(0:Int) < (many:Int):=by omega
  have c5:CDiv x 5:=aeU (by decide) (by decide)
  have h1:=Int.emod_nonneg (x / 5) (show (many:Int) ≠ 0 by omega)
  by_cases q:x % 5 = 4
  · have q':(x % 5 == 4) = true:=by simp [q]
    walk_at "ev: q' s2 dr q Dr.d Dr.w Dr.to"
  · have q':(x % 5 == 4) = false:=by simp [q]
    have z:x % 2 = 0 ∨ x % 2 = 1:=by omega
    have t0:(((x / 5 % (many:Int)).toNat:Nat):Int) = x / 5 % (many:Int):=by omega
    rcases z with z | z
    · walk_at "ev: q' s2 dr q z Dr.d Dr.w Dr.to c5 m0 t0"
    · have z':¬ ((1:Int) = 0):=by decide
      walk_at "ev: q' s2 dr q z z' Dr.d Dr.w Dr.to c5 m0 t0"
theorem wW {n j:Nat} (h:j < n):ixN n (j:Int) = some j:=by
  unfold ixN
  rw [if_pos (by omega),if_pos (by omega)]
  simp
def stM (cell:Int) (many acts:Nat) (cs:List Int) (s:Sl) (x y:Option Sl):DSt:=[some (.sh (.int cell)),some (.sh (.int many)),some (.sh (.int acts)),some (.sh (.lst (cs.map .int))),some s,x,y]
def rowOf (cell:Int) (many acts i:Nat):List Dr:=(List.range acts).map fun k:Nat=>dr (eF cell (40 + 8 * (i:Int) + (k:Int))) many
theorem afQ {cell:Int} {many acts i:Nat} {cs:List Int} (h1:1 ≤ many) (h2:acts ≤ 8) (hi:i < 60) (s:Sl) (y:Option Sl):jJ [none,some 1,some 0,some 5] (Gz (gv 2)) (gN 0) (fun _=>.ok true) mH (stM cell many acts cs s (some (.sh (.int i))) y) = .ok ((rowOf cell many acts i).map Dr.d):=by
  have er:=vI (f:=gv 2) (δ:=stM cell many acts cs s (some (.sh (.int i))) y) (n:=acts) rfl (by omega)
  have e:=jc (cap:=[none,some 1,some 0,some 5]) (fe:=mH) (fun k:Nat=>D.int k) (fun k:Nat=>(dr (eF cell (40 + 8 * (i:Int) + (k:Int))) many).d) (List.range acts) er (by simp; omega) (fun k hk=>by
    have hk:k < acts:=List.mem_range.mp hk
    have e1:=jb cell (40 + 8 * (i:Int) + (k:Int)) (by omega) (by omega)
    have e2:=F_door (eF cell (40 + 8 * (i:Int) + (k:Int))) many h1
    have c8:∀ b:Int,Bb 8 b:=fun b=>aeW (by decide) (by decide)
    unfold mH
    show oF 2 gM (aj (oF 2 aO (aj (gv 2) (aj (o2 dF (o2 dF (kc (.int 40)) (o2 Lw (kc (.int 8)) (gv 3))) (gv 0)) az))) (aj (gv 1) az)) [some (.sh (.int k)),some (.sh (.int many)),some (.sh (.int cell)),some (.sh (.int i))] = _
    walk_at "ev: c8 e1 e2")
  rw [e]
  unfold rowOf
  simp only [List.map_map]
  rfl
theorem afx {f:DSt→Out (List D)} {cell:Int} {many acts:Nat} {cs:List Int} {dss:List (List D)} {x y:Option Sl} {d:List D} (hl:dss.length ≤ 100) (h:f (stM cell many acts cs (.oll dss) x y) = .ok d):vJ 4 f (stM cell many acts cs (.oll dss) x y) = .ok (.nx (stM cell many acts cs (.oll (dss ++ [d])) x y)):=by
  have s:dss.length < sizeLine:=Nat.lt_of_le_of_lt hl (by decide)
  unfold vJ
  show (f (stM cell many acts cs (.oll dss) x y)).bind _ = _
  rw [h]
  simp only [Out.aJ]
  rw [if_pos s]
  rfl
theorem ac6 {f:DSt→Out (List D)} {cell:Int} {many acts:Nat} {cs:List Int} {x y:Option Sl} {d:List D} (h:f (stM cell many acts cs (.ol []) x y) = .ok d):vJ 4 f (stM cell many acts cs (.ol []) x y) = .ok (.nx (stM cell many acts cs (.oll [d]) x y)):=by
  unfold vJ
  show (f (stM cell many acts cs (.ol []) x y)).bind _ = _
  rw [h]
  rfl
def Jr (rows:List (List Dr)):Sl:=.oll (rows.map fun r=>r.map Dr.d)
theorem rooms1 {cell:Int} {many acts:Nat} {cs:List Int} (h1:1 ≤ many) (h60:many ≤ 60) (h2:acts ≤ 8):∃ x,xO (Gz (gv 1)) (gN 5) mD (stM cell many acts cs (.ol []) none none) = .ok (.nx (stM cell many acts cs (Jr ((List.range many).map (rowOf cell many acts))) x none)):=by
  have hh:=Pa (body:=mD) (tg:=gN 5) (fun k:Nat=>D.int k) (fun done δ=>∃ x:Option Sl,δ = stM cell many acts cs (if done = [] then .ol [] else Jr (done.map (rowOf cell many acts))) x none) (List.range many) (stM cell many acts cs (.ol []) none none) (by
    rintro i done rest δ ek ⟨x,rfl⟩
    have hi:i < many:=List.mem_range.mp (by rw [ek]; simp)
    have hd:done.length < many:=by
      have:=congrArg List.length ek
      simp at this
      omega
    have e:=afQ (cell:=cell) (many:=many) (acts:=acts) (i:=i) (cs:=cs) h1 h2 (by omega) (if done = [] then .ol [] else Jr (done.map (rowOf cell many acts))) none
    refine ⟨stM cell many acts cs (if done = [] then .ol [] else Jr (done.map (rowOf cell many acts))) (some (.sh (.int i))) none,rfl,?_⟩
    unfold mD
    by_cases q:done = []
    · subst q
      simp only [if_true] at e ⊢
      rw [ac6 e]
      exact ⟨_,rfl⟩
    · rw [if_neg q] at e ⊢
      unfold Jr at e ⊢
      rw [afx (by simp; omega) e]
      refine ⟨some (.sh (.int i)),?_⟩
      rw [if_neg (by simp),List.map_append,List.map_append]
      rfl) ⟨none,rfl⟩
  obtain ⟨δ',e,x,rfl⟩:=hh
  have er:=vI (f:=gv 1) (δ:=stM cell many acts cs (.ol []) none none) (n:=many) rfl (by omega)
  refine ⟨x,?_⟩
  unfold xO
  rw [er]
  rw [if_neg (by intro z; have:=congrArg List.length z; simp at this; omega)] at e
  exact e
theorem Rows.set {many acts:Nat} {t:Bool} {rows:List (List Dr)} (R:Rows many acts t rows) {j k:Nat} (hj:j < many) {x:Dr} (hx:x.ok many t):Rows many acts t (rows.set j ((rows.getD j []).set k x)):=by
  have hj':j < rows.length:=by rw [R.n]; exact hj
  have hg:rows.getD j [] = rows[j]:=by simp [hj']
  rw [hg]
  refine ⟨by simp [R.n],fun r hr=>?_⟩
  rcases List.mem_or_eq_of_mem_set hr with h | h
  · exact R.row r h
  · subst h
    have h0:=R.row rows[j] (List.getElem_mem hj')
    refine ⟨by simp [h0.1],fun y hy=>?_⟩
    rcases List.mem_or_eq_of_mem_set hy with h | h
    · exact h0.2 y h
    · subst h; exact hx
theorem rooms2 {cell:Int} {many acts:Nat} {cs:List Int} (h1:1 ≤ many) (h60:many ≤ 60) (h2:acts ≤ 8) (h3:1 ≤ acts) {rows:List (List Dr)} (R:Rows many acts false rows) (x:Option Sl):∃ j9 y,xO (jZ (gv 3)) (gN 6) iV (stM cell many acts cs (Jr rows) x none) = .ok (.nx (stM cell many acts cs (Jr j9) x y))∧Rows many acts false j9:=by
  have hh:=Pa (body:=iV) (tg:=gN 6) (fun k:Int=>D.int k) (fun _ δ=>∃ j9 y,δ = stM cell many acts cs (Jr j9) x y∧Rows many acts false j9) cs (stM cell many acts cs (Jr rows) x none) (by
    rintro z done rest δ ek ⟨j9,y,rfl,R'⟩
    obtain ⟨j,ej,hj⟩:=jm z h1
    obtain ⟨k,ek,hk⟩:=jm (z / (many:Int)) h3
    have m0:(0:Int) < (many:Int):=by omega
    have a0:(0:Int) < (acts:Int):=by omega
    have c5:CDiv z (many:Int):=aeU (by omega) (by omega)
    have e1:=jb z 7 (by decide) (by decide)
    have e2:=F_door (eF z 7) many h1
    have hl:(j9.map fun r=>r.map Dr.d).length = many:=by simp [R'.n]
    have hj':j < j9.length:=by rw [R'.n]; exact hj
    have hrow:=R'.row j9[j] (List.getElem_mem hj')
    have hg:(j9.map fun r=>r.map Dr.d).getD j [] = (j9[j]).map Dr.d:=by simp [hj']
    have hg':j9.getD j [] = j9[j]:=by simp [hj']
    have i1:ixN many (j:Int) = some j:=wW hj
    have i2:ixN acts (k:Int) = some k:=wW hk
    refine ⟨stM cell many acts cs (Jr j9) x (some (.sh (.int z))),rfl,?_⟩
    have e:iV (stM cell many acts cs (Jr j9) x (some (.sh (.int z)))) = .ok (.nx (stM cell many acts cs (Jr (j9.set j ((j9.getD j []).set k (dr (eF z 7) many)))) x (some (.sh (.int z))))):=by
      unfold iV stM Jr
      simp only [dR,jF,m9,bA,eN,vK,jE,kh,pN,sIf,bU,xO,GC,vJ,sExt,sClr,VD,sPut,yh,sAsg,gv,gb,gvo,slD,o1,o2,o2b,o3,oC,oF,oM,oMk,Qh,vC,bV,Er,orT,xM,tst,Es,orV,notV,ifV,az,aj,aX,bF,Ey,jZ,vp,Vy,kc,Dt,Bg,frz,frzS,bY,Af,Ba,Av,vg,Ar,Ah,Ju,U3,Iz,IK,IV,Vs,Vt,Vu,Ik,Ij,U4,U5,U6,U7,U8,U9,Va,Vb,Vc,Vd,Hr,Hs,Dn,Do,HY,Jb,HX,Ja,Ib,Jc,isND,Vz,wV,gN,pY,cN,gT,Out.aJ,Out.v7,Out.m5,Out.gw,Out.vD,Out.t8,Jd,List.map_cons,List.map_nil,List.length_cons,List.length_nil,List.append_assoc,List.nil_append,List.cons_append,List.getElem?_cons_zero,List.getElem?_cons_succ,List.getElem?_nil,List.set_cons_zero,List.set_cons_succ,Nat.zero_add,Nat.reduceAdd,Nat.reduceSub,List.replicate_succ,List.replicate_zero,List.lookup_cons,List.lookup_nil,Option.some.injEq,Option.bind_some,Option.map_some,Nat.reduceBEq,Nat.reduceEqDiff,Int.reduceLT,Int.reduceLE,Int.reduceNeg,Int.reduceAdd,Int.reduceMul,Int.reduceSub,Nat.reduceLeDiff,reduceIte,if_t,if_f,ite_true,decide_true,decide_false,Bool.not_true,Bool.not_false,Nat.reduceEqDiff,Bool.false_eq_true,Option.isNone_none,Option.isNone_some,Ax,String.reduceBEq,String.reduceEq,beq_self_eq_true,List.contains_cons,List.contains_nil,Bool.or_false,Bool.or_true,Bool.true_or,Bool.false_or,Bool.and_true,Bool.and_false,Bool.true_and,Bool.false_and,Bool.not_eq_true,eq_self_iff_true,Int.cast_ofNat_Int,Int.reduceBEq,Int.natCast_zero,e1,e2,m0,a0,c5,ej,ek,hl,i1,hg,List.length_map,hrow.1,i2]
      rw [hg',List.map_set,List.map_set]
    rw [e]
    exact ⟨_,_,rfl,R'.set hj (dr_ok _ h1)⟩) ⟨rows,none,rfl,R⟩
  obtain ⟨δ',e,j9,y,rfl,R'⟩:=hh
  exact ⟨j9,y,e,R'⟩
theorem F_rooms (cell:Int) (many acts:Nat) (cs:List Int) (h1:1 ≤ many) (h60:many ≤ 60) (h2:acts ≤ 8) (h3:1 ≤ acts):∃ rows,lG [.int cell,.int many,.int acts,.lst (cs.map .int)] = .ok (bG rows)∧Rows many acts false rows:=by
  have R0:Rows many acts false ((List.range many).map (rowOf cell many acts)):=by
    refine ⟨by simp,fun r hr=>?_⟩
    obtain ⟨i,_,rfl⟩:=List.mem_map.mp hr
    refine ⟨by simp [rowOf],fun x hx=>?_⟩
    obtain ⟨k,_,rfl⟩:=List.mem_map.mp hx
    exact dr_ok _ h1
  obtain ⟨x,e1⟩:=rooms1 (cell:=cell) (many:=many) (acts:=acts) (cs:=cs) h1 h60 h2
  obtain ⟨rows,y,e2,R⟩:=rooms2 (cell:=cell) (cs:=cs) h1 h60 h2 h3 R0 x
  refine ⟨rows,?_,R⟩
  show ((wU [some (.sh (.int cell)),some (.sh (.int many)),some (.sh (.int acts)),some (.sh (.lst (cs.map .int))),none,none,none]).bind m9).bL = _
  unfold wU
  refine aW (δ':=stM cell many acts cs (.ol []) none none) rfl ?_
  refine aW e1 ?_
  refine aW e2 ?_
  show Out.ok (D.lst ((rows.map fun r=>r.map Dr.d).map D.lst)) = _
  unfold bG
  simp
theorem aaw {A B:DSt→Out Fl} {δ δ':DSt} (h:A δ = .ok (.nx δ')):bA A B δ = B δ':=by
  unfold bA
  rw [h]
  rfl
theorem app_ol {f:DSt→Out D} {i:Nat} {δ δ':DSt} {ds:List D} {d:D} (h1:δ[i]? = some (some (.ol ds))) (h2:f δ = .ok d) (h3:ds.length < sizeLine) (h4:δ.set i (some (.ol (ds ++ [d]))) = δ'):GC i f δ = .ok (.nx δ'):=by
  unfold GC
  rw [h1]
  simp only [h2,Out.aJ]
  rw [if_pos h3,h4]
theorem Dr.weak {many:Nat} {x:Dr} (h:x.ok many false):x.ok many true:=by
  cases x with
  | must n=>exact h
  | may n=>exact h
  | shut=>trivial
  | torn=>rfl
theorem QJ {A B:DSt→Out Fl} {δ:DSt} {d:D} (h:A δ = .ok (.rt d)):((bA A B δ).bind m9).bL = .ok d:=by
  unfold bA
  rw [h]
  rfl
theorem Kp {t:DSt→Out Bool} {A B:DSt→Out Fl} {δ:DSt} (h:t δ = .ok true):sIf t A B δ = A δ:=by
  unfold sIf
  rw [h]
  rfl
theorem M8 {f:DSt→Out D} {δ:DSt} {d:D} (h:f δ = .ok d):bU f δ = .ok (.rt d):=by
  unfold bU
  rw [h]
  rfl
theorem afc {f:DSt→Out (List D)} {δ:DSt} {l:List D} (h:f δ = .ok l):vp f δ = .ok (.lst l):=by
  unfold vp
  rw [h]
  rfl
def dz (cell:Int):List Nat:=(List.range 8).map fun j:Nat=>97 + (eF cell (902 + (j:Int)) % 26).toNat
theorem uX (cell:Int):(dz cell).length = 8:=by simp [dz]
theorem NZ (cell:Int):∀ c ∈ dz cell,97 ≤ c∧c < 123:=by
  intro c hc
  obtain ⟨j,_,rfl⟩:=List.mem_map.mp hc
  have h1:=Int.emod_nonneg (eF cell (902 + (j:Int))) (show (26:Int) ≠ 0 by decide)
  have h2:=Int.emod_lt_of_pos (eF cell (902 + (j:Int))) (show (0:Int) < 26 by decide)
  omega
def stN (cell:Int) (many:Nat) (x2 x3 x4 x5 x6 x7 x8:Option Sl):DSt:=[some (.sh (.int cell)),some (.sh (.int many)),x2,x3,x4,x5,x6,x7,x8]
abbrev LET:Option Sl:=some (.sh (.str "abcdefghijklmnopqrstuvwxyz"))
theorem ones_sum (l:List Nat):((l.map fun c=>ofL [c]).map (·.length)).sum = l.length:=by
  induction l with
  | nil=>rfl
  | cons c l ih=>simp only [List.map_cons,List.sum_cons,ih,qp,List.length_cons,List.length_nil]; omega
theorem base_eq (cell:Int) (many:Nat):oJoin (kc (.str "")) (vp (jJ [none,some 2,some 0] (Gz (kc (.int 8))) (gN 0) (fun _=>.ok true) mG)) (stN cell many LET none none none none none none) = .ok (.str (ofL (dz cell))):=by
  have er:=vI (f:=kc (.int 8)) (δ:=stN cell many LET none none none none none none) (n:=8) rfl (by decide)
  have e:=jc (cap:=[none,some 2,some 0]) (fe:=mG) (fun k:Nat=>D.int k) (fun j:Nat=>D.str (ofL [97 + (eF cell (902 + (j:Int)) % 26).toNat])) (List.range 8) er (by simp) (fun k hk=>by
    have hk:k < 8:=List.mem_range.mp hk
    have e1:=jb cell (902 + (k:Int)) (by omega) (by omega)
    have h1:=Int.emod_nonneg (eF cell (902 + (k:Int))) (show (26:Int) ≠ 0 by decide)
    have h2:=Int.emod_lt_of_pos (eF cell (902 + (k:Int))) (show (0:Int) < 26 by decide)
    have e2:=abc_at h1 h2
    unfold mG
    show o2 ixD (gvo 1) (o2 cB (oF 2 aO (aj (gv 2) (aj (o2 dF (kc (.int 902)) (gv 0)) az))) (kc (.int 26))) [some (.sh (.int k)),LET,some (.sh (.int cell))] = _
    walk_at "ev: e1 e2")
  have e2:(List.range 8).map (fun j:Nat=>D.str (ofL [97 + (eF cell (902 + (j:Int)) % 26).toNat])) = ((dz cell).map fun c=>ofL [c]).map D.str:=by
    unfold dz
    simp only [List.map_map]
    rfl
  rw [e2] at e
  unfold oJoin vp
  rw [e]
  simp only [kc,Out.aJ,joinD,vo,Option.bind_some,Jt]
  have z0:(Str.ofString "").length = 0:=by decide +kernel
  rw [if_pos (by rw [ones_sum,uX,z0,Nat.mul_zero]; decide),join_ones]
  rfl
theorem cut_to {l:List Nat} {j:Nat} (hl:l.length ≤ 100) (h:j ≤ l.length):cutD (.str (ofL l)) none (some (j:Int)) = some (.str (ofL (l.take j))):=by
  show (if (ofL l).length ≤ sizeLine then _ else _) = _
  rw [if_pos (by rw [qp]; exact Nat.le_trans hl (by decide)),slice_ns l j h]
theorem cut_ft {l:List Nat} {i j:Nat} (hl:l.length ≤ 100) (h1:i ≤ j) (h:j ≤ l.length):cutD (.str (ofL l)) (some (i:Int)) (some (j:Int)) = some (.str (ofL ((l.drop i).take (j - i)))):=by
  show (if (ofL l).length ≤ sizeLine then _ else _) = _
  rw [if_pos (by rw [qp]; exact Nat.le_trans hl (by decide)),slice_ss l i j h1 h]
theorem add_str {a b:List Nat} (h:a.length + b.length ≤ 100):dF (.str (ofL a)) (.str (ofL b)) = some (.str (ofL (a ++ b))):=by
  show (if (ofL a).length + (ofL b).length ≤ sizeLine then _ else _) = _
  rw [if_pos (by rw [qp,qp]; exact Nat.le_trans h (by decide)),ofL_app]
def nmA (cell:Int) (k:Nat):List Nat:=(dz cell).take (1 + (((k:Int) + eF cell 899) % 8).toNat)
def nmB (cell:Int) (sz at' k:Nat):List Nat:=(dz cell).take at' ++ [97 + ((eF cell (902 + (at':Int)) + (k:Int)) % 26).toNat] ++ ((dz cell).drop (at' + 1)).take (sz - (at' + 1))
theorem Ko {f:Nat→List Nat} {n:Nat} (h:∀ i j,i < j→j < n→f i ≠ f j):((List.range n).map f).Nodup:=by
  refine List.pairwise_map.mpr (List.Pairwise.imp_of_mem (fun {a b} ha hb hab=>h a b hab (List.mem_range.mp hb)) List.pairwise_lt_range)
theorem namesA (cell:Int) (many:Nat) (h1:1 ≤ many) (h2:many ≤ 8):Names ((List.range many).map (nmA cell)):=by
  have hl:∀ k,(nmA cell k).length = 1 + (((k:Int) + eF cell 899) % 8).toNat:=fun k=>by
    unfold nmA
    rw [List.length_take,uX]
    have h1:=Int.emod_nonneg ((k:Int) + eF cell 899) (show (8:Int) ≠ 0 by decide)
    have h2:=Int.emod_lt_of_pos ((k:Int) + eF cell 899) (show (0:Int) < 8 by decide)
    omega
  refine ⟨fun l hl'=>?_,by simpa using h1,by simpa using h2,Ko fun i j hij hj q=>?_⟩
  · obtain ⟨k,_,rfl⟩:=List.mem_map.mp hl'
    have h1:=Int.emod_nonneg ((k:Int) + eF cell 899) (show (8:Int) ≠ 0 by decide)
    have h2:=Int.emod_lt_of_pos ((k:Int) + eF cell 899) (show (0:Int) < 8 by decide)
    refine ⟨by rw [hl]; omega,by rw [hl]; omega,fun c hc=>NZ cell c (List.mem_of_mem_take hc)⟩
  · have e:=congrArg List.length q
    rw [hl,hl] at e
    omega
theorem namesB (cell:Int) (sz at' many:Nat) (h1:1 ≤ many) (h2:many ≤ 8) (ha:at' < sz) (hs:sz ≤ 8):Names ((List.range many).map (nmB cell sz at')):=by
  have hl:∀ k,(nmB cell sz at' k).length = sz:=fun k=>by
    unfold nmB
    simp only [List.length_append,List.length_take,List.length_drop,uX,List.length_cons,List.length_nil]
    omega
  refine ⟨fun l hl'=>?_,by simpa using h1,by simpa using h2,Ko fun i j hij hj q=>?_⟩
  · obtain ⟨k,_,rfl⟩:=List.mem_map.mp hl'
    refine ⟨by rw [hl]; omega,by rw [hl]; omega,fun c hc=>?_⟩
    have h1:=Int.emod_nonneg (eF cell (902 + (at':Int)) + (k:Int)) (show (26:Int) ≠ 0 by decide)
    have h2:=Int.emod_lt_of_pos (eF cell (902 + (at':Int)) + (k:Int)) (show (0:Int) < 26 by decide)
    rcases List.mem_append.mp hc with hc | hc
    · rcases List.mem_append.mp hc with hc | hc
      · exact NZ cell c (List.mem_of_mem_take hc)
      · obtain rfl:=List.mem_singleton.mp hc
        omega
    · exact NZ cell c (List.mem_of_mem_drop (List.mem_of_mem_take hc))
  · unfold nmB at q
    rw [List.append_assoc,List.append_assoc] at q
    have q2:=List.append_cancel_left q
    simp only [List.cons_append,List.cons.injEq] at q2
    have:=q2.1
    omega
theorem ad7 (cell:Int) (sz at' many:Nat) (h2:many ≤ 8) (ha:at' < sz) (hs:sz ≤ 8):∃ x y,xO (Gz (gv 1)) (gN 7) mF (stN cell many LET (some (.sh (.str (ofL (dz cell))))) (some (.sh (.int sz))) (some (.sh (.int at'))) (some (.ol [])) none none) = .ok (.nx (stN cell many LET (some (.sh (.str (ofL (dz cell))))) (some (.sh (.int sz))) (some (.sh (.int at'))) (some (.ol (((List.range many).map (nmB cell sz at')).map fun l=>.str (ofL l)))) x y)):=by
  have hh:=Pa (body:=mF) (tg:=gN 7) (fun k:Nat=>D.int k) (fun done δ=>∃ x y:Option Sl,δ = stN cell many LET (some (.sh (.str (ofL (dz cell))))) (some (.sh (.int sz))) (some (.sh (.int at'))) (some (.ol ((done.map (nmB cell sz at')).map fun l=>.str (ofL l)))) x y) (List.range many) (stN cell many LET (some (.sh (.str (ofL (dz cell))))) (some (.sh (.int sz))) (some (.sh (.int at'))) (some (.ol [])) none none) (by
    rintro k done rest δ ek ⟨x,y,rfl⟩
    have hk:k < many:=List.mem_range.mp (by rw [ek]; simp)
    have hd:done.length < many:=by
      have:=congrArg List.length ek
      simp at this
      omega
    have e1:=jb cell (902 + (at':Int)) (by omega) (by omega)
    have h1:=Int.emod_nonneg (eF cell (902 + (at':Int)) + (k:Int)) (show (26:Int) ≠ 0 by decide)
    have h2':=Int.emod_lt_of_pos (eF cell (902 + (at':Int)) + (k:Int)) (show (0:Int) < 26 by decide)
    have e2:=abc_at h1 h2'
    have bl:=uX cell
    have c1:=cut_to (l:=dz cell) (j:=at') (by omega) (by omega)
    have c2:=cut_ft (l:=dz cell) (i:=at' + 1) (j:=sz) (by omega) (by omega) (by omega)
    have a1:=add_str (a:=(dz cell).take at') (b:=[97 + ((eF cell (902 + (at':Int)) + (k:Int)) % 26).toNat]) (by simp; omega)
    have a2:=add_str (a:=(dz cell).take at' ++ [97 + ((eF cell (902 + (at':Int)) + (k:Int)) % 26).toNat]) (b:=((dz cell).drop (at' + 1)).take (sz - (at' + 1))) (by simp; omega)
    have cc:((at':Int) + 1) = ((at' + 1:Nat):Int):=by omega
    refine ⟨stN cell many LET (some (.sh (.str (ofL (dz cell))))) (some (.sh (.int sz))) (some (.sh (.int at'))) (some (.ol ((done.map (nmB cell sz at')).map fun l=>.str (ofL l)))) (some (.sh (.int k))) y,rfl,?_⟩
    have b1:jE 8 (o2 ixD (gvo 2) (o2 cB (o2 dF (oF 2 aO (aj (gv 0) (aj (o2 dF (kc (.int 902)) (gv 5)) az))) (gv 7)) (kc (.int 26)))) (stN cell many LET (some (.sh (.str (ofL (dz cell))))) (some (.sh (.int sz))) (some (.sh (.int at'))) (some (.ol ((done.map (nmB cell sz at')).map fun l=>.str (ofL l)))) (some (.sh (.int k))) y) = .ok (.nx (stN cell many LET (some (.sh (.str (ofL (dz cell))))) (some (.sh (.int sz))) (some (.sh (.int at'))) (some (.ol ((done.map (nmB cell sz at')).map fun l=>.str (ofL l)))) (some (.sh (.int k))) (some (.sh (.str (ofL [97 + ((eF cell (902 + (at':Int)) + (k:Int)) % 26).toNat])))))):=by
      unfold stN
      walk_at "ev: e1 e2"
    have b2:(o2 dF (o2 dF (oSl (gv 3) noI (soI (gv 5))) (gv 8)) (oSl (gv 3) (soI (o2 dF (gv 5) (kc (.int 1)))) (soI (gv 4)))) (stN cell many LET (some (.sh (.str (ofL (dz cell))))) (some (.sh (.int sz))) (some (.sh (.int at'))) (some (.ol ((done.map (nmB cell sz at')).map fun l=>.str (ofL l)))) (some (.sh (.int k))) (some (.sh (.str (ofL [97 + ((eF cell (902 + (at':Int)) + (k:Int)) % 26).toNat]))))) = .ok (.str (ofL (nmB cell sz at' k))):=by
      unfold stN
      walk_at "ev: oSl noI soI c1 a1 cc c2 a2"
      unfold nmB
      rw [List.append_assoc]
      rfl
    unfold mF
    rw [aaw b1,app_ol (ds:=(done.map (nmB cell sz at')).map fun l=>.str (ofL l)) rfl b2 (by simp only [List.length_map]; exact Nat.lt_of_lt_of_le (show _ < 100 by omega) (by decide)) rfl]
    refine ⟨some (.sh (.int k)),some (.sh (.str (ofL [97 + ((eF cell (902 + (at':Int)) + (k:Int)) % 26).toNat]))),?_⟩
    rw [List.map_append,List.map_append]
    rfl) ⟨none,none,rfl⟩
  obtain ⟨δ',e,x,y,rfl⟩:=hh
  have er:=vI (f:=gv 1) (δ:=stN cell many LET (some (.sh (.str (ofL (dz cell))))) (some (.sh (.int sz))) (some (.sh (.int at'))) (some (.ol [])) none none) (n:=many) rfl (by omega)
  refine ⟨x,y,?_⟩
  unfold xO
  rw [er]
  exact e
theorem F_names (cell:Int) (many:Nat) (h1:1 ≤ many) (h2:many ≤ 8):∃ ns,lF [.int cell,.int many] = .ok (.lst (aH ns))∧Names ns∧ns.length = many:=by
  have e0:=base_eq cell many
  have m900:=jb cell 900 (by decide) (by decide)
  by_cases q:eF cell 900 % 3 = 0
  · refine ⟨_,?_,namesA cell many h1 h2,by simp⟩
    show ((mj (stN cell many none none none none none none none)).bind m9).bL = _
    unfold mj
    refine aW (δ':=stN cell many LET none none none none none none) rfl ?_
    refine aW (δ':=stN cell many LET (some (.sh (.str (ofL (dz cell))))) none none none none none) (by unfold jE; rw [e0]; rfl) ?_
    have er:=vI (f:=gv 1) (δ:=stN cell many LET (some (.sh (.str (ofL (dz cell))))) none none none none none) (n:=many) rfl (by omega)
    have m899:=jb cell 899 (by decide) (by decide)
    have e:=jc (cap:=[none,some 3,some 0]) (fe:=rZ) (fun k:Nat=>D.int k) (fun k:Nat=>D.str (ofL (nmA cell k))) (List.range many) er (by simp; omega) (fun k hk=>by
      have hk:k < many:=List.mem_range.mp hk
      have h1:=Int.emod_nonneg ((k:Int) + eF cell 899) (show (8:Int) ≠ 0 by decide)
      have h2:=Int.emod_lt_of_pos ((k:Int) + eF cell 899) (show (0:Int) < 8 by decide)
      have bl:=uX cell
      have c1:=cut_to (l:=dz cell) (j:=1 + (((k:Int) + eF cell 899) % 8).toNat) (by omega) (by omega)
      have cc:(1:Int) + ((k:Int) + eF cell 899) % 8 = ((1 + (((k:Int) + eF cell 899) % 8).toNat:Nat):Int):=by omega
      unfold rZ
      show oSl (gv 1) noI (soI (o2 dF (kc (.int 1)) (o2 cB (o2 dF (gv 0) (oF 2 aO (aj (gv 2) (aj (kc (.int 899)) az)))) (kc (.int 8))))) [some (.sh (.int k)),some (.sh (.str (ofL (dz cell)))),some (.sh (.int cell))] = _
      walk_at "ev: oSl noI soI m899 cc c1"
      rfl)
    refine QJ ?_
    have t:(o2b eqD (o2 cB (oF 2 aO (aj (gv 0) (aj (kc (.int 900)) az))) (kc (.int 3))) (kc (.int 0))) (stN cell many LET (some (.sh (.str (ofL (dz cell))))) none none none none none) = .ok true:=by
      unfold stN
      walk_at "ev: m900 q"
    have en:(List.range many).map (fun k:Nat=>D.str (ofL (nmA cell k))) = aH ((List.range many).map (nmA cell)):=by
      unfold aH
      simp only [List.map_map]
      rfl
    rw [en] at e
    exact (Kp t).trans (M8 (afc e))
  · obtain ⟨s0',es,hs⟩:=jm (eF cell 901) (m:=8) (by decide)
    obtain ⟨at',ea,ha⟩:=jm (eF cell 911) (m:=1 + s0') (by omega)
    have m901:=jb cell 901 (by decide) (by decide)
    have m911:=jb cell 911 (by decide) (by decide)
    refine ⟨_,?_,namesB cell (1 + s0') at' many h1 h2 ha (by omega),by simp⟩
    show ((mj (stN cell many none none none none none none none)).bind m9).bL = _
    unfold mj
    refine aW (δ':=stN cell many LET none none none none none none) rfl ?_
    refine aW (δ':=stN cell many LET (some (.sh (.str (ofL (dz cell))))) none none none none none) (by unfold jE; rw [e0]; rfl) ?_
    refine aW (δ':=stN cell many LET (some (.sh (.str (ofL (dz cell))))) none none none none none) (by
      have q':(eF cell 900 % 3 == 0) = false:=by simp [q]
      unfold stN
      walk_at "ev: m900 q'") ?_
    have cs:(1:Int) + eF cell 901 % 8 = ((1 + s0':Nat):Int):=by
      simp only [Int.cast_ofNat_Int] at es
      omega
    refine aW (δ':=stN cell many LET (some (.sh (.str (ofL (dz cell))))) (some (.sh (.int ((1 + s0':Nat):Int)))) none none none none) (by
      unfold stN
      walk_at "ev: m901 cs") ?_
    have p0:(0:Int) < ((1 + s0':Nat):Int):=by omega
    refine aW (δ':=stN cell many LET (some (.sh (.str (ofL (dz cell))))) (some (.sh (.int ((1 + s0':Nat):Int)))) (some (.sh (.int at'))) none none none) (by
      unfold stN
      walk_at "ev: m911 p0 ea") ?_
    refine aW (δ':=stN cell many LET (some (.sh (.str (ofL (dz cell))))) (some (.sh (.int ((1 + s0':Nat):Int)))) (some (.sh (.int at'))) (some (.ol [])) none none) rfl ?_
    obtain ⟨x,y,e⟩:=ad7 cell (1 + s0') at' many h2 ha (by omega)
    refine aW e ?_
    rfl
theorem uO {i:Nat} {f:DSt→Out D} {δ δ':DSt} {d:D} (h:f δ = .ok d) (e:δ.set i (some (.sh d)) = δ'):jE i f δ = .ok (.nx δ'):=by
  unfold jE
  rw [h]
  simp only [Out.aJ]
  rw [e]
theorem aax {i:Nat} {f:DSt→Out (List D)} {δ δ':DSt} {d:List D} (h:f δ = .ok d) (e:δ.set i (some (.ol d)) = δ'):kh i f δ = .ok (.nx δ'):=by
  unfold kh
  rw [h]
  simp only [Out.aJ]
  rw [e]
theorem acz {i:Nat} {f:DSt→Out (List (List D))} {δ δ':DSt} {d:List (List D)} (h:f δ = .ok d) (e:δ.set i (some (.oll d)) = δ'):pN i f δ = .ok (.nx δ'):=by
  unfold pN
  rw [h]
  simp only [Out.aJ]
  rw [e]
theorem mk_ok {c n:Nat} {F:List D→Out (List (Str × D))} {fr:DSt→Out (List D)} {δ:DSt} {ds:List D} {fds:List (Str × D)} (h:fr δ = .ok ds) (hl:ds.length = n) (e:F ds = .ok fds):oMk c n F fr δ = .ok (.obj c fds):=by
  unfold oMk
  rw [h]
  simp only [Out.aJ]
  rw [if_pos hl,e]
  rfl
theorem aC {f:DSt→Out D} {r:DSt→Out (List D)} {δ:DSt} {d:D} {ds:List D} (h:f δ = .ok d) (h2:r δ = .ok ds):aj f r δ = .ok (d :: ds):=by
  unfold aj
  rw [h]
  simp only [Out.aJ]
  rw [h2]
  rfl
theorem YS {i:Nat} {f:DSt→Out D} {δ δ':DSt} {s:Sl} {d:D} (h:δ[i]? = some (some s)) (hs:lends s = true) (e:frz i δ = δ') (hf:f δ' = .ok d) (hd:noL d = true):zQ i f δ = .ok d:=by
  unfold zQ
  rw [h]
  simp only []
  rw [if_pos hs,e,hf]
  simp only [Out.t8,Out.aJ]
  rw [if_pos hd]
theorem Gm {α:Type} (f:α→D):∀ xs:List α,(∀ x ∈ xs,noL (f x) = true)→noLs (xs.map f) = true
  | [],_=>by simp [noLs]
  | x :: xs,h=>by
    rw [List.map_cons]
    simp only [noLs,Bool.and_eq_true]
    exact ⟨h x List.mem_cons_self,Gm f xs fun y hy=>h y (List.mem_cons_of_mem _ hy)⟩
theorem noL_ob (x:Dr):noL x.ob = true:=by cases x <;> simp [Dr.ob,noL,noLf]
theorem noL_plan (c:Nat) (ns:List (List Nat)) (rows:List (List Dr)):noL (plan c ns rows) = true:=by
  unfold plan QH
  simp only [noL,noLf,Bool.and_true,Bool.and_eq_true]
  refine ⟨Gm _ _ fun l _=>by simp [noL],Gm _ _ fun r _=>?_⟩
  simp only [noL]
  exact Gm _ _ fun x _=>noL_ob x
section
variable {many:Nat} {ns:List (List Nat)} {rows j9:List (List Dr)} {sc:List Int}
theorem cut_ints (sc:List Int) (lo hi:Option Int):∃ zs:List Int,cutL (sc.map D.int) lo hi = zs.map D.int∧zs.length ≤ sc.length:=by
  unfold cutL
  refine ⟨(sc.drop (HT.sIx (sc.map D.int).length 0 lo)).take (HT.sIx (sc.map D.int).length (sc.map D.int).length hi - HT.sIx (sc.map D.int).length 0 lo),?_,?_⟩
  · rw [List.map_take,List.map_drop]
  · rw [List.length_take,List.length_drop]
    omega
end
theorem sl_ok {fa:DSt→Out D} {fl fh:DSt→Out (Option Int)} {δ:DSt} {x y:D} {l h:Option Int} (e1:fa δ = .ok x) (e2:fl δ = .ok l) (e3:fh δ = .ok h) (e4:cutD x l h = some y):oSl fa fl fh δ = .ok y:=by
  unfold oSl
  rw [e1]
  simp only [Out.aJ]
  rw [e2]
  simp only [Out.aJ]
  rw [e3]
  simp only [Out.aJ]
  rw [e4]
  rfl
theorem cut_rol {xs ys:List D} {l h:Option Int} (e:cutL xs l h = ys):cutD (.rol xs) l h = some (.lst ys):=by
  subst e
  rfl
theorem sr {n:Nat} {F:List D→Out D} {fr:DSt→Out (List D)} {δ:DSt} {ds:List D} {d:D} (h:fr δ = .ok ds) (hl:ds.length = n) (e:F ds = .ok d):oF n F fr δ = .ok d:=by
  unfold oF
  rw [h]
  simp only [Out.aJ]
  rw [if_pos hl,e]
end K2
namespace K2
open PySem L2 MX DL
def bad (i j:Int):D:=.exc bI [("room",.int i),("action",.int j)]
theorem sI:sG (-1) = true:=by decide
theorem Js {n:Nat} (h:n ≤ 1000000):sG (n:Int) = true:=by
  unfold sG
  rw [decide_eq_true (by omega),decide_eq_true (by omega)]
  rfl
theorem zW {c:Nat} {f g:Str} {fr:DSt→Out (List D)} {δ:DSt} {i j:Int} (h:fr δ = .ok [.int i,.int j]) (hi:sG i = true) (hj:sG j = true):xP c f g fr δ = .ex (.exc c [(f,.int i),(g,.int j)]):=by
  unfold xP
  rw [h]
  simp only [Out.aJ,hi,hj,Bool.and_self,if_true]
theorem m11 (δ:DSt):aj (o1 bY (kc (.int 1))) (aj (o1 bY (kc (.int 1))) az) δ = .ok [.int (-1),.int (-1)]:=rfl
theorem acts_bad (a:D) (h:bc [a] = .ok (.bl false)):cZ [a] = .ex (bad (-1) (-1)):=by
  unfold cZ rK
  have r:=zW (c:=bI) (f:="room") (g:="action") (m11 [some (.sh a)]) sI sI
  walk_at "ev: h r"
  rfl
theorem nJ (r:D) (n:Int) (t:Bool) (h:bQ r = some false):bh [r,.int n,.bl t] = .ex (bad (-1) (-1)):=by
  unfold bh my
  have r':=zW (c:=bI) (f:="room") (g:="action") (m11 [some (.sh r),some (.sh (.int n)),some (.sh (.bl t)),none,none,none,none]) sI sI
  walk_at "ev: h r'"
  rfl
theorem QF (ds:List D) (n:Int) (t:Bool) (h:ds.length = 0 ∨ 2000 < ds.length):bh [.lst ds,.int n,.bl t] = .ex (bad (-1) (-1)):=by
  unfold bh my
  have r':=zW (c:=bI) (f:="room") (g:="action") (m11 [some (.sh (.lst ds)),some (.sh (.int n)),some (.sh (.bl t)),none,none,none,none]) sI sI
  rcases h with h | h
  · have a1:¬ (1:Int) ≤ (ds.length:Int):=by omega
    walk_at "ev: bQ oR a1 r'"
    rfl
  · have a1:(1:Int) ≤ (ds.length:Int):=by omega
    have a2:¬ (ds.length:Int) ≤ 2000:=by omega
    walk_at "ev: bQ oR a1 a2 r'"
    rfl
theorem XJ {α:Type} {body:DSt→Out Fl} {tg:D→DSt→Option DSt} (g:α→D) (I:List α→DSt→Prop) (d x:D) (ys:List D):∀ (xs done:List α) (δ:DSt),(∀ x done δ,I done δ→x ∈ xs→∃ δ1,tg (g x) δ = some δ1∧nxP (body δ1) (I (done ++ [x])))→I done δ →
    (∀ δ,I (done ++ xs) δ→∃ δ1,tg d δ = some δ1∧body δ1 = .ex x)→O9 tg body (xs.map g ++ d :: ys) δ = .ex x
  | [],done,δ,_,i,k=>by
    obtain ⟨δ1,e1,e2⟩:=k δ (by rw [List.append_nil]; exact i)
    show (Out.opt (tg d δ)).bind _ = _
    rw [e1,Out.gw,Out.aJ,e2,Out.v7]
  | y :: xs,done,δ,h,i,k=>by
    obtain ⟨δ1,e1,e2⟩:=h y done δ i List.mem_cons_self
    obtain ⟨δ2,e3,i2⟩:=Y6 e2
    show (Out.opt (tg (g y) δ)).bind _ = _
    rw [e1,Out.gw,Out.aJ,e3,Out.aJ]
    exact XJ g I d x ys xs (done ++ [y]) δ2 (fun z dn δ' i' m=>h z dn δ' i' (List.mem_cons_of_mem _ m)) i2 fun δ' i'=>k δ' (by rw [List.append_assoc] at i'; exact i')
theorem HW {α:Type} (g:α→D) (d:D) (ys:List D):∀ (xs:List α) (k:Nat),tG k (xs.map g ++ d :: ys) = ((List.zipIdx xs k).map fun p=>D.tup [.int p.2,g p.1]) ++ D.tup [.int (k + xs.length:Nat),d] :: tG (k + xs.length + 1) ys
  | [],k=>rfl
  | x :: xs,k=>by
    rw [List.map_cons,List.zipIdx_cons,List.map_cons,List.cons_append,List.cons_append,List.length_cons]
    have e:=HW g d ys xs (k + 1)
    have q:k + 1 + xs.length = k + (xs.length + 1):=by omega
    rw [q] at e
    rw [← e]
    rfl
def mU (rs:D) (acts:Nat) (t:Bool) (a b c d:Option Sl):DSt:=[some (.sh rs),some (.sh (.int acts)),some (.sh (.bl t)),a,b,c,d]
theorem abY {rs:List D} {acts:Nat} {t:Bool} {a b:Option Sl} {j:Int} {d:D} (h:aN [d,.int rs.length,.bl t] = .ok (.bl true)):cI (mU (.lst rs) acts t a b (some (.sh (.int j))) (some (.sh d))) = .ok (.nx (mU (.lst rs) acts t a b (some (.sh (.int j))) (some (.sh d)))):=by
  unfold cI mU
  walk_at "ev: h"
theorem lb2_bad {rs:List D} {acts:Nat} {t:Bool} {b:Option Sl} {i j:Nat} {d:D} (hi:i ≤ 1000000) (hj:j ≤ 1000000) (h:aN [d,.int rs.length,.bl t] = .ok (.bl false)):cI (mU (.lst rs) acts t (some (.sh (.int i))) b (some (.sh (.int j))) (some (.sh d))) = .ex (bad i j):=by
  have r:=zW (c:=bI) (f:="room") (g:="action") (fr:=aj (gv 3) (aj (gv 5) az)) (δ:=mU (.lst rs) acts t (some (.sh (.int i))) b (some (.sh (.int j))) (some (.sh d))) rfl (Js hi) (Js hj)
  unfold cI
  unfold mU at r ⊢
  walk_at "ev: h r"
  rfl
theorem lb1_good {rs ds:List D} {acts:Nat} {t:Bool} {i:Nat} {c d:Option Sl} (hl:ds.length = acts) (h:∀ d ∈ ds,aN [d,.int rs.length,.bl t] = .ok (.bl true)):nxP (bN (mU (.lst rs) acts t (some (.sh (.int i))) (some (.sh (.lst ds))) c d)) fun δ=>∃ a b c d:Option Sl,δ = mU (.lst rs) acts t a b c d:=by
  have hl':(ds.length:Int) = (acts:Int):=by rw [hl]
  obtain ⟨δ',e1,c',d',i1⟩:=Gd (tg:=gT 2 (cN (gN 5) (cN (gN 6) pY))) (body:=cI) (fun p:D × Nat=>D.tup [.int p.2,p.1]) (fun _ δ=>∃ c d,δ = mU (.lst rs) acts t (some (.sh (.int i))) (some (.sh (.lst ds))) c d) ds.zipIdx [] (mU (.lst rs) acts t (some (.sh (.int i))) (some (.sh (.lst ds))) c d) (by
    rintro ⟨x,j⟩ done δ ⟨c,d,rfl⟩ hq
    refine ⟨mU (.lst rs) acts t (some (.sh (.int i))) (some (.sh (.lst ds))) (some (.sh (.int j))) (some (.sh x)),rfl,?_⟩
    rw [abY (h x (List.fst_mem_of_mem_zipIdx hq))]
    exact ⟨_,_,rfl⟩) ⟨c,d,rfl⟩
  have e2:=FT (fun d:D=>d) ds 0
  rw [List.map_id'] at e2
  unfold bN
  unfold mU at e1 i1 ⊢
  walk_at "ev: bQ oR hl' enum vo e2 e1"
  exact ⟨_,_,_,_,i1⟩
theorem lb1_bad {rs:List D} {acts:Nat} {t:Bool} {i:Nat} {r:D} {c d:Option Sl} (hi:i ≤ 1000000) (h:bQ r = some false ∨ ∃ ds,r = .lst ds∧ds.length ≠ acts):bN (mU (.lst rs) acts t (some (.sh (.int i))) (some (.sh r)) c d) = .ex (bad i (-1)):=by
  have r':=zW (c:=bI) (f:="room") (g:="action") (fr:=aj (gv 3) (aj (o1 bY (kc (.int 1))) az)) (δ:=mU (.lst rs) acts t (some (.sh (.int i))) (some (.sh r)) c d) rfl (Js hi) sI
  unfold bN
  unfold mU at r' ⊢
  rcases h with h | ⟨ds,rfl,h⟩
  · walk_at "ev: h r'"
    rfl
  · have hl':((ds.length:Int) == (acts:Int)) = false:=beq_eq_false_iff_ne.mpr (by omega)
    walk_at "ev: bQ oR hl' r'"
    rfl
theorem abX {rs pre post:List D} {acts:Nat} {t:Bool} {i:Nat} {x:D} {c d:Option Sl} (hi:i ≤ 1000000) (hp:pre.length ≤ 1000000) (hl:(pre ++ x :: post).length = acts) (h:∀ d ∈ pre,aN [d,.int rs.length,.bl t] = .ok (.bl true)) (hx:aN [x,.int rs.length,.bl t] = .ok (.bl false)) :
    bN (mU (.lst rs) acts t (some (.sh (.int i))) (some (.sh (.lst (pre ++ x :: post)))) c d) = .ex (bad i pre.length):=by
  have hl':((pre ++ x :: post).length:Int) = (acts:Int):=by rw [hl]
  have e1:=XJ (tg:=gT 2 (cN (gN 5) (cN (gN 6) pY))) (body:=cI) (fun p:D × Nat=>D.tup [.int p.2,p.1]) (fun _ δ=>∃ c d,δ = mU (.lst rs) acts t (some (.sh (.int i))) (some (.sh (.lst (pre ++ x :: post)))) c d) (D.tup [.int (0 + pre.length:Nat),x]) (bad i pre.length) (tG (0 + pre.length + 1) post) pre.zipIdx [] (mU (.lst rs) acts t (some (.sh (.int i))) (some (.sh (.lst (pre ++ x :: post)))) c d) (by
    rintro ⟨y,j⟩ done δ ⟨c,d,rfl⟩ hq
    refine ⟨mU (.lst rs) acts t (some (.sh (.int i))) (some (.sh (.lst (pre ++ x :: post)))) (some (.sh (.int j))) (some (.sh y)),rfl,?_⟩
    rw [abY (h y (List.fst_mem_of_mem_zipIdx hq))]
    exact ⟨_,_,rfl⟩) ⟨c,d,rfl⟩ (by
    rintro δ ⟨c,d,rfl⟩
    refine ⟨mU (.lst rs) acts t (some (.sh (.int i))) (some (.sh (.lst (pre ++ x :: post)))) (some (.sh (.int (0 + pre.length:Nat)))) (some (.sh x)),rfl,?_⟩
    rw [lb2_bad hi (by omega) hx]
    rw [Nat.zero_add])
  have e2:=HW (fun d:D=>d) x post pre 0
  rw [List.map_id'] at e2
  simp only [Nat.zero_add] at e1 e2
  unfold bN
  unfold mU at e1 ⊢
  walk_at "ev: bQ oR hl' enum vo e2 e1"
theorem QG {pre:List (List D)} {r x:D} {post:List D} {acts:Nat} {t:Bool} (h2:pre.length + 1 + post.length ≤ 2000) (hp:∀ ds ∈ pre,ds.length = acts∧∀ d ∈ ds,aN [d,.int (pre.length + 1 + post.length:Nat),.bl t] = .ok (.bl true))
    (hr:∀ rs:List D,rs.length = pre.length + 1 + post.length→∀ c d,bN (mU (.lst rs) acts t (some (.sh (.int pre.length))) (some (.sh r)) c d) = .ex x):bh [.lst (pre.map D.lst ++ r :: post),.int acts,.bl t] = .ex x:=by
  have hn:(pre.map D.lst ++ r :: post).length = pre.length + 1 + post.length:=by simp; omega
  have a1:(1:Int) ≤ ((pre.map D.lst ++ r :: post).length:Int):=by omega
  have a2:((pre.map D.lst ++ r :: post).length:Int) ≤ 2000:=by omega
  have e1:=XJ (tg:=gT 2 (cN (gN 3) (cN (gN 4) pY))) (body:=bN) (fun p:List D × Nat=>D.tup [.int p.2,.lst p.1]) (fun _ δ=>∃ a b c d,δ = mU (.lst (pre.map D.lst ++ r :: post)) acts t a b c d) (D.tup [.int (0 + pre.length:Nat),r]) x (tG (0 + pre.length + 1) post) pre.zipIdx [] (mU (.lst (pre.map D.lst ++ r :: post)) acts t none none none none) (by
    rintro ⟨y,j⟩ done δ ⟨a,b,c,d,rfl⟩ hq
    have hy:=hp y (List.fst_mem_of_mem_zipIdx hq)
    exact ⟨mU (.lst (pre.map D.lst ++ r :: post)) acts t (some (.sh (.int j))) (some (.sh (.lst y))) c d,rfl,lb1_good hy.1 (by rw [hn]; exact hy.2)⟩) ⟨_,_,_,_,rfl⟩ (by
    rintro δ ⟨a,b,c,d,rfl⟩
    refine ⟨mU (.lst (pre.map D.lst ++ r :: post)) acts t (some (.sh (.int (0 + pre.length:Nat)))) (some (.sh r)) c d,rfl,?_⟩
    rw [Nat.zero_add]
    exact hr _ hn c d)
  have e2:=HW D.lst r post pre 0
  simp only [Nat.zero_add] at e1 e2
  unfold bh my
  unfold mU at e1
  walk_at "ev: bQ oR a1 a2 enum vo e2 e1"
end K2
namespace K2
open PySem L2 MX DL
theorem afI (a rows:D) (t:Bool) (h:bc [a] = .ok (.bl false)):yg t [a,rows] = .ex (bad (-1) (-1)):=by
  have e:=acts_bad a h
  unfold yg Aj
  walk_at "ev: e"
theorem qy (ns:List (List Nat)) (N:Names ns) (rows x:D) (t:Bool) (h:bh [rows,.int ns.length,.bl t] = .ex x):yg t [.lst (aH ns),rows] = .ex x:=by
  have e1:=F_acts ns N
  have e5:(aH ns).length = ns.length:=by simp [aH]
  unfold yg Aj FZ
  walk_at "ev: e1 e5 h"
theorem qO (a rows:D) (p:Bool) (i j:Int) (h:yg (!p) [a,rows] = .ex (bad i j)):aZ [a,rows,.bl p] = .ok (.tup [.int i,.int j]):=by
  have e:sIf (tst (gb 2)) (vK (oMk j4 2 uf (aj (gv 0) (aj (gv 1) az)))) (vK (oMk fJ 2 nW (aj (gv 0) (aj (gv 1) az)))) [some (.sh a),some (.sh rows),some (.sh (.bl p)),some (.sh .non),none] = .ex (bad i j):=by
    cases p with
    | true =>
      have h:uf [a,rows] = .ex (bad i j):=h
      walk_at "ev: h"
    | false =>
      have h:nW [a,rows] = .ex (bad i j):=h
      walk_at "ev: h"
  have e2:sTry dJ 3 (sIf (tst (gb 2)) (vK (oMk j4 2 uf (aj (gv 0) (aj (gv 1) az)))) (vK (oMk fJ 2 nW (aj (gv 0) (aj (gv 1) az))))) [some (.sh a),some (.sh rows),some (.sh (.bl p)),some (.sh .non),none] = .ok (.nx [none,none,none,some (.sh (bad i j)),none]):=by
    unfold sTry
    rw [e]
    rfl
  have x1:Qi "room" bI (gv 3) [none,none,none,some (.sh (bad i j)),none] = .ok (.int i):=rfl
  have x2:Qi "action" bI (gv 3) [none,none,none,some (.sh (bad i j)),none] = .ok (.int j):=rfl
  have x3:vC oU (gb 3) [none,none,none,some (.sh (bad i j)),none] = .ok (.bl true):=rfl
  show ((rG [some (.sh a),some (.sh rows),some (.sh (.bl p)),none,none]).bind m9).bL = _
  unfold rG
  refine aW (δ':=[some (.sh a),some (.sh rows),some (.sh (.bl p)),some (.sh .non),none]) rfl (aW e2 (aW (δ':=[none,none,none,some (.sh (bad i j)),none]) ?_ (ud ?_)))
  · walk_at "ev-vC: x1 x2 x3"
    rfl
  · walk_at "ev: x1 x2 s2"
end K2
namespace K2
open PySem L2 MX DL
def bd1 (m:Int):List D:=[.non,.str "must",.int 0,.bl true,.tup [.str "must"],.tup [.str "may"],.tup [.str "shut"],.tup [],.tup [.str "must",.int m],.tup [.str "may",.int m],.tup [.str "must",.int (-1)]]
def bd2:List D:=[.tup [.str "must",.bl true],.tup [.str "may",.bl false],.tup [.str "must",.non],.tup [.str "may",.non],.tup [.str "shut",.int 0],.tup [.str "torn",.int 0]]
def bd3:D:=.tup [.str "open",.int 0]
def bd4:List D:=[.lst [.str "must",.int 0],.lst [.str "shut",.non],.tup [.str "must",.int 0,.int 0],.tup [.non,.int 0],.tup [.int 0,.str "must"],.tup [.int 1,.int 1],.tup [.str "",.int 0],.tup [.str "Must",.int 0]]
def bd5:List D:=[.tup [.str "may",.str "0"],.tup [.str "must",.lst [.int 0]],.tup [.str "may",.tup [.int 0]],.tup [.tup [.str "must",.int 0],.int 0],.dK [(.inr "must",.int 0)]]
def bd6 (m x:Int):D:=.tup [.str "must",.int (m + x / 64)]
def bdL (m x:Int):List D:=bd1 m ++ bd2 ++ [bd3] ++ bd4 ++ bd5 ++ [bd6 m x]
theorem Wy (m x:Int):(bdL m x).length = 32:=rfl
theorem atI_n {ds:List D} {n:Nat} (h:n < ds.length):atI ds (n:Int) = ds[n]?:=by
  unfold atI
  rw [wW h]
  rfl
theorem aaZ (x:Int) (m:Int):∃ d,dq [.int x,.int m] = .ok d∧d ∈ bdL m x:=by
  obtain ⟨n,e,hn⟩:=jm x (m:=32) (by decide)
  have e:x % 32 = (n:Int):=e
  refine ⟨(bdL m x)[n]'(by rw [Wy]; exact hn),?_,List.getElem_mem _⟩
  show ((pJ [some (.sh (.int x)),some (.sh (.int m)),none]).bind m9).bL = _
  unfold pJ
  refine aW (δ':=[some (.sh (.int x)),some (.sh (.int m)),some (.ol (bd1 m))]) (by kernel_rfl) ?_
  refine aW (δ':=[some (.sh (.int x)),some (.sh (.int m)),some (.ol (bd1 m ++ bd2))]) (by kernel_rfl) ?_
  refine aW (δ':=[some (.sh (.int x)),some (.sh (.int m)),some (.ol (bd1 m ++ bd2 ++ [bd3]))]) (by kernel_rfl) ?_
  refine aW (δ':=[some (.sh (.int x)),some (.sh (.int m)),some (.ol (bd1 m ++ bd2 ++ [bd3] ++ bd4))]) (by kernel_rfl) ?_
  refine aW (δ':=[some (.sh (.int x)),some (.sh (.int m)),some (.ol (bd1 m ++ bd2 ++ [bd3] ++ bd4 ++ bd5))]) (by kernel_rfl) ?_
  refine aW (δ':=[some (.sh (.int x)),some (.sh (.int m)),some (.ol (bdL m x))]) (by kernel_rfl) ?_
  refine ud ?_
  have a:atI (bdL m x) (n:Int) = some ((bdL m x)[n]'(by rw [Wy]; exact hn)):=by
    rw [atI_n (by rw [Wy]; exact hn)]
    exact List.getElem?_eq_getElem _
  walk_at "ev: e a"
theorem room_no (i:Int) (m:Nat) (h:(m:Int) ≤ i):j0 [.int i,.int m] = .ok (.bl false):=by
  unfold j0 Ie
  have a1:(0:Int) ≤ i:=by omega
  have a2:¬ i < (m:Int):=by omega
  walk_at "ev: Aq jH oR a1 a2"
theorem MP (w:Str) (hw:w = "must" ∨ w = "may") (i:Int) (m:Nat) (t:Bool) (h:(m:Int) ≤ i):aN [.tup [.str w,.int i],.int m,.bl t] = .ok (.bl false):=by
  have e:=room_no i m h
  unfold aN rJ
  rcases hw with rfl | rfl <;> walk_at "ev: jh jQ oR q11 q12 q21 q22 e"
theorem bd_false (m:Nat) (x:Int) (h0:0 ≤ x) (t:Bool):∀ d ∈ bdL m x,aN [d,.int m,.bl t] = .ok (.bl false):=by
  intro d hd
  have k1:=MP "must" (.inl rfl) m m t (Int.le_refl _)
  have k2:=MP "may" (.inr rfl) m m t (Int.le_refl _)
  have k3:=MP "must" (.inl rfl) (m + x / 64) m t (by have:=Int.ediv_nonneg h0 (show (0:Int) ≤ 64 by decide); omega)
  unfold bdL bd1 bd2 bd3 bd4 bd5 bd6 at hd
  simp only [List.cons_append,List.nil_append,List.mem_cons,List.not_mem_nil,or_false] at hd
  rcases hd with rfl | rfl | rfl | rfl | rfl | rfl | rfl | rfl | rfl | rfl | rfl | rfl | rfl | rfl | rfl | rfl | rfl | rfl | rfl | rfl | rfl | rfl | rfl | rfl | rfl | rfl | rfl | rfl | rfl | rfl | rfl | rfl
  all_goals first | exact k1 | exact k2 | exact k3 | (cases t <;> kernel_rfl)
end K2
namespace K2
open PySem L2 MX DL
theorem uM {fr:DSt→Out (List D)} {δ:DSt} {ds:List D} (h:fr δ = .ok ds) (hl:ds.length ≤ sizeLine):bF fr δ = .ok (.lst ds):=by
  unfold bF
  rw [h,Out.aJ,if_pos hl]
theorem fj {n:Nat} (h:n ≤ 100000):n ≤ sizeLine:=Nat.le_trans h (by rw [sizeLine_eq]; decide)
theorem get_at {L:List D} {f:DSt→Out D} {δ:DSt} {i m:Nat} {y:Int} (hf:δ[i]? = some (some (.sh (.lst L)))) (hy:f δ = .ok (.int y)) (hl:L.length = m) (hm:1 ≤ m):∃ d,d ∈ L∧o2 ixD (gvo i) (o2 cB f (kc (.int m))) δ = .ok d:=by
  obtain ⟨n,e,hn⟩:=jm y (m:=m) hm
  have hn':n < L.length:=by omega
  refine ⟨L[n],List.getElem_mem _,?_⟩
  have a:atI L (n:Int) = some L[n]:=by
    rw [atI_n hn']
    exact List.getElem?_eq_getElem _
  have p:(0:Int) < (m:Int):=by omega
  unfold o2 gvo
  rw [hf]
  show (Out.ok (D.lst L)).bind _ = _
  rw [Out.aJ,hy,Out.aJ]
  show ((Out.ok (D.int (m:Int))).bind fun y'=>Out.opt (cB (.int y) y')).bind _ = _
  have q:cB (.int y) (.int (m:Int)) = some (.int (y % (m:Int))):=by
    unfold cB
    dsimp only
    rw [if_pos p]
  rw [Out.aJ,q,Out.gw,Out.aJ,e]
  show Out.opt (atI L (n:Int)) = _
  rw [a]
  rfl
def brL (d0:D) (r:List D):List D:=[.non,.lst (cutL (d0 :: r) none (some (-1))),.lst ((d0 :: r) ++ [d0]),.tup (d0 :: r),.lst [],.str "must",.int 0,.dK [(.inl 0,.lst (d0 :: r))]]
theorem at0 (d0:D) (r:List D):atI (d0 :: r) 0 = some d0:=by
  have:=atI_n (ds:=d0 :: r) (n:=0) (by simp)
  exact this
theorem aa0 (y:Int) (d0:D) (r:List D) (hr:r.length ≤ 100):∃ d,bM [.int y,.lst (d0 :: r)] = .ok d∧d ∈ brL d0 r:=by
  have a:=at0 d0 r
  have e3:o2 dF (gv 1) (bF (aj (o2 ixD (gvo 1) (kc (.int 0))) az)) [some (.sh (.int y)),some (.sh (.lst (d0 :: r))),none] = .ok (.lst ((d0 :: r) ++ [d0])):=by
    have z:(d0 :: r).length + [d0].length ≤ sizeLine:=fj (by simp; omega)
    have e:bF (aj (o2 ixD (gvo 1) (kc (.int 0))) az) [some (.sh (.int y)),some (.sh (.lst (d0 :: r))),none] = .ok (.lst [d0]):=uM (aC (by walk_at "ev: a") rfl) (fj (by simp))
    show ((Out.ok (D.lst (d0 :: r))).bind fun x=>(bF (aj (o2 ixD (gvo 1) (kc (.int 0))) az) _).bind fun y'=>Out.opt (dF x y')) = _
    rw [Out.aJ,e,Out.aJ]
    unfold dF
    dsimp only
    rw [if_pos z]
    rfl
  have e1:=uM (fr:=aj (kc .non) (aj (oSl (gv 1) noI (soI (o1 bY (kc (.int 1))))) (aj (o2 dF (gv 1) (bF (aj (o2 ixD (gvo 1) (kc (.int 0))) az))) (aj (oC (Dt nU) (aj (gv 1) az)) (aj (bF az) (aj (kc (.str "must")) (aj (kc (.int 0)) (aj (mkD1 (kc (.int 0)) (gv 1)) az)))))))) (δ:=[some (.sh (.int y)),some (.sh (.lst (d0 :: r))),none]) (ds:=brL d0 r) (aC rfl (aC rfl (aC e3 (aC rfl (aC (uM rfl (fj (by simp))) (aC rfl (aC rfl (aC rfl rfl)))))))) (fj (by simp [brL]))
  obtain ⟨d,hd,e2⟩:=get_at (L:=brL d0 r) (f:=gv 0) (δ:=[some (.sh (.int y)),some (.sh (.lst (d0 :: r))),some (.sh (.lst (brL d0 r)))]) (i:=2) (m:=8) (y:=y) rfl rfl rfl (by decide)
  refine ⟨d,?_,hd⟩
  show ((pK [some (.sh (.int y)),some (.sh (.lst (d0 :: r))),none]).bind m9).bL = _
  unfold pK
  exact aW (uO e1 rfl) (ud e2)
theorem cut_m1 (d0:D) (r:List D):(cutL (d0 :: r) none (some (-1))).length = r.length:=by
  unfold cutL HT.sIx
  simp
  omega
theorem br_bad (d0:D) (r:List D):∀ d ∈ brL d0 r,bQ d = some false ∨ ∃ ds,d = .lst ds∧ds.length ≠ (d0 :: r).length:=by
  intro d hd
  unfold brL at hd
  simp only [List.mem_cons,List.not_mem_nil,or_false] at hd
  rcases hd with rfl | rfl | rfl | rfl | rfl | rfl | rfl | rfl
  · exact .inl rfl
  · exact .inr ⟨_,rfl,by rw [cut_m1,List.length_cons]; omega⟩
  · exact .inr ⟨_,rfl,by simp⟩
  · exact .inl rfl
  · exact .inr ⟨_,rfl,by simp⟩
  · exact .inl rfl
  · exact .inl rfl
  · exact .inl rfl
def brsL (d0:D) (r:List D):List D:=[.lst [],.non,.str "",.int 0,.tup (d0 :: r),.dK [(.inl 0,.lst (d0 :: r))],.bl true,.lst (List.replicate 2001 [d0]).flatten]
theorem V0 (y:Int) (d0:D) (r:List D):∃ d,cR [.int y,.lst (d0 :: r)] = .ok d∧d ∈ brsL d0 r:=by
  have a:=at0 d0 r
  have e3:vp (repL (bF (aj (o2 ixD (gvo 1) (kc (.int 0))) az)) (kc (.int 2001))) [some (.sh (.int y)),some (.sh (.lst (d0 :: r))),none] = .ok (.lst (List.replicate 2001 [d0]).flatten):=by
    have e:bF (aj (o2 ixD (gvo 1) (kc (.int 0))) az) [some (.sh (.int y)),some (.sh (.lst (d0 :: r))),none] = .ok (.lst [d0]):=uM (aC (by walk_at "ev: a") rfl) (fj (by simp))
    refine afc ?_
    unfold repL
    rw [e,Out.aJ]
    show ((Out.ok (D.int 2001)).bind _) = _
    rw [Out.aJ]
    dsimp only
    rw [if_pos ⟨by decide,by decide,fj (by simp)⟩]
    rfl
  have e1:=uM (fr:=aj (bF az) (aj (kc .non) (aj (kc (.str "")) (aj (kc (.int 0)) (aj (oC (Dt nU) (aj (gv 1) az)) (aj (mkD1 (kc (.int 0)) (gv 1)) (aj (kc (.bl true)) (aj (vp (repL (bF (aj (o2 ixD (gvo 1) (kc (.int 0))) az)) (kc (.int 2001)))) az)))))))) (δ:=[some (.sh (.int y)),some (.sh (.lst (d0 :: r))),none]) (ds:=brsL d0 r) (aC (uM rfl (fj (by simp))) (aC rfl (aC rfl (aC rfl (aC rfl (aC rfl (aC rfl (aC e3 rfl)))))))) (fj (by simp [brsL]))
  obtain ⟨d,hd,e2⟩:=get_at (L:=brsL d0 r) (f:=gv 0) (δ:=[some (.sh (.int y)),some (.sh (.lst (d0 :: r))),some (.sh (.lst (brsL d0 r)))]) (i:=2) (m:=8) (y:=y) rfl rfl rfl (by decide)
  refine ⟨d,?_,hd⟩
  show ((nj [some (.sh (.int y)),some (.sh (.lst (d0 :: r))),none]).bind m9).bL = _
  unfold nj
  exact aW (uO e1 rfl) (ud e2)
theorem brs_bad (d0:D) (r:List D) (n:Int) (t:Bool):∀ d ∈ brsL d0 r,bh [d,.int n,.bl t] = .ex (bad (-1) (-1)):=by
  intro d hd
  unfold brsL at hd
  simp only [List.mem_cons,List.not_mem_nil,or_false] at hd
  rcases hd with rfl | rfl | rfl | rfl | rfl | rfl | rfl | rfl
  · exact QF _ _ _ (.inl rfl)
  · exact nJ _ _ _ rfl
  · exact nJ _ _ _ rfl
  · exact nJ _ _ _ rfl
  · exact nJ _ _ _ rfl
  · exact nJ _ _ _ rfl
  · exact nJ _ _ _ rfl
  · exact QF _ _ _ (.inr (by simp))
end K2
namespace K2
open PySem L2 MX DL
theorem afb {L:List D} {f fm:DSt→Out D} {δ:DSt} {i:Nat} {y:Int} (hf:gvo i δ = .ok (.lst L)) (hy:f δ = .ok (.int y)) (hm:fm δ = .ok (.int (L.length:Nat))) (hl:1 ≤ L.length):∃ d,d ∈ L∧o2 ixD (gvo i) (o2 cB f fm) δ = .ok d:=by
  obtain ⟨n,e,hn⟩:=jm y (m:=L.length) hl
  refine ⟨L[n],List.getElem_mem _,?_⟩
  have a:atI L (n:Int) = some L[n]:=by
    rw [atI_n hn]
    exact List.getElem?_eq_getElem _
  have p:(0:Int) < (L.length:Int):=by omega
  have q:cB (.int y) (.int (L.length:Int)) = some (.int (y % (L.length:Int))):=by
    unfold cB
    dsimp only
    rw [if_pos p]
  have e2:o2 cB f fm δ = .ok (.int (n:Int)):=by
    unfold o2
    rw [hy,Out.aJ,hm,Out.aJ,q,Out.gw,e]
  show (gvo i δ).bind (fun x=>(o2 cB f fm δ).bind fun y'=>Out.opt (ixD x y')) = _
  rw [hf,Out.aJ,e2,Out.aJ]
  show Out.opt (atI L (n:Int)) = _
  rw [a]
  rfl
theorem add_l {fa fb:DSt→Out D} {δ:DSt} {a b:List D} (ha:fa δ = .ok (.lst a)) (hb:fb δ = .ok (.lst b)) (hl:a.length + b.length ≤ 1000):o2 dF fa fb δ = .ok (.lst (a ++ b)):=by
  unfold o2
  rw [ha,Out.aJ,hb,Out.aJ]
  unfold dF
  dsimp only
  rw [if_pos (fj (by omega))]
  rfl
theorem cat_ok {fa fb:DSt→Out D} {δ:DSt} {a b:List D} (ha:fa δ = .ok (.lst a)) (hb:fb δ = .ok (.lst b)) (hl:a.length + b.length ≤ 1000):catL fa fb δ = .ok (a ++ b):=by
  unfold catL
  rw [ha,Out.aJ,hb,Out.aJ]
  dsimp only
  rw [if_pos (fj (by omega))]
theorem chk_ok {fr:DSt→Out (List D)} {δ:DSt} {ds:List D} (h:fr δ = .ok ds) (hl:ds.length ≤ 1000):Ey fr δ = .ok ds:=by
  unfold Ey
  rw [h,Out.aJ,if_pos (fj (by omega))]
theorem tZ {f:DSt→Out D} {δ:DSt} {d:D} (h:f δ = .ok d):bF (aj f az) δ = .ok (.lst [d]):=uM (aC h rfl) (fj (by simp))
theorem l2_ok {f g:DSt→Out D} {δ:DSt} {d e:D} (h:f δ = .ok d) (h2:g δ = .ok e):bF (aj f (aj g az)) δ = .ok (.lst [d,e]):=uM (aC h (aC h2 rfl)) (fj (by simp))
def ba1 (nd:List D) (k:D):List D:=[.lst [],.non,.str "a",.tup nd,.dK [(.inr "a",.int 0)],.int 0,.lst (nd ++ [k]),.lst [.str ""],.lst [.str "A"],.lst [.str "a1"]]
def ba2:D:=.lst [.str "a b"]
def ba3 (nd:List D):List D:=[.lst [.str "abcdefghi"],.lst [.non],.lst [.int 1],.lst [.lst [.str "a"]],.lst (nd ++ [.str ""]),.lst (nd ++ [.str "aB"]),.lst [.str "a",.str "a"],.lst [.str " a"],.lst [.str "-"]]
def ba4:List D:=[.lst [.str "a",.str "b",.str "c",.str "d",.str "e",.str "f",.str "g",.str "h",.str "i"],.lst [.tup [.str "a"]],.lst [.bl true],.lst [.str "a",.non]]
def baL (nd:List D) (k:D):List D:=ba1 nd k ++ [ba2] ++ ba3 nd ++ ba4
theorem aaY (y:Int) (nd:List D) (h1:1 ≤ nd.length) (h8:nd.length ≤ 8):∃ k d,k ∈ nd∧cj [.int y,.lst nd] = .ok d∧d ∈ baL nd k:=by
  obtain ⟨k,hk,ek⟩:=afb (L:=nd) (f:=o2 eQ (gv 0) (kc (.int 32))) (fm:=o1 d9 (gb 1)) (δ:=[some (.sh (.int y)),some (.sh (.lst nd)),none]) (i:=1) (y:=y / 32) rfl (by kernel_rfl) rfl h1
  have e7:=add_l (fa:=gv 1) (δ:=[some (.sh (.int y)),some (.sh (.lst nd)),none]) (a:=nd) rfl (tZ ek) (by simp; omega)
  have e1:=chk_ok (aC (f:=bF az) (δ:=[some (.sh (.int y)),some (.sh (.lst nd)),none]) (d:=.lst []) (uM rfl (fj (by simp))) (aC (f:=kc .non) rfl (aC (f:=kc (.str "a")) rfl (aC (f:=oC (Dt nU) (aj (gv 1) az)) (d:=.tup nd) rfl (aC (f:=mkD1 (kc (.str "a")) (kc (.int 0))) (d:=.dK [(.inr "a",.int 0)]) rfl (aC (f:=kc (.int 0)) rfl (aC e7 (aC (tZ (f:=kc (.str "")) rfl) (aC (tZ (f:=kc (.str "A")) rfl) (aC (tZ (f:=kc (.str "a1")) rfl) (rfl:az _ = .ok []))))))))))) (by simp)
  have f1:∀ l:List D,gv 1 [some (.sh (.int y)),some (.sh (.lst nd)),some (.sh (.lst l))] = .ok (.lst nd):=fun _=>rfl
  have e3:=uM (aC (f:=bF (aj (kc (.str "abcdefghi")) az)) (δ:=[some (.sh (.int y)),some (.sh (.lst nd)),some (.sh (.lst (ba1 nd k ++ [ba2])))]) (tZ rfl) (aC (tZ (f:=kc .non) rfl) (aC (tZ (f:=kc (.int 1)) rfl) (aC (tZ (tZ (f:=kc (.str "a")) rfl)) (aC (add_l (f1 _) (tZ (f:=kc (.str "")) rfl) (by simp; omega)) (aC (add_l (f1 _) (tZ (f:=kc (.str "aB")) rfl) (by simp; omega)) (aC (l2_ok (f:=kc (.str "a")) (g:=kc (.str "a")) rfl rfl) (aC (tZ (f:=kc (.str " a")) rfl) (aC (tZ (f:=kc (.str "-")) rfl) (rfl:az _ = .ok [])))))))))) (fj (by simp))
  obtain ⟨d,hd,e5⟩:=afb (L:=baL nd k) (f:=gv 0) (fm:=kc (.int 24)) (δ:=[some (.sh (.int y)),some (.sh (.lst nd)),some (.ol (baL nd k))]) (i:=2) (y:=y) rfl rfl rfl (by simp [baL,ba1,ba3,ba4])
  refine ⟨k,d,hk,?_,hd⟩
  show ((jW [some (.sh (.int y)),some (.sh (.lst nd)),none]).bind m9).bL = _
  unfold jW
  refine aW (δ':=[some (.sh (.int y)),some (.sh (.lst nd)),some (.ol (ba1 nd k))]) (aax e1 rfl) ?_
  refine aW (δ':=[some (.sh (.int y)),some (.sh (.lst nd)),some (.ol (ba1 nd k ++ [ba2]))]) (app_ol (ds:=ba1 nd k) rfl (tZ (f:=kc (.str "a b")) rfl) (fj (by simp [ba1])) rfl) ?_
  refine aW (δ':=[some (.sh (.int y)),some (.sh (.lst nd)),some (.ol (ba1 nd k ++ [ba2] ++ ba3 nd))]) (aax (δ:=[some (.sh (.int y)),some (.sh (.lst nd)),some (.sh (.lst (ba1 nd k ++ [ba2])))]) (cat_ok rfl e3 (by simp [ba1])) rfl) ?_
  refine aW (δ':=[some (.sh (.int y)),some (.sh (.lst nd)),some (.ol (baL nd k))]) (aax (δ:=[some (.sh (.int y)),some (.sh (.lst nd)),some (.sh (.lst (ba1 nd k ++ [ba2] ++ ba3 nd)))]) (cat_ok (b:=ba4) rfl (by kernel_rfl) (by simp [ba1,ba3,ba4])) rfl) ?_
  exact ud e5
end K2
namespace K2
open PySem L2 MX DL
theorem acts_no1 (d:D) (h:bQ d = some false):bc [d] = .ok (.bl false):=by
  unfold bc fW
  walk_at "ev: h"
def nmB' (d:D):Bool:=match cL [d] with
  | .ok (.bl b)=>b
  | _=>false
theorem nmB_of {d:D} {b:Bool} (h:cL [d] = .ok (.bl b)):nmB' d = b:=by
  unfold nmB'
  rw [h]
theorem acts_no3 (ds:List D) (h1:1 ≤ ds.length) (h8:ds.length ≤ 8) (h:∀ d ∈ ds,∃ b,cL [d] = .ok (.bl b)) (d0:D) (hd:d0 ∈ ds) (h0:cL [d0] = .ok (.bl false)):bc [.lst ds] = .ok (.bl false):=by
  have a1:(1:Int) ≤ (ds.length:Int):=by omega
  have a2:(ds.length:Int) ≤ 8:=by omega
  have e:=jc (cap:=[none]) (fi:=jZ (gv 0)) (fe:=cA) (δ:=[some (.sh (.lst ds))]) (fun d:D=>d) (fun d=>D.bl (nmB' d)) ds (by rw [List.map_id']; rfl) (by omega) (fun d hd=>by
    unfold cA
    obtain ⟨b,e⟩:=h d hd
    have e2:=nmB_of e
    show oF 1 cL (aj (gv 0) az) [some (.sh d)] = _
    walk_at "ev: e e2")
  have e2:=En nmB' ds
  have e3:ds.all nmB' = false:=by
    cases q:ds.all nmB' with
    | false=>rfl
    | true =>
      have:=List.all_eq_true.mp q d0 hd
      rw [nmB_of h0] at this
      cases this
  unfold bc fW
  walk_at "ev: bQ oR a1 a2 e e2 e3"
theorem acts_no4 (ns:List (List Nat)) (N:Names ns) (h7:ns.length ≤ 7) (k:D) (hk:k ∈ aH ns):bc [.lst (aH ns ++ [k])] = .ok (.bl false):=by
  have h1:=N.lo
  have e5:(aH ns ++ [k]).length = ns.length + 1:=by simp [aH]
  have a1:(1:Int) ≤ ((aH ns ++ [k]).length:Int):=by omega
  have a2:((aH ns ++ [k]).length:Int) ≤ 8:=by omega
  obtain ⟨l,hl,rfl⟩:=List.mem_map.mp hk
  have q:aH ns ++ [D.str (ofL l)] = (ns ++ [l]).map fun l=>D.str (ofL l):=by unfold aH; simp
  have e:=jc (cap:=[none]) (fi:=jZ (gv 0)) (fe:=cA) (δ:=[some (.sh (.lst (aH ns ++ [D.str (ofL l)])))]) (fun l=>D.str (ofL l)) (fun _=>D.bl true) (ns ++ [l]) (by rw [← q]; rfl) (by simp; omega) (fun l' hl'=>by
    unfold cA
    have m:l' ∈ ns:=by
      rcases List.mem_append.mp hl' with z | z
      · exact z
      · rw [List.mem_singleton.mp z]; exact hl
    have e:=acL l' (N.ok l' m)
    show oF 1 cL (aj (gv 0) az) [some (.sh (.str (ofL l')))] = _
    walk_at "ev: e")
  have e2:=En (fun _:List Nat=>true) (ns ++ [l])
  have e3:(ns ++ [l]).all (fun _=>true) = true:=by simp
  have e4:Dk (.lst (aH ns ++ [D.str (ofL l)])) = some (.int ns.length):=by
    unfold Dk
    have q2:aH ns ++ [D.str (ofL l)] = (ns.map ofL ++ [ofL l]).map D.str:=by unfold aH; simp
    simp only [vo,Option.bind_some,q2,Jt]
    have nd:(ns.map ofL).Nodup:=List.pairwise_map.mpr (N.nd.imp fun h q=>h (afh q))
    have nn:oZ [] (ns.map ofL) = ns.map ofL:=by
      have:=Dp (ns.map ofL) [] (by simpa using nd)
      simpa using this
    have mm:(ns.map ofL).contains (ofL l) = true:=List.contains_iff_mem.mpr (List.mem_map.mpr ⟨l,hl,rfl⟩)
    rw [if_pos (by simp; omega),Aw,nn,if_pos mm]
    simp
  have e6:((ns.length:Int) == ((aH ns ++ [D.str (ofL l)]).length:Int)) = false:=beq_eq_false_iff_ne.mpr (by omega)
  unfold bc fW
  walk_at "ev: bQ oR a1 a2 e e2 e3 e4 e6"
theorem nm_no1:cL [.str ""] = .ok (.bl false):=by kernel_rfl
theorem nm_no2:cL [.str "aB"] = .ok (.bl false):=by kernel_rfl
theorem abf (ns:List (List Nat)) (N:Names ns) (h7:ns.length ≤ 7) (x:D) (hx:cL [x] = .ok (.bl false)):bc [.lst (aH ns ++ [x])] = .ok (.bl false):=by
  have e5:(aH ns ++ [x]).length = ns.length + 1:=by simp [aH]
  refine acts_no3 _ (by omega) (by omega) (fun d hd=>?_) x (by simp) hx
  rcases List.mem_append.mp hd with z | z
  · obtain ⟨l,hl,rfl⟩:=List.mem_map.mp z
    exact ⟨true,acL l (N.ok l hl)⟩
  · rw [List.mem_singleton.mp z]; exact ⟨false,hx⟩
theorem ba_bad (ns:List (List Nat)) (N:Names ns) (h7:ns.length ≤ 7) (k:D) (hk:k ∈ aH ns):∀ d ∈ baL (aH ns) k,bc [d] = .ok (.bl false):=by
  intro d hd
  have k1:=acts_no4 ns N h7 k hk
  have k2:=abf ns N h7 _ nm_no1
  have k3:=abf ns N h7 _ nm_no2
  have k4:=acts_no1 (.tup (aH ns)) rfl
  unfold baL ba1 ba2 ba3 ba4 at hd
  simp only [List.cons_append,List.nil_append,List.mem_cons,List.not_mem_nil,or_false] at hd
  rcases hd with rfl | rfl | rfl | rfl | rfl | rfl | rfl | rfl | rfl | rfl | rfl | rfl | rfl | rfl | rfl | rfl | rfl | rfl | rfl | rfl | rfl | rfl | rfl | rfl
  all_goals first | exact k1 | exact k2 | exact k3 | exact k4 | kernel_rfl
end K2
namespace K2
open PySem L2 MX DL
theorem PB {n:Nat} (h:1 ≤ n):ixN n (-1) = some (n - 1):=by
  unfold ixN
  rw [if_neg (by decide),if_pos (by omega)]
  congr 1
  omega
section
variable {ns:List (List Nat)} {rows:List (List Dr)} {many rm ac:Nat} {x y:Int} {s:Sl} {es:List Mx}
def stS (ns:List (List Nat)) (rows:List (List Dr)) (x y:Int) (rm ac:Nat) (s:Option Sl):DSt:=[some (.sh (.lst (aH ns))),some (.sh (bG rows)),some (.sh (.int x)),some (.sh (.int y)),some (.sh (.int (x % 8))),some (.sh (.int rm)),some (.sh (.int ac)),s]
theorem ad5 (h:Qc s = .omx es):mix 7 (stS ns rows x y rm ac (some s)) = stS ns rows x y rm ac (some (.omx es)):=by
  rw [← h]
  rfl
theorem afk {fe fk fl:DSt→Out D} {δ:DSt} {d:D} {es:List Mx} {ds:List D} {k l:Int} {j m i:Nat} (h0:fe δ = .ok d) (h1:δ[i]? = some (some (.omx es))) (h2:fk δ = .ok (.int k)) (h3:ixN es.length k = some j) (h4:es[j]? = some (.own ds)) (h5:fl δ = .ok (.int l)) (h6:ixN ds.length l = some m):iy i fe fk fl δ = .ok (.nx (δ.set i (some (.omx (es.set j (.own (ds.set m d))))))):=by
  unfold iy
  rw [h0,Out.aJ,h1]
  dsimp only
  rw [h2,Out.aJ]
  dsimp only
  rw [h3]
  dsimp only
  rw [h4]
  dsimp only
  rw [h5,Out.aJ]
  dsimp only
  rw [h6]
theorem putM_ok {fe fk:DSt→Out D} {δ:DSt} {d:D} {es:List Mx} {k:Int} {j i:Nat} (h0:fe δ = .ok d) (h1:δ[i]? = some (some (.omx es))) (h2:fk δ = .ok (.int k)) (h3:ixN es.length k = some j):zY i fe fk δ = .ok (.nx (δ.set i (some (.omx (es.set j (.fix d)))))):=by
  unfold zY
  rw [h0,Out.aJ,h1]
  dsimp only
  rw [h2,Out.aJ]
  dsimp only
  rw [h3]
theorem ixM_ok {fk:DSt→Out D} {δ:DSt} {d:D} {es:List Mx} {k:Int} {j i:Nat} (h1:δ[i]? = some (some (.omx es))) (h2:fk δ = .ok (.int k)) (h3:ixN es.length k = some j) (h4:es[j]? = some (.fix d)):ixM i fk δ = .ok d:=by
  unfold ixM
  rw [h1]
  dsimp only
  rw [h2,Out.aJ]
  dsimp only
  rw [h3]
  dsimp only
  rw [h4]
theorem frzIn_ok {δ:DSt} {es:List Mx} {ds:List D} {k:Int} {j i:Nat} (h1:δ[i]? = some (some (.omx es))) (h3:ixN es.length k = some j) (h4:es[j]? = some (.own ds)):Pg i k δ = δ.set i (some (.omx (es.set j (.fix (.lst ds))))):=by
  unfold Pg adG
  rw [h1]
  dsimp only
  rw [h3]
  dsimp only
  rw [h4]
theorem aco {fk fz:DSt→Out D} {k z:Int} {j:Nat} {d0:D} {r:List D} (hk:∀ s,fk (stS ns rows x y rm ac s) = .ok (.int k)) (hz:∀ s,fz (stS ns rows x y rm ac s) = .ok (.int z)) (hs:Qc s = .omx es) (hj:ixN es.length k = some j) (he:es[j]? = some (.own (d0 :: r))) (hr:r.length ≤ 100) :
    ∃ d,d ∈ brL d0 r∧vA 7 (rF 7 fk (zY 7 (oF 2 bM (aj fz (aj (ixM 7 fk) az))) fk)) (stS ns rows x y rm ac (some s)) = .ok (.nx (stS ns rows x y rm ac (some (.omx (es.set j (.fix d)))))):=by
  obtain ⟨d,e,hd⟩:=aa0 z d0 r hr
  refine ⟨d,hd,?_⟩
  have jl:j < es.length:=(List.getElem?_eq_some_iff.mp he).1
  show rF 7 fk _ (mix 7 (stS ns rows x y rm ac (some s))) = _
  rw [ad5 hs]
  unfold rF
  rw [hk]
  dsimp only
  rw [frzIn_ok (δ:=stS ns rows x y rm ac (some (.omx es))) (es:=es) rfl hj he]
  show zY 7 _ _ (stS ns rows x y rm ac (some (.omx (es.set j (.fix (.lst (d0 :: r))))))) = _
  have e2:ixM 7 fk (stS ns rows x y rm ac (some (.omx (es.set j (.fix (.lst (d0 :: r))))))) = .ok (.lst (d0 :: r)):=ixM_ok rfl (hk _) (by rw [List.length_set]; exact hj) (by rw [List.getElem?_set_self jl])
  rw [putM_ok (d:=d) (es:=es.set j (.fix (.lst (d0 :: r)))) (k:=k) (j:=j) (sr (n:=2) (ds:=[.int z,.lst (d0 :: r)]) (aC (hz _) (aC e2 rfl)) rfl e) rfl (hk _) (by rw [List.length_set]; exact hj),List.set_set]
  rfl
end
end K2
namespace K2
open PySem L2 MX DL
structure ug (rows:List (List Dr)) (acts rm:Nat) (es:List Mx) (ds:List D):Prop where
  len:es.length = rows.length
  pre:∀ i r,i < rm→rows[i]? = some r→es[i]? = some (.own (r.map Dr.d))
  own:es[rm]? = some (.own ds)
  dl:ds.length = acts
  door:∃ r,rows[rm]? = some r∧∀ k,k + 1 < acts→ds[k]? = (r.map Dr.d)[k]?
section
variable {rows:List (List Dr)} {many acts rm:Nat} {es:List Mx} {ds:List D} {t:Bool}
theorem aeM {x:Dr} (h:x.ok many false) (t:Bool):aN [x.d,.int many,.bl t] = .ok (.bl true):=by
  cases t with
  | false=>exact sS x many false h
  | true=>exact sS x many true (Dr.weak h)
theorem ug.split (N:ug rows acts rm es ds) (e:Mx) (hrm:rm < rows.length):(es.set rm e).map Mx.d = ((rows.take rm).map fun r=>r.map Dr.d).map D.lst ++ e.d :: (es.drop (rm + 1)).map Mx.d:=by
  have lt:rm < es.length:=by rw [N.len]; exact hrm
  rw [List.set_eq_take_append_cons_drop,if_pos lt,List.map_append,List.map_cons]
  congr 1
  refine List.ext_getElem? fun i=>?_
  rw [List.getElem?_map,List.map_map,List.getElem?_map]
  by_cases hi:i < rm
  · rw [List.getElem?_take_of_lt hi,List.getElem?_take_of_lt hi]
    have lr:i < rows.length:=by omega
    have e1:rows[i]? = some rows[i]:=List.getElem?_eq_getElem lr
    rw [N.pre i _ hi e1,e1]
    rfl
  · rw [List.getElem?_eq_none (by rw [List.length_take]; omega),List.getElem?_eq_none (by rw [List.length_take]; omega)]
    rfl
theorem ug.good (N:ug rows acts rm es ds) (R:Rows many acts false rows) (hrm:rm < many) (m:Nat) (hm:m = many) (t:Bool):∀ l ∈ (rows.take rm).map fun r=>r.map Dr.d,l.length = acts∧∀ d ∈ l,aN [d,.int m,.bl t] = .ok (.bl true):=by
  intro l hl
  obtain ⟨r,hr,rfl⟩:=List.mem_map.mp hl
  have q:=R.row r (List.mem_of_mem_take hr)
  refine ⟨by rw [List.length_map]; exact q.1,fun d hd=>?_⟩
  obtain ⟨x,hx,rfl⟩:=List.mem_map.mp hd
  rw [hm]
  exact aeM (q.2 x hx) t
theorem ug.sizes (N:ug rows acts rm es ds) (R:Rows many acts false rows) (hrm:rm < many):((rows.take rm).map fun r=>r.map Dr.d).length = rm∧((rows.take rm).map fun r=>r.map Dr.d).length + 1 + ((es.drop (rm + 1)).map Mx.d).length = many:=by
  have h1:=R.n
  have h2:=N.len
  constructor
  · rw [List.length_map,List.length_take]; omega
  · rw [List.length_map,List.length_take,List.length_map,List.length_drop]; omega
theorem ug.room (N:ug rows acts rm es ds) (R:Rows many acts false rows) (h2:many ≤ 2000) (hrm:rm < many) (d:D) (hd:bQ d = some false ∨ ∃ l,d = .lst l∧l.length ≠ acts):bh [.lst ((es.set rm (.fix d)).map Mx.d),.int acts,.bl t] = .ex (bad rm (-1)):=by
  obtain ⟨z1,z2⟩:=N.sizes R hrm
  rw [N.split _ (by rw [R.n]; exact hrm)]
  refine QG (by omega) (N.good R hrm _ z2 t) fun rs hrs c d'=>?_
  rw [z1]
  exact lb1_bad (by omega) hd
theorem ug.bdoor (N:ug rows acts rm es ds) (R:Rows many acts false rows) (h2:many ≤ 2000) (h8:acts ≤ 8) (hrm:rm < many) (ac:Nat) (hac:ac < acts) (bd:D) (hb:∀ t,aN [bd,.int many,.bl t] = .ok (.bl false)):bh [.lst ((es.set rm (.own (ds.set ac bd))).map Mx.d),.int acts,.bl t] = .ex (bad rm ac):=by
  obtain ⟨z1,z2⟩:=N.sizes R hrm
  rw [N.split _ (by rw [R.n]; exact hrm)]
  refine QG (by omega) (N.good R hrm _ z2 t) fun rs hrs c d'=>?_
  have lt:ac < ds.length:=by rw [N.dl]; exact hac
  have q:ds.set ac bd = ds.take ac ++ bd :: ds.drop (ac + 1):=by rw [List.set_eq_take_append_cons_drop,if_pos lt]
  have tl:(ds.take ac).length = ac:=by rw [List.length_take]; omega
  have e:=abX (rs:=rs) (pre:=ds.take ac) (post:=ds.drop (ac + 1)) (acts:=acts) (t:=t) (i:=rm) (x:=bd) (c:=c) (d:=d') (by omega) (by omega) (by rw [← q,List.length_set]; exact N.dl) (fun d hd=>by
    obtain ⟨k,hk⟩:=List.getElem?_of_mem hd
    obtain ⟨r,hr,hdo⟩:=N.door
    have kl:k < ac:=by
      have:=(List.getElem?_eq_some_iff.mp hk).1
      omega
    rw [List.getElem?_take_of_lt kl,hdo k (by omega),List.getElem?_map] at hk
    obtain ⟨x,hx,rfl⟩:=Option.map_eq_some_iff.mp hk
    rw [hrs,z2]
    exact aeM ((R.row r (List.mem_of_getElem? hr)).2 x (List.mem_of_getElem? hx)) t) (by rw [hrs,z2]; exact hb t)
  rw [z1]
  show bN (mU (.lst rs) acts t (some (.sh (.int rm))) (some (.sh (.lst (ds.set ac bd)))) c d') = _
  rw [q,e,tl]
end
end K2
namespace K2
open PySem L2 MX DL
theorem zX {t:DSt→Out Bool} {A B:DSt→Out Fl} {δ:DSt} (h:t δ = .ok false):sIf t A B δ = B δ:=by
  unfold sIf
  rw [h]
  rfl
theorem nR {fr:DSt→Out (List D)} {δ:DSt} {ds:List D} (h:fr δ = .ok ds) (hl:ds.length ≤ 1000):aX fr δ = .ok (.tup ds):=by
  unfold aX
  rw [h,Out.aJ,if_pos (fj (by omega))]
theorem Y0 {f fm:DSt→Out D} {δ:DSt} {a:Int} {m:Int} (h:f δ = .ok (.int a)) (h2:fm δ = .ok (.int m)) (hm:0 < m):o2 cB f fm δ = .ok (.int (a % m)):=by
  unfold o2
  rw [h,Out.aJ,h2,Out.aJ]
  unfold cB
  dsimp only
  rw [if_pos hm]
  rfl
theorem Lh {f:DSt→Out D} {δ:DSt} {a:Int} (h:f δ = .ok (.int a)) (c:Int):o2b eqD f (kc (.int c)) δ = .ok (a == c):=by
  walk_at "ev: h"
section
variable {ns:List (List Nat)} {rows:List (List Dr)} {many acts rm ac:Nat} {x y:Int} {s:Sl} {es:List Mx} {ds:List D}
def Last (rows:List (List Dr)) (acts:Nat) (es:List Mx):Prop:=∃ dl,es[rows.length - 1]? = some (.own dl)∧dl.length = acts
theorem acn {fX:DSt→Out D} {X:D} (hX:∀ s,fX (stS ns rows x y rm ac s) = .ok X) (hs:Qc s = .omx es) (N:ug rows acts rm es ds) (L:Last rows acts es) (h1:1 ≤ rows.length) (ha:1 ≤ acts) (hrm:rm < rows.length) :
    ∃ es' ds',vA 7 (iy 7 fX (o1 bY (kc (.int 1))) (o1 bY (kc (.int 1)))) (stS ns rows x y rm ac (some s)) = .ok (.nx (stS ns rows x y rm ac (some (.omx es'))))∧ug rows acts rm es' ds'∧Last rows acts es':=by
  obtain ⟨dl,hl,hdl⟩:=L
  have el:=N.len
  have lt:rows.length - 1 < es.length:=by omega
  have e:vA 7 (iy 7 fX (o1 bY (kc (.int 1))) (o1 bY (kc (.int 1)))) (stS ns rows x y rm ac (some s)) = .ok (.nx (stS ns rows x y rm ac (some (.omx (es.set (rows.length - 1) (.own (dl.set (acts - 1) X))))))):=by
    show iy 7 _ _ _ (mix 7 (stS ns rows x y rm ac (some s))) = _
    rw [ad5 hs,afk (d:=X) (es:=es) (ds:=dl) (k:=-1) (l:=-1) (j:=rows.length - 1) (m:=acts - 1) (hX _) rfl rfl (by rw [el]; exact PB h1) hl rfl (by rw [hdl]; exact PB ha)]
    rfl
  by_cases q:rm = rows.length - 1
  · have ed:ds = dl:=by
      have:=N.own
      rw [q,hl] at this
      cases this
      rfl
    subst ed
    refine ⟨_,ds.set (acts - 1) X,e,⟨by rw [List.length_set]; exact el,fun i r hi hr=>?_,by rw [q,List.getElem?_set_self lt],by rw [List.length_set]; exact hdl,?_⟩,_,by rw [List.getElem?_set_self lt],by rw [List.length_set]; exact hdl⟩
    · rw [List.getElem?_set_ne (by omega)]
      exact N.pre i r hi hr
    · obtain ⟨r,hr,hd⟩:=N.door
      refine ⟨r,hr,fun k hk=>?_⟩
      rw [List.getElem?_set_ne (by omega)]
      exact hd k hk
  · refine ⟨_,ds,e,⟨by rw [List.length_set]; exact el,fun i r hi hr=>?_,?_,N.dl,N.door⟩,_,by rw [List.getElem?_set_self lt],by rw [List.length_set]; exact hdl⟩
    · rw [List.getElem?_set_ne (by omega)]
      exact N.pre i r hi hr
    · rw [List.getElem?_set_ne (by omega)]
      exact N.own
theorem ug.cut (N:ug rows acts rm es ds) {j:Nat} (hj:rm < j) (e:Mx):ug rows acts rm (es.set j e) ds :=
  ⟨by rw [List.length_set]; exact N.len,fun i r hi hr=>by rw [List.getElem?_set_ne (by omega)]; exact N.pre i r hi hr,by rw [List.getElem?_set_ne (by omega)]; exact N.own,N.dl,N.door⟩
theorem near0 (R:Rows many acts false rows) {r:List Dr} (hr:rows[rm]? = some r):ug rows acts rm (rows.map fun r=>.own (r.map Dr.d)) (r.map Dr.d) :=
  ⟨by rw [List.length_map],fun i r' _ hr'=>by rw [List.getElem?_map,hr']; rfl,by rw [List.getElem?_map,hr]; rfl,by rw [List.length_map]; exact (R.row r (List.mem_of_getElem? hr)).1,r,hr,fun _ _=>rfl⟩
theorem last0 (R:Rows many acts false rows) (h1:1 ≤ rows.length):Last rows acts (rows.map fun r=>.own (r.map Dr.d)):=by
  have lt:rows.length - 1 < rows.length:=by omega
  exact ⟨rows[rows.length - 1].map Dr.d,by rw [List.getElem?_map,List.getElem?_eq_getElem lt]; rfl,by rw [List.length_map]; exact (R.row _ (List.getElem_mem _)).1⟩
end
end K2
namespace K2
open PySem L2 MX DL
section
variable {ns:List (List Nat)} {rows:List (List Dr)} {many rm ac:Nat} {x y:Int} {s:Sl} {es:List Mx} {ds:List D}
theorem q_ok (s:Option Sl):o2 cB (o2 eQ (gv 2) (kc (.int 512))) (kc (.int 4)) (stS ns rows x y rm ac s) = .ok (.int (x / 512 % 4)):=by kernel_rfl
theorem Vw {δ:DSt} (h:gb 1 δ = .ok (bG rows)):o1 d9 (gb 1) δ = .ok (.int (rows.length:Nat)):=by
  unfold o1
  rw [h,Out.aJ]
  unfold bG
  show Out.ok (D.int ((List.map _ rows).length:Nat)) = _
  rw [List.length_map]
theorem len_n {δ:DSt} (h:gb 0 δ = .ok (.lst (aH ns))):o1 d9 (gb 0) δ = .ok (.int (ns.length:Nat)):=by
  unfold o1
  rw [h,Out.aJ]
  unfold aH
  show Out.ok (D.int ((List.map _ ns).length:Nat)) = _
  rw [List.length_map]
theorem Yh {l:List D} (h:1 ≤ l.length):∃ d r,l = d :: r:=by
  cases l with
  | nil=>simp at h
  | cons d r=>exact ⟨d,r,rfl⟩
theorem three (R:Rows many ns.length false rows) (h1:1 ≤ rows.length) (ha:1 ≤ ns.length) (h8:ns.length ≤ 8) (hrm:rm < rows.length) (hs:Qc s = .omx es) (N:ug rows ns.length rm es ds) (L:Last rows ns.length es) :
    ∃ s' es' ds',Qc s' = .omx es'∧ug rows ns.length rm es' ds'∧∀ (B:DSt→Out Fl) (res:Out D),((B (stS ns rows x y rm ac (some s'))).bind m9).bL = res →
    ((bA (sIf (o2b eqD (o2 cB (o2 eQ (gv 2) (kc (.int 512))) (kc (.int 4))) (kc (.int 1))) (vA 7 (iy 7 (aX (aj (kc (.str "open")) (aj (kc .non) az))) (o1 bY (kc (.int 1))) (o1 bY (kc (.int 1))))) eN)
      (bA (sIf (o2b eqD (o2 cB (o2 eQ (gv 2) (kc (.int 512))) (kc (.int 4))) (kc (.int 2))) (vA 7 (iy 7 (aX (aj (kc (.str "torn")) (aj (kc .non) az))) (o1 bY (kc (.int 1))) (o1 bY (kc (.int 1))))) eN)
      (bA (sIf (Er (o2b eqD (o2 cB (o2 eQ (gv 2) (kc (.int 512))) (kc (.int 4))) (kc (.int 3))) (o2b ltD (gb 5) (o2 zZ (o1 d9 (gb 1)) (kc (.int 1))))) (vA 7 (rF 7 (o1 bY (kc (.int 1))) (zY 7 (oF 2 bM (aj (o2 eQ (gv 2) (kc (.int 2048))) (aj (ixM 7 (o1 bY (kc (.int 1)))) az))) (o1 bY (kc (.int 1)))))) eN) B)) (stS ns rows x y rm ac (some s))).bind m9).bL = res:=by
  have A1:∃ s1 es1 ds1,sIf (o2b eqD (o2 cB (o2 eQ (gv 2) (kc (.int 512))) (kc (.int 4))) (kc (.int 1))) (vA 7 (iy 7 (aX (aj (kc (.str "open")) (aj (kc .non) az))) (o1 bY (kc (.int 1))) (o1 bY (kc (.int 1))))) eN (stS ns rows x y rm ac (some s)) = .ok (.nx (stS ns rows x y rm ac (some s1)))∧Qc s1 = .omx es1∧ug rows ns.length rm es1 ds1∧Last rows ns.length es1:=by
    cases q:(x / 512 % 4 == (1:Int)) with
    | false=>exact ⟨s,es,ds,(zX (by rw [Lh (q_ok _),q])).trans rfl,hs,N,L⟩
    | true =>
      obtain ⟨es',ds',e,N',L'⟩:=acn (fX:=aX (aj (kc (.str "open")) (aj (kc .non) az))) (X:=.tup [.str "open",.non]) (fun _=>nR rfl (by simp)) hs N L h1 ha hrm
      exact ⟨_,es',ds',(Kp (by rw [Lh (q_ok _),q])).trans e,rfl,N',L'⟩
  obtain ⟨s1,es1,ds1,e1,hs1,N1,L1⟩:=A1
  have A2:∃ s2 es2 ds2,sIf (o2b eqD (o2 cB (o2 eQ (gv 2) (kc (.int 512))) (kc (.int 4))) (kc (.int 2))) (vA 7 (iy 7 (aX (aj (kc (.str "torn")) (aj (kc .non) az))) (o1 bY (kc (.int 1))) (o1 bY (kc (.int 1))))) eN (stS ns rows x y rm ac (some s1)) = .ok (.nx (stS ns rows x y rm ac (some s2)))∧Qc s2 = .omx es2∧ug rows ns.length rm es2 ds2∧Last rows ns.length es2:=by
    cases q:(x / 512 % 4 == (2:Int)) with
    | false=>exact ⟨s1,es1,ds1,(zX (by rw [Lh (q_ok _),q])).trans rfl,hs1,N1,L1⟩
    | true =>
      obtain ⟨es',ds',e,N',L'⟩:=acn (fX:=aX (aj (kc (.str "torn")) (aj (kc .non) az))) (X:=.tup [.str "torn",.non]) (fun _=>nR rfl (by simp)) hs1 N1 L1 h1 ha hrm
      exact ⟨_,es',ds',(Kp (by rw [Lh (q_ok _),q])).trans e,rfl,N',L'⟩
  obtain ⟨s2,es2,ds2,e2,hs2,N2,L2⟩:=A2
  have lt:o2b ltD (gb 5) (o2 zZ (o1 d9 (gb 1)) (kc (.int 1))) (stS ns rows x y rm ac (some s2)) = .ok (decide ((rm:Int) < (rows.length:Int) - 1)):=by
    have e:=Vw (rows:=rows) (δ:=stS ns rows x y rm ac (some s2)) rfl
    have e3:gb 5 (stS ns rows x y rm ac (some s2)) = .ok (.int rm):=rfl
    unfold o2b o2
    rw [e3,Out.aJ,e,Out.aJ]
    rfl
  have A3:∃ s3 es3 ds3,sIf (Er (o2b eqD (o2 cB (o2 eQ (gv 2) (kc (.int 512))) (kc (.int 4))) (kc (.int 3))) (o2b ltD (gb 5) (o2 zZ (o1 d9 (gb 1)) (kc (.int 1))))) (vA 7 (rF 7 (o1 bY (kc (.int 1))) (zY 7 (oF 2 bM (aj (o2 eQ (gv 2) (kc (.int 2048))) (aj (ixM 7 (o1 bY (kc (.int 1)))) az))) (o1 bY (kc (.int 1)))))) eN (stS ns rows x y rm ac (some s2)) = .ok (.nx (stS ns rows x y rm ac (some s3)))∧Qc s3 = .omx es3∧ug rows ns.length rm es3 ds3:=by
    have ea:Er (o2b eqD (o2 cB (o2 eQ (gv 2) (kc (.int 512))) (kc (.int 4))) (kc (.int 3))) (o2b ltD (gb 5) (o2 zZ (o1 d9 (gb 1)) (kc (.int 1)))) (stS ns rows x y rm ac (some s2)) = .ok ((x / 512 % 4 == (3:Int)) && decide ((rm:Int) < (rows.length:Int) - 1)):=by
      unfold Er
      rw [Lh (q_ok _),Out.aJ,lt]
      cases (x / 512 % 4 == (3:Int)) <;> rfl
    cases q:((x / 512 % 4 == (3:Int)) && decide ((rm:Int) < (rows.length:Int) - 1)) with
    | false=>exact ⟨s2,es2,ds2,(zX (by rw [ea,q])).trans rfl,hs2,N2⟩
    | true =>
      have q2:=of_decide_eq_true (Bool.and_eq_true_iff.mp q).2
      obtain ⟨dl,hl,hdl⟩:=L2
      obtain ⟨d0,r,rfl⟩:=Yh (l:=dl) (by omega)
      obtain ⟨d,hd,e⟩:=aco (fk:=o1 bY (kc (.int 1))) (fz:=o2 eQ (gv 2) (kc (.int 2048))) (k:=-1) (z:=x / 2048) (fun _=>rfl) (fun _=>by kernel_rfl) hs2 (by rw [N2.len]; exact PB h1) hl (by simp at hdl; omega)
      exact ⟨_,_,ds2,(Kp (by rw [ea,q])).trans e,rfl,N2.cut (by omega) _⟩
  obtain ⟨s3,es3,ds3,e3,hs3,N3⟩:=A3
  exact ⟨s3,es3,ds3,hs3,N3,fun B res k=>aW e1 (aW e2 (aW e3 k))⟩
end
end K2
namespace K2
open PySem L2 MX DL
section
variable {ns:List (List Nat)} {rows:List (List Dr)} {many rm ac:Nat} {x y:Int} {s:Sl} {es:List Mx} {ds:List D}
theorem afq (N:Names ns) (h7:ns.length ≤ 7) (R:Rows many ns.length false rows) (h1:1 ≤ many) (h60:many ≤ 60) (x y:Int) (hx:0 ≤ x) (hy:0 ≤ y) :
    ∃ a h i j,cY [.lst (aH ns),bG rows,.int x,.int y] = .ok (.tup [a,h,.tup [.int i,.int j]])∧∀ t,yg t [a,h] = .ex (bad i j):=by
  have rn:=R.n
  have ha:=N.lo
  have h8:=N.hi
  obtain ⟨rm,erm,hrm⟩:=jm (x / 8) (m:=rows.length) (by omega)
  obtain ⟨ac,eac,hac⟩:=jm (x / 64) (m:=ns.length) ha
  have nl:(aH ns).length = ns.length:=by simp [aH]
  have b4:∀ s,gb 4 (stS ns rows x y rm ac s) = .ok (.int (x % 8)):=fun _=>rfl
  have start:∀ r,((bA (sIf (o2b eqD (gb 4) (kc (.int 0))) (bU (aX (aj (oF 2 cj (aj (gv 3) (aj (gv 0) az))) (aj (gv 1) (aj (aX (aj (o1 bY (kc (.int 1))) (aj (o1 bY (kc (.int 1))) az))) az))))) eN)
      (bA (sIf (o2b eqD (gb 4) (kc (.int 1))) (bU (aX (aj (gv 0) (aj (oF 2 cR (aj (gv 3) (aj (gv 1) az))) (aj (aX (aj (o1 bY (kc (.int 1))) (aj (o1 bY (kc (.int 1))) az))) az))))) eN)
      (bA (pN 7 (jJ [none] (jZ (gv 1)) (gN 0) (fun _=>.ok true) nA))
      (bA (sIf (o2b eqD (o2 cB (o2 eQ (gv 2) (kc (.int 512))) (kc (.int 4))) (kc (.int 1))) (vA 7 (iy 7 (aX (aj (kc (.str "open")) (aj (kc .non) az))) (o1 bY (kc (.int 1))) (o1 bY (kc (.int 1))))) eN)
      (bA (sIf (o2b eqD (o2 cB (o2 eQ (gv 2) (kc (.int 512))) (kc (.int 4))) (kc (.int 2))) (vA 7 (iy 7 (aX (aj (kc (.str "torn")) (aj (kc .non) az))) (o1 bY (kc (.int 1))) (o1 bY (kc (.int 1))))) eN)
      (bA (sIf (Er (o2b eqD (o2 cB (o2 eQ (gv 2) (kc (.int 512))) (kc (.int 4))) (kc (.int 3))) (o2b ltD (gb 5) (o2 zZ (o1 d9 (gb 1)) (kc (.int 1))))) (vA 7 (rF 7 (o1 bY (kc (.int 1))) (zY 7 (oF 2 bM (aj (o2 eQ (gv 2) (kc (.int 2048))) (aj (ixM 7 (o1 bY (kc (.int 1)))) az))) (o1 bY (kc (.int 1)))))) eN)
      (bA (sIf (o2b eqD (gb 4) (kc (.int 2))) (bA (vA 7 (rF 7 (gv 5) (zY 7 (oF 2 bM (aj (gv 3) (aj (ixM 7 (gv 5)) az))) (gv 5))))
        (Bg 7 (bU (aX (aj (gv 0) (aj (gv 7) (aj (aX (aj (gv 5) (aj (o1 bY (kc (.int 1))) az))) az))))))) eN)
      (bA (vA 7 (iy 7 (oF 2 dq (aj (gv 3) (aj (o1 d9 (gb 1)) az))) (gv 5) (gv 6)))
        (Bg 7 (bU (aX (aj (gv 0) (aj (gv 7) (aj (aX (aj (gv 5) (aj (gv 6) az))) az))))))))))))) (stS ns rows x y rm ac none)).bind m9).bL = .ok r→cY [.lst (aH ns),bG rows,.int x,.int y] = .ok r:=fun r h=>by
    show ((rH [some (.sh (.lst (aH ns))),some (.sh (bG rows)),some (.sh (.int x)),some (.sh (.int y)),none,none,none,none]).bind m9).bL = _
    unfold rH
    refine aW (δ':=[some (.sh (.lst (aH ns))),some (.sh (bG rows)),some (.sh (.int x)),some (.sh (.int y)),some (.sh (.int (x % 8))),none,none,none]) (uO (by kernel_rfl) rfl) ?_
    refine aW (δ':=[some (.sh (.lst (aH ns))),some (.sh (bG rows)),some (.sh (.int x)),some (.sh (.int y)),some (.sh (.int (x % 8))),some (.sh (.int rm)),none,none]) (uO ((Y0 (a:=x / 8) (m:=(rows.length:Nat)) (by kernel_rfl) (Vw rfl) (by omega)).trans (by rw [erm])) rfl) ?_
    refine aW (δ':=stS ns rows x y rm ac none) (uO ((Y0 (a:=x / 64) (m:=(ns.length:Nat)) (by kernel_rfl) (len_n rfl) (by omega)).trans (by rw [eac])) rfl) ?_
    exact h
  have m11t:∀ s,aX (aj (o1 bY (kc (.int 1))) (aj (o1 bY (kc (.int 1))) az)) (stS ns rows x y rm ac s) = .ok (.tup [.int (-1),.int (-1)]):=fun s=>nR (m11 _) (by simp)
  have afZ:∃ d0 r,rows.map (fun r=>D.lst (r.map Dr.d)) = d0 :: r:=Yh (by rw [List.length_map]; omega)
  cases w0:(x % 8 == (0:Int)) with
  | true =>
    obtain ⟨k,d,hk,e,hd⟩:=aaY y (aH ns) (by omega) (by omega)
    refine ⟨d,bG rows,-1,-1,start _ (QJ ((Kp (by rw [Lh (b4 _),w0])).trans (M8 (nR (aC (sr (n:=2) (ds:=[.int y,.lst (aH ns)]) rfl rfl e) (aC rfl (aC (m11t _) rfl))) (by simp))))),fun t=>afI _ _ t (ba_bad ns N h7 k hk d hd)⟩
  | false =>
    cases w1:(x % 8 == (1:Int)) with
    | true =>
      obtain ⟨d0,r,er⟩:=afZ
      obtain ⟨d,e,hd⟩:=V0 y d0 r
      refine ⟨.lst (aH ns),d,-1,-1,start _ (aW ((zX (by rw [Lh (b4 _),w0])).trans rfl) (QJ ((Kp (by rw [Lh (b4 _),w1])).trans (M8 (nR (aC rfl (aC (sr (n:=2) (ds:=[.int y,.lst (d0 :: r)]) (aC rfl (aC (by show Out.ok (bG rows) = _; unfold bG; rw [er]) rfl)) rfl e) (aC (m11t _) rfl))) (by simp)))))),fun t=>qy ns N _ _ t (brs_bad d0 r _ t d hd)⟩
    | false =>
      have lr:rm < rows.length:=hrm
      have er:rows[rm]? = some rows[rm]:=List.getElem?_eq_getElem lr
      have ec:=jc (cap:=[none]) (fi:=jZ (gv 1)) (fe:=nA) (δ:=stS ns rows x y rm ac none) (fun r:List Dr=>D.lst (r.map Dr.d)) (fun r=>r.map Dr.d) rows rfl (by omega) (fun r _=>rfl)
      obtain ⟨s',es',ds',hs',N',k⟩:=three (x:=x) (y:=y) (ac:=ac) (s:=.oll (rows.map fun r=>r.map Dr.d)) (es:=rows.map fun r=>.own (r.map Dr.d)) R (by omega) ha h8 lr (by show Sl.omx (List.map Mx.own (rows.map fun r=>r.map Dr.d)) = _; rw [List.map_map]; rfl) (near0 R er) (last0 R (by omega))
      have f0:o2b eqD (gb 4) (kc (.int 0)) (stS ns rows x y rm ac none) = .ok false:=by rw [Lh (b4 none),w0]
      have f1:o2b eqD (gb 4) (kc (.int 1)) (stS ns rows x y rm ac none) = .ok false:=by rw [Lh (b4 none),w1]
      have go:∀ {B:DSt→Out Fl} {r},_→_:=fun {B r} (h:((B (stS ns rows x y rm ac (some s'))).bind m9).bL = .ok r)=>aW ((zX (B:=eN) (A:=bU (aX (aj (oF 2 cj (aj (gv 3) (aj (gv 0) az))) (aj (gv 1) (aj (aX (aj (o1 bY (kc (.int 1))) (aj (o1 bY (kc (.int 1))) az))) az))))) f0).trans rfl) (aW ((zX (B:=eN) (A:=bU (aX (aj (gv 0) (aj (oF 2 cR (aj (gv 3) (aj (gv 1) az))) (aj (aX (aj (o1 bY (kc (.int 1))) (aj (o1 bY (kc (.int 1))) az))) az))))) f1).trans rfl) (aW (δ':=stS ns rows x y rm ac (some (.oll (rows.map fun r=>r.map Dr.d)))) (acz (i:=7) ec rfl) (k B (.ok r) h)))
      have jr:ixN es'.length (rm:Int) = some rm:=wW (by rw [N'.len]; exact lr)
      cases w2:(x % 8 == (2:Int)) with
      | true =>
        obtain ⟨d0,r,rfl⟩:=Yh (l:=ds') (by rw [N'.dl]; exact ha)
        have dl:=N'.dl
        obtain ⟨d,hd,e⟩:=aco (ns:=ns) (rows:=rows) (x:=x) (y:=y) (rm:=rm) (ac:=ac) (fk:=gv 5) (fz:=gv 3) (k:=rm) (z:=y) (fun _=>rfl) (fun _=>rfl) hs' jr N'.own (by simp at dl; omega)
        refine ⟨.lst (aH ns),.lst ((es'.set rm (.fix d)).map Mx.d),rm,-1,start _ (go (QJ ((Kp (by rw [Lh (b4 _),w2])).trans ((aaw e).trans (M8 (nR (aC rfl (aC rfl (aC (nR (aC rfl (aC rfl rfl)) (by simp)) rfl))) (by simp))))))),fun t=>qy ns N _ _ t (N'.room R (by omega) (by omega) d ?_)⟩
        rcases br_bad d0 r d hd with z | ⟨l,z1,z2⟩
        · exact .inl z
        · exact .inr ⟨l,z1,by rw [← dl]; exact z2⟩
      | false =>
        obtain ⟨bd,eb,hb⟩:=aaZ y (rows.length:Int)
        have e:vA 7 (iy 7 (oF 2 dq (aj (gv 3) (aj (o1 d9 (gb 1)) az))) (gv 5) (gv 6)) (stS ns rows x y rm ac (some s')) = .ok (.nx (stS ns rows x y rm ac (some (.omx (es'.set rm (.own (ds'.set ac bd))))))):=by
          show iy 7 _ _ _ (mix 7 (stS ns rows x y rm ac (some s'))) = _
          rw [ad5 hs',afk (d:=bd) (es:=es') (ds:=ds') (k:=rm) (l:=ac) (j:=rm) (m:=ac) (sr (n:=2) (ds:=[.int y,.int (rows.length:Nat)]) (aC rfl (aC (Vw rfl) rfl)) rfl eb) rfl rfl jr N'.own rfl (by rw [N'.dl]; exact wW hac)]
          rfl
        refine ⟨.lst (aH ns),.lst ((es'.set rm (.own (ds'.set ac bd))).map Mx.d),rm,ac,start _ (go (aW ((zX (by rw [Lh (b4 _),w2])).trans rfl) (aW e ?_))),fun t=>qy ns N _ _ t (N'.bdoor R (by omega) h8 (by omega) ac hac bd fun t=>?_)⟩
        · show ((bU _ (stS ns rows x y rm ac (some (.sh (.lst ((es'.set rm (.own (ds'.set ac bd))).map Mx.d)))))).bind m9).bL = _
          exact ud (nR (aC rfl (aC rfl (aC (nR (aC rfl (aC rfl rfl)) (by simp)) rfl))) (by simp))
        · rw [← rn]
          exact bd_false rows.length y hy t bd hb
end
end K2
namespace K2
open PySem L2 MX DL
theorem bad_at {L:List (List D)} {many acts px py:Nat} {t:Bool} {r:List D} {bd:D} (hl:L.length = many) (h2:many ≤ 2000) (h8:acts ≤ 8) (hr:∀ r ∈ L,r.length = acts) (hp:∀ i r,i < px→L[i]? = some r→∀ d ∈ r,aN [d,.int many,.bl t] = .ok (.bl true)) (hpx:L[px]? = some r)
    (hk:∀ k d,k < py→r[k]? = some d→aN [d,.int many,.bl t] = .ok (.bl true)) (hb:r[py]? = some bd) (hbd:aN [bd,.int many,.bl t] = .ok (.bl false)):bh [.lst (L.map D.lst),.int acts,.bl t] = .ex (bad px py):=by
  obtain ⟨lx,ex⟩:=List.getElem?_eq_some_iff.mp hpx
  obtain ⟨ly,ey⟩:=List.getElem?_eq_some_iff.mp hb
  have q:L.map D.lst = (L.take px).map D.lst ++ D.lst r :: (L.drop (px + 1)).map D.lst:=by
    have:L = L.take px ++ r :: L.drop (px + 1):=by
      rw [← ex,List.getElem_cons_drop,List.take_append_drop]
    conv=>lhs; rw [this]
    rw [List.map_append,List.map_cons]
  have qr:r = r.take py ++ bd :: r.drop (py + 1):=by
    rw [← ey,List.getElem_cons_drop,List.take_append_drop]
  have z1:(L.take px).length = px:=by rw [List.length_take]; omega
  have z2:(L.take px).length + 1 + ((L.drop (px + 1)).map D.lst).length = many:=by rw [List.length_map,List.length_drop]; omega
  have rl:=hr r (List.mem_of_getElem? hpx)
  rw [q]
  refine QG (by omega) (fun ds hds=>?_) fun rs hrs c d'=>?_
  · obtain ⟨i,hi⟩:=List.getElem?_of_mem hds
    have il:i < px:=by
      have:=(List.getElem?_eq_some_iff.mp hi).1
      omega
    rw [List.getElem?_take_of_lt il] at hi
    refine ⟨hr ds (List.mem_of_getElem? hi),fun d hd=>?_⟩
    rw [z2]
    exact hp i ds il hi d hd
  · have tl:(r.take py).length = py:=by rw [List.length_take]; omega
    have e:=abX (rs:=rs) (pre:=r.take py) (post:=r.drop (py + 1)) (acts:=acts) (t:=t) (i:=px) (x:=bd) (c:=c) (d:=d') (by omega) (by omega) (by rw [← qr]; exact rl) (fun d hd=>by
      obtain ⟨k,hk'⟩:=List.getElem?_of_mem hd
      have kl:k < py:=by
        have:=(List.getElem?_eq_some_iff.mp hk').1
        omega
      rw [List.getElem?_take_of_lt kl] at hk'
      rw [hrs,z2]
      exact hk k d kl hk') (by rw [hrs,z2]; exact hbd)
    rw [z1]
    rw [← qr,tl] at e
    exact e
def dB (L:List (List D)) (i j:Nat) (v:D):List (List D):=L.set i ((L.getD i []).set j v)
theorem qu {L:List (List D)} {i j k:Nat} {v:D} (h:i ≠ k):(dB L i j v)[k]? = L[k]?:=by
  unfold dB
  rw [List.getElem?_set_ne h]
theorem GK {L:List (List D)} {i j:Nat} {v:D} {r:List D} (h:L[i]? = some r):(dB L i j v)[i]? = some (r.set j v):=by
  unfold dB
  have g:L.getD i [] = r:=by simp [h]
  rw [g,List.getElem?_set_self (List.getElem?_eq_some_iff.mp h).1]
theorem acw {L:List (List D)} {i j:Nat} {v:D}:(dB L i j v).length = L.length:=by
  unfold dB
  rw [List.length_set]
theorem VF {L:List (List D)} {i j acts:Nat} {v:D} (hi:i < L.length) (h:∀ r ∈ L,r.length = acts):∀ r ∈ dB L i j v,r.length = acts:=by
  intro r hr
  obtain ⟨k,hk⟩:=List.getElem?_of_mem hr
  by_cases e:i = k
  · subst e
    have q:L[i]? = some L[i]:=List.getElem?_eq_getElem hi
    rw [GK q] at hk
    cases hk
    rw [List.length_set]
    exact h _ (List.getElem_mem _)
  · rw [qu e] at hk
    exact h r (List.mem_of_getElem? hk)
theorem acl {fe fk fl:DSt→Out D} {δ:DSt} {d:D} {L:List (List D)} {k l:Int} {j m i:Nat} {r:List D} (h0:fe δ = .ok d) (h1:δ[i]? = some (some (.oll L))) (h2:fk δ = .ok (.int k)) (h3:ixN L.length k = some j) (h4:L[j]? = some r) (h5:fl δ = .ok (.int l)) (h6:ixN r.length l = some m):yh i fe fk fl δ = .ok (.nx (δ.set i (some (.oll (dB L j m d))))):=by
  have g:L.getD j [] = r:=by simp [h4]
  unfold yh dB
  rw [h0,Out.aJ,h1]
  dsimp only
  rw [h2,Out.aJ]
  dsimp only
  rw [h3]
  dsimp only
  rw [h5,Out.aJ]
  dsimp only
  rw [g,h6]
end K2
namespace K2
open PySem L2 MX DL
section
variable {ns:List (List Nat)} {rows:List (List Dr)} {many px py:Nat} {x:Int} {s:Option Sl}
def stO (ns:List (List Nat)) (rows:List (List Dr)) (x:Int) (px py:Nat) (s:Option Sl):DSt:=[some (.sh (.lst (aH ns))),some (.sh (bG rows)),some (.sh (.int x)),some (.sh (.tup [.int px,.int py])),s]
theorem zU {g:D→D→Option Bool} {fa fb:DSt→Out D} {δ:DSt} {a b:D} {r:Bool} (h1:fa δ = .ok a) (h2:fb δ = .ok b) (e:g a b = some r):o2b g fa fb δ = .ok r:=by
  unfold o2b
  rw [h1,Out.aJ,h2,Out.aJ,e]
  rfl
theorem lay2 (a b:Int):gK 50 (.tup [.int a,.int b]) = true:=by simp [gK,t6]
def cQ:D:=.tup [.str "torn",.non]
def L0 (rows:List (List Dr)):List (List D):=rows.map fun r=>r.map Dr.d
theorem L0_get {i:Nat} {l:List D} (h:(L0 rows)[i]? = some l):∃ r,rows[i]? = some r∧l = r.map Dr.d:=by
  unfold L0 at h
  rw [List.getElem?_map] at h
  obtain ⟨r,hr,rfl⟩:=Option.map_eq_some_iff.mp h
  exact ⟨r,hr,rfl⟩
theorem good0 (R:Rows many ns.length false rows) (t:Bool) {i:Nat} {l:List D} (h:(L0 rows)[i]? = some l):∀ d ∈ l,aN [d,.int many,.bl t] = .ok (.bl true):=by
  obtain ⟨r,hr,rfl⟩:=L0_get h
  intro d hd
  obtain ⟨z,hz,rfl⟩:=List.mem_map.mp hd
  exact aeM ((R.row r (List.mem_of_getElem? hr)).2 z hz) t
theorem L0_len (R:Rows many ns.length false rows):(L0 rows).length = many:=by
  unfold L0
  rw [List.length_map]
  exact R.n
theorem L0_rows (R:Rows many ns.length false rows):∀ r ∈ L0 rows,r.length = ns.length:=by
  intro r hr
  obtain ⟨z,hz,rfl⟩:=List.mem_map.mp hr
  rw [List.length_map]
  exact (R.row z hz).1
theorem torn_no (m:Nat):aN [cQ,.int m,.bl false] = .ok (.bl false):=by kernel_rfl
theorem torn_yes (m:Nat):aN [cQ,.int m,.bl true] = .ok (.bl true):=sS .torn m true rfl
theorem Qs (R:Rows many ns.length false rows) (h2:many ≤ 2000) (h8:ns.length ≤ 8) (hpx:px < many) (hpy:py < ns.length) (L:List (List D)) (hl:L.length = many) (hr:∀ r ∈ L,r.length = ns.length) (h1:∀ i,i < px→L[i]? = (L0 rows)[i]?) {l l0:List D} (hx:L[px]? = some l) (hx0:(L0 rows)[px]? = some l0) (hk:∀ k,k < py→l[k]? = l0[k]?) (ht:l[py]? = some cQ) :
    bh [.lst (L.map D.lst),.int ns.length,.bl false] = .ex (bad px py) :=
  bad_at hl h2 h8 hr (fun i r hi hr'=>good0 R false (by rw [← h1 i hi]; exact hr')) hx (fun k d hk' hd=>good0 R false hx0 d (List.mem_of_getElem? (by rw [← hk k hk']; exact hd))) ht (torn_no many)
theorem rowsD_L (rows:List (List Dr)):bG rows = .lst ((L0 rows).map D.lst):=by
  unfold bG L0
  rw [List.map_map]
  rfl
theorem L0_set (hpx:px < rows.length):L0 (rows.set px ((rows.getD px []).set py .torn)) = dB (L0 rows) px py cQ:=by
  have g:rows.getD px [] = rows[px]:=by simp [hpx]
  have g2:(L0 rows).getD px [] = rows[px].map Dr.d:=by simp [L0,hpx]
  unfold dB
  rw [g,g2]
  unfold L0
  rw [List.map_set,List.map_set]
  rfl
theorem good1 (R:Rows many ns.length false rows) {l0:List D} (h0:(L0 rows)[px]? = some l0) {i:Nat} {l:List D} (h:(dB (L0 rows) px py cQ)[i]? = some l):∀ d ∈ l,aN [d,.int many,.bl true] = .ok (.bl true):=by
  intro d hd
  by_cases e:px = i
  · subst e
    rw [GK h0] at h
    cases h
    rcases List.mem_or_eq_of_mem_set hd with z | z
    · exact good0 R true h0 d z
    · rw [z]; exact torn_yes many
  · rw [qu e] at h
    exact good0 R true h d hd
theorem V3 (N:Names ns) (R:Rows many ns.length false rows) (h1:1 ≤ many) (h60:many ≤ 60) (x:Int):dh [.lst (aH ns),bG rows,.int x] = .ok (.bl true):=by
  have rn:=R.n
  have ha:=N.lo
  have h8:=N.hi
  obtain ⟨px,epx,hpx⟩:=jm x (m:=rows.length) (by omega)
  obtain ⟨py,epy,hpy⟩:=jm (x / 8) (m:=ns.length) ha
  have R2:Rows many ns.length true (rows.set px ((rows.getD px []).set py .torn)):=Rows.set ⟨R.n,fun r hr=>⟨(R.row r hr).1,fun z hz=>Dr.weak ((R.row r hr).2 z hz)⟩⟩ (by omega) (show Dr.ok many true .torn from rfl)
  have l0l:=L0_len (ns:=ns) R
  obtain ⟨l0,l0p⟩:∃ l0,(L0 rows)[px]? = some l0:=⟨_,List.getElem?_eq_getElem (by omega)⟩
  have l0r:=L0_rows (ns:=ns) R
  have lp:=l0r _ (List.mem_of_getElem? l0p)
  have s1r:=VF (i:=px) (j:=py) (v:=cQ) (show px < (L0 rows).length by omega) l0r
  have s1l:(dB (L0 rows) px py cQ).length = many:=by rw [acw]; exact l0l
  have s1p:=GK (j:=py) (v:=cQ) l0p
  have eL:bG (rows.set px ((rows.getD px []).set py .torn)) = .lst ((dB (L0 rows) px py cQ).map D.lst):=by rw [rowsD_L,L0_set hpx]
  have P:Pl fJ many true ns (rows.set px ((rows.getD px []).set py .torn)):=⟨.inl rfl,N,R2,h1,h60⟩
  have ei:nW [.lst (aH ns),.lst ((dB (L0 rows) px py cQ).map D.lst)] = .ok [("actions",.tup (aH ns)),("rooms",QH (rows.set px ((rows.getD px []).set py .torn)))]:=by
    rw [← eL]
    exact F_init true many ns _ N R2 h1 h60
  have r1:aZ [.lst (aH ns),.lst ((dB (L0 rows) px py cQ).map D.lst),.bl true] = .ok (.tup [.int px,.int py]):=qO _ _ true _ _ (qy ns N _ _ false (Qs (ns:=ns) R (by omega) h8 (by omega) hpy _ s1l s1r (fun i hi=>qu (by omega)) s1p l0p (fun k hk=>List.getElem?_set_ne (by omega)) (by rw [List.getElem?_set_self (by omega)])))
  show ((mq [some (.sh (.lst (aH ns))),some (.sh (bG rows)),some (.sh (.int x)),none,none]).bind m9).bL = _
  unfold mq
  refine aW (δ':=stO ns rows x px py none) (uO (nR (aC ((Y0 (a:=x) (m:=(rows.length:Nat)) rfl (Vw rfl) (by omega)).trans (by rw [epx])) (aC ((Y0 (a:=x / 8) (m:=(ns.length:Nat)) (by kernel_rfl) (len_n rfl) (by omega)).trans (by rw [epy])) rfl)) (by simp)) rfl) ?_
  have ec:=jc (cap:=[none]) (fi:=jZ (gv 1)) (fe:=pZ) (δ:=stO ns rows x px py none) (fun r:List Dr=>D.lst (r.map Dr.d)) (fun r=>r.map Dr.d) rows rfl (by omega) (fun r _=>rfl)
  refine aW (δ':=stO ns rows x px py (some (.oll (L0 rows)))) (acz (i:=4) ec rfl) ?_
  refine aW (δ':=stO ns rows x px py (some (.oll (dB (L0 rows) px py cQ)))) ((acl (d:=cQ) (L:=L0 rows) (k:=px) (l:=py) (j:=px) (m:=py) (nR rfl (by simp)) rfl (by kernel_rfl) (wW (by omega)) l0p (by kernel_rfl) (wW (by omega))).trans rfl) ?_
  have g4:gb 4 (stO ns rows x px py (some (.oll (dB (L0 rows) px py cQ)))) = .ok (.lst ((dB (L0 rows) px py cQ).map D.lst)):=rfl
  have b1:o2b neD (zQ 4 (oF 3 aZ (aj (gv 0) (aj (gv 4) (aj (kc (.bl true)) az))))) (gb 3) (stO ns rows x px py (some (.oll (dB (L0 rows) px py cQ)))) = .ok false:=zU (YS (s:=.oll (dB (L0 rows) px py cQ)) (δ':=stO ns rows x px py (some (.sh (.lst ((dB (L0 rows) px py cQ).map D.lst))))) rfl rfl rfl (sr (n:=3) (ds:=[.lst (aH ns),.lst ((dB (L0 rows) px py cQ).map D.lst),.bl true]) rfl rfl r1) (by simp [noL,noLs])) rfl (vB (lay2 _ _))
  have b2:o2b neD (oM "told" 1 (QZ gW) (zQ 4 (oMk fJ 2 nW (aj (gv 0) (aj (gv 4) az)))) az) (gb 4) (stO ns rows x px py (some (.oll (dB (L0 rows) px py cQ)))) = .ok false:=zU (Hd P (YS (s:=.oll (dB (L0 rows) px py cQ)) (δ':=stO ns rows x px py (some (.sh (.lst ((dB (L0 rows) px py cQ).map D.lst))))) rfl rfl rfl (mk_ok (ds:=[.lst (aH ns),.lst ((dB (L0 rows) px py cQ).map D.lst)]) rfl rfl ei) (noL_plan fJ ns _))) (by rw [g4,eL]) (vB (abW _))
  refine aW ((zX (by
    unfold orT
    rw [b1,Out.aJ,if_neg (by decide),b2])).trans rfl) ?_
  have ltv:∀ s,aX (aj (o2 zZ (o1 d9 (gb 1)) (kc (.int 1))) (aj (o2 zZ (o1 d9 (gb 0)) (kc (.int 1))) az)) (stO ns rows x px py s) = .ok (.tup [.int ((many - 1:Nat):Int),.int ((ns.length - 1:Nat):Int)]):=fun s=>by
    have e1:=Vw (rows:=rows) (δ:=stO ns rows x px py s) rfl
    have e2:=len_n (ns:=ns) (δ:=stO ns rows x px py s) rfl
    have q1:((rows.length:Nat):Int) - 1 = ((many - 1:Nat):Int):=by omega
    have q2:((ns.length:Nat):Int) - 1 = ((ns.length - 1:Nat):Int):=by omega
    refine nR (aC ?_ (aC ?_ rfl)) (by simp)
    · unfold o2
      rw [e1,Out.aJ]
      show Out.ok (D.int (((rows.length:Nat):Int) - 1)) = _
      rw [q1]
    · unfold o2
      rw [e2,Out.aJ]
      show Out.ok (D.int (((ns.length:Nat):Int) - 1)) = _
      rw [q2]
  have be:o2b eqD (gb 3) (aX (aj (o2 zZ (o1 d9 (gb 1)) (kc (.int 1))) (aj (o2 zZ (o1 d9 (gb 0)) (kc (.int 1))) az))) (stO ns rows x px py (some (.oll (dB (L0 rows) px py cQ)))) = .ok (eqB (.tup [.int px,.int py]) (.tup [.int ((many - 1:Nat):Int),.int ((ns.length - 1:Nat):Int)])):=zU rfl (ltv _) (FW (lay2 _ _) (lay2 _ _))
  cases q:eqB (.tup [.int px,.int py]) (.tup [.int ((many - 1:Nat):Int),.int ((ns.length - 1:Nat):Int)]) with
  | true=>exact QJ ((Kp (by rw [be,q])).trans rfl)
  | false =>
    have ne:¬ (px = many - 1∧py = ns.length - 1):=fun ⟨z1,z2⟩=>by
      rw [z1,z2,O4 (lay2 _ _)] at q
      cases q
    refine aW ((zX (by rw [be,q])).trans rfl) ?_
    have lq:(dB (L0 rows) px py cQ)[many - 1]? = some (dB (L0 rows) px py cQ)[many - 1]:=List.getElem?_eq_getElem (by omega)
    have lql:=s1r _ (List.mem_of_getElem? lq)
    refine aW (δ':=stO ns rows x px py (some (.oll (dB (dB (L0 rows) px py cQ) (many - 1) (ns.length - 1) (.tup [.str "may",.int (many:Nat)]))))) ((acl (d:=.tup [.str "may",.int (many:Nat)]) (L:=dB (L0 rows) px py cQ) (k:=-1) (l:=-1) (j:=many - 1) (m:=ns.length - 1) (nR (aC rfl (aC ((Vw rfl).trans (by rw [rn])) rfl)) (by simp)) rfl rfl (by rw [s1l]; exact PB h1) lq rfl (by rw [lql]; exact PB ha)).trans rfl) ?_
    have mno:=MP "may" (.inr rfl) (many:Nat) many true (Int.le_refl _)
    have s2l:(dB (dB (L0 rows) px py cQ) (many - 1) (ns.length - 1) (.tup [.str "may",.int (many:Nat)])).length = many:=by rw [acw]; exact s1l
    have s2r:=VF (i:=many - 1) (j:=ns.length - 1) (v:=.tup [.str "may",.int (many:Nat)]) (show many - 1 < (dB (L0 rows) px py cQ).length by omega) s1r
    have s2q:=GK (j:=ns.length - 1) (v:=.tup [.str "may",.int (many:Nat)]) lq
    have r2:aZ [.lst (aH ns),.lst ((dB (dB (L0 rows) px py cQ) (many - 1) (ns.length - 1) (.tup [.str "may",.int (many:Nat)])).map D.lst),.bl false] = .ok (.tup [.int ((many - 1:Nat):Int),.int ((ns.length - 1:Nat):Int)]):=qO _ _ false _ _ (qy ns N _ _ true (bad_at s2l (by omega) h8 s2r (fun i r hi hr=>by
      rw [qu (by omega)] at hr
      exact good1 (ns:=ns) R l0p hr) s2q (fun k d hk hd=>by
      rw [List.getElem?_set_ne (by omega)] at hd
      exact good1 (ns:=ns) R l0p lq d (List.mem_of_getElem? hd)) (by rw [List.getElem?_set_self (by omega)]) mno))
    have r3:aZ [.lst (aH ns),.lst ((dB (dB (L0 rows) px py cQ) (many - 1) (ns.length - 1) (.tup [.str "may",.int (many:Nat)])).map D.lst),.bl true] = .ok (.tup [.int px,.int py]):=by
      refine qO _ _ true _ _ (qy ns N _ _ false ?_)
      by_cases e:px = many - 1
      · subst e
        have s2p:=GK (j:=ns.length - 1) (v:=.tup [.str "may",.int (many:Nat)]) s1p
        exact Qs (ns:=ns) R (by omega) h8 (by omega) hpy _ s2l s2r (fun i hi=>by rw [qu (by omega),qu (by omega)]) s2p l0p (fun k hk=>by rw [List.getElem?_set_ne (by omega),List.getElem?_set_ne (by omega)]) (by rw [List.getElem?_set_ne (by omega),List.getElem?_set_self (by omega)])
      · exact Qs (ns:=ns) R (by omega) h8 (by omega) hpy _ s2l s2r (fun i hi=>by rw [qu (by omega),qu (by omega)]) (by rw [qu (by omega)]; exact s1p) l0p (fun k hk=>List.getElem?_set_ne (by omega)) (by rw [List.getElem?_set_self (by omega)])
    have lent:∀ (p:Bool) (v:D),aZ [.lst (aH ns),.lst ((dB (dB (L0 rows) px py cQ) (many - 1) (ns.length - 1) (.tup [.str "may",.int (many:Nat)])).map D.lst),.bl p] = .ok v→noL v = true→zQ 4 (oF 3 aZ (aj (gv 0) (aj (gv 4) (aj (kc (.bl p)) az)))) (stO ns rows x px py (some (.oll (dB (dB (L0 rows) px py cQ) (many - 1) (ns.length - 1) (.tup [.str "may",.int (many:Nat)]))))) = .ok v:=fun p v e hv=>YS (s:=.oll (dB (dB (L0 rows) px py cQ) (many - 1) (ns.length - 1) (.tup [.str "may",.int (many:Nat)]))) (δ':=stO ns rows x px py (some (.sh (.lst ((dB (dB (L0 rows) px py cQ) (many - 1) (ns.length - 1) (.tup [.str "may",.int (many:Nat)])).map D.lst))))) rfl rfl rfl (sr (n:=3) (ds:=[.lst (aH ns),.lst ((dB (dB (L0 rows) px py cQ) (many - 1) (ns.length - 1) (.tup [.str "may",.int (many:Nat)])).map D.lst),.bl p]) rfl rfl e) hv
    refine aW ((zX (zU (lent false _ r2 (by simp [noL,noLs])) (ltv _) (vB (lay2 _ _)))).trans rfl) ?_
    refine ud ?_
    unfold bV
    rw [zU (lent true _ r3 (by simp [noL,noLs])) rfl (O5 (lay2 _ _))]
    rfl
end
end K2
namespace K2
open PySem L2 MX DL
def stL (ns:List Int) (x1 x2 x3 x4 x5 x6 x7 x8:Option Sl):DSt:=[some (.sh (.rol (ns.map .int))),x1,x2,x3,x4,x5,x6,x7,x8]
theorem oC_ok {f:List D→Option D} {fr:DSt→Out (List D)} {δ:DSt} {ds:List D} {d:D} (h:fr δ = .ok ds) (e:f ds = some d):oC f fr δ = .ok d:=by
  unfold oC
  rw [h,Out.aJ,e]
  rfl
theorem law_body {ns:List Int} {cell:Int} {nms:List (List Nat)} {rows:List (List Dr)} {many:Nat} (N:Names nms) (h7:nms.length ≤ 7) (R:Rows many nms.length false rows) (h1:1 ≤ many) (h60:many ≤ 60) (k:Nat) (hk:k ≤ 100) (x5 x6 x7 x8:Option Sl) :
    nxP (Gk (stL ns (some (.sh (.int cell))) (some (.sh (.lst (aH nms)))) (some (.sh (bG rows))) (some (.sh (.int k))) x5 x6 x7 x8)) fun δ=>∃ x4 x5 x6 x7 x8,δ = stL ns (some (.sh (.int cell))) (some (.sh (.lst (aH nms)))) (some (.sh (bG rows))) x4 x5 x6 x7 x8:=by
  have c0:=F_cell ns k
  generalize ns.getD k 0 = one at c0
  have a1:=jb one (20 + k) (by omega) (by omega)
  have a2:=jb one (50 + k) (by omega) (by omega)
  obtain ⟨a,h,i,j,e,bd⟩:=afq N h7 R h1 h60 (eF one (20 + k)) (eF one (50 + k)) (afd _ _) (afd _ _)
  have r1:=qO a h true i j (bd false)
  have r2:=qO a h false i j (bd true)
  have e1:jE 5 (oF 2 cX (aj (gv 0) (aj (gv 4) az))) (stL ns (some (.sh (.int cell))) (some (.sh (.lst (aH nms)))) (some (.sh (bG rows))) (some (.sh (.int k))) x5 x6 x7 x8) = .ok (.nx (stL ns (some (.sh (.int cell))) (some (.sh (.lst (aH nms)))) (some (.sh (bG rows))) (some (.sh (.int k))) (some (.sh (.int one))) x6 x7 x8)):=uO (sr (n:=2) (ds:=[.rol (ns.map .int),.int k]) rfl rfl c0) rfl
  have e2:sAsg (oF 4 cY (aj (gv 2) (aj (gv 3) (aj (oF 2 aO (aj (gv 5) (aj (o2 dF (kc (.int 20)) (gv 4)) az))) (aj (oF 2 aO (aj (gv 5) (aj (o2 dF (kc (.int 50)) (gv 4)) az))) az))))) (gT 3 (cN (gN 6) (cN (gN 7) (cN (gN 8) pY)))) (stL ns (some (.sh (.int cell))) (some (.sh (.lst (aH nms)))) (some (.sh (bG rows))) (some (.sh (.int k))) (some (.sh (.int one))) x6 x7 x8) = .ok (.nx (stL ns (some (.sh (.int cell))) (some (.sh (.lst (aH nms)))) (some (.sh (bG rows))) (some (.sh (.int k))) (some (.sh (.int one))) (some (.sh a)) (some (.sh h)) (some (.sh (.tup [.int i,.int j]))))):=by
    have f:=sr (n:=4) (F:=cY) (fr:=aj (gv 2) (aj (gv 3) (aj (oF 2 aO (aj (gv 5) (aj (o2 dF (kc (.int 20)) (gv 4)) az))) (aj (oF 2 aO (aj (gv 5) (aj (o2 dF (kc (.int 50)) (gv 4)) az))) az)))) (δ:=stL ns (some (.sh (.int cell))) (some (.sh (.lst (aH nms)))) (some (.sh (bG rows))) (some (.sh (.int k))) (some (.sh (.int one))) x6 x7 x8) (aC rfl (aC rfl (aC (sr (n:=2) (ds:=[.int one,.int (20 + k)]) rfl rfl a1) (aC (sr (n:=2) (ds:=[.int one,.int (50 + k)]) rfl rfl a2) rfl)))) rfl e
    unfold sAsg
    rw [f]
    rfl
  have d1:o2b neD (oF 3 aZ (aj (gv 6) (aj (gv 7) (aj (kc (.bl true)) az)))) (gb 8) (stL ns (some (.sh (.int cell))) (some (.sh (.lst (aH nms)))) (some (.sh (bG rows))) (some (.sh (.int k))) (some (.sh (.int one))) (some (.sh a)) (some (.sh h)) (some (.sh (.tup [.int i,.int j])))) = .ok false:=zU (sr (n:=3) (ds:=[a,h,.bl true]) rfl rfl r1) rfl (vB (lay2 _ _))
  have d2:o2b neD (oF 3 aZ (aj (gv 6) (aj (gv 7) (aj (kc (.bl false)) az)))) (gb 8) (stL ns (some (.sh (.int cell))) (some (.sh (.lst (aH nms)))) (some (.sh (bG rows))) (some (.sh (.int k))) (some (.sh (.int one))) (some (.sh a)) (some (.sh h)) (some (.sh (.tup [.int i,.int j])))) = .ok false:=zU (sr (n:=3) (ds:=[a,h,.bl false]) rfl rfl r2) rfl (vB (lay2 _ _))
  have e3:Gk (stL ns (some (.sh (.int cell))) (some (.sh (.lst (aH nms)))) (some (.sh (bG rows))) (some (.sh (.int k))) x5 x6 x7 x8) = .ok (.nx (stL ns (some (.sh (.int cell))) (some (.sh (.lst (aH nms)))) (some (.sh (bG rows))) (some (.sh (.int k))) (some (.sh (.int one))) (some (.sh a)) (some (.sh h)) (some (.sh (.tup [.int i,.int j]))))):=by
    unfold Gk
    refine (aaw e1).trans ((aaw e2).trans ((zX ?_).trans rfl))
    unfold orT
    rw [d1,Out.aJ,if_neg (by decide),d2]
  rw [e3]
  exact ⟨_,_,_,_,_,rfl⟩
theorem acK (ns:List Int) (hl:ns.length ≤ 63):F_law [.rol (ns.map .int)] = .ok (.bl true):=by
  have c0:=F_cell ns 0
  generalize ns.getD 0 0 = cell at c0
  simp only [Int.cast_ofNat_Int] at c0
  have m1:=jb cell 1 (by decide) (by decide)
  have m2:=jb cell 2 (by decide) (by decide)
  have m3:=jb cell 3 (by decide) (by decide)
  obtain ⟨k,ek,hk⟩:=jm (eF cell 1) (m:=4) (by decide)
  obtain ⟨k2,ek2,hk2⟩:=jm (eF cell 2) (m:=4) (by decide)
  simp only [Int.cast_ofNat_Int] at ek ek2
  obtain ⟨nms,en,N,hlen⟩:=F_names cell (1 + k) (by omega) (by omega)
  have ck:(1:Int) + (k:Int) = ((1 + k:Nat):Int):=by omega
  have ck2:(1:Int) + (k2:Int) = ((1 + k2:Nat):Int):=by omega
  have e5:(aH nms).length = nms.length:=by simp [aH]
  obtain ⟨cs,ec,_⟩:=cut_ints ns (some 1) (some 20)
  obtain ⟨rows,er,R⟩:=F_rooms cell (1 + k2) nms.length cs (by omega) (by omega) N.hi N.lo
  have P:Pl j4 (1 + k2) false nms rows:=⟨.inr rfl,N,R,by omega,by omega⟩
  have ei:uf [.lst (aH nms),bG rows] = .ok [("actions",.tup (aH nms)),("rooms",QH rows)]:=F_init false (1 + k2) nms rows N R (by omega) (by omega)
  have tr:=V3 N R (by omega) (by omega) (eF cell 3)
  show ((g_law (stL ns none none none none none none none none)).bind m9).bL = _
  unfold g_law
  refine aW (δ':=stL ns (some (.sh (.int cell))) none none none none none none none) (uO (d:=.int cell) (by unfold stL; walk_at "ev: c0") rfl) ?_
  refine aW (δ':=stL ns (some (.sh (.int cell))) (some (.sh (.lst (aH nms)))) none none none none none none) (uO (d:=.lst (aH nms)) (by unfold stL; walk_at "ev: m1 ek ck en") rfl) ?_
  refine aW (δ':=stL ns (some (.sh (.int cell))) (some (.sh (.lst (aH nms)))) (some (.sh (bG rows))) none none none none none) (uO (d:=bG rows) (sr (n:=4) (aC (d:=.int cell) rfl (aC (d:=.int (1 + k2:Nat)) (by unfold stL; walk_at "ev: m2 ek2 ck2") (aC (d:=.int nms.length) (by unfold stL; walk_at "ev: e5") (aC (sl_ok (x:=.rol (ns.map .int)) (l:=some 1) (h:=some 20) rfl rfl rfl (cut_rol ec)) rfl)))) rfl er) rfl) ?_
  obtain ⟨n,en2,hn⟩:∃ n:Nat,oC maxD (aj (kc (.int 1)) (aj (oC minD (aj (o1 d9 (gb 0)) (aj (kc (.int 20)) az))) az)) (stL ns (some (.sh (.int cell))) (some (.sh (.lst (aH nms)))) (some (.sh (bG rows))) none none none none none) = .ok (.int (n:Nat))∧n ≤ 20:=by
    obtain ⟨n,q,hn⟩:∃ n:Nat,(if (if (20:Int) < (ns.length:Int) then (20:Int) else (ns.length:Int)) > 1 then (if (20:Int) < (ns.length:Int) then (20:Int) else (ns.length:Int)) else 1) = (n:Int)∧n ≤ 20:=by
      by_cases h:(20:Int) < (ns.length:Int)
      · rw [if_pos h,if_pos (by decide)]
        exact ⟨20,rfl,by omega⟩
      · rw [if_neg h]
        by_cases h':(ns.length:Int) > 1
        · rw [if_pos h']
          exact ⟨ns.length,rfl,by omega⟩
        · rw [if_neg h']
          exact ⟨1,rfl,by omega⟩
    refine ⟨n,?_,hn⟩
    have l0:o1 d9 (gb 0) (stL ns (some (.sh (.int cell))) (some (.sh (.lst (aH nms)))) (some (.sh (bG rows))) none none none none none) = .ok (.int (ns.length:Nat)):=by
      show Out.ok (D.int ((List.map D.int ns).length:Nat)) = _
      rw [List.length_map]
    rw [← q]
    exact oC_ok (aC rfl (aC (oC_ok (aC l0 (aC rfl rfl)) (Do _ _)) rfl)) (Dn _ _)
  have ef:=vI (f:=oC maxD (aj (kc (.int 1)) (aj (oC minD (aj (o1 d9 (gb 0)) (aj (kc (.int 20)) az))) az))) en2 (by omega)
  obtain ⟨δ',e1,x4,x5,x6,x7,x8,rfl⟩:=Gd (tg:=gN 4) (body:=Gk) (fun i:Nat=>D.int (i:Nat)) (fun _ δ=>∃ x4 x5 x6 x7 x8,δ = stL ns (some (.sh (.int cell))) (some (.sh (.lst (aH nms)))) (some (.sh (bG rows))) x4 x5 x6 x7 x8) (List.range n) [] (stL ns (some (.sh (.int cell))) (some (.sh (.lst (aH nms)))) (some (.sh (bG rows))) none none none none none) (by
    rintro i done δ ⟨x4,x5,x6,x7,x8,rfl⟩ hi
    exact ⟨_,rfl,law_body N (by omega) R (by omega) (by omega) i (by have:=List.mem_range.mp hi; omega) x5 x6 x7 x8⟩) ⟨_,_,_,_,_,rfl⟩
  refine aW (δ':=stL ns (some (.sh (.int cell))) (some (.sh (.lst (aH nms)))) (some (.sh (bG rows))) x4 x5 x6 x7 x8) (by
    unfold xO
    rw [ef,Out.aJ]
    exact e1) ?_
  refine ud ?_
  have t1:oF 3 dh (aj (gv 2) (aj (gv 3) (aj (oF 2 aO (aj (gv 1) (aj (kc (.int 3)) az))) az))) (stL ns (some (.sh (.int cell))) (some (.sh (.lst (aH nms)))) (some (.sh (bG rows))) x4 x5 x6 x7 x8) = .ok (.bl true):=sr (n:=3) (ds:=[.lst (aH nms),bG rows,.int (eF cell 3)]) (aC rfl (aC rfl (aC (sr (n:=2) (ds:=[.int cell,.int 3]) rfl rfl m3) rfl))) rfl tr
  have t2:o2b eqD (oM "told" 1 (QZ gW) (oMk j4 2 uf (aj (gv 2) (aj (gv 3) az))) az) (gb 3) (stL ns (some (.sh (.int cell))) (some (.sh (.lst (aH nms)))) (some (.sh (bG rows))) x4 x5 x6 x7 x8) = .ok true:=zU (Hd P (mk_ok (ds:=[.lst (aH nms),bG rows]) rfl rfl ei)) rfl (O5 (abW _))
  unfold Es bV
  rw [t1,Out.aJ]
  rw [t2]
  rfl
end K2
namespace K2
open PySem L2 MX DL
def spLaw (K:PySem.W.Frag):Sp:=fun vs H Q _=>∃ (a:Addr) (ns:List Int),vs = [.ref a]∧SqL K H a (ns.map V.int)∧ns.length ≤ 63∧∀ H',Q (.bl true) H'
theorem acp {K:PySem.W.Frag} {Γ:Nat→Option Addr} {G:Hp}:∀ ns:List Int,aF K Γ G (ns.map V.int) (ns.map D.int)
  | []=>.nil
  | n :: r=>.cons (.int n) (acp r)
theorem law_sp {P:Program} {w:World} {K:PySem.W.Frag} {mg:Str→Option Value} {base:Heap} {t:Ad} {f:Addr} {fd:FuncData} (F:bB P w K mg base CX0 11 f fd ["_law_script"] (spD K (Ga t) 1 F_law)):bB P w K mg base CX0 11 f fd ["_law_script"] (spLaw K):=F.imp fun vs H Q E ⟨a,ns,e,hS,hl,k⟩=>by
  subst e
  refine ⟨rfl,H,[.rol (ns.map .int)],bC.refl H,.cons (.rol hS (acp ns)) .nil,?_⟩
  rw [acK ns hl]
  intro v G' H' st r
  cases r
  exact k H'
set_option maxHeartbeats 8000000 in
theorem all_mk {l:PySem.W.OpenLaw} {w:World} {K:PySem.W.Frag} {h:Heap} {mg:Str→Option Value} {fa:Addr} (X:K.In h) (G:h.Ns mainGlobals mg) (hfa:mg "law" = some (.ref fa))
    {lA:Addr} {cd_Door:ClassData}
    {fC:Addr} {cd_Must:ClassData}
    {jG:Addr} {cd_May:ClassData}
    {fG:Addr} {cd_Shut:ClassData}
    {fH:Addr} {cd_Torn:ClassData}
    {eO:Addr} {cd_Draft:ClassData}
    {iw:Addr} {cd_Plan:ClassData}
    {cW:Addr} {cH:Value} {dH:Option Addr} {cdH:ClassData} {sH:Array (Option Value)} {c0H:Value} {d0H:Option Addr} {esH:Array DictEntry} {n0H:Nat} {s0H:Array (Option Value)}
    {b7 Ab:Addr} {ad8 afX:Str} {adf:List Value} {aeH:List Str} {aew:List Value} {ac1:Bool} {qY:Option Bool} {adx:Option Addr} {adS adT adU adV adW:Option Value} {adi:Value} {adq:Option Addr} {O6:Array DictEntry} {ad9:Nat} {aeG:Array (Option Value)}
    {lU:Addr}
    {gO:Addr}
    {tL:Addr}
    {tM:Addr}
    {lV:Addr}
    {oK:Addr}
    {rE:Addr}
    {oN:Addr}
    {oO:Addr}
    {qb:Addr}
    {tH:Addr}
    {qd:Addr}
    {qe:Addr}
    {nY:Addr}
    {p8:Addr}
    {nZ:Addr}
    {n6:Addr}
    {wI:Addr}
    {Ak:Addr}
    {wJ:Addr}
    {wK:Addr}
    {dg:Addr}
    {gQ:Addr}
    {aeL:Tok}
    {tk_MS:Tok}
    {tk_MA:Tok}
    {tk_MR:Tok}
    {p7:Addr}
    {tK:Addr}
    {Al:Addr}
    {Am:Addr}
    {jf:Addr}
    {lZ:Addr}
    {An:Addr}
    {lY:Addr}
    {qj:Addr}
    {tQ:Addr}
    {tR:Addr}
    {tU:Addr}
    {lW:Addr}
    {je:Addr}
    {qg:Addr}
    {tO:Addr}
    {qi:Addr}
    {jO:Addr}
    {gR:Addr}
    {jd:Addr}
    {jP:Addr}
    {iR:Addr}
    {lX:Addr}
    {iC:Addr}
    {f_law:Addr}
    {Y8:Value} {Xi Wg:Option Addr} {aay:Array (Option Value)} {Yx W5 ZM Fb WM:Value}
    {Zd:Value} {Xn Wl:Option Addr} {aaD:Array (Option Value)} {YD Xa ZV Fi WT:Value}
    {Zf:Value} {Xp Wn:Option Addr} {aaF:Array (Option Value)} {YG Xc ZX Fo WX:Value}
    {S9:Value} {R3 Rg:Option Addr} {Ul:Array (Option Value)} {Sw RL TY By Rv:Value}
    {Lx:Value} {La Kz:Option Addr} {Mv:Array (Option Value)} {Lk K4 Mj xX KQ:Value}
    {Tc:Value} {R4 Rh:Option Addr} {Um:Array (Option Value)} {Sx RM T3 BJ Rw:Value}
    {Zc:Value} {Xm Wk:Option Addr} {aaC:Array (Option Value)} {YC W9 ZS Fg WR:Value}
    {Zb:Value} {Xl Wj:Option Addr} {aaB:Array (Option Value)} {YB W8 ZR Ff WQ:Value}
    {ab5:Value} {abG abg:Option Addr} {acA:Array (Option Value)} {abS abB ach JW abw:Value}
    {Ze:Value} {Xo Wm:Option Addr} {aaE:Array (Option Value)} {YF Xb ZW Fj WW:Value}
    {Zg:Value} {Xq Wo:Option Addr} {aaG:Array (Option Value)} {YH Xd ZZ Fp WY:Value}
    {Tf:Value} {R7 Rk:Option Addr} {Uq:Array (Option Value)} {SM RQ T6 BP Rz:Value}
    {Za:Value} {Xk Wi:Option Addr} {aaA:Array (Option Value)} {Yz W7 ZQ Fe WP:Value}
    {Tg:Value} {R8 Rm:Option Addr} {Ur:Array (Option Value)} {SN RT T7 BR RB:Value}
    {Th:Value} {R9 Rn:Option Addr} {Us:Array (Option Value)} {SQ RV T8 BV RC:Value}
    {Qj:Value} {Ox Nz:Option Addr} {QR:Array (Option Value)} {PK Oo Qw yX Oe:Value}
    {Te:Value} {R6 Rj:Option Addr} {Up:Array (Option Value)} {SJ RP T5 BL Ry:Value}
    {Qk:Value} {Oz NB:Option Addr} {QS:Array (Option Value)} {PL Oq Qx yZ Og:Value}
    {Ql:Value} {OD NK:Option Addr} {QT:Array (Option Value)} {PN Ot Qy za Oh:Value}
    {ab6:Value} {abH abh:Option Addr} {acB:Array (Option Value)} {abT abC aci JX abx:Value}
    {aeb:Value} {ady ac2:Option Addr} {aeC:Array (Option Value)} {adY adt aen Oi adl:Value}
    {ab7:Value} {abI abi:Option Addr} {acC:Array (Option Value)} {abU abD acj JZ aby:Value}
    {ab8:Value} {abJ abj:Option Addr} {acD:Array (Option Value)} {abV abE ack J0 abz:Value}
    {Y9:Value} {Xj Wh:Option Addr} {aaz:Array (Option Value)} {Yy W6 ZP Fd WN:Value}
    {aec:Value} {adz ac3:Option Addr} {aeD:Array (Option Value)} {adZ adu aeo Oj adm:Value}
    {aed:Value} {adA ac4:Option Addr} {aeE:Array (Option Value)} {ad0 adv aep Ol adn:Value}
    {Gq:Value} {FN Ep:Option Addr} {GQ:Array (Option Value)} {Gj Fy Gx tD EY:Value}
    {LQ:Value} {Lg KN:Option Addr} {MJ:Array (Option Value)} {Ls K9 Mr ye K3:Value}
    {aee:Value} {adB ac5:Option Addr} {aeF:Array (Option Value)} {ad1 adw aeq Om ado:Value}
    {LK:Value} {Lf KJ:Option Addr} {MF:Array (Option Value)} {Lr K8 Mq yd K1:Value}
    {Tp:Value} {Sq Rr:Option Addr} {Uw:Array (Option Value)} {S8 R1 Uc Ca RK:Value}
    {Zi:Value} {Xu Wr:Option Addr} {aaI:Array (Option Value)} {YK Xf Z1 Ft W2:Value}
    {Zj:Value} {Xv Ws:Option Addr} {aaJ:Array (Option Value)} {YL Xg Z2 Fv W3:Value}
    {Zk:Value} {Xw Wt:Option Addr} {aaK:Array (Option Value)} {YM Xh Z3 Fw W4:Value}
    {Td:Value} {R5 Ri:Option Addr} {Uo:Array (Option Value)} {Sy RN T4 BK Rx:Value}
    {Ly:Value} {Lb KC:Option Addr} {Mw:Array (Option Value)} {Ln K5 Ml xY KR:Value}
    {Ti:Value} {Sd Ro:Option Addr} {Ut:Array (Option Value)} {SX RW T9 BW RD:Value}
    {Tj:Value} {Sg Rp:Option Addr} {Uu:Array (Option Value)} {S6 RX Ua BX RG:Value}
    {Zh:Value} {Xr Wq:Option Addr} {aaH:Array (Option Value)} {YJ Xe Z0 Fq W0:Value}
    {Tn:Value} {Sh Rq:Option Addr} {Uv:Array (Option Value)} {S7 RZ Ub BZ RJ:Value}
    {Jf:Value} {HN Hn:Option Addr} {Jp:Array (Option Value)} {Il HB Jk uZ Hx:Value}
    {Bl:Value} {Bf Bc:Option Addr} {Bp:Array (Option Value)} {Bk Be Bo pW Bd:Value}
    {Gp:Value} {FJ Eo:Option Addr} {GP:Array (Option Value)} {Gi Fx Gw tB Ez:Value}
    {Jg:Value} {HQ Ho:Option Addr} {Jq:Array (Option Value)} {Im HD Jl u9 Hy:Value}
    {Lz:Value} {Ld KD:Option Addr} {My:Array (Option Value)} {Lp K6 Mm xZ KY:Value}
    {LC:Value} {Le KH:Option Addr} {Mz:Array (Option Value)} {Lq K7 Mp yc KZ:Value}
    {Dq:Value} {CT Cw:Option Addr} {Dy:Array (Option Value)} {CZ CP Du rB CN:Value}
    {of_law:Value} {df_law an_law:Option Addr} {sf_law:Array (Option Value)} {kV_law dc_law pm_law adp ct_law:Value}
    (acW:PySem.W.nsIn K mainGlobals "Door" = some (some (.ref lA)))
    (ZF:PySem.W.plainGet K lA Str.empty = true)
    (Yb:PySem.W.hasDictIn K lA = true)
    (Z4:PySem.W.plainOver K lA = true)
    (aaf:PySem.W.findIn K (.ref lA) "__setattr__" = some (some (.builtin "object.__setattr__")))
    (X4:PySem.W.findIn K (.ref lA) "__class__" = some (some (.builtin "object.__class__")))
    (Yi:PySem.W.mroIn K lA (.type "object") = some true)
    (aaP:PySem.W.typeIn K (.ref lA) = some (.type "type"))
    (N7:PySem.W.clsIn K lA = some cd_Door)
    (acX:PySem.W.nsIn K mainGlobals "Must" = some (some (.ref fC)))
    (ZG:PySem.W.plainGet K fC Str.empty = true)
    (Yc:PySem.W.hasDictIn K fC = true)
    (Z5:PySem.W.plainOver K fC = true)
    (aag:PySem.W.findIn K (.ref fC) "__setattr__" = some (some (.builtin "object.__setattr__")))
    (X5:PySem.W.findIn K (.ref fC) "__class__" = some (some (.builtin "object.__class__")))
    (Yj:PySem.W.mroIn K fC (.type "object") = some true)
    (aaQ:PySem.W.typeIn K (.ref fC) = some (.type "type"))
    (N8:PySem.W.clsIn K fC = some cd_Must)
    (a_May:PySem.W.nsIn K mainGlobals "May" = some (some (.ref jG)))
    (ael:PySem.W.plainGet K jG Str.empty = true)
    (adN:PySem.W.hasDictIn K jG = true)
    (aer:PySem.W.plainOver K jG = true)
    (aev:PySem.W.findIn K (.ref jG) "__setattr__" = some (some (.builtin "object.__setattr__")))
    (adM:PySem.W.findIn K (.ref jG) "__class__" = some (some (.builtin "object.__class__")))
    (adO:PySem.W.mroIn K jG (.type "object") = some true)
    (aeQ:PySem.W.typeIn K (.ref jG) = some (.type "type"))
    (WL:PySem.W.clsIn K jG = some cd_May)
    (acZ:PySem.W.nsIn K mainGlobals "Shut" = some (some (.ref fG)))
    (ZK:PySem.W.plainGet K fG Str.empty = true)
    (Ye:PySem.W.hasDictIn K fG = true)
    (Z7:PySem.W.plainOver K fG = true)
    (aai:PySem.W.findIn K (.ref fG) "__setattr__" = some (some (.builtin "object.__setattr__")))
    (X7:PySem.W.findIn K (.ref fG) "__class__" = some (some (.builtin "object.__class__")))
    (Ym:PySem.W.mroIn K fG (.type "object") = some true)
    (aaS:PySem.W.typeIn K (.ref fG) = some (.type "type"))
    (Ob:PySem.W.clsIn K fG = some cd_Shut)
    (ac0:PySem.W.nsIn K mainGlobals "Torn" = some (some (.ref fH)))
    (ZL:PySem.W.plainGet K fH Str.empty = true)
    (Yg:PySem.W.hasDictIn K fH = true)
    (Z8:PySem.W.plainOver K fH = true)
    (aaj:PySem.W.findIn K (.ref fH) "__setattr__" = some (some (.builtin "object.__setattr__")))
    (X8:PySem.W.findIn K (.ref fH) "__class__" = some (some (.builtin "object.__class__")))
    (Yn:PySem.W.mroIn K fH (.type "object") = some true)
    (aaT:PySem.W.typeIn K (.ref fH) = some (.type "type"))
    (Oc:PySem.W.clsIn K fH = some cd_Torn)
    (Wf:PySem.W.nsIn K mainGlobals "Draft" = some (some (.ref eO)))
    (Qu:PySem.W.plainGet K eO Str.empty = true)
    (Pr:PySem.W.hasDictIn K eO = true)
    (Qz:PySem.W.plainOver K eO = true)
    (QK:PySem.W.findIn K (.ref eO) "__setattr__" = some (some (.builtin "object.__setattr__")))
    (Pq:PySem.W.findIn K (.ref eO) "__class__" = some (some (.builtin "object.__class__")))
    (Pu:PySem.W.mroIn K eO (.type "object") = some true)
    (Q4:PySem.W.typeIn K (.ref eO) = some (.type "type"))
    (Hw:PySem.W.clsIn K eO = some cd_Draft)
    (acY:PySem.W.nsIn K mainGlobals "Plan" = some (some (.ref iw)))
    (ZJ:PySem.W.plainGet K iw Str.empty = true)
    (Yd:PySem.W.hasDictIn K iw = true)
    (Z6:PySem.W.plainOver K iw = true)
    (aah:PySem.W.findIn K (.ref iw) "__setattr__" = some (some (.builtin "object.__setattr__")))
    (X6:PySem.W.findIn K (.ref iw) "__class__" = some (some (.builtin "object.__class__")))
    (Yk:PySem.W.mroIn K iw (.type "object") = some true)
    (aaR:PySem.W.typeIn K (.ref iw) = some (.type "type"))
    (Oa:PySem.W.clsIn K iw = some cd_Plan)
    (hn:PySem.W.specialIn K (.builtin "object.__class__") "__get__" = some (some (.builtin "getset_descriptor.__get__")))
    (htk:PySem.W.takesIn K (.builtin "object.__class__") = some true)
    (gm:PySem.W.findIn K (.ref eO) "actions" = some none)
    (gr:PySem.W.findIn K (.ref eO) "rooms" = some none)
    (qG:PySem.W.findIn K (.ref jG) "to" = some none)
    (nD:PySem.W.findIn K (.ref fC) "to" = some none)
    (gZ:PySem.W.findIn K (.ref iw) "actions" = some none)
    (ig:PySem.W.findIn K (.ref iw) "rooms" = some none)
    (nF:PySem.W.findIn K (.ref fG) "to" = some none)
    (nG:PySem.W.findIn K (.ref fH) "to" = some none)
    (z_all:PySem.W.nsIn K mainGlobals "all" = some none)
    (aeR:PySem.W.nsIn K mainGlobals "bool" = some none)
    (z9:PySem.W.nsIn K mainGlobals "enumerate" = some none)
    (z_int:PySem.W.nsIn K mainGlobals "int" = some none)
    (xT:PySem.W.nsIn K mainGlobals "isinstance" = some none)
    (z_len:PySem.W.nsIn K mainGlobals "len" = some none)
    (aeS:PySem.W.nsIn K mainGlobals "list" = some none)
    (z_max:PySem.W.nsIn K mainGlobals "max" = some none)
    (z_min:PySem.W.nsIn K mainGlobals "min" = some none)
    (aaV:PySem.W.nsIn K mainGlobals "range" = some none)
    (z_set:PySem.W.nsIn K mainGlobals "set" = some none)
    (z_str:PySem.W.nsIn K mainGlobals "str" = some none)
    (aaW:PySem.W.nsIn K mainGlobals "tuple" = some none)
    (yI:PySem.W.nsIn K mainGlobals "HallError" = some (some (.ref cW)))
    (oH:K.lookup cW = some ⟨cH,dH,.cls cdH,sH⟩)
    (nH:K.lookup cdH.ns = some ⟨c0H,d0H,.dict esH n0H,s0H⟩)
    (eH:(esH.toList.all fun e=>match e.key with | .str _ _=>true | _=>false) = true)
    (iH:PySem.W.nsIn K cdH.ns "__init__" = some none)
    (tyH:PySem.W.typeIn K (.ref cW) = some (.type "type"))
    (h1H:PySem.W.specialIn K (.ref cW) "__getattribute__" = some (some (.builtin "type.__getattribute__")))
    (h2H:PySem.W.readsIn K cW (.type "type") = true)
    (h3H:PySem.W.findCls K (.ref cW) (.type "type") "__init__" = some (.val (.builtin "ValueError.__init__")))
    (suH:PySem.W.mroIn K cW (.type "BaseException") = some true)
    (Hm:PySem.W.nsIn K mainGlobals "BadPlan" = some (some (.ref b7)))
    (Je:K.lookup b7 = some (excClassObj ad8 afX b7 Ab adf (.ref cW :: MX.bmV) true aeH aew ac1 qY adx adS adT adU adV adW "ValueError.__new__"))
    (IW:K.lookup Ab = some ⟨adi,adq,.dict O6 ad9,aeG⟩)
    (HS:(O6.toList.all fun e=>match e.key with | .str _ _=>true | _=>false) = true)
    (CV:PySem.W.findIn K (.ref b7) "__getattribute__" = some (some (.builtin "BaseException.__getattribute__")))
    (CW:PySem.W.findIn K (.ref b7) "__getattr__" = some none)
    (Dw:PySem.W.findIn K (.ref b7) "__setattr__" = some (some (.builtin "object.__setattr__")))
    (qY:PySem.W.findIn K (.ref b7) "__class__" = some (some (.builtin "object.__class__")))
    (Dz:PySem.W.mroIn K b7 (.type "BaseException") = some true)
    (DP:PySem.W.mroIn K b7 (.type "object") = some true)
    (Dm:PySem.W.mroIn K b7 (.ref cW) = some true)
    (Df:PySem.W.keepIn K (.ref b7) = true)
    (DQ:PySem.W.typeIn K (.ref b7) = some (.type "type"))
    (dw:PySem.W.findIn K (.ref b7) "room" = some none)
    (cJ:PySem.W.findIn K (.ref b7) "action" = some none)
    (DX:PySem.W.nsIn K Ab "__init__" = some (some (.ref lU)))
    (DR:PySem.W.isFn K (.ref lU) = true)
    (YT:PySem.W.makesIn K fC = true)
    (Yo:PySem.W.findIn K (.ref fC) "__init__" = some (some (.ref gO)))
    (Yt:PySem.W.keepIn K (.ref fC) = true)
    (ad6:PySem.W.makesIn K jG = true)
    (adP:PySem.W.findIn K (.ref jG) "__init__" = some (some (.ref gO)))
    (adX:PySem.W.keepIn K (.ref jG) = true)
    (YX:PySem.W.makesIn K fG = true)
    (Yq:PySem.W.findIn K (.ref fG) "__init__" = some (some (.ref tL)))
    (Yv:PySem.W.keepIn K (.ref fG) = true)
    (YZ:PySem.W.makesIn K fH = true)
    (Yr:PySem.W.findIn K (.ref fH) "__init__" = some (some (.ref tM)))
    (Yw:PySem.W.keepIn K (.ref fH) = true)
    (Qd:PySem.W.makesIn K eO = true)
    (Py:PySem.W.findIn K (.ref eO) "__init__" = some (some (.ref lV)))
    (PJ:PySem.W.keepIn K (.ref eO) = true)
    (YW:PySem.W.makesIn K iw = true)
    (Yp:PySem.W.findIn K (.ref iw) "__init__" = some (some (.ref lV)))
    (Yu:PySem.W.keepIn K (.ref iw) = true)
    (ql:PySem.W.isFn K (.ref gO) = true)
    (wN:PySem.W.isFn K (.ref tL) = true)
    (wQ:PySem.W.isFn K (.ref tM) = true)
    (n8:PySem.W.isFn K (.ref lV) = true)
    (vQ:PySem.W.findIn K (.ref fC) "word" = some (some (.ref oK)))
    (yK:PySem.W.findIn K (.ref jG) "word" = some (some (.ref rE)))
    (vW:PySem.W.findIn K (.ref fG) "word" = some (some (.ref oN)))
    (vY:PySem.W.findIn K (.ref fH) "word" = some (some (.ref oO)))
    (wL:PySem.W.isFn K (.ref oK) = true)
    (zg:PySem.W.isFn K (.ref rE) = true)
    (wO:PySem.W.isFn K (.ref oN) = true)
    (wR:PySem.W.isFn K (.ref oO) = true)
    (Bv:PySem.W.findIn K (.ref fC) "needs" = some (some (.ref qb)))
    (Et:PySem.W.findIn K (.ref jG) "needs" = some (some (.ref tH)))
    (Bw:PySem.W.findIn K (.ref fG) "needs" = some (some (.ref qd)))
    (Bx:PySem.W.findIn K (.ref fH) "needs" = some (some (.ref qe)))
    (Ci:PySem.W.isFn K (.ref qb) = true)
    (Gb:PySem.W.isFn K (.ref tH) = true)
    (Cj:PySem.W.isFn K (.ref qd) = true)
    (Ck:PySem.W.isFn K (.ref qe) = true)
    (yL:PySem.W.findIn K (.ref fC) "allows" = some (some (.ref nY)))
    (Bu:PySem.W.findIn K (.ref jG) "allows" = some (some (.ref p8)))
    (yM:PySem.W.findIn K (.ref fG) "allows" = some (some (.ref nZ)))
    (yN:PySem.W.findIn K (.ref fH) "allows" = some (some (.ref n6)))
    (zj:PySem.W.isFn K (.ref nY) = true)
    (Cg:PySem.W.isFn K (.ref p8) = true)
    (zm:PySem.W.isFn K (.ref nZ) = true)
    (zp:PySem.W.isFn K (.ref n6) = true)
    (JR:PySem.W.findIn K (.ref fC) "led" = some (some (.ref wI)))
    (NP:PySem.W.findIn K (.ref jG) "led" = some (some (.ref Ak)))
    (JS:PySem.W.findIn K (.ref fG) "led" = some (some (.ref wJ)))
    (JT:PySem.W.findIn K (.ref fH) "led" = some (some (.ref wK)))
    (J6:PySem.W.isFn K (.ref wI) = true)
    (O8:PySem.W.isFn K (.ref Ak) = true)
    (J7:PySem.W.isFn K (.ref wJ) = true)
    (J8:PySem.W.isFn K (.ref wK) = true)
    (vP:PySem.W.findIn K (.ref fC) "told" = some (some (.ref dg)))
    (yJ:PySem.W.findIn K (.ref jG) "told" = some (some (.ref dg)))
    (vV:PySem.W.findIn K (.ref fG) "told" = some (some (.ref dg)))
    (vX:PySem.W.findIn K (.ref fH) "told" = some (some (.ref dg)))
    (jg:PySem.W.isFn K (.ref dg) = true)
    (ul:PySem.W.findIn K (.ref eO) "told" = some (some (.ref gQ)))
    (vU:PySem.W.findIn K (.ref iw) "told" = some (some (.ref gQ)))
    (oh:PySem.W.isFn K (.ref gQ) = true)
    (inD:PySem.W.findIn K (.ref lA) "__init__" = some (some (.ref gO)))
    (ca1:PySem.W.specialIn K (.ref lA) "__getattribute__" = some (some (.builtin "type.__getattribute__")))
    (ca2:PySem.W.readsIn K lA (.type "type") = true)
    (ca3:PySem.W.findCls K (.ref lA) (.type "type") "__init__" = some (.val (.ref gO)))
    (uY:PySem.W.nsIn K mainGlobals "LETTERS" = some (some (.str "abcdefghijklmnopqrstuvwxyz" aeL)))
    (lM:PySem.W.nsIn K mainGlobals "MOST_SIGNS" = some (some (.int 8 tk_MS)))
    (iK:PySem.W.nsIn K mainGlobals "MOST_ACTIONS" = some (some (.int 8 tk_MA)))
    (lL:PySem.W.nsIn K mainGlobals "MOST_ROOMS" = some (some (.int 2000 tk_MR)))
    (uh:PySem.W.findIn K (.ref eO) "lets_torn" = some (some (.ref p7)))
    (uD:PySem.W.isFn K (.ref p7) = true)
    (vR:PySem.W.findIn K (.ref iw) "lets_torn" = some (some (.ref tK)))
    (wM:PySem.W.isFn K (.ref tK) = true)
    (vq:PySem.W.nsIn K mainGlobals "door_of" = some (some (.ref Al)))
    (vy:PySem.W.nsIn K mainGlobals "is_name" = some (some (.ref Am)))
    (gk:PySem.W.nsIn K mainGlobals "is_action_list" = some (some (.ref jf)))
    (iZ:PySem.W.nsIn K mainGlobals "need_actions" = some (some (.ref lZ)))
    (vz:PySem.W.nsIn K mainGlobals "is_room" = some (some (.ref An)))
    (iY:PySem.W.nsIn K mainGlobals "is_told_door" = some (some (.ref lY)))
    (mL:PySem.W.nsIn K mainGlobals "need_rooms" = some (some (.ref qj)))
    (oW:PySem.W.nsIn K mainGlobals "made_door" = some (some (.ref tQ)))
    (oX:PySem.W.nsIn K mainGlobals "made_room" = some (some (.ref tR)))
    (oY:PySem.W.nsIn K mainGlobals "told_room" = some (some (.ref tU)))
    (gj:PySem.W.nsIn K mainGlobals "_law_cell_at" = some (some (.ref lW)))
    (bw:PySem.W.nsIn K mainGlobals "_law_mixed" = some (some (.ref je)))
    (mJ:PySem.W.nsIn K mainGlobals "_law_names" = some (some (.ref qg)))
    (j8:PySem.W.nsIn K mainGlobals "_law_door" = some (some (.ref tO)))
    (mK:PySem.W.nsIn K mainGlobals "_law_rooms" = some (some (.ref qi)))
    (gY:PySem.W.nsIn K mainGlobals "_law_bad_door" = some (some (.ref jO)))
    (eE:PySem.W.nsIn K mainGlobals "_law_bad_actions" = some (some (.ref gR)))
    (gf:PySem.W.nsIn K mainGlobals "_law_bad_rooms" = some (some (.ref jd)))
    (eV:PySem.W.nsIn K mainGlobals "_law_bad_room" = some (some (.ref jP)))
    (b8:PySem.W.nsIn K mainGlobals "_law_refused" = some (some (.ref iR)))
    (iW:PySem.W.nsIn K mainGlobals "_law_spoiled" = some (some (.ref lX)))
    (fu:PySem.W.nsIn K mainGlobals "_law_torn_right" = some (some (.ref iC)))
    (m_law:PySem.W.nsIn K mainGlobals "law" = some (some (.ref f_law)))
    (zy:K.lookup gO = some ⟨Y8,Xi,.func (PySem.W.fnOf "__init__" "Door.__init__" (aU kj) (aP kj) (ao kj) .none Yx W5 ZM Wg Fb WM),aay⟩)
    (v8:PySem.W.codeIn K Fb "Door.__init__" = true)
    (oV:PySem.W.keepIn K (.ref gO) = true)
    (zF:K.lookup tL = some ⟨Zd,Xn,.func (PySem.W.fnOf "__init__" "Shut.__init__" (aU kO) (aP kO) (ao kO) .none YD Xa ZV Wl Fi WT),aaD⟩)
    (wu:PySem.W.codeIn K Fi "Shut.__init__" = true)
    (zu:PySem.W.keepIn K (.ref tL) = true)
    (zH:K.lookup tM = some ⟨Zf,Xp,.func (PySem.W.fnOf "__init__" "Torn.__init__" (aU kY) (aP kY) (ao kY) .none YG Xc ZX Wn Fo WX),aaF⟩)
    (wy:PySem.W.codeIn K Fo "Torn.__init__" = true)
    (zx:PySem.W.keepIn K (.ref tM) = true)
    (xj:K.lookup lV = some ⟨S9,R3,.func (PySem.W.fnOf "__init__" "Draft.__init__" (aU jn) (aP jn) (ao jn) .none Sw RL TY Rg By Rv),Ul⟩)
    (um:PySem.W.codeIn K By "Draft.__init__" = true)
    (wX:PySem.W.keepIn K (.ref lV) = true)
    (rN:K.lookup lU = some ⟨Lx,La,.func (PySem.W.fnOf "__init__" "BadPlan.__init__" (aU gA) (aP gA) (ao gA) .none Lk K4 Mj Kz xX KQ),Mv⟩)
    (pB:PySem.W.codeIn K xX "BadPlan.__init__" = true)
    (rM:PySem.W.keepIn K (.ref lU) = true)
    (xm:K.lookup p7 = some ⟨Tc,R4,.func (PySem.W.fnOf "lets_torn" "Draft.lets_torn" (aU jo) (aP jo) (ao jo) .none Sx RM T3 Rh BJ Rw),Um⟩)
    (uo:PySem.W.codeIn K BJ "Draft.lets_torn" = true)
    (qm:PySem.W.keepIn K (.ref p7) = true)
    (zE:K.lookup tK = some ⟨Zc,Xm,.func (PySem.W.fnOf "lets_torn" "Plan.lets_torn" (aU kJ) (aP kJ) (ao kJ) .none YC W9 ZS Wk Fg WR),aaC⟩)
    (wk:PySem.W.codeIn K Fg "Plan.lets_torn" = true)
    (tW:PySem.W.keepIn K (.ref tK) = true)
    (zB:K.lookup oK = some ⟨Zb,Xl,.func (PySem.W.fnOf "word" "Must.word" (aU kI) (aP kI) (ao kI) .none YB W8 ZR Wj Ff WQ),aaB⟩)
    (wj:PySem.W.codeIn K Ff "Must.word" = true)
    (tV:PySem.W.keepIn K (.ref oK) = true)
    (Dg:K.lookup rE = some ⟨ab5,abG,.func (PySem.W.fnOf "word" "May.word" (aU nM) (aP nM) (ao nM) .none abS abB ach abg JW abw),acA⟩)
    (yS:PySem.W.codeIn K JW "May.word" = true)
    (wZ:PySem.W.keepIn K (.ref rE) = true)
    (zG:K.lookup oN = some ⟨Ze,Xo,.func (PySem.W.fnOf "word" "Shut.word" (aU kW) (aP kW) (ao kW) .none YF Xb ZW Wm Fj WW),aaE⟩)
    (ww:PySem.W.codeIn K Fj "Shut.word" = true)
    (tX:PySem.W.keepIn K (.ref oN) = true)
    (zJ:K.lookup oO = some ⟨Zg,Xq,.func (PySem.W.fnOf "word" "Torn.word" (aU kZ) (aP kZ) (ao kZ) .none YH Xd ZZ Wo Fp WY),aaG⟩)
    (wz:PySem.W.codeIn K Fp "Torn.word" = true)
    (tY:PySem.W.keepIn K (.ref oO) = true)
    (xr:K.lookup qb = some ⟨Tf,R7,.func (PySem.W.fnOf "needs" "Must.needs" (aU ju) (aP ju) (ao ju) .none SM RQ T6 Rk BP Rz),Uq⟩)
    (ut:PySem.W.codeIn K BP "Must.needs" = true)
    (w6:PySem.W.keepIn K (.ref qb) = true)
    (zA:K.lookup tH = some ⟨Za,Xk,.func (PySem.W.fnOf "needs" "May.needs" (aU kE) (aP kE) (ao kE) .none Yz W7 ZQ Wi Fe WP),aaA⟩)
    (wg:PySem.W.codeIn K Fe "May.needs" = true)
    (zr:PySem.W.keepIn K (.ref tH) = true)
    (xu:K.lookup qd = some ⟨Tg,R8,.func (PySem.W.fnOf "needs" "Shut.needs" (aU jw) (aP jw) (ao jw) .none SN RT T7 Rm BR RB),Ur⟩)
    (uw:PySem.W.codeIn K BR "Shut.needs" = true)
    (xf:PySem.W.keepIn K (.ref qd) = true)
    (xx:K.lookup qe = some ⟨Th,R9,.func (PySem.W.fnOf "needs" "Torn.needs" (aU jx) (aP jx) (ao jx) .none SQ RV T8 Rn BV RC),Us⟩)
    (ux:PySem.W.codeIn K BV "Torn.needs" = true)
    (xg:PySem.W.keepIn K (.ref qe) = true)
    (uH:K.lookup nY = some ⟨Qj,Ox,.func (PySem.W.fnOf "allows" "Must.allows" (aU ik) (aP ik) (ao ik) .none PK Oo Qw Nz yX Oe),QR⟩)
    (qZ:PySem.W.codeIn K yX "Must.allows" = true)
    (uE:PySem.W.keepIn K (.ref nY) = true)
    (xq:K.lookup p8 = some ⟨Te,R6,.func (PySem.W.fnOf "allows" "May.allows" (aU jt) (aP jt) (ao jt) .none SJ RP T5 Rj BL Ry),Up⟩)
    (ur:PySem.W.codeIn K BL "May.allows" = true)
    (wY:PySem.W.keepIn K (.ref p8) = true)
    (uI:K.lookup nZ = some ⟨Qk,Oz,.func (PySem.W.fnOf "allows" "Shut.allows" (aU ir) (aP ir) (ao ir) .none PL Oq Qx NB yZ Og),QS⟩)
    (rz:PySem.W.codeIn K yZ "Shut.allows" = true)
    (uF:PySem.W.keepIn K (.ref nZ) = true)
    (uJ:K.lookup n6 = some ⟨Ql,OD,.func (PySem.W.fnOf "allows" "Torn.allows" (aU iu) (aP iu) (ao iu) .none PN Ot Qy NK za Oh),QT⟩)
    (rA:PySem.W.codeIn K za "Torn.allows" = true)
    (uG:PySem.W.keepIn K (.ref n6) = true)
    (Dh:K.lookup wI = some ⟨ab6,abH,.func (PySem.W.fnOf "led" "Must.led" (aU nO) (aP nO) (ao nO) .none abT abC aci abh JX abx),acB⟩)
    (yU:PySem.W.codeIn K JX "Must.led" = true)
    (Dc:PySem.W.keepIn K (.ref wI) = true)
    (Ip:K.lookup Ak = some ⟨aeb,ady,.func (PySem.W.fnOf "led" "May.led" (aU qH) (aP qH) (ao qH) .none adY adt aen ac2 Oi adl),aeC⟩)
    (Cz:PySem.W.codeIn K Oi "May.led" = true)
    (Io:PySem.W.keepIn K (.ref Ak) = true)
    (Di:K.lookup wJ = some ⟨ab7,abI,.func (PySem.W.fnOf "led" "Shut.led" (aU nP) (aP nP) (ao nP) .none abU abD acj abi JZ aby),acC⟩)
    (yV:PySem.W.codeIn K JZ "Shut.led" = true)
    (Dd:PySem.W.keepIn K (.ref wJ) = true)
    (Dj:K.lookup wK = some ⟨ab8,abJ,.func (PySem.W.fnOf "led" "Torn.led" (aU nQ) (aP nQ) (ao nQ) .none abV abE ack abj J0 abz),acD⟩)
    (yW:PySem.W.codeIn K J0 "Torn.led" = true)
    (De:PySem.W.keepIn K (.ref wK) = true)
    (zz:K.lookup dg = some ⟨Y9,Xj,.func (PySem.W.fnOf "told" "Door.told" (aU km) (aP km) (ao km) .none Yy W6 ZP Wh Fd WN),aaz⟩)
    (v9:PySem.W.codeIn K Fd "Door.told" = true)
    (iT:PySem.W.keepIn K (.ref dg) = true)
    (Ir:K.lookup Al = some ⟨aec,adz,.func (PySem.W.fnOf "door_of" "door_of" (aU qI) (aP qI) (ao qI) .none adZ adu aeo ac3 Oj adm),aeD⟩)
    (CG:PySem.W.codeIn K Oj "door_of" = true)
    (qz:PySem.W.keepIn K (.ref Al) = true)
    (Iu:K.lookup Am = some ⟨aed,adA,.func (PySem.W.fnOf "is_name" "is_name" (aU qJ) (aP qJ) (ao qJ) .none ad0 adv aep ac4 Ol adn),aeE⟩)
    (CJ:PySem.W.codeIn K Ol "is_name" = true)
    (qC:PySem.W.keepIn K (.ref Am) = true)
    (nu:K.lookup jf = some ⟨Gq,FN,.func (PySem.W.fnOf "is_action_list" "is_action_list" (aU dW) (aP dW) (ao dW) .none Gj Fy Gx Ep tD EY),GQ⟩)
    (lO:PySem.W.codeIn K tD "is_action_list" = true)
    (dO:PySem.W.keepIn K (.ref jf) = true)
    (rT:K.lookup lZ = some ⟨LQ,Lg,.func (PySem.W.fnOf "need_actions" "need_actions" (aU gH) (aP gH) (ao gH) .none Ls K9 Mr KN ye K3),MJ⟩)
    (pH:PySem.W.codeIn K ye "need_actions" = true)
    (f9:PySem.W.keepIn K (.ref lZ) = true)
    (Iv:K.lookup An = some ⟨aee,adB,.func (PySem.W.fnOf "is_room" "is_room" (aU qK) (aP qK) (ao qK) .none ad1 adw aeq ac5 Om ado),aeF⟩)
    (CK:PySem.W.codeIn K Om "is_room" = true)
    (qD:PySem.W.keepIn K (.ref An) = true)
    (rR:K.lookup lY = some ⟨LK,Lf,.func (PySem.W.fnOf "is_told_door" "is_told_door" (aU gG) (aP gG) (ao gG) .none Lr K8 Mq KJ yd K1),MF⟩)
    (pG:PySem.W.codeIn K yd "is_told_door" = true)
    (fZ:PySem.W.keepIn K (.ref lY) = true)
    (xJ:K.lookup qj = some ⟨Tp,Sq,.func (PySem.W.fnOf "need_rooms" "need_rooms" (aU jB) (aP jB) (ao jB) .none S8 R1 Uc Rr Ca RK),Uw⟩)
    (uB:PySem.W.codeIn K Ca "need_rooms" = true)
    (jk:PySem.W.keepIn K (.ref qj) = true)
    (zL:K.lookup tQ = some ⟨Zi,Xu,.func (PySem.W.fnOf "made_door" "made_door" (aU lu) (aP lu) (ao lu) .none YK Xf Z1 Wr Ft W2),aaI⟩)
    (wB:PySem.W.codeIn K Ft "made_door" = true)
    (j5:PySem.W.keepIn K (.ref tQ) = true)
    (zM:K.lookup tR = some ⟨Zj,Xv,.func (PySem.W.fnOf "made_room" "made_room" (aU lw) (aP lw) (ao lw) .none YL Xg Z2 Ws Fv W3),aaJ⟩)
    (wC:PySem.W.codeIn K Fv "made_room" = true)
    (j6:PySem.W.keepIn K (.ref tR) = true)
    (zN:K.lookup tU = some ⟨Zk,Xw,.func (PySem.W.fnOf "told_room" "told_room" (aU lz) (aP lz) (ao lz) .none YM Xh Z3 Wt Fw W4),aaK⟩)
    (wD:PySem.W.codeIn K Fw "told_room" = true)
    (j7:PySem.W.keepIn K (.ref tU) = true)
    (xn:K.lookup gQ = some ⟨Td,R5,.func (PySem.W.fnOf "told" "Draft.told" (aU jq) (aP jq) (ao jq) .none Sy RN T4 Ri BK Rx),Uo⟩)
    (uq:PySem.W.codeIn K BK "Draft.told" = true)
    (mz:PySem.W.keepIn K (.ref gQ) = true)
    (rO:K.lookup lW = some ⟨Ly,Lb,.func (PySem.W.fnOf "_law_cell_at" "_law_cell_at" (aU gB) (aP gB) (ao gB) .none Ln K5 Ml KC xY KR),Mw⟩)
    (pC:PySem.W.codeIn K xY "_law_cell_at" = true)
    (d8:PySem.W.keepIn K (.ref lW) = true)
    (xF:K.lookup je = some ⟨Ti,Sd,.func (PySem.W.fnOf "_law_mixed" "_law_mixed" (aU jy) (aP jy) (ao jy) .none SX RW T9 Ro BW RD),Ut⟩)
    (uy:PySem.W.codeIn K BW "_law_mixed" = true)
    (bj:PySem.W.keepIn K (.ref je) = true)
    (xG:K.lookup qg = some ⟨Tj,Sg,.func (PySem.W.fnOf "_law_names" "_law_names" (aU jz) (aP jz) (ao jz) .none S6 RX Ua Rp BX RG),Uu⟩)
    (uz:PySem.W.codeIn K BX "_law_names" = true)
    (ji:PySem.W.keepIn K (.ref qg) = true)
    (zK:K.lookup tO = some ⟨Zh,Xr,.func (PySem.W.fnOf "_law_door" "_law_door" (aU lg) (aP lg) (ao lg) .none YJ Xe Z0 Wq Fq W0),aaH⟩)
    (wA:PySem.W.codeIn K Fq "_law_door" = true)
    (iU:PySem.W.keepIn K (.ref tO) = true)
    (xH:K.lookup qi = some ⟨Tn,Sh,.func (PySem.W.fnOf "_law_rooms" "_law_rooms" (aU jA) (aP jA) (ao jA) .none S7 RZ Ub Rq BZ RJ),Uv⟩)
    (uA:PySem.W.codeIn K BZ "_law_rooms" = true)
    (jj:PySem.W.keepIn K (.ref qi) = true)
    (pL:K.lookup jO = some ⟨Jf,HN,.func (PySem.W.fnOf "_law_bad_door" "_law_bad_door" (aU eX) (aP eX) (ao eX) .none Il HB Jk Hn uZ Hx),Jp⟩)
    (m6:PySem.W.codeIn K uZ "_law_bad_door" = true)
    (eU:PySem.W.keepIn K (.ref jO) = true)
    (jX:K.lookup gR = some ⟨Bl,Bf,.func (PySem.W.fnOf "_law_bad_actions" "_law_bad_actions" (aU cV) (aP cV) (ao cV) .none Bk Be Bo Bc pW Bd),Bp⟩)
    (jC:PySem.W.codeIn K pW "_law_bad_actions" = true)
    (cU:PySem.W.keepIn K (.ref gR) = true)
    (nq:K.lookup jd = some ⟨Gp,FJ,.func (PySem.W.fnOf "_law_bad_rooms" "_law_bad_rooms" (aU dU) (aP dU) (ao dU) .none Gi Fx Gw Eo tB Ez),GP⟩)
    (lN:PySem.W.codeIn K tB "_law_bad_rooms" = true)
    (dN:PySem.W.keepIn K (.ref jd) = true)
    (pM:K.lookup jP = some ⟨Jg,HQ,.func (PySem.W.fnOf "_law_bad_room" "_law_bad_room" (aU eY) (aP eY) (ao eY) .none Im HD Jl Ho u9 Hy),Jq⟩)
    (m7:PySem.W.codeIn K u9 "_law_bad_room" = true)
    (du:PySem.W.keepIn K (.ref jP) = true)
    (rP:K.lookup iR = some ⟨Lz,Ld,.func (PySem.W.fnOf "_law_refused" "_law_refused" (aU gD) (aP gD) (ao gD) .none Lp K6 Mm KD xZ KY),My⟩)
    (pD:PySem.W.codeIn K xZ "_law_refused" = true)
    (bW:PySem.W.keepIn K (.ref iR) = true)
    (rQ:K.lookup lX = some ⟨LC,Le,.func (PySem.W.fnOf "_law_spoiled" "_law_spoiled" (aU gF) (aP gF) (ao gF) .none Lq K7 Mp KH yc KZ),Mz⟩)
    (pF:PySem.W.codeIn K yc "_law_spoiled" = true)
    (fY:PySem.W.keepIn K (.ref lX) = true)
    (mC:K.lookup iC = some ⟨Dq,CT,.func (PySem.W.fnOf "_law_torn_right" "_law_torn_right" (aU dj) (aP dj) (ao dj) .none CZ CP Du Cw rB CN),Dy⟩)
    (jV:PySem.W.codeIn K rB "_law_torn_right" = true)
    (di:PySem.W.keepIn K (.ref iC) = true)
    (l_law:K.lookup f_law = some ⟨of_law,df_law,.func (PySem.W.fnOf "law" "law" (aU GD) (aP GD) (ao GD) .none kV_law dc_law pm_law an_law adp ct_law),sf_law⟩)
    (adk:PySem.W.codeIn K adp "law" = true)
    (k_law:PySem.W.keepIn K (.ref f_law) = true)
   :∃ fd:FuncData,(∀ (s:Shared) (v:Value),BindsTo s fd ⟨[v],[]⟩ [("_law_script",v)])∧∀ base:Heap,K.In base→base.Ns mainGlobals mg→bB l.prog w K mg base CX0 11 fa fd ["_law_script"] (spLaw K):=by
  have e:=hfa.symm.trans (PySem.W.mg_of X G m_law)
  cases e
  let t:Ad:=⟨lA,fC,jG,fG,fH,eO,iw,b7,Ab,cW⟩
  have tlH:=tail_mk oH (afg nH eH) iH
  have cH:PySem.W.clsIn K cW = some cdH:=by
    unfold PySem.W.clsIn
    rw [oH]
  obtain ⟨dm,abr⟩:=exc_mk Je tlH (afg IW HS) CV CW Dw Dz DP qY hn htk Df
  have YQ:PySem.W.kitOne K (.ref b7) (.ref b7) = some true:=by
    unfold PySem.W.kitOne
    rw [if_pos (by simp)]
  have catH:CatOk K (Ga t) t.HallError dJ:=fun c C hc hC=>by
    unfold dJ at hc
    simp only [Bool.or_eq_true,beq_iff_eq] at hc
    subst hc
    cases hC
    exact exm_mk cH tyH Dm suH
  have i_Door:pP K t.Door:=⟨⟨ZF,Yb,Z4,aaf⟩,X4,hn,htk,Yi,aaP,⟨_,N7⟩⟩
  have Ig:pP K t.Must:=⟨⟨ZG,Yc,Z5,aag⟩,X5,hn,htk,Yj,aaQ,⟨_,N8⟩⟩
  have Vr:pP K t.May:=⟨⟨ael,adN,aer,aev⟩,adM,hn,htk,adO,aeQ,⟨_,WL⟩⟩
  have Ih:pP K t.Shut:=⟨⟨ZK,Ye,Z7,aai⟩,X7,hn,htk,Ym,aaS,⟨_,Ob⟩⟩
  have Ii:pP K t.Torn:=⟨⟨ZL,Yg,Z8,aaj⟩,X8,hn,htk,Yn,aaT,⟨_,Oc⟩⟩
  have Gg:pP K t.Draft:=⟨⟨Qu,Pr,Qz,QK⟩,Pq,hn,htk,Pu,Q4,⟨_,Hw⟩⟩
  have Px:pP K t.Plan:=⟨⟨ZJ,Yd,Z6,aah⟩,X6,hn,htk,Yk,aaR,⟨_,Oa⟩⟩
  have T:Txt K mg t:=⟨PySem.W.mg_of X G acW,i_Door,PySem.W.mg_of X G acX,Ig,PySem.W.mg_of X G a_May,Vr,PySem.W.mg_of X G acZ,Ih,PySem.W.mg_of X G ac0,Ii,PySem.W.mg_of X G Wf,Gg,PySem.W.mg_of X G acY,Px,PySem.W.mg_of X G Hm,PySem.W.mg_of X G yI,⟨h1H,h2H,h3H⟩,dm,dw,cJ,catH,gm,gr,qG,nD,gZ,ig,nF,nG,PySem.W.mg_none_of X G z_all,PySem.W.mg_none_of X G aeR,PySem.W.mg_none_of X G z9,PySem.W.mg_none_of X G z_int,PySem.W.mg_none_of X G xT,PySem.W.mg_none_of X G z_len,PySem.W.mg_none_of X G aeS,PySem.W.mg_none_of X G z_max,PySem.W.mg_none_of X G z_min,PySem.W.mg_none_of X G aaV,PySem.W.mg_none_of X G z_set,PySem.W.mg_none_of X G z_str,PySem.W.mg_none_of X G aaW,isiX_ok DQ abr ⟨⟨b7,rfl,dm.toExcGet,YQ⟩,trivial⟩,Gh tt_bool trivial,Gh tt_int trivial,Gh tt_list trivial,Gh tt_str trivial,Gh tt_tuple trivial,⟨_,PySem.W.mg_of X G uY,⟨_,rfl⟩⟩,⟨_,PySem.W.mg_of X G iK,⟨_,rfl⟩⟩,⟨_,PySem.W.mg_of X G lL,⟨_,rfl⟩⟩,⟨_,PySem.W.mg_of X G lM,⟨_,rfl⟩⟩⟩
  have Jy:=bx (st:=kj) zy v8 oV
  have JF:=bx (st:=kO) zF wu zu
  have JH:=bx (st:=kY) zH wy zx
  have vO:=bx (st:=jn) xj um wX
  have yC:=bx (st:=gA) rN pB rM
  have Ec:=bx (st:=jo) xm uo qm
  have JD:=bx (st:=kJ) zE wk tW
  have JC:=bx (st:=kI) zB wj tV
  have Nu:=bx (st:=nM) Dg yS wZ
  have JG:=bx (st:=kW) zG ww tX
  have JK:=bx (st:=kZ) zJ wz tY
  have Eg:=bx (st:=ju) xr ut w6
  have JB:=bx (st:=kE) zA wg zr
  have Eh:=bx (st:=jw) xu uw xf
  have Ei:=bx (st:=jx) xx ux xg
  have Br:=bx (st:=ik) uH qZ uE
  have Ef:=bx (st:=jt) xq ur wY
  have Bs:=bx (st:=ir) uI rz uF
  have Bt:=bx (st:=iu) uJ rA uG
  have Nv:=bx (st:=nO) Dh yU Dc
  have UT:=bx (st:=qH) Ip Cz Io
  have Nx:=bx (st:=nP) Di yV Dd
  have Ny:=bx (st:=nQ) Dj yW De
  have Jz:=bx (st:=km) zz v9 iT
  have UV:=bx (st:=qI) Ir CG qz
  have UW:=bx (st:=qJ) Iu CJ qC
  have uV:=bx (st:=dW) nu lO dO
  have yH:=bx (st:=gH) rT pH f9
  have U0:=bx (st:=qK) Iv CK qD
  have yG:=bx (st:=gG) rR pG fZ
  have Em:=bx (st:=jB) xJ uB jk
  have JM:=bx (st:=lu) zL wB j5
  have JN:=bx (st:=lw) zM wC j6
  have JP:=bx (st:=lz) zN wD j7
  have Ed:=bx (st:=jq) xn uq mz
  have yD:=bx (st:=gB) rO pC d8
  have Ej:=bx (st:=jy) xF uy bj
  have Ek:=bx (st:=jz) xG uz ji
  have JL:=bx (st:=lg) zK wA iU
  have El:=bx (st:=jA) xH uA jj
  have xV:=bx (st:=eX) pL m6 eU
  have qP:=bx (st:=cV) jX jC cU
  have uU:=bx (st:=dU) nq lN dN
  have xW:=bx (st:=eY) pM m7 du
  have yE:=bx (st:=gD) rP pD bW
  have yF:=bx (st:=gF) rQ pF fY
  have sW:=bx (st:=dj) mC jV di
  have U_law:=bx (st:=GD) l_law adk k_law
  refine ⟨PySem.W.fnOf "law" "law" (aU GD) (aP GD) (ao GD) .none kV_law dc_law pm_law an_law adp ct_law,fun s v=>.of_eq rfl,fun base _ _=>law_sp (t:=t) ?_⟩
  have sX:=Jy.binds (ps:=["self","to"]) fun _ _ _ _ _ _ us hl=>match us,hl with | [_,_],_=>rfl
  have abn:=JF.binds (ps:=["self"]) fun _ _ _ _ _ _ us hl=>match us,hl with | [_],_=>rfl
  have abp:=JH.binds (ps:=["self"]) fun _ _ _ _ _ _ us hl=>match us,hl with | [_],_=>rfl
  have sU:=Zm (P:=l.prog) (w:=w) (mg:=mg) (base:=base) Jy
  have ca:Aa K t.Door "__init__" (.ref gO):=⟨ca1,ca2,ca3⟩
  have aa6:=Zt (P:=l.prog) (w:=w) (base:=base) JF T sU ca oV sX
  have aa8:=Zv (P:=l.prog) (w:=w) (base:=base) JH T sU ca oV sX
  have Hf:Ini l.prog w K mg base t.Must 1 ["self","to"] (spI K (Ga t) qX 1 yw):=⟨_,_,⟨YT,Yo,ql,Yt⟩,ok_to (t:=t) sU rfl Ig.cls nD,sX⟩
  have UL:Ini l.prog w K mg base t.May 1 ["self","to"] (spI K (Ga t) Cy 1 UJ):=⟨_,_,⟨ad6,adP,ql,adX⟩,ok_to (t:=t) sU rfl Vr.cls qG,sX⟩
  have Hh:Ini l.prog w K mg base t.Shut 2 ["self"] (spI K (Ga t) pR 0 yx):=⟨_,_,⟨YX,Yq,wN,Yv⟩,aa6,abn⟩
  have Hi:Ini l.prog w K mg base t.Torn 2 ["self"] (spI K (Ga t) pU 0 Cu):=⟨_,_,⟨YZ,Yr,wQ,Yw⟩,aa8,abp⟩
  have abl:=JC.binds (ps:=["self"]) fun _ _ _ _ _ _ us hl=>match us,hl with | [_],_=>rfl
  have aa4:=Zq (P:=l.prog) (w:=w) (base:=base) (t:=t) JC T
  have ac7:=Nu.binds (ps:=["self"]) fun _ _ _ _ _ _ us hl=>match us,hl with | [_],_=>rfl
  have acV:=ab9 (P:=l.prog) (w:=w) (base:=base) (t:=t) Nu T
  have abo:=JG.binds (ps:=["self"]) fun _ _ _ _ _ _ us hl=>match us,hl with | [_],_=>rfl
  have aa7:=Zu (P:=l.prog) (w:=w) (base:=base) (t:=t) JG T
  have abq:=JK.binds (ps:=["self"]) fun _ _ _ _ _ _ us hl=>match us,hl with | [_],_=>rfl
  have aa9:=Zw (P:=l.prog) (w:=w) (base:=base) (t:=t) JK T
  have b_Must_needs:=Eg.binds (ps:=["self"]) fun _ _ _ _ _ _ us hl=>match us,hl with | [_],_=>rfl
  have O_Must_needs:=Tu (P:=l.prog) (w:=w) (base:=base) (t:=t) Eg T
  have b_May_needs:=JB.binds (ps:=["self"]) fun _ _ _ _ _ _ us hl=>match us,hl with | [_],_=>rfl
  have O_May_needs:=Zo (P:=l.prog) (w:=w) (base:=base) (t:=t) JB T
  have b_Shut_needs:=Eh.binds (ps:=["self"]) fun _ _ _ _ _ _ us hl=>match us,hl with | [_],_=>rfl
  have O_Shut_needs:=Tv (P:=l.prog) (w:=w) (base:=base) (t:=t) Eh T
  have b_Torn_needs:=Ei.binds (ps:=["self"]) fun _ _ _ _ _ _ us hl=>match us,hl with | [_],_=>rfl
  have O_Torn_needs:=Tw (P:=l.prog) (w:=w) (base:=base) (t:=t) Ei T
  have b_Must_allows:=Br.binds (ps:=["self"]) fun _ _ _ _ _ _ us hl=>match us,hl with | [_],_=>rfl
  have O_Must_allows:=Qo (P:=l.prog) (w:=w) (base:=base) (t:=t) Br T
  have b_May_allows:=Ef.binds (ps:=["self"]) fun _ _ _ _ _ _ us hl=>match us,hl with | [_],_=>rfl
  have O_May_allows:=Tt (P:=l.prog) (w:=w) (base:=base) (t:=t) Ef T
  have b_Shut_allows:=Bs.binds (ps:=["self"]) fun _ _ _ _ _ _ us hl=>match us,hl with | [_],_=>rfl
  have O_Shut_allows:=Qp (P:=l.prog) (w:=w) (base:=base) (t:=t) Bs T
  have b_Torn_allows:=Bt.binds (ps:=["self"]) fun _ _ _ _ _ _ us hl=>match us,hl with | [_],_=>rfl
  have O_Torn_allows:=Qq (P:=l.prog) (w:=w) (base:=base) (t:=t) Bt T
  have b_Must_led:=Nv.binds (ps:=["self","to"]) fun _ _ _ _ _ _ us hl=>match us,hl with | [_,_],_=>rfl
  have O_Must_led:=aca (P:=l.prog) (w:=w) (base:=base) (t:=t) Nv T Hf
  have b_May_led:=UT.binds (ps:=["self","to"]) fun _ _ _ _ _ _ us hl=>match us,hl with | [_,_],_=>rfl
  have O_May_led:=aef (P:=l.prog) (w:=w) (base:=base) (t:=t) UT T UL
  have b_Shut_led:=Nx.binds (ps:=["self","to"]) fun _ _ _ _ _ _ us hl=>match us,hl with | [_,_],_=>rfl
  have O_Shut_led:=acb (P:=l.prog) (w:=w) (base:=base) (t:=t) Nx T Hh
  have b_Torn_led:=Ny.binds (ps:=["self","to"]) fun _ _ _ _ _ _ us hl=>match us,hl with | [_,_],_=>rfl
  have O_Torn_led:=acd (P:=l.prog) (w:=w) (base:=base) (t:=t) Ny T Hi
  have acU:yz l.prog w K mg base (Ga t) "word" (spD K (Ga t) 1) 1 GR:=⟨⟨fC,oK,_,_,rfl,Ig.cls,⟨vQ,wL,tV⟩,aa4.mono (by decide),abl⟩,⟨jG,rE,_,_,rfl,Vr.cls,⟨yK,zg,wZ⟩,acV.mono (by decide),ac7⟩,⟨fG,oN,_,_,rfl,Ih.cls,⟨vW,wO,tX⟩,aa7.mono (by decide),abo⟩,⟨fH,oO,_,_,rfl,Ii.cls,⟨vY,wR,tY⟩,aa9.mono (by decide),abq⟩,trivial⟩
  have sY:=Jz.binds (ps:=["self"]) fun _ _ _ _ _ _ us hl=>match us,hl with | [_],_=>rfl
  have sV:=Zn (P:=l.prog) (w:=w) (base:=base) (t:=t) Jz T acU
  have Ht:=UV.binds (ps:=["needs","allows","to"]) fun _ _ _ _ _ _ us hl=>match us,hl with | [_,_,_],_=>rfl
  have afu:=aeg (P:=l.prog) (w:=w) (base:=base) (t:=t) UV T Hf UL Hi Hh
  have GZ:Def l.prog w K mg base "door_of" 4 ["needs","allows","to"] (spD K (Ga t) 3 qw):=⟨_,_,afu,Ht,PySem.W.mg_of X G vq,qz⟩
  have NQ:=yC.binds (ps:=["self","room","action"]) fun _ _ _ _ _ _ us hl=>match us,hl with | [_,_,_],_=>rfl
  have mX:XIni l.prog w K mg base t.zT 1 ["self","room","action"] (spX2 t.BadPlan "room" "action"):=⟨_,_,DX,DR,LR (t:=t) yC T,NQ⟩
  have Hu:=UW.binds (ps:=["thing"]) fun _ _ _ _ _ _ us hl=>match us,hl with | [_],_=>rfl
  have afv:=aeh (P:=l.prog) (w:=w) (base:=base) (t:=t) UW T
  have G7:Def l.prog w K mg base "is_name" 1 ["thing"] (spD K (Ga t) 1 cL):=⟨_,_,afv,Hu,PySem.W.mg_of X G vy,qC⟩
  have mZ:=uV.binds (ps:=["thing"]) fun _ _ _ _ _ _ us hl=>match us,hl with | [_],_=>rfl
  have Hk:=Gs (P:=l.prog) (w:=w) (base:=base) (t:=t) uV T G7
  have mW:Def l.prog w K mg base "is_action_list" 2 ["thing"] (spD K (Ga t) 1 bc):=⟨_,_,Hk,mZ,PySem.W.mg_of X G gk,dO⟩
  have qW:=yH.binds (ps:=["actions"]) fun _ _ _ _ _ _ us hl=>match us,hl with | [_],_=>rfl
  have Nr:=Mi (P:=l.prog) (w:=w) (base:=base) (t:=t) yH T mW mX
  have lC:Def1 l.prog w K mg base "need_actions" 3 ["actions"] (spD K (Ga t) 1 cZ):=⟨_,_,Nr,qW,PySem.W.mg_of X G iZ,f9⟩
  have Hv:=U0.binds (ps:=["thing","many"]) fun _ _ _ _ _ _ us hl=>match us,hl with | [_,_],_=>rfl
  have afw:=aei (P:=l.prog) (w:=w) (base:=base) (t:=t) U0 T
  have G8:Def l.prog w K mg base "is_room" 1 ["thing","many"] (spD K (Ga t) 2 j0):=⟨_,_,afw,Hv,PySem.W.mg_of X G vz,qD⟩
  have qU:=yG.binds (ps:=["thing","many","torn_too"]) fun _ _ _ _ _ _ us hl=>match us,hl with | [_,_,_],_=>rfl
  have Nq:=Mh (P:=l.prog) (w:=w) (base:=base) (t:=t) yG T G8
  have qN:Def l.prog w K mg base "is_told_door" 2 ["thing","many","torn_too"] (spD K (Ga t) 3 aN):=⟨_,_,Nq,qU,PySem.W.mg_of X G iY,fZ⟩
  have v5:=Em.binds (ps:=["rows","many_actions","torn_too"]) fun _ _ _ _ _ _ us hl=>match us,hl with | [_,_,_],_=>rfl
  have We:=TV (P:=l.prog) (w:=w) (base:=base) (t:=t) Em T mX qN
  have p6:Def1 l.prog w K mg base "need_rooms" 3 ["rows","many_actions","torn_too"] (spD K (Ga t) 3 bh):=⟨_,_,We,v5,PySem.W.mg_of X G mL,jk⟩
  have yO:=JM.binds (ps:=["told"]) fun _ _ _ _ _ _ us hl=>match us,hl with | [_],_=>rfl
  have abb:=Zy (P:=l.prog) (w:=w) (base:=base) (t:=t) JM T GZ
  have yo:Def l.prog w K mg base "made_door" 5 ["told"] (spD K (Ga t) 1 iG):=⟨_,_,abb,yO,PySem.W.mg_of X G oW,j5⟩
  have yP:=JN.binds (ps:=["row"]) fun _ _ _ _ _ _ us hl=>match us,hl with | [_],_=>rfl
  have abd:=Zz (P:=l.prog) (w:=w) (base:=base) (t:=t) JN T yo
  have sO:Def l.prog w K mg base "made_room" 6 ["row"] (spD K (Ga t) 1 iI):=⟨_,_,abd,yP,PySem.W.mg_of X G oX,j6⟩
  have Hd:yz l.prog w K mg base (Ga t) "told" (spD K (Ga t) 1) 2 z8:=⟨⟨fC,dg,_,_,rfl,Ig.cls,⟨vP,jg,iT⟩,sV.mono (by decide),sY⟩,⟨jG,dg,_,_,rfl,Vr.cls,⟨yJ,jg,iT⟩,sV.mono (by decide),sY⟩,⟨fG,dg,_,_,rfl,Ih.cls,⟨vV,jg,iT⟩,sV.mono (by decide),sY⟩,⟨fH,dg,_,_,rfl,Ii.cls,⟨vX,jg,iT⟩,sV.mono (by decide),sY⟩,trivial⟩
  have yQ:=JP.binds (ps:=["doors"]) fun _ _ _ _ _ _ us hl=>match us,hl with | [_],_=>rfl
  have abe:=ZC (P:=l.prog) (w:=w) (base:=base) (t:=t) JP T Hd
  have yp:Def l.prog w K mg base "told_room" 3 ["doors"] (spF K (Ga t) 1 iJ):=⟨_,_,abe,yQ,PySem.W.mg_of X G oY,j7⟩
  have Wx:=Ec.binds (ps:=["self"]) fun _ _ _ _ _ _ us hl=>match us,hl with | [_],_=>rfl
  have Wa:=Tq (P:=l.prog) (w:=w) (mg:=mg) (base:=base) Ec
  have abm:=JD.binds (ps:=["self"]) fun _ _ _ _ _ _ us hl=>match us,hl with | [_],_=>rfl
  have aa5:=Zr (P:=l.prog) (w:=w) (mg:=mg) (base:=base) JD
  have Eu:=vO.binds (ps:=["self","actions","rows"]) fun _ _ _ _ _ _ us hl=>match us,hl with | [_,_,_],_=>rfl
  have Ac:Ini1 l.prog w K mg base t.Draft 7 ["self","actions","rows"] (spI K (Ga t) fJ 2 nW):=⟨_,_,⟨Qd,Py,n8,PJ⟩,Cp (t:=t) vO T lC p6 sO rfl Gg.cls gm gr ⟨uh,uD,qm⟩ Wa Wx,Eu⟩
  have Hg:Ini1 l.prog w K mg base t.Plan 7 ["self","actions","rows"] (spI K (Ga t) j4 2 uf):=⟨_,_,⟨YW,Yp,n8,Yu⟩,Cp (t:=t) vO T lC p6 sO rfl Px.cls gZ ig ⟨vR,wM,tW⟩ aa5 abm,Eu⟩
  have Ew:=Ed.binds (ps:=["self"]) fun _ _ _ _ _ _ us hl=>match us,hl with | [_],_=>rfl
  have Ea:=Tr (P:=l.prog) (w:=w) (base:=base) (t:=t) Ed T yp
  have lJ:=yD.binds (ps:=["_law_script","_law_k"]) fun _ _ _ _ _ _ us hl=>match us,hl with | [_,_],_=>rfl
  have Nk:=Ma (P:=l.prog) (w:=w) (base:=base) (t:=t) yD T
  have qL:Def l.prog w K mg base "_law_cell_at" 1 ["_law_script","_law_k"] (spD K (Ga t) 2 cX):=⟨_,_,Nk,lJ,PySem.W.mg_of X G gj,d8⟩
  have bD:=Ej.binds (ps:=["_law_cell","_law_k"]) fun _ _ _ _ _ _ us hl=>match us,hl with | [_,_],_=>rfl
  have Wb:=Tz (P:=l.prog) (w:=w) (base:=base) (t:=t) Ej T
  have dD:Def l.prog w K mg base "_law_mixed" 1 ["_law_cell","_law_k"] (spD K (Ga t) 2 aO):=⟨_,_,Wb,bD,PySem.W.mg_of X G bw,bj⟩
  have vZ:=Ek.binds (ps:=["_law_cell","_law_many"]) fun _ _ _ _ _ _ us hl=>match us,hl with | [_,_],_=>rfl
  have Wc:=TJ (P:=l.prog) (w:=w) (base:=base) (t:=t) Ek T dD
  have vM:Def l.prog w K mg base "_law_names" 2 ["_law_cell","_law_many"] (spD K (Ga t) 2 lF):=⟨_,_,Wc,vZ,PySem.W.mg_of X G mJ,ji⟩
  have sZ:=JL.binds (ps:=["_law_x","_law_many"]) fun _ _ _ _ _ _ us hl=>match us,hl with | [_,_],_=>rfl
  have aba:=Zx (P:=l.prog) (w:=w) (base:=base) (t:=t) JL T
  have ym:Def l.prog w K mg base "_law_door" 1 ["_law_x","_law_many"] (spD K (Ga t) 2 gM):=⟨_,_,aba,sZ,PySem.W.mg_of X G j8,iU⟩
  have v4:=El.binds (ps:=["_law_cell","_law_many","_law_acts","_law_cells"]) fun _ _ _ _ _ _ us hl=>match us,hl with | [_,_,_,_],_=>rfl
  have Wd:=TQ (P:=l.prog) (w:=w) (base:=base) (t:=t) El T ym dD
  have vN:Def l.prog w K mg base "_law_rooms" 2 ["_law_cell","_law_many","_law_acts","_law_cells"] (spD K (Ga t) 4 lG):=⟨_,_,Wd,v4,PySem.W.mg_of X G mK,jj⟩
  have pA:=xV.binds (ps:=["_law_x","_law_many"]) fun _ _ _ _ _ _ us hl=>match us,hl with | [_,_],_=>rfl
  have Kw:=Jh (P:=l.prog) (w:=w) (base:=base) (t:=t) xV T
  have ph:Def l.prog w K mg base "_law_bad_door" 1 ["_law_x","_law_many"] (spD K (Ga t) 2 dq):=⟨_,_,Kw,pA,PySem.W.mg_of X G gY,eU⟩
  have jU:=qP.binds (ps:=["_law_x","_law_names_here"]) fun _ _ _ _ _ _ us hl=>match us,hl with | [_,_],_=>rfl
  have Cv:=Bm (P:=l.prog) (w:=w) (base:=base) (t:=t) qP T
  have jR:Def l.prog w K mg base "_law_bad_actions" 1 ["_law_x","_law_names_here"] (spD K (Ga t) 2 cj):=⟨_,_,Cv,jU,PySem.W.mg_of X G eE,cU⟩
  have mY:=uU.binds (ps:=["_law_x","_law_rows"]) fun _ _ _ _ _ _ us hl=>match us,hl with | [_,_],_=>rfl
  have Hj:=Gr (P:=l.prog) (w:=w) (base:=base) (t:=t) uU T
  have mV:Def l.prog w K mg base "_law_bad_rooms" 1 ["_law_x","_law_rows"] (spD K (Ga t) 2 cR):=⟨_,_,Hj,mY,PySem.W.mg_of X G gf,dN⟩
  have jN:=xW.binds (ps:=["_law_x","_law_doors"]) fun _ _ _ _ _ _ us hl=>match us,hl with | [_,_],_=>rfl
  have Ky:=Ji (P:=l.prog) (w:=w) (base:=base) (t:=t) xW T
  have pq:Def l.prog w K mg base "_law_bad_room" 1 ["_law_x","_law_doors"] (spD K (Ga t) 2 bM):=⟨_,_,Ky,jN,PySem.W.mg_of X G eV,du⟩
  have c7:=yE.binds (ps:=["_law_names_here","_law_rows","_law_plain"]) fun _ _ _ _ _ _ us hl=>match us,hl with | [_,_,_],_=>rfl
  have Nm:=Mf (P:=l.prog) (w:=w) (base:=base) (t:=t) yE T Hg Ac
  have fM:Def l.prog w K mg base "_law_refused" 9 ["_law_names_here","_law_rows","_law_plain"] (spD K (Ga t) 3 aZ):=⟨_,_,Nm,c7,PySem.W.mg_of X G b8,bW⟩
  have qT:=yF.binds (ps:=["_law_names_here","_law_rows","_law_x","_law_y"]) fun _ _ _ _ _ _ us hl=>match us,hl with | [_,_,_,_],_=>rfl
  have Np:=Mg (P:=l.prog) (w:=w) (base:=base) (t:=t) yF T jR mV pq ph
  have qM:Def l.prog w K mg base "_law_spoiled" 2 ["_law_names_here","_law_rows","_law_x","_law_y"] (spD K (Ga t) 4 cY):=⟨_,_,Np,qT,PySem.W.mg_of X G iW,fY⟩
  have uR:yz l.prog w K mg base (Ga t) "told" (spFF K (Ga t) 1) 4 gW:=⟨⟨eO,gQ,_,_,rfl,Gg.cls,⟨ul,oh,mz⟩,Ea.mono (by decide),Ew⟩,⟨iw,gQ,_,_,rfl,Px.cls,⟨vU,oh,mz⟩,Ea.mono (by decide),Ew⟩,trivial⟩
  have lK:=sW.binds (ps:=["_law_names_here","_law_rows","_law_x"]) fun _ _ _ _ _ _ us hl=>match us,hl with | [_,_,_],_=>rfl
  have Eb:=Ds (P:=l.prog) (w:=w) (base:=base) (t:=t) sW T fM uR Ac
  have lB:Def l.prog w K mg base "_law_torn_right" 10 ["_law_names_here","_law_rows","_law_x"] (spD K (Ga t) 3 dh):=⟨_,_,Eb,lK,PySem.W.mg_of X G fu,di⟩
  exact ok_law U_law T qL vM dD vN qM fM lB uR Hg
theorem walk {l:PySem.W.OpenLaw} {q:Program} {loose:List Str} {XP:(Str→Option Value)→Heap→Prop} {YP:World→Heap→Prop} {d:DefRec} {K:Params→PySem.W.Frag} (hn:l.most = some 63) (hdf:d.params.defaults = [])
    (hY:∀ (w:World) (h:Heap),YP w h→(K w.params).In h)
    (F:∀ (w:World) (mg:Str→Option Value) (fa:Addr) (h:Heap),(K w.params).In h→h.Ns mainGlobals mg→mg d.name = some (.ref fa) →
      ∃ fd:FuncData,(∀ (s:Shared) (u:Value),BindsTo s fd ⟨[u],[]⟩ [("_law_script",u)])∧∀ base:Heap,(K w.params).In base→base.Ns mainGlobals mg→bB l.prog w (K w.params) mg base CX0 11 fa fd ["_law_script"] (spLaw (K w.params))) :
    PySem.W.WalkO q loose XP YP l.row.toRowW d [] (fun f vs=>PySem.call f vs) :=
  L2.walk_of (n:=63) (k:=11) (x:="_law_script") (CX:=fun _=>CX0) (sp:=fun w=>spLaw (K w.params)) hn (by decide) hdf ⟨rfl,by decide,by decide⟩ hY F (fun _ _ a ns hl _ hS=>⟨a,ns,rfl,hS,hl,fun _=>rfl⟩) fun _ _ _ _ _ z=>z
end K2
namespace K2
open PySem PySem.W L2
noncomputable abbrev pw:Program:=PySem.Challenge.pw_mustmay_k03_bad_plans
abbrev hI (i:Int):Value:=.int i 0
abbrev hS (x:Str) (t:Nat):Value:=.str x t
abbrev hR (a:Addr):Value:=.ref a
abbrev hE (P:Params) (x:Str) (t:Nat) (v:Value):DictEntry:=⟨PyData.keyHash P x,.str x t,v⟩
abbrev hT (xs:List Value):Obj:=⟨.type "tuple",none,.seq (Array.mk xs) 0,Array.mk []⟩
abbrev hN (xs:List Value):Obj:=⟨.none,none,.fields (Array.mk xs),Array.mk []⟩
abbrev hK (xs:List Value):Obj:=⟨.type "code",none,.fields (Array.mk xs),Array.mk []⟩
abbrev hD (es:List DictEntry):Obj:=⟨.type "dict",none,.dict (Array.mk es) 0,Array.mk []⟩
abbrev hDn (n:Nat) (es:List DictEntry):Obj:=⟨.type "dict",none,.dict (Array.mk es) n,Array.mk []⟩
abbrev hC (n q:Str) (s:Stmt):Obj:=⟨.none,none,.func ⟨n,q,aU s,.stmts (aP s),ao s,0,[],.none,.none,.none,.none,none,.none,.none,0⟩,Array.mk []⟩
abbrev hF (n q:Str) (s:Stmt) (pm cd:Value):Obj:=⟨.type "function",none,.func ⟨n,q,aU s,.stmts (aP s),ao s,3,[],.none,.none,.none,pm,none,cd,.none,0⟩,Array.mk []⟩
noncomputable def o0:Obj:=hK [(hS "<module>" 182),(hS "<module>" 183),(hS "/claim/cut.py" 184),(hI 1),(hI 0),(hI 0),(hI 0),(hI 0),(hR 11),(.bool false),(hI 181),(hR 12),.none,.none,.none,.none,(hI 185),(hI 1),(hS "/claim/cut.py" 186)]
noncomputable def o1:Obj:=⟨(.type "frame"),none,.plain,Array.mk [(some (hR 13)),(some (hR 3)),(some (hR 3)),none,(some (hS "__main__" 164)),none,(some (hR 0))]⟩
noncomputable def o2 (P:Params):Obj:=hDn 46 [hE P "__name__" 165 (hS "law_mustmay_k03_bad_plans" 665),hE P "__doc__" 166 .none,hE P "__package__" 167 .none,hE P "__loader__" 168 (.builtin "__main__.__loader__#opaque"),hE P "__spec__" 169 .none,hE P "__annotations__" 170 (hR 6),hE P "__builtins__" 171 (hR 4),hE P "__file__" 173 (hS "/claim/cut.py" 172),hE P "__cached__" 174 .none,hE P "_wall" 193 (hR 21),hE P "Door" 231 (hR 45),hE P "Must" 276 (hR 87),hE P "May" 321 (hR 127),hE P "Shut" 373 (hR 174),hE P "Torn" 425 (hR 221),hE P "door_of" 434 (hR 230),hE P "HallError" 454 (hR 240),hE P "BadPlan" 481 (hR 260),hE P "LETTERS" 485 (hS "abcdefghijklmnopqrstuvwxyz" 484),hE P "MOST_SIGNS" 487 (.int (8) 486),hE P "MOST_ACTIONS" 489 (.int (8) 488),hE P "MOST_ROOMS" 491 (.int (2000) 490),hE P "is_name" 497 (hR 267),hE P "is_action_list" 503 (hR 272),hE P "need_actions" 510 (hR 279),hE P "is_room" 518 (hR 286),hE P "is_told_door" 528 (hR 293),hE P "need_rooms" 541 (hR 300),hE P "made_door" 549 (hR 307),hE P "made_room" 555 (hR 312),hE P "told_room" 561 (hR 317),hE P "Draft" 641 (hR 379),hE P "Plan" 664 (hR 400),hE P "_law_cell_at" 674 (hR 409),hE P "_law_mixed" 683 (hR 416),hE P "_law_names" 689 (hR 421),hE P "_law_door" 697 (hR 428),hE P "_law_rooms" 703 (hR 433),hE P "_law_bad_door" 712 (hR 440),hE P "_law_bad_actions" 721 (hR 447),hE P "_law_bad_rooms" 730 (hR 454),hE P "_law_bad_room" 739 (hR 461),hE P "_law_refused" 750 (hR 468),hE P "_law_spoiled" 756 (hR 473),hE P "_law_torn_right" 762 (hR 478),hE P "law" 777 (hR 485)]
noncomputable def o3:Obj:=hN [(hI 1),(hI 0),(hR 20),(hI 5),(hI 0),(hR 27),(hI 12),(hI 0),(hR 55),(hI 25),(hI 0),(hR 95),(hI 38),(hI 0),(hR 135),(hI 54),(hI 0),(hR 182),(hI 70),(hI 0),(hR 229),(hI 79),(hI 0),(hR 236),(hI 81),(hI 0),(hR 249),(hI 92),(hI 0),(hR 266),(hI 96),(hI 0),(hR 271),(hI 100),(hI 0),(hR 278),(hI 103),(hI 0),(hR 285),(hI 105),(hI 0),(hR 292),(hI 114),(hI 0),(hR 299),(hI 123),(hI 0),(hR 306),(hI 126),(hI 0),(hR 311),(hI 128),(hI 0),(hR 316),(hI 130),(hI 0),(hR 323),(hI 159),(hI 0),(hR 389),(hI 164),(hI 0),(hR 408),(hI 168),(hI 0),(hR 415),(hI 172),(hI 0),(hR 420),(hI 184),(hI 0),(hR 427),(hI 188),(hI 0),(hR 432),(hI 195),(hI 0),(hR 439),(hI 203),(hI 0),(hR 446),(hI 209),(hI 0),(hR 453),(hI 212),(hI 0),(hR 460),(hI 215),(hI 0),(hR 467),(hI 227),(hI 0),(hR 472),(hI 247),(hI 0),(hR 477),(hI 259),(hI 0),(hR 484)]
noncomputable def o4:Obj:=hT [(hS "k" 190)]
noncomputable def o5:Obj:=hC "_wall" "_wall" (top 0)
noncomputable def o6:Obj:=hK [(hS "_wall" 187),(hS "_wall" 188),(hS "/claim/cut.py" 189),(hI 1),(hI 1),(hI 0),(hI 0),(hI 3),(hR 15),(.bool true),(hI 181),(hR 16),.none,(hR 17),(hR 18),(hR 19),(hI 191),(hI 1),(hS "/claim/cut.py" 192)]
noncomputable def o7:Obj:=hF "_wall" "_wall" (top 0) (hS "__main__" 164) (hR 20)
noncomputable def o8:Obj:=⟨(.type "builtin_function_or_method"),none,(.fields (Array.mk [(.builtin "type.__prepare__"),(.type "type")])),Array.mk []⟩
noncomputable def o9 (P:Params):Obj:=hDn 6 [hE P "__module__" 203 (hS "mustmay.doors" 194),hE P "__qualname__" 205 (hS "Door" 204),hE P "__firstlineno__" 207 (.int (5) 206),hE P "__init__" 215 (hR 35),hE P "told" 222 (hR 42),hE P "__static_attributes__" 224 (hR 43)]
noncomputable def o10:Obj:=hN [(hI 7),(hI 4),(hR 34),(hI 10),(hI 4),(hR 41)]
noncomputable def o11:Obj:=hK [(hS "Door" 198),(hS "Door" 199),(hS "/claim/cut.py" 200),(hI 5),(hI 0),(hI 0),(hI 0),(hI 0),(hR 25),(.bool false),(hI 181),(hR 26),.none,.none,.none,.none,(hI 201),(hI 5),(hS "/claim/cut.py" 202)]
noncomputable def o12:Obj:=⟨(.type "frame"),none,.plain,Array.mk [(some (hR 27)),(some (hR 3)),(some (hR 24)),none,(some (hS "mustmay.doors" 194)),none,(some (hR 0))]⟩
noncomputable def o13:Obj:=hT [(hS "self" 211),(hS "to" 212)]
noncomputable def o14:Obj:=hC "__init__" "Door.__init__" (inClass (top 2) 0)
noncomputable def o15:Obj:=hK [(hS "__init__" 208),(hS "Door.__init__" 209),(hS "/claim/cut.py" 210),(hI 7),(hI 2),(hI 0),(hI 0),(hI 3),(hR 29),(.bool true),(hI 181),(hR 30),.none,(hR 31),(hR 32),(hR 33),(hI 213),(hI 7),(hS "/claim/cut.py" 214)]
noncomputable def o16:Obj:=hF "__init__" "Door.__init__" (inClass (top 2) 0) (hS "mustmay.doors" 194) (hR 34)
noncomputable def o17:Obj:=hT [(hS "self" 219)]
noncomputable def o18:Obj:=hC "told" "Door.told" (inClass (top 2) 1)
noncomputable def o19:Obj:=hK [(hS "told" 216),(hS "Door.told" 217),(hS "/claim/cut.py" 218),(hI 10),(hI 1),(hI 0),(hI 0),(hI 3),(hR 36),(.bool true),(hI 181),(hR 37),.none,(hR 38),(hR 39),(hR 40),(hI 220),(hI 10),(hS "/claim/cut.py" 221)]
noncomputable def o20:Obj:=hF "told" "Door.told" (inClass (top 2) 1) (hS "mustmay.doors" 194) (hR 41)
noncomputable def o21:Obj:=hT [(hS "to" 223)]
noncomputable def o22 (P:Params):Obj:=hDn 4 [hE P "__module__" 203 (hS "mustmay.doors" 194),hE P "__firstlineno__" 207 (.int (5) 206),hE P "__init__" 215 (hR 35),hE P "told" 222 (hR 42),hE P "__static_attributes__" 224 (hR 43),hE P "__dict__" 226 (hR 46),hE P "__weakref__" 228 (hR 47),hE P "__doc__" 229 .none]
noncomputable def o23:Obj:=⟨(.type "type"),none,(.cls ⟨"Door",[(.type "object")],[(hR 45),(.type "object")],44,"Door",true,[],[(hR 87),(hR 127),(hR 174),(hR 221)],false,none,false⟩),Array.mk [none,none,(some (hS "Door" 196)),(some (hS "Door" 204)),(some (.builtin "object.__new__")),(some (.bool true))]⟩
noncomputable def o24:Obj:=⟨(.type "getset_descriptor"),none,(.fields (Array.mk [(hS "__dict__" 225),(hR 45),(.builtin "function.__dict__"),(.builtin "function.__dict__#set")])),Array.mk []⟩
noncomputable def o25:Obj:=⟨(.type "getset_descriptor"),none,(.fields (Array.mk [(hS "__weakref__" 227),(hR 45),(.builtin "ExceptionGroup.__weakref__"),.none])),Array.mk []⟩
noncomputable def o26:Obj:=⟨(.type "super"),none,(.fields (Array.mk [(hR 45),(hR 45),(hR 45)])),Array.mk []⟩
noncomputable def o27:Obj:=⟨(.type "builtin_function_or_method"),none,(.fields (Array.mk [(.builtin "object.__init_subclass__"),(hR 45)])),Array.mk []⟩
noncomputable def o28 (P:Params):Obj:=hDn 8 [hE P "__module__" 239 (hS "mustmay.doors" 194),hE P "__qualname__" 241 (hS "Must" 240),hE P "__firstlineno__" 243 (.int (12) 242),hE P "word" 250 (hR 63),hE P "needs" 257 (hR 70),hE P "allows" 264 (hR 77),hE P "led" 272 (hR 84),hE P "__static_attributes__" 273 (hR 85)]
noncomputable def o29:Obj:=hN [(hI 14),(hI 4),(hR 62),(hI 17),(hI 4),(hR 69),(hI 20),(hI 4),(hR 76),(hI 23),(hI 4),(hR 83)]
noncomputable def o30:Obj:=hK [(hS "Must" 234),(hS "Must" 235),(hS "/claim/cut.py" 236),(hI 12),(hI 0),(hI 0),(hI 0),(hI 0),(hR 53),(.bool false),(hI 181),(hR 54),.none,.none,.none,.none,(hI 237),(hI 12),(hS "/claim/cut.py" 238)]
noncomputable def o31:Obj:=⟨(.type "frame"),none,.plain,Array.mk [(some (hR 55)),(some (hR 3)),(some (hR 52)),none,(some (hS "mustmay.doors" 194)),none,(some (hR 0))]⟩
noncomputable def o32:Obj:=hT [(hS "self" 247)]
noncomputable def o33:Obj:=hC "word" "Must.word" (inClass (top 3) 0)
noncomputable def o34:Obj:=hK [(hS "word" 244),(hS "Must.word" 245),(hS "/claim/cut.py" 246),(hI 14),(hI 1),(hI 0),(hI 0),(hI 3),(hR 57),(.bool true),(hI 181),(hR 58),.none,(hR 59),(hR 60),(hR 61),(hI 248),(hI 14),(hS "/claim/cut.py" 249)]
noncomputable def o35:Obj:=hF "word" "Must.word" (inClass (top 3) 0) (hS "mustmay.doors" 194) (hR 62)
noncomputable def o36:Obj:=hT [(hS "self" 254)]
noncomputable def o37:Obj:=hC "needs" "Must.needs" (inClass (top 3) 1)
noncomputable def o38:Obj:=hK [(hS "needs" 251),(hS "Must.needs" 252),(hS "/claim/cut.py" 253),(hI 17),(hI 1),(hI 0),(hI 0),(hI 3),(hR 64),(.bool true),(hI 181),(hR 65),.none,(hR 66),(hR 67),(hR 68),(hI 255),(hI 17),(hS "/claim/cut.py" 256)]
noncomputable def o39:Obj:=hF "needs" "Must.needs" (inClass (top 3) 1) (hS "mustmay.doors" 194) (hR 69)
noncomputable def o40:Obj:=hT [(hS "self" 261)]
noncomputable def o41:Obj:=hC "allows" "Must.allows" (inClass (top 3) 2)
noncomputable def o42:Obj:=hK [(hS "allows" 258),(hS "Must.allows" 259),(hS "/claim/cut.py" 260),(hI 20),(hI 1),(hI 0),(hI 0),(hI 3),(hR 71),(.bool true),(hI 181),(hR 72),.none,(hR 73),(hR 74),(hR 75),(hI 262),(hI 20),(hS "/claim/cut.py" 263)]
noncomputable def o43:Obj:=hF "allows" "Must.allows" (inClass (top 3) 2) (hS "mustmay.doors" 194) (hR 76)
noncomputable def o44:Obj:=hT [(hS "self" 268),(hS "to" 269)]
noncomputable def o45:Obj:=hC "led" "Must.led" (inClass (top 3) 3)
noncomputable def o46:Obj:=hK [(hS "led" 265),(hS "Must.led" 266),(hS "/claim/cut.py" 267),(hI 23),(hI 2),(hI 0),(hI 0),(hI 3),(hR 78),(.bool true),(hI 181),(hR 79),.none,(hR 80),(hR 81),(hR 82),(hI 270),(hI 23),(hS "/claim/cut.py" 271)]
noncomputable def o47:Obj:=hF "led" "Must.led" (inClass (top 3) 3) (hS "mustmay.doors" 194) (hR 83)
noncomputable def o48 (P:Params):Obj:=hDn 2 [hE P "__module__" 239 (hS "mustmay.doors" 194),hE P "__firstlineno__" 243 (.int (12) 242),hE P "word" 250 (hR 63),hE P "needs" 257 (hR 70),hE P "allows" 264 (hR 77),hE P "led" 272 (hR 84),hE P "__static_attributes__" 273 (hR 85),hE P "__doc__" 274 .none]
noncomputable def o49:Obj:=⟨(.type "type"),none,(.cls ⟨"Must",[(hR 45)],[(hR 87),(hR 45),(.type "object")],86,"Must",true,[],[],false,none,false⟩),Array.mk [(some (hR 50)),none,(some (hS "Must" 232)),(some (hS "Must" 240)),(some (.builtin "object.__new__")),(some (.bool true))]⟩
noncomputable def o50:Obj:=⟨(.type "super"),none,(.fields (Array.mk [(hR 87),(hR 87),(hR 87)])),Array.mk []⟩
noncomputable def o51:Obj:=⟨(.type "builtin_function_or_method"),none,(.fields (Array.mk [(.builtin "object.__init_subclass__"),(hR 87)])),Array.mk []⟩
noncomputable def o52 (P:Params):Obj:=hDn 8 [hE P "__module__" 284 (hS "mustmay.doors" 194),hE P "__qualname__" 286 (hS "May" 285),hE P "__firstlineno__" 288 (.int (25) 287),hE P "word" 295 (hR 103),hE P "needs" 302 (hR 110),hE P "allows" 309 (hR 117),hE P "led" 317 (hR 124),hE P "__static_attributes__" 318 (hR 125)]
noncomputable def o53:Obj:=hN [(hI 27),(hI 4),(hR 102),(hI 30),(hI 4),(hR 109),(hI 33),(hI 4),(hR 116),(hI 36),(hI 4),(hR 123)]
noncomputable def o54:Obj:=hK [(hS "May" 279),(hS "May" 280),(hS "/claim/cut.py" 281),(hI 25),(hI 0),(hI 0),(hI 0),(hI 0),(hR 93),(.bool false),(hI 181),(hR 94),.none,.none,.none,.none,(hI 282),(hI 25),(hS "/claim/cut.py" 283)]
noncomputable def o55:Obj:=⟨(.type "frame"),none,.plain,Array.mk [(some (hR 95)),(some (hR 3)),(some (hR 92)),none,(some (hS "mustmay.doors" 194)),none,(some (hR 0))]⟩
noncomputable def o56:Obj:=hT [(hS "self" 292)]
noncomputable def o57:Obj:=hC "word" "May.word" (inClass (top 4) 0)
noncomputable def o58:Obj:=hK [(hS "word" 289),(hS "May.word" 290),(hS "/claim/cut.py" 291),(hI 27),(hI 1),(hI 0),(hI 0),(hI 3),(hR 97),(.bool true),(hI 181),(hR 98),.none,(hR 99),(hR 100),(hR 101),(hI 293),(hI 27),(hS "/claim/cut.py" 294)]
noncomputable def o59:Obj:=hF "word" "May.word" (inClass (top 4) 0) (hS "mustmay.doors" 194) (hR 102)
noncomputable def o60:Obj:=hT [(hS "self" 299)]
noncomputable def o61:Obj:=hC "needs" "May.needs" (inClass (top 4) 1)
noncomputable def o62:Obj:=hK [(hS "needs" 296),(hS "May.needs" 297),(hS "/claim/cut.py" 298),(hI 30),(hI 1),(hI 0),(hI 0),(hI 3),(hR 104),(.bool true),(hI 181),(hR 105),.none,(hR 106),(hR 107),(hR 108),(hI 300),(hI 30),(hS "/claim/cut.py" 301)]
noncomputable def o63:Obj:=hF "needs" "May.needs" (inClass (top 4) 1) (hS "mustmay.doors" 194) (hR 109)
noncomputable def o64:Obj:=hT [(hS "self" 306)]
noncomputable def o65:Obj:=hC "allows" "May.allows" (inClass (top 4) 2)
noncomputable def o66:Obj:=hK [(hS "allows" 303),(hS "May.allows" 304),(hS "/claim/cut.py" 305),(hI 33),(hI 1),(hI 0),(hI 0),(hI 3),(hR 111),(.bool true),(hI 181),(hR 112),.none,(hR 113),(hR 114),(hR 115),(hI 307),(hI 33),(hS "/claim/cut.py" 308)]
noncomputable def o67:Obj:=hF "allows" "May.allows" (inClass (top 4) 2) (hS "mustmay.doors" 194) (hR 116)
noncomputable def o68:Obj:=hT [(hS "self" 313),(hS "to" 314)]
noncomputable def o69:Obj:=hC "led" "May.led" (inClass (top 4) 3)
noncomputable def o70:Obj:=hK [(hS "led" 310),(hS "May.led" 311),(hS "/claim/cut.py" 312),(hI 36),(hI 2),(hI 0),(hI 0),(hI 3),(hR 118),(.bool true),(hI 181),(hR 119),.none,(hR 120),(hR 121),(hR 122),(hI 315),(hI 36),(hS "/claim/cut.py" 316)]
noncomputable def o71:Obj:=hF "led" "May.led" (inClass (top 4) 3) (hS "mustmay.doors" 194) (hR 123)
noncomputable def o72 (P:Params):Obj:=hDn 2 [hE P "__module__" 284 (hS "mustmay.doors" 194),hE P "__firstlineno__" 288 (.int (25) 287),hE P "word" 295 (hR 103),hE P "needs" 302 (hR 110),hE P "allows" 309 (hR 117),hE P "led" 317 (hR 124),hE P "__static_attributes__" 318 (hR 125),hE P "__doc__" 319 .none]
noncomputable def o73:Obj:=⟨(.type "type"),none,(.cls ⟨"May",[(hR 45)],[(hR 127),(hR 45),(.type "object")],126,"May",true,[],[],false,none,false⟩),Array.mk [(some (hR 90)),none,(some (hS "May" 277)),(some (hS "May" 285)),(some (.builtin "object.__new__")),(some (.bool true))]⟩
noncomputable def o74:Obj:=⟨(.type "super"),none,(.fields (Array.mk [(hR 127),(hR 127),(hR 127)])),Array.mk []⟩
noncomputable def o75:Obj:=⟨(.type "builtin_function_or_method"),none,(.fields (Array.mk [(.builtin "object.__init_subclass__"),(hR 127)])),Array.mk []⟩
noncomputable def o76 (P:Params):Obj:=hDn 9 [hE P "__module__" 329 (hS "mustmay.doors" 194),hE P "__qualname__" 331 (hS "Shut" 330),hE P "__firstlineno__" 333 (.int (38) 332),hE P "__init__" 340 (hR 143),hE P "word" 347 (hR 150),hE P "needs" 354 (hR 157),hE P "allows" 361 (hR 164),hE P "led" 369 (hR 171),hE P "__static_attributes__" 370 (hR 172)]
noncomputable def o77:Obj:=hN [(hI 40),(hI 4),(hR 142),(hI 43),(hI 4),(hR 149),(hI 46),(hI 4),(hR 156),(hI 49),(hI 4),(hR 163),(hI 52),(hI 4),(hR 170)]
noncomputable def o78:Obj:=hK [(hS "Shut" 324),(hS "Shut" 325),(hS "/claim/cut.py" 326),(hI 38),(hI 0),(hI 0),(hI 0),(hI 0),(hR 133),(.bool false),(hI 181),(hR 134),.none,.none,.none,.none,(hI 327),(hI 38),(hS "/claim/cut.py" 328)]
noncomputable def o79:Obj:=⟨(.type "frame"),none,.plain,Array.mk [(some (hR 135)),(some (hR 3)),(some (hR 132)),none,(some (hS "mustmay.doors" 194)),none,(some (hR 0))]⟩
noncomputable def o80:Obj:=hT [(hS "self" 337)]
noncomputable def o81:Obj:=hC "__init__" "Shut.__init__" (inClass (top 5) 0)
noncomputable def o82:Obj:=hK [(hS "__init__" 334),(hS "Shut.__init__" 335),(hS "/claim/cut.py" 336),(hI 40),(hI 1),(hI 0),(hI 0),(hI 3),(hR 137),(.bool true),(hI 181),(hR 138),.none,(hR 139),(hR 140),(hR 141),(hI 338),(hI 40),(hS "/claim/cut.py" 339)]
noncomputable def o83:Obj:=hF "__init__" "Shut.__init__" (inClass (top 5) 0) (hS "mustmay.doors" 194) (hR 142)
noncomputable def o84:Obj:=hT [(hS "self" 344)]
noncomputable def o85:Obj:=hC "word" "Shut.word" (inClass (top 5) 1)
noncomputable def o86:Obj:=hK [(hS "word" 341),(hS "Shut.word" 342),(hS "/claim/cut.py" 343),(hI 43),(hI 1),(hI 0),(hI 0),(hI 3),(hR 144),(.bool true),(hI 181),(hR 145),.none,(hR 146),(hR 147),(hR 148),(hI 345),(hI 43),(hS "/claim/cut.py" 346)]
noncomputable def o87:Obj:=hF "word" "Shut.word" (inClass (top 5) 1) (hS "mustmay.doors" 194) (hR 149)
noncomputable def o88:Obj:=hT [(hS "self" 351)]
noncomputable def o89:Obj:=hC "needs" "Shut.needs" (inClass (top 5) 2)
noncomputable def o90:Obj:=hK [(hS "needs" 348),(hS "Shut.needs" 349),(hS "/claim/cut.py" 350),(hI 46),(hI 1),(hI 0),(hI 0),(hI 3),(hR 151),(.bool true),(hI 181),(hR 152),.none,(hR 153),(hR 154),(hR 155),(hI 352),(hI 46),(hS "/claim/cut.py" 353)]
noncomputable def o91:Obj:=hF "needs" "Shut.needs" (inClass (top 5) 2) (hS "mustmay.doors" 194) (hR 156)
noncomputable def o92:Obj:=hT [(hS "self" 358)]
noncomputable def o93:Obj:=hC "allows" "Shut.allows" (inClass (top 5) 3)
noncomputable def o94:Obj:=hK [(hS "allows" 355),(hS "Shut.allows" 356),(hS "/claim/cut.py" 357),(hI 49),(hI 1),(hI 0),(hI 0),(hI 3),(hR 158),(.bool true),(hI 181),(hR 159),.none,(hR 160),(hR 161),(hR 162),(hI 359),(hI 49),(hS "/claim/cut.py" 360)]
noncomputable def o95:Obj:=hF "allows" "Shut.allows" (inClass (top 5) 3) (hS "mustmay.doors" 194) (hR 163)
noncomputable def o96:Obj:=hT [(hS "self" 365),(hS "to" 366)]
noncomputable def o97:Obj:=hC "led" "Shut.led" (inClass (top 5) 4)
noncomputable def o98:Obj:=hK [(hS "led" 362),(hS "Shut.led" 363),(hS "/claim/cut.py" 364),(hI 52),(hI 2),(hI 0),(hI 0),(hI 3),(hR 165),(.bool true),(hI 181),(hR 166),.none,(hR 167),(hR 168),(hR 169),(hI 367),(hI 52),(hS "/claim/cut.py" 368)]
noncomputable def o99:Obj:=hF "led" "Shut.led" (inClass (top 5) 4) (hS "mustmay.doors" 194) (hR 170)
noncomputable def o100 (P:Params):Obj:=hDn 2 [hE P "__module__" 329 (hS "mustmay.doors" 194),hE P "__firstlineno__" 333 (.int (38) 332),hE P "__init__" 340 (hR 143),hE P "word" 347 (hR 150),hE P "needs" 354 (hR 157),hE P "allows" 361 (hR 164),hE P "led" 369 (hR 171),hE P "__static_attributes__" 370 (hR 172),hE P "__doc__" 371 .none]
noncomputable def o101:Obj:=⟨(.type "type"),none,(.cls ⟨"Shut",[(hR 45)],[(hR 174),(hR 45),(.type "object")],173,"Shut",true,[],[],false,none,false⟩),Array.mk [(some (hR 130)),none,(some (hS "Shut" 322)),(some (hS "Shut" 330)),(some (.builtin "object.__new__")),(some (.bool true))]⟩
noncomputable def o102:Obj:=⟨(.type "super"),none,(.fields (Array.mk [(hR 174),(hR 174),(hR 174)])),Array.mk []⟩
noncomputable def o103:Obj:=⟨(.type "builtin_function_or_method"),none,(.fields (Array.mk [(.builtin "object.__init_subclass__"),(hR 174)])),Array.mk []⟩
noncomputable def o104 (P:Params):Obj:=hDn 9 [hE P "__module__" 381 (hS "mustmay.doors" 194),hE P "__qualname__" 383 (hS "Torn" 382),hE P "__firstlineno__" 385 (.int (54) 384),hE P "__init__" 392 (hR 190),hE P "word" 399 (hR 197),hE P "needs" 406 (hR 204),hE P "allows" 413 (hR 211),hE P "led" 421 (hR 218),hE P "__static_attributes__" 422 (hR 219)]
noncomputable def o105:Obj:=hN [(hI 56),(hI 4),(hR 189),(hI 59),(hI 4),(hR 196),(hI 62),(hI 4),(hR 203),(hI 65),(hI 4),(hR 210),(hI 68),(hI 4),(hR 217)]
noncomputable def o106:Obj:=hK [(hS "Torn" 376),(hS "Torn" 377),(hS "/claim/cut.py" 378),(hI 54),(hI 0),(hI 0),(hI 0),(hI 0),(hR 180),(.bool false),(hI 181),(hR 181),.none,.none,.none,.none,(hI 379),(hI 54),(hS "/claim/cut.py" 380)]
noncomputable def o107:Obj:=⟨(.type "frame"),none,.plain,Array.mk [(some (hR 182)),(some (hR 3)),(some (hR 179)),none,(some (hS "mustmay.doors" 194)),none,(some (hR 0))]⟩
noncomputable def o108:Obj:=hT [(hS "self" 389)]
noncomputable def o109:Obj:=hC "__init__" "Torn.__init__" (inClass (top 6) 0)
noncomputable def o110:Obj:=hK [(hS "__init__" 386),(hS "Torn.__init__" 387),(hS "/claim/cut.py" 388),(hI 56),(hI 1),(hI 0),(hI 0),(hI 3),(hR 184),(.bool true),(hI 181),(hR 185),.none,(hR 186),(hR 187),(hR 188),(hI 390),(hI 56),(hS "/claim/cut.py" 391)]
noncomputable def o111:Obj:=hF "__init__" "Torn.__init__" (inClass (top 6) 0) (hS "mustmay.doors" 194) (hR 189)
noncomputable def o112:Obj:=hT [(hS "self" 396)]
noncomputable def o113:Obj:=hC "word" "Torn.word" (inClass (top 6) 1)
noncomputable def o114:Obj:=hK [(hS "word" 393),(hS "Torn.word" 394),(hS "/claim/cut.py" 395),(hI 59),(hI 1),(hI 0),(hI 0),(hI 3),(hR 191),(.bool true),(hI 181),(hR 192),.none,(hR 193),(hR 194),(hR 195),(hI 397),(hI 59),(hS "/claim/cut.py" 398)]
noncomputable def o115:Obj:=hF "word" "Torn.word" (inClass (top 6) 1) (hS "mustmay.doors" 194) (hR 196)
noncomputable def o116:Obj:=hT [(hS "self" 403)]
noncomputable def o117:Obj:=hC "needs" "Torn.needs" (inClass (top 6) 2)
noncomputable def o118:Obj:=hK [(hS "needs" 400),(hS "Torn.needs" 401),(hS "/claim/cut.py" 402),(hI 62),(hI 1),(hI 0),(hI 0),(hI 3),(hR 198),(.bool true),(hI 181),(hR 199),.none,(hR 200),(hR 201),(hR 202),(hI 404),(hI 62),(hS "/claim/cut.py" 405)]
noncomputable def o119:Obj:=hF "needs" "Torn.needs" (inClass (top 6) 2) (hS "mustmay.doors" 194) (hR 203)
noncomputable def o120:Obj:=hT [(hS "self" 410)]
noncomputable def o121:Obj:=hC "allows" "Torn.allows" (inClass (top 6) 3)
noncomputable def o122:Obj:=hK [(hS "allows" 407),(hS "Torn.allows" 408),(hS "/claim/cut.py" 409),(hI 65),(hI 1),(hI 0),(hI 0),(hI 3),(hR 205),(.bool true),(hI 181),(hR 206),.none,(hR 207),(hR 208),(hR 209),(hI 411),(hI 65),(hS "/claim/cut.py" 412)]
noncomputable def o123:Obj:=hF "allows" "Torn.allows" (inClass (top 6) 3) (hS "mustmay.doors" 194) (hR 210)
noncomputable def o124:Obj:=hT [(hS "self" 417),(hS "to" 418)]
noncomputable def o125:Obj:=hC "led" "Torn.led" (inClass (top 6) 4)
noncomputable def o126:Obj:=hK [(hS "led" 414),(hS "Torn.led" 415),(hS "/claim/cut.py" 416),(hI 68),(hI 2),(hI 0),(hI 0),(hI 3),(hR 212),(.bool true),(hI 181),(hR 213),.none,(hR 214),(hR 215),(hR 216),(hI 419),(hI 68),(hS "/claim/cut.py" 420)]
noncomputable def o127:Obj:=hF "led" "Torn.led" (inClass (top 6) 4) (hS "mustmay.doors" 194) (hR 217)
noncomputable def o128 (P:Params):Obj:=hDn 2 [hE P "__module__" 381 (hS "mustmay.doors" 194),hE P "__firstlineno__" 385 (.int (54) 384),hE P "__init__" 392 (hR 190),hE P "word" 399 (hR 197),hE P "needs" 406 (hR 204),hE P "allows" 413 (hR 211),hE P "led" 421 (hR 218),hE P "__static_attributes__" 422 (hR 219),hE P "__doc__" 423 .none]
noncomputable def o129:Obj:=⟨(.type "type"),none,(.cls ⟨"Torn",[(hR 45)],[(hR 221),(hR 45),(.type "object")],220,"Torn",true,[],[],false,none,false⟩),Array.mk [(some (hR 177)),none,(some (hS "Torn" 374)),(some (hS "Torn" 382)),(some (.builtin "object.__new__")),(some (.bool true))]⟩
noncomputable def o130:Obj:=⟨(.type "super"),none,(.fields (Array.mk [(hR 221),(hR 221),(hR 221)])),Array.mk []⟩
noncomputable def o131:Obj:=⟨(.type "builtin_function_or_method"),none,(.fields (Array.mk [(.builtin "object.__init_subclass__"),(hR 221)])),Array.mk []⟩
noncomputable def o132:Obj:=hT [(hS "needs" 429),(hS "allows" 430),(hS "to" 431)]
noncomputable def o133:Obj:=hC "door_of" "door_of" (top 7)
noncomputable def o134:Obj:=hK [(hS "door_of" 426),(hS "door_of" 427),(hS "/claim/cut.py" 428),(hI 70),(hI 3),(hI 0),(hI 0),(hI 3),(hR 224),(.bool true),(hI 181),(hR 225),.none,(hR 226),(hR 227),(hR 228),(hI 432),(hI 70),(hS "/claim/cut.py" 433)]
noncomputable def o135:Obj:=hF "door_of" "door_of" (top 7) (hS "mustmay.doors" 194) (hR 229)
noncomputable def o136:Obj:=hT [(.type "ValueError")]
noncomputable def o137 (P:Params):Obj:=hDn 4 [hE P "__module__" 444 (hS "mustmay.errors" 435),hE P "__qualname__" 446 (hS "HallError" 445),hE P "__firstlineno__" 448 (.int (79) 447),hE P "__static_attributes__" 449 (hR 238)]
noncomputable def o138:Obj:=hK [(hS "HallError" 439),(hS "HallError" 440),(hS "/claim/cut.py" 441),(hI 79),(hI 0),(hI 0),(hI 0),(hI 0),(hR 234),(.bool false),(hI 181),(hR 235),.none,.none,.none,.none,(hI 442),(hI 79),(hS "/claim/cut.py" 443)]
noncomputable def o139:Obj:=⟨(.type "frame"),none,.plain,Array.mk [(some (hR 236)),(some (hR 3)),(some (hR 233)),none,(some (hS "mustmay.errors" 435)),none,(some (hR 0))]⟩
noncomputable def o140 (P:Params):Obj:=hDn 3 [hE P "__module__" 444 (hS "mustmay.errors" 435),hE P "__firstlineno__" 448 (.int (79) 447),hE P "__static_attributes__" 449 (hR 238),hE P "__weakref__" 451 (hR 241),hE P "__doc__" 452 .none]
noncomputable def o141:Obj:=⟨(.type "type"),none,(.cls ⟨"HallError",[(.type "ValueError")],[(hR 240),(.type "ValueError"),(.type "Exception"),(.type "BaseException"),(.type "object")],239,"HallError",true,[],[(hR 260)],false,none,false⟩),Array.mk [(some (hR 231)),none,(some (hS "HallError" 437)),(some (hS "HallError" 445)),(some (.builtin "ValueError.__new__")),(some (.bool true))]⟩
noncomputable def o142:Obj:=⟨(.type "getset_descriptor"),none,(.fields (Array.mk [(hS "__weakref__" 450),(hR 240),(.builtin "ExceptionGroup.__weakref__"),.none])),Array.mk []⟩
noncomputable def o143:Obj:=⟨(.type "super"),none,(.fields (Array.mk [(hR 240),(hR 240),(hR 240)])),Array.mk []⟩
noncomputable def o144:Obj:=⟨(.type "builtin_function_or_method"),none,(.fields (Array.mk [(.builtin "object.__init_subclass__"),(hR 240)])),Array.mk []⟩
noncomputable def o145 (P:Params):Obj:=hDn 5 [hE P "__module__" 462 (hS "mustmay.errors" 435),hE P "__qualname__" 464 (hS "BadPlan" 463),hE P "__firstlineno__" 466 (.int (81) 465),hE P "__init__" 475 (hR 257),hE P "__static_attributes__" 478 (hR 258)]
noncomputable def o146:Obj:=hN [(hI 83),(hI 4),(hR 256)]
noncomputable def o147:Obj:=hK [(hS "BadPlan" 457),(hS "BadPlan" 458),(hS "/claim/cut.py" 459),(hI 81),(hI 0),(hI 0),(hI 0),(hI 0),(hR 247),(.bool false),(hI 181),(hR 248),.none,.none,.none,.none,(hI 460),(hI 81),(hS "/claim/cut.py" 461)]
noncomputable def o148:Obj:=⟨(.type "frame"),none,.plain,Array.mk [(some (hR 249)),(some (hR 3)),(some (hR 246)),none,(some (hS "mustmay.errors" 435)),none,(some (hR 0))]⟩
noncomputable def o149:Obj:=hT [(hS "self" 470),(hS "room" 471),(hS "action" 472)]
noncomputable def o150:Obj:=hC "__init__" "BadPlan.__init__" (inClass (top 10) 0)
noncomputable def o151:Obj:=hK [(hS "__init__" 467),(hS "BadPlan.__init__" 468),(hS "/claim/cut.py" 469),(hI 83),(hI 3),(hI 0),(hI 0),(hI 3),(hR 251),(.bool true),(hI 181),(hR 252),.none,(hR 253),(hR 254),(hR 255),(hI 473),(hI 83),(hS "/claim/cut.py" 474)]
noncomputable def o152:Obj:=hF "__init__" "BadPlan.__init__" (inClass (top 10) 0) (hS "mustmay.errors" 435) (hR 256)
noncomputable def o153:Obj:=hT [(hS "action" 476),(hS "room" 477)]
noncomputable def o154 (P:Params):Obj:=hDn 2 [hE P "__module__" 462 (hS "mustmay.errors" 435),hE P "__firstlineno__" 466 (.int (81) 465),hE P "__init__" 475 (hR 257),hE P "__static_attributes__" 478 (hR 258),hE P "__doc__" 479 .none]
noncomputable def o155:Obj:=⟨(.type "type"),none,(.cls ⟨"BadPlan",[(hR 240)],[(hR 260),(hR 240),(.type "ValueError"),(.type "Exception"),(.type "BaseException"),(.type "object")],259,"BadPlan",true,[],[],false,none,false⟩),Array.mk [(some (hR 244)),none,(some (hS "BadPlan" 455)),(some (hS "BadPlan" 463)),(some (.builtin "ValueError.__new__")),(some (.bool true))]⟩
noncomputable def o156:Obj:=⟨(.type "super"),none,(.fields (Array.mk [(hR 260),(hR 260),(hR 260)])),Array.mk []⟩
noncomputable def o157:Obj:=⟨(.type "builtin_function_or_method"),none,(.fields (Array.mk [(.builtin "object.__init_subclass__"),(hR 260)])),Array.mk []⟩
noncomputable def o158:Obj:=hC "is_name" "is_name" (top 16)
noncomputable def o159:Obj:=hK [(hS "is_name" 492),(hS "is_name" 493),(hS "/claim/cut.py" 494),(hI 92),(hI 1),(hI 0),(hI 0),(hI 3),(hR 263),(.bool true),(hI 181),(hR 264),.none,.none,.none,(hR 265),(hI 495),(hI 92),(hS "/claim/cut.py" 496)]
noncomputable def o160:Obj:=hF "is_name" "is_name" (top 16) (hS "mustmay.plans" 482) (hR 266)
noncomputable def o161:Obj:=hC "is_action_list" "is_action_list" (top 17)
noncomputable def o162:Obj:=hK [(hS "is_action_list" 498),(hS "is_action_list" 499),(hS "/claim/cut.py" 500),(hI 96),(hI 1),(hI 0),(hI 0),(hI 3),(hR 268),(.bool true),(hI 181),(hR 269),.none,.none,.none,(hR 270),(hI 501),(hI 96),(hS "/claim/cut.py" 502)]
noncomputable def o163:Obj:=hF "is_action_list" "is_action_list" (top 17) (hS "mustmay.plans" 482) (hR 271)
noncomputable def o164:Obj:=hT [(hS "actions" 507)]
noncomputable def o165:Obj:=hC "need_actions" "need_actions" (top 18)
noncomputable def o166:Obj:=hK [(hS "need_actions" 504),(hS "need_actions" 505),(hS "/claim/cut.py" 506),(hI 100),(hI 1),(hI 0),(hI 0),(hI 3),(hR 273),(.bool true),(hI 181),(hR 274),.none,(hR 275),(hR 276),(hR 277),(hI 508),(hI 100),(hS "/claim/cut.py" 509)]
noncomputable def o167:Obj:=hF "need_actions" "need_actions" (top 18) (hS "mustmay.plans" 482) (hR 278)
noncomputable def o168:Obj:=hT [(hS "thing" 514),(hS "many" 515)]
noncomputable def o169:Obj:=hC "is_room" "is_room" (top 19)
noncomputable def o170:Obj:=hK [(hS "is_room" 511),(hS "is_room" 512),(hS "/claim/cut.py" 513),(hI 103),(hI 2),(hI 0),(hI 0),(hI 3),(hR 280),(.bool true),(hI 181),(hR 281),.none,(hR 282),(hR 283),(hR 284),(hI 516),(hI 103),(hS "/claim/cut.py" 517)]
noncomputable def o171:Obj:=hF "is_room" "is_room" (top 19) (hS "mustmay.plans" 482) (hR 285)
noncomputable def o172:Obj:=hT [(hS "thing" 522),(hS "many" 523),(hS "torn_too" 524),(hS "word" 525)]
noncomputable def o173:Obj:=hC "is_told_door" "is_told_door" (top 20)
noncomputable def o174:Obj:=hK [(hS "is_told_door" 519),(hS "is_told_door" 520),(hS "/claim/cut.py" 521),(hI 105),(hI 3),(hI 0),(hI 0),(hI 3),(hR 287),(.bool true),(hI 181),(hR 288),.none,(hR 289),(hR 290),(hR 291),(hI 526),(hI 105),(hS "/claim/cut.py" 527)]
noncomputable def o175:Obj:=hF "is_told_door" "is_told_door" (top 20) (hS "mustmay.plans" 482) (hR 292)
noncomputable def o176:Obj:=hT [(hS "rows" 532),(hS "many_actions" 533),(hS "torn_too" 534),(hS "room" 535),(hS "row" 536),(hS "action" 537),(hS "thing" 538)]
noncomputable def o177:Obj:=hC "need_rooms" "need_rooms" (top 21)
noncomputable def o178:Obj:=hK [(hS "need_rooms" 529),(hS "need_rooms" 530),(hS "/claim/cut.py" 531),(hI 114),(hI 3),(hI 0),(hI 0),(hI 3),(hR 294),(.bool true),(hI 181),(hR 295),.none,(hR 296),(hR 297),(hR 298),(hI 539),(hI 114),(hS "/claim/cut.py" 540)]
noncomputable def o179:Obj:=hF "need_rooms" "need_rooms" (top 21) (hS "mustmay.plans" 482) (hR 299)
noncomputable def o180:Obj:=hT [(hS "told" 545),(hS "word" 546)]
noncomputable def o181:Obj:=hC "made_door" "made_door" (top 22)
noncomputable def o182:Obj:=hK [(hS "made_door" 542),(hS "made_door" 543),(hS "/claim/cut.py" 544),(hI 123),(hI 1),(hI 0),(hI 0),(hI 3),(hR 301),(.bool true),(hI 181),(hR 302),.none,(hR 303),(hR 304),(hR 305),(hI 547),(hI 123),(hS "/claim/cut.py" 548)]
noncomputable def o183:Obj:=hF "made_door" "made_door" (top 22) (hS "mustmay.plans" 482) (hR 306)
noncomputable def o184:Obj:=hC "made_room" "made_room" (top 23)
noncomputable def o185:Obj:=hK [(hS "made_room" 550),(hS "made_room" 551),(hS "/claim/cut.py" 552),(hI 126),(hI 1),(hI 0),(hI 0),(hI 3),(hR 308),(.bool true),(hI 181),(hR 309),.none,.none,.none,(hR 310),(hI 553),(hI 126),(hS "/claim/cut.py" 554)]
noncomputable def o186:Obj:=hF "made_room" "made_room" (top 23) (hS "mustmay.plans" 482) (hR 311)
noncomputable def o187:Obj:=hC "told_room" "told_room" (top 24)
noncomputable def o188:Obj:=hK [(hS "told_room" 556),(hS "told_room" 557),(hS "/claim/cut.py" 558),(hI 128),(hI 1),(hI 0),(hI 0),(hI 3),(hR 313),(.bool true),(hI 181),(hR 314),.none,.none,.none,(hR 315),(hI 559),(hI 128),(hS "/claim/cut.py" 560)]
noncomputable def o189:Obj:=hF "told_room" "told_room" (top 24) (hS "mustmay.plans" 482) (hR 316)
noncomputable def o190 (P:Params):Obj:=hDn 12 [hE P "__module__" 569 (hS "mustmay.plans" 482),hE P "__qualname__" 571 (hS "Draft" 570),hE P "__firstlineno__" 573 (.int (130) 572),hE P "__init__" 579 (hR 329),hE P "lets_torn" 586 (hR 336),hE P "action_list" 593 (hR 343),hE P "many" 600 (hR 350),hE P "door" 610 (hR 357),hE P "told" 616 (hR 362),hE P "after" 624 (hR 369),hE P "is_finished" 631 (hR 376),hE P "__static_attributes__" 634 (hR 377)]
noncomputable def o191:Obj:=hN [(hI 132),(hI 4),(hR 328),(hI 138),(hI 4),(hR 335),(hI 141),(hI 4),(hR 342),(hI 144),(hI 4),(hR 349),(hI 147),(hI 4),(hR 356),(hI 151),(hI 4),(hR 361),(hI 154),(hI 4),(hR 368),(hI 157),(hI 4),(hR 375)]
noncomputable def o192:Obj:=hK [(hS "Draft" 564),(hS "Draft" 565),(hS "/claim/cut.py" 566),(hI 130),(hI 0),(hI 0),(hI 0),(hI 0),(hR 321),(.bool false),(hI 181),(hR 322),.none,.none,.none,.none,(hI 567),(hI 130),(hS "/claim/cut.py" 568)]
noncomputable def o193:Obj:=⟨(.type "frame"),none,.plain,Array.mk [(some (hR 323)),(some (hR 3)),(some (hR 320)),none,(some (hS "mustmay.plans" 482)),none,(some (hR 0))]⟩
noncomputable def o194:Obj:=hC "__init__" "Draft.__init__" (inClass (top 25) 0)
noncomputable def o195:Obj:=hK [(hS "__init__" 574),(hS "Draft.__init__" 575),(hS "/claim/cut.py" 576),(hI 132),(hI 3),(hI 0),(hI 0),(hI 3),(hR 325),(.bool true),(hI 181),(hR 326),.none,.none,.none,(hR 327),(hI 577),(hI 132),(hS "/claim/cut.py" 578)]
noncomputable def o196:Obj:=hF "__init__" "Draft.__init__" (inClass (top 25) 0) (hS "mustmay.plans" 482) (hR 328)
noncomputable def o197:Obj:=hT [(hS "self" 583)]
noncomputable def o198:Obj:=hC "lets_torn" "Draft.lets_torn" (inClass (top 25) 1)
noncomputable def o199:Obj:=hK [(hS "lets_torn" 580),(hS "Draft.lets_torn" 581),(hS "/claim/cut.py" 582),(hI 138),(hI 1),(hI 0),(hI 0),(hI 3),(hR 330),(.bool true),(hI 181),(hR 331),.none,(hR 332),(hR 333),(hR 334),(hI 584),(hI 138),(hS "/claim/cut.py" 585)]
noncomputable def o200:Obj:=hF "lets_torn" "Draft.lets_torn" (inClass (top 25) 1) (hS "mustmay.plans" 482) (hR 335)
noncomputable def o201:Obj:=hT [(hS "self" 590)]
noncomputable def o202:Obj:=hC "action_list" "Draft.action_list" (inClass (top 25) 2)
noncomputable def o203:Obj:=hK [(hS "action_list" 587),(hS "Draft.action_list" 588),(hS "/claim/cut.py" 589),(hI 141),(hI 1),(hI 0),(hI 0),(hI 3),(hR 337),(.bool true),(hI 181),(hR 338),.none,(hR 339),(hR 340),(hR 341),(hI 591),(hI 141),(hS "/claim/cut.py" 592)]
noncomputable def o204:Obj:=hF "action_list" "Draft.action_list" (inClass (top 25) 2) (hS "mustmay.plans" 482) (hR 342)
noncomputable def o205:Obj:=hT [(hS "self" 597)]
noncomputable def o206:Obj:=hC "many" "Draft.many" (inClass (top 25) 3)
noncomputable def o207:Obj:=hK [(hS "many" 594),(hS "Draft.many" 595),(hS "/claim/cut.py" 596),(hI 144),(hI 1),(hI 0),(hI 0),(hI 3),(hR 344),(.bool true),(hI 181),(hR 345),.none,(hR 346),(hR 347),(hR 348),(hI 598),(hI 144),(hS "/claim/cut.py" 599)]
noncomputable def o208:Obj:=hF "many" "Draft.many" (inClass (top 25) 3) (hS "mustmay.plans" 482) (hR 349)
noncomputable def o209:Obj:=hT [(hS "self" 604),(hS "room" 605),(hS "action" 606),(hS "kept" 607)]
noncomputable def o210:Obj:=hC "door" "Draft.door" (inClass (top 25) 4)
noncomputable def o211:Obj:=hK [(hS "door" 601),(hS "Draft.door" 602),(hS "/claim/cut.py" 603),(hI 147),(hI 3),(hI 0),(hI 0),(hI 3),(hR 351),(.bool true),(hI 181),(hR 352),.none,(hR 353),(hR 354),(hR 355),(hI 608),(hI 147),(hS "/claim/cut.py" 609)]
noncomputable def o212:Obj:=hF "door" "Draft.door" (inClass (top 25) 4) (hS "mustmay.plans" 482) (hR 356)
noncomputable def o213:Obj:=hC "told" "Draft.told" (inClass (top 25) 5)
noncomputable def o214:Obj:=hK [(hS "told" 611),(hS "Draft.told" 612),(hS "/claim/cut.py" 613),(hI 151),(hI 1),(hI 0),(hI 0),(hI 3),(hR 358),(.bool true),(hI 181),(hR 359),.none,.none,.none,(hR 360),(hI 614),(hI 151),(hS "/claim/cut.py" 615)]
noncomputable def o215:Obj:=hF "told" "Draft.told" (inClass (top 25) 5) (hS "mustmay.plans" 482) (hR 361)
noncomputable def o216:Obj:=hT [(hS "self" 620),(hS "row" 621)]
noncomputable def o217:Obj:=hC "after" "Draft.after" (inClass (top 25) 6)
noncomputable def o218:Obj:=hK [(hS "after" 617),(hS "Draft.after" 618),(hS "/claim/cut.py" 619),(hI 154),(hI 2),(hI 0),(hI 0),(hI 3),(hR 363),(.bool true),(hI 181),(hR 364),.none,(hR 365),(hR 366),(hR 367),(hI 622),(hI 154),(hS "/claim/cut.py" 623)]
noncomputable def o219:Obj:=hF "after" "Draft.after" (inClass (top 25) 6) (hS "mustmay.plans" 482) (hR 368)
noncomputable def o220:Obj:=hT [(hS "self" 628)]
noncomputable def o221:Obj:=hC "is_finished" "Draft.is_finished" (inClass (top 25) 7)
noncomputable def o222:Obj:=hK [(hS "is_finished" 625),(hS "Draft.is_finished" 626),(hS "/claim/cut.py" 627),(hI 157),(hI 1),(hI 0),(hI 0),(hI 3),(hR 370),(.bool true),(hI 181),(hR 371),.none,(hR 372),(hR 373),(hR 374),(hI 629),(hI 157),(hS "/claim/cut.py" 630)]
noncomputable def o223:Obj:=hF "is_finished" "Draft.is_finished" (inClass (top 25) 7) (hS "mustmay.plans" 482) (hR 375)
noncomputable def o224:Obj:=hT [(hS "actions" 632),(hS "rooms" 633)]
noncomputable def o225 (P:Params):Obj:=hDn 4 [hE P "__module__" 569 (hS "mustmay.plans" 482),hE P "__firstlineno__" 573 (.int (130) 572),hE P "__init__" 579 (hR 329),hE P "lets_torn" 586 (hR 336),hE P "action_list" 593 (hR 343),hE P "many" 600 (hR 350),hE P "door" 610 (hR 357),hE P "told" 616 (hR 362),hE P "after" 624 (hR 369),hE P "is_finished" 631 (hR 376),hE P "__static_attributes__" 634 (hR 377),hE P "__dict__" 636 (hR 380),hE P "__weakref__" 638 (hR 381),hE P "__doc__" 639 .none]
noncomputable def o226:Obj:=⟨(.type "type"),none,(.cls ⟨"Draft",[(.type "object")],[(hR 379),(.type "object")],378,"Draft",true,[],[(hR 400)],false,none,false⟩),Array.mk [none,none,(some (hS "Draft" 562)),(some (hS "Draft" 570)),(some (.builtin "object.__new__")),(some (.bool true))]⟩
noncomputable def o227:Obj:=⟨(.type "getset_descriptor"),none,(.fields (Array.mk [(hS "__dict__" 635),(hR 379),(.builtin "function.__dict__"),(.builtin "function.__dict__#set")])),Array.mk []⟩
noncomputable def o228:Obj:=⟨(.type "getset_descriptor"),none,(.fields (Array.mk [(hS "__weakref__" 637),(hR 379),(.builtin "ExceptionGroup.__weakref__"),.none])),Array.mk []⟩
noncomputable def o229:Obj:=⟨(.type "super"),none,(.fields (Array.mk [(hR 379),(hR 379),(hR 379)])),Array.mk []⟩
noncomputable def o230:Obj:=⟨(.type "builtin_function_or_method"),none,(.fields (Array.mk [(.builtin "object.__init_subclass__"),(hR 379)])),Array.mk []⟩
noncomputable def o231 (P:Params):Obj:=hDn 5 [hE P "__module__" 649 (hS "mustmay.plans" 482),hE P "__qualname__" 651 (hS "Plan" 650),hE P "__firstlineno__" 653 (.int (159) 652),hE P "lets_torn" 660 (hR 397),hE P "__static_attributes__" 661 (hR 398)]
noncomputable def o232:Obj:=hN [(hI 161),(hI 4),(hR 396)]
noncomputable def o233:Obj:=hK [(hS "Plan" 644),(hS "Plan" 645),(hS "/claim/cut.py" 646),(hI 159),(hI 0),(hI 0),(hI 0),(hI 0),(hR 387),(.bool false),(hI 181),(hR 388),.none,.none,.none,.none,(hI 647),(hI 159),(hS "/claim/cut.py" 648)]
noncomputable def o234:Obj:=⟨(.type "frame"),none,.plain,Array.mk [(some (hR 389)),(some (hR 3)),(some (hR 386)),none,(some (hS "mustmay.plans" 482)),none,(some (hR 0))]⟩
noncomputable def o235:Obj:=hT [(hS "self" 657)]
noncomputable def o236:Obj:=hC "lets_torn" "Plan.lets_torn" (inClass (top 26) 0)
noncomputable def o237:Obj:=hK [(hS "lets_torn" 654),(hS "Plan.lets_torn" 655),(hS "/claim/cut.py" 656),(hI 161),(hI 1),(hI 0),(hI 0),(hI 3),(hR 391),(.bool true),(hI 181),(hR 392),.none,(hR 393),(hR 394),(hR 395),(hI 658),(hI 161),(hS "/claim/cut.py" 659)]
noncomputable def o238:Obj:=hF "lets_torn" "Plan.lets_torn" (inClass (top 26) 0) (hS "mustmay.plans" 482) (hR 396)
noncomputable def o239 (P:Params):Obj:=hDn 2 [hE P "__module__" 649 (hS "mustmay.plans" 482),hE P "__firstlineno__" 653 (.int (159) 652),hE P "lets_torn" 660 (hR 397),hE P "__static_attributes__" 661 (hR 398),hE P "__doc__" 662 .none]
noncomputable def o240:Obj:=⟨(.type "type"),none,(.cls ⟨"Plan",[(hR 379)],[(hR 400),(hR 379),(.type "object")],399,"Plan",true,[],[],false,none,false⟩),Array.mk [(some (hR 384)),none,(some (hS "Plan" 642)),(some (hS "Plan" 650)),(some (.builtin "object.__new__")),(some (.bool true))]⟩
noncomputable def o241:Obj:=⟨(.type "super"),none,(.fields (Array.mk [(hR 400),(hR 400),(hR 400)])),Array.mk []⟩
noncomputable def o242:Obj:=⟨(.type "builtin_function_or_method"),none,(.fields (Array.mk [(.builtin "object.__init_subclass__"),(hR 400)])),Array.mk []⟩
noncomputable def o243:Obj:=hT [(hS "_law_script" 670),(hS "_law_k" 671)]
noncomputable def o244:Obj:=hC "_law_cell_at" "_law_cell_at" (top 28)
noncomputable def o245:Obj:=hK [(hS "_law_cell_at" 667),(hS "_law_cell_at" 668),(hS "/claim/cut.py" 669),(hI 164),(hI 2),(hI 0),(hI 0),(hI 3),(hR 403),(.bool true),(hI 181),(hR 404),.none,(hR 405),(hR 406),(hR 407),(hI 672),(hI 164),(hS "/claim/cut.py" 673)]
noncomputable def o246:Obj:=hF "_law_cell_at" "_law_cell_at" (top 28) (hS "law_mustmay_k03_bad_plans" 665) (hR 408)
noncomputable def o247:Obj:=hT [(hS "_law_cell" 678),(hS "_law_k" 679),(hS "_law_number" 680)]
noncomputable def o248:Obj:=hC "_law_mixed" "_law_mixed" (top 29)
noncomputable def o249:Obj:=hK [(hS "_law_mixed" 675),(hS "_law_mixed" 676),(hS "/claim/cut.py" 677),(hI 168),(hI 2),(hI 0),(hI 0),(hI 3),(hR 410),(.bool true),(hI 181),(hR 411),.none,(hR 412),(hR 413),(hR 414),(hI 681),(hI 168),(hS "/claim/cut.py" 682)]
noncomputable def o250:Obj:=hF "_law_mixed" "_law_mixed" (top 29) (hS "law_mustmay_k03_bad_plans" 665) (hR 415)
noncomputable def o251:Obj:=hC "_law_names" "_law_names" (top 30)
noncomputable def o252:Obj:=hK [(hS "_law_names" 684),(hS "_law_names" 685),(hS "/claim/cut.py" 686),(hI 172),(hI 2),(hI 0),(hI 0),(hI 3),(hR 417),(.bool true),(hI 181),(hR 418),.none,.none,.none,(hR 419),(hI 687),(hI 172),(hS "/claim/cut.py" 688)]
noncomputable def o253:Obj:=hF "_law_names" "_law_names" (top 30) (hS "law_mustmay_k03_bad_plans" 665) (hR 420)
noncomputable def o254:Obj:=hT [(hS "_law_x" 693),(hS "_law_many" 694)]
noncomputable def o255:Obj:=hC "_law_door" "_law_door" (top 31)
noncomputable def o256:Obj:=hK [(hS "_law_door" 690),(hS "_law_door" 691),(hS "/claim/cut.py" 692),(hI 184),(hI 2),(hI 0),(hI 0),(hI 3),(hR 422),(.bool true),(hI 181),(hR 423),.none,(hR 424),(hR 425),(hR 426),(hI 695),(hI 184),(hS "/claim/cut.py" 696)]
noncomputable def o257:Obj:=hF "_law_door" "_law_door" (top 31) (hS "law_mustmay_k03_bad_plans" 665) (hR 427)
noncomputable def o258:Obj:=hC "_law_rooms" "_law_rooms" (top 32)
noncomputable def o259:Obj:=hK [(hS "_law_rooms" 698),(hS "_law_rooms" 699),(hS "/claim/cut.py" 700),(hI 188),(hI 4),(hI 0),(hI 0),(hI 3),(hR 429),(.bool true),(hI 181),(hR 430),.none,.none,.none,(hR 431),(hI 701),(hI 188),(hS "/claim/cut.py" 702)]
noncomputable def o260:Obj:=hF "_law_rooms" "_law_rooms" (top 32) (hS "law_mustmay_k03_bad_plans" 665) (hR 432)
noncomputable def o261:Obj:=hT [(hS "_law_x" 707),(hS "_law_many" 708),(hS "_law_some" 709)]
noncomputable def o262:Obj:=hC "_law_bad_door" "_law_bad_door" (top 33)
noncomputable def o263:Obj:=hK [(hS "_law_bad_door" 704),(hS "_law_bad_door" 705),(hS "/claim/cut.py" 706),(hI 195),(hI 2),(hI 0),(hI 0),(hI 3),(hR 434),(.bool true),(hI 181),(hR 435),.none,(hR 436),(hR 437),(hR 438),(hI 710),(hI 195),(hS "/claim/cut.py" 711)]
noncomputable def o264:Obj:=hF "_law_bad_door" "_law_bad_door" (top 33) (hS "law_mustmay_k03_bad_plans" 665) (hR 439)
noncomputable def o265:Obj:=hT [(hS "_law_x" 716),(hS "_law_names_here" 717),(hS "_law_some" 718)]
noncomputable def o266:Obj:=hC "_law_bad_actions" "_law_bad_actions" (top 34)
noncomputable def o267:Obj:=hK [(hS "_law_bad_actions" 713),(hS "_law_bad_actions" 714),(hS "/claim/cut.py" 715),(hI 203),(hI 2),(hI 0),(hI 0),(hI 3),(hR 441),(.bool true),(hI 181),(hR 442),.none,(hR 443),(hR 444),(hR 445),(hI 719),(hI 203),(hS "/claim/cut.py" 720)]
noncomputable def o268:Obj:=hF "_law_bad_actions" "_law_bad_actions" (top 34) (hS "law_mustmay_k03_bad_plans" 665) (hR 446)
noncomputable def o269:Obj:=hT [(hS "_law_x" 725),(hS "_law_rows" 726),(hS "_law_some" 727)]
noncomputable def o270:Obj:=hC "_law_bad_rooms" "_law_bad_rooms" (top 35)
noncomputable def o271:Obj:=hK [(hS "_law_bad_rooms" 722),(hS "_law_bad_rooms" 723),(hS "/claim/cut.py" 724),(hI 209),(hI 2),(hI 0),(hI 0),(hI 3),(hR 448),(.bool true),(hI 181),(hR 449),.none,(hR 450),(hR 451),(hR 452),(hI 728),(hI 209),(hS "/claim/cut.py" 729)]
noncomputable def o272:Obj:=hF "_law_bad_rooms" "_law_bad_rooms" (top 35) (hS "law_mustmay_k03_bad_plans" 665) (hR 453)
noncomputable def o273:Obj:=hT [(hS "_law_x" 734),(hS "_law_doors" 735),(hS "_law_some" 736)]
noncomputable def o274:Obj:=hC "_law_bad_room" "_law_bad_room" (top 36)
noncomputable def o275:Obj:=hK [(hS "_law_bad_room" 731),(hS "_law_bad_room" 732),(hS "/claim/cut.py" 733),(hI 212),(hI 2),(hI 0),(hI 0),(hI 3),(hR 455),(.bool true),(hI 181),(hR 456),.none,(hR 457),(hR 458),(hR 459),(hI 737),(hI 212),(hS "/claim/cut.py" 738)]
noncomputable def o276:Obj:=hF "_law_bad_room" "_law_bad_room" (top 36) (hS "law_mustmay_k03_bad_plans" 665) (hR 460)
noncomputable def o277:Obj:=hT [(hS "_law_names_here" 743),(hS "_law_rows" 744),(hS "_law_plain" 745),(hS "_law_found" 746),(hS "e" 747)]
noncomputable def o278:Obj:=hC "_law_refused" "_law_refused" (top 37)
noncomputable def o279:Obj:=hK [(hS "_law_refused" 740),(hS "_law_refused" 741),(hS "/claim/cut.py" 742),(hI 215),(hI 3),(hI 0),(hI 0),(hI 3),(hR 462),(.bool true),(hI 181),(hR 463),.none,(hR 464),(hR 465),(hR 466),(hI 748),(hI 215),(hS "/claim/cut.py" 749)]
noncomputable def o280:Obj:=hF "_law_refused" "_law_refused" (top 37) (hS "law_mustmay_k03_bad_plans" 665) (hR 467)
noncomputable def o281:Obj:=hC "_law_spoiled" "_law_spoiled" (top 38)
noncomputable def o282:Obj:=hK [(hS "_law_spoiled" 751),(hS "_law_spoiled" 752),(hS "/claim/cut.py" 753),(hI 227),(hI 4),(hI 0),(hI 0),(hI 3),(hR 469),(.bool true),(hI 181),(hR 470),.none,.none,.none,(hR 471),(hI 754),(hI 227),(hS "/claim/cut.py" 755)]
noncomputable def o283:Obj:=hF "_law_spoiled" "_law_spoiled" (top 38) (hS "law_mustmay_k03_bad_plans" 665) (hR 472)
noncomputable def o284:Obj:=hC "_law_torn_right" "_law_torn_right" (top 39)
noncomputable def o285:Obj:=hK [(hS "_law_torn_right" 757),(hS "_law_torn_right" 758),(hS "/claim/cut.py" 759),(hI 247),(hI 3),(hI 0),(hI 0),(hI 3),(hR 474),(.bool true),(hI 181),(hR 475),.none,.none,.none,(hR 476),(hI 760),(hI 247),(hS "/claim/cut.py" 761)]
noncomputable def o286:Obj:=hF "_law_torn_right" "_law_torn_right" (top 39) (hS "law_mustmay_k03_bad_plans" 665) (hR 477)
noncomputable def o287:Obj:=hT [(hS "_law_script" 766),(hS "_law_cell" 767),(hS "_law_names_here" 768),(hS "_law_rows" 769),(hS "_law_k" 770),(hS "_law_one" 771),(hS "_law_acts" 772),(hS "_law_handed" 773),(hS "_law_due" 774)]
noncomputable def o288:Obj:=hC "law" "law" (top 40)
noncomputable def o289:Obj:=hK [(hS "law" 763),(hS "law" 764),(hS "/claim/cut.py" 765),(hI 259),(hI 1),(hI 0),(hI 0),(hI 3),(hR 479),(.bool true),(hI 181),(hR 480),.none,(hR 481),(hR 482),(hR 483),(hI 775),(hI 259),(hS "/claim/cut.py" 776)]
noncomputable def o290:Obj:=hF "law" "law" (top 40) (hS "law_mustmay_k03_bad_plans" 665) (hR 484)
noncomputable def HA (P:Params):Heap:=⟨Array.mk [boot_o_0 P,boot_o_1 P,boot_o_2 P,boot_o_3 P,boot_o_4 P,boot_o_5 P,boot_o_6 P,boot_o_7 P,boot_o_8 P,boot_o_9 P,boot_o_10 P,hT [],hN [],o0,o1],{}⟩
noncomputable def TB (P:Params):BT:=(.node (boot_o_0 P) (.node (boot_o_1 P) (.node (boot_o_3 P) (.node (boot_o_7 P) .nil .nil) (.node (hT []) .nil .nil)) (.node (boot_o_5 P) (.node (boot_o_9 P) .nil .nil) (.node (o0) .nil .nil))) (.node (boot_o_2 P) (.node (boot_o_4 P) (.node (boot_o_8 P) .nil .nil) (.node (hN []) .nil .nil)) (.node (boot_o_6 P) (.node (boot_o_10 P) .nil .nil) (.node (o1) .nil .nil))))
noncomputable def TF (P:Params):BT:=(.node (boot_o_0 P) (.node (boot_o_1 P) (.node (o2 P) (.node (boot_o_7 P) (.node (hT []) (.node (o13) (.node (o35) (.node (o73) (.node (o150) .nil .nil) (.node (o230) .nil .nil)) (.node (hT []) (.node (o8) .nil .nil) (.node (o268) .nil .nil))) (.node (o54) (.node (hN []) (.node (hT []) .nil .nil) (.node (o249) .nil .nil)) (.node (o131) (.node (hT []) .nil .nil) (.node (hT []) .nil .nil)))) (.node (o25) (.node (hN []) (.node (o83) (.node (o162) .nil .nil) (.node (o239 P) .nil .nil)) (.node (o120) (.node (o199) .nil .nil) (.node (hN []) .nil .nil))) (.node (hT []) (.node (o102) (.node (o180) .nil .nil) (.node (o258) .nil .nil)) (.node (o140 P) (.node (o217) .nil .nil) .nil)))) (.node (o8) (.node (hT []) (.node (hT []) (.node (o78) (.node (hT []) .nil .nil) (.node (hT []) .nil .nil)) (.node (hN []) (.node (o194) .nil .nil) (.node (hT []) .nil .nil))) (.node (o59) (.node (o96) (.node (hN []) .nil .nil) (.node (hN []) .nil .nil)) (.node (o136) (.node (hN []) .nil .nil) .nil))) (.node (o30) (.node (o49) (.node (hT []) (.node (o167) .nil .nil) (.node (o244) .nil .nil)) (.node (hT []) (.node (o204) .nil .nil) (.node (o281) .nil .nil))) (.node (hN []) (.node (o107) (.node (o185) .nil .nil) (.node (o263) .nil .nil)) (.node (hT []) (.node (o222) .nil .nil) .nil))))) (.node (hT []) (.node (o5) (.node (o16) (.node (hT []) (.node (o8) (.node (o154 P) .nil .nil) (.node (hT []) .nil .nil)) (.node (o113) (.node (o192) .nil .nil) (.node (hT []) .nil .nil))) (.node (o56) (.node (o94) (.node (o173) .nil .nil) (.node (o251) .nil .nil)) (.node (hT []) (.node (o210) .nil .nil) (.node (o288) .nil .nil)))) (.node (o8) (.node (o46) (.node (hT []) (.node (o164) .nil .nil) (.node (hT []) .nil .nil)) (.node (o123) (.node (o201) .nil .nil) (.node (o279) .nil .nil))) (.node (o65) (.node (o104 P) (.node (o183) .nil .nil) (.node (hN []) .nil .nil)) (.node (o144) (.node (hN []) .nil .nil) .nil)))) (.node (o11) (.node (o21) (.node (o41) (.node (o80) (.node (o160) .nil .nil) (.node (o236) .nil .nil)) (.node (o118) (.node (hN []) .nil .nil) (.node (o274) .nil .nil))) (.node (hT []) (.node (o99) (.node (o178) .nil .nil) (.node (o256) .nil .nil)) (.node (hN []) (.node (hT []) .nil .nil) .nil))) (.node (o32) (.node (o8) (.node (o89) (.node (hT []) .nil .nil) (.node (hN []) .nil .nil)) (.node (hT []) (.node (hT []) .nil .nil) (.node (hN []) .nil .nil))) (.node (o70) (.node (hT []) (.node (o187) .nil .nil) (.node (o265) .nil .nil)) (.node (hT []) (.node (o226) .nil .nil) .nil)))))) (.node (boot_o_5 P) (.node (boot_o_9 P) (.node (o4) (.node (o14) (.node (hN []) (.node (o75) (.node (o152) .nil .nil) (.node (o8) .nil .nil)) (.node (o112) (.node (hT []) .nil .nil) (.node (hN []) .nil .nil))) (.node (hT []) (.node (hT []) (.node (o172) .nil .nil) (.node (hT []) .nil .nil)) (.node (hN []) (.node (o209) .nil .nil) (.node (o287) .nil .nil)))) (.node (o27) (.node (hT []) (.node (hN []) (.node (hT []) .nil .nil) (.node (o241) .nil .nil)) (.node (o121) (.node (hT []) .nil .nil) (.node (hT []) .nil .nil))) (.node (o64) (.node (hT [(hR 45)]) (.node (o181) .nil .nil) (.node (o260) .nil .nil)) (.node (o142) (.node (o219) .nil .nil) .nil)))) (.node (hT []) (.node (o19) (.node (o40) (.node (hT []) (.node (o158) .nil .nil) (.node (o235) .nil .nil)) (.node (hT []) (.node (o196) .nil .nil) (.node (o273) .nil .nil))) (.node (hN []) (.node (o97) (.node (hT []) .nil .nil) (.node (hT []) .nil .nil)) (.node (o137 P) (.node (o214) .nil .nil) .nil))) (.node (hT []) (.node (o51) (.node (o88) (.node (hN []) .nil .nil) (.node (o246) .nil .nil)) (.node (o126) (.node (hN []) .nil .nil) (.node (o283) .nil .nil))) (.node (hT []) (.node (hN []) (.node (hT []) .nil .nil) (.node (hT []) .nil .nil)) (.node (o147) (.node (o224) .nil .nil) .nil))))) (.node (o0) (.node (o7) (.node (hN []) (.node (o38) (.node (hT []) (.node (o156) .nil .nil) (.node (o233) .nil .nil)) (.node (o115) (.node (hT []) .nil .nil) (.node (o271) .nil .nil))) (.node (o57) (.node (hT []) (.node (o175) .nil .nil) (.node (o253) .nil .nil)) (.node (o134) (.node (o212) .nil .nil) (.node (o290) .nil .nil)))) (.node (hT []) (.node (hT []) (.node (o86) (.node (o165) .nil .nil) (.node (o243) .nil .nil)) (.node (hN []) (.node (o202) .nil .nil) (.node (hT []) .nil .nil))) (.node (o67) (.node (o105) (.node (hN []) .nil .nil) (.node (hT []) .nil .nil)) (.node (o8) (.node (hT []) .nil .nil) .nil)))) (.node (hT []) (.node (o23) (.node (o43) (.node (o81) (.node (hN []) .nil .nil) (.node (o238) .nil .nil)) (.node (hT []) (.node (hT []) .nil .nil) (.node (o276) .nil .nil))) (.node (o62) (.node (o100 P) (.node (hT []) .nil .nil) (.node (hT []) .nil .nil)) (.node (o139) (.node (o216) .nil .nil) .nil))) (.node (o33) (.node (hT []) (.node (o91) (.node (o170) .nil .nil) (.node (hT []) .nil .nil)) (.node (o129) (.node (o207) .nil .nil) (.node (o285) .nil .nil))) (.node (hT []) (.node (o110) (.node (o189) .nil .nil) (.node (o266) .nil .nil)) (.node (o149) (.node (o228) .nil .nil) .nil))))))) (.node (boot_o_2 P) (.node (boot_o_4 P) (.node (boot_o_8 P) (.node (hN []) (.node (hT []) (.node (hT []) (.node (o74) (.node (o151) .nil .nil) (.node (hT [(hR 379)]) .nil .nil)) (.node (hN []) (.node (o190 P) .nil .nil) (.node (hT []) .nil .nil))) (.node (o55) (.node (o92) (.node (hN []) .nil .nil) (.node (o250) .nil .nil)) (.node (hT []) (.node (hN []) .nil .nil) (.node (hN []) .nil .nil)))) (.node (o26) (.node (o44) (.node (hT []) (.node (o163) .nil .nil) (.node (o240) .nil .nil)) (.node (hT []) (.node (o200) .nil .nil) (.node (o277) .nil .nil))) (.node (hN []) (.node (o103) (.node (hT []) .nil .nil) (.node (o259) .nil .nil)) (.node (o141) (.node (o218) .nil .nil) .nil)))) (.node (o9 P) (.node (o18) (.node (hN []) (.node (o79) (.node (hN []) .nil .nil) (.node (hN []) .nil .nil)) (.node (o116) (.node (o195) .nil .nil) (.node (hN []) .nil .nil))) (.node (hT []) (.node (hT []) (.node (o176) .nil .nil) (.node (o254) .nil .nil)) (.node (o8) (.node (o213) .nil .nil) .nil))) (.node (o31) (.node (o50) (.node (hN []) (.node (hT []) .nil .nil) (.node (o245) .nil .nil)) (.node (o125) (.node (hT []) .nil .nil) (.node (o282) .nil .nil))) (.node (o68) (.node (hT []) (.node (o186) .nil .nil) (.node (o264) .nil .nil)) (.node (o146) (.node (o223) .nil .nil) .nil))))) (.node (o3) (.node (o6) (.node (hT []) (.node (o37) (.node (o76 P) (.node (o155) .nil .nil) (.node (o232) .nil .nil)) (.node (o114) (.node (o193) .nil .nil) (.node (o270) .nil .nil))) (.node (hT []) (.node (o95) (.node (o174) .nil .nil) (.node (o252) .nil .nil)) (.node (o133) (.node (o211) .nil .nil) (.node (o289) .nil .nil)))) (.node (o28 P) (.node (o47) (.node (o85) (.node (hT []) .nil .nil) (.node (hN []) .nil .nil)) (.node (hT []) (.node (hT []) .nil .nil) (.node (o280) .nil .nil))) (.node (o66) (.node (hT []) (.node (hT []) .nil .nil) (.node (o261) .nil .nil)) (.node (hT [(hR 240)]) (.node (o220) .nil .nil) .nil)))) (.node (o12) (.node (o22 P) (.node (o42) (.node (hT []) (.node (hT []) .nil .nil) (.node (o237) .nil .nil)) (.node (o119) (.node (o197) .nil .nil) (.node (o275) .nil .nil))) (.node (o61) (.node (hT []) (.node (o179) .nil .nil) (.node (o257) .nil .nil)) (.node (o138) (.node (hN []) .nil .nil) .nil))) (.node (hT []) (.node (o52 P) (.node (o90) (.node (o169) .nil .nil) (.node (o247) .nil .nil)) (.node (o128 P) (.node (o206) .nil .nil) (.node (o284) .nil .nil))) (.node (o71) (.node (o109) (.node (o188) .nil .nil) (.node (hT []) .nil .nil)) (.node (hN []) (.node (o227) .nil .nil) .nil)))))) (.node (boot_o_6 P) (.node (boot_o_10 P) (.node (hT []) (.node (o15) (.node (o36) (.node (hT [(hR 45)]) (.node (o153) .nil .nil) (.node (o231 P) .nil .nil)) (.node (hT []) (.node (o191) .nil .nil) (.node (o269) .nil .nil))) (.node (hN []) (.node (o93) (.node (hT []) .nil .nil) (.node (hN []) .nil .nil)) (.node (o132) (.node (hT []) .nil .nil) (.node (hT []) .nil .nil)))) (.node (hT [(hR 45)]) (.node (o45) (.node (o84) (.node (hN []) .nil .nil) (.node (o242) .nil .nil)) (.node (o122) (.node (hN []) .nil .nil) (.node (o278) .nil .nil))) (.node (hT []) (.node (o8) (.node (o182) .nil .nil) (.node (hT []) .nil .nil)) (.node (o143) (.node (hT []) .nil .nil) .nil)))) (.node (o10) (.node (o20) (.node (hT []) (.node (hN []) (.node (o159) .nil .nil) (.node (hT []) .nil .nil)) (.node (o117) (.node (hT []) .nil .nil) (.node (hT []) .nil .nil))) (.node (o60) (.node (o98) (.node (o177) .nil .nil) (.node (o255) .nil .nil)) (.node (hT []) (.node (o215) .nil .nil) .nil))) (.node (hN []) (.node (hT [(hR 45)]) (.node (hT []) (.node (o168) .nil .nil) (.node (hT []) .nil .nil)) (.node (o127) (.node (o205) .nil .nil) (.node (hT []) .nil .nil))) (.node (o69) (.node (o108) (.node (hN []) .nil .nil) (.node (hN []) .nil .nil)) (.node (o148) (.node (o225 P) .nil .nil) .nil))))) (.node (o1) (.node (hT []) (.node (o17) (.node (o39) (.node (o77) (.node (o157) .nil .nil) (.node (o234) .nil .nil)) (.node (hT []) (.node (hN []) .nil .nil) (.node (o272) .nil .nil))) (.node (o58) (.node (hN []) (.node (hT []) .nil .nil) (.node (hT []) .nil .nil)) (.node (o135) (.node (hT []) .nil .nil) .nil))) (.node (o29) (.node (o48 P) (.node (o87) (.node (o166) .nil .nil) (.node (hT []) .nil .nil)) (.node (o124) (.node (o203) .nil .nil) (.node (hN []) .nil .nil))) (.node (hT []) (.node (o106) (.node (o184) .nil .nil) (.node (o262) .nil .nil)) (.node (o145 P) (.node (o221) .nil .nil) .nil)))) (.node (hN []) (.node (o24) (.node (hT []) (.node (o82) (.node (o161) .nil .nil) (.node (hT []) .nil .nil)) (.node (hN []) (.node (o198) .nil .nil) (.node (hT []) .nil .nil))) (.node (o63) (.node (o101) (.node (hN []) .nil .nil) (.node (hN []) .nil .nil)) (.node (hT []) (.node (hT []) .nil .nil) .nil))) (.node (o34) (.node (o53) (.node (hT []) (.node (o171) .nil .nil) (.node (o248) .nil .nil)) (.node (o130) (.node (o208) .nil .nil) (.node (o286) .nil .nil))) (.node (o72 P) (.node (o111) (.node (hT []) .nil .nil) (.node (o267) .nil .nil)) (.node (hT []) (.node (o229) .nil .nil) .nil))))))))
noncomputable def HF (P:Params):Heap:=⟨Array.mk [boot_o_0 P,boot_o_1 P,boot_o_2 P,o2 P,boot_o_4 P,boot_o_5 P,boot_o_6 P,boot_o_7 P,boot_o_8 P,boot_o_9 P,boot_o_10 P,hT [],o3,o0,o1,hT [],hN [],o4,hT [],o5,o6,o7,hT [],o8,o9 P,hT [],o10,o11,o12,hT [],hN [],o13,hT [],o14,o15,o16,hT [],hN [],o17,hT [],o18,o19,o20,o21,o22 P,o23,o24,o25,o26,o27,hT [(hR 45)],o8,o28 P,hT [],o29,o30,o31,hT [],hN [],o32,hT [],o33,o34,o35,hT [],hN [],o36,hT [],o37,o38,o39,hT [],hN [],o40,hT [],o41,o42,o43,hT [],hN [],o44,hT [],o45,o46,o47,hT [],o48 P,o49,o50,o51,hT [(hR 45)],o8,o52 P,hT [],o53,o54,o55,hT [],hN [],o56,hT [],o57,o58,o59,hT [],hN [],o60,hT [],o61,o62,o63,hT [],hN [],o64,hT [],o65,o66,o67,hT [],hN [],o68,hT [],o69,o70,o71,hT [],o72 P,o73,o74,o75,hT [(hR 45)],o8,o76 P,hT [],o77,o78,o79,hT [],hN [],o80,hT [],o81,o82,o83,hT [],hN [],o84,hT [],o85,o86,o87,hT [],hN [],o88,hT [],o89,o90,o91,hT [],hN [],o92,hT [],o93,o94,o95,hT [],hN [],o96,hT [],o97,o98,o99,hT [],o100 P,o101,o102,o103,hT [(hR 45)],o8,o104 P,hT [],o105,o106,o107,hT [],hN [],o108,hT [],o109,o110,o111,hT [],hN [],o112,hT [],o113,o114,o115,hT [],hN [],o116,hT [],o117,o118,o119,hT [],hN [],o120,hT [],o121,o122,o123,hT [],hN [],o124,hT [],o125,o126,o127,hT [],o128 P,o129,o130,o131,hT [],hN [],o132,hT [],o133,o134,o135,o136,o8,o137 P,hT [],hN [],o138,o139,hT [],o140 P,o141,o142,o143,o144,hT [(hR 240)],o8,o145 P,hT [],o146,o147,o148,hT [],hN [],o149,hT [],o150,o151,o152,o153,o154 P,o155,o156,o157,hT [],hN [],o158,o159,o160,hT [],hN [],o161,o162,o163,hT [],hN [],o164,hT [],o165,o166,o167,hT [],hN [],o168,hT [],o169,o170,o171,hT [],hN [],o172,hT [],o173,o174,o175,hT [],hN [],o176,hT [],o177,o178,o179,hT [],hN [],o180,hT [],o181,o182,o183,hT [],hN [],o184,o185,o186,hT [],hN [],o187,o188,o189,hT [],o8,o190 P,hT [],o191,o192,o193,hT [],hN [],o194,o195,o196,hT [],hN [],o197,hT [],o198,o199,o200,hT [],hN [],o201,hT [],o202,o203,o204,hT [],hN [],o205,hT [],o206,o207,o208,hT [],hN [],o209,hT [],o210,o211,o212,hT [],hN [],o213,o214,o215,hT [],hN [],o216,hT [],o217,o218,o219,hT [],hN [],o220,hT [],o221,o222,o223,o224,o225 P,o226,o227,o228,o229,o230,hT [(hR 379)],o8,o231 P,hT [],o232,o233,o234,hT [],hN [],o235,hT [],o236,o237,o238,hT [],o239 P,o240,o241,o242,hT [],hN [],o243,hT [],o244,o245,o246,hT [],hN [],o247,hT [],o248,o249,o250,hT [],hN [],o251,o252,o253,hT [],hN [],o254,hT [],o255,o256,o257,hT [],hN [],o258,o259,o260,hT [],hN [],o261,hT [],o262,o263,o264,hT [],hN [],o265,hT [],o266,o267,o268,hT [],hN [],o269,hT [],o270,o271,o272,hT [],hN [],o273,hT [],o274,o275,o276,hT [],hN [],o277,hT [],o278,o279,o280,hT [],hN [],o281,o282,o283,hT [],hN [],o284,o285,o286,hT [],hN [],o287,hT [],o288,o289,o290],{}⟩
noncomputable def KK:Params→Frag:=fun P=>(nat_lit 2,boot_o_2 P) :: (nat_lit 3,o2 P) :: (nat_lit 15,hT []) :: (nat_lit 17,o4) :: (nat_lit 18,hT []) :: (nat_lit 20,o6) :: (nat_lit 21,o7) :: (nat_lit 29,hT []) :: (nat_lit 31,o13) :: (nat_lit 32,hT []) :: (nat_lit 34,o15) :: (nat_lit 35,o16) :: (nat_lit 36,hT []) :: (nat_lit 38,o17) :: (nat_lit 39,hT []) :: (nat_lit 41,o19) :: (nat_lit 42,o20) :: (nat_lit 43,o21) :: (nat_lit 44,o22 P) :: (nat_lit 45,o23) :: (nat_lit 46,o24) :: (nat_lit 47,o25) :: (nat_lit 50,hT [(hR 45)]) :: (nat_lit 57,hT []) :: (nat_lit 59,o32) :: (nat_lit 60,hT []) :: (nat_lit 62,o34) :: (nat_lit 63,o35) :: (nat_lit 64,hT []) :: (nat_lit 66,o36) :: (nat_lit 67,hT []) :: (nat_lit 69,o38) :: (nat_lit 70,o39) :: (nat_lit 71,hT []) :: (nat_lit 73,o40) :: (nat_lit 74,hT []) :: (nat_lit 76,o42) :: (nat_lit 77,o43) :: (nat_lit 78,hT []) :: (nat_lit 80,o44) :: (nat_lit 81,hT []) :: (nat_lit 83,o46) :: (nat_lit 84,o47) :: (nat_lit 85,hT []) :: (nat_lit 86,o48 P) :: (nat_lit 87,o49) :: (nat_lit 90,hT [(hR 45)]) :: (nat_lit 97,hT []) :: (nat_lit 99,o56) :: (nat_lit 100,hT []) :: (nat_lit 102,o58) :: (nat_lit 103,o59) :: (nat_lit 104,hT []) :: (nat_lit 106,o60) :: (nat_lit 107,hT []) :: (nat_lit 109,o62) :: (nat_lit 110,o63) :: (nat_lit 111,hT []) :: (nat_lit 113,o64) :: (nat_lit 114,hT []) :: (nat_lit 116,o66) :: (nat_lit 117,o67) :: (nat_lit 118,hT []) :: (nat_lit 120,o68) :: (nat_lit 121,hT []) :: (nat_lit 123,o70) :: (nat_lit 124,o71) :: (nat_lit 125,hT []) :: (nat_lit 126,o72 P) :: (nat_lit 127,o73) :: (nat_lit 130,hT [(hR 45)]) :: (nat_lit 137,hT []) :: (nat_lit 139,o80) :: (nat_lit 140,hT []) :: (nat_lit 142,o82) :: (nat_lit 143,o83) :: (nat_lit 144,hT []) :: (nat_lit 146,o84) :: (nat_lit 147,hT []) :: (nat_lit 149,o86) :: (nat_lit 150,o87) :: (nat_lit 151,hT []) :: (nat_lit 153,o88) :: (nat_lit 154,hT []) :: (nat_lit 156,o90) :: (nat_lit 157,o91) :: (nat_lit 158,hT []) :: (nat_lit 160,o92) :: (nat_lit 161,hT []) :: (nat_lit 163,o94) :: (nat_lit 164,o95) :: (nat_lit 165,hT []) :: (nat_lit 167,o96) :: (nat_lit 168,hT []) :: (nat_lit 170,o98) :: (nat_lit 171,o99) :: (nat_lit 172,hT []) :: (nat_lit 173,o100 P) :: (nat_lit 174,o101) :: (nat_lit 177,hT [(hR 45)]) :: (nat_lit 184,hT []) :: (nat_lit 186,o108) :: (nat_lit 187,hT []) :: (nat_lit 189,o110) :: (nat_lit 190,o111) :: (nat_lit 191,hT []) :: (nat_lit 193,o112) :: (nat_lit 194,hT []) :: (nat_lit 196,o114) :: (nat_lit 197,o115) :: (nat_lit 198,hT []) :: (nat_lit 200,o116) :: (nat_lit 201,hT []) :: (nat_lit 203,o118) :: (nat_lit 204,o119) :: (nat_lit 205,hT []) :: (nat_lit 207,o120) :: (nat_lit 208,hT []) :: (nat_lit 210,o122) :: (nat_lit 211,o123) :: (nat_lit 212,hT []) :: (nat_lit 214,o124) :: (nat_lit 215,hT []) :: (nat_lit 217,o126) :: (nat_lit 218,o127) :: (nat_lit 219,hT []) :: (nat_lit 220,o128 P) :: (nat_lit 221,o129) :: (nat_lit 224,hT []) :: (nat_lit 226,o132) :: (nat_lit 227,hT []) :: (nat_lit 229,o134) :: (nat_lit 230,o135) :: (nat_lit 231,o136) :: (nat_lit 238,hT []) :: (nat_lit 239,o140 P) :: (nat_lit 240,o141) :: (nat_lit 241,o142) :: (nat_lit 244,hT [(hR 240)]) :: (nat_lit 251,hT []) :: (nat_lit 253,o149) :: (nat_lit 254,hT []) :: (nat_lit 256,o151) :: (nat_lit 257,o152) :: (nat_lit 258,o153) :: (nat_lit 259,o154 P) :: (nat_lit 260,o155) :: (nat_lit 263,hT []) :: (nat_lit 266,o159) :: (nat_lit 267,o160) :: (nat_lit 268,hT []) :: (nat_lit 271,o162) :: (nat_lit 272,o163) :: (nat_lit 273,hT []) :: (nat_lit 275,o164) :: (nat_lit 276,hT []) :: (nat_lit 278,o166) :: (nat_lit 279,o167) :: (nat_lit 280,hT []) :: (nat_lit 282,o168) :: (nat_lit 283,hT []) :: (nat_lit 285,o170) :: (nat_lit 286,o171) :: (nat_lit 287,hT []) :: (nat_lit 289,o172) :: (nat_lit 290,hT []) :: (nat_lit 292,o174) :: (nat_lit 293,o175) :: (nat_lit 294,hT []) :: (nat_lit 296,o176) :: (nat_lit 297,hT []) :: (nat_lit 299,o178) :: (nat_lit 300,o179) :: (nat_lit 301,hT []) :: (nat_lit 303,o180) :: (nat_lit 304,hT []) :: (nat_lit 306,o182) :: (nat_lit 307,o183) :: (nat_lit 308,hT []) :: (nat_lit 311,o185) :: (nat_lit 312,o186) :: (nat_lit 313,hT []) :: (nat_lit 316,o188) :: (nat_lit 317,o189) :: (nat_lit 325,hT []) :: (nat_lit 328,o195) :: (nat_lit 329,o196) :: (nat_lit 330,hT []) :: (nat_lit 332,o197) :: (nat_lit 333,hT []) :: (nat_lit 335,o199) :: (nat_lit 336,o200) :: (nat_lit 337,hT []) :: (nat_lit 339,o201) :: (nat_lit 340,hT []) :: (nat_lit 342,o203) :: (nat_lit 343,o204) :: (nat_lit 344,hT []) :: (nat_lit 346,o205) :: (nat_lit 347,hT []) :: (nat_lit 349,o207) :: (nat_lit 350,o208) :: (nat_lit 351,hT []) :: (nat_lit 353,o209) :: (nat_lit 354,hT []) :: (nat_lit 356,o211) :: (nat_lit 357,o212) :: (nat_lit 358,hT []) :: (nat_lit 361,o214) :: (nat_lit 362,o215) :: (nat_lit 363,hT []) :: (nat_lit 365,o216) :: (nat_lit 366,hT []) :: (nat_lit 368,o218) :: (nat_lit 369,o219) :: (nat_lit 370,hT []) :: (nat_lit 372,o220) :: (nat_lit 373,hT []) :: (nat_lit 375,o222) :: (nat_lit 376,o223) :: (nat_lit 377,o224) :: (nat_lit 378,o225 P) :: (nat_lit 379,o226) :: (nat_lit 380,o227) :: (nat_lit 381,o228) :: (nat_lit 384,hT [(hR 379)]) :: (nat_lit 391,hT []) :: (nat_lit 393,o235) :: (nat_lit 394,hT []) :: (nat_lit 396,o237) :: (nat_lit 397,o238) :: (nat_lit 398,hT []) :: (nat_lit 399,o239 P) :: (nat_lit 400,o240) :: (nat_lit 403,hT []) :: (nat_lit 405,o243) :: (nat_lit 406,hT []) :: (nat_lit 408,o245) :: (nat_lit 409,o246) :: (nat_lit 410,hT []) :: (nat_lit 412,o247) :: (nat_lit 413,hT []) :: (nat_lit 415,o249) :: (nat_lit 416,o250) :: (nat_lit 417,hT []) :: (nat_lit 420,o252) :: (nat_lit 421,o253) :: (nat_lit 422,hT []) :: (nat_lit 424,o254) :: (nat_lit 425,hT []) :: (nat_lit 427,o256) :: (nat_lit 428,o257) :: (nat_lit 429,hT []) :: (nat_lit 432,o259) :: (nat_lit 433,o260) :: (nat_lit 434,hT []) :: (nat_lit 436,o261) :: (nat_lit 437,hT []) :: (nat_lit 439,o263) :: (nat_lit 440,o264) :: (nat_lit 441,hT []) :: (nat_lit 443,o265) :: (nat_lit 444,hT []) :: (nat_lit 446,o267) :: (nat_lit 447,o268) :: (nat_lit 448,hT []) :: (nat_lit 450,o269) :: (nat_lit 451,hT []) :: (nat_lit 453,o271) :: (nat_lit 454,o272) :: (nat_lit 455,hT []) :: (nat_lit 457,o273) :: (nat_lit 458,hT []) :: (nat_lit 460,o275) :: (nat_lit 461,o276) :: (nat_lit 462,hT []) :: (nat_lit 464,o277) :: (nat_lit 465,hT []) :: (nat_lit 467,o279) :: (nat_lit 468,o280) :: (nat_lit 469,hT []) :: (nat_lit 472,o282) :: (nat_lit 473,o283) :: (nat_lit 474,hT []) :: (nat_lit 477,o285) :: (nat_lit 478,o286) :: (nat_lit 479,hT []) :: (nat_lit 481,o287) :: (nat_lit 482,hT []) :: (nat_lit 484,o289) :: (nat_lit 485,o290) :: []
noncomputable def as:List Addr:=[2,3,15,17,18,20,21,29,31,32,34,35,36,38,39,41,42,43,44,45,46,47,50,57,59,60,62,63,64,66,67,69,70,71,73,74,76,77,78,80,81,83,84,85,86,87,90,97,99,100,102,103,104,106,107,109,110,111,113,114,116,117,118,120,121,123,124,125,126,127,130,137,139,140,142,143,144,146,147,149,150,151,153,154,156,157,158,160,161,163,164,165,167,168,170,171,172,173,174,177,184,186,187,189,190,191,193,194,196,197,198,200,201,203,204,205,207,208,210,211,212,214,215,217,218,219,220,221,224,226,227,229,230,231,238,239,240,241,244,251,253,254,256,257,258,259,260,263,266,267,268,271,272,273,275,276,278,279,280,282,283,285,286,287,289,290,292,293,294,296,297,299,300,301,303,304,306,307,308,311,312,313,316,317,325,328,329,330,332,333,335,336,337,339,340,342,343,344,346,347,349,350,351,353,354,356,357,358,361,362,363,365,366,368,369,370,372,373,375,376,377,378,379,380,381,384,391,393,394,396,397,398,399,400,403,405,406,408,409,410,412,413,415,416,417,420,421,422,424,425,427,428,429,432,433,434,436,437,439,440,441,443,444,446,447,448,450,451,453,454,455,457,458,460,461,462,464,465,467,468,469,472,473,474,477,478,479,481,482,484,485]
noncomputable def vw:Program:=PySem.W.view pw [0,2,3,4,5,6,7,9,10,12,13,14,15,16,17,18,19,20,21,22,23,24,25,26,28,29,30,31,32,33,34,35,36,37,38,39,40]
noncomputable def en:Env:={ scope:=pw.main.scope,locals:=mainNs,globals:=mainNs,cells:=[],code:=(hR 13),frame:=some 14 }
theorem hk:∀ P,as = (KK P).map (·.1):=fun _=>by kernel_rfl
noncomputable abbrev cE:Code:=.body (behindTheImports pw) en
noncomputable abbrev fB:List Frame:=[topFrame ⟨0,0,0,0⟩]
theorem t_pre (w:World) (os:OsState):topGo treeTable pw w 11 (some (.ref 6)) 12 ⟨boot_heap w.params,Array.mk [],boot_drawn,boot_toks,os⟩ (topStub pw) = some (⟨HA w.params,Array.mk [],{},187,os⟩,⟨denote treeTable cE,cE,⟨0,0,0,0⟩,fB⟩):=by kernel_rfl
theorem t_block (w:World) (os:OsState):segRun treeTable pw w 11 (some (.ref 6)) 1 1 ⟨HA w.params,Array.mk [],{},187,os⟩ (blockOf (behindTheImports pw) en cE ⟨0,0,0,0⟩ fB) = some (.next,(SharedT.mk (TB w.params) 15 {} (Array.mk []) {} 187 os).abs,cE,⟨0,0,0,0⟩):=by kernel_rfl
theorem t_body (w:World) (os:OsState):segRunT treeTable pw w 11 (some (.ref 6)) 1 3559 (SharedT.mk (TB w.params) 15 {} (Array.mk []) {} 187 os) (piecesOf (behindTheImports pw) en cE ⟨0,0,0,0⟩ fB) = some (.next,(SharedT.mk (TF w.params) 486 {} (Array.mk []) {} 778 os),cE,⟨259,0,268,137⟩):=by kernel_rfl
theorem t_fin (w:World) (os:OsState):topRun treeTable pw w 11 (some (.ref 6)) 2 (SharedT.mk (TF w.params) 486 {} (Array.mk []) {} 778 os).abs ⟨doneF .next,cE,⟨259,0,268,137⟩,fB⟩ = some ⟨HF w.params,Array.mk [],{},778,os⟩:=by kernel_rfl
theorem t_run (w:World) (os:OsState):topRun treeTable pw w 11 (some (.ref 6)) (12 + (1 + (3559 + 2))) ⟨boot_heap w.params,Array.mk [],boot_drawn,boot_toks,os⟩ (topStub pw) = some ⟨HF w.params,Array.mk [],{},778,os⟩ :=
  go_top (t_pre w os) (piece_block (q:=⟨0,0,0,0⟩) (t_block w os) (by
    have h:=piece_app (q:=⟨0,0,0,0⟩) (rest:=[]) (N:=2) (r:=⟨HF w.params,Array.mk [],{},778,os⟩) (segRun_of (t_body w os)) (piece_nil (t_fin w os))
    rw [List.append_nil] at h
    exact h))
theorem t_op (w:World):(fencedOpening treeTable pw w 7240).map (fun s=>(s.heap,s.gens,s.drawn,s.toks)) = some (boot_heap w.params,Array.mk [],boot_drawn,boot_toks):=boot_open (by kernel_rfl) (by decide) (fun s=>by kernel_rfl) w
theorem t_size (w:World):((boot_heap w.params).isNs mainGlobals && (Array.mk []:Array GenState).size == 0,(boot_heap w.params).objs.size,(boot_heap w.params).nsMap mainGlobals "__annotations__") = (true,11,(some (.ref 6))):=by kernel_rfl
theorem t_left:LeftO pw vw [] (fun s=>xlAt vw [] s && recOk (RowW.records PySem.Challenge.rw_mustmay_k03_bad_plans.row.toRowW) s) (Hook.obs (kHook KK as hk)) (Hook.val (kHook KK as hk)) 7240 true :=
  LeftO.of_pieces (H₀:=boot_heap) (H₁:=HF) (m₀:=11) (ann:=(some (.ref 6))) (M:=(12 + (1 + (3559 + 2)))) t_op t_size t_run (by decide) fun w=>by kernel_rfl
end K2
open PySem PySem.W PyProof.Rows
set_option maxRecDepth 100000 in
set_option maxHeartbeats 0 in
theorem PySem.Challenge.cw_mustmay_k03_bad_plans_holds : PySem.Challenge.rw_mustmay_k03_bad_plans.Holds := by
  w_on
  refine PySem.W.holds_law (by kernel_rfl) fun said=>?_
  refine holds_open (q:=K2.vw) (loose:=[]) (Xt:=fun s=>xlAt K2.vw [] s && recOk (RowW.records PySem.Challenge.rw_mustmay_k03_bad_plans.row.toRowW) s) (XP:=XL K2.vw []) (Yf:=Hook.obs (kHook K2.KK K2.as K2.hk)) (Ya:=Hook.val (kHook K2.KK K2.as K2.hk)) (YP:=Hook.says (kHook K2.KK K2.as K2.hk)) (N:=7240) K2.t_left (Hook.of (kHook K2.KK K2.as K2.hk)) (Hook.keeps (kHook K2.KK K2.as K2.hk)) (fun s e=>xl_of s (Bool.and_eq_true_iff.mp e).1) XL.keeps (by rfl) (by rfl) (by rfl) (fun s e=>recFacts_of (Bool.and_eq_true_iff.mp e).2) (by rfl) said (by decide +kernel) ⟨rfl,rfl,rfl,rfl,rfl,by decide +kernel⟩ ?hw ?hc
  (case hw=>w_witness2)
  k_fill
  refine K2.walk (l:=PySem.Challenge.rw_mustmay_k03_bad_plans) rfl rfl (fun w h Y=>PySem.W.kIn_of Y) ?F
  case F =>
    intro w mg fa h KX G hmg
    refine' K2.all_mk KX G hmg ?acW ?ZF ?Yb ?Z4 ?aaf ?X4 ?Yi ?aaP ?N7 ?acX ?ZG ?Yc ?Z5 ?aag ?X5 ?Yj ?aaQ ?N8 ?a_May ?ael ?adN ?aer ?aev ?adM ?adO ?aeQ ?WL ?acZ ?ZK ?Ye ?Z7 ?aai ?X7 ?Ym ?aaS ?Ob ?ac0 ?ZL ?Yg ?Z8 ?aaj ?X8 ?Yn ?aaT ?Oc ?Wf ?Qu ?Pr ?Qz ?QK ?Pq ?Pu ?Q4 ?Hw ?acY ?ZJ ?Yd ?Z6 ?aah ?X6 ?Yk ?aaR ?Oa ?hn ?htk ?gm ?gr ?qG ?nD ?gZ ?ig ?nF ?nG ?z_all ?aeR ?z9 ?z_int ?xT ?z_len ?aeS ?z_max ?z_min ?aaV ?z_set ?z_str ?aaW ?yI ?oH ?nH ?eH ?iH ?tyH ?h1H ?h2H ?h3H ?suH ?Hm ?Je ?IW ?HS ?CV ?CW ?Dw ?qY ?Dz ?DP ?Dm ?Df ?DQ ?dw ?cJ ?DX ?DR ?YT ?Yo ?Yt ?ad6 ?adP ?adX ?YX ?Yq ?Yv ?YZ ?Yr ?Yw ?Qd ?Py ?PJ ?YW ?Yp ?Yu ?ql ?wN ?wQ ?n8 ?vQ ?yK ?vW ?vY ?wL ?zg ?wO ?wR ?Bv ?Et ?Bw ?Bx ?Ci ?Gb ?Cj ?Ck ?yL ?Bu ?yM ?yN ?zj ?Cg ?zm ?zp ?JR ?NP ?JS ?JT ?J6 ?O8 ?J7 ?J8 ?vP ?yJ ?vV ?vX ?jg ?ul ?vU ?oh ?inD ?ca1 ?ca2 ?ca3 ?uY ?lM ?iK ?lL ?uh ?uD ?vR ?wM ?vq ?vy ?gk ?iZ ?vz ?iY ?mL ?oW ?oX ?oY ?gj ?bw ?mJ ?j8 ?mK ?gY ?eE ?gf ?eV ?b8 ?iW ?fu ?m_law ?zy ?v8 ?oV ?zF ?wu ?zu ?zH ?wy ?zx ?xj ?um ?wX ?rN ?pB ?rM ?xm ?uo ?qm ?zE ?wk ?tW ?zB ?wj ?tV ?Dg ?yS ?wZ ?zG ?ww ?tX ?zJ ?wz ?tY ?xr ?ut ?w6 ?zA ?wg ?zr ?xu ?uw ?xf ?xx ?ux ?xg ?uH ?qZ ?uE ?xq ?ur ?wY ?uI ?rz ?uF ?uJ ?rA ?uG ?Dh ?yU ?Dc ?Ip ?Cz ?Io ?Di ?yV ?Dd ?Dj ?yW ?De ?zz ?v9 ?iT ?Ir ?CG ?qz ?Iu ?CJ ?qC ?nu ?lO ?dO ?rT ?pH ?f9 ?Iv ?CK ?qD ?rR ?pG ?fZ ?xJ ?uB ?jk ?zL ?wB ?j5 ?zM ?wC ?j6 ?zN ?wD ?j7 ?xn ?uq ?mz ?rO ?pC ?d8 ?xF ?uy ?bj ?xG ?uz ?ji ?zK ?wA ?iU ?xH ?uA ?jj ?pL ?m6 ?eU ?jX ?jC ?cU ?nq ?lN ?dN ?pM ?m7 ?du ?rP ?pD ?bW ?rQ ?pF ?fY ?mC ?jV ?di ?l_law ?adk ?k_law
    (case acW=>k_is)
    (case ZF=>k_is)
    (case Yb=>k_is)
    (case Z4=>k_is)
    (case aaf=>k_is)
    (case X4=>k_is)
    (case Yi=>k_is)
    (case aaP=>k_is)
    (case N7=>k_is)
    (case acX=>k_is)
    (case ZG=>k_is)
    (case Yc=>k_is)
    (case Z5=>k_is)
    (case aag=>k_is)
    (case X5=>k_is)
    (case Yj=>k_is)
    (case aaQ=>k_is)
    (case N8=>k_is)
    (case a_May=>k_is)
    (case ael=>k_is)
    (case adN=>k_is)
    (case aer=>k_is)
    (case aev=>k_is)
    (case adM=>k_is)
    (case adO=>k_is)
    (case aeQ=>k_is)
    (case WL=>k_is)
    (case acZ=>k_is)
    (case ZK=>k_is)
    (case Ye=>k_is)
    (case Z7=>k_is)
    (case aai=>k_is)
    (case X7=>k_is)
    (case Ym=>k_is)
    (case aaS=>k_is)
    (case Ob=>k_is)
    (case ac0=>k_is)
    (case ZL=>k_is)
    (case Yg=>k_is)
    (case Z8=>k_is)
    (case aaj=>k_is)
    (case X8=>k_is)
    (case Yn=>k_is)
    (case aaT=>k_is)
    (case Oc=>k_is)
    (case Wf=>k_is)
    (case Qu=>k_is)
    (case Pr=>k_is)
    (case Qz=>k_is)
    (case QK=>k_is)
    (case Pq=>k_is)
    (case Pu=>k_is)
    (case Q4=>k_is)
    (case Hw=>k_is)
    (case acY=>k_is)
    (case ZJ=>k_is)
    (case Yd=>k_is)
    (case Z6=>k_is)
    (case aah=>k_is)
    (case X6=>k_is)
    (case Yk=>k_is)
    (case aaR=>k_is)
    (case Oa=>k_is)
    (case hn=>k_is)
    (case htk=>k_is)
    (case gm=>k_is)
    (case gr=>k_is)
    (case qG=>k_is)
    (case nD=>k_is)
    (case gZ=>k_is)
    (case ig=>k_is)
    (case nF=>k_is)
    (case nG=>k_is)
    (case z_all=>k_is)
    (case aeR=>k_is)
    (case z9=>k_is)
    (case z_int=>k_is)
    (case xT=>k_is)
    (case z_len=>k_is)
    (case aeS=>k_is)
    (case z_max=>k_is)
    (case z_min=>k_is)
    (case aaV=>k_is)
    (case z_set=>k_is)
    (case z_str=>k_is)
    (case aaW=>k_is)
    (case yI=>k_is)
    (case oH=>k_is)
    (case nH=>k_is)
    (case eH=>rfl)
    (case iH=>k_is)
    (case tyH=>k_is)
    (case h1H=>k_is)
    (case h2H=>k_is)
    (case h3H=>k_is)
    (case suH=>k_is)
    (case Hm=>k_is)
    (case Je=>k_is)
    (case IW=>k_is)
    (case HS=>rfl)
    (case CV=>k_is)
    (case CW=>k_is)
    (case Dw=>k_is)
    (case qY=>k_is)
    (case Dz=>k_is)
    (case DP=>k_is)
    (case Dm=>k_is)
    (case Df=>k_is)
    (case DQ=>k_is)
    (case dw=>k_is)
    (case cJ=>k_is)
    (case DX=>k_is)
    (case DR=>k_is)
    (case YT=>k_is)
    (case Yo=>k_is)
    (case Yt=>k_is)
    (case ad6=>k_is)
    (case adP=>k_is)
    (case adX=>k_is)
    (case YX=>k_is)
    (case Yq=>k_is)
    (case Yv=>k_is)
    (case YZ=>k_is)
    (case Yr=>k_is)
    (case Yw=>k_is)
    (case Qd=>k_is)
    (case Py=>k_is)
    (case PJ=>k_is)
    (case YW=>k_is)
    (case Yp=>k_is)
    (case Yu=>k_is)
    (case ql=>k_is)
    (case wN=>k_is)
    (case wQ=>k_is)
    (case n8=>k_is)
    (case vQ=>k_is)
    (case yK=>k_is)
    (case vW=>k_is)
    (case vY=>k_is)
    (case wL=>k_is)
    (case zg=>k_is)
    (case wO=>k_is)
    (case wR=>k_is)
    (case Bv=>k_is)
    (case Et=>k_is)
    (case Bw=>k_is)
    (case Bx=>k_is)
    (case Ci=>k_is)
    (case Gb=>k_is)
    (case Cj=>k_is)
    (case Ck=>k_is)
    (case yL=>k_is)
    (case Bu=>k_is)
    (case yM=>k_is)
    (case yN=>k_is)
    (case zj=>k_is)
    (case Cg=>k_is)
    (case zm=>k_is)
    (case zp=>k_is)
    (case JR=>k_is)
    (case NP=>k_is)
    (case JS=>k_is)
    (case JT=>k_is)
    (case J6=>k_is)
    (case O8=>k_is)
    (case J7=>k_is)
    (case J8=>k_is)
    (case vP=>k_is)
    (case yJ=>k_is)
    (case vV=>k_is)
    (case vX=>k_is)
    (case jg=>k_is)
    (case ul=>k_is)
    (case vU=>k_is)
    (case oh=>k_is)
    (case inD=>k_is)
    (case ca1=>k_is)
    (case ca2=>k_is)
    (case ca3=>k_is)
    (case uY=>k_is)
    (case lM=>k_is)
    (case iK=>k_is)
    (case lL=>k_is)
    (case uh=>k_is)
    (case uD=>k_is)
    (case vR=>k_is)
    (case wM=>k_is)
    (case vq=>k_is)
    (case vy=>k_is)
    (case gk=>k_is)
    (case iZ=>k_is)
    (case vz=>k_is)
    (case iY=>k_is)
    (case mL=>k_is)
    (case oW=>k_is)
    (case oX=>k_is)
    (case oY=>k_is)
    (case gj=>k_is)
    (case bw=>k_is)
    (case mJ=>k_is)
    (case j8=>k_is)
    (case mK=>k_is)
    (case gY=>k_is)
    (case eE=>k_is)
    (case gf=>k_is)
    (case eV=>k_is)
    (case b8=>k_is)
    (case iW=>k_is)
    (case fu=>k_is)
    (case m_law=>k_is)
    (case zy=>k_is)
    (case v8=>k_is)
    (case oV=>k_is)
    (case zF=>k_is)
    (case wu=>k_is)
    (case zu=>k_is)
    (case zH=>k_is)
    (case wy=>k_is)
    (case zx=>k_is)
    (case xj=>k_is)
    (case um=>k_is)
    (case wX=>k_is)
    (case rN=>k_is)
    (case pB=>k_is)
    (case rM=>k_is)
    (case xm=>k_is)
    (case uo=>k_is)
    (case qm=>k_is)
    (case zE=>k_is)
    (case wk=>k_is)
    (case tW=>k_is)
    (case zB=>k_is)
    (case wj=>k_is)
    (case tV=>k_is)
    (case Dg=>k_is)
    (case yS=>k_is)
    (case wZ=>k_is)
    (case zG=>k_is)
    (case ww=>k_is)
    (case tX=>k_is)
    (case zJ=>k_is)
    (case wz=>k_is)
    (case tY=>k_is)
    (case xr=>k_is)
    (case ut=>k_is)
    (case w6=>k_is)
    (case zA=>k_is)
    (case wg=>k_is)
    (case zr=>k_is)
    (case xu=>k_is)
    (case uw=>k_is)
    (case xf=>k_is)
    (case xx=>k_is)
    (case ux=>k_is)
    (case xg=>k_is)
    (case uH=>k_is)
    (case qZ=>k_is)
    (case uE=>k_is)
    (case xq=>k_is)
    (case ur=>k_is)
    (case wY=>k_is)
    (case uI=>k_is)
    (case rz=>k_is)
    (case uF=>k_is)
    (case uJ=>k_is)
    (case rA=>k_is)
    (case uG=>k_is)
    (case Dh=>k_is)
    (case yU=>k_is)
    (case Dc=>k_is)
    (case Ip=>k_is)
    (case Cz=>k_is)
    (case Io=>k_is)
    (case Di=>k_is)
    (case yV=>k_is)
    (case Dd=>k_is)
    (case Dj=>k_is)
    (case yW=>k_is)
    (case De=>k_is)
    (case zz=>k_is)
    (case v9=>k_is)
    (case iT=>k_is)
    (case Ir=>k_is)
    (case CG=>k_is)
    (case qz=>k_is)
    (case Iu=>k_is)
    (case CJ=>k_is)
    (case qC=>k_is)
    (case nu=>k_is)
    (case lO=>k_is)
    (case dO=>k_is)
    (case rT=>k_is)
    (case pH=>k_is)
    (case f9=>k_is)
    (case Iv=>k_is)
    (case CK=>k_is)
    (case qD=>k_is)
    (case rR=>k_is)
    (case pG=>k_is)
    (case fZ=>k_is)
    (case xJ=>k_is)
    (case uB=>k_is)
    (case jk=>k_is)
    (case zL=>k_is)
    (case wB=>k_is)
    (case j5=>k_is)
    (case zM=>k_is)
    (case wC=>k_is)
    (case j6=>k_is)
    (case zN=>k_is)
    (case wD=>k_is)
    (case j7=>k_is)
    (case xn=>k_is)
    (case uq=>k_is)
    (case mz=>k_is)
    (case rO=>k_is)
    (case pC=>k_is)
    (case d8=>k_is)
    (case xF=>k_is)
    (case uy=>k_is)
    (case bj=>k_is)
    (case xG=>k_is)
    (case uz=>k_is)
    (case ji=>k_is)
    (case zK=>k_is)
    (case wA=>k_is)
    (case iU=>k_is)
    (case xH=>k_is)
    (case uA=>k_is)
    (case jj=>k_is)
    (case pL=>k_is)
    (case m6=>k_is)
    (case eU=>k_is)
    (case jX=>k_is)
    (case jC=>k_is)
    (case cU=>k_is)
    (case nq=>k_is)
    (case lN=>k_is)
    (case dN=>k_is)
    (case pM=>k_is)
    (case m7=>k_is)
    (case du=>k_is)
    (case rP=>k_is)
    (case pD=>k_is)
    (case bW=>k_is)
    (case rQ=>k_is)
    (case pF=>k_is)
    (case fY=>k_is)
    (case mC=>k_is)
    (case jV=>k_is)
    (case di=>k_is)
    (case l_law=>k_is)
    (case adk=>k_is)
    (case k_law=>k_is)
