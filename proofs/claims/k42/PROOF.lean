import PyProof.Rows.All
import Wide.All
import OpenK.AllK
import Wide.FinOn
import Lean
import PyProof.EqAt
import PyProof.EqKinds
import PyProof.TupleCall
import PyProof.ExcClass2
import PyProof.NsCount
import PyProof.StationsW
import PyProof.PassesOwn
import PyProof.Commute
import PyProof.RulesAs
import PyProof.NsDelKeeps
import KE.KTryMore
import PySem.Challenge.RW_mustmay_k42_ranked_rows_let_by
set_option Elab.async false
set_option linter.all false
set_option maxRecDepth 100000
namespace L2
open PySem PySem.Spec PyProof.Rows
abbrev Key:=Sum Int Str
def QQ:Key→Value→Bool
  | .inl k,v=>Value.isInt k v
  | .inr x,v=>Value.isStrOf x v
def keyH (w:World):Key→Int
  | .inl k=>hashInt k
  | .inr x=>hashStr w x
theorem du:∀ {k:Key} {v:Value},QQ k v = true→(∃ i t,k = Sum.inl i∧v = Value.int i t) ∨ (∃ x t,k = Sum.inr x∧v = Value.str x t)
  | .inl i,v,h=>by
    obtain ⟨t,e⟩:=Value.isInt_shape (k:=i) (v:=v) h
    exact .inl ⟨i,t,rfl,e⟩
  | .inr x,v,h=>by
    obtain ⟨t,e⟩:=Value.isStrOf_shape (x:=x) (v:=v) h
    exact .inr ⟨x,t,rfl,e⟩
theorem acO (i:Int) (t:Tok):QQ (.inl i) (.int i t) = true:=by simp [QQ,Value.isInt]
theorem acP (x:Str) (t:Tok):QQ (.inr x) (.str x t) = true:=by simp [QQ,Value.isStrOf]
theorem key_ll (a b:Int):decide ((Sum.inl a:Key) = Sum.inl b) = (a == b):=by
  by_cases e:a = b
  · subst e; simp
  · have h:¬ (Sum.inl a:Key) = Sum.inl b:=fun q=>e (Sum.inl.inj q)
    rw [decide_eq_false h]
    exact (beq_eq_false_iff_ne.mpr e).symm
theorem key_rr (a b:Str):decide ((Sum.inr a:Key) = Sum.inr b) = decide (a = b):=by
  by_cases e:a = b
  · subst e; simp
  · have h:¬ (Sum.inr a:Key) = Sum.inr b:=fun q=>e (Sum.inr.inj q)
    rw [decide_eq_false h,decide_eq_false e]
theorem key_lr (a:Int) (b:Str):decide ((Sum.inl a:Key) = Sum.inr b) = false:=decide_eq_false (fun q=>nomatch q)
theorem key_rl (a:Str) (b:Int):decide ((Sum.inr a:Key) = Sum.inl b) = false:=decide_eq_false (fun q=>nomatch q)
def cZ (prog:Program) (w:World):PySem.KeyKind prog w Key where
  is:=QQ
  hash:=keyH w
  inj:=fun v a b ha hb=>by
    rcases du ha with ⟨i,t,rfl,rfl⟩ | ⟨x,t,rfl,rfl⟩
    · rcases du hb with ⟨j,u,rfl,e⟩ | ⟨y,u,rfl,e⟩
      · injection e with e1 _; rw [e1]
      · exact nomatch e
    · rcases du hb with ⟨j,u,rfl,e⟩ | ⟨y,u,rfl,e⟩
      · exact nomatch e
      · injection e with e1 _; rw [e1]
  byValue:=fun k v h=>by
    rcases du h with ⟨i,t,rfl,rfl⟩ | ⟨x,t,rfl,rfl⟩ <;> rfl
  pyHash:=fun hv h=>by
    rcases du hv with ⟨i,t,rfl,rfl⟩ | ⟨x,t,rfl,rfl⟩
    · exact wpAny_pyHash_int h
    · exact wpAny_pyHash_str h
  eqBool:=fun hu hv h=>by
    rcases du hu with ⟨i,t,rfl,rfl⟩ | ⟨x,t,rfl,rfl⟩
    · rcases du hv with ⟨j,u,rfl,rfl⟩ | ⟨y,u,rfl,rfl⟩
      · rw [key_ll] at h; exact wpAny_eqBool_int h
      · rw [key_lr] at h; exact SeqAt.EqAt.int_str i t y u _ _ _ _ h
    · rcases du hv with ⟨j,u,rfl,rfl⟩ | ⟨y,u,rfl,rfl⟩
      · rw [key_rl] at h; exact SeqAt.EqAt.str_int x t j u _ _ _ _ h
      · rw [key_rr] at h; exact wpAny_eqBool_str h
  «strs»:=fun k x t v h=>by
    rcases du h with ⟨i,u,rfl,e⟩ | ⟨y,u,rfl,e⟩
    · exact nomatch e
    · injection e with e1 _
      subst e1
      cases v <;> rfl
theorem Zk (prog:Program) (w:World) (i:Int) (t:Tok):(cZ prog w).is (.inl i) (.int i t) = true:=acO i t
theorem Zm (prog:Program) (w:World) (x:Str) (t:Tok):(cZ prog w).is (.inr x) (.str x t) = true:=acP x t
end L2
namespace L2
open PySem PySem.Spec PyProof.Rows
inductive V where
  | non | bl (b:Bool) | int (i:Int) | str (x:Str) | byt (b:Array UInt8) | flt (b:UInt64) | ref (a:Addr) | ty (n:String)
  deriving DecidableEq
def RelV:V→Value→Prop
  | .non,u=>u = Value.none
  | .bl b,u=>u = Value.bool b
  | .int i,u=>∃ t,u = Value.int i t
  | .str x,u=>∃ t,u = Value.str x t
  | .byt b,u=>∃ t,u = Value.bytes b t
  | .flt b,u=>∃ t,u = Value.float b t
  | .ref a,u=>u = Value.ref a
  | .ty n,u=>u = Value.type n
abbrev Vals:List V→List Value→Prop:=Paired RelV
theorem Vals.length {xs:List V} {us:List Value} (r:Vals xs us):xs.length = us.length:=Paired.length r
theorem Vals.get:∀ {xs:List V} {us:List Value} {i:Nat} {x:V},Vals xs us→xs[i]? = some x→∃ u,us[i]? = some u∧RelV x u
  | _,_,_,_,.nil,e=>by simp at e
  | _,_,0,_,.cons r _,e=>by simp at e; subst e; exact ⟨_,rfl,r⟩
  | _,_,i + 1,x,.cons _ t,e=>by
    obtain ⟨u,h1,h2⟩:=Vals.get (i:=i) (x:=x) t (by simpa using e)
    exact ⟨u,by simpa using h1,h2⟩
theorem Vals.set {x:V} {u:Value} (r:RelV x u):∀ {xs:List V} {us:List Value} (i:Nat),Vals xs us→Vals (xs.set i x) (us.set i u)
  | _,_,_,.nil=>.nil
  | _,_,0,.cons _ t=>.cons r t
  | _,_,i + 1,.cons q t=>.cons q (Vals.set r i t)
theorem Vals.append:∀ {xs ys:List V} {us ws:List Value},Vals xs us→Vals ys ws→Vals (xs ++ ys) (us ++ ws)
  | _,_,_,_,.nil,s=>s
  | _,_,_,_,.cons r t,s=>.cons r (Vals.append t s)
theorem Vals.take:∀ {xs:List V} {us:List Value} (n:Nat),Vals xs us→Vals (xs.take n) (us.take n)
  | _,_,0,_=>.nil
  | _,_,_ + 1,.nil=>.nil
  | _,_,n + 1,.cons r t=>.cons r (Vals.take n t)
theorem Vals.drop:∀ {xs:List V} {us:List Value} (n:Nat),Vals xs us→Vals (xs.drop n) (us.drop n)
  | _,_,0,r=>r
  | _,_,_ + 1,.nil=>.nil
  | _,_,n + 1,.cons _ t=>Vals.drop n t
theorem Vals.none_of:∀ {xs:List V} {us:List Value} {i:Nat},Vals xs us→xs[i]? = none→us[i]? = none:=fun {xs us i} r e=>by
  have h1:=r.length
  have h2:xs.length ≤ i:=List.getElem?_eq_none_iff.mp e
  exact List.getElem?_eq_none_iff.mpr (by omega)
def vK:Option V→Option Value→Prop
  | some v,some u=>RelV v u
  | none,none=>True
  | _,_=>False
def KV {κ:Type}:List (κ × V)→List (κ × Value)→Prop:=Paired fun (p:κ × V) (q:κ × Value)=>p.1 = q.1∧RelV p.2 q.2
def kV:Key→V
  | .inl i=>.int i
  | .inr x=>.str x
inductive HO where
  | lst (xs:List V)
  | tup (xs:List V)
  | dK (kvs:List (Key × V)) | dT (kvs:List (List Key × V))
  | set (S:Int→Bool) (n:Nat)
  | ins (C dx:Addr) (fs:List (Str × V))
  | own (x:Addr)
  | xd (fs:List (Str × V))
  | met (f x:Addr)
  | rng (lo hi:Int)
  | frz (o:Obj) (u:HO)
  | tbl (ps:Array Value)
  | ext (φ:Heap→Prop)
abbrev Hp:=Addr→Option HO
def upd (H:Hp) (a:Addr) (o:HO):Hp:=fun b=>if b = a then some o else H b
theorem aW {H:Hp} {a:Addr} {o:HO}:upd H a o a = some o:=by unfold upd; rw [if_pos rfl]
theorem aV {H:Hp} {a b:Addr} {o:HO} (h:b ≠ a):upd H a o b = H b:=by unfold upd; rw [if_neg h]
theorem ne_of {H:Hp} {a b:Addr} {o u:HO} (h:H a = some o) (h':H b = some u) (d:o ≠ u):a ≠ b:=by
  intro e; subst e; rw [h] at h'; exact d (Option.some.inj h')
theorem aY {H:Hp} {a b:Addr} {o:HO} (h:H a = some o) (h':H b = none):a ≠ b:=by
  intro e; subst e; rw [h] at h'; cases h'
section
variable (P:Program) (w:World)
def cU (H:Hp) (h:Heap) (a:Addr):HO→Prop
  | .lst xs=>xs.length ≤ sizeLine∧∃ (its:List Value) (n:Nat),Vals xs its∧h.get? a = some { cls:=.type "list",data:=.seq its.toArray n }
  | .tup xs=>xs.length ≤ sizeLine∧∃ its:List Value,Vals xs its∧IsTup h a its.toArray
  | .dK kvs=>kvs.length ≤ sizeLine∧(a == sysModules) = false∧∃ vs,KV kvs vs∧h.DictOf (cZ P w) a vs
  | .dT kvs=>kvs.length ≤ sizeLine∧(a == sysModules) = false∧∃ xs:List (List Key × Addr × Value),
      Paired (fun (p:List Key × V) (q:List Key × Addr × Value)=>p.1 = q.1∧H q.2.1 = some (.tup (p.1.map kV))∧RelV p.2 q.2.2) kvs xs ∧
      ∃ o es ep,h.get? a = some o∧o.ExactDict∧o.data = .dict es ep∧es.toList = xs.map (entryOfKey (tupleKind (cZ P w)))∧(xs.map (·.1)).Nodup
  | .set S n=>h.SetOf (intKind P w) a S n
  | .ins C dx fs=>H dx = some (.own a)∧fs.length ≤ 1000∧dx ≠ a∧h.get? a = some (PySem.W.instObj C dx) ∧
      ∃ mA,h.Ns1 dx mA∧(∀ f,vK (fs.lookup f) (mA f))∧PySem.Within mA (fs.map (·.1))
  | .own _=>∃ o,h.get? a = some o
  | .xd fs=>∃ mA,h.Ns1 a mA∧∀ f,vK (fs.lookup f) (mA f)
  | .rng lo hi=>∃ t u v,h.get? a = some { cls:=.type "range",data:=.fields #[.int lo t,.int hi u,.int 1 v] }
  | .frz o u=>h.get? a = some o∧cU H h a u
  | .tbl ps=>h.get? a = some { cls:=.none,data:=.fields ps }
  | .met f x=>h.get? a = some (PySem.W.methodObj (.ref f) (.ref x))
  | .ext φ=>φ h∧(∃ o,h.get? a = some o)∧∀ h1 h2:Heap,φ h1→(∀ o,h1.get? a = some o→h2.get? a = some o)→φ h2
def HOk (H:Hp) (h:Heap):Prop:=∀ a o,H a = some o→cU P w H h a o
end
section
variable {P:Program} {w:World} {H H':Hp} {h h':Heap} {a:Addr} {o:HO}
theorem cU.lt (x:cU P w H h a o):a < h.objs.size:=by
  cases o with
  | lst xs=>obtain ⟨_,_,_,_,e⟩:=x; exact Heap.lt_size e
  | tup xs=>obtain ⟨_,_,_,p⟩:=x; exact p.lt
  | dK kvs=>obtain ⟨_,_,_,_,o,_,_,e,_⟩:=x; exact Heap.lt_size e
  | dT kvs=>obtain ⟨_,_,_,_,o,_,_,e,_⟩:=x; exact Heap.lt_size e
  | set S n=>obtain ⟨o,_,_,_,e,_⟩:=x; exact Heap.lt_size e
  | ins C dx fs=>obtain ⟨_,_,_,e,_⟩:=x; exact Heap.lt_size e
  | own y=>obtain ⟨_,e⟩:=x; exact Heap.lt_size e
  | xd fs=>obtain ⟨_,⟨_,_,_,e,_⟩,_⟩:=x; exact Heap.lt_size e
  | rng lo hi=>obtain ⟨_,_,_,e⟩:=x; exact Heap.lt_size e
  | frz ob u=>obtain ⟨e,_⟩:=x; exact Heap.lt_size e
  | tbl ps=>exact Heap.lt_size (show h.get? a = some _ from x)
  | met f y=>exact Heap.lt_size (show h.get? a = some _ from x)
  | ext φ=>obtain ⟨_,⟨_,e⟩,_⟩:=x; exact Heap.lt_size e
theorem Paired.mapP {α β:Type} {F G:α→β→Prop}:∀ {l₁:List α} {l₂:List β},Paired F l₁ l₂→(∀ a b,F a b→G a b)→Paired G l₁ l₂
  | _,_,.nil,_=>.nil
  | _,_,.cons r t,f=>.cons (f _ _ r) (Paired.mapP t f)
theorem cU.stay (x:cU P w H h a o) (k:∀ b u,(b = a ∨ H b = some (.own a))→h.get? b = some u→h'.get? b = some u)
    (ho:∀ b,H b = some (.own a)→H' b = some (.own a)) (ht:∀ b xs,H b = some (.tup xs)→H' b = some (.tup xs)):cU P w H' h' a o:=by
  induction o with
  | lst xs=>obtain ⟨z,its,n,r,e⟩:=x; exact ⟨z,its,n,r,k _ _ (.inl rfl) e⟩
  | tup xs=>obtain ⟨z,its,r,ob,e,c⟩:=x; exact ⟨z,its,r,ob,k _ _ (.inl rfl) e,c⟩
  | dK kvs=>obtain ⟨z,y,vs,r,ob,es,ep,e,c⟩:=x; exact ⟨z,y,vs,r,ob,es,ep,k _ _ (.inl rfl) e,c⟩
  | dT kvs =>
    obtain ⟨z,y,xs,r,ob,es,ep,e,c⟩:=x
    exact ⟨z,y,xs,Paired.mapP r fun p q z=>⟨z.1,ht _ _ z.2.1,z.2.2⟩,ob,es,ep,k _ _ (.inl rfl) e,c⟩
  | set S n=>obtain ⟨ob,es,ep,t,e,c⟩:=x; exact ⟨ob,es,ep,t,k _ _ (.inl rfl) e,c⟩
  | ins C dx fs =>
    obtain ⟨d,z,ne,e,mA,⟨od,es,ep,e2,c⟩,r⟩:=x
    exact ⟨ho _ d,z,ne,k _ _ (.inl rfl) e,mA,⟨od,es,ep,k _ _ (.inr d) e2,c⟩,r⟩
  | own y=>obtain ⟨ob,e⟩:=x; exact ⟨ob,k _ _ (.inl rfl) e⟩
  | xd fs=>obtain ⟨mA,⟨od,es,ep,e,c⟩,r⟩:=x; exact ⟨mA,⟨od,es,ep,k _ _ (.inl rfl) e,c⟩,r⟩
  | rng lo hi=>obtain ⟨t,u,v,e⟩:=x; exact ⟨t,u,v,k _ _ (.inl rfl) e⟩
  | frz ob u ih=>obtain ⟨e,q⟩:=x; exact ⟨k _ _ (.inl rfl) e,ih q⟩
  | tbl ps =>
    have e:h.get? a = some { cls:=.none,data:=.fields ps }:=x
    show h'.get? a = some { cls:=.none,data:=.fields ps }
    exact k a _ (.inl rfl) e
  | met f y =>
    have e:h.get? a = some (PySem.W.methodObj (.ref f) (.ref y)):=x
    show h'.get? a = some (PySem.W.methodObj (.ref f) (.ref y))
    exact k a _ (.inl rfl) e
  | ext φ=>obtain ⟨p,⟨o,e⟩,st⟩:=x; exact ⟨st _ _ p fun o q=>k _ _ (.inl rfl) q,⟨o,k _ _ (.inl rfl) e⟩,st⟩
theorem HOk.lt (x:HOk P w H h) (e:H a = some o):a < h.objs.size:=(x a o e).lt
theorem HOk.fresh (x:HOk P w H h) (e:h.objs.size ≤ a):H a = none:=by
  cases q:H a with
  | none=>rfl
  | some u=>exact absurd (Nat.lt_of_lt_of_le (x.lt q) e) (Nat.lt_irrefl _)
theorem HOk.kept (x:HOk P w H h) (k:∀ b u,h.get? b = some u→h'.get? b = some u):HOk P w H h':=fun a o e =>
  (x a o e).stay (fun b u _ q=>k b u q) (fun _ q=>q) fun _ _ q=>q
theorem HOk.laid (x:HOk P w H h) (k:∀ b u,h.get? b = some u→h'.get? b = some u) (hp:h.objs.size ≤ a) (new:cU P w (upd H a o) h' a o):HOk P w (upd H a o) h':=fun b u e=>by
  have hn:=x.fresh hp
  by_cases hb:b = a
  · subst hb; rw [aW] at e; cases e; exact new
  · rw [aV hb] at e
    exact (x b u e).stay (fun c v _ q=>k c v q) (fun c q=>by rw [aV (aY q hn)]; exact q) fun c xs q=>by rw [aV (aY q hn)]; exact q
end
def Rd (H:Hp) (a:Addr) (u:HO):Prop:=H a = some u ∨ ∃ o,H a = some (.frz o u)
theorem Rd.of {H:Hp} {a:Addr} {u:HO} (h:H a = some u):Rd H a u:=.inl h
theorem Rd.ok {P:Program} {w:World} {H:Hp} {h:Heap} {a:Addr} {u:HO} (r:Rd H a u) (x:HOk P w H h):cU P w H h a u:=by
  rcases r with r | ⟨o,r⟩
  · exact x a u r
  · obtain ⟨_,q⟩:=x a _ r
    exact q
def Mut:Option HO→Prop
  | some (.lst _)=>True
  | some (.dK _)=>True
  | some (.dT _)=>True
  | some (.set _ _)=>True
  | some (.ins _ _ _)=>True
  | some (.ext _)=>True
  | _=>False
section
variable {P:Program} {w:World} {H:Hp} {h h':Heap} {x e:Addr} {o':HO}
theorem HOk.write (ok:HOk P w H h) (mu:Mut (H x)) (he:e = x ∨ H e = some (.own x)) (k:∀ b u,b ≠ e→h.get? b = some u→h'.get? b = some u) (heo:∃ u,h'.get? e = some u)
    (new:cU P w (upd H x o') h' x o'):HOk P w (upd H x o') h':=fun b u q=>by
  have nown:∀ c y,H c = some (.own y)→c ≠ x:=fun c y r z=>by subst z; rw [r] at mu; exact mu
  have ntup:∀ c xs,H c = some (.tup xs)→c ≠ x:=fun c xs r z=>by subst z; rw [r] at mu; exact mu
  by_cases hb:b = x
  · subst hb; rw [aW] at q; cases q; exact new
  · rw [aV hb] at q
    by_cases hbe:b = e
    · have q':H b = some (.own x):=by
        rcases he with z | z
        · exact absurd (hbe.trans z) hb
        · rw [hbe]; exact z
      rw [q] at q'; cases q'
      obtain ⟨v,hv⟩:=heo
      exact ⟨v,by rw [hbe]; exact hv⟩
    · refine (ok b u q).stay (fun c v hc r=>k c v ?_ r) (fun c r=>by rw [aV (nown c b r)]; exact r) fun c xs r=>by rw [aV (ntup c xs r)]; exact r
      rcases hc with rfl | hc
      · exact hbe
      · rintro rfl
        rcases he with z | z
        · exact nown c b hc z
        · rw [hc] at z; cases z; exact hb rfl
end
structure Un (fs ex:List Addr) (H H':Hp) (h h':Heap):Prop where
  keep:∀ b o,h.get? b = some o→H b = none→b ∉ fs→b ∉ ex→h'.get? b = some o
  slot:∀ b o,h.get? b = some o→H b = none→b ∈ fs→b ∉ ex→∃ sl,h'.get? b = some { o with slots:=sl }
  free:∀ b o,h.get? b = some o→H b = none→b ∉ ex→H' b = none
  there:∀ b o,h.get? b = some o→b ∉ ex→∃ o',h'.get? b = some o'
  tups:∀ b xs,H b = some (.tup xs)→H' b = some (.tup xs)
  Bl:∀ b o u,H b = some (.frz o u)→H' b = some (.frz o u)
  Ds:∀ b ps,H b = some (.tbl ps)→∃ more,H' b = some (.tbl (ps ++ more))
section
variable {fs fs' ex ex':List Addr} {H H1 H2:Hp} {h h1 h2 h':Heap} {a x e:Addr} {o:HO}
theorem Un.any (u:Un fs ex H H1 h h1) {b:Addr} {ob:Obj} (q:h.get? b = some ob) (n:H b = none) (hx:b ∉ ex):∃ sl,h1.get? b = some { ob with slots:=sl }:=by
  by_cases hb:b ∈ fs
  · exact u.slot b ob q n hb hx
  · exact ⟨ob.slots,u.keep b ob q n hb hx⟩
theorem Un.trans (a:Un fs ex H H1 h h1) (b:Un fs ex H1 H2 h1 h2):Un fs ex H H2 h h2 where
  keep:=fun c ob q n hc hx=>b.keep c ob (a.keep c ob q n hc hx) (a.free c ob q n hx) hc hx
  slot:=fun c ob q n hc hx=>by
    obtain ⟨sl,e1⟩:=a.slot c ob q n hc hx
    obtain ⟨sl',e2⟩:=b.slot c _ e1 (a.free c ob q n hx) hc hx
    exact ⟨sl',e2⟩
  free:=fun c ob q n hx=>by
    obtain ⟨o',e1⟩:=a.there c ob q hx
    exact b.free c o' e1 (a.free c ob q n hx) hx
  there:=fun c ob q hx=>by
    obtain ⟨o',e1⟩:=a.there c ob q hx
    exact b.there c o' e1 hx
  tups:=fun c xs q=>b.tups c xs (a.tups c xs q)
  Bl:=fun c ob xs q=>b.Bl c ob xs (a.Bl c ob xs q)
  Ds:=fun c ps q=>by
    obtain ⟨m1,e1⟩:=a.Ds c ps q
    obtain ⟨m2,e2⟩:=b.Ds c _ e1
    exact ⟨m1 ++ m2,by rw [e2,Array.append_assoc]⟩
theorem Un.kept (k:∀ b u,h.get? b = some u→h'.get? b = some u):Un fs ex H H h h' :=
  ⟨fun b ob q _ _ _=>k b ob q,fun b ob q _ _ _=>⟨ob.slots,k b ob q⟩,fun _ _ _ n _=>n,fun b ob q _=>⟨ob,k b ob q⟩,fun _ _ q=>q,fun _ _ _ q=>q,fun _ ps q=>⟨#[],by rw [q]; simp⟩⟩
theorem Un.refl:Un fs ex H H h h:=Un.kept fun _ _ q=>q
theorem Un.laid (k:∀ b u,h.get? b = some u→h'.get? b = some u) (hp:h.objs.size ≤ a) (hn:H a = none):Un fs ex H (upd H a o) h h' where
  keep:=fun b u q _ _ _=>k b u q
  slot:=fun b u q _ _ _=>⟨u.slots,k b u q⟩
  free:=fun b u q n _=>by rw [aV (Nat.ne_of_lt (Nat.lt_of_lt_of_le (Heap.lt_size q) hp))]; exact n
  there:=fun b u q _=>⟨u,k b u q⟩
  tups:=fun b xs q=>by rw [aV (aY q hn)]; exact q
  Bl:=fun b u xs q=>by rw [aV (aY q hn)]; exact q
  Ds:=fun b ps q=>⟨#[],by rw [aV (aY q hn),q]; simp⟩
theorem Un.write (mu:Mut (H x)) (he:e = x ∨ H e = some (.own x)) (k:∀ b u,b ≠ e→h.get? b = some u→h'.get? b = some u) (heo:∃ u,h'.get? e = some u):Un fs ex H (upd H x o) h h':=by
  have hx:∀ b,H b = none→b ≠ x:=fun b n z=>by subst z; rw [n] at mu; exact mu
  have hb:∀ b,H b = none→b ≠ e:=fun b n z=>by
    subst z
    rcases he with r | r
    · exact hx b n r
    · rw [n] at r; cases r
  have hm:∀ b u,H b = some u→¬ Mut (some u)→b ≠ x:=fun b u q nm z=>by subst z; rw [q] at mu; exact nm mu
  refine ⟨fun b u q n _ _=>k b u (hb b n) q,fun b u q n _ _=>⟨u.slots,k b u (hb b n) q⟩,fun b u q n _=>by rw [aV (hx b n)]; exact n,fun b u q _=>?_,
    fun b xs q=>by rw [aV (hm b _ q fun z=>z)]; exact q,fun b u xs q=>by rw [aV (hm b _ q fun z=>z)]; exact q,fun b ps q=>⟨#[],by rw [aV (hm b _ q fun z=>z),q]; simp⟩⟩
  by_cases hbe:b = e
  · subst hbe; exact heo
  · exact ⟨u,k b u hbe q⟩
theorem Un.mono (u:Un fs ex H H1 h h1) (hs:∀ b ∈ fs,b ∈ fs') (hx:∀ b ∈ ex,b ∈ ex'):Un fs' ex' H H1 h h1 :=
  ⟨fun b ob q n hb he=>u.keep b ob q n (fun z=>hb (hs b z)) fun z=>he (hx b z),fun _ _ q n _ he=>u.any q n fun z=>he (hx _ z),fun b ob q n he=>u.free b ob q n fun z=>he (hx b z),fun b ob q he=>u.there b ob q fun z=>he (hx b z),u.tups,u.Bl,u.Ds⟩
end
def trk (h:Heap) (H:Hp):List Addr:=(List.range h.objs.size).filter fun a=>(H a).isSome
def hidT (h:Heap) (H:Hp):Heap:=PySem.W.hideAll h (trk h H)
theorem acJ (h:Heap) (H:Hp):(hidT h H).objs.size = h.objs.size:=PySem.W.hideAll_size _ _
theorem hidT_get {h:Heap} {H:Hp} {b:Addr} {o:Obj} (e:h.get? b = some o) (n:H b = none):(hidT h H).get? b = some o :=
  PySem.W.hideAll_get _ e fun hm=>by
    have q:(H b).isSome = true:=(List.mem_filter.mp hm).2
    rw [n] at q; simp at q
theorem of_hidT {h:Heap} {H:Hp} {b:Addr} {o:Obj} (e:(hidT h H).get? b = some o):h.get? b = some o∧H b = none:=by
  have e':h.get? b = some o:=PySem.W.of_hideAll (trk h H) e
  refine ⟨e',?_⟩
  cases q:H b with
  | none=>rfl
  | some x =>
    have hm:b ∈ trk h H:=List.mem_filter.mpr ⟨List.mem_range.mpr (Heap.lt_size e'),by simp [q]⟩
    have z:(hidT h H).get? b = none:=PySem.W.hideAll_none (trk h H) hm
    rw [z] at e; cases e
def allNews (g h:Heap) (L:Addr):List (Addr × Obj):=(List.range h.objs.size).filterMap fun a=>if a = L ∨ (g.get? a).isSome = true then none else (h.get? a).map fun o=>(a,o)
def rest (g h:Heap) (L d:Addr):List (Addr × Obj):=(allNews g h L).filter fun p=>decide (p.1 ≠ d)
end L2
namespace L2
open PySem PySem.Spec PyProof.Rows
structure Mod (K:PySem.W.Frag) (mg:Str→Option Value) (base:Heap):Prop where
  kin:K.In base
  glob:base.Ns mainGlobals mg
  blt:∃ mb,base.Ns builtinsNs mb∧∀ x:Str,x ≠ "__name__"→mb x = bootBuiltins x
  nolimit:base.NoLimit
structure Cx where
  prog:Program
  w:World
  K:PySem.W.Frag
  mg:Str→Option Value
  base:Heap
  A:Around
  N:List Str
  s₀:Shared
  H₀:Hp
  env:Env
  outer:List Env
  stack:List Env
  ex:List Addr
  fn:Str→Bool
  calm:Bool
  pn:List (Addr × Obj)
  xe:Value→Shared→Prop
def frs (l:List Env):List Addr:=l.filterMap (·.frame)
abbrev Cx.fs (X:Cx):List Addr:=frs X.outer
def Vis (sc:Scope) (x:Str):Prop:=sc.names.lookup x = some .local ∨ sc.names.lookup x = some .cell ∨ sc.names.lookup x = some .free
def Loc (sc:Scope) (x:Str):Prop:=sc.names.lookup x = some .local ∨ sc.names.lookup x = some .cell
def Look (env:Env) (h:Heap) (m:Str→Option Value) (x:Str) (u:Value):Prop :=
  (env.kindOf x = some .local∧m x = some u) ∨ ((env.kindOf x = some .cell ∨ env.kindOf x = some .free)∧∃ c,env.cells.lookup x = some c∧h.IsCell c (some u))
structure Cx.Ok (X:Cx):Prop where
  mod:Mod X.K X.mg X.base
  kind:X.env.scope.kind = .function
  glob:X.env.globals = mainGlobals
  blt:X.env.builtins = builtinsNs
  above:X.s₀.heap.objs.size ≤ X.env.locals
  inj:∀ x y c,X.env.cells.lookup x = some c→X.env.cells.lookup y = some c→x = y
  has:∀ x,(X.env.kindOf x = some .cell ∨ X.env.kindOf x = some .free)→∃ c,X.env.cells.lookup x = some c
  cab:∀ x c,X.fn x = true→X.env.cells.lookup x = some c→X.s₀.heap.objs.size ≤ c
  hd:X.calm = true→X.A.handled = none
  frames:X.A.frames = some X.stack
  stk:X.stack = X.outer ∨ (X.stack = X.env :: X.outer∧X.env.frame = some X.env.locals)
  exf:∀ b ∈ X.ex,b ≠ X.env.locals∧∀ x c,X.env.cells.lookup x = some c→c ≠ b
  bs:∀ b o,X.base.get? b = some o→X.s₀.heap.get? b = some o∧X.H₀ b = none
  bsz:X.base.objs.size ≤ X.s₀.heap.objs.size
  bA:∀ b o,X.base.get? b = some o→b ∉ X.ex
  exfs:∀ b ∈ X.ex,b ∉ X.fs
  CT:X.s₀.heap.FunFrames X.base X.outer
  frf:∀ b ∈ X.fs,X.H₀ b = none
structure Inv (X:Cx) (pins:List (Addr × Obj)) (σ:List (Option V)) (H:Hp) (s:Shared):Prop where
  ok:X.Ok
  os:s.os = X.s₀.os
  bare:AllBare s.gens
  base:Un X.fs X.ex X.H₀ H X.s₀.heap s.heap
  loc:∃ m,s.heap.Ns X.env.locals m∧∀ (i:Nat) (x:Str) (v:V),X.N[i]? = some x→σ[i]? = some (some v)→Vis X.env.scope x→∃ u,RelV v u∧Look X.env s.heap m x u
  cell:∀ x c,X.env.cells.lookup x = some c→∃ v,s.heap.IsCell c v
  free:H X.env.locals = none
  yZ:∀ x c,X.env.cells.lookup x = some c→H c = none
  pin:∀ p ∈ X.pn ++ pins,s.heap.get? p.1 = some p.2∧H p.1 = none∧p.1 ≠ X.env.locals∧p.1 ∉ X.fs∧∀ v,p.2.data ≠ .cell v
  hok:HOk X.prog X.w H s.heap
  len:σ.length = X.N.length
section
variable {X:Cx} {pins:List (Addr × Obj)} {σ:List (Option V)} {H H':Hp} {s:Shared} {h':Heap}
theorem Cx.Ok.nofr (ok:X.Ok) {b:Addr} {o:Obj} (e:X.base.get? b = some o):b ∉ X.fs:=fun hb=>by
  have:=(ok.CT.mem hb).1
  rw [e] at this; cases this
theorem Inv.bs (I:Inv X pins σ H s):∀ b o,X.base.get? b = some o→s.heap.get? b = some o∧H b = none:=fun b o e =>
  ⟨I.base.keep b o (I.ok.bs b o e).1 (I.ok.bs b o e).2 (I.ok.nofr e) (I.ok.bA b o e),I.base.free b o (I.ok.bs b o e).1 (I.ok.bs b o e).2 (I.ok.bA b o e)⟩
theorem Inv.bk (I:Inv X pins σ H s):∀ b o,X.base.get? b = some o→s.heap.get? b = some o:=fun b o e=>(I.bs b o e).1
theorem Inv.mod (I:Inv X pins σ H s):Mod X.K X.mg X.base:=I.ok.mod
theorem Inv.kIn (I:Inv X pins σ H s):X.K.In s.heap:=I.ok.mod.kin.keeps I.bk
theorem Inv.nolimit (I:Inv X pins σ H s):s.heap.NoLimit:=I.ok.mod.nolimit.keeps I.bk
theorem Inv.fr (I:Inv X pins σ H s):∃ m,Fr X.base X.env.locals s.heap m :=
  let ⟨m,hn,_⟩:=I.loc
  ⟨m,hn,I.bk,Nat.le_trans I.ok.bsz I.ok.above⟩
theorem Inv.lt (I:Inv X pins σ H s):X.env.locals < s.heap.objs.size:=let ⟨_,hn,_⟩:=I.loc; hn.lt
theorem Inv.sz (I:Inv X pins σ H s):X.s₀.heap.objs.size ≤ s.heap.objs.size:=Nat.le_trans I.ok.above (Nat.le_of_lt I.lt)
theorem Inv.nofs (I:Inv X pins σ H s) {a:Addr} (h:s.heap.objs.size ≤ a):a ∉ X.fs:=fun hb=>by
  obtain ⟨_,o,ho,_⟩:=I.ok.CT.mem hb
  exact absurd (Nat.lt_of_lt_of_le (Heap.lt_size ho) (Nat.le_trans I.sz h)) (Nat.lt_irrefl _)
theorem Inv.cne (I:Inv X pins σ H s):∀ x c,X.env.cells.lookup x = some c→c ≠ X.env.locals:=fun x c e z=>by
  obtain ⟨v,o,ho,hd⟩:=I.cell x c e
  obtain ⟨m,⟨o',es,ep,ho',hd',_⟩,_⟩:=I.loc
  rw [z,ho'] at ho; cases ho; rw [hd'] at hd; cases hd
theorem Inv.CT (I:Inv X pins σ H s):s.heap.FunFrames X.base X.outer:=by
  have all:∀ (l:List Env),(∀ b ∈ frs l,b ∈ X.fs)→X.s₀.heap.FunFrames X.base l→s.heap.FunFrames X.base l:=by
    intro l
    induction l with
    | nil=>intro _ _; trivial
    | cons env r ih =>
      intro hs hl
      obtain ⟨hk,⟨L,o,hf,hn,ho,hd⟩,hr⟩:=hl
      have hL:L ∈ X.fs:=hs L (by unfold frs; rw [List.filterMap_cons,hf]; exact List.mem_cons_self)
      obtain ⟨sl,e⟩:=I.base.slot L o ho (I.ok.frf L hL) hL fun z=>I.ok.exfs L z hL
      exact ⟨hk,⟨L,_,hf,hn,e,hd⟩,ih (fun b hb=>hs b (by unfold frs; rw [List.filterMap_cons,hf]; exact List.mem_cons_of_mem _ hb)) hr⟩
  exact all X.outer (fun _ hb=>hb) I.ok.CT
theorem Inv.stack (I:Inv X pins σ H s):s.heap.FunFrames X.base X.stack:=by
  rcases I.ok.stk with e | ⟨e,hf⟩
  · rw [e]; exact I.CT
  · rw [e]
    obtain ⟨m,hn,_⟩:=I.loc
    refine .cons (by rw [I.ok.kind]; decide) hf hn ?_ I.CT
    exact Heap.get?_none_of_le (Nat.le_trans I.ok.bsz I.ok.above)
theorem Inv.abS (I:Inv X pins σ H s):∀ b ∈ frs X.stack,b ∈ X.env.locals :: X.fs:=fun b hb=>by
  rcases I.ok.stk with e | ⟨e,hf⟩
  · rw [e] at hb; exact List.mem_cons_of_mem _ hb
  · rw [e] at hb
    unfold frs at hb
    rw [List.filterMap_cons,hf] at hb
    exact hb
theorem Inv.acp (I:Inv X pins σ H s):∀ b ∈ frs X.stack,H b = none:=fun b hb=>by
  rcases List.mem_cons.mp (I.abS b hb) with e | hb
  · rw [e]; exact I.free
  · obtain ⟨_,o,ho,_⟩:=I.ok.CT.mem hb
    exact I.base.free b o ho (I.ok.frf b hb) fun z=>I.ok.exfs b z hb
theorem Inv.step {g':Array GenState} {t':Nat} {d':Drawn} {ch:List Addr} (I:Inv X pins σ H s)
    (hch:∀ b ∈ ch,(b ∈ X.ex ∨ X.s₀.heap.objs.size ≤ b)∧b ≠ X.env.locals∧(∀ x c,X.env.cells.lookup x = some c→c ≠ b)∧∀ p ∈ X.pn ++ pins,p.1 ≠ b)
    (keep:∀ b o,b ≠ X.env.locals→b ∉ X.fs→b ∉ ch→s.heap.get? b = some o→H b = none→h'.get? b = some o)
    (slot:∀ b o,b ≠ X.env.locals→b ∈ X.fs→b ∉ ch→s.heap.get? b = some o→H b = none→∃ sl,h'.get? b = some { o with slots:=sl }) (free:∀ b o,b ∉ ch→s.heap.get? b = some o→H b = none→H' b = none)
    (there:∀ b o,b ∉ ch→s.heap.get? b = some o→∃ o',h'.get? b = some o')
    (tups:∀ b xs,H b = some (.tup xs)→H' b = some (.tup xs)) (Bl:∀ b o u,H b = some (.frz o u)→H' b = some (.frz o u)) (Ds:∀ b ps,H b = some (.tbl ps)→∃ more,H' b = some (.tbl (ps ++ more)))
    (ns:∀ m,s.heap.Ns X.env.locals m→h'.Ns X.env.locals m) (hok:HOk X.prog X.w H' h') (hg:AllBare g') :
    Inv X pins σ H' { s with heap:=h',gens:=g',drawn:=d',toks:=t' }:=by
  have neL:∀ b o,X.s₀.heap.get? b = some o→b ≠ X.env.locals:=fun b o e=>Nat.ne_of_lt (Nat.lt_of_lt_of_le (Heap.lt_size e) I.ok.above)
  have neC:∀ b o,X.s₀.heap.get? b = some o→b ∉ X.ex→b ∉ ch:=fun b o e hx hb=>by
    rcases (hch b hb).1 with z | z
    · exact hx z
    · exact absurd (Nat.lt_of_lt_of_le (Heap.lt_size e) z) (Nat.lt_irrefl _)
  have cellK:∀ x c,X.env.cells.lookup x = some c→∀ v,s.heap.IsCell c v→h'.IsCell c v:=fun x c e v ⟨o,ho,hd⟩=>by
    have nch:c ∉ ch:=fun z=>(hch c z).2.2.1 x c e rfl
    by_cases hc:c ∈ X.fs
    · obtain ⟨sl,q⟩:=slot c o (I.cne x c e) hc nch ho (I.yZ x c e)
      exact ⟨_,q,hd⟩
    · exact ⟨o,keep c o (I.cne x c e) hc nch ho (I.yZ x c e),hd⟩
  refine ⟨I.ok,I.os,hg,⟨fun b o e n hb hx=>?_,fun b o e n hb hx=>?_,fun b o e n hx=>?_,fun b o e hx=>?_,fun b xs e=>tups b xs (I.base.tups b xs e),fun b o xs e=>Bl b o xs (I.base.Bl b o xs e),fun b ps e=>?_⟩,?_,fun x c e=>?_,?_,fun x c e=>?_,fun p hp=>?_,hok,I.len⟩
  · exact keep b o (neL b o e) hb (neC b o e hx) (I.base.keep b o e n hb hx) (I.base.free b o e n hx)
  · obtain ⟨sl,e1⟩:=I.base.slot b o e n hb hx
    obtain ⟨sl',e2⟩:=slot b _ (neL b o e) hb (neC b o e hx) e1 (I.base.free b o e n hx)
    exact ⟨sl',e2⟩
  · obtain ⟨o',e1⟩:=I.base.there b o e hx
    exact free b o' (neC b o e hx) e1 (I.base.free b o e n hx)
  · obtain ⟨o',e1⟩:=I.base.there b o e hx
    exact there b o' (neC b o e hx) e1
  · obtain ⟨m1,e1⟩:=I.base.Ds b ps e
    obtain ⟨m2,e2⟩:=Ds b _ e1
    exact ⟨m1 ++ m2,by rw [e2,Array.append_assoc]⟩
  · obtain ⟨m,hn,hl⟩:=I.loc
    refine ⟨m,ns m hn,fun i x v e1 e2 e3=>?_⟩
    obtain ⟨u,r,l⟩:=hl i x v e1 e2 e3
    refine ⟨u,r,?_⟩
    rcases l with l | ⟨k,c,e,z⟩
    · exact .inl l
    · exact .inr ⟨k,c,e,cellK x c e _ z⟩
  · obtain ⟨v,z⟩:=I.cell x c e
    exact ⟨v,cellK x c e v z⟩
  · obtain ⟨m,⟨o,_,_,ho,_⟩,_⟩:=I.loc
    exact free _ o (fun z=>(hch _ z).2.1 rfl) ho I.free
  · obtain ⟨v,o,ho,hd⟩:=I.cell x c e
    exact free c o (fun z=>(hch c z).2.2.1 x c e rfl) ho (I.yZ x c e)
  · obtain ⟨e,n,ne,nf,d⟩:=I.pin p hp
    have nch:p.1 ∉ ch:=fun z=>(hch p.1 z).2.2.2 p hp rfl
    exact ⟨keep p.1 p.2 ne nf nch e n,free p.1 p.2 nch e n,ne,nf,d⟩
theorem Inv.un {t':Nat} (I:Inv X pins σ H s) (u:Un X.fs [] H H' s.heap h') (hok:HOk X.prog X.w H' h'):Inv X pins σ H' { s with heap:=h',toks:=t' }:=by
  obtain ⟨m,⟨o,es,ep,ho,r⟩,_⟩:=id I.loc
  obtain ⟨sl,hL⟩:=u.any ho I.free (by simp)
  exact I.step (g':=s.gens) (d':=s.drawn) (ch:=[]) (fun _ z=>nomatch z) (fun b o _ hb _ e n=>u.keep b o e n hb (by simp)) (fun b o _ hb _ e n=>u.slot b o e n hb (by simp)) (fun b o _ e n=>u.free b o e n (by simp)) (fun b o _ e=>u.there b o e (by simp)) u.tups u.Bl u.Ds (fun m' hm=>by
    obtain ⟨o',es',ep',ho',r'⟩:=hm
    rw [ho] at ho'; cases ho'
    exact ⟨_,es',ep',hL,r'⟩) hok I.bare
theorem Inv.call {g':Array GenState} {t':Nat} {d':Drawn} {ch:List Addr} (I:Inv X pins σ H s) (u:Un (frs X.stack) ch H H' s.heap h') (hok:HOk X.prog X.w H' h') (hg:AllBare g')
    (hch:∀ b ∈ ch,(b ∈ X.ex ∨ X.s₀.heap.objs.size ≤ b)∧b ≠ X.env.locals∧(∀ x c,X.env.cells.lookup x = some c→c ≠ b)∧∀ p ∈ X.pn ++ pins,p.1 ≠ b) :
    Inv X pins σ H' { s with heap:=h',gens:=g',drawn:=d',toks:=t' }:=by
  obtain ⟨m,⟨o,es,ep,ho,r⟩,_⟩:=id I.loc
  obtain ⟨sl,hL⟩:=u.any ho I.free fun z=>(hch _ z).2.1 rfl
  exact I.step (ch:=ch) hch (fun b o hL hb hc e n=>u.keep b o e n (fun z=>(List.mem_cons.mp (I.abS b z)).elim hL hb) hc) (fun b o _ _ hc e n=>u.any e n hc) (fun b o hc e n=>u.free b o e n hc) (fun b o hc e=>u.there b o e hc) u.tups u.Bl u.Ds (fun m' hm=>by
    obtain ⟨o',es',ep',ho',r'⟩:=hm
    rw [ho] at ho'; cases ho'
    exact ⟨_,es',ep',hL,r'⟩) hok hg
theorem Inv.turned {t':Nat} {it:Addr} (I:Inv X pins σ H s) (k:∀ b o,b ≠ it→s.heap.get? b = some o→h'.get? b = some o) (hn:H it = none) (hL:it ≠ X.env.locals)
    (h1:it ∈ X.ex ∨ X.s₀.heap.objs.size ≤ it) (h2:∀ x c,X.env.cells.lookup x = some c→c ≠ it) (h3:∀ p ∈ X.pn ++ pins,p.1 ≠ it):Inv X pins σ H { s with heap:=h',toks:=t' }:=by
  have nit:∀ b u,H b = some u→b ≠ it:=fun b u e z=>by rw [z,hn] at e; cases e
  refine I.step (g':=s.gens) (d':=s.drawn) (ch:=[it]) (fun b hb=>?_) (fun b o _ _ hc e _=>k b o (fun z=>hc (by simp [z])) e) (fun b o _ _ hc e _=>⟨o.slots,k b o (fun z=>hc (by simp [z])) e⟩) (fun _ _ _ _ n=>n)
    (fun b o hc e=>⟨o,k b o (fun z=>hc (by simp [z])) e⟩) (fun _ _ e=>e) (fun _ _ _ e=>e) (fun b ps e=>⟨#[],by rw [e]; simp⟩) (fun m hm=>?_) (fun b u e=>?_) I.bare
  · have e:b = it:=by simpa using hb
    subst e
    exact ⟨h1,hL,h2,h3⟩
  · obtain ⟨o,es,ep,ho,r⟩:=hm
    exact ⟨o,es,ep,k _ o (Ne.symm hL) ho,r⟩
  · refine (I.hok b u e).stay (fun c v hc q=>k c v ?_ q) (fun _ q=>q) fun _ _ q=>q
    rcases hc with z | z
    · rw [z]; exact nit b u e
    · exact nit c _ z
theorem Inv.tok (I:Inv X pins σ H s) (t:Nat):Inv X pins σ H { s with toks:=t }:=I.un (h':=s.heap) (t':=t) Un.refl I.hok
theorem Inv.kept {t':Nat} (I:Inv X pins σ H s) (k:∀ b u,s.heap.get? b = some u→h'.get? b = some u):Inv X pins σ H { s with heap:=h',toks:=t' }:=I.un (Un.kept k) (I.hok.kept k)
theorem Inv.laid {a:Addr} {o:HO} {t':Nat} (I:Inv X pins σ H s) (k:∀ b u,s.heap.get? b = some u→h'.get? b = some u) (hp:s.heap.objs.size ≤ a) (new:cU X.prog X.w (upd H a o) h' a o) :
    Inv X pins σ (upd H a o) { s with heap:=h',toks:=t' }:=I.un (Un.laid k hp (I.hok.fresh hp)) (I.hok.laid k hp new)
theorem Inv.write {x e:Addr} {o:HO} {t':Nat} (I:Inv X pins σ H s) (mu:Mut (H x)) (he:e = x ∨ H e = some (.own x)) (k:∀ b u,b ≠ e→s.heap.get? b = some u→h'.get? b = some u) (heo:∃ u,h'.get? e = some u)
    (new:cU X.prog X.w (upd H x o) h' x o):Inv X pins σ (upd H x o) { s with heap:=h',toks:=t' }:=I.un (Un.write mu he k heo) (I.hok.write mu he k heo new)
theorem Inv.acj {pins':List (Addr × Obj)} (I:Inv X pins σ H s) (h:∀ p ∈ pins',s.heap.get? p.1 = some p.2∧H p.1 = none∧p.1 ≠ X.env.locals∧p.1 ∉ X.fs∧∀ v,p.2.data ≠ .cell v):Inv X pins' σ H s :=
  ⟨I.ok,I.os,I.bare,I.base,I.loc,I.cell,I.free,I.yZ,fun p hp=>(List.mem_append.mp hp).elim (fun z=>I.pin p (List.mem_append_left _ z)) (h p),I.hok,I.len⟩
theorem Zo {N:List Str} (hN:N.Nodup) {i j:Nat} {x:Str} (a:N[i]? = some x) (b:N[j]? = some x):i = j:=by
  obtain ⟨h1,e1⟩:=List.getElem?_eq_some_iff.mp a
  obtain ⟨h2,e2⟩:=List.getElem?_eq_some_iff.mp b
  exact (List.getElem_inj hN).mp (e1.trans e2.symm)
theorem QV {M:Model} {A:Around} {E:Value→Shared→Prop} {i:Nat} {x:Str} {v:V} {u:Value} {Q:Unit→Shared→Prop} (I:Inv X pins σ H s) (hN:X.N.Nodup) (hi:X.N[i]? = some x) (hx:Loc X.env.scope x) (r:RelV v u)
    (h:∀ s',Inv X pins (σ.set i (some v)) H s'→(∃ a,Heap.SameBut a s.heap s'.heap∧(a = X.env.locals ∨ X.env.cells.lookup x = some a))→Q () s') (hf:X.fn x = true ∨ X.env.scope.names.lookup x = some .local:=by first | exact .inl rfl | exact .inr rfl | assumption):wpAny M A (storeName X.env x u) Q E s:=by
  obtain ⟨m,hn,hl⟩:=id I.loc
  have hcls:(X.env.scope.kind == .class || (X.env.scope.kind == .module && X.env.locals != X.env.globals)) = false:=by rw [I.ok.kind]; rfl
  have hiσ:i < σ.length:=by rw [I.len]; exact (List.getElem?_eq_some_iff.mp hi).1
  have cne:=I.cne
  have tracked:∀ {a:Addr} {h':Heap},(∃ o,s.heap.get? a = some o∧H a = none)→Heap.SameBut a s.heap h'→HOk X.prog X.w H h':=fun {a h'} ha hs b ob e=>by
    obtain ⟨_,_,hfree⟩:=ha
    refine (I.hok b ob e).stay (fun c w' hc q=>(hs.2 c ?_).trans q) (fun _ q=>q) fun _ _ q=>q
    rintro rfl
    rcases hc with rfl | hc
    · rw [hfree] at e; cases e
    · rw [hfree] at hc; cases hc
  rcases hx with hk | hk
  · refine wpAny_storeName_local hk hn (fun h' hn' hs=>?_) hcls
    obtain ⟨oL,_,_,hoL,_⟩:=id hn
    refine h _ ⟨I.ok,I.os,I.bare,⟨fun b o e n hb hx=>?_,fun b o e n hb hx=>?_,I.base.free,fun b o e hx=>?_,I.base.tups,I.base.Bl,I.base.Ds⟩,⟨_,hn',fun j y v' e1 e2 e3=>?_⟩,fun y c e=>?_,I.free,I.yZ,fun p hp=>?_,tracked ⟨oL,hoL,I.free⟩ hs,by simpa using I.len⟩ ⟨_,hs,.inl rfl⟩
    · exact (hs.2 b (Nat.ne_of_lt (Nat.lt_of_lt_of_le (Heap.lt_size e) I.ok.above))).trans (I.base.keep b o e n hb hx)
    · obtain ⟨sl,e1⟩:=I.base.slot b o e n hb hx
      exact ⟨sl,(hs.2 b (Nat.ne_of_lt (Nat.lt_of_lt_of_le (Heap.lt_size e) I.ok.above))).trans e1⟩
    · obtain ⟨o',e1⟩:=I.base.there b o e hx
      exact ⟨o',(hs.2 b (Nat.ne_of_lt (Nat.lt_of_lt_of_le (Heap.lt_size e) I.ok.above))).trans e1⟩
    · by_cases hj:j = i
      · subst hj
        rw [hi] at e1; cases e1
        rw [List.getElem?_set_self hiσ] at e2
        cases e2
        exact ⟨u,r,.inl ⟨hk,by simp⟩⟩
      · rw [List.getElem?_set_ne (Ne.symm hj)] at e2
        obtain ⟨u',r',q⟩:=hl j y v' e1 e2 e3
        refine ⟨u',r',?_⟩
        rcases q with ⟨k,e⟩ | ⟨k,c,e,z⟩
        · refine .inl ⟨k,?_⟩
          have:y ≠ x:=fun e=>hj (Zo hN e1 (e ▸ hi))
          simp [this,e]
        · exact .inr ⟨k,c,e,z.sameBut hs (cne y c e)⟩
    · obtain ⟨w',z⟩:=I.cell y c e
      exact ⟨w',z.sameBut hs (cne y c e)⟩
    · obtain ⟨e,n,ne,nf,d⟩:=I.pin p hp
      exact ⟨(hs.2 p.1 ne).trans e,n,ne,nf,d⟩
  · have hfn:X.fn x = true:=by
      rcases hf with z | z
      · exact z
      · rw [z] at hk; cases hk
    obtain ⟨c,hc⟩:=I.ok.has x (.inl hk)
    obtain ⟨w',z⟩:=I.cell x c hc
    refine wpAny_storeName_cell I.ok.kind hk hc z (fun h' hc' hs=>?_)
    obtain ⟨oc,hoc,hocd⟩:=id z
    refine h { s with heap:=h' } ⟨I.ok,I.os,I.bare,⟨fun b o e n hb hx=>?_,fun b o e n hb hx=>?_,I.base.free,fun b o e hx=>?_,I.base.tups,I.base.Bl,I.base.Ds⟩,⟨m,hn.sameBut hs (Ne.symm (cne x c hc)),fun j y v' e1 e2 e3=>?_⟩,fun y c' e=>?_,I.free,I.yZ,fun p hp=>?_,tracked ⟨oc,hoc,I.yZ x c hc⟩ hs,by simpa using I.len⟩ ⟨c,hs,.inr hc⟩
    · exact (hs.2 b (Nat.ne_of_lt (Nat.lt_of_lt_of_le (Heap.lt_size e) (I.ok.cab x c hfn hc)))).trans (I.base.keep b o e n hb hx)
    · obtain ⟨sl,e1⟩:=I.base.slot b o e n hb hx
      exact ⟨sl,(hs.2 b (Nat.ne_of_lt (Nat.lt_of_lt_of_le (Heap.lt_size e) (I.ok.cab x c hfn hc)))).trans e1⟩
    · obtain ⟨o',e1⟩:=I.base.there b o e hx
      exact ⟨o',(hs.2 b (Nat.ne_of_lt (Nat.lt_of_lt_of_le (Heap.lt_size e) (I.ok.cab x c hfn hc)))).trans e1⟩
    · by_cases hj:j = i
      · subst hj
        rw [hi] at e1; cases e1
        rw [List.getElem?_set_self hiσ] at e2
        cases e2
        exact ⟨u,r,.inr ⟨.inl hk,c,hc,hc'⟩⟩
      · rw [List.getElem?_set_ne (Ne.symm hj)] at e2
        obtain ⟨u',r',q⟩:=hl j y v' e1 e2 e3
        refine ⟨u',r',?_⟩
        rcases q with q | ⟨k,c',e,z'⟩
        · exact .inl q
        · refine .inr ⟨k,c',e,z'.sameBut hs ?_⟩
          rintro rfl
          exact hj (Zo hN e1 (I.ok.inj _ _ _ e hc ▸ hi))
    · by_cases hcc:c' = c
      · subst hcc; exact ⟨_,hc'⟩
      · obtain ⟨w2,z2⟩:=I.cell y c' e
        exact ⟨w2,z2.sameBut hs hcc⟩
    · obtain ⟨e,n,ne,nf,d⟩:=I.pin p hp
      refine ⟨(hs.2 p.1 ?_).trans e,n,ne,nf,d⟩
      intro q
      rw [q,hoc] at e
      have q':oc = p.2:=Option.some.inj e
      exact d w' (by rw [← q']; exact hocd)
theorem Z7 {M:Model} {A:Around} {E:Value→Shared→Prop} {i:Nat} {x:Str} {v:V} {u:Value} {Q:Unit→Shared→Prop} (I:Inv X pins σ H s) (hN:X.N.Nodup) (hi:X.N[i]? = some x) (hx:Loc X.env.scope x) (r:RelV v u)
    (h:∀ s',Inv X pins (σ.set i (some v)) H s'→Q () s') (hf:X.fn x = true ∨ X.env.scope.names.lookup x = some .local:=by first | exact .inl rfl | exact .inr rfl | assumption):wpAny M A (storeName X.env x u) Q E s :=
  QV I hN hi hx r (fun s' I' _=>h s' I') hf
theorem Inv.call' {s':Shared} {ch:List Addr} (I:Inv X pins σ H s) (ho:s'.os = s.os) (u:Un (frs X.stack) ch H H' s.heap s'.heap) (hok:HOk X.prog X.w H' s'.heap) (hg:AllBare s'.gens)
    (hch:∀ b ∈ ch,(b ∈ X.ex ∨ X.s₀.heap.objs.size ≤ b)∧b ≠ X.env.locals∧(∀ x c,X.env.cells.lookup x = some c→c ≠ b)∧∀ p ∈ X.pn ++ pins,p.1 ≠ b):Inv X pins σ H' s':=by
  obtain ⟨h',g',d',t',o'⟩:=s'
  have e:o' = s.os:=ho
  subst e
  exact I.call (g':=g') (t':=t') (d':=d') u hok hg hch
end
abbrev XK:=Value→Option Addr→Hp→Prop
abbrev St:=List (Option V)
abbrev VK:=V→Hp→Prop
abbrev TE:=St→Hp→VK→Prop
abbrev TT:=St→Hp→(Bool→Hp→Prop)→Prop
abbrev TA:=St→Hp→(List V→Hp→Prop)→Prop
structure Ends where
  nx:St→Hp→Prop
  rt:VK
  bk:St→Hp→Prop:=fun _ _=>False
  ct:St→Hp→Prop:=fun _ _=>False
abbrev TS:=Ends→St→Hp→Prop
def EP (X:Cx) (pins:List (Addr × Obj)) (σ:St) (Q:VK) (u:Value) (s':Shared):Prop:=∃ v H',Inv X pins σ H' s'∧RelV v u∧Q v H'
def TP (X:Cx) (pins:List (Addr × Obj)) (σ:St) (Q:Bool→Hp→Prop) (b:Bool) (s':Shared):Prop:=∃ H',Inv X pins σ H' s'∧Q b H'
def AP (X:Cx) (pins:List (Addr × Obj)) (σ:St) (Q:List V→Hp→Prop) (us:List Value) (s':Shared):Prop:=∃ vs H',Inv X pins σ H' s'∧Vals vs us∧Q vs H'
def SP (X:Cx) (pins:List (Addr × Obj)) (D:Ends) (f:Flow) (s':Shared):Prop :=
  match f with
  | .next=>∃ σ' H',Inv X pins σ' H' s'∧D.nx σ' H'
  | .brk=>∃ σ' H',Inv X pins σ' H' s'∧D.bk σ' H'
  | .cont=>∃ σ' H',Inv X pins σ' H' s'∧D.ct σ' H'
  | .ret u=>∃ v σ' H',Inv X pins σ' H' s'∧RelV v u∧D.rt v H'
def PE (X:Cx) (e:Expr) (t:TE):Prop :=
  ∀ (pins:List (Addr × Obj)) (s:Shared) (σ:St) (H:Hp) (Q:VK),Inv X pins σ H s→t σ H Q→wpAny (model X.prog X.w) X.A (eval e X.env) (EP X pins σ Q) X.xe s
def PT (X:Cx) (e:Expr) (t:TT):Prop :=
  ∀ (pins:List (Addr × Obj)) (s:Shared) (σ:St) (H:Hp) (Q:Bool→Hp→Prop),Inv X pins σ H s→t σ H Q→wpAny (model X.prog X.w) X.A (isTrue e X.env (eval e X.env)) (TP X pins σ Q) X.xe s
def PW (X:Cx) (e:Expr) (t:TT):Prop :=
  ∀ (whole:Sem Value) (pins:List (Addr × Obj)) (s:Shared) (σ:St) (H:Hp) (Q:Bool→Hp→Prop),Inv X pins σ H s→t σ H Q→wpAny (model X.prog X.w) X.A (isTrue e X.env whole) (TP X pins σ Q) X.xe s
theorem PW.pt {X:Cx} {e:Expr} {t:TT} (h:PW X e t):PT X e t:=h _
def PA (X:Cx) (es:List Expr) (t:TA):Prop :=
  ∀ (pos:Pos) (pins:List (Addr × Obj)) (s:Shared) (σ:St) (H:Hp) (Q:List V→Hp→Prop),Inv X pins σ H s→t σ H Q→wpAny (model X.prog X.w) X.A (spliced (backTo pos (starEach es X.env))) (AP X pins σ Q) X.xe s
def PS (X:Cx) (st:Stmt) (t:TS):Prop :=
  ∀ (pins:List (Addr × Obj)) (s:Shared) (σ:St) (H:Hp) (D:Ends),Inv X pins σ H s→t D σ H→wpAny (model X.prog X.w) X.A (exec st X.env) (SP X pins D) X.xe s
def PSs (X:Cx) (st:List Stmt) (t:TS):Prop :=
  ∀ (pins:List (Addr × Obj)) (s:Shared) (σ:St) (H:Hp) (D:Ends),Inv X pins σ H s→t D σ H→wpAny (model X.prog X.w) X.A (execs st X.env) (SP X pins D) X.xe s
theorem thn {α:Type} {t:Sem α} {Q Q':α→Shared→Prop} {M:Model} {A:Around} {E:Value→Shared→Prop} {s:Shared} (h:wpAny M A t Q E s) (hQ:∀ a s,Q a s→Q' a s):wpAny M A t Q' E s:=wpAny_mono h hQ fun _ _ x=>x
end L2
namespace L2
open PySem PySem.Spec PyProof.Rows
section
variable {X:Cx}
def vq (i:Nat):TE:=fun σ H Q=>∃ v,σ[i]? = some (some v)∧Q v H
def tC (v:V):TE:=fun _ H Q=>Q v H
theorem pe_var {i:Nat} {x:Str} {pos:Pos} (hN:X.N[i]? = some x) (hv:Vis X.env.scope x) (hd:(x == ("__debug__":Str)) = false:=by decide) (hcd:(x == ("__classdict__":Str)) = false:=by decide):PE X (.Name x pos) (vq i):=by
  intro pins s σ H Q I h
  obtain ⟨v,e,h⟩:=h
  obtain ⟨m,hn,hl⟩:=I.loc
  obtain ⟨u,r,l⟩:=hl i x v hN e hv
  have fin:EP X pins σ Q u s:=⟨v,H,I,r,h⟩
  rcases l with ⟨hk,hm⟩ | ⟨hk,c,hc,hcell⟩
  · exact wpAny_Name (wpAny_loadName_local I.ok.kind hk hn hm fin) hd
  · rcases hk with hk | hk
    · exact wpAny_Name (wpAny_loadName_cell I.ok.kind hk hc hcell fin) hd
    · exact wpAny_Name (wpAny_loadName_free I.ok.kind hk hc hcell fin hcd) hd
theorem pe_int {i j pos}:PE X (.Constant (.int i) j pos) (tC (.int i)):=fun _ _ _ H _ I h=>wpAny_Constant_int ⟨.int i,H,I.tok _,⟨_,rfl⟩,h⟩
theorem pe_bl {b j pos}:PE X (.Constant (.bool b) j pos) (tC (.bl b)):=fun _ _ _ H _ I h=>Constant_bool ⟨.bl b,H,I,rfl,h⟩
theorem abw {j pos}:PE X (.Constant .none j pos) (tC .non):=fun _ _ _ H _ I h=>Constant_none ⟨.non,H,I,rfl,h⟩
theorem pe_str {x j pos}:PE X (.Constant (.str x) j pos) (tC (.str x)):=fun _ _ _ H _ I h=>Calls.Constant_str ⟨.str x,H,I.tok _,⟨_,rfl⟩,h⟩
def Gl (X:Cx) (x:Str):Prop:=X.env.kindOf x = some .globalImplicit
theorem Bt {E:Value→Shared→Prop} {pins:List (Addr × Obj)} {s:Shared} {σ:St} {H:Hp} {x:Str} {u:Value} {pos:Pos} {Q:Value→Shared→Prop} (I:Inv X pins σ H s) (hg:Gl X x) (hm:X.mg x = some u) (h:Q u s)
    (hd:(x == ("__debug__":Str)) = false:=by decide):wpAny (model X.prog X.w) X.A (eval (.Name x pos) X.env) Q E s :=
  Calls.Name_function_global I.ok.kind hg (Calls.loadGlobal_global (by rw [I.ok.glob]; exact I.mod.glob.keeps I.bk) hm h) hd
theorem J4 {E:Value→Shared→Prop} {pins:List (Addr × Obj)} {s:Shared} {σ:St} {H:Hp} {x:Str} {u:Value} {pos:Pos} {Q:Value→Shared→Prop} (I:Inv X pins σ H s) (hg:Gl X x) (hm:X.mg x = none) (hv:bootBuiltins x = some u) (h:Q u s)
    (hn:x ≠ "__name__":=by decide) (hd:(x == ("__debug__":Str)) = false:=by decide):wpAny (model X.prog X.w) X.A (eval (.Name x pos) X.env) Q E s:=by
  obtain ⟨mb,h1,h2⟩:=I.mod.blt
  exact Calls.Name_function_global I.ok.kind hg (Calls.loadGlobal_builtin (by rw [I.ok.glob]; exact I.mod.glob.keeps I.bk) hm (by rw [I.ok.blt]; exact h1.keeps I.bk) ((h2 x hn).trans hv) h) hd
theorem Ht {x:Str} {v:V} {u:Value} {pos:Pos} (hg:Gl X x) (hm:X.mg x = some u) (r:RelV v u) (hd:(x == ("__debug__":Str)) = false:=by decide):PE X (.Name x pos) (tC v) :=
  fun _ _ _ H _ I h=>Bt I hg hm ⟨v,H,I,r,h⟩ hd
theorem nM {x:Str} {v:V} {u:Value} {pos:Pos} (hg:Gl X x) (hm:X.mg x = none) (hv:bootBuiltins x = some u) (r:RelV v u) (hn:x ≠ "__name__":=by decide) (hd:(x == ("__debug__":Str)) = false:=by decide):PE X (.Name x pos) (tC v) :=
  fun _ _ _ H _ I h=>J4 I hg hm hv ⟨v,H,I,r,h⟩ hn hd
variable {a b:Expr} {ta tb:TE} {pos:Pos}
def PC (X:Cx) (op:CmpOp) (a b:Expr) (t:TE):Prop :=
  ∀ (pins:List (Addr × Obj)) (s:Shared) (σ:St) (H:Hp) (Q:VK),Inv X pins σ H s→t σ H Q →
    wpAny (model X.prog X.w) X.A (eval a X.env) (fun v s₁=>wpAny (model X.prog X.w) X.A (eval b X.env) (fun u s₂=>wpAny (model X.prog X.w) X.A (compareOp op v u) (EP X pins σ Q) X.xe s₂) X.xe s₁) X.xe s
theorem nobehind (b:Expr) {op:CmpOp} (h:op ≠ .In) (h2:op ≠ .NotIn):behindInMarks op b = false:=by
  have e1:(op == CmpOp.In) = false:=by cases op <;> first | rfl | exact absurd rfl h
  have e2:(op == CmpOp.NotIn) = false:=by cases op <;> first | rfl | exact absurd rfl h2
  cases b <;> simp [behindInMarks,e1,e2]
def tB (t:TE):TT:=fun σ H Q=>t σ H fun x H1=>∃ c,x = .bl c∧Q c H1
theorem pt_cmp {op:CmpOp} {t:TE} (h:PC X op a b t) (h1:behindInMarks op b = false:=by first | exact nobehind _ (by decide) (by decide) | rfl):PT X (.Compare a [op] [b] pos) (tB t):=by
  intro pins s σ H Q I hw
  refine wpAny_isTrue_Compare1 (thn (h pins s σ H _ I hw) fun v s1 h1=>thn h1 fun u s2 h2=>thn h2 fun c s3 ⟨x,H1,I1,r1,q1⟩=>?_) h1
  obtain ⟨d,rfl,q⟩:=q1
  cases r1
  exact wpAny_truthy_bool ⟨H1,I1,q⟩
variable {tA tB':TT} {rest:List Expr}
def tAnd (t u:TT):TT:=fun σ H Q=>t σ H fun c H1=>if c = true then u σ H1 Q else Q false H1
def tOr (t u:TT):TT:=fun σ H Q=>t σ H fun c H1=>if c = true then Q true H1 else u σ H1 Q
def tNot (t:TT):TT:=fun σ H Q=>t σ H fun c H1=>Q (!c) H1
theorem pw_and1 (ha:PT X a tA):PW X (.BoolOp .And [a] pos) tA:=by
  intro wh pins s σ H Q I h
  refine isTrue_and (thn (ha pins s σ H Q I h) fun c s1 e=>?_)
  cases c with
  | true=>exact isTrue_and_nil e
  | false=>exact e
theorem pw_or1 (ha:PT X a tA):PW X (.BoolOp .Or [a] pos) tA:=by
  intro wh pins s σ H Q I h
  refine isTrue_or (thn (ha pins s σ H Q I h) fun c s1 e=>?_)
  cases c with
  | false=>exact isTrue_or_nil e
  | true=>exact e
theorem pw_and (ha:PT X a tA) (hb:PW X (.BoolOp .And (b :: rest) pos) tB'):PW X (.BoolOp .And (a :: b :: rest) pos) (tAnd tA tB'):=by
  intro wh pins s σ H Q I h
  refine isTrue_and (thn (ha pins s σ H _ I h) fun c s1 ⟨H1,I1,q1⟩=>?_)
  cases c with
  | true=>exact hb wh pins s1 σ H1 Q I1 q1
  | false=>exact ⟨H1,I1,q1⟩
theorem pw_or (ha:PT X a tA) (hb:PW X (.BoolOp .Or (b :: rest) pos) tB'):PW X (.BoolOp .Or (a :: b :: rest) pos) (tOr tA tB'):=by
  intro wh pins s σ H Q I h
  refine isTrue_or (thn (ha pins s σ H _ I h) fun c s1 ⟨H1,I1,q1⟩=>?_)
  cases c with
  | true=>exact ⟨H1,I1,q1⟩
  | false=>exact hb wh pins s1 σ H1 Q I1 q1
theorem pt_not (ha:PT X a tA):PT X (.UnaryOp .Not a pos) (tNot tA):=by
  intro pins s σ H Q I h
  exact isTrue_not (ha pins s σ H (fun c H1=>Q (!c) H1) I h)
def tAndV (ta tb:TE):TE:=fun σ H Q=>ta σ H fun x H1=>∃ c,x = .bl c∧if c = true then tb σ H1 Q else Q (.bl false) H1
def tOrV (ta tb:TE):TE:=fun σ H Q=>ta σ H fun x H1=>∃ c,x = .bl c∧if c = true then Q (.bl true) H1 else tb σ H1 Q
def tNotV (ta:TE):TE:=fun σ H Q=>ta σ H fun x H1=>∃ c,x = .bl c∧Q (.bl (!c)) H1
theorem pe_one {op} {t:TE} (h:PE X a t):PE X (.BoolOp op [a] pos) t:=fun pins s σ H Q I hw=>BoolOp_one (h pins s σ H Q I hw)
theorem pe_and (ha:PE X a ta) (hb:PE X (.BoolOp .And (b :: rest) pos) tb):PE X (.BoolOp .And (a :: b :: rest) pos) (tAndV ta tb):=by
  intro pins s σ H Q I h
  refine BoolOp_and (thn (ha pins s σ H _ I h) fun v s1 ⟨x,H1,I1,r1,q1⟩=>?_)
  obtain ⟨c,rfl,q1⟩:=q1
  cases r1
  refine wpAny_truthy_bool ?_
  cases c with
  | true=>exact hb pins s1 σ H1 Q I1 q1
  | false=>exact ⟨.bl false,H1,I1,rfl,q1⟩
theorem pe_or (ha:PE X a ta) (hb:PE X (.BoolOp .Or (b :: rest) pos) tb):PE X (.BoolOp .Or (a :: b :: rest) pos) (tOrV ta tb):=by
  intro pins s σ H Q I h
  refine BoolOp_or (thn (ha pins s σ H _ I h) fun v s1 ⟨x,H1,I1,r1,q1⟩=>?_)
  obtain ⟨c,rfl,q1⟩:=q1
  cases r1
  refine wpAny_truthy_bool ?_
  cases c with
  | false=>exact hb pins s1 σ H1 Q I1 q1
  | true=>exact ⟨.bl true,H1,I1,rfl,q1⟩
theorem pe_not (ha:PE X a ta):PE X (.UnaryOp .Not a pos) (tNotV ta):=by
  intro pins s σ H Q I h
  refine UnaryOp_ (thn (ha pins s σ H _ I h) fun v s1 ⟨x,H1,I1,r1,q1⟩=>?_)
  obtain ⟨c,rfl,q1⟩:=q1
  cases r1
  exact not_of (wpAny_truthy_bool ⟨.bl (!c),H1,I1,rfl,q1⟩)
end
end L2
namespace L2
open PySem PySem.Spec PyProof.Rows
def SqL (K:PySem.W.Frag) (H:Hp) (a:Addr) (xs:List V):Prop :=
  Rd H a (.lst xs) ∨
    ∃ (o:Obj) (its:Array Value) (n:Nat),K.lookup a = some o∧o.cls = .type "list"∧o.dict = none∧o.data = .seq its n∧its.size ≤ sizeLine∧Vals xs its.toList
def SqT (K:PySem.W.Frag) (H:Hp) (a:Addr) (xs:List V):Prop :=
  Rd H a (.tup xs) ∨
    ∃ (o:Obj) (its:Array Value) (n:Nat),K.lookup a = some o∧o.cls = .type "tuple"∧o.data = .seq its n∧its.size ≤ sizeLine∧Vals xs its.toList
def absV:Value→Option V
  | .none=>some .non
  | .bool b=>some (.bl b)
  | .int i _=>some (.int i)
  | .str x _=>some (.str x)
  | .bytes b _=>some (.byt b)
  | .float b _=>some (.flt b)
  | .ref a=>some (.ref a)
  | .type n=>some (.ty n)
  | _=>none
theorem RelV.abs {x:V} {u:Value} (r:RelV x u):absV u = some x:=by
  cases x with
  | non=>cases r; rfl
  | bl _=>cases r; rfl
  | int _=>obtain ⟨t,rfl⟩:=r; rfl
  | str _=>obtain ⟨t,rfl⟩:=r; rfl
  | byt _=>obtain ⟨t,rfl⟩:=r; rfl
  | flt _=>obtain ⟨t,rfl⟩:=r; rfl
  | ref _=>cases r; rfl
  | ty _=>cases r; rfl
theorem RelV.inj {x y:V} {u:Value} (r:RelV x u) (q:RelV y u):x = y:=Option.some.inj (r.abs.symm.trans q.abs)
theorem Vals.inj:∀ {xs ys:List V} {us:List Value},Vals xs us→Vals ys us→xs = ys
  | _,_,_,.nil,.nil=>rfl
  | _,_,_,.cons r t,.cons r' t'=>by rw [r.inj r',Vals.inj t t']
section
variable {X:Cx} {pins:List (Addr × Obj)} {σ:St} {H:Hp} {s:Shared} {a:Addr} {xs ys:List V}
theorem SqL.of {K:PySem.W.Frag} (h:H a = some (.lst xs)):SqL K H a xs:=.inl (.inl h)
theorem SqT.of {K:PySem.W.Frag} (h:H a = some (.tup xs)):SqT K H a xs:=.inl (.inl h)
theorem Inv.list (I:Inv X pins σ H s) (h:SqL X.K H a xs):∃ its:List Value,Vals xs its∧PlainL s.heap a its.toArray∧xs.length ≤ sizeLine:=by
  rcases h with h | ⟨o,its,n,hk,hc,hd,hs,hz,r⟩
  · obtain ⟨z,its,n,r,e⟩:=h.ok I.hok
    exact ⟨its,r,⟨_,n,e,rfl,rfl,rfl⟩,z⟩
  · refine ⟨its.toList,r,⟨o,n,I.kIn a o hk,hc,hd,by simpa using hs⟩,?_⟩
    have e:=r.length
    simp only [Array.length_toList] at e
    omega
theorem Inv.tuple (I:Inv X pins σ H s) (h:SqT X.K H a xs):∃ its:List Value,Vals xs its∧IsTup s.heap a its.toArray∧xs.length ≤ sizeLine:=by
  rcases h with h | ⟨o,its,n,hk,hc,hs,hz,r⟩
  · obtain ⟨z,its,r,p⟩:=h.ok I.hok
    exact ⟨its,r,p,z⟩
  · refine ⟨its.toList,r,⟨o,I.kIn a o hk,hc,n,by simpa using hs⟩,?_⟩
    have e:=r.length
    simp only [Array.length_toList] at e
    omega
theorem Inv.Zj (I:Inv X pins σ H s) (h:SqL X.K H a xs) (h':SqL X.K H a ys):xs = ys:=by
  obtain ⟨its,r,⟨o,n,e,_,_,d⟩,_⟩:=I.list h
  obtain ⟨its',r',⟨o',n',e',_,_,d'⟩,_⟩:=I.list h'
  rw [e] at e'; cases e'
  rw [d] at d'
  injection d' with d1 _
  have:its = its':=by simpa using congrArg Array.toList d1
  subst this
  exact r.inj r'
theorem Inv.ac5 (I:Inv X pins σ H s) (h:SqT X.K H a xs) (h':SqT X.K H a ys):xs = ys:=by
  obtain ⟨its,r,⟨o,e,_,n,d⟩,_⟩:=I.tuple h
  obtain ⟨its',r',⟨o',e',_,n',d'⟩,_⟩:=I.tuple h'
  rw [e] at e'; cases e'
  rw [d] at d'
  injection d' with d1 _
  have:its = its':=by simpa using congrArg Array.toList d1
  subst this
  exact r.inj r'
end
abbrev Cx.wish (X:Cx) (E:Value→Shared→Prop):Cx:={ X with xe:=E }
abbrev Cx.nox (X:Cx):Cx:=X.wish fun _ _=>False
theorem Cx.Ok.wish {X:Cx} (ok:X.Ok) (E:Value→Shared→Prop):(X.wish E).Ok :=
  ⟨ok.mod,ok.kind,ok.glob,ok.blt,ok.above,ok.inj,ok.has,ok.cab,ok.hd,ok.frames,ok.stk,ok.exf,ok.bs,ok.bsz,ok.bA,ok.exfs,ok.CT,ok.frf⟩
theorem Cx.Ok.rQ {X:Cx} {E:Value→Shared→Prop} (ok:(X.wish E).Ok):X.Ok :=
  ⟨ok.mod,ok.kind,ok.glob,ok.blt,ok.above,ok.inj,ok.has,ok.cab,ok.hd,ok.frames,ok.stk,ok.exf,ok.bs,ok.bsz,ok.bA,ok.exfs,ok.CT,ok.frf⟩
section
variable {X:Cx} {pins:List (Addr × Obj)} {σ:St} {H:Hp} {s:Shared} {E:Value→Shared→Prop}
theorem Inv.wish (I:Inv X pins σ H s) (E:Value→Shared→Prop):Inv (X.wish E) pins σ H s:=⟨I.ok.wish E,I.os,I.bare,I.base,I.loc,I.cell,I.free,I.yZ,I.pin,I.hok,I.len⟩
theorem Inv.rQ (I:Inv (X.wish E) pins σ H s):Inv X pins σ H s:=⟨I.ok.rQ,I.os,I.bare,I.base,I.loc,I.cell,I.free,I.yZ,I.pin,I.hok,I.len⟩
theorem SP.rQ {D:Ends} {f:Flow} {s':Shared} (h:SP (X.wish E) pins D f s'):SP X pins D f s':=by
  cases f with
  | next=>obtain ⟨σ',H',I,q⟩:=h; exact ⟨σ',H',I.rQ,q⟩
  | brk=>obtain ⟨σ',H',I,q⟩:=h; exact ⟨σ',H',I.rQ,q⟩
  | cont=>obtain ⟨σ',H',I,q⟩:=h; exact ⟨σ',H',I.rQ,q⟩
  | ret u=>obtain ⟨v,σ',H',I,r,q⟩:=h; exact ⟨v,σ',H',I.rQ,r,q⟩
theorem PE.nox {e:Expr} {t:TE} (h:PE X.nox e t):PE X e t:=fun pins s σ H Q I hw =>
  wpAny_mono (h pins s σ H Q (I.wish _) hw) (fun _ _ ⟨v,H',I',r,q⟩=>⟨v,H',I'.rQ,r,q⟩) fun _ _ z=>False.elim z
theorem PT.nox {e:Expr} {t:TT} (h:PT X.nox e t):PT X e t:=fun pins s σ H Q I hw =>
  wpAny_mono (h pins s σ H Q (I.wish _) hw) (fun _ _ ⟨H',I',q⟩=>⟨H',I'.rQ,q⟩) fun _ _ z=>False.elim z
theorem PSs.nox {st:List Stmt} {t:TS} (h:PSs X.nox st t):PSs X st t:=fun pins s σ H D I hw =>
  wpAny_mono (h pins s σ H D (I.wish _) hw) (fun _ _ q=>q.rQ) fun _ _ z=>False.elim z
end
section
variable {X:Cx} {st:Stmt} {rest:List Stmt} {t u:TS} {e:Expr} {te:TE} {pos:Pos}
def tNext:TS:=fun D σ H=>D.nx σ H
def tSeq (t u:TS):TS:=fun D σ H=>t { D with nx:=u D } σ H
theorem pss_nil:PSs X [] tNext:=fun _ _ σ H _ I h=>wpAny_execs_nil ⟨σ,H,I,h⟩
theorem BV (h1:PS X st t) (h2:PSs X rest u):PSs X (st :: rest) (tSeq t u):=by
  intro pins s σ H D I h
  refine wpAny_execs_cons (thn (h1 pins s σ H { D with nx:=u D } I h) fun f s1 q=>?_)
  cases f with
  | next =>
    obtain ⟨σ',H',I',q⟩:=q
    exact h2 pins s1 σ' H' D I' q
  | ret v=>exact q
  | brk=>exact q
  | cont=>exact q
theorem yj (h1:PS X st t):PSs X [st] t:=by
  intro pins s σ H D I h
  refine wpAny_execs_cons (thn (h1 pins s σ H D I h) fun f s1 q=>?_)
  cases f with
  | next=>exact wpAny_execs_nil q
  | ret v=>exact q
  | brk=>exact q
  | cont=>exact q
theorem Inv.quiet {pins:List (Addr × Obj)} {σ:St} {H:Hp} {s:Shared} (I:Inv X pins σ H s):interactive X.env = false:=by simp [interactive,I.ok.kind]
def QZ (te:TE):TS:=fun D σ H=>te σ H fun _ H1=>D.nx σ H1
theorem uT (he:PE X e te) (hs:swapsWith e none pos.line X.env = pure false:=by rfl):PS X (.Expr e pos) (QZ te):=by
  intro pins s σ H D I h
  exact wpAny_Expr_any (thn (he pins s σ H _ I h) fun v s1 ⟨x,H1,I1,r1,q1⟩=>⟨σ,H1,I1,q1⟩) I.quiet hs
def tRet (te:TE):TS:=fun D σ H=>te σ H D.rt
theorem abF (he:PE X e te):PS X (.Return (some e) pos) (tRet te):=by
  intro pins s σ H D I h
  exact wpAny_Return_some (thn (he pins s σ H _ I h) fun v s1 ⟨x,H1,I1,r1,q1⟩=>⟨x,σ,H1,I1,r1,q1⟩)
def tIfS (c:TT) (t u:TS):TS:=fun D σ H=>c σ H fun b H1=>if b = true then t D σ H1 else u D σ H1
theorem ps_if {c:Expr} {a b:List Stmt} {tc:TT} (hc:PT X c tc) (ha:PSs X a t) (hb:PSs X b u):PS X (.If c a b pos) (tIfS tc t u):=by
  intro pins s σ H D I h
  refine wpAny_If (thn (hc pins s σ H _ I h) fun d s1 ⟨H1,I1,q1⟩=>?_)
  cases d with
  | true=>exact ha pins s1 σ H1 D I1 q1
  | false=>exact hb pins s1 σ H1 D I1 q1
def tNever:TS:=fun _ _ _=>False
theorem ps_never:PS X st tNever:=fun _ _ _ _ _ _ h=>h.elim
end
abbrev TG:=V→St→Hp→(St→Hp→Prop)→Prop
abbrev TGs:=List V→St→Hp→(St→Hp→Prop)→Prop
def PG (X:Cx) (target:Expr) (t:TG):Prop :=
  ∀ (pins:List (Addr × Obj)) (s:Shared) (σ:St) (H:Hp) (v:V) (u:Value) (Q:St→Hp→Prop),Inv X pins σ H s→RelV v u→t v σ H Q →
    wpAny (model X.prog X.w) X.A (assign target X.env u) (fun _ s'=>∃ σ' H',Inv X pins σ' H' s'∧Q σ' H') X.xe s
def PGs (X:Cx) (ts:List Expr) (t:TGs):Prop :=
  ∀ (pins:List (Addr × Obj)) (s:Shared) (σ:St) (H:Hp) (vs:List V) (us:List Value) (Q:St→Hp→Prop),Inv X pins σ H s→Vals vs us→t vs σ H Q →
    wpAny (model X.prog X.w) X.A (assignInOrder ((assignEach ts X.env).map (·.2)) us) (fun _ s'=>∃ σ' H',Inv X pins σ' H' s'∧Q σ' H') X.xe s
section
variable {X:Cx} {pos:Pos}
def Et (i:Nat):TG:=fun v σ H Q=>Q (σ.set i (some v)) H
theorem bj {i:Nat} {x:Str} (hN:X.N.Nodup) (hi:X.N[i]? = some x) (hx:Loc X.env.scope x) (hf:X.fn x = true ∨ X.env.scope.names.lookup x = some .local:=by first | exact .inl rfl | exact .inr rfl | assumption):PG X (.Name x pos) (Et i):=by
  intro pins s σ H v u Q I r h
  exact wpAny_assign_Name (Z7 I hN hi hx r (fun s' I'=>⟨_,H,I',h⟩) hf)
def gNil:TGs:=fun vs σ H Q=>vs = []∧Q σ H
def gCons (t:TG) (u:TGs):TGs:=fun vs σ H Q=>∃ v r,vs = v :: r∧t v σ H fun σ' H'=>u r σ' H' Q
theorem pgs_nil:PGs X [] gNil:=by
  intro pins s σ H vs us Q I r h
  obtain ⟨e,h⟩:=h
  subst e
  cases r
  exact assignInOrder_nil ⟨σ,H,I,h⟩
theorem bN {e:Expr} {es:List Expr} {t:TG} {u:TGs} (h1:PG X e t) (h2:PGs X es u)
    (hs:(assignEach (e :: es) X.env).map (·.2) = assign e X.env :: (assignEach es X.env).map (·.2):=by rfl):PGs X (e :: es) (gCons t u):=by
  intro pins s σ H vs us Q I r h
  obtain ⟨v,vr,e1,h⟩:=h
  subst e1
  cases r with
  | cons r rr =>
    rw [hs]
    refine assignInOrder_cons (thn (h1 pins s σ H _ _ _ I r h) fun _ s1 ⟨σ1,H1,I1,q1⟩=>?_)
    exact h2 pins s1 σ1 H1 _ _ Q I1 rr q1
def gTup (K:PySem.W.Frag) (n:Nat) (t:TGs):TG:=fun v σ H Q=>∃ a xs,v = .ref a∧SqT K H a xs∧xs.length = n∧t xs σ H Q
theorem xO {es:List Expr} {k:Nat} {t:TGs} {n:Nat} (hc:X.calm = true) (h:PGs X es t)
    (hn:(assignEach es X.env).length = n:=by rfl) (hst:(assignEach es X.env).findIdx? (·.1) = none:=by rfl):PG X (.Tuple es k pos) (gTup X.K n t):=by
  intro pins s σ H v u Q I r hw
  obtain ⟨a,xs,e1,hq,hl,hw⟩:=hw
  subst e1
  cases r
  obtain ⟨its,rv,ht,hz⟩:=I.tuple hq
  refine assign_Tuple_tuple (I.ok.hd hc) ht (by simp [hn,← hl,rv.length]) hst fun h' hx=>?_
  have I1:Inv X pins σ H { s with heap:=h' }:=I.kept (t':=s.toks) fun b o e=>hx b o (Nat.ne_of_lt (Heap.lt_size e)) e
  exact h pins _ σ H xs _ Q I1 (by simpa using rv) hw
def tAsg (te:TE) (g:TG):TS:=fun D σ H=>te σ H fun x H1=>g x σ H1 D.nx
theorem abD {tg e:Expr} {te:TE} {g:TG} (he:PE X e te) (hg:PG X tg g) (hs:swapsWithSole [tg] e pos.line X.env = pure false:=by rfl) (hw:swappedStores [tg] e X.env = pure none:=by rfl)
    (h1:(assignEach [tg] X.env).map (·.2) = [assign tg X.env]:=by rfl):PS X (.Assign [tg] e pos) (tAsg te g):=by
  intro pins s σ H D I h
  refine wpAny_Assign_stores (thn (he pins s σ H _ I h) fun v s1 ⟨x,H1,I1,r1,q1⟩=>?_) hs hw
  rw [h1]
  exact thn (hg pins s1 σ H1 x v _ I1 r1 q1) fun _ s2 q=>q
theorem bI {i:Nat} {x:Str} {e:Expr} {te:TE} {pos':Pos} (hN:X.N.Nodup) (hi:X.N[i]? = some x) (hx:Loc X.env.scope x) (he:PE X e te) (hs:swapsWith e (some (.Name x pos')) pos.line X.env = pure false:=by rfl) (hf:X.fn x = true ∨ X.env.scope.names.lookup x = some .local:=by first | exact .inl rfl | exact .inr rfl | assumption) :
    PS X (.Assign [.Name x pos'] e pos) (tAsg te (Et i)):=by
  intro pins s σ H D I h
  refine wpAny_Assign_Name (thn (he pins s σ H _ I h) fun v s1 ⟨y,H1,I1,r1,q1⟩=>?_) hs
  exact Z7 I1 hN hi hx r1 (fun s2 I2=>⟨_,H1,I2,q1⟩) hf
end
section
variable {X:Cx} {pos:Pos}
end
structure It where
  go:Nat→Hp→Prop
  yld:Nat→Hp→V→Hp→Prop
  stop:Nat→Hp→Prop
def Fj (X:Cx) (pins:List (Addr × Obj)) (H:Hp) (b:Addr):Prop :=
  H b = none∧b ≠ X.env.locals∧b ∉ X.fs∧(b ∈ X.ex ∨ X.s₀.heap.objs.size ≤ b)∧(∀ x c,X.env.cells.lookup x = some c→c ≠ b)∧∀ p ∈ X.pn ++ pins,p.1 ≠ b
theorem Inv.fpOk {X:Cx} {pins:List (Addr × Obj)} {σ:St} {H H':Hp} {s:Shared} {b:Addr} (I:Inv X pins σ H s) (hb:s.heap.objs.size ≤ b) (hn:H' b = none):Fj X pins H' b:=by
  refine ⟨hn,Nat.ne_of_gt (Nat.lt_of_lt_of_le I.lt hb),I.nofs hb,.inr (Nat.le_trans I.sz hb),fun x c e z=>?_,fun p hp z=>?_⟩
  · obtain ⟨v,q⟩:=I.cell x c e
    exact absurd (Nat.lt_of_lt_of_le q.lt (by rw [z]; exact hb)) (Nat.lt_irrefl _)
  · exact absurd (Nat.lt_of_lt_of_le (Heap.lt_size (I.pin p hp).1) (by rw [z]; exact hb)) (Nat.lt_irrefl _)
structure Turn (P:Program) (w:World) (K:PySem.W.Frag) (tg:Expr) (J:It) (fp:List Addr) (it:Addr) (tn:Nat→Heap→Prop):Prop where
  mem:it ∈ fp
  obj:∀ i h,tn i h→∀ b ∈ fp,∃ o,h.get? b = some o∧∀ v,o.data ≠ .cell v
  keep:∀ i h h',tn i h→(∀ b ∈ fp,∀ o,h.get? b = some o→h'.get? b = some o)→tn i h'
  item:∀ (X:Cx),X.prog = P→X.w = w→X.K = K→X.calm = true→∀ (i:Nat) (pins:List (Addr × Obj)) (s:Shared) (σ:St) (H:Hp) (E:Value→Shared→Prop),Inv X pins σ H s→(∀ b ∈ fp,Fj X pins H b)→tn i s.heap→J.go i H →
    wpAny (model P w) X.A (pyNext (.ref it)) (fun r s1=>∃ u,r = some u ∧
      wpAny (model P w) X.A (letOwnedTupleGo tg (.ref it) u) (fun _ s2=>∃ x H',Inv X pins σ H' s2∧RelV x u∧J.yld i H x H'∧tn (i + 1) s2.heap∧∀ b ∈ fp,H' b = none) E s1) E s
  done:∀ (X:Cx),X.prog = P→X.w = w→X.K = K→X.calm = true→∀ (i:Nat) (pins:List (Addr × Obj)) (s:Shared) (σ:St) (H:Hp) (E:Value→Shared→Prop),Inv X pins σ H s→(∀ b ∈ fp,Fj X pins H b)→tn i s.heap→J.stop i H →
    wpAny (model P w) X.A (pyNext (.ref it)) (fun r s1=>r = none∧Inv X pins σ H s1) E s
  self:∀ (A:Around) (i:Nat) (s:Shared) (Q:Value→Shared→Prop) (E:Value→Shared→Prop),tn i s.heap→Q (.ref it) s→wpAny (model P w) A (pyIter (.ref it)) Q E s
abbrev TI:=St→Hp→(It→Hp→Prop)→Prop
def PIE (X:Cx) (pins:List (Addr × Obj)) (σ:St) (tg:Expr) (R:It→Hp→Prop) (itv:Value) (s2:Shared):Prop :=
  ∃ (it:Addr) (fp:List Addr) (tn:Nat→Heap→Prop) (J:It) (H':Hp),itv = .ref it∧Inv X pins σ H' s2∧Turn X.prog X.w X.K tg J fp it tn∧tn 0 s2.heap∧(∀ b ∈ fp,Fj X pins H' b)∧R J H'
def PI (X:Cx) (tg iter:Expr) (wi:TI):Prop :=
  ∀ (pins:List (Addr × Obj)) (s:Shared) (σ:St) (H:Hp) (R:It→Hp→Prop),Inv X pins σ H s→wi σ H R →
    wpAny (model X.prog X.w) X.A (eval iter X.env) (fun v s1=>wpAny (model X.prog X.w) X.A (pyIter v) (PIE X pins σ tg R) X.xe s1) X.xe s
theorem Y8 {M:Model} {A:Around} {E:Value→Shared→Prop} {s:Shared} {tg:Expr} {it:Addr} {u:Value} {o:Obj} {n:String} {vs:Array Value} {Q:Unit→Shared→Prop} (ho:s.heap.get? it = some o) (hc:o.cls = .type n) (hd:o.data = .fields vs)
    (hn:["enumerate","zip","dict_itemiterator","dict_reverseitemiterator","odict_iterator","itertools.zip_longest","itertools.pairwise"].contains n = false) (hQ:Q () s):wpAny M A (letOwnedTupleGo tg (.ref it) u) Q E s:=by
  unfold letOwnedTupleGo
  cases tg <;> first
    | exact wpAny_pure hQ
    | (cases u <;> first
        | exact wpAny_pure hQ
        | (refine wpAny_bind (wpAny_load ho ?_)
           rw [hc,hd]
           show wpAny M A (if (["enumerate","zip","dict_itemiterator","dict_reverseitemiterator","odict_iterator","itertools.zip_longest","itertools.pairwise"].contains n && vs[0]? == some (rawInt _)) = true then _ else _) Q E s
           rw [if_neg (by intro h; rw [hn,Bool.false_and] at h; cases h)]
           exact wpAny_pure hQ))
def Itl (K:PySem.W.Frag) (a:Addr):It :=
  ⟨fun i H=>∃ xs x,SqL K H a xs∧xs[i]? = some x,fun i H x H'=>H' = H∧∀ xs,SqL K H a xs→xs[i]? = some x,fun i H=>∃ xs,SqL K H a xs∧xs.length ≤ i⟩
def Itt (K:PySem.W.Frag) (a:Addr):It :=
  ⟨fun i H=>∃ xs x,SqT K H a xs∧xs[i]? = some x,fun i H x H'=>H' = H∧∀ xs,SqT K H a xs→xs[i]? = some x,fun i H=>∃ xs,SqT K H a xs∧xs.length ≤ i⟩
def Itr (lo:Int) (n:Nat):It:=⟨fun i _=>i < n,fun i H x H'=>H' = H∧x = .int (lo + i),fun i _=>n ≤ i⟩
theorem ac7 {P:Program} {w:World} {K:PySem.W.Frag} {tg:Expr} (a it:Addr):Turn P w K tg (Itl K a) [it] it (fun i h=>h.IsListIter it a i) where
  mem:=by simp
  obj:=fun i h st b hb=>by
    have e:b = it:=by simpa using hb
    subst e
    obtain ⟨o,e,c,d⟩:=st
    exact ⟨o,e,fun v z=>by rw [d] at z; cases z⟩
  keep:=fun i h h' st k=>st.at fun o e=>k it (by simp) o e
  item:=by
    intro X hP hw hK hc i pins s σ H E I hf st hg
    subst hP hw hK
    obtain ⟨xs,x,hq,hx⟩:=hg
    obtain ⟨its,rv,p,hz⟩:=I.list hq
    obtain ⟨u,hu,ru⟩:=rv.get hx
    obtain ⟨f0,f1,f2,f3,f4,f5⟩:=hf it (by simp)
    refine wpAny_pyNext_list_item st p.isList (x:=u) (by simpa using hu) fun h' st' sb=>?_
    have I1:Inv X pins σ H { s with heap:=h' }:=I.turned (t':=s.toks) (fun b o hb e=>(sb.2 b hb).trans e) f0 f1 f3 f4 f5
    obtain ⟨o,e,c,d⟩:=id st'
    exact ⟨u,rfl,Y8 (s:={ s with heap:=h' }) e c d (by decide) ⟨x,H,I1,ru,⟨rfl,fun ys hy=>by rw [I.Zj hy hq]; exact hx⟩,st',fun b hb=>(hf b hb).1⟩⟩
  done:=by
    intro X hP hw hK hc i pins s σ H E I hf st hg
    subst hP hw hK
    obtain ⟨xs,hq,hx⟩:=hg
    obtain ⟨its,rv,p,hz⟩:=I.list hq
    obtain ⟨f0,f1,f2,f3,f4,f5⟩:=hf it (by simp)
    have hl:=rv.length
    exact wpAny_pyNext_list_end (I.ok.hd hc) st p.isList (by simp; omega) fun h' eb=>⟨rfl,I.turned (t':=s.toks) (fun b o hb e=>eb b o hb e) f0 f1 f3 f4 f5⟩
  self:=fun _ _ _ _ _ st h=>wpAny_pyIter_listiter st h
theorem abV {P:Program} {w:World} {K:PySem.W.Frag} {tg:Expr} (a it:Addr):Turn P w K tg (Itt K a) [it] it (fun i h=>h.IsTupleIter it a i) where
  mem:=by simp
  obj:=fun i h st b hb=>by
    have e:b = it:=by simpa using hb
    subst e
    obtain ⟨o,e,c,d⟩:=st
    exact ⟨o,e,fun v z=>by rw [d] at z; cases z⟩
  keep:=fun i h h' st k=>st.at fun o e=>k it (by simp) o e
  item:=by
    intro X hP hw hK hc i pins s σ H E I hf st hg
    subst hP hw hK
    obtain ⟨xs,x,hq,hx⟩:=hg
    obtain ⟨its,rv,p,hz⟩:=I.tuple hq
    obtain ⟨u,hu,ru⟩:=rv.get hx
    obtain ⟨f0,f1,f2,f3,f4,f5⟩:=hf it (by simp)
    refine wpAny_pyNext_tuple_item st (show s.heap.IsTuple a its.toArray from p) (x:=u) (by simpa using hu) fun h' st' sb=>?_
    have I1:Inv X pins σ H { s with heap:=h' }:=I.turned (t':=s.toks) (fun b o hb e=>(sb.2 b hb).trans e) f0 f1 f3 f4 f5
    obtain ⟨o,e,c,d⟩:=id st'
    exact ⟨u,rfl,Y8 (s:={ s with heap:=h' }) e c d (by decide) ⟨x,H,I1,ru,⟨rfl,fun ys hy=>by rw [I.ac5 hy hq]; exact hx⟩,st',fun b hb=>(hf b hb).1⟩⟩
  done:=by
    intro X hP hw hK hc i pins s σ H E I hf st hg
    subst hP hw hK
    obtain ⟨xs,hq,hx⟩:=hg
    obtain ⟨its,rv,p,hz⟩:=I.tuple hq
    obtain ⟨f0,f1,f2,f3,f4,f5⟩:=hf it (by simp)
    have hl:=rv.length
    exact wpAny_pyNext_tuple_end (I.ok.hd hc) st (show s.heap.IsTuple a its.toArray from p) (by simp; omega) fun h' eb=>⟨rfl,I.turned (t':=s.toks) (fun b o hb e=>eb b o hb e) f0 f1 f3 f4 f5⟩
  self:=fun _ _ _ _ _ st h=>wpAny_pyIter_tupleiter st h
theorem abU {P:Program} {w:World} {K:PySem.W.Frag} {tg:Expr} (it:Addr) (lo:Int) (n:Nat):Turn P w K tg (Itr lo n) [it] it (fun i h=>IsRangeIter h it (lo + (i:Nat) * 1) ((n:Int) - (i:Nat)) 1) where
  mem:=by simp
  obj:=fun i h st b hb=>by
    have e:b = it:=by simpa using hb
    subst e
    exact ⟨_,st,fun v z=>by
      have z':Data.fields _ = Data.cell v:=z
      cases z'⟩
  keep:=fun i h h' st k=>k it (by simp) _ st
  item:=by
    intro X hP hw hK hc i pins s σ H E I hf st hg
    subst hP hw hK
    obtain ⟨f0,f1,f2,f3,f4,f5⟩:=hf it (by simp)
    have W:=Walks.range (prog:=X.prog) (w:=X.w) (I.ok.hd hc) it lo 1 n
    refine W.item i s _ _ hg st fun v h' tk hv st' kk=>?_
    obtain ⟨t,rfl⟩:=hv
    have I1:Inv X pins σ H { s with heap:=h',toks:=tk }:=I.turned (fun b o hb e=>kk b o (by simpa using hb) e) f0 f1 f3 f4 f5
    refine ⟨_,rfl,Y8 (s:={ s with heap:=h',toks:=tk }) (n:="range_iterator") st' rfl rfl (by decide) ⟨.int (lo + i),H,I1,⟨t,?_⟩,⟨rfl,rfl⟩,st',fun b hb=>(hf b hb).1⟩⟩
    rw [Int.mul_one]
  done:=by
    intro X hP hw hK hc i pins s σ H E I hf st hg
    subst hP hw hK
    obtain ⟨f0,f1,f2,f3,f4,f5⟩:=hf it (by simp)
    exact wpAny_pyNext_range_end (I.ok.hd hc) st (by have:n ≤ i:=hg; omega) fun h' eb=>⟨rfl,I.turned (t':=s.toks) (fun b o hb e=>eb b o hb e) f0 f1 f3 f4 f5⟩
  self:=fun _ _ _ _ _ st h=>wpAny_pyIter_rangeiter st h
end L2
namespace L2
open PySem PySem.Spec PyProof.Rows
section
variable {X:Cx} {tg:Expr}
def iList (K:PySem.W.Frag) (tl:TE):TI:=fun σ H R=>tl σ H fun x H1=>∃ a,x = .ref a∧(∃ xs,SqL K H1 a xs)∧R (Itl K a) H1
def iTup (K:PySem.W.Frag) (tl:TE):TI:=fun σ H R=>tl σ H fun x H1=>∃ a,x = .ref a∧(∃ xs,SqT K H1 a xs)∧R (Itt K a) H1
theorem pi_list {l:Expr} {tl:TE} (hl:PE X l tl):PI X tg l (iList X.K tl):=by
  intro pins s σ H R I h
  refine thn (hl pins s σ H _ I h) fun v s1 ⟨x,H1,I1,r1,q1⟩=>?_
  obtain ⟨a,e,⟨xs,hq⟩,q⟩:=q1
  subst e
  cases r1
  obtain ⟨its,rv,p,hz⟩:=I1.list hq
  refine wpAny_pyIter_list p.isList ?_
  refine ⟨s1.heap.objs.size,[s1.heap.objs.size],_,_,H1,rfl,I1.kept (t':=s1.toks) fun b o e=>Heap.get?_push_of_some _ e,ac7 a _,⟨_,Heap.get?_push_size _ rfl,rfl,rfl⟩,fun b hb=>?_,q⟩
  have e:b = s1.heap.objs.size:=by simpa using hb
  subst e
  exact I1.fpOk (Nat.le_refl _) (I1.hok.fresh (Nat.le_refl _))
theorem pi_tup {l:Expr} {tl:TE} (hl:PE X l tl):PI X tg l (iTup X.K tl):=by
  intro pins s σ H R I h
  refine thn (hl pins s σ H _ I h) fun v s1 ⟨x,H1,I1,r1,q1⟩=>?_
  obtain ⟨a,e,⟨xs,hq⟩,q⟩:=q1
  subst e
  cases r1
  obtain ⟨its,rv,p,hz⟩:=I1.tuple hq
  refine wpAny_pyIter_tuple (show s1.heap.IsTuple a its.toArray from p) ?_
  refine ⟨s1.heap.objs.size,[s1.heap.objs.size],_,_,H1,rfl,I1.kept (t':=s1.toks) fun b o e=>Heap.get?_push_of_some _ e,abV a _,⟨_,Heap.get?_push_size _ rfl,rfl,rfl⟩,fun b hb=>?_,q⟩
  have e:b = s1.heap.objs.size:=by simpa using hb
  subst e
  exact I1.fpOk (Nat.le_refl _) (I1.hok.fresh (Nat.le_refl _))
theorem range_it {pins:List (Addr × Obj)} {σ:St} {H:Hp} {s:Shared} {R:It→Hp→Prop} {E:Value→Shared→Prop} {lo hi:Int} {t u v:Tok} {tk:Nat} (I:Inv X pins σ H s) (h1:-(2 ^ 62) ≤ lo) (h2:lo < 2 ^ 62) (h3:-(2 ^ 62) ≤ hi) (h4:hi < 2 ^ 62)
    (q:R (Itr lo (hi - lo).toNat) H):wpAny (model X.prog X.w) X.A (pyIter (.ref s.heap.objs.size)) (PIE X pins σ tg R) E { s with heap:=s.heap.push { cls:=.type "range",data:=.fields #[.int lo t,.int hi u,.int 1 v] },toks:=tk }:=by
  refine wpAny_pyIter_range (IsRange.new ..) (small_one h1 h2 h3 h4) ?_
  have I1:Inv X pins σ H { s with heap:=s.heap.push { cls:=.type "range",data:=.fields #[.int lo t,.int hi u,.int 1 v] },toks:=tk }:=I.kept fun b o e=>Heap.get?_push_of_some _ e
  refine ⟨(s.heap.push { cls:=.type "range",data:=.fields #[.int lo t,.int hi u,.int 1 v] }).objs.size,[(s.heap.push { cls:=.type "range",data:=.fields #[.int lo t,.int hi u,.int 1 v] }).objs.size],_,_,H,rfl,
    I1.kept (t':=tk) fun b o e=>Heap.get?_push_of_some _ e,abU _ lo (hi - lo).toNat,?_,fun b hb=>?_,q⟩
  · have e1:lo + ((0:Nat):Int) * 1 = lo:=by simp
    have e2:(((hi - lo).toNat:Nat):Int) - ((0:Nat):Int) = Builtin.Range.rangeSize lo hi 1:=by rw [rangeSize_one]; split <;> omega
    show IsRangeIter _ _ (lo + ((0:Nat):Int) * 1) ((((hi - lo).toNat:Nat):Int) - ((0:Nat):Int)) 1
    rw [e1,e2]
    exact Heap.get?_push_size _ rfl
  · have e:b = (s.heap.push { cls:=.type "range",data:=.fields #[.int lo t,.int hi u,.int 1 v] }).objs.size:=by simpa using hb
    subst e
    exact I1.fpOk (Nat.le_refl _) (I1.hok.fresh (Nat.le_refl _))
def iRng1 (ta:TA):TI:=fun σ H R=>ta σ H fun vs H1=>∃ j:Int,vs = [.int j]∧-(2 ^ 62) ≤ j∧j < 2 ^ 62∧R (Itr 0 j.toNat) H1
theorem acZ {a:Expr} {ta:TA} {p pos:Pos} (hg:Gl X "range") (hm:X.mg "range" = none) (ha:PA X [a] ta) (hs:starEach [a] X.env = [(false,eval a X.env)]:=by rfl):PI X tg (.Call (.Name "range" p) [a] [] pos) (iRng1 ta):=by
  intro pins s σ H R I h
  refine Call_ (J4 I hg hm boot_range (PyProof.Rows.callWith_type1 (thn (ha pos pins s σ H _ I h) fun us s1 ⟨vs,H1,I1,r1,q1⟩=>?_) hs rfl))
  obtain ⟨j,e,q1,q2,q⟩:=q1
  subst e
  cases r1 with
  | cons r rr =>
    cases rr
    obtain ⟨t,rfl⟩:=r
    exact call_range_1 (range_it I1 (by omega) (by omega) q1 q2 (by simpa using q))
def tFor (wi:TI) (g:TG) (tb:TS):TS:=fun D σ H=>wi σ H fun J H1=>∃ W:Nat→Nat→St→Hp→Prop,(∃ m,W 0 m σ H1)∧∀ i m σ H,W i m σ H →
  (J.stop i H∧D.nx σ H) ∨ (J.go i H∧∃ N:St→Hp→Prop,(∀ σ' H',N σ' H'→∃ m',m' < m∧W (i + 1) m' σ' H')∧∀ x H',J.yld i H x H'→g x σ H' fun σ2 H2=>tb { D with nx:=N,ct:=N,bk:=D.nx } σ2 H2)
def Kz (fp:List Addr) (h:Heap):List (Addr × Obj):=fp.filterMap fun b=>(h.get? b).map fun o=>(b,o)
theorem uR {fp:List Addr} {h:Heap} {b:Addr} {o:Obj} (hb:b ∈ fp) (e:h.get? b = some o):(b,o) ∈ Kz fp h:=List.mem_filterMap.mpr ⟨b,hb,by rw [e]; rfl⟩
theorem acV {fp:List Addr} {h:Heap} {p:Addr × Obj} (hp:p ∈ Kz fp h):p.1 ∈ fp∧h.get? p.1 = some p.2:=by
  obtain ⟨b,hb,e⟩:=List.mem_filterMap.mp hp
  cases q:h.get? b with
  | none=>rw [q] at e; cases e
  | some o =>
    rw [q] at e
    have e':(b,o) = p:=Option.some.inj e
    subst e'
    exact ⟨hb,q⟩
theorem Inv.pinned {pins:List (Addr × Obj)} {σ:St} {H:Hp} {s:Shared} {fp:List Addr} (I:Inv X pins σ H s) (hf:∀ b ∈ fp,Fj X pins H b) (ho:∀ b ∈ fp,∃ o,s.heap.get? b = some o∧∀ v,o.data ≠ .cell v):Inv X (pins ++ Kz fp s.heap) σ H s :=
  I.acj fun p hp=>(List.mem_append.mp hp).elim (fun z=>I.pin p (List.mem_append_right _ z)) fun z=>by
    obtain ⟨hb,e⟩:=acV z
    obtain ⟨f0,f1,f2,_⟩:=hf p.1 hb
    obtain ⟨o,e',d⟩:=ho p.1 hb
    rw [e] at e'; cases e'
    exact ⟨e,f0,f1,f2,d⟩
theorem Inv.Cj {pins pl:List (Addr × Obj)} {σ:St} {H:Hp} {s:Shared} (I:Inv X (pins ++ pl) σ H s):Inv X pins σ H s:=I.acj fun p hp=>I.pin p (List.mem_append_right _ (List.mem_append_left _ hp))
theorem rO {iter:Expr} {body:List Stmt} {wi:TI} {g:TG} {tb:TS} {pos:Pos} (hp:PassesOwn (model X.prog X.w) X.A X.env X.xe) (hc:X.calm = true) (hi:PI X tg iter wi) (hg:PG X tg g) (hb:PSs X body tb)
    (hs:∀ x,foldedSetIterable iter X.env x = pure x:=by intro _; rfl):PS X (.For tg iter body [] pos) (tFor wi g tb):=by
  intro pins s σ H D I h
  refine wpAny_For (thn (hi pins s σ H _ I h) fun v s1 h1=>thn h1 fun itv s2 h2=>?_) hs
  obtain ⟨it,fp,tn,J,H2,e,I2,T,st2,f2,W,⟨m0,w0⟩,turn⟩:=h2
  subst e
  have stat:∀ {H':Hp},(∀ b ∈ fp,H' b = none)→∀ b ∈ fp,Fj X pins H' b:=fun hn b hb=>⟨hn b hb,(f2 b hb).2⟩
  refine codeAny_forLoop_any (fun n s'=>∃ i σ' H',Inv X pins σ' H' s'∧tn i s'.heap∧(∀ b ∈ fp,H' b = none)∧W i n σ' H') ?_ m0 ⟨0,σ,H2,I2,st2,fun b hb=>(f2 b hb).1,w0⟩
  rintro n s3 ⟨i,σ3,H3,I3,st3,fr3,w3⟩
  rcases turn i n σ3 H3 w3 with ⟨stop,qn⟩ | ⟨go,N,hN,step⟩
  · refine wpAny_passesOwn hp (thn (T.done X rfl rfl rfl hc i pins s3 σ3 H3 X.xe I3 (stat fr3) st3 stop) fun r s4 ⟨hr,I4⟩=>?_)
    subst hr
    exact wpAny_execs_nil ⟨σ3,H3,I4,qn⟩
  · refine wpAny_passesOwn hp (thn (T.item X rfl rfl rfl hc i pins s3 σ3 H3 X.xe I3 (stat fr3) st3 go) fun r s4 ⟨u,hr,h4⟩=>?_)
    subst hr
    refine wpAny_passesOwn hp (thn h4 fun _ s5 ⟨x,H5,I5,r5,y5,st5,fr5⟩=>?_)
    have I5':=I5.pinned (stat fr5) (T.obj _ _ st5)
    refine wpAny_passesOwn hp (thn (hg _ s5 σ3 H5 x u _ I5' r5 (step x H5 y5)) fun _ s6 ⟨σ6,H6,I6,q6⟩=>?_)
    refine wpAny_passesOwn hp (thn (hb _ s6 σ6 H6 _ I6 q6) fun f s7 q7=>?_)
    have again:∀ {σ7:St} {H7:Hp},Inv X (pins ++ Kz fp s5.heap) σ7 H7 s7→N σ7 H7→∃ m,m < n∧∃ i σ' H',Inv X pins σ' H' s7∧tn i s7.heap∧(∀ b ∈ fp,H' b = none)∧W i m σ' H':=fun {σ7 H7} I7 n7=>by
      obtain ⟨m',hm,w7⟩:=hN σ7 H7 n7
      refine ⟨m',hm,i + 1,σ7,H7,I7.Cj,T.keep _ _ _ st5 fun b hb o e=>(I7.pin (b,o) (List.mem_append_right _ (List.mem_append_right _ (uR hb e)))).1,fun b hb=>?_,w7⟩
      obtain ⟨o,e,d⟩:=T.obj _ _ st5 b hb
      exact (I7.pin (b,o) (List.mem_append_right _ (List.mem_append_right _ (uR hb e)))).2.1
    cases f with
    | next=>obtain ⟨σ7,H7,I7,n7⟩:=q7; exact again I7 n7
    | cont=>obtain ⟨σ7,H7,I7,n7⟩:=q7; exact again I7 n7
    | brk=>obtain ⟨σ7,H7,I7,q7⟩:=q7; exact ⟨σ7,H7,I7.Cj,q7⟩
    | ret v=>obtain ⟨x7,σ7,H7,I7,r7,q7⟩:=q7; exact ⟨x7,σ7,H7,I7.Cj,r7,q7⟩
end
end L2
namespace L2
open PySem PySem.Spec PyProof.Rows
abbrev R2:=V→V→Hp→VK→Prop
def OpR (X:Cx) (f:Value→Value→Sem Value) (r:R2):Prop :=
  ∀ (pins:List (Addr × Obj)) (s:Shared) (σ:St) (H:Hp) (x y:V) (v u:Value) (Q:VK),Inv X pins σ H s→RelV x v→RelV y u→r x y H Q →
    wpAny (model X.prog X.w) X.A (f v u) (EP X pins σ Q) X.xe s
def UnR (X:Cx) (f:Value→Sem Value) (r:V→Hp→VK→Prop):Prop :=
  ∀ (pins:List (Addr × Obj)) (s:Shared) (σ:St) (H:Hp) (x:V) (v:Value) (Q:VK),Inv X pins σ H s→RelV x v→r x H Q →
    wpAny (model X.prog X.w) X.A (f v) (EP X pins σ Q) X.xe s
def mV (X:Cx) (f:Value) (r:List V→Hp→VK→Prop):Prop :=
  ∀ (pins:List (Addr × Obj)) (s:Shared) (σ:St) (H:Hp) (xs:List V) (us:List Value) (Q:VK),Inv X pins σ H s→Vals xs us→r xs H Q →
    wpAny (model X.prog X.w) X.A (call f us) (EP X pins σ Q) X.xe s
def TruR (X:Cx) (r:V→Hp→(Bool→Hp→Prop)→Prop):Prop :=
  ∀ (pins:List (Addr × Obj)) (s:Shared) (σ:St) (H:Hp) (x:V) (v:Value) (Q:Bool→Hp→Prop),Inv X pins σ H s→RelV x v→r x H Q →
    wpAny (model X.prog X.w) X.A (truthy v) (TP X pins σ Q) X.xe s
def tOp (r:R2) (ta tb:TE):TE:=fun σ H Q=>ta σ H fun x H1=>tb σ H1 fun y H2=>r x y H2 Q
def tUn (r:V→Hp→VK→Prop) (ta:TE):TE:=fun σ H Q=>ta σ H fun x H1=>r x H1 Q
def rI (C:Int→Int→Prop) (g:Int→Int→V):R2:=fun x y H Q=>∃ i j,x = .int i∧y = .int j∧C i j∧Q (g i j) H
def rI0 (g:Int→Int→V):R2:=fun x y H Q=>∃ i j,x = .int i∧y = .int j∧Q (g i j) H
def rU (g:Int→V):V→Hp→VK→Prop:=fun x H Q=>∃ i,x = .int i∧Q (g i) H
section
variable {X:Cx} {a b c:Expr} {ta tb tc:TE} {pos:Pos}
theorem binT (ha:PE X a ta) (hb:PE X b tb) {pins:List (Addr × Obj)} {s:Shared} {σ:St} {H:Hp} {R:V→V→Hp→Prop} (I:Inv X pins σ H s)
    (h:ta σ H fun x H1=>tb σ H1 fun y H2=>R x y H2) {Q:Value→Shared→Prop} {f:Value→Value→Sem Value}
    (hf:∀ v u s2 x y H2,Inv X pins σ H2 s2→RelV x v→RelV y u→R x y H2→wpAny (model X.prog X.w) X.A (f v u) Q X.xe s2) :
    wpAny (model X.prog X.w) X.A (eval a X.env) (fun v s₁=>wpAny (model X.prog X.w) X.A (eval b X.env) (fun u s₂=>wpAny (model X.prog X.w) X.A (f v u) Q X.xe s₂) X.xe s₁) X.xe s:=by
  refine thn (ha pins s σ H _ I h) fun v s1 ⟨x,H1,I1,r1,q1⟩=>?_
  refine thn (hb pins s1 σ H1 _ I1 q1) fun u s2 ⟨y,H2,I2,r2,q2⟩=>?_
  exact hf v u s2 x y H2 I2 r1 r2 q2
theorem Kw {op:Operator} {r:R2} (ho:OpR X (binaryOp op) r) (ha:PE X a ta) (hb:PE X b tb):PE X (.BinOp a op b pos) (tOp r ta tb):=by
  intro pins s σ H Q I h
  exact wpAny_BinOp (binT ha hb I h fun v u s2 x y H2 I2 rx ry q=>ho pins s2 σ H2 x y v u Q I2 rx ry q)
theorem pe_un {op:UnaryOp} {r:V→Hp→VK→Prop} (ho:UnR X (unaryOp op) r) (ha:PE X a ta):PE X (.UnaryOp op a pos) (tUn r ta):=by
  intro pins s σ H Q I h
  exact UnaryOp_ (thn (ha pins s σ H _ I h) fun v s1 ⟨x,H1,I1,r1,q1⟩=>ho pins s1 σ H1 x v Q I1 r1 q1)
theorem opI {f:Value→Value→Sem Value} {C:Int→Int→Prop} {g:Int→Int→Int}
    (rule:∀ (i j:Int) (t u:Tok) (s:Shared) (Q:Value→Shared→Prop) (E:Value→Shared→Prop),C i j→Q (.int (g i j) s.toks) { s with toks:=s.toks + 1 }→wpAny (model X.prog X.w) X.A (f (.int i t) (.int j u)) Q E s) :
    OpR X f (rI C fun i j=>.int (g i j)):=by
  intro pins s σ H x y v u Q I rx ry h
  obtain ⟨i,j,rfl,rfl,hc,q⟩:=h
  obtain ⟨t,rfl⟩:=rx
  obtain ⟨t',rfl⟩:=ry
  exact rule i j t t' s _ _ hc ⟨.int (g i j),H,I.tok _,⟨_,rfl⟩,q⟩
theorem opI0 {f:Value→Value→Sem Value} {g:Int→Int→Int}
    (rule:∀ (i j:Int) (t u:Tok) (s:Shared) (Q:Value→Shared→Prop) (E:Value→Shared→Prop),Q (.int (g i j) s.toks) { s with toks:=s.toks + 1 }→wpAny (model X.prog X.w) X.A (f (.int i t) (.int j u)) Q E s) :
    OpR X f (rI0 fun i j=>.int (g i j)):=by
  intro pins s σ H x y v u Q I rx ry h
  obtain ⟨i,j,rfl,rfl,q⟩:=h
  obtain ⟨t,rfl⟩:=rx
  obtain ⟨t',rfl⟩:=ry
  exact rule i j t t' s _ _ ⟨.int (g i j),H,I.tok _,⟨_,rfl⟩,q⟩
theorem opB0 {f:Value→Value→Sem Value} {g:Int→Int→Bool}
    (rule:∀ (i j:Int) (t u:Tok) (s:Shared) (Q:Value→Shared→Prop) (E:Value→Shared→Prop),Q (.bool (g i j)) s→wpAny (model X.prog X.w) X.A (f (.int i t) (.int j u)) Q E s) :
    OpR X f (rI0 fun i j=>.bl (g i j)):=by
  intro pins s σ H x y v u Q I rx ry h
  obtain ⟨i,j,rfl,rfl,q⟩:=h
  obtain ⟨t,rfl⟩:=rx
  obtain ⟨t',rfl⟩:=ry
  exact rule i j t t' s _ _ ⟨.bl (g i j),H,I,rfl,q⟩
def CDiv (i j:Int):Prop:=0 < j∧j < 1073741824
def CPow (i j:Int):Prop:=0 ≤ j∧j ≤ 1000000∧i.natAbs < 2 ^ 64
def vm (i j:Int):Prop:=(-(2 ^ 64) < i∧i < 2 ^ 64) ∨ (-(2 ^ 64) < j∧j < 2 ^ 64)
theorem vm.ok {i j:Int} (h:vm i j):IntMulOk i j:=by
  rcases h with ⟨h1,h2⟩ | ⟨h1,h2⟩
  · exact .of_left (intBits_le_64 h1 h2)
  · exact .of_right (intBits_le_64 h1 h2)
theorem op_add:OpR X (binaryOp .Add) (rI0 fun i j=>.int (i + j)):=opI0 fun _ _ _ _ _ _ _ q=>add_int q
theorem op_sub:OpR X (binaryOp .Sub) (rI0 fun i j=>.int (i - j)):=opI0 fun _ _ _ _ _ _ _ q=>sub_int q
theorem op_mul:OpR X (binaryOp .Mult) (rI vm fun i j=>.int (i * j)):=opI fun _ _ _ _ _ _ _ hc q=>mul_int q hc.ok
theorem op_fdiv:OpR X (binaryOp .FloorDiv) (rI CDiv fun i j=>.int (i / j)):=opI fun i j _ _ _ _ _ hc q=>by
  have h1:(0:Int) < j:=hc.1
  have h2:j < 1073741824:=hc.2
  exact floordiv_int (by omega) (by rw [Int.fdiv_eq_ediv_of_nonneg i (by omega)]; exact q) (.inl (PyProof.noPylong_small (by omega)))
theorem op_mod:OpR X (binaryOp .Mod) (rI (fun _ j=>0 < j) fun i j=>.int (i % j)):=opI fun i j _ _ _ _ _ hc q=>by
  have h1:(0:Int) < j:=hc
  exact mod_int' (by omega) (by rw [Int.fmod_eq_emod_of_nonneg i (by omega)]; exact q)
theorem op_pow:OpR X (binaryOp .Pow) (rI CPow fun i j=>.int (i ^ j.toNat)):=opI fun _ _ _ _ _ _ _ hc q=>pow_int_small hc.1 hc.2.1 hc.2.2 q
theorem unI {f:Value→Sem Value} {g:Int→Int}
    (rule:∀ (i:Int) (t:Tok) (s:Shared) (Q:Value→Shared→Prop) (E:Value→Shared→Prop),Q (.int (g i) s.toks) { s with toks:=s.toks + 1 }→wpAny (model X.prog X.w) X.A (f (.int i t)) Q E s) :
    UnR X f (rU fun i=>.int (g i)):=by
  intro pins s σ H x v Q I rx h
  obtain ⟨i,rfl,q⟩:=h
  obtain ⟨t,rfl⟩:=rx
  exact rule i t s _ _ ⟨.int (g i),H,I.tok _,⟨_,rfl⟩,q⟩
theorem un_neg:UnR X (unaryOp .USub) (rU fun i=>.int (-i)):=unI fun _ _ _ _ _ q=>neg_int q
end
section
variable {X:Cx} {a b c:Expr} {ta tb tc:TE} {pos:Pos}
theorem Ub {pins:List (Addr × Obj)} {σ:St} {H:Hp} {s:Shared} {Q:VK} {k k':Bool} (I:Inv X pins σ H s) (q:Q (.bl k) H) (e:k = k'):EP X pins σ Q (.bool k') s:=by
  subst e
  exact ⟨.bl k,H,I,rfl,q⟩
theorem op_lt:OpR X (compareOp .Lt) (rI0 fun i j=>.bl (decide (i < j))):=opB0 fun _ _ _ _ _ _ _ q=>lt_int q
theorem op_le:OpR X (compareOp .LtE) (rI0 fun i j=>.bl (decide (i ≤ j))):=opB0 fun _ _ _ _ _ _ _ q=>le_int q
theorem op_gt:OpR X (compareOp .Gt) (rI0 fun i j=>.bl (decide (j < i))):=opB0 fun _ _ _ _ _ _ _ q=>gt_int q
theorem op_ge:OpR X (compareOp .GtE) (rI0 fun i j=>.bl (decide (j ≤ i))):=opB0 fun _ _ _ _ _ _ _ q=>ge_int q
theorem acX:OpR X (compareOp .In) (fun x y H Q=>∃ i j,x = .str i∧y = .str j∧Q (.bl (!(Builtin.Str.occurrences j i 0 j.length 1).isEmpty)) H):=by
  intro pins s σ H x y v u Q I rx ry h
  obtain ⟨i,j,rfl,rfl,q⟩:=h
  obtain ⟨t,rfl⟩:=rx
  obtain ⟨t',rfl⟩:=ry
  exact in_str (Ub I q rfl)
theorem op_isN:OpR X (compareOp .Is) (fun x y H Q=>y = .non∧Q (.bl (decide (x = .non))) H):=by
  intro pins s σ H x y v u Q I rx ry h
  obtain ⟨rfl,q⟩:=h
  cases ry
  refine is_none_gen (Ub I q ?_)
  cases x <;> first
    | (cases rx; rfl)
    | (obtain ⟨t,rfl⟩:=rx; rfl)
theorem aci:OpR X (compareOp .IsNot) (fun x y H Q=>y = .non∧Q (.bl (!decide (x = .non))) H):=by
  intro pins s σ H x y v u Q I rx ry h
  obtain ⟨rfl,q⟩:=h
  cases ry
  refine isnot_none_gen (Ub I q ?_)
  cases x <;> first
    | (cases rx; rfl)
    | (obtain ⟨t,rfl⟩:=rx; rfl)
theorem OpR.or {f:Value→Value→Sem Value} {r r':R2} (h:OpR X f r) (h':OpR X f r'):OpR X f (fun x y H Q=>r x y H Q ∨ r' x y H Q):=by
  intro pins s σ H x y v u Q I rx ry q
  rcases q with q | q
  · exact h pins s σ H x y v u Q I rx ry q
  · exact h' pins s σ H x y v u Q I rx ry q
theorem mQ (b:Expr) {op:CmpOp} (h:op ≠ .In:=by decide) (h2:op ≠ .NotIn:=by decide):behindInMarks op b = false:=by
  have e1:(op == CmpOp.In) = false:=by cases op <;> first | rfl | exact absurd rfl h
  have e2:(op == CmpOp.NotIn) = false:=by cases op <;> first | rfl | exact absurd rfl h2
  cases b <;> simp [behindInMarks,e1,e2]
theorem yg {op:CmpOp} {r:R2} (ho:OpR X (compareOp op) r) (ha:PE X a ta) (hb:PE X b tb) (hm:behindInMarks op b = false):PE X (.Compare a [op] [b] pos) (tOp r ta tb):=by
  intro pins s σ H Q I h
  exact wpAny_Compare1 (binT ha hb I h fun v u s2 x y H2 I2 rx ry q=>ho pins s2 σ H2 x y v u Q I2 rx ry q) hm
def tTest (t:TE):TT:=fun σ H Q=>t σ H fun x H'=>∃ k,x = .bl k∧Q k H'
theorem uU {op:CmpOp} {r:R2} (ho:OpR X (compareOp op) r) (ha:PE X a ta) (hb:PE X b tb) (hm:behindInMarks op b = false):PT X (.Compare a [op] [b] pos) (tTest (tOp r ta tb)):=by
  intro pins s σ H Q I h
  refine wpAny_isTrue_Compare1 (thn (ha pins s σ H _ I h) fun v s1 ⟨x,H1,I1,r1,q1⟩=>thn (hb pins s1 σ H1 _ I1 q1) fun u s2 ⟨y,H2,I2,r2,q2⟩ =>
    thn (ho pins s2 σ H2 x y v u _ I2 r1 r2 q2) fun c s3 ⟨z,H3,I3,r3,k,e,q3⟩=>?_) hm
  subst e
  cases r3
  exact wpAny_truthy_bool ⟨H3,I3,q3⟩
def Lj (r r':R2) (ta tb tc:TE):TE:=fun σ H Q=>ta σ H fun x H1=>tb σ H1 fun y H2=>r x y H2 fun z H3=>∃ k,z = .bl k ∧
  (if k = true then tc σ H3 fun w' H4=>r' y w' H4 Q else Q (.bl false) H3)
theorem pe_chain {op op':CmpOp} {r r':R2} (ho:OpR X (compareOp op) r) (ho':OpR X (compareOp op') r') (ha:PE X a ta) (hb:PE X b tb) (hc:PE X c tc)
    (hm:lastMarks [op,op'] [b,c] = false:=by with_unfolding_all rfl):PE X (.Compare a [op,op'] [b,c] pos) (Lj r r' ta tb tc):=by
  intro pins s σ H Q I h
  refine Compare_chain (thn (ha pins s σ H _ I h) fun v s1 ⟨x,H1,I1,r1,q1⟩=>chain_link (thn (hb pins s1 σ H1 _ I1 q1) fun u s2 ⟨y,H2,I2,r2,q2⟩ =>
    thn (ho pins s2 σ H2 x y v u _ I2 r1 r2 q2) fun d s3 ⟨z,H3,I3,r3,k,e,q3⟩=>?_)) hm
  subst e
  cases r3
  refine wpAny_truthy_bool ?_
  cases k with
  | false=>exact ite_ff ⟨.bl false,H3,I3,rfl,q3⟩
  | true=>exact ite_tt (chain_last (thn (hc pins s3 σ H3 _ I3 q3) fun w' s4 ⟨z',H4,I4,r4,q4⟩=>ho' pins s4 σ H4 y z' u w' Q I4 r2 r4 q4))
theorem ZM {op op':CmpOp} {r r':R2} (ho:OpR X (compareOp op) r) (ho':OpR X (compareOp op') r') (ha:PE X a ta) (hb:PE X b tb) (hc:PE X c tc)
    (hm:lastMarks [op,op'] [b,c] = false:=by with_unfolding_all rfl):PT X (.Compare a [op,op'] [b,c] pos) (tTest (Lj r r' ta tb tc)):=by
  intro pins s σ H Q I h
  refine isTrue_chain (thn (ha pins s σ H _ I h) fun v s1 ⟨x,H1,I1,r1,q1⟩=>test_link (thn (hb pins s1 σ H1 _ I1 q1) fun u s2 ⟨y,H2,I2,r2,q2⟩ =>
    thn (ho pins s2 σ H2 x y v u _ I2 r1 r2 q2) fun d s3 ⟨z,H3,I3,r3,k,e,q3⟩=>?_)) hm
  subst e
  cases r3
  refine wpAny_truthy_bool ?_
  cases k with
  | false =>
    obtain ⟨k',e',q'⟩:=q3
    cases e'
    exact ite_ff ⟨H3,I3,q'⟩
  | true =>
    refine ite_tt (test_last (thn (hc pins s3 σ H3 _ I3 q3) fun w' s4 ⟨z',H4,I4,r4,q4⟩=>thn (ho' pins s4 σ H4 y z' u w' _ I4 r2 r4 q4) fun d' s5 ⟨z2,H5,I5,r5,k2,e2,q5⟩=>?_))
    subst e2
    cases r5
    exact wpAny_truthy_bool ⟨H5,I5,q5⟩
def TruV (K:PySem.W.Frag) (x:V) (H:Hp) (k:Bool):Prop :=
  match x with
  | .non=>k = false
  | .bl b=>k = b
  | .int i=>k = (i != 0)
  | .str y=>y.length ≤ sizeLine∧k = ((y.length:Int) != 0)
  | .byt y=>y.size ≤ sizeLine∧k = ((y.size:Int) != 0)
  | .ref p=>(∃ xs,SqL K H p xs∧k = !xs.isEmpty) ∨ (∃ xs,SqT K H p xs∧k = !xs.isEmpty) ∨ ∃ kvs,H p = some (.dK kvs)∧k = !kvs.isEmpty
  | _=>False
theorem abb {κ:Type} {kvs:List (κ × V)} {vs:List (κ × Value)} (r:KV kvs vs):(!vs.isEmpty) = !kvs.isEmpty:=by
  cases r <;> rfl
theorem JS {xs:List V} {its:List Value} (r:Vals xs its):(!its.toArray.isEmpty) = !xs.isEmpty:=by
  cases r <;> simp
theorem Dm:(sizeLine:Nat) < 2 ^ 63:=by rw [sizeLine_eq]; decide
theorem tru_ok:TruR X (fun x H Q=>∃ k,TruV X.K x H k∧Q k H):=by
  intro pins s σ H x v Q I rx h
  obtain ⟨k,e,q⟩:=h
  have hl:=Dm
  have hs:sizeLine = 16777216:=sizeLine_eq
  cases x with
  | non =>
    cases rx
    have e':k = false:=e
    subst e'
    exact truthy_none ⟨H,I,q⟩
  | bl b =>
    cases rx
    have e':k = b:=e
    subst e'
    exact wpAny_truthy_bool ⟨H,I,q⟩
  | int i =>
    obtain ⟨t,rfl⟩:=rx
    have e':k = (i != 0):=e
    subst e'
    exact PySem.P.truthy_int ⟨H,I,q⟩
  | str y =>
    obtain ⟨t,rfl⟩:=rx
    obtain ⟨hy,e'⟩:y.length ≤ sizeLine∧k = ((y.length:Int) != 0):=e
    subst e'
    exact PySem.P.truthy_str (by omega) ⟨H,I.tok _,q⟩
  | byt y =>
    obtain ⟨t,rfl⟩:=rx
    obtain ⟨hy,e'⟩:y.size ≤ sizeLine∧k = ((y.size:Int) != 0):=e
    subst e'
    exact PySem.W.truthy_bytes (by omega) ⟨H,I.tok _,q⟩
  | ref p =>
    cases rx
    have e':(∃ xs,SqL X.K H p xs∧k = !xs.isEmpty) ∨ (∃ xs,SqT X.K H p xs∧k = !xs.isEmpty) ∨ ∃ kvs,H p = some (.dK kvs)∧k = !kvs.isEmpty:=e
    rcases e' with ⟨xs,hx,e'⟩ | ⟨xs,hx,e'⟩ | ⟨kvs,hx,e'⟩
    · subst e'
      obtain ⟨its,r,pl,hz⟩:=I.list hx
      have hlen:=r.length
      exact wpAny_truthy_list pl.isList (by simp only [List.size_toArray]; omega) ⟨H,I.tok _,by rw [JS r]; exact q⟩
    · subst e'
      obtain ⟨its,r,pl,hz⟩:=I.tuple hx
      have hlen:=r.length
      exact truthy_tuple pl (by simp only [List.size_toArray]; omega) ⟨H,I.tok _,by rw [JS r]; exact q⟩
    · subst e'
      obtain ⟨hz,hS,vs,r,m⟩:kvs.length ≤ sizeLine∧(p == sysModules) = false∧∃ vs,KV kvs vs∧s.heap.DictOf (cZ X.prog X.w) p vs:=I.hok p _ hx
      have hlen:kvs.length = vs.length:=Paired.length r
      exact wpAny_truthy_dict hS m (by omega) ⟨H,I.tok _,by rw [abb r]; exact q⟩
  | _=>exact (show False from e).elim
theorem pt_truth (ha:PE X a ta) (he:∀ whole,isTrue a X.env whole = (do let v ← whole; standAt a.pos; holding [v] (truthy v))) :
    PT X a (fun σ H Q=>ta σ H fun x H'=>∃ k,TruV X.K x H' k∧Q k H'):=by
  intro pins s σ H Q I h
  exact isTrue_plain (thn (ha pins s σ H _ I h) fun v s1 ⟨x,H1,I1,r1,q1⟩=>tru_ok pins s1 σ H1 x v Q I1 r1 q1) (he _)
theorem abv:OpR X (binaryOp .Add) (fun x y H Q=>∃ i j,x = .str i∧y = .str j∧i.length + j.length ≤ sizeLine∧Q (.str (i ++ j)) H):=by
  intro pins s σ H x y v u Q I rx ry h
  obtain ⟨i,j,rfl,rfl,hz,q⟩:=h
  obtain ⟨t,rfl⟩:=rx
  obtain ⟨t',rfl⟩:=ry
  exact add_str (fun t' tk=>⟨.str (i ++ j),H,I.tok _,⟨_,rfl⟩,q⟩) hz
theorem vals1 {x:V} {us:List Value} (r:Vals [x] us):∃ u,us = [u]∧RelV x u:=by
  cases r with
  | cons r1 r2=>cases r2; exact ⟨_,rfl,r1⟩
theorem vals2 {x y:V} {us:List Value} (r:Vals [x,y] us):∃ u w',us = [u,w']∧RelV x u∧RelV y w':=by
  cases r with
  | cons r1 r2 =>
    cases r2 with
    | cons r3 r4=>cases r4; exact ⟨_,_,rfl,r1,r3⟩
theorem acC (hc:X.calm = true):mV X (.builtin "min") (fun xs H Q=>∃ i j,xs = [.int i,.int j]∧Q (.int (if j < i then j else i)) H):=by
  intro pins s σ H xs us Q I r h
  obtain ⟨i,j,rfl,q⟩:=h
  obtain ⟨u,w',rfl,⟨t,rfl⟩,⟨t',rfl⟩⟩:=vals2 r
  refine min_two_ints (I.ok.hd hc) fun h' tk k=>⟨_,H,I.kept k,?_,q⟩
  by_cases hj:j < i
  · rw [if_pos hj,if_pos hj]; exact ⟨_,rfl⟩
  · rw [if_neg hj,if_neg hj]; exact ⟨_,rfl⟩
theorem acB:mV X (.type "int") (fun xs H Q=>(∃ i,xs = [.int i]∧Q (.int i) H) ∨ ∃ k,xs = [.bl k]∧Q (.int (if k then 1 else 0)) H):=by
  intro pins s σ H xs us Q I r h
  rcases h with ⟨i,rfl,q⟩ | ⟨k,rfl,q⟩
  · obtain ⟨u,rfl,t,rfl⟩:=vals1 r
    exact call_int_int ⟨.int i,H,I,⟨_,rfl⟩,q⟩
  · obtain ⟨u,rfl,r1⟩:=vals1 r
    cases r1
    exact call_int_bool ⟨.int (if k then 1 else 0),H,I.tok _,⟨_,rfl⟩,q⟩
end
end L2
namespace L2
open PySem PySem.Spec PyProof.Rows
structure ObjM (h:Heap) (x dx C:Addr) (mA:Str→Option Value):Prop where
  obj:h.get? x = some (PySem.W.instObj C dx)
  ns:h.Ns1 dx mA
  ne:dx ≠ x
theorem acS {h:Heap} {dx:Addr} {mA:Str→Option Value} (n:h.Ns1 dx mA):∃ od,h.get? dx = some od∧∀ name,PySem.W.lookIn name od = some (mA name):=by
  obtain ⟨o,es,ep,ho,hd,hk,_,hm⟩:=n
  refine ⟨o,ho,fun name=>?_⟩
  have e:=hm name
  unfold nsFind findBy at e
  rw [← Array.find?_toList] at e
  unfold PySem.W.lookIn
  rw [hd]
  dsimp only
  split
  · rename_i y q
    rw [q] at e
    exact congrArg some e
  · rename_i q
    rw [q] at e
    have a:es.toList.any (·.refKey) = false:=by
      rw [List.any_eq_false]
      intro y hy
      obtain ⟨z,t,hkey⟩:=hk y (Array.mem_toList_iff.mp hy)
      simp [DictEntry.refKey,hkey]
    have a':¬ es.toList.any (·.refKey) = true:=by rw [a]; exact Bool.false_ne_true
    rw [if_neg a']
    exact congrArg some e
theorem ObjM.look {h:Heap} {x dx C:Addr} {mA:Str→Option Value} (I:ObjM h x dx C mA):∃ od,PySem.W.InstAt h x (PySem.W.instObj C dx) C (some od)∧∀ name,PySem.W.lookIn name od = some (mA name) :=
  let ⟨od,ho,hl⟩:=acS I.ns
  ⟨od,⟨I.obj,rfl,rfl,ho⟩,hl⟩
section
variable {prog:Program} {w:World} {A:Around} {E:Value→Shared→Prop} {s:Shared} {K:PySem.W.Frag} {x dx C f:Addr} {mA:Str→Option Value} {name:Str} {v:Value}
theorem get_map {expr:Bool} {Q:Value→Shared→Prop} (X:K.In s.heap) (I:ObjM s.heap x dx C mA) (hg:PySem.W.plainGet K C name = true) (hh:PySem.W.hasDictIn K C = true)
    (ha:PySem.W.findIn K (.ref C) name = some none) (hv:mA name = some v) (hv':PySem.W.handedIn v = true) (h:Q v { s with toks:=s.toks + 1 }) :
    wpAny (model prog w) A (getAttr (.ref x) name expr) Q E s:=by
  obtain ⟨od,J,hl⟩:=I.look
  exact PySem.W.get_value X J (PySem.W.plainGet_of hg).1 (PySem.W.findObj_own hh ha rfl (by rw [hl,hv])) hv' h
theorem get_meth {pl:Sem Bool} {Q:Value × List Value→Shared→Prop} (X:K.In s.heap) (I:ObjM s.heap x dx C mA) (hg:PySem.W.plainGet K C name = true)
    (hf:PySem.W.findIn K (.ref C) name = some (some (.ref f))) (ht:PySem.W.isFn K (.ref f) = true) (hv:mA name = none) (h:Q (.ref f,[.ref x]) s) :
    wpAny (model prog w) A (getMethod (.ref x) name pl) Q E s:=by
  obtain ⟨od,J,hl⟩:=I.look
  exact PySem.W.method_fn X J (PySem.W.plainGet_of hg).1 (PySem.W.plainGet_of hg).2 hf (beq_iff_eq.mp ht) (by show (PySem.W.lookIn name od).map (·.isSome) = some false; rw [hl,hv]; rfl) h
theorem set_map {ns:List Str} {Q:Unit→Shared→Prop} (X:K.In s.heap) (I:ObjM s.heap x dx C mA)
    (hs:PySem.W.findIn K (.ref C) "__setattr__" = some (some (.builtin "object.__setattr__"))) (hp:PySem.W.plainOver K C = true) (ht:PySem.W.takerIn K C name = some none) (hh:PySem.W.hasDictIn K C = true)
    (hw:PySem.Within mA ns) (hsz:ns.length ≤ sizeLine)
    (h:∀ h',ObjM h' x dx C (fun y=>if y = name then some v else mA y)→Heap.SameBut dx s.heap h'→Q () { s with heap:=h',toks:=s.toks + 2 }) :
    wpAny (model prog w) A (setAttr (.ref x) name v) Q E s:=by
  obtain ⟨od,J,hl⟩:=I.look
  refine PySem.W.set_plain X J hs (PySem.W.osa_open (s:={ s with toks:=s.toks + 1 }) (r:=none) X J hp ht fun b=>?_)
  obtain ⟨cd,hc,hd'⟩:=PySem.W.any_some hh
  have hx:s.heap.get? x = some ⟨.ref C,some dx,.plain,#[]⟩:=I.obj
  refine wpAny_bind (wpAny_pure (wpAny_bind (wpAny_bind (wpAny_loadPart hx (wpAny_bind (PySem.W.Looks.here (s:={ s with toks:=s.toks + 1 }) (PySem.W.looks_clsIn X hc) ?_))))))
  rw [hd']
  refine wpAny_pure (a:=some dx) (wpAny_bind (wpAny_pure (wpAny_bind ?_)))
  refine wpAny_nsSet1 (s:={ s with toks:=s.toks + 1 }) I.ns fun h' hn2 hs2=>?_
  obtain ⟨oD,esD,epD,hoD,hdD,hcD⟩:=hn2.count (PySem.Within.cons name v hw)
  refine wpAny_bind (wpAny_lookBehind hoD (by rw [hdD]; exact pastItsLine_dict (Nat.le_trans hcD (by rw [List.length_cons]; omega))) ?_)
  exact wpAny_pure (h _ ⟨(hs2.2 _ (Ne.symm I.ne)).trans I.obj,hn2,I.ne⟩ hs2)
theorem make_map {R:Result→Shared→Prop} {vs:List Value} {kw:List (Str × Value)} (X:K.In s.heap) (hm:PySem.W.makesIn K C = true)
    (hi:PySem.W.findIn K (.ref C) "__init__" = some (some (.ref f))) (hf:PySem.W.typeIn K (.ref f) = some (.type "function"))
    (h:codeAny (model prog w) (A.under (.builtin "type.__call__" ⟨.ref C :: vs,kw⟩)) (.call (.ref f) ⟨.ref (s.heap.objs.size + 1) :: vs,kw⟩) (PySem.W.InitBack (s.heap.objs.size + 1) R)
      { s with heap:=(s.heap.push PySem.W.emptyDict).push (PySem.W.instObj C s.heap.objs.size) }) :
    codeAny (model prog w) A (.call (.ref C) ⟨vs,kw⟩) R s:=by
  obtain ⟨hh,g,d,t,os⟩:=s
  exact PySem.W.make_core (PySem.W.makes_of X hm) (PySem.W.looks_findIn X hi) (fun self=>PySem.W.bind_fn X self hf) (.inl rfl) h
end
def lr (f:Str) (v:V):List (Str × V)→List (Str × V)
  | []=>[(f,v)]
  | (g,x) :: r=>if g = f then (g,v) :: r else (g,x) :: lr f v r
theorem Fg (f g:Str) (v:V):∀ fs:List (Str × V),(lr f v fs).lookup g = if g = f then some v else fs.lookup g
  | []=>by
    show List.lookup g [(f,v)] = _
    by_cases h:g = f
    · have hb:(g == f) = true:=beq_iff_eq.mpr h
      simp only [List.lookup,hb,if_pos h]
    · have hb:(g == f) = false:=beq_eq_false_iff_ne.mpr h
      simp only [List.lookup,hb,if_neg h]
  | (k,x) :: r=>by
    have ih:=Fg f g v r
    rw [show lr f v ((k,x) :: r) = (if k = f then (k,v) :: r else (k,x) :: lr f v r) from rfl]
    by_cases hk:k = f
    · rw [if_pos hk]
      by_cases h:g = k
      · have hb:(g == k) = true:=beq_iff_eq.mpr h
        simp only [List.lookup,hb,if_pos (h.trans hk)]
      · have hb:(g == k) = false:=beq_eq_false_iff_ne.mpr h
        simp only [List.lookup,hb,if_neg (fun e:g = f=>h (e.trans hk.symm))]
    · rw [if_neg hk]
      by_cases h:g = k
      · have hb:(g == k) = true:=beq_iff_eq.mpr h
        simp only [List.lookup,hb,if_neg (fun e:g = f=>hk (h.symm.trans e))]
      · have hb:(g == k) = false:=beq_eq_false_iff_ne.mpr h
        simp only [List.lookup,hb]
        exact ih
theorem Df (f:Str) (v:V):∀ fs:List (Str × V),f ∈ (lr f v fs).map (·.1)∧∀ g,g ∈ fs.map (·.1)→g ∈ (lr f v fs).map (·.1)
  | []=>⟨by simp [lr],fun g h=>by simp at h⟩
  | (k,x) :: r=>by
    obtain ⟨i1,i2⟩:=Df f v r
    rw [show lr f v ((k,x) :: r) = (if k = f then (k,v) :: r else (k,x) :: lr f v r) from rfl]
    by_cases hk:k = f
    · rw [if_pos hk]
      subst hk
      exact ⟨by simp,fun g h=>by simpa using h⟩
    · rw [if_neg hk]
      refine ⟨?_,fun g h=>?_⟩
      · rw [List.map_cons]
        exact List.mem_cons_of_mem _ i1
      · rw [List.map_cons] at h ⊢
        rcases List.mem_cons.mp h with e | e
        · exact List.mem_cons.mpr (.inl e)
        · exact List.mem_cons_of_mem _ (i2 g e)
theorem Fe (f:Str) (v:V):∀ fs:List (Str × V),(lr f v fs).length ≤ fs.length + 1
  | []=>by simp [lr]
  | (k,x) :: r=>by
    have ih:=Fe f v r
    rw [show lr f v ((k,x) :: r) = (if k = f then (k,v) :: r else (k,x) :: lr f v r) from rfl]
    by_cases hk:k = f
    · rw [if_pos hk,List.length_cons,List.length_cons]; omega
    · rw [if_neg hk,List.length_cons,List.length_cons]; omega
theorem vK.some_of {v:V} {o:Option Value} (r:vK (some v) o):∃ u,o = some u∧RelV v u:=by
  cases o with
  | none=>exact (show False from r).elim
  | some u=>exact ⟨u,rfl,r⟩
theorem vK.none_of {o:Option Value} (r:vK none o):o = none:=by
  cases o with
  | none=>rfl
  | some u=>exact (show False from r).elim
theorem acI {v:V} {u:Value} (r:RelV v u):PySem.W.handedIn u = true:=by
  cases v with
  | non=>cases (show u = Value.none from r); rfl
  | bl b=>cases (show u = Value.bool b from r); rfl
  | int i=>obtain ⟨t,e⟩:=(show ∃ t,u = Value.int i t from r); cases e; rfl
  | str x=>obtain ⟨t,e⟩:=(show ∃ t,u = Value.str x t from r); cases e; rfl
  | byt b=>obtain ⟨t,e⟩:=(show ∃ t,u = Value.bytes b t from r); cases e; rfl
  | flt b=>obtain ⟨t,e⟩:=(show ∃ t,u = Value.float b t from r); cases e; rfl
  | ref a=>cases (show u = Value.ref a from r); rfl
  | ty n=>cases (show u = Value.type n from r); rfl
section
variable {P:Program} {w:World} {H H':Hp} {h h':Heap} {a C dx:Addr} {fs fs':List (Str × V)}
theorem Hm (hok:HOk P w H h) (e:H a = some (.ins C dx fs)):∃ mA,ObjM h a dx C mA∧(∀ f,vK (fs.lookup f) (mA f))∧PySem.Within mA (fs.map (·.1))∧fs.length ≤ 1000∧H dx = some (.own a):=by
  obtain ⟨d,z,ne,ob,mA,n,r,q⟩:=(show cU P w H h a (.ins C dx fs) from hok a _ e)
  exact ⟨mA,⟨ob,n,ne⟩,r,q,z,d⟩
end
structure Cls (K:PySem.W.Frag) (C:Addr):Prop where
  pg:PySem.W.plainGet K C Str.empty = true
  hd:PySem.W.hasDictIn K C = true
  po:PySem.W.plainOver K C = true
  sa:PySem.W.findIn K (.ref C) "__setattr__" = some (some (.builtin "object.__setattr__"))
theorem Cls.get {K:PySem.W.Frag} {C:Addr} (c:Cls K C) (f:Str):PySem.W.plainGet K C f = true:=c.pg
def dY (K:PySem.W.Frag) (C:Addr) (f:Str):Prop:=PySem.W.findIn K (.ref C) f = some none
theorem dY.taker {K:PySem.W.Frag} {C:Addr} {f:Str} (n:dY K C f):PySem.W.takerIn K C f = some none:=by
  unfold PySem.W.takerIn
  rw [show PySem.W.findIn K (.ref C) f = some none from n]
  rfl
structure Con (K:PySem.W.Frag) (C:Addr) (f:Str) (v:V) (u:Value):Prop where
  at_:PySem.W.findIn K (.ref C) f = some (some u)
  rel:RelV v u
  get:PySem.W.specialIn K u "__get__" = some none
  cp:PySem.W.copiedNames.contains f = false
structure Meth (K:PySem.W.Frag) (C:Addr) (m:Str) (f:Addr):Prop where
  at_:PySem.W.findIn K (.ref C) m = some (some (.ref f))
  fn:PySem.W.isFn K (.ref f) = true
  kp:PySem.W.keepIn K (.ref f) = true
section
variable {X:Cx} {pins:List (Addr × Obj)} {σ:St} {H:Hp} {s:Shared} {a C dx:Addr} {fs:List (Str × V)} {f:Str} {v:V} {A:Around} {E:Value→Shared→Prop}
theorem aa6 {b:Bool} {Q:Value→Shared→Prop} (I:Inv X pins σ H s) (e:H a = some (.ins C dx fs)) (c:Cls X.K C) (n:dY X.K C f) (l:fs.lookup f = some v)
    (h:∀ u s',Inv X pins σ H s'→RelV v u→Q u s'):wpAny (model X.prog X.w) A (getAttr (.ref a) f b) Q E s:=by
  obtain ⟨mA,O,r,_,_,_⟩:=Hm I.hok e
  obtain ⟨u,hu,ru⟩:=vK.some_of (v:=v) (o:=mA f) (by rw [← l]; exact r f)
  exact get_map I.kIn O (c.get f) c.hd n hu (acI ru) (h u _ (I.tok _) ru)
theorem JH {m:Str} {g:Addr} {pl:Sem Bool} {Q:Value × List Value→Shared→Prop} (I:Inv X pins σ H s) (e:H a = some (.ins C dx fs)) (c:Cls X.K C) (k:Meth X.K C m g) (l:fs.lookup m = none)
    (h:Q (.ref g,[.ref a]) s):wpAny (model X.prog X.w) A (getMethod (.ref a) m pl) Q E s:=by
  obtain ⟨mA,O,r,_,_,_⟩:=Hm I.hok e
  have hn:mA m = none:=vK.none_of (by rw [← l]; exact r m)
  exact get_meth I.kIn O (c.get m) k.at_ k.fn hn h
theorem abN {y:V} {u:Value} {Q:Unit→Shared→Prop} (I:Inv X pins σ H s) (e:H a = some (.ins C dx fs)) (c:Cls X.K C) (n:dY X.K C f) (hl:fs.length < 1000) (ry:RelV y u)
    (h:∀ s',Inv X pins σ (upd H a (.ins C dx (lr f y fs))) s'→Q () s'):wpAny (model X.prog X.w) A (setAttr (.ref a) f u) Q E s:=by
  obtain ⟨mA,O,r,wi,_,ho⟩:=Hm I.hok e
  have hz:(fs.map (·.1)).length ≤ sizeLine:=by rw [List.length_map,sizeLine_eq]; omega
  refine set_map I.kIn O c.sa c.po n.taker c.hd wi hz fun h' O' sb=>h _ ?_
  have hd:∃ o,h'.get? dx = some o:=let ⟨o,_,_,e',_⟩:=O'.ns; ⟨o,e'⟩
  refine I.write (x:=a) (e:=dx) (by rw [e]; exact True.intro) (.inr ho) (fun b q hb z=>(sb.2 b hb).trans z) hd ?_
  refine ⟨by rw [aV O.ne]; exact ho,?_,O.ne,O'.obj,_,O'.ns,fun g=>?_,fun g hg=>?_⟩
  · have:=Fe f y fs; omega
  · show vK ((lr f y fs).lookup g) (if g = f then some u else mA g)
    rw [Fg]
    by_cases q:g = f
    · rw [if_pos q,if_pos q]; exact ry
    · rw [if_neg q,if_neg q]; exact r g
  · by_cases q:g = f
    · rw [q]; exact (Df f y fs).1
    · refine (Df f y fs).2 g (wi g fun z=>hg ?_)
      show (if g = f then some u else mA g) = none
      rw [if_neg q]; exact z
theorem Inv.made (I:Inv X pins σ H s):Inv X pins σ (upd (upd H s.heap.objs.size (.own (s.heap.objs.size + 1))) (s.heap.objs.size + 1) (.ins C s.heap.objs.size []))
    { s with heap:=(s.heap.push PySem.W.emptyDict).push (PySem.W.instObj C s.heap.objs.size) }:=by
  have e1:(s.heap.push PySem.W.emptyDict).get? s.heap.objs.size = some PySem.W.emptyDict:=Heap.get?_push_size s.heap rfl
  have e2:((s.heap.push PySem.W.emptyDict).push (PySem.W.instObj C s.heap.objs.size)).get? (s.heap.objs.size + 1) = some (PySem.W.instObj C s.heap.objs.size):=by
    have:=Heap.get?_push_size (s.heap.push PySem.W.emptyDict) (o:=PySem.W.instObj C s.heap.objs.size) rfl
    rwa [Heap.size_push] at this
  have e3:(s.heap.push PySem.W.emptyDict).Ns s.heap.objs.size (fun _=>none):=⟨PySem.W.emptyDict,#[],_,e1,rfl,(fun e he=>absurd he (by simp)),fun _=>rfl⟩
  have I1:=I.laid (a:=s.heap.objs.size) (o:=.own (s.heap.objs.size + 1)) (h':=s.heap.push PySem.W.emptyDict) (t':=s.toks) (fun b u q=>Heap.get?_push_of_some _ q) (Nat.le_refl _) ⟨_,e1⟩
  refine I1.laid (a:=s.heap.objs.size + 1) (o:=.ins C s.heap.objs.size []) (t':=s.toks) (fun b u q=>Heap.get?_push_of_some _ q) (Nat.le_of_eq (Heap.size_push _ _)) ?_
  have ne:s.heap.objs.size ≠ s.heap.objs.size + 1:=Nat.ne_of_lt (Nat.lt_succ_self _)
  refine ⟨by rw [aV ne,aW],Nat.zero_le _,ne,e2,fun _=>none,(Heap.Ns1.of_empty e3).at fun o q=>Heap.get?_push_of_some _ q,fun _=>True.intro,fun y hy=>absurd rfl hy⟩
theorem attr_of {prog:Program} {w:World} {env:Env} {e:Expr} {f:Str} {pos:Pos} {s:Shared} {Q:Value→Shared→Prop} (hb:attributeBase e f env (eval e env) = eval e env)
    (h:wpAny (model prog w) A (eval e env) (fun o s₁=>wpAny (model prog w) A (getAttr o f true) Q E s₁) E s):wpAny (model prog w) A (eval (.Attribute e f pos) env) Q E s :=
  Attribute_any_ h (by rw [arm_eval_Attribute,hb])
end
def tFld (K:PySem.W.Frag) (ta:TE) (f:Str):TE:=fun σ H Q=>ta σ H fun x H1=>∃ a C dx fs v,x = .ref a∧H1 a = some (.ins C dx fs)∧Cls K C∧dY K C f∧fs.lookup f = some v∧Q v H1
def sFld (K:PySem.W.Frag) (ta tv:TE) (f:Str):TS:=fun D σ H=>tv σ H fun y H1=>ta σ H1 fun x H2=>∃ a C dx fs,x = .ref a∧H2 a = some (.ins C dx fs)∧Cls K C∧dY K C f∧fs.length < 1000 ∧
  D.nx σ (upd H2 a (.ins C dx (lr f y fs)))
section
variable {X:Cx} {o e value:Expr} {f:Str} {pos pos' tpos:Pos} {ta tv:TE}
theorem pe_fld (he:PE X e ta) (hb:attributeBase e f X.env (eval e X.env) = eval e X.env):PE X (.Attribute e f pos) (tFld X.K ta f):=by
  intro pins s σ H Q I h
  refine attr_of hb (thn (he pins s σ H _ I h) fun u s1 ⟨x,H1,I1,rx,a,C,dx,fs,v,ex,ea,c,n,l,q⟩=>?_)
  subst ex
  obtain rfl:u = Value.ref a:=rx
  exact aa6 I1 ea c n l fun u' s2 I2 ru=>⟨v,H1,I2,ru,q⟩
theorem abE (ha:PE X o ta) (hv:PE X value tv) (hs:swapsWith value (some (.Attribute o f pos')) pos.line X.env = pure false):PS X (.Assign [.Attribute o f pos'] value pos) (sFld X.K ta tv f):=by
  intro pins s σ H D I h
  refine plainObj_wpAny_Assign_Attribute (thn (hv pins s σ H _ I h) fun u s1 ⟨y,H1,I1,ry,q⟩=>thn (ha pins s1 σ H1 _ I1 q) fun ov s2 ⟨x,H2,I2,rx,a,C,dx,fs,ex,ea,c,n,l,q2⟩=>?_) hs
  subst ex
  obtain rfl:ov = Value.ref a:=rx
  exact abN I2 ea c n l ry fun s3 I3=>⟨σ,_,I3,q2⟩
end
section
variable {X:Cx} {pins:List (Addr × Obj)} {σ:St} {H:Hp} {s:Shared} {A:Around} {E:Value→Shared→Prop} {Q:Value→Shared→Prop} {c:Value} {b:Bool}
inductive CJ (K:PySem.W.Frag) (H:Hp):V→Value→Prop where
  | non:CJ K H .non (.type "NoneType")
  | bl (x:Bool):CJ K H (.bl x) (.type "bool")
  | int (i:Int):CJ K H (.int i) (.type "int")
  | str (x:Str):CJ K H (.str x) (.type "str")
  | flt (x:UInt64):CJ K H (.flt x) (.type "float")
  | lst {a:Addr} {xs:List V} (e:H a = some (.lst xs)):CJ K H (.ref a) (.type "list")
  | frz {a:Addr} {o:Obj} {xs:List V} (e:H a = some (.frz o (.lst xs))):CJ K H (.ref a) (.type "list")
  | tup {a:Addr} {xs:List V} (e:H a = some (.tup xs)):CJ K H (.ref a) (.type "tuple")
  | dK {a:Addr} {kvs:List (Key × V)} (e:H a = some (.dK kvs)):CJ K H (.ref a) (.type "dict")
  | dT {a:Addr} {kvs:List (List Key × V)} (e:H a = some (.dT kvs)):CJ K H (.ref a) (.type "dict")
  | ins {a C dx:Addr} {fs:List (Str × V)} (e:H a = some (.ins C dx fs)) (cl:Cls K C) (ha:PySem.W.findIn K (.ref C) "__class__" = some (some (.builtin "object.__class__")))
      (hn:PySem.W.specialIn K (.builtin "object.__class__") "__get__" = some (some (.builtin "getset_descriptor.__get__"))) (htk:PySem.W.takesIn K (.builtin "object.__class__") = some true)
      (hm:PySem.W.mroIn K C (.type "object") = some true):CJ K H (.ref a) (.ref C)
theorem acN {x:V} {u t:Value} (I:Inv X pins σ H s) (rx:RelV x u) (ty:CJ X.K H x t) (e:PySem.W.kitOne X.K t c = some b) (h:∀ tk,Q (.bool b) { s with toks:=tk }) :
    wpAny (model X.prog X.w) A (call (.builtin "isinstance") [u,c]) Q E s:=by
  cases ty with
  | non=>cases (show u = Value.none from rx); exact PySem.W.kia_one PySem.W.kitx_none I.kIn True.intro e (fun z=>nomatch z) h
  | bl y=>cases (show u = Value.bool y from rx); exact PySem.W.kia_one PySem.W.kitx_bool I.kIn True.intro e (fun z=>nomatch z) h
  | int i=>obtain ⟨t,q⟩:=(show ∃ t,u = Value.int i t from rx); cases q; exact PySem.W.kia_one PySem.W.kitx_int I.kIn True.intro e (fun z=>nomatch z) h
  | str y=>obtain ⟨t,q⟩:=(show ∃ t,u = Value.str y t from rx); cases q; exact PySem.W.kia_one PySem.W.kitx_str I.kIn True.intro e (fun z=>nomatch z) h
  | flt y=>obtain ⟨t,q⟩:=(show ∃ t,u = Value.float y t from rx); cases q; exact PySem.W.kia_one PySem.W.kitx_float I.kIn True.intro e (fun z=>nomatch z) h
  | @lst a xs ea =>
    cases (show u = Value.ref a from rx)
    obtain ⟨_,_,n,_,h1⟩:=(show cU X.prog X.w H s.heap a (.lst xs) from I.hok a _ ea)
    exact PySem.W.kia_one PySem.W.kitx_list I.kIn ⟨_,h1,rfl⟩ e (fun z=>nomatch z) h
  | @frz a ob xs ea =>
    cases (show u = Value.ref a from rx)
    obtain ⟨_,_,_,n,_,h1⟩:=(show cU X.prog X.w H s.heap a (.frz ob (.lst xs)) from I.hok a _ ea)
    exact PySem.W.kia_one PySem.W.kitx_list I.kIn ⟨_,h1,rfl⟩ e (fun z=>nomatch z) h
  | @tup a xs ea =>
    cases (show u = Value.ref a from rx)
    obtain ⟨_,_,_,p⟩:=(show cU X.prog X.w H s.heap a (.tup xs) from I.hok a _ ea)
    obtain ⟨o,h1,h2,_⟩:=p
    exact PySem.W.kia_one PySem.W.kitx_tuple I.kIn ⟨o,h1,h2⟩ e (fun z=>nomatch z) h
  | @dK a kvs ea =>
    cases (show u = Value.ref a from rx)
    obtain ⟨_,_,vs,_,p⟩:=(show cU X.prog X.w H s.heap a (.dK kvs) from I.hok a _ ea)
    obtain ⟨o,es,ep,h1,h2,_⟩:=p
    exact PySem.W.kia_one PySem.W.kitx_dict I.kIn ⟨o,h1,h2.1⟩ e (fun z=>nomatch z) h
  | @dT a kvs ea =>
    cases (show u = Value.ref a from rx)
    obtain ⟨_,_,xs,_,o,es,ep,h1,h2,_⟩:=(show cU X.prog X.w H s.heap a (.dT kvs) from I.hok a _ ea)
    exact PySem.W.kia_one PySem.W.kitx_dict I.kIn ⟨o,h1,h2.1⟩ e (fun z=>nomatch z) h
  | @ins a C dx fs ea cl ha hn htk hm =>
    cases (show u = Value.ref a from rx)
    obtain ⟨mA,O,_⟩:=Hm I.hok ea
    obtain ⟨od,J,_⟩:=O.look
    exact PySem.W.kia_one (PySem.W.kitx_own (cl.get _) cl.hd ha hn htk hm) I.kIn J e (fun z=>nomatch z) h
end
end L2
namespace L2
open PySem PySem.Spec PyProof.Rows
structure gJ (k:Nat) (A:Around):Prop where
  hd:A.handled = none
  dp:A.depth + 3 * k + 5 < recursionLimit
  un:A.units + 16 * k + 200 < cLine
theorem gJ.mono {j k:Nat} {A:Around} (r:gJ k A) (h:j ≤ k):gJ j A:=⟨r.hd,by have:=r.dp; omega,by have:=r.un; omega⟩
theorem gJ.deeper {k:Nat} {A:Around} (r:gJ (k + 1) A) (env:Env):gJ k (A.deeper env) :=
  ⟨r.hd,by have:=r.dp; show A.depth + 1 + 3 * k + 5 < _; omega,by have:=r.un; show A.units + 3 + 16 * k + 200 < _; omega⟩
theorem gJ.in1 {k:Nat} {A:Around} (r:gJ (k + 1) A):gJ k A.in1 :=
  ⟨r.hd,by have:=r.dp; show A.depth + 3 * k + 5 < _; omega,by have:=r.un; show A.units + 1 + 16 * k + 200 < _; omega⟩
theorem abi {A:Around} {C:Addr} {us:List Value} {kw:List (Str × Value)}:(A.under (.builtin "type.__call__" ⟨.ref C :: us,kw⟩)).depth = A.depth + 1:=by
  first | rfl | simp [Around.under,Code.weight,Code.isCreation,Code.isGuard,Code.isCaller,Code.frames,Code.isFrame,guardIds]
theorem abj {A:Around} {C:Addr} {us:List Value} {kw:List (Str × Value)}:(A.under (.builtin "type.__call__" ⟨.ref C :: us,kw⟩)).units = A.units + 1:=by
  first | rfl | simp [Around.under,Code.cUnits,Code.frames,Code.isFrame]
theorem gJ.make {k:Nat} {A:Around} (r:gJ (k + 1) A) (C:Addr) (us:List Value) (kw:List (Str × Value)):gJ k (A.under (.builtin "type.__call__" ⟨.ref C :: us,kw⟩)) :=
  ⟨r.hd,by have:=r.dp; rw [abi]; omega,by have:=r.un; rw [abj]; omega⟩
theorem gJ.depth {k:Nat} {A:Around} (r:gJ k A):A.depth < recursionLimit:=by have:=r.dp; omega
theorem gJ.units {k:Nat} {A:Around} (r:gJ k A):A.units + 64 < cLine:=by have:=r.un; omega
def Dq:TA:=fun _ H Q=>Q [] H
def zc (ta:TE) (tr:TA):TA:=fun σ H Q=>ta σ H fun x H1=>tr σ H1 fun xs H2=>Q (x :: xs) H2
section
variable {X:Cx} {e:Expr} {es:List Expr} {te:TE} {t:TA} {pos:Pos}
theorem iG:PA X [] Dq:=fun _ _ _ _ H Q I h=>Calls.spliced_nil ⟨[],H,I,.nil,h⟩
theorem cB (ha:PE X e te) (hr:PA X es t) (hs:starEach (e :: es) X.env = (false,eval e X.env) :: starEach es X.env:=by rfl):PA X (e :: es) (zc te t):=by
  intro pos pins s σ H Q I h
  rw [hs]
  show wpAny _ _ (spliced ((false,eval e X.env) :: backTo pos (starEach es X.env))) _ _ s
  refine Calls.spliced_cons (thn (ha pins s σ H _ I h) fun u s1 ⟨x,H1,I1,r1,q1⟩=>?_)
  exact thn (hr pos pins s1 σ H1 _ I1 q1) fun us s2 ⟨xs,H2,I2,r2,q2⟩=>⟨x :: xs,H2,I2,.cons r1 r2,q2⟩
def tTup (t:TA):TE:=fun σ H Q=>t σ H fun xs H1=>xs.length ≤ sizeLine∧∀ p,H1 p = none→Q (.ref p) (upd H1 p (.tup xs))
def tLst (t:TA):TE:=fun σ H Q=>t σ H fun xs H1=>xs.length ≤ sizeLine∧∀ p,H1 p = none→Q (.ref p) (upd H1 p (.lst xs))
theorem pe_tup {x1} (h:PA X es t):PE X (.Tuple es x1 pos) (tTup t):=by
  intro pins s σ H Q I hq
  refine wpAny_Tuple_spliced (thn (h pos pins s σ H _ I hq) fun us s1 ⟨xs,H1,I1,r,z,q⟩=>⟨by rw [← r.length]; exact z,?_⟩)
  have hf:H1 s1.heap.objs.size = none:=I1.hok.fresh (Nat.le_refl _)
  refine ⟨.ref s1.heap.objs.size,upd H1 s1.heap.objs.size (.tup xs),I1.laid (t':=s1.toks) (fun b u e=>Heap.get?_push_of_some _ e) (Nat.le_refl _) ?_,rfl,q _ hf⟩
  exact ⟨z,us,r,⟨_,Heap.get?_push_size _ rfl,rfl,_,rfl⟩⟩
theorem pe_lst (h:PA X es t):PE X (.List es pos) (tLst t):=by
  intro pins s σ H Q I hq
  refine wpAny_List_spliced (thn (h pos pins s σ H _ I hq) fun us s1 ⟨xs,H1,I1,r,z,q⟩=>⟨by rw [← r.length]; exact z,?_⟩)
  have hf:H1 s1.heap.objs.size = none:=I1.hok.fresh (Nat.le_refl _)
  refine ⟨.ref s1.heap.objs.size,upd H1 s1.heap.objs.size (.lst xs),I1.laid (t':=s1.toks) (fun b u e=>Heap.get?_push_of_some _ e) (Nat.le_refl _) ?_,rfl,q _ hf⟩
  exact ⟨z,us,0,r,Heap.get?_push_size _ rfl⟩
end
abbrev Sp:=List V→Hp→VK→XK→Prop
abbrev CXT:=List Env→Hp→Shared→XK→Value→Shared→Prop
structure Env0 (P:Program) (w:World) (K:PySem.W.Frag) (mg:Str→Option Value) (base:Heap) (A:Around) (outer:List Env) (s:Shared) (H:Hp):Prop where
  frames:A.frames = some outer
  mod:Mod K mg base
  bs:∀ b o,base.get? b = some o→s.heap.get? b = some o∧H b = none
  bsz:base.objs.size ≤ s.heap.objs.size
  CT:s.heap.FunFrames base outer
  frf:∀ b ∈ frs outer,H b = none
  hok:HOk P w H s.heap
  bare:AllBare s.gens
def CE (outer:List Env) (P:Program) (w:World) (H:Hp) (s:Shared) (Q:VK) (u:Value) (s':Shared):Prop :=
  ∃ v H',s'.os = s.os∧AllBare s'.gens∧Un (frs outer) [] H H' s.heap s'.heap∧HOk P w H' s'.heap∧RelV v u∧Q v H'
def CR (CX:CXT) (outer:List Env) (P:Program) (w:World) (H:Hp) (s:Shared) (Q:VK) (E:XK) (r:Result) (s':Shared):Prop :=
  match r with
  | .ok (.ret u)=>CE outer P w H s Q u s'
  | .ok _=>False
  | .error e=>CX outer H s E e s'
structure bC (P:Program) (w:World) (K:PySem.W.Frag) (mg:Str→Option Value) (base:Heap) (CX:CXT) (k:Nat) (f:Addr) (fd:FuncData) (ps:List Str) (sp:Sp):Prop where
  len:∀ vs H Q E,sp vs H Q E→vs.length = ps.length
  run:∀ (A:Around) (outer:List Env) (s:Shared) (H:Hp) (args:Args) (us:List Value) (vs:List V) (Q:VK) (E:XK),gJ k A→Env0 P w K mg base A outer s H→BindsTo s fd args (ps.zip us)→Vals vs us→sp vs H Q E →
    codeAny (model P w) A (.call (.ref f) args) (CR CX outer P w H s Q E) s
theorem bC.mono {P:Program} {w:World} {K:PySem.W.Frag} {mg:Str→Option Value} {base:Heap} {CX:CXT} {j k:Nat} {f:Addr} {fd:FuncData} {ps:List Str} {sp:Sp} (F:bC P w K mg base CX j f fd ps sp) (h:j ≤ k) :
    bC P w K mg base CX k f fd ps sp:=⟨F.len,fun A outer s H args us vs Q E hr=>F.run A outer s H args us vs Q E (hr.mono h)⟩
theorem bC.imp {P:Program} {w:World} {K:PySem.W.Frag} {mg:Str→Option Value} {base:Heap} {CX:CXT} {k:Nat} {f:Addr} {fd:FuncData} {ps:List Str} {sp sp':Sp} (F:bC P w K mg base CX k f fd ps sp)
    (h:∀ vs H Q E,sp' vs H Q E→sp vs H Q E):bC P w K mg base CX k f fd ps sp' :=
  ⟨fun vs H Q E q=>F.len vs H Q E (h _ _ _ _ q),fun A outer s H args us vs Q E hr he hb hv hs=>F.run A outer s H args us vs Q E hr he hb hv (h _ _ _ _ hs)⟩
theorem Env0.make {P:Program} {w:World} {K:PySem.W.Frag} {mg:Str→Option Value} {base:Heap} {A:Around} {outer:List Env} {s:Shared} {H:Hp} (e:Env0 P w K mg base A outer s H) (C:Addr) (us:List Value) (kw:List (Str × Value)) :
    Env0 P w K mg base (A.under (.builtin "type.__call__" ⟨.ref C :: us,kw⟩)) outer s H:=⟨by first | exact e.frames | (simpa [Around.under,Code.envs,Code.isFrame,pushEnvs] using e.frames),e.mod,e.bs,e.bsz,e.CT,e.frf,e.hok,e.bare⟩
theorem Env0.in1 {P:Program} {w:World} {K:PySem.W.Frag} {mg:Str→Option Value} {base:Heap} {A:Around} {outer:List Env} {s:Shared} {H:Hp} (e:Env0 P w K mg base A outer s H) :
    Env0 P w K mg base A.in1 outer s H:=⟨e.frames,e.mod,e.bs,e.bsz,e.CT,e.frf,e.hok,e.bare⟩
section
variable {X:Cx} {pins:List (Addr × Obj)} {σ:St} {H:Hp} {s s':Shared}
theorem Inv.env0 (I:Inv X pins σ H s):Env0 X.prog X.w X.K X.mg X.base X.A X.stack s H :=
  ⟨I.ok.frames,I.ok.mod,I.bs,Nat.le_trans I.ok.bsz I.sz,I.stack,I.acp,I.hok,I.bare⟩
theorem Inv.after {Q:VK} {u:Value} (I:Inv X pins σ H s) (h:CE X.stack X.prog X.w H s Q u s'):EP X pins σ Q u s':=by
  obtain ⟨v,H',os,bare,un,hok,r,q⟩:=h
  obtain ⟨hh,g,d,t,os'⟩:=s'
  obtain rfl:os' = s.os:=os
  exact ⟨v,H',I.call (h':=hh) (g':=g) (d':=d) (t':=t) (ch:=[]) un hok bare (fun b z=>absurd z (by simp)),r,q⟩
end
def Z8 (sp:Sp) (dvs:List V) (E:XK) (t:TA):TE:=fun σ H Q=>t σ H fun vs H1=>sp (vs ++ dvs) H1 Q E
def tMeth (C:Addr) (m:Str) (sp:Sp) (dvs:List V) (E:XK) (ta:TE) (t:TA):TE:=fun σ H Q=>ta σ H fun x H1=>∃ a dx fs,x = .ref a∧H1 a = some (.ins C dx fs)∧fs.lookup m = none ∧
  t σ H1 fun vs H2=>sp (x :: (vs ++ dvs)) H2 Q E
def tMake (C:Addr) (sp:Sp) (dvs:List V) (E:XK) (t:TA):TE:=fun σ H Q=>t σ H fun vs H1=>∀ x dx,H1 x = none→H1 dx = none→dx ≠ x →
  sp (.ref x :: (vs ++ dvs)) (upd (upd H1 dx (.own x)) x (.ins C dx [])) (fun v H2=>v = .non∧Q (.ref x) H2) E
def Binds (K:PySem.W.Frag) (fd:FuncData) (ps:List Str) (ds:List Value):Prop :=
  ∀ (s:Shared) (us:List Value),K.In s.heap→(us ++ ds).length = ps.length→BindsTo s fd ⟨us,[]⟩ (ps.zip (us ++ ds))
theorem Binds.all {K:PySem.W.Frag} {fd:FuncData} {ps:List Str} (h:∀ us:List Value,us.length = ps.length→bindArgs fd ⟨us,[]⟩ = pure (ps.zip us)):Binds K fd ps []:=fun s us _ hl=>by
  rw [List.append_nil] at hl ⊢
  exact .of_eq (h us hl)
def qz (CX:CXT) (X:Cx) (E:XK):Prop:=∀ (pins:List (Addr × Obj)) (σ:St) (H:Hp) (s:Shared) (e:Value) (s':Shared),Inv X pins σ H s→CX X.stack H s E e s'→X.xe e s'
section
variable {X:Cx} {CX:CXT} {k:Nat} {f C:Addr} {fd:FuncData} {ps:List Str} {sp:Sp} {dvs:List V} {ds:List Value} {E:XK} {x m:Str} {p pos apos:Pos} {e o:Expr} {es:List Expr} {ta:TE} {t:TA}
theorem Wy {pins:List (Addr × Obj)} {σ:St} {H:Hp} {s:Shared} {Q:VK} {us:List Value} {vs:List V} (F:bC X.prog X.w X.K X.mg X.base CX k f fd ps sp) (hr:gJ k X.A) (hb:Binds X.K fd ps ds) (hd:Vals dvs ds) (hx:qz CX X E)
    (I:Inv X pins σ H s) (r:Vals vs us) (h:sp (vs ++ dvs) H Q E):wpAny (model X.prog X.w) X.A (call (.ref f) us) (EP X pins σ Q) X.xe s:=by
  have r2:Vals (vs ++ dvs) (us ++ ds):=r.append hd
  have hl:(us ++ ds).length = ps.length:=by rw [← r2.length]; exact F.len _ _ _ _ h
  refine wpAny_call (codeAny_mono (F.run X.A X.stack s H ⟨us,[]⟩ (us ++ ds) (vs ++ dvs) Q E hr I.env0 (hb s us I.kIn hl) r2 h) fun r s' hq=>?_)
  cases r with
  | error e=>exact hx pins σ H s e s' I hq
  | ok fl =>
    cases fl with
    | ret u=>exact I.after hq
    | next=>exact False.elim hq
    | brk=>exact False.elim hq
    | cont=>exact False.elim hq
theorem bw (F:bC X.prog X.w X.K X.mg X.base CX k f fd ps sp) (hr:gJ k X.A) (hg:Gl X x) (hm:X.mg x = some (.ref f)) (hk:PySem.W.keepIn X.K (.ref f) = true) (hb:Binds X.K fd ps ds) (hd:Vals dvs ds) (hx:qz CX X E)
    (ha:PA X (e :: es) t) (hdb:(x == ("__debug__":Str)) = false:=by decide) (he:starEach (e :: es) X.env = (false,eval e X.env) :: starEach es X.env:=by rfl) (hpl:(backTo pos (starEach es X.env)).any (·.1) = false:=by rfl) :
    PE X (.Call (.Name x p) (e :: es) [] pos) (Z8 sp dvs E t):=by
  intro pins s σ H Q I h
  refine wpAny_Call_Name_kw (Bt I hg hm ?_ hdb)
  refine PySem.W.callWith_K (h₀:=X.base) I.ok.mod.kin hk (thn (ha pos pins s σ H _ I h) fun us s1 ⟨vs,H1,I1,r,q⟩=>⟨I1.kIn,?_⟩) he hpl
  exact Wy F hr hb hd hx I1 r q
theorem pe_meth0 {pl:Sem Bool} (he:PE X o ta) (c:Cls X.K C) (hm:Meth X.K C m f) (F:bC X.prog X.w X.K X.mg X.base CX k f fd ps sp) (hr:gJ k X.A) (hb:Binds X.K fd ps ds) (hd:Vals dvs ds) (hx:qz CX X E)
    (ht:eval (.Call (.Attribute o m apos) [] [] pos) X.env = (do
      let ov ← eval o X.env
      standAt apos.atName
      let (f,first) ← holding [ov] (getMethod ov m pl)
      callWith pos f first (backTo pos (starEach [] X.env)) (backToKw pos (keywordEach [] X.env))):=by rfl) :
    PE X (.Call (.Attribute o m apos) [] [] pos) (tMeth C m sp dvs E ta Dq):=by
  intro pins s σ H Q I h
  refine PySem.W.methodCall_KW (pl:=pl) (thn (he pins s σ H _ I h) fun u s1 ⟨x,H1,I1,rx,a,dx,fs,ex,ea,l,q⟩=>?_) ht
  subst ex
  obtain rfl:u = Value.ref a:=rx
  refine JH I1 ea c hm l ?_
  exact PySem.W.callWith_K0 (first:=[.ref a]) I1.kIn hm.kp (Wy (us:=[.ref a]) (vs:=[.ref a]) F hr hb hd hx I1 (.cons rfl .nil) q)
structure Mk (K:PySem.W.Frag) (C f:Addr):Prop where
  makes:PySem.W.makesIn K C = true
  init:PySem.W.findIn K (.ref C) "__init__" = some (some (.ref f))
  fn:PySem.W.isFn K (.ref f) = true
  kp:PySem.W.keepIn K (.ref C) = true
theorem ZQ {pins:List (Addr × Obj)} {σ:St} {H:Hp} {s:Shared} {Q:VK} {us:List Value} {vs:List V} (M:Mk X.K C f) (F:bC X.prog X.w X.K X.mg X.base CX k f fd ps sp) (hr:gJ (k + 1) X.A) (hb:Binds X.K fd ps ds) (hd:Vals dvs ds)
    (hx:qz CX X E) (I:Inv X pins σ H s) (r:Vals vs us)
    (h:∀ x dx,H x = none→H dx = none→dx ≠ x→sp (.ref x :: (vs ++ dvs)) (upd (upd H dx (.own x)) x (.ins C dx [])) (fun v H2=>v = .non∧Q (.ref x) H2) E) :
    wpAny (model X.prog X.w) X.A (call (.ref C) us) (EP X pins σ Q) X.xe s:=by
  have hq:=h (s.heap.objs.size + 1) s.heap.objs.size (I.hok.fresh (Nat.le_succ _)) (I.hok.fresh (Nat.le_refl _)) (Nat.ne_of_lt (Nat.lt_succ_self _))
  have I2:=Inv.made (C:=C) I
  have r2:Vals (V.ref (s.heap.objs.size + 1) :: (vs ++ dvs)) (Value.ref (s.heap.objs.size + 1) :: (us ++ ds)):=.cons rfl (r.append hd)
  have hl:(Value.ref (s.heap.objs.size + 1) :: us ++ ds).length = ps.length:=by
    have e:=r2.length
    rw [F.len _ _ _ _ hq] at e
    exact e.symm
  refine wpAny_call (make_map (f:=f) I.kIn M.makes M.init (beq_iff_eq.mp M.fn) (codeAny_mono (F.run _ X.stack _ _ ⟨Value.ref (s.heap.objs.size + 1) :: us,[]⟩ (Value.ref (s.heap.objs.size + 1) :: (us ++ ds)) _ _ E (hr.make C us [])
    (I2.env0.make C us []) (hb _ (Value.ref (s.heap.objs.size + 1) :: us) I2.kIn hl) r2 hq) fun r s' hq'=>?_))
  cases r with
  | error e=>exact hx pins σ _ _ e s' I2 hq'
  | ok fl =>
    cases fl with
    | ret u =>
      obtain ⟨v,H',I3,rv,ev,q3⟩:=I2.after hq'
      subst ev
      exact ⟨rv,⟨V.ref (s.heap.objs.size + 1),H',I3,rfl,q3⟩⟩
    | next=>exact False.elim hq'
    | brk=>exact False.elim hq'
    | cont=>exact False.elim hq'
theorem BL (M:Mk X.K C f) (F:bC X.prog X.w X.K X.mg X.base CX k f fd ps sp) (hr:gJ (k + 1) X.A) (hg:Gl X x) (hm:X.mg x = some (.ref C)) (hb:Binds X.K fd ps ds) (hd:Vals dvs ds) (hx:qz CX X E)
    (ha:PA X (e :: es) t) (hdb:(x == ("__debug__":Str)) = false:=by decide) (he:starEach (e :: es) X.env = (false,eval e X.env) :: starEach es X.env:=by rfl) (hpl:(backTo pos (starEach es X.env)).any (·.1) = false:=by rfl) :
    PE X (.Call (.Name x p) (e :: es) [] pos) (tMake C sp dvs E t):=by
  intro pins s σ H Q I h
  refine wpAny_Call_Name_kw (Bt I hg hm ?_ hdb)
  refine PySem.W.callWith_K (h₀:=X.base) I.ok.mod.kin M.kp (thn (ha pos pins s σ H _ I h) fun us s1 ⟨vs,H1,I1,r,q⟩=>⟨I1.kIn,?_⟩) he hpl
  exact ZQ M F hr hb hd hx I1 r q
theorem BP (M:Mk X.K C f) (F:bC X.prog X.w X.K X.mg X.base CX k f fd ps sp) (hr:gJ (k + 1) X.A) (hg:Gl X x) (hm:X.mg x = some (.ref C)) (hb:Binds X.K fd ps ds) (hd:Vals dvs ds) (hx:qz CX X E)
    (hdb:(x == ("__debug__":Str)) = false:=by decide):PE X (.Call (.Name x p) [] [] pos) (tMake C sp dvs E Dq):=by
  intro pins s σ H Q I h
  refine wpAny_Call_Name_kw (Bt I hg hm ?_ hdb)
  exact PySem.W.callWith_K0 I.kIn M.kp (ZQ (us:=[]) M F hr hb hd hx I .nil h)
end
section
variable {X:Cx} {CX:CXT} {k:Nat} {f C:Addr} {fd:FuncData} {ps ks:List Str} {sp:Sp} {E:XK} {x m:Str} {p pos apos kpos:Pos} {e o:Expr} {es:List Expr} {kws:List Keyword} {te ta:TE} {t tk:TA} {nm:Option Str}
structure KBinds (K:PySem.W.Frag) (fd:FuncData) (ps ks:List Str) (g:List Value→List Value→List Value) (gV:List V→List V→List V):Prop where
  to:∀ (s:Shared) (us ws:List Value),K.In s.heap→(g us ws).length = ps.length→BindsTo s fd ⟨us,ks.zip ws⟩ (ps.zip (g us ws))
  rel:∀ {vs:List V} {us:List Value} {zs:List V} {ws:List Value},Vals vs us→Vals zs ws→Vals (gV vs zs) (g us ws)
variable {g:List Value→List Value→List Value} {gV:List V→List V→List V}
end
structure aO (N P:List Str) (sc:Scope):Prop where
  kind:sc.kind = .function
  co:sc.isCoroutine = false
  gen:sc.isGenerator = false
  nd:N.Nodup
  pre:N.take P.length = P
  par:∀ x ∈ P,sc.names.lookup x = some .local ∨ sc.names.lookup x = some .cell
  nofree:∀ y ∈ sc.names,y.2 ≠ .free
theorem Qx {kindOf:Str→Option NameKind} {x:Str}:∀ {binds:List (Str × Value)} {m:Str→Option Value},(∀ v,(x,v) ∉ binds)→bindL kindOf binds m x = m x
  | [],_,_=>rfl
  | (n,v) :: r,m,h=>by
    unfold bindL
    rw [Qx fun w hw=>h w (List.mem_cons_of_mem _ hw)]
    split
    · have:x ≠ n:=by rintro rfl; exact h v List.mem_cons_self
      simp [this]
    · rfl
theorem Qv {kindOf:Str→Option NameKind} {x:Str}:∀ {binds:List (Str × Value)} {m:Str→Option Value},(∀ v,(x,v) ∉ binds)→bindC kindOf binds m x = m x
  | [],_,_=>rfl
  | (n,v) :: r,m,h=>by
    unfold bindC
    rw [Qv fun w hw=>h w (List.mem_cons_of_mem _ hw)]
    split
    · rfl
    · have:x ≠ n:=by rintro rfl; exact h v List.mem_cons_self
      simp [this]
theorem Qw {kindOf:Str→Option NameKind} {x:Str} {v:Value}:∀ {P:List Str} {vs:List Value} {i:Nat} {m:Str→Option Value},P.Nodup→P[i]? = some x→vs[i]? = some v→kindOf x = some .local →
    bindL kindOf (P.zip vs) m x = some v
  | [],_,_,_,_,h,_,_=>by simp at h
  | _ :: _,[],_,_,_,_,h,_=>by simp at h
  | p :: P,w :: vs,0,m,nd,h1,h2,hk=>by
    simp at h1 h2; subst h1; subst h2
    show bindL kindOf ((p,w) :: P.zip vs) m p = _
    unfold bindL
    rw [Qx fun v hv=>(List.nodup_cons.mp nd).1 (List.of_mem_zip hv).1,if_pos hk]
    simp
  | p :: P,w :: vs,i + 1,m,nd,h1,h2,hk=>by
    show bindL kindOf ((p,w) :: P.zip vs) m x = _
    unfold bindL
    exact Qw (i:=i) (List.nodup_cons.mp nd).2 (by simpa using h1) (by simpa using h2) hk
theorem Qu {kindOf:Str→Option NameKind} {x:Str} {v:Value}:∀ {P:List Str} {vs:List Value} {i:Nat} {m:Str→Option Value},P.Nodup→P[i]? = some x→vs[i]? = some v→kindOf x ≠ some .local →
    bindC kindOf (P.zip vs) m x = some v
  | [],_,_,_,_,h,_,_=>by simp at h
  | _ :: _,[],_,_,_,_,h,_=>by simp at h
  | p :: P,w :: vs,0,m,nd,h1,h2,hk=>by
    simp at h1 h2; subst h1; subst h2
    show bindC kindOf ((p,w) :: P.zip vs) m p = _
    unfold bindC
    rw [Qv fun v hv=>(List.nodup_cons.mp nd).1 (List.of_mem_zip hv).1,if_neg hk]
    simp
  | p :: P,w :: vs,i + 1,m,nd,h1,h2,hk=>by
    show bindC kindOf ((p,w) :: P.zip vs) m x = _
    unfold bindC
    exact Qu (i:=i) (List.nodup_cons.mp nd).2 (by simpa using h1) (by simpa using h2) hk
def start (N:List Str) (vs:List V):St:=vs.map some ++ List.replicate (N.length - vs.length) none
def cxOf (CX:CXT) (P:Program) (w:World) (K:PySem.W.Frag) (mg:Str→Option Value) (base:Heap) (N:List Str) (qual:Str) (scope:Scope) (f:Addr) (cd:Value) (A:Around) (outer:List Env) (s:Shared) (H:Hp) (E:XK):Cx where
  prog:=P
  w:=w
  K:=K
  mg:=mg
  base:=base
  A:=A.deeper (envOfC qual scope s.heap.objs.size f cd)
  N:=N
  s₀:=s
  H₀:=H
  env:=envOfC qual scope s.heap.objs.size f cd
  outer:=outer
  stack:=envOfC qual scope s.heap.objs.size f cd :: outer
  ex:=[]
  calm:=true
  fn:=fun _=>true
  pn:=[]
  xe:=fun e s'=>wpAny (model P w) (A.deeper (envOfC qual scope s.heap.objs.size f cd)) (leaving (envOfC qual scope s.heap.objs.size f cd) e) (fun _ s''=>CX outer H s E e s'') (fun e' s''=>CX outer H s E e' s'') s'
theorem Yp {sc:Scope} {n:Nat} {x:Str} (h:sc.names.lookup x = some .cell):∃ c,(cellsFrom n sc.names []).lookup x = some c:=by
  have q:=PySem.W.cellsFrom_some sc.names n [] (.inl h)
  exact Option.isSome_iff_exists.mp q
theorem acL {CX:CXT} {P:Program} {w:World} {K:PySem.W.Frag} {mg:Str→Option Value} {base:Heap} {N ps:List Str} {qual:Str} {scope:Scope} {f:Addr} {cd:Value} {A:Around} {outer:List Env} {s s1:Shared} {H:Hp} {E:XK} {us:List Value} {vs:List V}
    (S:aO N ps scope) (hd:A.handled = none) (e0:Env0 P w K mg base A outer s H) (hl:vs.length = ps.length) (r:Vals vs us)
    (x:InCallC s s.heap.objs.size (bindL (envOfC qual scope s.heap.objs.size f cd).kindOf (ps.zip us) fun _=>none) (cellsFrom (s.heap.objs.size + 1) scope.names []) (bindC (envOfC qual scope s.heap.objs.size f cd).kindOf (ps.zip us) fun _=>none) s1) :
    Inv (cxOf CX P w K mg base N qual scope f cd A outer s H E) [] (start N vs) H s1:=by
  have hpl:ps.length ≤ N.length:=by have:=congrArg List.length S.pre; rw [List.length_take] at this; omega
  obtain ⟨h1,tk,rfl,hk⟩:=x.done
  have noA:∀ b:Addr,b ∉ (cxOf CX P w K mg base N qual scope f cd A outer s H E).ex:=fun b z=>absurd (show b ∈ ([]:List Addr) from z) (by simp)
  refine ⟨⟨e0.mod,S.kind,rfl,rfl,Nat.le_refl _,fun y z c h1 h2=>?_,fun y hy=>?_,fun y c _ h=>?_,fun _=>hd,Around.frames_deeper e0.frames,.inr ⟨rfl,rfl⟩,fun b z=>absurd z (noA b),e0.bs,e0.bsz,fun b _ _=>noA b,fun b z=>absurd z (noA b),e0.CT,e0.frf⟩,
    rfl,e0.bare,Un.kept hk,⟨_,x.toInCall.ns,fun i y v h1 h2 h3=>?_⟩,fun y c h=>⟨_,x.cell y c h⟩,e0.hok.fresh (Nat.le_refl _),fun y c h=>?_,fun p hp=>absurd (show p ∈ ([]:List (Addr × Obj)) from hp) (by simp),e0.hok.kept hk,?_⟩
  · exact name_of_addr x.apart (PySem.mem_of_lookup h1) (PySem.mem_of_lookup h2)
  · have hy:scope.names.lookup y = some .cell ∨ scope.names.lookup y = some .free:=hy
    rcases hy with hy | hy
    · exact Yp hy
    · exact absurd rfl (S.nofree _ (PySem.mem_of_lookup hy))
  · exact Nat.le_of_lt (x.above y c (PySem.mem_of_lookup h))
  · have hi:i < vs.length:=by
      unfold start at h2
      by_cases hi:i < vs.length
      · exact hi
      · rw [List.getElem?_append_right (by simpa using hi)] at h2
        rw [List.getElem?_replicate] at h2
        split at h2 <;> cases h2
    have ha:vs[i]? = some v:=by
      unfold start at h2
      rw [List.getElem?_append_left (by simpa using hi),List.getElem?_map] at h2
      cases e:vs[i]? with
      | none=>rw [e] at h2; cases h2
      | some a=>rw [e] at h2; cases h2; rfl
    obtain ⟨u,hu,rv⟩:=r.get ha
    have hp:ps[i]? = some y:=by
      rw [← S.pre,List.getElem?_take_of_lt (by omega)]; exact h1
    have ndP:ps.Nodup:=by rw [← S.pre]; exact S.nd.sublist (List.take_sublist _ _)
    refine ⟨u,rv,?_⟩
    rcases S.par y (List.mem_of_getElem? hp) with k | k
    · exact .inl ⟨k,Qw ndP hp hu k⟩
    · obtain ⟨c,e⟩:=Yp (n:=s.heap.objs.size + 1) k
      refine .inr ⟨.inl k,c,e,?_⟩
      have q:=x.cell y c e
      rw [Qu ndP hp hu (by show scope.names.lookup y ≠ _; rw [k]; decide)] at q
      exact q
  · exact e0.hok.fresh (Nat.le_of_lt (x.above y c (PySem.mem_of_lookup h)))
  · unfold start
    show _ = N.length
    rw [List.length_append,List.length_map,List.length_replicate]
    omega
theorem fn_of {CX:CXT} {P:Program} {w:World} {K:PySem.W.Frag} {mg:Str→Option Value} {base:Heap} {k:Nat} {f:Addr} {name qual:Str} {params:Arguments} {body:List Stmt} {scope:Scope} {dV kV doc pm cdv ct oc:Value} {an od:Option Addr}
    {osl:Array (Option Value)} {N ps:List Str} {sp:Sp} (lk:K.lookup f = some ⟨oc,od,.func (PySem.W.fnOf name qual params body scope dV kV doc pm an cdv ct),osl⟩) (hcd:PySem.W.codeIn K cdv qual = true) (S:aO N ps scope)
    (len:∀ vs H Q E,sp vs H Q E→vs.length = ps.length)
    (hbody:∀ (A:Around) (outer:List Env) (s:Shared) (H:Hp) (vs:List V) (Q:VK) (E:XK),gJ k (A.deeper (envOfC qual scope s.heap.objs.size f cdv))→sp vs H Q E →
      ∃ t,PSs (cxOf CX P w K mg base N qual scope f cdv A outer s H E) body t∧t { nx:=fun _ H'=>Q .non H',rt:=Q } (start N vs) H) :
    bC P w K mg base CX (k + 1) f (PySem.W.fnOf name qual params body scope dV kV doc pm an cdv ct) ps sp:=by
  refine ⟨len,fun A outer s H args us vs Q E hr e0 hb r hsp=>?_⟩
  have hl:=len _ _ _ _ hsp
  have KX:K.In s.heap:=e0.mod.kin.keeps fun b o e=>(e0.bs b o e).1
  have lim:s.heap.NoLimit:=e0.mod.nolimit.keeps fun b o e=>(e0.bs b o e).1
  have hkind:∀ y ∈ ps.zip us,scope.names.lookup y.1 = some .local ∨ (scope.names.lookup y.1 = some .cell∧((cellsFrom (s.heap.objs.size + 1) scope.names []).lookup y.1).isSome = true):=fun ⟨n,v⟩ hy=>by
    rcases S.par n (List.of_mem_zip hy).1 with q | q
    · exact .inl q
    · exact .inr ⟨q,PySem.W.cellsFrom_some _ _ _ (.inl q)⟩
  refine codeAny_call_function hr.depth (KX _ _ lk) rfl S.co S.gen rfl (PySem.W.codeRec_of KX hcd) (hb _ _ _ _ ?_)
  refine wpAny_newFunctionEnv_cells S.kind hkind fun env he s1 x=>?_
  subst he
  refine ⟨lim.keeps x.toInCall.keep,codeAny_func ?_⟩
  obtain ⟨t,ht,hq⟩:=hbody A outer s H vs Q E (hr.deeper _) hsp
  have I:Inv (cxOf CX P w K mg base N qual scope f cdv A outer s H E) [] (start N vs) H s1:=acL S hr.hd e0 hl r x
  refine wpAny_mono (ht [] s1 (start N vs) H _ I hq) (fun fl s' hs=>?_) fun e s' hs=>hs
  have fin:∀ {σ':St} {H':Hp} {v:V} {u:Value},Inv (cxOf CX P w K mg base N qual scope f cdv A outer s H E) [] σ' H' s'→RelV v u→Q v H'→CE outer P w H s Q u s' :=
    fun {σ' H' v u} J rv q=>⟨v,H',J.os,J.bare,J.base,J.hok,rv,q⟩
  cases fl with
  | ret u =>
    obtain ⟨v,σ',H',J,rv,q⟩:=hs
    exact fin J rv q
  | next =>
    obtain ⟨σ',H',J,q⟩:=hs
    exact fin (v:=V.non) (u:=Value.none) J rfl q
  | brk =>
    obtain ⟨_,_,_,q⟩:=hs
    exact False.elim q
  | cont =>
    obtain ⟨_,_,_,q⟩:=hs
    exact False.elim q
end L2
namespace L2
open PySem PySem.Spec PyProof.Rows
section
variable {X:Cx} {x:Str} {p pos:Pos} {e:Expr} {es:List Expr} {t:TA} {id T:String} {r:List V→Hp→VK→Prop}
def tCB (r:List V→Hp→VK→Prop) (t:TA):TE:=fun σ H Q=>t σ H fun vs H1=>r vs H1 Q
theorem xN (hc:mV X (.builtin id) r) (hg:Gl X x) (hm:X.mg x = none) (hv:bootBuiltins x = some (.builtin id)) (ha:PA X (e :: es) t) (hn:x ≠ "__name__":=by decide) (hdb:(x == ("__debug__":Str)) = false:=by decide)
    (he:starEach (e :: es) X.env = (false,eval e X.env) :: starEach es X.env:=by rfl) (hpl:(backTo pos (starEach es X.env)).any (·.1) = false:=by rfl):PE X (.Call (.Name x p) (e :: es) [] pos) (tCB r t):=by
  intro pins s σ H Q I h
  refine wpAny_Call_Name_kw (J4 I hg hm hv ?_ hn hdb)
  exact PyProof.Rows.callWith_builtin1 (thn (ha pos pins s σ H _ I h) fun us s1 ⟨vs,H1,I1,r1,q1⟩=>hc pins s1 σ H1 vs us Q I1 r1 q1) he hpl
theorem yf (hc:mV X (.type T) r) (hg:Gl X x) (hm:X.mg x = none) (hv:bootBuiltins x = some (.type T)) (ha:PA X (e :: es) t) (hn:x ≠ "__name__":=by decide) (hdb:(x == ("__debug__":Str)) = false:=by decide)
    (he:starEach (e :: es) X.env = (false,eval e X.env) :: starEach es X.env:=by rfl) (hpl:(backTo pos (starEach es X.env)).any (·.1) = false:=by rfl):PE X (.Call (.Name x p) (e :: es) [] pos) (tCB r t):=by
  intro pins s σ H Q I h
  refine wpAny_Call_Name_kw (J4 I hg hm hv ?_ hn hdb)
  exact PyProof.Rows.callWith_type1 (thn (ha pos pins s σ H _ I h) fun us s1 ⟨vs,H1,I1,r1,q1⟩=>hc pins s1 σ H1 vs us Q I1 r1 q1) he hpl
end
end L2
namespace HT
open PySem PyProof.Rows
section
open PySem.SeqAt
open PySem.AutoSeq1 (wpAny_loadPart')
open PySem.MeetsSeq PySem.MeetsSeq2 PySem.MeetsSeq3
end
section
variable {prog:Program} {w:World} {A:Around} {E:Value→Shared→Prop} {s:Shared}
def sIx (n d:Nat):Option Int→Nat
  | none=>d
  | some v=>if v < 0 then (v + (n:Int)).toNat else min v.toNat n
theorem ZR (n d:Nat):sIx n d none = d:=rfl
theorem Hu (n d k:Nat):sIx n d (some (k:Int)) = min k n:=by
  show (if (k:Int) < 0 then ((k:Int) + (n:Int)).toNat else min (k:Int).toNat n) = min k n
  rw [if_neg (by omega),Int.toNat_natCast]
end
end HT
namespace L2
open PySem PySem.Spec PyProof.Rows
abbrev TO:=St→Hp→(Option Int→Hp→Prop)→Prop
def PO (X:Cx) (e:Option Expr) (t:TO):Prop :=
  ∀ (pins:List (Addr × Obj)) (s:Shared) (σ:St) (H:Hp) (Q:Option Int→Hp→Prop),Inv X pins σ H s→t σ H Q →
    wpAny (model X.prog X.w) X.A (evalPart e X.env) (fun u s'=>∃ o H',Inv X pins σ H' s'∧IsPart u o∧Q o H') X.xe s
def tNoPart:TO:=fun _ H Q=>Q none H
def tPart (t:TE):TO:=fun σ H Q=>t σ H fun x H1=>∃ i,x = .int i∧Q (some i) H1
section
variable {X:Cx} {e:Expr} {te:TE} {lo hi:Option Expr} {tl th:TO} {pos p2:Pos}
theorem po_none:PO X none tNoPart:=by
  intro pins s σ H Q I h
  rw [evalPart_none]
  exact wpAny_pure ⟨none,H,I,.none,h⟩
theorem po_some (h:PE X e te):PO X (some e) (tPart te):=by
  intro pins s σ H Q I hw
  rw [evalPart_some]
  refine thn (h pins s σ H _ I hw) fun u s1 ⟨x,H1,I1,r1,q1⟩=>?_
  obtain ⟨i,rfl,q⟩:=q1
  obtain ⟨t,rfl⟩:=r1
  exact ⟨some i,H1,I1,.int i t,q⟩
def SlR (X:Cx) (r:V→Option Int→Option Int→Hp→VK→Prop):Prop :=
  ∀ (pins:List (Addr × Obj)) (s:Shared) (σ:St) (H:Hp) (x:V) (v vl vu:Value) (lo hi:Option Int) (sl:Addr) (Q:VK),Inv X pins σ H s→RelV x v→s.heap.IsSliceOf sl vl vu .none→IsPart vl lo→IsPart vu hi→r x lo hi H Q →
    ∃ T id,typeLookup (.type T) "__getitem__" = pure (some (.builtin id))∧s.TypeIs v T∧wpAny (model X.prog X.w) X.A (getItem v (.ref sl)) (EP X pins σ Q) X.xe s
theorem SlR.or {r r':V→Option Int→Option Int→Hp→VK→Prop} (h:SlR X r) (h':SlR X r'):SlR X (fun x lo hi H Q=>r x lo hi H Q ∨ r' x lo hi H Q):=by
  intro pins s σ H x v vl vu lo hi sl Q I rx hs pl pu q
  rcases q with q | q
  · exact h pins s σ H x v vl vu lo hi sl Q I rx hs pl pu q
  · exact h' pins s σ H x v vl vu lo hi sl Q I rx hs pl pu q
def tSl (r:V→Option Int→Option Int→Hp→VK→Prop) (te:TE) (tl th:TO):TE:=fun σ H Q=>te σ H fun x H1=>tl σ H1 fun l H2=>th σ H2 fun u H3=>r x l u H3 Q
theorem pe_slice {r:V→Option Int→Option Int→Hp→VK→Prop} (hr:SlR X r) (he:PE X e te) (hl:PO X lo tl) (hu:PO X hi th):PE X (.Subscript e (.Slice lo hi none p2) pos) (tSl r te tl th):=by
  intro pins s σ H Q I h
  refine Subscript_ (thn (he pins s σ H _ I h) fun v s1 ⟨x,H1,I1,r1,q1⟩=>?_)
  refine wpAny_Slice (thn (hl pins s1 σ H1 _ I1 q1) fun vl s2 ⟨l,H2,I2,pl,q2⟩=>thn (hu pins s2 σ H2 _ I2 q2) fun vu s3 ⟨u,H3,I3,pu,q3⟩=>?_)
  rw [evalPart_none]
  refine wpAny_pure ?_
  have I4:Inv X pins σ H3 { s3 with heap:=s3.heap.push { cls:=.type "slice",data:=.fields #[vl,vu,.none] } }:=I3.kept (t':=s3.toks) fun b ob q=>Heap.get?_push_of_some _ q
  obtain ⟨T,id,hT,ht,hg⟩:=hr pins { s3 with heap:=s3.heap.push { cls:=.type "slice",data:=.fields #[vl,vu,.none] } } σ H3 x v vl vu l u s3.heap.objs.size Q I4 r1 (Heap.IsSliceOf.new ..) pl pu q3
  show wpAny (model X.prog X.w) X.A (subscriptTail e (.Slice lo hi none p2) v (.ref s3.heap.objs.size)) (EP X pins σ Q) X.xe { s3 with heap:=s3.heap.push { cls:=.type "slice",data:=.fields #[vl,vu,.none] } }
  exact tail_any (ops:=[.ref s3.heap.objs.size,v]) ht hT hg (by with_unfolding_all rfl)
def cutV (xs:List V) (lo hi:Option Int):List V:=(xs.drop (HT.sIx xs.length 0 lo)).take (HT.sIx xs.length xs.length hi - HT.sIx xs.length 0 lo)
theorem Yy (xs:List V) (lo hi:Option Int):(cutV xs lo hi).length ≤ xs.length:=by
  unfold cutV
  rw [List.length_take,List.length_drop]
  omega
end
end L2
namespace L2
open PySem PySem.Spec PyProof.Rows
def ixN (n:Nat) (i:Int):Option Nat:=if 0 ≤ i then (if i < n then some i.toNat else none) else if -(n:Int) ≤ i then some (i + n).toNat else none
def atI {α:Type} (xs:List α) (i:Int):Option α:=(ixN xs.length i).bind fun j=>xs[j]?
theorem ixN_seq {n:Nat} {i:Int} {j:Nat} (h:ixN n i = some j):seqIndex? i n = some j∧j < n∧-(n:Int) ≤ i∧i < n:=by
  unfold ixN at h
  by_cases h0:0 ≤ i
  · rw [if_pos h0] at h
    by_cases h1:i < n
    · rw [if_pos h1] at h
      have e:i.toNat = j:=Option.some.inj h
      exact ⟨by rw [seqIndex_of h0 h1,e],by omega,by omega,h1⟩
    · rw [if_neg h1] at h; cases h
  · rw [if_neg h0] at h
    by_cases h1:-(n:Int) ≤ i
    · rw [if_pos h1] at h
      have e:(i + n).toNat = j:=Option.some.inj h
      exact ⟨by rw [seqIndex_neg (by omega) h1,e],by omega,h1,by omega⟩
    · rw [if_neg h1] at h; cases h
theorem RW {α:Type} {xs:List α} {i:Int} {v:α} (h:atI xs i = some v):∃ j,seqIndex? i xs.length = some j∧xs[j]? = some v∧j < xs.length∧-(xs.length:Int) ≤ i∧i < xs.length:=by
  unfold atI at h
  cases e:ixN xs.length i with
  | none=>rw [e] at h; cases h
  | some j =>
    rw [e] at h
    obtain ⟨h1,h2,h3,h4⟩:=ixN_seq e
    exact ⟨j,h1,h,h2,h3,h4⟩
theorem dH {α:Type} {xs:List α} {j:Nat} {v:α} (h:xs[j]? = some v):atI xs (j:Int) = some v:=by
  have hj:j < xs.length:=(List.getElem?_eq_some_iff.mp h).1
  have e:ixN xs.length (j:Int) = some j:=by
    unfold ixN
    rw [if_pos (by omega),if_pos (by omega)]; simp
  unfold atI; rw [e]; exact h
def Rt (b:Expr):Prop:=∀ o i,subscripted b false o i = operate [o,i] (getItem o i)
def IxR (X:Cx) (r:R2):Prop :=
  ∀ (value slice:Expr) (pins:List (Addr × Obj)) (s:Shared) (σ:St) (H:Hp) (x y:V) (v u:Value) (Q:VK),Inv X pins σ H s→RelV x v→RelV y u→r x y H Q →
    subscripted slice false v u = operate [v,u] (getItem v u)→wpAny (model X.prog X.w) X.A (subscriptTail value slice v u) (EP X pins σ Q) X.xe s
def MtR (X:Cx) (id:String) (r:V→List V→Hp→VK→Prop):Prop :=
  ∀ (pins:List (Addr × Obj)) (s:Shared) (σ:St) (H:Hp) (x:V) (xs:List V) (v:Value) (us:List Value) (Q:VK),Inv X pins σ H s→RelV x v→Vals xs us→r x xs H Q →
    wpAny (model X.prog X.w) X.A (call (.builtin id) (v :: us)) (EP X pins σ Q) X.xe s
section
variable {X:Cx} {a b:Expr} {ta tb:TE} {pos:Pos}
theorem IxR.or {r r':R2} (h:IxR X r) (h':IxR X r'):IxR X (fun x y H Q=>r x y H Q ∨ r' x y H Q):=by
  intro value slice pins s σ H x y v u Q I rx ry q hs
  rcases q with q | q
  · exact h value slice pins s σ H x y v u Q I rx ry q hs
  · exact h' value slice pins s σ H x y v u Q I rx ry q hs
theorem MtR.or {id:String} {r r':V→List V→Hp→VK→Prop} (h:MtR X id r) (h':MtR X id r'):MtR X id (fun x xs H Q=>r x xs H Q ∨ r' x xs H Q):=by
  intro pins s σ H x xs v us Q I rx rs q
  rcases q with q | q
  · exact h pins s σ H x xs v us Q I rx rs q
  · exact h' pins s σ H x xs v us Q I rx rs q
theorem pe_ix {r:R2} (hr:IxR X r) (ha:PE X a ta) (hb:PE X b tb) (hs:Rt b):PE X (.Subscript a b pos) (tOp r ta tb):=by
  intro pins s σ H Q I h
  exact Subscript_ (binT ha hb I h fun v u s2 x y H2 I2 rx ry q=>hr a b pins s2 σ H2 x y v u Q I2 rx ry q (hs _ _))
def rIxL (K:PySem.W.Frag):R2:=fun x y H Q=>∃ p xs i v,x = .ref p∧y = .int i∧SqL K H p xs∧atI xs i = some v∧Q v H
def rIxT (K:PySem.W.Frag):R2:=fun x y H Q=>∃ p xs i v,x = .ref p∧y = .int i∧SqT K H p xs∧atI xs i = some v∧Q v H
def rIxS:R2:=fun x y H Q=>∃ z i c,x = .str z∧y = .int i∧z.length ≤ sizeLine∧atI z.cps.toList i = some c∧Q (.str ⟨#[c]⟩) H
theorem ix_list:IxR X (rIxL X.K):=by
  intro value slice pins s σ H x y v u Q I rx ry h hs
  obtain ⟨p,xs,i,z,rfl,rfl,hq,he,q⟩:=h
  cases rx
  obtain ⟨t,rfl⟩:=ry
  obtain ⟨its,r,pl,hz⟩:=I.list hq
  obtain ⟨j,h1,h2,h3,h4,h5⟩:=RW he
  obtain ⟨w,ew,rw'⟩:=r.get h2
  have hl:=r.length
  have hn:=Dm
  have fin:EP X pins σ Q w s:=⟨z,H,I,rw',q⟩
  by_cases h0:0 ≤ i
  · have hj:i.toNat = j:=by
      rw [seqIndex_of h0 h5] at h1
      exact Option.some.inj h1
    exact item_listR pl.isList h0 (by omega) (by rw [hj]; simpa using ew) fin hs
  · have hj:(i + (its.toArray.size:Int)).toNat = j:=by
      rw [seqIndex_neg (by omega) h4] at h1
      rw [List.size_toArray,← hl]
      exact Option.some.inj h1
    exact subscriptTail_builtinR (x:=w) pl.isList.typeIs slot_list_getitem.lookup
      (wpAny_getItem_list_neg (Q:=fun r s'=>r = w∧EP X pins σ Q r s') pl.isList (by omega) (by rw [List.size_toArray] <;> omega) (by omega) (by rw [hj]; simpa using ew) ⟨rfl,fin⟩) hs
theorem ix_tup:IxR X (rIxT X.K):=by
  intro value slice pins s σ H x y v u Q I rx ry h hs
  obtain ⟨p,xs,i,z,rfl,rfl,hq,he,q⟩:=h
  cases rx
  obtain ⟨t,rfl⟩:=ry
  obtain ⟨its,r,pl,hz⟩:=I.tuple hq
  obtain ⟨j,h1,h2,h3,h4,h5⟩:=RW he
  obtain ⟨w,ew,rw'⟩:=r.get h2
  have hl:=r.length
  have hn:=Dm
  have fin:EP X pins σ Q w s:=⟨z,H,I,rw',q⟩
  exact subscriptTail_builtinR (x:=w) pl.typeIs slot_tuple_getitem.lookup
    (getItem_tuple (j:=j) (Q:=fun r s'=>r = w∧EP X pins σ Q r s') pl (by omega) (by omega) (by rw [List.size_toArray,← hl]; exact h1) (by simpa using ew) ⟨rfl,fin⟩) hs
theorem ix_str:IxR X rIxS:=by
  intro value slice pins s σ H x y v u Q I rx ry h hs
  obtain ⟨z,i,c,rfl,rfl,hz,he,q⟩:=h
  obtain ⟨t,rfl⟩:=rx
  obtain ⟨t',rfl⟩:=ry
  obtain ⟨j,h1,h2,h3,h4,h5⟩:=RW he
  have hl:z.cps.toList.length = z.length:=by simp [Str.length]
  rw [hl] at h1 h4 h5
  have hn:=Dm
  exact tail_any (typeIs_str s z t) slot_str_getitem.lookup (getItem_str (c:=c) (by
    have e1:decide (i < -(2 ^ 63:Int)) = false:=decide_eq_false (by omega)
    have e2:decide (i ≥ 2 ^ 63) = false:=decide_eq_false (by omega)
    rw [e1,e2,Bool.or_false]) (by rw [h1]; simpa using h2) ⟨.str ⟨#[c]⟩,H,I.tok _,⟨_,rfl⟩,q⟩) hs
def rIx (K:PySem.W.Frag):R2:=fun x y H Q=>rIxL K x y H Q ∨ rIxT K x y H Q ∨ rIxS x y H Q
theorem ix_seq:IxR X (rIx X.K):=ix_list.or (ix_tup.or ix_str)
theorem Inv.lst {pins:List (Addr × Obj)} {σ:St} {H:Hp} {s:Shared} {p:Addr} {xs:List V} (I:Inv X pins σ H s) (h:H p = some (.lst xs)) :
    ∃ (its:List Value) (n:Nat),Vals xs its∧s.heap.get? p = some { cls:=.type "list",data:=.seq its.toArray n }∧xs.length ≤ sizeLine:=by
  obtain ⟨z,its,n,r,e⟩:=I.hok p _ h
  exact ⟨its,n,r,e,z⟩
theorem Xg (lo hi:Option Int) (n:Nat):(sliceBounds lo hi none n).1 = ((HT.sIx n 0 lo:Nat):Int)∧(sliceBounds lo hi none n).2.1 = ((HT.sIx n n hi:Nat):Int)∧(sliceBounds lo hi none n).2.2 = 1:=by
  refine ⟨?_,?_,rfl⟩
  · cases lo with
    | none=>simp [sliceBounds,HT.sIx]
    | some i =>
      simp only [sliceBounds,HT.sIx,Option.getD_none,show (1:Int) > 0 by decide,if_true]
      by_cases h:i < 0
      · simp only [h,if_true] <;> omega
      · simp only [h,if_false] <;> omega
  · cases hi with
    | none=>simp [sliceBounds,HT.sIx]
    | some i =>
      simp only [sliceBounds,HT.sIx,Option.getD_none,show (1:Int) > 0 by decide,if_true]
      by_cases h:i < 0
      · simp only [h,if_true] <;> omega
      · simp only [h,if_false] <;> omega
theorem Qk (its:List Value) (lo hi:Option Int):slicePick its.toArray lo hi none = ((its.drop (HT.sIx its.length 0 lo)).take (HT.sIx its.length its.length hi - HT.sIx its.length 0 lo)).toArray:=by
  obtain ⟨h1,h2,h3⟩:=Xg lo hi its.toArray.size
  unfold slicePick
  rw [h1,h2,h3]
  simp only [sliceRange_one,pick_run,List.size_toArray] <;> rfl
def rSlL (K:PySem.W.Frag):V→Option Int→Option Int→Hp→VK→Prop:=fun x lo hi H Q=>∃ a xs,x = .ref a∧SqL K H a xs∧∀ p,H p = none→Q (.ref p) (upd H p (.lst (cutV xs lo hi)))
theorem sl_list:SlR X (rSlL X.K):=by
  intro pins s σ H x v vl vu lo hi sl Q I rx hs pl pu h
  obtain ⟨a,xs,rfl,hx,q⟩:=h
  cases rx
  obtain ⟨its,r,ht,hz⟩:=I.list hx
  have hlen:=r.length
  refine ⟨"list",_,slot_list_getitem.lookup,ht.isList.typeIs,?_⟩
  refine wpAny_getItem_list_slice ht.isList hs pl pu .none (by simp) ?_ (by rw [List.size_toArray] <;> omega)
  rw [Qk,← hlen]
  refine ⟨.ref s.heap.objs.size,_,I.laid (t':=s.toks) (o:=.lst (cutV xs lo hi)) (fun b ob q=>Heap.get?_push_of_some _ q) (Nat.le_refl _) ?_,rfl,q _ (I.hok.fresh (Nat.le_refl _))⟩
  exact ⟨Nat.le_trans (Yy xs lo hi) hz,_,0,(r.drop (HT.sIx xs.length 0 lo)).take (HT.sIx xs.length xs.length hi - HT.sIx xs.length 0 lo),Heap.get?_push_size _ rfl⟩
def u9:V→Bool
  | .non=>true
  | .bl _=>true
  | .int _=>true
  | .str _=>true
  | _=>false
def eqV:V→V→Bool
  | .non,.non=>true
  | .bl a,.bl b=>a == b
  | .bl a,.int b=>(if a then 1 else 0) == b
  | .int a,.bl b=>a == (if b then 1 else 0)
  | .int a,.int b=>a == b
  | .str a,.str b=>a == b
  | _,_=>false
theorem eqAt_V {A:Around} {s:Shared} {y x:V} {u v:Value} (ry:RelV y u) (rx:RelV x v) (fy:u9 y = true) (fx:u9 x = true):SeqAt.EqAt A s u v (eqV y x):=by
  cases y with
  | non =>
    cases ry
    cases x with
    | non=>cases rx; exact SeqAt.EqAt.same _
    | bl b=>cases rx; exact SeqAt.EqAt.none_bool b
    | int b=>obtain ⟨t,rfl⟩:=rx; exact SeqAt.EqAt.none_int b t
    | str b=>obtain ⟨t,rfl⟩:=rx; exact SeqAt.EqAt.none_str b t
    | _=>exact absurd (show false = true from fx) Bool.false_ne_true
  | bl a =>
    cases ry
    cases x with
    | non=>cases rx; exact SeqAt.EqAt.bool_none a
    | bl b=>cases rx; exact SeqAt.EqAt.bool_bool a b
    | int b=>obtain ⟨t,rfl⟩:=rx; exact SeqAt.EqAt.bool_int a b t
    | str b=>obtain ⟨t,rfl⟩:=rx; exact SeqAt.EqAt.bool_str a b t
    | _=>exact absurd (show false = true from fx) Bool.false_ne_true
  | int a =>
    obtain ⟨t',rfl⟩:=ry
    cases x with
    | non=>cases rx; exact SeqAt.EqAt.int_none a t'
    | bl b=>cases rx; exact SeqAt.EqAt.int_bool a t' b
    | int b=>obtain ⟨t,rfl⟩:=rx; exact SeqAt.EqAt.int_int a t' b t
    | str b=>obtain ⟨t,rfl⟩:=rx; exact SeqAt.EqAt.int_str a t' b t
    | _=>exact absurd (show false = true from fx) Bool.false_ne_true
  | str a =>
    obtain ⟨t',rfl⟩:=ry
    cases x with
    | non=>cases rx; exact SeqAt.EqAt.str_none a t'
    | bl b=>cases rx; exact SeqAt.EqAt.str_bool a t' b
    | int b=>obtain ⟨t,rfl⟩:=rx; exact SeqAt.EqAt.str_int a t' b t
    | str b=>obtain ⟨t,rfl⟩:=rx; exact SeqAt.EqAt.str_str a t' b t
    | _=>exact absurd (show false = true from fx) Bool.false_ne_true
  | _=>exact absurd (show false = true from fy) Bool.false_ne_true
def eqU (x:V) (u:Value):Bool:=match u with
  | .none=>eqV .non x
  | .bool b=>eqV (.bl b) x
  | .int i _=>eqV (.int i) x
  | .str z _=>eqV (.str z) x
  | _=>false
theorem eqU_of {x y:V} {u:Value} (r:RelV y u) (f:u9 y = true):eqU x u = eqV y x:=by
  cases y with
  | non=>cases r; rfl
  | bl b=>cases r; rfl
  | int i=>obtain ⟨t,rfl⟩:=r; rfl
  | str z=>obtain ⟨t,rfl⟩:=r; rfl
  | _=>exact absurd (show false = true from f) Bool.false_ne_true
theorem RQ {x:V}:∀ {xs:List V} {us:List Value},Vals xs us→xs.all u9 = true→us.any (eqU x) = xs.any fun y=>eqV y x
  | _,_,.nil,_=>rfl
  | y :: xs,u :: us,.cons r t,f=>by
    rw [List.all_cons,Bool.and_eq_true] at f
    rw [List.any_cons,List.any_cons,eqU_of r f.1,RQ t f.2]
theorem J6 {A:Around} {s:Shared} {x:V} {v:Value} (rx:RelV x v) (fx:u9 x = true):∀ {xs:List V} {us:List Value},Vals xs us→xs.all u9 = true→∀ u ∈ us,SeqAt.EqAt A s u v (eqU x u)
  | _,_,.nil,_=>fun u hu=>by cases hu
  | y :: xs,u :: us,.cons r t,f=>fun u' hu=>by
    rw [List.all_cons,Bool.and_eq_true] at f
    rcases List.mem_cons.mp hu with rfl | hu
    · rw [eqU_of r f.1]; exact eqAt_V r rx f.1 fx
    · exact J6 rx fx t f.2 u' hu
def inV (x:V) (xs:List V):Bool:=xs.any fun y=>eqV y x
def rIn (K:PySem.W.Frag) (neg:Bool):R2:=fun x y H Q=>∃ p xs,y = .ref p∧(SqL K H p xs ∨ SqT K H p xs)∧u9 x = true∧xs.all u9 = true∧Q (.bl (if neg then !inV x xs else inV x xs)) H
theorem acW:OpR X (compareOp .In) (rIn X.K false):=by
  intro pins s σ H x y v u Q I rx ry h
  obtain ⟨p,xs,rfl,hq,fx,fs,q⟩:=h
  cases ry
  rcases hq with hq | hq
  · obtain ⟨its,r,pl,hz⟩:=I.list hq
    refine SeqAt.in_listAt (eqU x) pl.isList (fun w hw=>J6 rx fx r fs w (by simpa using hw)) ⟨.bl _,H,I,rfl,?_⟩
    rw [show its.toArray.any (eqU x) = its.any (eqU x) by simp,RQ r fs]
    exact q
  · obtain ⟨its,r,pl,hz⟩:=I.tuple hq
    refine SeqAt.in_tupleAt (eqU x) pl (fun w hw=>J6 rx fx r fs w (by simpa using hw)) ⟨.bl _,H,I,rfl,?_⟩
    rw [show its.toArray.any (eqU x) = its.any (eqU x) by simp,RQ r fs]
    exact q
theorem R1:mV X (.builtin "len") (fun xs H Q=>∃ p ys,xs = [.ref p]∧(SqL X.K H p ys ∨ SqT X.K H p ys)∧Q (.int ys.length) H):=by
  intro pins s σ H xs us Q I r h
  obtain ⟨p,ys,rfl,hq,q⟩:=h
  obtain ⟨u,rfl,rx⟩:=vals1 r
  cases rx
  have hn:=Dm
  rcases hq with hq | hq
  · obtain ⟨its,r',pl,hz⟩:=I.list hq
    have hlen:=r'.length
    exact Calls.call_len_list pl.isList (by simp only [List.size_toArray] <;> omega) ⟨.int ys.length,H,I.tok _,⟨s.toks + 1,by rw [List.size_toArray,hlen]⟩,q⟩
  · obtain ⟨its,r',pl,hz⟩:=I.tuple hq
    have hlen:=r'.length
    exact len_tuple pl (by simp only [List.size_toArray] <;> omega) ⟨.int ys.length,H,I.tok _,⟨s.toks + 1,by rw [List.size_toArray,hlen]⟩,q⟩
theorem R3:mV X (.builtin "len") (fun xs H Q=>∃ z,xs = [.str z]∧z.length ≤ sizeLine∧Q (.int z.length) H):=by
  intro pins s σ H xs us Q I r h
  obtain ⟨z,rfl,hz,q⟩:=h
  obtain ⟨u,rfl,t,rfl⟩:=vals1 r
  have hn:=Dm
  exact len_str (by omega) ⟨.int z.length,H,I.tok _,⟨_,rfl⟩,q⟩
theorem mV.or {f:Value} {r r':List V→Hp→VK→Prop} (h:mV X f r) (h':mV X f r'):mV X f (fun xs H Q=>r xs H Q ∨ r' xs H Q):=by
  intro pins s σ H xs us Q I rs q
  rcases q with q | q
  · exact h pins s σ H xs us Q I rs q
  · exact h' pins s σ H xs us Q I rs q
theorem R4:mV X (.type "list") (fun xs H Q=>∃ p ys,xs = [.ref p]∧(SqL X.K H p ys ∨ SqT X.K H p ys)∧∀ l,H l = none→Q (.ref l) (upd H l (.lst ys))):=by
  intro pins s σ H xs us Q I r h
  obtain ⟨p,ys,rfl,hq,q⟩:=h
  obtain ⟨u,rfl,rx⟩:=vals1 r
  cases rx
  have fin:∀ (its:List Value),Vals ys its→ys.length ≤ sizeLine→∀ (h':Heap) (c':Nat),(∀ b o',s.heap.get? b = some o'→h'.get? b = some o') →
      h'.get? s.heap.objs.size = some { cls:=.type "list",dict:=none,data:=.seq its.toArray c',slots:=#[] }→EP X pins σ Q (.ref s.heap.objs.size) { s with heap:=h' }:=fun its r' hz h' c' kp e =>
    ⟨.ref s.heap.objs.size,_,I.laid (t':=s.toks) kp (Nat.le_refl _) (show cU X.prog X.w _ h' _ (.lst ys) from ⟨hz,its,c',r',e⟩),rfl,q _ (I.hok.fresh (Nat.le_refl _))⟩
  rcases hq with hq | hq
  · obtain ⟨its,r',pl,hz⟩:=I.list hq
    have hlen:=r'.length
    obtain ⟨o,ho,hc,n,hd⟩:=pl.isList
    exact call_list_seq p (.inl rfl) ho hc hd (fun h' c' kp e=>fin its r' hz h' c' kp e) (by simp only [List.size_toArray] <;> omega)
  · obtain ⟨its,r',pl,hz⟩:=I.tuple hq
    have hlen:=r'.length
    obtain ⟨o,ho,hc,n,hd⟩:=pl
    exact call_list_seq p (.inr rfl) ho hc hd (fun h' c' kp e=>fin its r' hz h' c' kp e) (by simp only [List.size_toArray] <;> omega)
theorem Mt:mV X (.type "tuple") (fun xs H Q=>∃ p ys,xs = [.ref p]∧((SqL X.K H p ys∧∀ l,H l = none→Q (.ref l) (upd H l (.tup ys))) ∨ (SqT X.K H p ys∧Q (.ref p) H))):=by
  intro pins s σ H xs us Q I r h
  obtain ⟨p,ys,rfl,h⟩:=h
  obtain ⟨u,rfl,rx⟩:=vals1 r
  cases rx
  rcases h with ⟨hq,q⟩ | ⟨hq,q⟩
  · obtain ⟨its,r',pl,hz⟩:=I.list hq
    have hlen:=r'.length
    refine call_tuple_list pl.isList (fun h' kp=>?_) (by simp only [List.size_toArray] <;> omega)
    have I1:Inv X pins σ H { s with heap:=h' }:=I.kept (t':=s.toks) kp
    have I2:Inv X pins σ (upd H h'.objs.size (.tup ys)) { s with heap:=h'.push { cls:=.type "tuple",data:=.seq its.toArray } } :=
      I1.laid (t':=s.toks) (fun b o e=>Heap.get?_push_of_some _ e) (Nat.le_refl _) (show cU X.prog X.w _ _ _ (.tup ys) from ⟨hz,its,r',IsTup.new _ _⟩)
    exact ⟨.ref h'.objs.size,_,I2,rfl,q _ (I1.hok.fresh (Nat.le_refl _))⟩
  · obtain ⟨its,r',pl,hz⟩:=I.tuple hq
    exact call_tuple_same pl ⟨.ref p,H,I,rfl,q⟩
def tyV (K:PySem.W.Frag) (T:String) (x:V) (H:Hp):Prop:=match x with
  | .str _=>T = "str"
  | .int _=>T = "int"
  | .ref p=>(T = "list"∧∃ xs,SqL K H p xs) ∨ (T = "tuple"∧∃ o,K.lookup p = some o∧o.cls = .type "tuple"∧o.dict = none) ∨
      (T = "dict"∧((∃ kvs,H p = some (.dK kvs)) ∨ ∃ kvs,H p = some (.dT kvs))) ∨ (T = "set"∧∃ S n,H p = some (.set S n))
  | _=>False
theorem tyV_is {pins:List (Addr × Obj)} {σ:St} {H:Hp} {s:Shared} {T:String} {x:V} {v:Value} (I:Inv X pins σ H s) (r:RelV x v) (ty:tyV X.K T x H) :
    s.TypeIs v T∧∀ a,v = .ref a→∃ ob,s.heap.get? a = some ob∧ob.dict = none:=by
  cases x with
  | str z =>
    obtain ⟨t,rfl⟩:=r
    cases (show T = "str" from ty)
    exact ⟨typeIs_str s z t,fun _ e=>nomatch e⟩
  | int i =>
    obtain ⟨t,rfl⟩:=r
    cases (show T = "int" from ty)
    exact ⟨typeIs_int s i t,fun _ e=>nomatch e⟩
  | ref p =>
    cases r
    rcases ty with ⟨rfl,xs,hq⟩ | ⟨rfl,o,hk,hc,hd⟩ | ⟨rfl,hk⟩ | ⟨rfl,S,n,hk⟩
    · obtain ⟨its,_,pl,_⟩:=I.list hq
      refine ⟨pl.isList.typeIs,fun a e=>?_⟩
      cases e
      obtain ⟨o,n,e,c,hd,_⟩:=pl
      exact ⟨o,e,hd⟩
    · refine ⟨⟨o,I.kIn p o hk,hc⟩,fun a e=>?_⟩
      cases e
      exact ⟨o,I.kIn _ o hk,hd⟩
    · have z:∃ o,s.heap.get? p = some o∧o.ExactDict:=by
        rcases hk with ⟨kvs,hk⟩ | ⟨kvs,hk⟩
        · obtain ⟨_,_,_,_,o,_,_,e,ex,_⟩:=I.hok p _ hk
          exact ⟨o,e,ex⟩
        · obtain ⟨_,_,_,_,o,_,_,e,ex,_⟩:=I.hok p _ hk
          exact ⟨o,e,ex⟩
      obtain ⟨o,e,ex⟩:=z
      refine ⟨⟨o,e,ex.1⟩,fun a e2=>?_⟩
      cases e2
      exact ⟨o,e,ex.2.1⟩
    · obtain ⟨o,_,_,_,e,ex,_⟩:=I.hok p _ hk
      refine ⟨⟨o,e,ex.1⟩,fun a e2=>?_⟩
      cases e2
      exact ⟨o,e,ex.2.1⟩
  | _=>exact False.elim ty
def tBM (K:PySem.W.Frag) (T:String) (r:V→List V→Hp→VK→Prop) (to:TE) (t:TA):TE:=fun σ H Q=>to σ H fun x H1=>tyV K T x H1∧t σ H1 fun xs H2=>r x xs H2 Q
variable {o e:Expr} {es:List Expr} {to:TE} {t:TA} {name:Str} {apos cpos:Pos} {T id:String} {r:V→List V→Hp→VK→Prop}
theorem pe_bm (pa:PlainAttrs T) (slot:Slot T name id) (hty:typeOf (.builtin id) = pure (.type "method_descriptor")) (hm:MtR X id r) (ho:PE X o to) (ha:PA X (e :: es) t)
    (hbase:attributeBase o name X.env (eval o X.env) = eval o X.env:=by rfl)
    (hfew:((backTo cpos (starEach (e :: es) X.env)).all (fun x=>!x.1) && (backToKw cpos (keywordEach [] X.env)).all (fun x=>x.1.isSome)
      && decide ((e :: es).length + ([]:List Keyword).length + (if ([]:List Keyword).isEmpty then 0 else 1) < 30)) = true:=by rfl)
    (hline:(apos.endLine == cpos.line) = true:=by rfl) (hs:starEach (e :: es) X.env = (false,eval e X.env) :: starEach es X.env:=by rfl) (hplain:(backTo cpos (starEach es X.env)).any (·.1) = false:=by rfl) :
    PE X (.Call (.Attribute o name apos) (e :: es) [] cpos) (tBM X.K T r to t):=by
  intro pins s σ H Q I h
  refine wpAny_Call_method_late hbase hfew hline rfl (thn (ho pins s σ H _ I h) fun v s1 ⟨x,H1,I1,r1,ty,q1⟩=>?_)
  obtain ⟨h1,h2⟩:=tyV_is I1 r1 ty
  refine ⟨T,id,pa,slot,hty,h1,h2,?_⟩
  have hA:=ha cpos pins s1 σ H1 _ I1 q1
  rw [hs] at hA ⊢
  refine Calls.callWith_builtin (by show (false || (backTo cpos (starEach es X.env)).any (·.1)) = false; rw [hplain] <;> rfl) (Calls.evalArgs_plain ?_)
  exact thn hA fun us s2 ⟨vs,H2,I2,r2,q2⟩=>hm pins s2 σ H2 x vs v us Q I2 r1 r2 q2
end
end L2
namespace L2
open PySem PySem.Spec PyProof.Rows
def MtM (X:Cx) (id:String) (r:V→List V→Hp→VK→Prop):Prop :=
  ∀ (pins:List (Addr × Obj)) (s:Shared) (σ:St) (H:Hp) (x:V) (xs:List V) (v:Value) (us:List Value) (Q:VK),Inv X pins σ H s→RelV x v→Vals xs us→r x xs H Q →
    wpAny (model X.prog X.w) X.A (call (.builtin id) (v :: us)) (EP X pins σ Q) X.xe s
theorem Vals.one:∀ {x:V} {us:List Value},Vals [x] us→∃ u,us = [u]∧RelV x u
  | _,_,.cons r .nil=>⟨_,rfl,r⟩
theorem Vals.zero:∀ {us:List Value},Vals [] us→us = []
  | _,.nil=>rfl
theorem Vals.reverse {xs:List V} {us:List Value} (h:Vals xs us):Vals xs.reverse us.reverse:=by
  induction h with
  | nil=>exact .nil
  | cons r t ih=>rw [List.reverse_cons,List.reverse_cons]; exact Vals.append ih (.cons r .nil)
theorem Vals.rep {xs:List V} {us:List Value} (h:Vals xs us):∀ k:Nat,Vals (List.replicate k xs).flatten (List.replicate k us).flatten
  | 0=>.nil
  | k + 1=>by
    rw [List.replicate_succ,List.replicate_succ,List.flatten_cons,List.flatten_cons]
    exact Vals.append h (Vals.rep h k)
theorem foldl_rep (its:List Value):∀ (k:Nat) (acc:List Value),
    List.foldl (fun x1 x2=>x1 ++ x2) acc.toArray (List.replicate k its.toArray) = (acc ++ (List.replicate k its).flatten).toArray
  | 0,acc=>by simp
  | k + 1,acc=>by
    have e:acc.toArray ++ its.toArray = (acc ++ its).toArray:=by simp
    have e2:(acc ++ its) ++ (List.replicate k its).flatten = acc ++ (List.replicate (k + 1) its).flatten:=by
      rw [List.replicate_succ,List.flatten_cons,List.append_assoc]
    rw [← e2,← foldl_rep its k (acc ++ its),← e,List.replicate_succ,List.foldl_cons]
section
variable {X:Cx} {pins:List (Addr × Obj)} {σ:St} {H:Hp} {s:Shared} {l b:Addr} {xs ys zs:List V}
theorem Inv.lset {its its':List Value} {n:Nat} {f:Array Value→Array Value} {t':Nat} (I:Inv X pins σ H s) (hH:H l = some (.lst xs))
    (e:s.heap.get? l = some { cls:=.type "list",data:=.seq its.toArray n }) (hf:f its.toArray = its'.toArray) (hv:Vals ys its') (hz:ys.length ≤ sizeLine) :
    Inv X pins σ (upd H l (.lst ys)) { s with heap:=s.heap.update l (Obj.mapSeq f),toks:=t' }:=by
  have q:=PySem.IsL.update e f
  rw [hf] at q
  refine I.write (x:=l) (e:=l) (by rw [hH]; exact trivial) (.inl rfl) (fun b' u hb hu=>(Heap.get?_update_other s.heap (Obj.mapSeq f) (Ne.symm hb)).trans hu) ⟨_,q⟩ ?_
  exact ⟨hz,its',_,hv,q⟩
theorem Inv.lnew {its:List Value} {t':Nat} (I:Inv X pins σ H s) (hv:Vals ys its) (hz:ys.length ≤ sizeLine) :
    Inv X pins σ (upd H s.heap.objs.size (.lst ys)) { s with heap:=s.heap.push { cls:=.type "list",data:=.seq its.toArray },toks:=t' } :=
  I.laid (fun _ _ q=>Heap.get?_push_of_some _ q) (Nat.le_refl _) ⟨hz,its,0,hv,Heap.get?_push_size _ rfl⟩
theorem Inv.fresh (I:Inv X pins σ H s):H s.heap.objs.size = none:=I.hok.fresh (Nat.le_refl _)
theorem Inv.lstM (I:Inv X pins σ H s) (hH:H l = some (.lst xs)):xs.length ≤ sizeLine∧∃ (its:List Value) (n:Nat),Vals xs its∧xs.length = its.length∧s.heap.get? l = some { cls:=.type "list",data:=.seq its.toArray n }:=by
  obtain ⟨z,its,n,r,e⟩:=I.hok l _ hH
  exact ⟨z,its,n,r,r.length,e⟩
theorem notLongL {n:Nat} (h:n ≤ sizeLine):Builtin.List.listTooLong n = false:=by
  unfold Builtin.List.listTooLong
  exact decide_eq_false (by omega)
end
section
variable {X:Cx}
def acl:V→List V→Hp→VK→Prop:=fun x vs H Q=>∃ l xs y,x = .ref l∧vs = [y]∧H l = some (.lst xs)∧xs.length < sizeLine∧Q .non (upd H l (.lst (xs ++ [y])))
theorem ye:MtM X "list.append" acl:=by
  intro pins s σ H x vs v us Q I rx rv h
  obtain ⟨l,xs,y,rfl,rfl,hH,hz,q⟩:=h
  cases rx
  obtain ⟨u,rfl,ru⟩:=rv.one
  obtain ⟨z,its,n,r,hl,e⟩:=I.lstM hH
  refine call_meets F.slot_list_append ⟨_,e,rfl⟩ F.entry_list_append (F.args_list_append_2 _ _) (PySem.list_append l its.toArray n u (by rw [List.size_toArray]; omega)) ⟨e,?_⟩
  refine ⟨.non,_,I.lset (its':=its ++ [u]) hH e (by simp) (r.append (.cons ru .nil)) ?_,rfl,q⟩
  rw [List.length_append,List.length_singleton]
  omega
def rCat:R2:=fun x y H Q=>∃ l b xs zs,x = .ref l∧y = .ref b∧H l = some (.lst xs)∧H b = some (.lst zs)∧xs.length + zs.length ≤ sizeLine∧∀ p,H p = none→Q (.ref p) (upd H p (.lst (xs ++ zs)))
theorem op_cat:OpR X (binaryOp .Add) rCat:=by
  intro pins s σ H x y v u Q I rx ry h
  obtain ⟨l,b,xs,zs,rfl,rfl,hH,hB,hz,q⟩:=h
  cases rx
  cases ry
  obtain ⟨z,its,n,r,hl,e⟩:=I.lstM hH
  obtain ⟨z2,its2,n2,r2,hl2,e2⟩:=I.lstM hB
  refine PySem.P.add_list e e2 ?_ (by rw [List.size_toArray,List.size_toArray]; omega)
  have ea:its.toArray ++ its2.toArray = (its ++ its2).toArray:=by simp
  rw [ea]
  exact ⟨.ref _,_,I.lnew (t':=s.toks) (r.append r2) (by rw [List.length_append]; omega),rfl,q _ I.fresh⟩
def rRep:R2:=fun x y H Q=>∃ l k xs,x = .ref l∧y = .int k∧H l = some (.lst xs)∧-(2 ^ 63) ≤ k∧k < 2 ^ 63∧xs.length * k.toNat ≤ sizeLine ∧
  ∀ p,H p = none→Q (.ref p) (upd H p (.lst (List.replicate k.toNat xs).flatten))
theorem len_rep {α:Type} (xs:List α) (k:Nat):(List.replicate k xs).flatten.length = k * xs.length:=by
  induction k with
  | zero=>simp
  | succ k ih=>rw [List.replicate_succ,List.flatten_cons,List.length_append,ih,Nat.succ_mul,Nat.add_comm]
theorem op_rep:OpR X (binaryOp .Mult) rRep:=by
  intro pins s σ H x y v u Q I rx ry h
  obtain ⟨l,k,xs,rfl,rfl,hH,h1,h2,hz,q⟩:=h
  cases rx
  obtain ⟨t,rfl⟩:=ry
  obtain ⟨z,its,n,r,hl,e⟩:=I.lstM hH
  have hlen:its.toArray.size * k.toNat ≤ sizeLine:=by rw [List.size_toArray,← hl]; exact hz
  have hcap:¬ its.toArray.size * k.toNat > (2 ^ 63 - 1) / 8:=by
    have:(sizeLine:Nat) ≤ (2 ^ 63 - 1) / 8:=by decide
    omega
  have hfit:¬ (!Builtin.List.listFitsIndex k) = true:=by
    rw [fitsIndex_both h1 h2]
    exact Bool.false_ne_true
  have hlong:¬ Builtin.List.listTooLong (its.toArray.size * k.toNat) = true:=by
    rw [notLongL hlen]
    exact Bool.false_ne_true
  have hnew:List.foldl (fun x1 x2=>x1 ++ x2) #[] (List.replicate (if its.toArray.isEmpty = true then 0 else k.toNat) its.toArray) = (List.replicate k.toNat its).flatten.toArray:=by
    have f0:∀ m:Nat,List.foldl (fun x1 x2=>x1 ++ x2) #[] (List.replicate m its.toArray) = (List.replicate m its).flatten.toArray:=fun m=>by
      have:=foldl_rep its m []
      rw [List.nil_append] at this
      exact this
    rw [f0]
    cases its with
    | nil=>simp
    | cons a r'=>rw [if_neg (by simp)]
  refine wpAny_binaryOp_repeat_ref (T:="list") (U:="int") (by decide) ⟨_,e,rfl⟩ (fun s'=>typeIs_int s' k t) noFill_list_mul F.fills_int_mul F.slot_int_rmul repeat_list F.slot_int_index.lookup
    (call_meets F.slot_int_rmul (typeIs_int s k t) F.entry_int_rmul (F.args_int_rmul_2 _ _) (int___rmul___int_list k t l its.toArray n)
      ⟨e,rfl,⟨_,e,rfl⟩,call_meets F.slot_list_mul ⟨_,e,rfl⟩ F.entry_list_mul (F.args_list_mul_2 _ _) (AutoListH.list___mul___list_int_3 l its.toArray n k t hfit hcap hlong) ⟨e,?_⟩⟩)
  rw [hnew]
  exact ⟨.ref _,_,I.lnew (t':=s.toks) (r.rep k.toNat) (by rw [len_rep,Nat.mul_comm]; exact hz),rfl,q _ I.fresh⟩
end
section
variable {prog:Program} {w:World} {A:Around} {E:Value→Shared→Prop} {s:Shared}
end
section
variable {X:Cx}
end
end L2
namespace Att
open PySem PySem.W PySem.Calls PyProof.Rows
theorem Gg {P:Params} {h:Heap}:∀ (ns:List Int) (vs:List Value),WellAll P h vs (ns.map WData.int)→IntsAre vs ns:=by
  intro ns
  induction ns with
  | nil =>
    intro vs w
    rw [List.map_nil] at w
    cases w
    exact .nil
  | cons n ns ih =>
    intro vs w
    rw [List.map_cons] at w
    cases w with
    | cons a b =>
      cases a
      exact .cons _ _ (ih _ b)
theorem ac4 {l:OpenLaw} {n:Nat} (hn:l.most = some n) {P:Params} {h:Heap} {args:List WData} {vals:List Value}
    (hpre:l.row.toRowW.claim.pre args = true) (hwl:WellAll P h vals args) :
    ∃ a vs ns,vals = [Value.ref a]∧args = [WData.list (ns.map WData.int)]∧h.get? a = some { cls:=.type "list",data:=.seq vs.toArray }∧IntsAre vs ns∧ns.length ≤ n:=by
  have hsh:WShape.hasAll [] args [.list .int] = true:=(pre_splitW hpre).1
  have hc:l.pre.holds [] { args:=args } = true:=(pre_splitW hpre).2
  obtain ⟨d,r,rfl,h1,h2⟩:=hasAllW_cons hsh
  obtain rfl:=hasAllW_nil h2
  obtain ⟨xs,rfl,h3⟩:=hasW_list h1
  obtain ⟨ns,rfl⟩:=items_int h3
  have hlen:ns.length ≤ n:=by
    unfold OpenLaw.pre at hc
    have h4:(WTm.not (.lt (.lit (.int (n:Int))) (.len (.arg 0)))).holds [] { args:=[.list (ns.map .int)] } = true:=by
      have h4:=(holds_andW hc).1
      rw [hn] at h4
      exact h4
    have h5:=condW_of h4 (w_not (w_lt w_lit (w_len_list (w_arg rfl))))
    rw [List.length_map] at h5
    refine Nat.le_of_not_lt fun q=>?_
    have q':(n:Int) < ((ns.length:Nat):Int):=by omega
    first
      | (rw [decide_eq_true q'] at h5; exact absurd h5 (by decide))
      | (simp at h5; omega)
  cases hwl with
  | cons w1 w2 =>
    cases w2
    cases w1 with
    | list ho hall=>exact ⟨_,_,ns,rfl,rfl,ho,Gg ns _ hall,hlen⟩
theorem ac0 (l:OpenLaw) (args:List WData):l.row.toRowW.claim.post args (.bool true) args = true :=
  postW_of (r:=l.row.toRowW) (X:=(true == true))
    (show WShape.has [] (.bool true) .bool = true by first | rfl | decide | simp [WShape.has,WShape.arms,WShape.armsAll])
    (show (WTm.eq .res (.lit (.bool true))).value [] { args:=args,res:=some (.bool true),after:=args } = some (.bool (true == true)) from w_eq_bool (w_res rfl) w_lit) rfl
theorem Yi {l:OpenLaw} {n:Nat} {q:Program} {loose:List Str} {XP:(Str→Option Value)→Heap→Prop} {YP:World→Heap→Prop} {d:DefRec}
    (hn:l.most = some n) (hdf:d.params.defaults = [])
    (call:∀ (w:World) (s₀ s₁:Shared) (mg mb:Str→Option Value) (fa:Addr) (o:Obj) (pm cd doc:Value) (a:Addr) (vs:List Value) (ns:List Int),
      Ground q loose [] XP w s₀ mg mb s₁.heap→YP w s₁.heap →
      s₁.heap.get? fa = some o→o.data = .func (docDef d.name d.params d.body d.scope pm cd doc)→s₁.heap.CodeRec cd d.name→mg d.name = some (.ref fa) →
      s₁.heap.get? a = some { cls:=.type "list",data:=.seq vs.toArray }→IntsAre vs ns→ns.length ≤ n→s₁.gens = #[] →
      codeAny (model l.prog w) callerA (.call (.ref fa) ⟨[.ref a],[]⟩) (fun r s'=>r = .ok (.ret (.bool true))∧OldK s₁.heap s'.heap∧s'.os = s₁.os∧AllBare s'.gens) s₁) :
    WalkO q loose XP YP l.row.toRowW d [] (fun f vs=>PySem.call f vs):=by
  intro w s₀ s₁ mg mb G Y fa o pm cd doc dV kV ho hd hcd hD hmg hg args vals as hpre hlay hrd hwl hlo
  obtain rfl:dV = .none:=Dflts.none hD hdf
  obtain rfl:kV = .none:=Dflts.noKw hD
  obtain ⟨a,vs,ns,rfl,rfl,hobj,hints,hlen⟩:=ac4 hn hpre hwl
  refine enter_call (codeAny_mono (call w s₀ s₁ mg mb fa o pm cd doc a vs ns G Y ho (fd_plain hd) hcd hmg hobj hints hlen hg) fun r s' hq=>?_)
  obtain ⟨rfl,h2,h3,h4⟩:=hq
  exact ⟨.inl ⟨.bool true,.bool true,[],rfl,fun _=>rfl,.bool true,ac0 l _,fun _=>⟨List.Pairwise.nil,fun _ hm=>(nomatch hm)⟩⟩,h2,h3,h4⟩
section
variable {prog:Program} {w:World} {A:Around} {E:Value→Shared→Prop} {s:Shared} {K:Frag}
end
end Att
namespace L2
open PySem PySem.Spec PyProof.Rows
theorem Q0:∀ {vs:List Value} {ns:List Int},IntsAre vs ns→Vals (ns.map V.int) vs
  | _,_,.nil=>.nil
  | _,_,.cons n t h=>.cons ⟨t,rfl⟩ (Q0 h)
def Only (H:Hp):Prop:=∀ b,H b = none ∨ ∃ o xs,H b = some (.frz o (.lst xs))
theorem law_call {P:Program} {w:World} {K:PySem.W.Frag} {mg mb:Str→Option Value} {CX:CXT} {k:Nat} {fa a:Addr} {fd:FuncData} {x:Str} {sp:Sp} {s₁:Shared} {vs:List Value} {ns:List Int}
    (KX:K.In s₁.heap) (hns:s₁.heap.Ns mainGlobals mg) (hb:s₁.heap.Ns builtinsNs mb) (hbb:∀ x:Str,x ≠ "__name__"→mb x = bootBuiltins x) (hlim:s₁.heap.NoLimit) (hg:s₁.gens = #[])
    (ha:s₁.heap.get? a = some { cls:=.type "list",data:=.seq vs.toArray }) (hi:IntsAre vs ns) (hl:ns.length ≤ sizeLine) (hr:gJ k callerA)
    (F:∀ base:Heap,K.In base→base.Ns mainGlobals mg→bC P w K mg base CX k fa fd [x] sp) (hbind:∀ (s:Shared) (u:Value),BindsTo s fd ⟨[u],[]⟩ [(x,u)])
    (hsp:∀ H:Hp,Only H→SqL K H a (ns.map V.int)→sp [.ref a] H (fun v _=>v = .bl true) fun _ _ _=>False)
    (hCX:∀ H e s',CX [] H s₁ (fun _ _ _=>False) e s'→False) :
    codeAny (model P w) callerA (.call (.ref fa) ⟨[.ref a],[]⟩) (fun r s'=>r = .ok (.ret (.bool true))∧OldK s₁.heap s'.heap∧s'.os = s₁.os∧AllBare s'.gens) s₁:=by
  have rv:=Q0 hi
  have lenV:=hi.length
  have core:∀ H:Hp,Only H→SqL K H a (ns.map V.int)→HOk P w H s₁.heap→(∀ b,H b ≠ none→b = a)→(H a ≠ none→K.lookup a = none) →
      codeAny (model P w) callerA (.call (.ref fa) ⟨[.ref a],[]⟩) (fun r s'=>r = .ok (.ret (.bool true))∧OldK s₁.heap s'.heap∧s'.os = s₁.os∧AllBare s'.gens) s₁:=by
    intro H hO hS hok hA hK
    have base_of:∀ {b:Addr} {o:Obj},s₁.heap.get? b = some o→H b = none→(hidT s₁.heap H).get? b = some o:=fun e n=>hidT_get e n
    have noA:∀ {b:Addr} {o:Obj} {es:Array DictEntry} {ep:Nat},s₁.heap.get? b = some o→o.data = .dict es ep→H b = none:=fun {b o es ep} e d=>by
      cases q:H b with
      | none=>rfl
      | some u =>
        have e':b = a:=hA b (by rw [q]; simp)
        subst e'
        rw [ha] at e; cases e
        have d':Data.seq vs.toArray _ = Data.dict es ep:=d
        cases d'
    have nsK:∀ {b:Addr} {m:Str→Option Value},s₁.heap.Ns b m→(hidT s₁.heap H).Ns b m:=fun {b m} ⟨o,es,ep,e,d,r⟩=>⟨o,es,ep,base_of e (noA e d),d,r⟩
    have hKb:K.In (hidT s₁.heap H):=fun b o e=>base_of (KX b o e) (by
      cases q:H b with
      | none=>rfl
      | some u =>
        have e':b = a:=hA b (by rw [q]; simp)
        subst e'
        rw [hK (by rw [q]; simp)] at e; cases e)
    have hM:Mod K mg (hidT s₁.heap H):=⟨hKb,nsK hns,⟨mb,nsK hb,hbb⟩,let ⟨mc,h1,h2⟩:=hlim; ⟨mc,nsK h1,h2⟩⟩
    have e0:Env0 P w K mg (hidT s₁.heap H) callerA [] s₁ H:=⟨rfl,hM,fun b o e=>of_hidT e,Nat.le_of_eq (acJ _ _),trivial,fun b hb=>absurd (show b ∈ ([]:List Addr) from hb) (by simp),hok,.of_eq hg⟩
    refine codeAny_mono ((F _ hKb (nsK hns)).run callerA [] s₁ H ⟨[.ref a],[]⟩ [.ref a] [.ref a] _ _ hr e0 (hbind s₁ (.ref a)) (.cons rfl .nil) (hsp H hO hS)) fun r s' h=>?_
    cases r with
    | error e=>exact (hCX H e s' h).elim
    | ok fl =>
      cases fl with
      | next=>exact False.elim h
      | brk=>exact False.elim h
      | cont=>exact False.elim h
      | ret u =>
        obtain ⟨v,H',os,bare,un,hok',r',q⟩:=h
        have q':v = .bl true:=q
        subst q'
        obtain rfl:u = Value.bool true:=r'
        refine ⟨rfl,OldK.of_keep fun b o e=>?_,os,bare⟩
        cases q:H b with
        | none=>exact un.keep b o e q (by intro z; exact absurd (show b ∈ ([]:List Addr) from z) (by simp)) (by simp)
        | some u =>
          rcases hO b with z | ⟨ob,xs,z⟩
          · rw [q] at z; cases z
          · have z2:=un.Bl b ob _ z
            obtain ⟨e1,_⟩:=hok b _ z
            obtain ⟨e2,_⟩:=hok' b _ z2
            rw [e] at e1; cases e1
            exact e2
  cases hk:K.lookup a with
  | some o =>
    have e:=KX a o hk
    rw [ha] at e
    cases e
    refine core (fun _=>none) (fun _=>.inl rfl) (.inr ⟨_,vs.toArray,_,hk,rfl,rfl,rfl,by rw [List.size_toArray,lenV]; exact hl,by simpa using rv⟩) (fun b u z=>by have z':(none:Option HO) = some u:=z; cases z') (fun b z=>absurd rfl z) fun z=>absurd rfl z
  | none =>
    refine core (fun b=>if b = a then some (.frz { cls:=.type "list",data:=.seq vs.toArray } (.lst (ns.map V.int))) else none) (fun b=>?_) (.inl (.inr ⟨{ cls:=.type "list",data:=.seq vs.toArray },if_pos rfl⟩)) (fun b u z=>?_) (fun b z=>?_) fun _=>hk
    · by_cases hb:b = a
      · exact .inr ⟨_,_,if_pos hb⟩
      · exact .inl (if_neg hb)
    · by_cases hb:b = a
      · have z':=(if_pos hb).symm.trans z
        cases z'
        subst hb
        exact ⟨ha,by rw [List.length_map]; exact hl,vs,_,rv,ha⟩
      · have z':=(if_neg hb).symm.trans z
        cases z'
    · by_cases hb:b = a
      · exact hb
      · exact absurd (if_neg hb) z
end L2
namespace L2
open PySem PySem.Spec PyProof.Rows
theorem walk_of {l:PySem.W.OpenLaw} {n k:Nat} {q:Program} {loose:List Str} {XP:(Str→Option Value)→Heap→Prop} {YP:World→Heap→Prop} {d:DefRec} {K:Params→PySem.W.Frag} {CX:World→CXT} {sp:World→Sp} {x:Str}
    (hn:l.most = some n) (hn2:n ≤ sizeLine) (hdf:d.params.defaults = []) (hr:gJ k callerA)
    (hY:∀ (w:World) (h:Heap),YP w h→(K w.params).In h)
    (F:∀ (w:World) (mg:Str→Option Value) (fa:Addr) (h:Heap),(K w.params).In h→h.Ns mainGlobals mg→mg d.name = some (.ref fa) →
      ∃ fd:FuncData,(∀ (s:Shared) (u:Value),BindsTo s fd ⟨[u],[]⟩ [(x,u)]) ∧
        ∀ base:Heap,(K w.params).In base→base.Ns mainGlobals mg→bC l.prog w (K w.params) mg base (CX w) k fa fd [x] (sp w))
    (hsp:∀ (w:World) (H:Hp) (a:Addr) (ns:List Int),ns.length ≤ n→Only H→SqL (K w.params) H a (ns.map V.int)→sp w [.ref a] H (fun v _=>v = .bl true) fun _ _ _=>False)
    (hCX:∀ (w:World) (H:Hp) (s:Shared) (e:Value) (s':Shared),CX w [] H s (fun _ _ _=>False) e s'→False) :
    PySem.W.WalkO q loose XP YP l.row.toRowW d [] (fun f vs=>PySem.call f vs):=by
  refine Att.Yi hn hdf fun w s₀ s₁ mg mb fa o pm cd doc a vs ns G Y ho hd hcd hmg hobj hints hlen hg=>?_
  have KX:=hY w _ Y
  obtain ⟨fd,hb,hF⟩:=F w mg fa _ KX G.T.g hmg
  exact law_call KX G.T.g G.T.b G.T.builtins G.T.nolimit hg hobj hints (Nat.le_trans hlen hn2) hr hF hb (fun H hO hS=>hsp w H a ns hlen hO hS) fun H e s'=>hCX w H s₁ e s'
end L2
namespace L2
open PySem PySem.Spec PyProof.Rows
def inClass (s:Stmt) (j:Nat):Stmt:=match s with
  | .ClassDef _ _ _ body _ _ _ _ _ _ _=>body.getD j (.Pass ⟨0,0,0,0⟩)
  | _=>.Pass ⟨0,0,0,0⟩
def aM (s:Stmt):Arguments:=match s with
  | .FunctionDef _ a _ _ _ _ _ _ _ _=>a
  | _=>{ posonlyargs:=[],args:=[],vararg:=none,kwonlyargs:=[],kw_defaults:=[],kwarg:=none,defaults:=[] }
def aH (s:Stmt):List Stmt:=match s with
  | .FunctionDef _ _ b _ _ _ _ _ _ _=>b
  | _=>[]
def ak (s:Stmt):Scope:=match s with
  | .FunctionDef _ _ _ _ _ _ sc _ _ _=>sc
  | _=>{ kind:=.function,names:=[],isGenerator:=false,isCoroutine:=false }
abbrev CX0:CXT:=fun _ _ _ _ _ _=>False
abbrev E0:XK:=fun _ _ _=>False
theorem pass0 {X:Cx}:qz CX0 X E0:=fun _ _ _ _ _ _ _ h=>h.elim
structure Fun (K:PySem.W.Frag) (x qual:Str) (st:Stmt) (f:Addr) (fd:FuncData):Prop where
  ex:∃ (oc:Value) (od:Option Addr) (kV doc pm:Value) (an:Option Addr) (cdv ct:Value) (osl:Array (Option Value)),
    fd = PySem.W.fnOf x qual (aM st) (aH st) (ak st) .none kV doc pm an cdv ct∧K.lookup f = some ⟨oc,od,.func fd,osl⟩∧PySem.W.codeIn K cdv qual = true
  kp:PySem.W.keepIn K (.ref f) = true
section
variable {P:Program} {w:World} {K:PySem.W.Frag} {mg:Str→Option Value} {base:Heap}
theorem Fun.ok {x qual:Str} {st:Stmt} {f:Addr} {fd:FuncData} {N ps:List Str} {k:Nat} {sp:Sp} (F:Fun K x qual st f fd) (S:aO N ps (ak st)) (len:∀ vs H Q E,sp vs H Q E→vs.length = ps.length)
    (hbody:∀ (cdv:Value) (A:Around) (outer:List Env) (s:Shared) (H:Hp) (vs:List V) (Q:VK) (E:XK),gJ k (A.deeper (envOfC qual (ak st) s.heap.objs.size f cdv))→sp vs H Q E →
      ∃ t,PSs (cxOf CX0 P w K mg base N qual (ak st) f cdv A outer s H E).nox (aH st) t∧t { nx:=fun _ H'=>Q .non H',rt:=Q } (start N vs) H):bC P w K mg base CX0 (k + 1) f fd ps sp:=by
  obtain ⟨oc,od,kV,doc,pm,an,cdv,ct,osl,rfl,lk,hcd⟩:=F.ex
  refine fn_of lk hcd S len fun A outer s H vs Q E hr hsp=>?_
  obtain ⟨t,h,q⟩:=hbody cdv A outer s H vs Q E hr hsp
  exact ⟨t,h.nox,q⟩
theorem Fun.binds {x qual:Str} {st:Stmt} {f:Addr} {fd:FuncData} {ps:List Str} (F:Fun K x qual st f fd)
    (h:∀ (kV doc pm:Value) (an:Option Addr) (cdv ct:Value) (us:List Value),us.length = ps.length→bindArgs (PySem.W.fnOf x qual (aM st) (aH st) (ak st) .none kV doc pm an cdv ct) ⟨us,[]⟩ = pure (ps.zip us)):Binds K fd ps []:=by
  obtain ⟨oc,od,kV,doc,pm,an,cdv,ct,osl,rfl,lk,hcd⟩:=F.ex
  exact .all (h kV doc pm an cdv ct)
theorem aX {x qual:Str} {st:Stmt} {f:Addr} {oc:Value} {od an:Option Addr} {osl:Array (Option Value)} {kV doc pm cdv ct:Value} (l:K.lookup f = some ⟨oc,od,.func (PySem.W.fnOf x qual (aM st) (aH st) (ak st) .none kV doc pm an cdv ct),osl⟩)
    (c:PySem.W.codeIn K cdv qual = true) (k:PySem.W.keepIn K (.ref f) = true):Fun K x qual st f (PySem.W.fnOf x qual (aM st) (aH st) (ak st) .none kV doc pm an cdv ct):=⟨⟨oc,od,kV,doc,pm,an,cdv,ct,osl,rfl,l,c⟩,k⟩
end
section
variable {X:Cx}
theorem pv (i:Nat) {x:Str} {pos:Pos} (hN:X.N[i]? = some x:=by rfl) (hv:Vis X.env.scope x:=by first | exact Or.inl rfl | exact Or.inr (Or.inl rfl) | exact Or.inr (Or.inr rfl)) (hd:(x == ("__debug__":Str)) = false:=by decide)
    (hcd:(x == ("__classdict__":Str)) = false:=by decide):PE X (.Name x pos) (vq i):=pe_var hN hv hd hcd
end
def bx (H H':Hp):Prop:=∀ b o,H b = some o→H' b = some o
theorem bx.refl (H:Hp):bx H H:=fun _ _ h=>h
theorem bx.trans {H H1 H2:Hp} (a:bx H H1) (b:bx H1 H2):bx H H2:=fun c o h=>b c o (a c o h)
theorem bx.free {H H':Hp} (e:bx H H') {l:Addr} (h:H' l = Option.none):H l = Option.none:=by
  cases q:H l with
  | none=>rfl
  | some o =>
    rw [e l o q] at h
    cases h
theorem bx.seq {K:PySem.W.Frag} {H H':Hp} {a:Addr} {xs:List V} (e:bx H H') (h:SqL K H a xs):SqL K H' a xs:=by
  rcases h with (h | ⟨o,h⟩) | h
  · exact .inl (.inl (e _ _ h))
  · exact .inl (.inr ⟨o,e _ _ h⟩)
  · exact .inr h
end L2
set_option maxHeartbeats 1000000
namespace MX
open PySem
section
variable {prog:Program} {w:World} {A:Around} {E:Value→Shared→Prop} {h:Heap} {g:Array GenState} {d:Drawn} {t:Nat} {os:OsState}
variable {nm q:Str} {C N:Addr} {bs bm bmB:List Value} {hdct:Bool} {sn:List Str} {sub:List Value} {ab:Bool} {col:Option Bool} {dd:Option Addr} {k0 k1 k2 k3 k5:Option Value} {B newId initId:String}
end
section
variable {prog:Program} {w:World} {A:Around} {E:Value→Shared→Prop} {h:Heap} {g:Array GenState} {d:Drawn} {t:Nat} {os:OsState} {x C:Addr} {ox:Obj} {cd:ClassData} {name:Str} {v:Value} {tk:Tok}
open Builtin Builtin.ObjectAttr
end
end MX
namespace MX
open PySem PySem.W PySem.Calls PyProof.Rows Builtin Builtin.ObjectAttr
abbrev bmV:List Value:=[.type "ValueError",.type "Exception",.type "BaseException",.type "object"]
def onlyRefs:List Value→Bool
  | []=>true
  | .ref _ :: r=>onlyRefs r
  | _=>false
structure ExcGet (K:Frag) (C:Addr):Prop where
  ga:findIn K (.ref C) "__getattribute__" = some (some (.builtin "BaseException.__getattribute__"))
  gh:findIn K (.ref C) "__getattr__" = some none
  sa:findIn K (.ref C) "__setattr__" = some (some (.builtin "object.__setattr__"))
  sub:mroIn K C (.type "BaseException") = some true
  top:mroIn K C (.type "object") = some true
  cl:findIn K (.ref C) "__class__" = some (some (.builtin "object.__class__"))
  get:specialIn K (.builtin "object.__class__") "__get__" = some (some (.builtin "getset_descriptor.__get__"))
  tk:takesIn K (.builtin "object.__class__") = some true
  cls:∃ cd l,clsIn K C = some cd∧cd.hasDict = true∧cd.mro = l ++ bmV∧onlyRefs l = true
section
variable {prog:Program} {w:World} {A:Around} {E:Value→Shared→Prop} {s:Shared} {K:Frag} {x C:Addr} {ox:Obj} {od:Option Obj} {name:Str}
theorem excBy {fill expr:Bool} {tk:Tok} {Q:Value→Shared→Prop} {v:Value} (G:ExcGet K C) (X:K.In s.heap) (I:InstAt s.heap x ox C od) (hh:handedIn v = true)
    (hf:wpAny (model prog w) A.in1 (Builtin.«object.__getattribute__» ⟨[.ref x,.str name tk],[]⟩) (fun fin s'=>fin = .done (.ret v)∧Q v s') (fun _ _=>False) s) :
    wpAny (model prog w) A (getAttrBy (.ref x) (.str name tk) fill expr) Q E s:=by
  have L0:=I.type (M:=model prog w)
  have L1:=looks_findIn (M:=model prog w) X G.ga
  have L2:Looks (model prog w) s.heap (hookBefore (.ref C)) none:=looks_findIn (M:=model prog w) X G.gh
  have b:=PySem.F.attr_ValueError.ga.bind (.ref x)
  unfold getAttrBy
  refine wpAny_holding (wpAny_bind (L0.here (wpAny_bind (L1.here ?_))))
  have c1:(onTheHeap (Value.ref C) && Value.builtin "BaseException.__getattribute__" == Value.builtin "object.__getattribute__") = false:=by
    rw [show (Value.builtin "BaseException.__getattribute__" == Value.builtin "object.__getattribute__") = false by decide +kernel]
    simp
  show wpAny _ _ (if (onTheHeap (Value.ref C) && Value.builtin "BaseException.__getattribute__" == Value.builtin "object.__getattribute__") = true then _ else _) _ _ _
  rw [c1,if_neg Bool.false_ne_true]
  unfold getAttrByItsOwn
  refine wpAny_bind (L2.here (wpAny_bind (wpAny_attempt (wpAny_holding ?_))))
  have c2:callGetattribute (.ref x) (.str name tk) (.builtin "BaseException.__getattribute__") expr = boundAndCalled (.builtin "BaseException.__getattribute__") (.ref x) (.str name tk):=by cases expr <;> rfl
  rw [c2]
  unfold boundAndCalled
  rw [b]
  refine wpAny_bind (wpAny_pure ?_)
  have hk:builtinKind "BaseException.__getattribute__" = some .slot:=by decide +kernel
  have hs:splitId "BaseException.__getattribute__" = some ("BaseException","__getattribute__"):=by decide +kernel
  show wpAny (model prog w) A (call (.builtin "BaseException.__getattribute__") [.ref x,.str name tk]) _ _ s
  have sub:Looks (model prog w) s.heap (isInstance (.ref x) (.type "BaseException")) true:=L0.andThen (looks_mroIn X G.sub)
  refine wpAny_call (codeAny_call_builtin PySem.F.attr_ValueError.ga.plain PySem.F.entry_bexc_ga (@check_slot (model prog w) _ _ s "BaseException.__getattribute__" "BaseException" "__getattribute__" (.ref x) [.str name tk] [] _ hk hs sub (PySem.F.args_bexc_ga (.ref x) (.str name tk)) ?_))
  refine wpAny_mono hf (fun fin s' z=>?_) fun _ _ z=>z.elim
  obtain ⟨rfl,z⟩:=z
  show wpAny _ _ (handedOut v) _ _ _
  rw [handedOut_of hh]
  exact wpAny_pure z
theorem excClass {Q:Option Value→Shared→Prop} (G:ExcGet K C) (X:K.In s.heap) (I:InstAt s.heap x ox C od) (h:Q (some (.ref C)) { s with toks:=s.toks + 1 }) :
    wpAny (model prog w) A (getAttr? (.ref x) "__class__") Q E s:=by
  obtain ⟨cd,l,hc,hd,hm,hr⟩:=G.cls
  have hf:findObj K C od "__class__" = some (.bind (.builtin "getset_descriptor.__get__") (.builtin "object.__class__")):=by
    unfold findObj
    rw [hc,Option.bind_some,G.cl,Option.bind_some]
    dsimp only
    rw [G.get,Option.bind_some]
    dsimp only
    rw [G.tk,Option.bind_some]
  unfold getAttr? getAttrBy?
  refine wpAny_bind (wpAny_mkText (wpAny_bind (wpAny_attempt (excBy (v:=.ref C) (s:={ s with toks:=s.toks + 1 }) G X I rfl ?_))))
  · obtain ⟨hp,g,d,t,os⟩:=s
    have L0:=I.type (M:=model prog w)
    have L3:=looks_find (M:=model prog w) X I hf
    unfold Builtin.«object.__getattribute__»
    repeat (first | with_reducible refine wpAny_call ?_ | lk)
    refine class_get X I G.top ?_
    exact wpAny_pure ⟨rfl,wpAny_pure h⟩
theorem excKit (G:ExcGet K C):KitX K (.ref x) (.ref C) (fun h=>InstAt h x ox C od) where
  ty:=fun _ _ _ I=>I.type
  it:=fun _ _ X _=>by
    obtain ⟨cd,l,hc,_⟩:=G.cls
    unfold clsIn at hc
    split at hc
    · rename_i ho
      intro A' Q' E' s' k q
      unfold isType loadHead
      exact wpAny_bind (wpAny_loadPart (k _ _ (X _ _ ho)) (wpAny_pure q))
    · cases hc
  ne:=fun h tp dd its n sl X htp=>by
    obtain ⟨cd,l,hc,_⟩:=G.cls
    refine Bool.eq_false_iff.mpr fun q=>?_
    obtain rfl:C = tp:=Value.ref.inj (beq_iff_eq.mp q)
    unfold clsIn at hc
    split at hc
    · rename_i ho
      have z:=(X _ _ ho).symm.trans htp
      cases z
    · cases hc
  ca:=fun X I k=>excClass G X I k
end
end MX
namespace L2
open PySem PySem.Spec PyProof.Rows
section
variable {prog:Program} {w:World} {A:Around} {R:Result→Shared→Prop} {s:Shared}
theorem Ys {elt tg iter:Expr} {ifs:List Expr} {sc:Scope} {pos:Pos} {it acc:Value} {env:Env} (J:Nat→Shared→Prop)
    (turn:∀ n s,J n s→wpAny (model prog w) A (pyNext it) (fun r s1=>match r with
      | none=>R (.ok .next) s1
      | some v=>wpAny (model prog w) A (letOwnedTupleGo tg it v) (fun _ s2=>wpAny (model prog w) A (assign tg env v) (fun _ s3 =>
          wpAny (model prog w) A (forIn ifs true fun c r=>if r = true then do let ok ← isTrue c env (eval c env); pure (ForInStep.yield ok) else pure (ForInStep.yield r)) (fun ok s4 =>
            if ok = true then wpAny (model prog w) A (eval elt env) (fun x s5=>wpAny (model prog w) A (call (.builtin "list.append") [acc,x]) (fun _ s6=>∃ m,m < n∧J m s6) (fun _ _=>False) s5) (fun _ _=>False) s4
            else ∃ m,m < n∧J m s4) (fun _ _=>False) s3) (fun _ _=>False) s2) (fun _ _=>False) s1) (fun _ _=>False) s)
    (n:Nat) (h:J n s):codeAny (model prog w) A (.compLoop (.ListComp elt [⟨tg,iter,ifs,0⟩] sc pos) 0 it acc env) R s:=by
  refine codeAny_loop rfl J (fun n s hJ=>?_) n h
  show wpAny _ A ((compTurn (.ListComp elt [⟨tg,iter,ifs,0⟩] sc pos) 0 it acc env).onRaise (fun x=>do noteFrame x env; theTreesLotGoes x)) _ _ s
  refine wpAny_noted ?_
  rw [compTurn_list]
  refine wpAny_bind (wpAny_standAt (wpAny_bind (wpAny_mono (turn n s hJ) (fun r s1 h1=>?_) fun _ _ z=>z.elim)))
  cases r with
  | none=>exact wpAny_pure h1
  | some v =>
    refine wpAny_bind (wpAny_mono h1 (fun _ s2 h2=>?_) fun _ _ z=>z.elim)
    refine wpAny_bind (wpAny_mono h2 (fun _ s3 h3=>?_) fun _ _ z=>z.elim)
    refine wpAny_bind (wpAny_mono h3 (fun ok s4 h4=>?_) fun _ _ z=>z.elim)
    cases ok with
    | false=>exact wpAny_pure ⟨rfl,h4⟩
    | true =>
      refine wpAny_bind (wpAny_bind (wpAny_mono h4 (fun x s5 h5=>?_) fun _ _ z=>z.elim))
      exact wpAny_bind (wpAny_mono h5 (fun _ s6 h6=>wpAny_pure (wpAny_pure ⟨rfl,h6⟩)) fun _ _ z=>z.elim)
end
abbrev bO (X:Cx) (N':List Str) (sc:Scope) (cl:List (Str × Addr)) (s₀:Shared) (H₀:Hp) (C:Addr) (fp:List Addr) (pn:List (Addr × Obj)):Cx :=
  { X with N:=N',s₀:=s₀,H₀:=H₀,env:=compEnvC sc cl C X.env,outer:=X.stack,ex:=fp,fn:=fun _=>false,pn:=pn,xe:=fun _ _=>False }
def CellsOk (X:Cx):List (Str × Addr)→Prop
  | []=>True
  | (y,c) :: r=>(X.env.cells.lookup y = some c∧(X.env.kindOf y = some .cell ∨ X.env.kindOf y = some .free))∧CellsOk X r
def Du (X:Cx) (sc:Scope) (cl:List (Str × Addr)):List Str→List (Option Nat)→Prop
  | [],[]=>True
  | y :: r,o :: q=>(match o with
      | none=>True
      | some j=>X.N[j]? = some y∧(cl.lookup y).isSome = true∧((relabel sc X.env).names.lookup y = some .cell ∨ (relabel sc X.env).names.lookup y = some .free))∧Du X sc cl r q
  | _,_=>False
def capS (cap:List (Option Nat)) (σ:St):St:=cap.map fun o=>match o with | none=>none | some j=>(σ[j]?).join
structure Q3 (X:Cx) (sc:Scope) (cl:List (Str × Addr)) (N':List Str) (cap:List (Option Nat)):Prop where
  clos:closureFor sc X.env = pure cl
  kind:sc.kind = .function
  Vs:(sc.names.all fun y=>y.2 != .cell) = true
  locals:(sc.names.all fun y=>y.2 != .local || sc.names.lookup y.1 == some .local) = true
  frees:(sc.names.all fun y=>y.2 != .free || (cl.lookup y.1).isSome) = true
  cells:CellsOk X cl
  caps:Du X sc cl N' cap
theorem CellsOk.get {X:Cx}:∀ {cl:List (Str × Addr)} {y:Str} {c:Addr},CellsOk X cl→cl.lookup y = some c→X.env.cells.lookup y = some c∧(X.env.kindOf y = some .cell ∨ X.env.kindOf y = some .free)
  | [],_,_,_,e=>by simp at e
  | (z,d) :: r,y,c,h,e=>by
    by_cases q:y = z
    · subst q
      simp only [List.lookup_cons,beq_self_eq_true] at e
      cases e
      exact h.1
    · have q':(y == z) = false:=beq_eq_false_iff_ne.mpr q
      simp only [List.lookup_cons,q'] at e
      exact CellsOk.get h.2 e
theorem Du.get {X:Cx} {sc:Scope} {cl:List (Str × Addr)}:∀ {N':List Str} {cap:List (Option Nat)} {i j:Nat} {y:Str},Du X sc cl N' cap→N'[i]? = some y→cap[i]? = some (some j) →
    X.N[j]? = some y∧(cl.lookup y).isSome = true∧((relabel sc X.env).names.lookup y = some .cell ∨ (relabel sc X.env).names.lookup y = some .free)
  | [],_,_,_,_,_,e,_=>by simp at e
  | _ :: _,[],_,_,_,_,_,e=>by simp at e
  | z :: r,o :: q,0,j,y,h,e1,e2=>by
    simp at e1 e2
    subst e1 e2
    exact h.1
  | z :: r,o :: q,i + 1,j,y,h,e1,e2=>Du.get (i:=i) h.2 (by simpa using e1) (by simpa using e2)
theorem Du.len {X:Cx} {sc:Scope} {cl:List (Str × Addr)}:∀ {N':List Str} {cap:List (Option Nat)},Du X sc cl N' cap→cap.length = N'.length
  | [],[],_=>rfl
  | [],_ :: _,h=>h.elim
  | _ :: _,[],h=>h.elim
  | _ :: _,_ :: _,h=>by simp [Du.len h.2]
theorem Un.sameBut {fs ex:List Addr} {H H':Hp} {h h' h'':Heap} {C:Addr} (u:Un fs ex H H' h h') (sb:Heap.SameBut C h' h'') (hC:h.get? C = none):Un fs ex H H' h h'':=by
  have ne:∀ b o,h.get? b = some o→b ≠ C:=fun b o e z=>by rw [z,hC] at e; cases e
  refine ⟨fun b o e n h1 h2=>(sb.2 b (ne b o e)).trans (u.keep b o e n h1 h2),fun b o e n h1 h2=>?_,u.free,fun b o e hx=>?_,u.tups,u.Bl,u.Ds⟩
  · obtain ⟨sl,q⟩:=u.slot b o e n h1 h2
    exact ⟨sl,(sb.2 b (ne b o e)).trans q⟩
  · obtain ⟨o',q⟩:=u.there b o e hx
    exact ⟨o',(sb.2 b (ne b o e)).trans q⟩
theorem HOk.sameBut {P:Program} {w:World} {H:Hp} {h h':Heap} {C:Addr} (x:HOk P w H h) (sb:Heap.SameBut C h h') (hC:H C = none):HOk P w H h':=fun b o e=>by
  refine (x b o e).stay (fun c u hc q=>(sb.2 c ?_).trans q) (fun _ q=>q) fun _ _ q=>q
  rintro rfl
  rcases hc with z | z
  · rw [← z,hC] at e; cases e
  · rw [hC] at z; cases z
def PIfs (X:Cx) (ifs:List Expr) (t:TT):Prop :=
  ∀ (pins:List (Addr × Obj)) (s:Shared) (σ:St) (H:Hp) (Q:Bool→Hp→Prop),Inv X pins σ H s→t σ H Q →
    wpAny (model X.prog X.w) X.A (forIn ifs true fun c r=>if r = true then do let ok ← isTrue c X.env (eval c X.env); pure (ForInStep.yield ok) else pure (ForInStep.yield r)) (TP X pins σ Q) X.xe s
def tTrue:TT:=fun _ H Q=>Q true H
theorem pf_nil {X:Cx}:PIfs X [] tTrue:=fun _ _ _ H _ I h=>wpAny_tests_nil ⟨H,I,h⟩
theorem pf_one {X:Cx} {c:Expr} {t:TT} (h:PT X c t):PIfs X [c] t:=fun pins s σ H Q I hw=>wpAny_tests_one (h pins s σ H Q I hw)
def CompGo (J:It) (g:TG) (tt:TT) (te:TE) (acc:Addr) (τ0:St) (H1:Hp) (Q:VK):Prop:=∃ W:Nat→Nat→List V→St→Hp→Prop,
  (∃ m,W 0 m [] τ0 (upd H1 acc (.lst [])))∧∀ i m ys τ H,W i m ys τ H→H acc = some (.lst ys)∧ys.length < sizeLine ∧
    ((J.stop i H∧Q (.ref acc) H) ∨ (J.go i H∧∀ x H',J.yld i H x H'→g x τ H' fun τ2 H2=>tt τ2 H2 fun b H3 =>
      if b = true then te τ2 H3 fun y H4=>H4 acc = some (.lst ys)∧∃ m',m' < m∧W (i + 1) m' (ys ++ [y]) τ2 (upd H4 acc (.lst (ys ++ [y])))
      else ∃ m',m' < m∧W (i + 1) m' ys τ2 H3))
def QX (cap:List (Option Nat)) (wi:TI) (g:TG) (tt:TT) (te:TE):TE:=fun σ H Q=>wi σ H fun J H1=>∀ acc,H1 acc = none→CompGo J g tt te acc (capS cap σ) H1 Q
section
variable {X:Cx} {tg iter elt:Expr} {ifs:List Expr} {sc:Scope} {pos:Pos} {cl:List (Str × Addr)} {N':List Str} {cap:List (Option Nat)} {wi:TI} {g:TG} {tt:TT} {te:TE}
theorem inv_comp {pins:List (Addr × Obj)} {σ:St} {H:Hp} {s:Shared} {fp:List Addr} {h1:Heap} (S:Q3 X sc cl N' cap) (I:Inv X pins σ H s) (hf:∀ b ∈ fp,Fj X pins H b) (hlt:∀ b ∈ fp,b < s.heap.objs.size)
    (hns:h1.Ns s.heap.objs.size (fun x=>([]:List (Str × Value)).reverse.lookup x)) (keep:∀ b o,s.heap.get? b = some o→h1.get? b = some o) :
    Inv (bO X N' sc cl s H s.heap.objs.size fp (X.pn ++ pins)) [] (capS cap σ) H { s with heap:=h1 }:=by
  have nC:∀ b o,s.heap.get? b = some o→b ≠ s.heap.objs.size:=fun b o e=>Nat.ne_of_lt (Heap.lt_size e)
  have fsub:∀ b,b ≠ X.env.locals→b ∉ X.fs→b ∉ frs X.stack:=fun b h1 h2 z=>(List.mem_cons.mp (I.abS b z)).elim h1 h2
  refine ⟨⟨I.ok.mod,?_,I.ok.glob,I.ok.blt,Nat.le_refl _,fun x y c e1 e2=>?_,fun x hx=>?_,fun x c e=>absurd e (by simp),I.ok.hd,I.ok.frames,.inl rfl,fun b hb=>?_,I.bs,Nat.le_trans I.ok.bsz I.sz,fun b o e hb=>?_,fun b hb=>?_,I.stack,I.acp⟩,
    rfl,I.bare,Un.kept keep,⟨_,hns,fun i y v e1 e2 e3=>?_⟩,fun y c e=>?_,I.hok.fresh (Nat.le_refl _),fun y c e=>?_,fun p hp=>?_,I.hok.kept keep,?_⟩
  · show (relabel sc X.env).kind = .function
    exact S.kind
  · exact I.ok.inj _ _ c (S.cells.get e1).1 (S.cells.get e2).1
  ·
    have key:∀ k,(relabel sc X.env).names.lookup x = some k→k ≠ .local→k ≠ .globalImplicit→(x,NameKind.free) ∈ sc.names ∨ (x,k) ∈ sc.names:=fun k hk h1 h2=>by
      obtain ⟨⟨n,k0⟩,hm,e⟩:=List.mem_map.mp (PySem.mem_of_lookup hk)
      dsimp only at e
      split at e
      · rename_i q
        have q1:k0 = NameKind.free:=by
          rw [Bool.and_eq_true,Bool.and_eq_true] at q
          exact beq_iff_eq.mp q.1.1
        cases e
        subst q1
        exact .inl hm
      · cases e
        exact .inr hm
    have fin:(x,NameKind.free) ∈ sc.names→∃ c,cl.lookup x = some c:=fun hm=>by
      have z:=List.all_eq_true.mp S.frees _ hm
      simp only [bne_self_eq_false,Bool.false_or] at z
      exact Option.isSome_iff_exists.mp z
    have hx:(relabel sc X.env).names.lookup x = some .cell ∨ (relabel sc X.env).names.lookup x = some .free:=hx
    rcases hx with hx | hx
    · rcases key _ hx (by decide) (by decide) with z | z
      · exact fin z
      · exact absurd (List.all_eq_true.mp S.Vs _ z) (by simp)
    · rcases key _ hx (by decide) (by decide) with z | z <;> exact fin z
  · obtain ⟨_,_,_,_,h5,_⟩:=hf b hb
    exact ⟨Nat.ne_of_lt (hlt b hb),fun x c e=>h5 x c (S.cells.get e).1⟩
  · obtain ⟨_,_,_,h4,_,_⟩:=hf b hb
    rcases h4 with z | z
    · exact I.ok.bA b o e z
    · exact absurd (Nat.lt_of_lt_of_le (Nat.lt_of_lt_of_le (Heap.lt_size e) I.ok.bsz) z) (Nat.lt_irrefl _)
  · obtain ⟨_,h2,h3,_,_,_⟩:=hf b hb
    exact fsub b h2 h3
  ·
    unfold capS at e2
    rw [List.getElem?_map] at e2
    cases ec:cap[i]? with
    | none=>rw [ec] at e2; cases e2
    | some o =>
      rw [ec] at e2
      cases o with
      | none=>cases e2
      | some j =>
        have e2:(σ[j]?).join = some v:=Option.some.inj e2
        obtain ⟨hj,hs,hk⟩:=S.caps.get e1 ec
        obtain ⟨c,hc⟩:=Option.isSome_iff_exists.mp hs
        obtain ⟨c1,c2⟩:=S.cells.get hc
        have ej:σ[j]? = some (some v):=by
          cases q:σ[j]? with
          | none=>rw [q] at e2; cases e2
          | some z=>rw [q] at e2; exact congrArg some e2
        obtain ⟨m,hm,hl⟩:=id I.loc
        obtain ⟨u,ru,lk⟩:=hl j y v hj ej (c2.elim (fun z=>.inr (.inl z)) fun z=>.inr (.inr z))
        refine ⟨u,ru,?_⟩
        rcases lk with ⟨z,_⟩ | ⟨_,c',e',⟨oc,eo,ed⟩⟩
        · rcases c2 with q | q <;> · rw [q] at z; cases z
        · rw [c1] at e'
          cases e'
          exact .inr ⟨hk,c,hc,oc,keep _ _ eo,ed⟩
  · obtain ⟨v,o,e1,e2⟩:=I.cell y c (S.cells.get e).1
    exact ⟨v,o,keep _ _ e1,e2⟩
  · exact I.yZ y c (S.cells.get e).1
  · have hp:p ∈ X.pn ++ pins:=by simpa using hp
    obtain ⟨e,n,ne,nf,d⟩:=I.pin p hp
    exact ⟨keep _ _ e,n,nC _ _ e,fsub _ ne nf,d⟩
  · show (capS cap σ).length = N'.length
    unfold capS
    rw [List.length_map]
    exact S.caps.len
theorem J3 {pp:Pos} {use:Option (Value→Sem Unit)} {Q':Value→Shared→Prop} {pins:List (Addr × Obj)} {s:Shared} {σ:St} {H:Hp} {Q:VK} (S:Q3 X sc cl N' cap) (hc:X.calm = true) (hi:PI X tg iter wi) (hg:∀ s₀ H₀ C fp pn,PG (bO X N' sc cl s₀ H₀ C fp pn) tg g) (ht:∀ s₀ H₀ C fp pn,PIfs (bO X N' sc cl s₀ H₀ C fp pn) ifs tt)
    (he:∀ s₀ H₀ C fp pn,PE (bO X N' sc cl s₀ H₀ C fp pn) elt te) (hs:∀ x,foldedSetIterable iter X.env x = pure x) (I:Inv X pins σ H s) (h:QX cap wi g tt te σ H Q)
    (fin:∀ (s6:Shared) (C a:Addr) (H6:Hp) (m:Str→Option Value),s6.heap.Ns C m→Fj X pins H6 C→(∀ h',Heap.SameBut C s6.heap h'→Inv X pins σ H6 { s6 with heap:=h' })→Q (.ref a) H6→compPost (model X.prog X.w) X.A X.xe use Q' (.ref a) C (.ok .next) s6) :
    wpAny (model X.prog X.w) X.A (comprehension (.ListComp elt [⟨tg,iter,ifs,0⟩] sc pos) sc X.env pp (newList []) false (eval iter X.env) use) Q' X.xe s:=by
  have Vs:∀ y ∈ sc.names,y.2 ≠ .cell:=fun y hy z=>absurd (List.all_eq_true.mp S.Vs y hy) (by rw [z]; decide)
  have locals:∀ y ∈ sc.names,y.2 = .local→sc.names.lookup y.1 = some .local:=fun y hy z=>by
    have q:=List.all_eq_true.mp S.locals y hy
    rw [z] at q
    simpa using q
  refine wpAny_comprehension_free (use:=use) rfl hs S.clos S.kind locals (thn (hi pins s σ H _ I h) fun v s1 h1=>thn h1 fun itv s2 h2=>?_)
  obtain ⟨it,fp,tn,J,H2,e,I2,T,st2,f2,hR⟩:=h2
  subst e
  have nAcc:H2 s2.heap.objs.size = none:=I2.hok.fresh (Nat.le_refl _)
  obtain ⟨W,⟨m0,w0⟩,step⟩:=hR s2.heap.objs.size nAcc
  refine wpAny_newObj_type (wpAny_newFunctionEnv Vs (by intro y hy; simp at hy) (fun h1 hns hsb=>?_) S.kind)
  have I3:Inv X pins σ (upd H2 s2.heap.objs.size (.lst [])) { s2 with heap:=s2.heap.push { cls:=.type "list",data:=.seq ([]:List Value).toArray } } :=
    I2.laid (t':=s2.toks) (fun b u e=>Heap.get?_push_of_some _ e) (Nat.le_refl _) ⟨Nat.zero_le _,[],0,.nil,Heap.get?_push_size _ rfl⟩
  have fpn:∀ b ∈ fp,b < s2.heap.objs.size:=fun b hb=>by
    obtain ⟨o,e,_⟩:=T.obj _ _ st2 b hb
    exact Heap.lt_size e
  have f3:∀ b ∈ fp,Fj X pins (upd H2 s2.heap.objs.size (.lst [])) b:=fun b hb=>⟨by rw [aV (Nat.ne_of_lt (fpn b hb))]; exact (f2 b hb).1,(f2 b hb).2⟩
  have hC:(s2.heap.push { cls:=.type "list",data:=.seq ([]:List Value).toArray }).get? (s2.heap.push { cls:=.type "list",data:=.seq ([]:List Value).toArray }).objs.size = none:=Heap.get?_none_of_le (Nat.le_refl _)
  have keep:∀ b o,(s2.heap.push { cls:=.type "list",data:=.seq ([]:List Value).toArray }).get? b = some o→h1.get? b = some o:=fun b o e =>
    (hsb.2 b (Nat.ne_of_lt (Heap.lt_size e))).trans (Heap.get?_push_of_some _ e)
  have I4:=inv_comp S I3 f3 (fun b hb=>by
    show b < (s2.heap.push _).objs.size
    rw [Heap.size_push]
    exact Nat.lt_succ_of_lt (fpn b hb)) hns keep
  have fpc:∀ {H':Hp},(∀ b ∈ fp,H' b = none)→∀ b ∈ fp,Fj (bO X N' sc cl { s2 with heap:=s2.heap.push { cls:=.type "list",data:=.seq ([]:List Value).toArray } } (upd H2 s2.heap.objs.size (.lst [])) (s2.heap.push { cls:=.type "list",data:=.seq ([]:List Value).toArray }).objs.size fp (X.pn ++ pins)) [] H' b :=
    fun hn b hb=>⟨hn b hb,(I4.ok.exf b hb).1,I4.ok.exfs b hb,.inl hb,(I4.ok.exf b hb).2,fun p hp=>(f2 b hb).2.2.2.2.2 p (by simpa using hp)⟩
  have loop:∀ s5:Shared,(∃ i m ys τ H',Inv (bO X N' sc cl { s2 with heap:=s2.heap.push { cls:=.type "list",data:=.seq ([]:List Value).toArray } } (upd H2 s2.heap.objs.size (.lst [])) (s2.heap.push { cls:=.type "list",data:=.seq ([]:List Value).toArray }).objs.size fp (X.pn ++ pins)) [] τ H' s5 ∧
      tn i s5.heap∧(∀ b ∈ fp,H' b = none)∧W i m ys τ H')→codeAny (model X.prog X.w) X.A (.compLoop (.ListComp elt [⟨tg,iter,ifs,0⟩] sc pos) 0 (.ref it) (.ref s2.heap.objs.size) (compEnvC sc cl (s2.heap.push { cls:=.type "list",data:=.seq ([]:List Value).toArray }).objs.size X.env))
      (compPost (model X.prog X.w) X.A X.xe use Q' (.ref s2.heap.objs.size) (s2.heap.push { cls:=.type "list",data:=.seq ([]:List Value).toArray }).objs.size) s5:=by
    rintro s5 ⟨i0,m0',ys0,τ0,H0',I0,st0,fr0,w0'⟩
    refine Ys (fun n s'=>∃ i ys τ H',Inv (bO X N' sc cl { s2 with heap:=s2.heap.push { cls:=.type "list",data:=.seq ([]:List Value).toArray } } (upd H2 s2.heap.objs.size (.lst [])) (s2.heap.push { cls:=.type "list",data:=.seq ([]:List Value).toArray }).objs.size fp (X.pn ++ pins)) [] τ H' s' ∧
      tn i s'.heap∧(∀ b ∈ fp,H' b = none)∧W i n ys τ H') ?_ m0' ⟨i0,ys0,τ0,H0',I0,st0,fr0,w0'⟩
    rintro n s' ⟨i,ys,τ,H',I',st,fr,wv⟩
    obtain ⟨hacc,hlen,alt⟩:=step i n ys τ H' wv
    rcases alt with ⟨stop,q⟩ | ⟨go,stp⟩
    · refine thn (T.done (bO X N' sc cl { s2 with heap:=s2.heap.push { cls:=.type "list",data:=.seq ([]:List Value).toArray } } (upd H2 s2.heap.objs.size (.lst [])) (s2.heap.push { cls:=.type "list",data:=.seq ([]:List Value).toArray }).objs.size fp (X.pn ++ pins)) rfl rfl rfl hc i [] s' τ H' _ I' (fpc fr) st stop) fun r s6 ⟨hr,I6⟩=>?_
      subst hr
      obtain ⟨m,hn,_⟩:=id I6.loc
      refine fin s6 _ _ H' m hn (I2.fpOk (by rw [Heap.size_push]; exact Nat.le_succ _) I6.free) (fun h' sb=>?_) q
      have un:Un (frs X.stack) fp H2 H' s2.heap h':=(Un.laid (o:=.lst []) (h':=s2.heap.push { cls:=.type "list",data:=.seq ([]:List Value).toArray }) (fun b u e=>Heap.get?_push_of_some _ e) (Nat.le_refl _) nAcc).trans (I6.base.sameBut sb hC)
      exact I2.call' (s':={ s6 with heap:=h' }) (ch:=fp) I6.os un (I6.hok.sameBut sb I6.free) I6.bare fun b hb=>⟨(f2 b hb).2.2.2.1,(f2 b hb).2.1,(f2 b hb).2.2.2.2.1,(f2 b hb).2.2.2.2.2⟩
    · refine thn (T.item (bO X N' sc cl { s2 with heap:=s2.heap.push { cls:=.type "list",data:=.seq ([]:List Value).toArray } } (upd H2 s2.heap.objs.size (.lst [])) (s2.heap.push { cls:=.type "list",data:=.seq ([]:List Value).toArray }).objs.size fp (X.pn ++ pins)) rfl rfl rfl hc i [] s' τ H' _ I' (fpc fr) st go) fun r s6 ⟨u,hr,h6⟩=>?_
      subst hr
      refine thn h6 fun _ s7 ⟨x,H7,I7,rx,y7,st7,fr7⟩=>?_
      have I7':=I7.pinned (fpc fr7) (T.obj _ _ st7)
      refine thn (hg _ _ _ _ _ _ s7 τ H7 x u _ I7' rx (stp x H7 y7)) fun _ s8 ⟨τ8,H8,I8,q8⟩=>?_
      refine thn (ht _ _ _ _ _ _ s8 τ8 H8 _ I8 q8) fun ok s9 ⟨H9,I9,q9⟩=>?_
      have again:∀ {τa:St} {Ha:Hp} {sa:Shared} {ysa:List V},Inv (bO X N' sc cl { s2 with heap:=s2.heap.push { cls:=.type "list",data:=.seq ([]:List Value).toArray } } (upd H2 s2.heap.objs.size (.lst [])) (s2.heap.push { cls:=.type "list",data:=.seq ([]:List Value).toArray }).objs.size fp (X.pn ++ pins)) ([] ++ Kz fp s7.heap) τa Ha sa →
          (∃ m',m' < n∧W (i + 1) m' ysa τa Ha)→∃ m',m' < n∧∃ i ys τ H',Inv (bO X N' sc cl { s2 with heap:=s2.heap.push { cls:=.type "list",data:=.seq ([]:List Value).toArray } } (upd H2 s2.heap.objs.size (.lst [])) (s2.heap.push { cls:=.type "list",data:=.seq ([]:List Value).toArray }).objs.size fp (X.pn ++ pins)) [] τ H' sa ∧
            tn i sa.heap∧(∀ b ∈ fp,H' b = none)∧W i m' ys τ H':=fun {τa Ha sa ysa} Ia ⟨m',lt,wa⟩=>by
        refine ⟨m',lt,i + 1,ysa,τa,Ha,Ia.Cj,T.keep _ _ _ st7 fun b hb o e=>(Ia.pin (b,o) (List.mem_append_right _ (List.mem_append_right _ (uR hb e)))).1,fun b hb=>?_,wa⟩
        obtain ⟨o,e,_⟩:=T.obj _ _ st7 b hb
        exact (Ia.pin (b,o) (List.mem_append_right _ (List.mem_append_right _ (uR hb e)))).2.1
      cases ok with
      | false=>exact again I9 q9
      | true =>
        refine thn (he _ _ _ _ _ _ s9 τ8 H9 _ I9 q9) fun v s10 ⟨y,H10,I10,ry,ha,hw⟩=>?_
        refine thn (ye _ s10 τ8 H10 (.ref s2.heap.objs.size) [y] (.ref s2.heap.objs.size) [v] (fun _ Hq=>Hq = upd H10 s2.heap.objs.size (.lst (ys ++ [y]))) I10 rfl (.cons ry .nil) ⟨_,_,_,rfl,rfl,ha,hlen,rfl⟩) fun _ s11 ⟨_,H11,I11,_,e11⟩=>?_
        subst e11
        exact again I11 hw
  have start:∃ i m ys τ H',Inv (bO X N' sc cl { s2 with heap:=s2.heap.push { cls:=.type "list",data:=.seq ([]:List Value).toArray } } (upd H2 s2.heap.objs.size (.lst [])) (s2.heap.push { cls:=.type "list",data:=.seq ([]:List Value).toArray }).objs.size fp (X.pn ++ pins)) [] τ H' { s2 with heap:=h1 } ∧
      tn i h1∧(∀ b ∈ fp,H' b = none)∧W i m ys τ H' :=
    ⟨0,m0,[],capS cap σ,_,I4,T.keep _ _ _ st2 fun b hb o e=>keep _ _ (Heap.get?_push_of_some _ e),fun b hb=>(f3 b hb).1,w0⟩
  exact codeAny_compStart_list (loop _ start) (T.self _ 0 _ _ _ (T.keep _ _ _ st2 fun b hb o e=>keep _ _ (Heap.get?_push_of_some _ e)) (loop _ start))
theorem kh (S:Q3 X sc cl N' cap) (hc:X.calm = true) (hi:PI X tg iter wi) (hg:∀ s₀ H₀ C fp pn,PG (bO X N' sc cl s₀ H₀ C fp pn) tg g) (ht:∀ s₀ H₀ C fp pn,PIfs (bO X N' sc cl s₀ H₀ C fp pn) ifs tt)
    (he:∀ s₀ H₀ C fp pn,PE (bO X N' sc cl s₀ H₀ C fp pn) elt te) (hs:∀ x,foldedSetIterable iter X.env x = pure x:=by intro _; rfl) :
    PE X (.ListComp elt [⟨tg,iter,ifs,0⟩] sc pos) (QX cap wi g tt te):=by
  intro pins s σ H Q I h
  rw [eval_ListComp]
  exact J3 (use:=none) (Q':=EP X pins σ Q) S hc hi hg ht he hs I h fun s6 C a H6 m hn _ hI q=>⟨m,hn,fun h' sb=>⟨.ref a,H6,hI h' sb,rfl,q⟩⟩
theorem KY {i:Nat} {x:Str} {pos' spos:Pos} (S:Q3 X sc cl N' cap) (hc:X.calm = true) (hN:X.N.Nodup) (hi':X.N[i]? = some x) (hx:Loc X.env.scope x) (hi:PI X tg iter wi) (hg:∀ s₀ H₀ C fp pn,PG (bO X N' sc cl s₀ H₀ C fp pn) tg g) (ht:∀ s₀ H₀ C fp pn,PIfs (bO X N' sc cl s₀ H₀ C fp pn) ifs tt)
    (he:∀ s₀ H₀ C fp pn,PE (bO X N' sc cl s₀ H₀ C fp pn) elt te) (hsw:swapsWith (.ListComp elt [⟨tg,iter,ifs,0⟩] sc pos) (some (.Name x pos')) spos.line X.env = pure true) (hs:∀ x,foldedSetIterable iter X.env x = pure x:=by intro _; rfl)
    (hf:X.fn x = true ∨ X.env.scope.names.lookup x = some .local:=by first | exact .inl rfl | exact .inr rfl | assumption) :
    PS X (.Assign [.Name x pos'] (.ListComp elt [⟨tg,iter,ifs,0⟩] sc pos) spos) (tAsg (QX cap wi g tt te) (Et i)):=by
  intro pins s σ H D I h
  rw [exec_Assign_Name_used _ _ _ _ hsw]
  refine wpAny_bind (wpAny_standAt (wpAny_bind ?_))
  show wpAny _ _ (do let _ ← comprehension (.ListComp elt [⟨tg,iter,ifs,0⟩] sc pos) sc X.env _ (newList []) false (eval iter X.env) (some (assign (.Name x pos') X.env))) _ _ s
  refine wpAny_bind (wpAny_mono (J3 (use:=some (assign (.Name x pos') X.env)) (Q':=fun _ s'=>SP X pins D .next s') S hc hi hg ht he hs I h fun s6 C a H6 m hn fp hI q=>?_) (fun _ s' hq=>wpAny_pure (wpAny_pure hq)) fun _ _ e=>e)
  refine wpAny_assign_Name (QV (v:=.ref a) (hI _ (Heap.SameBut.refl _ _)) hN hi' hx rfl (fun s7 I7 ⟨a7,sb7,ha7⟩=>?_) hf)
  have ne:C ≠ a7:=by
    rintro rfl
    rcases ha7 with e | e
    · exact fp.2.1 e
    · exact fp.2.2.2.2.1 _ _ e rfl
  refine ⟨m,hn.sameBut sb7 ne,fun h' sb=>?_⟩
  have un:Un (frs X.stack) [C] H6 H6 s7.heap h':=by
    have k:∀ b o,s7.heap.get? b = some o→b ∉ [C]→h'.get? b = some o:=fun b o e n=>(sb.2 b (fun z=>n (by simp [z]))).trans e
    exact ⟨fun b o e _ _ n=>k b o e n,fun b o e _ _ n=>⟨o.slots,k b o e n⟩,fun _ _ _ n _=>n,fun b o e n=>⟨o,k b o e n⟩,fun _ _ q=>q,fun _ _ _ q=>q,fun _ ps q=>⟨#[],by simpa using q⟩⟩
  refine ⟨_,H6,I7.call' (s':={ s7 with heap:=h' }) (ch:=[C]) rfl un (I7.hok.sameBut sb fp.1) I7.bare fun b hb=>?_,q⟩
  obtain rfl:=List.mem_singleton.mp hb
  exact ⟨fp.2.2.2.1,fp.2.1,fp.2.2.2.2.1,fp.2.2.2.2.2⟩
end
end L2
namespace L2
open PySem PySem.Spec PyProof.Rows
section
variable {X:Cx} {pins:List (Addr × Obj)} {σ:St} {H:Hp} {s:Shared} {h':Heap}
theorem Inv.abW {ch:List Addr} {a:Addr} {o:HO} {t':Nat} (I:Inv X pins σ H s) (hch:∀ b ∈ ch,Fj X pins H b) (k:∀ b u,b ∉ ch→s.heap.get? b = some u→h'.get? b = some u) (ha:s.heap.objs.size ≤ a)
    (new:cU X.prog X.w (upd H a o) h' a o):Inv X pins σ (upd H a o) { s with heap:=h',toks:=t' }:=by
  have hn:H a = none:=I.hok.fresh ha
  have nch:∀ b u,H b = some u→b ∉ ch:=fun b u e z=>by rw [(hch b z).1] at e; cases e
  have nea:∀ b u,s.heap.get? b = some u→b ≠ a:=fun b u e=>Nat.ne_of_lt (Nat.lt_of_lt_of_le (Heap.lt_size e) ha)
  refine I.step (g':=s.gens) (d':=s.drawn) (ch:=ch) (fun b hb=>?_) (fun b u _ _ hc e _=>k b u hc e) (fun b u _ _ hc e _=>⟨u.slots,k b u hc e⟩) (fun b u hc e n=>by rw [aV (nea b u e)]; exact n) (fun b u hc e=>⟨u,k b u hc e⟩)
    (fun b xs e=>by rw [aV (aY e hn)]; exact e) (fun b u xs e=>by rw [aV (aY e hn)]; exact e) (fun b ps e=>⟨#[],by rw [aV (aY e hn),e]; simp⟩) (fun m hm=>?_) (fun b u e=>?_) I.bare
  · obtain ⟨_,h2,_,h4,h5,h6⟩:=hch b hb
    exact ⟨h4,h2,h5,h6⟩
  · obtain ⟨o',es,ep,ho,r⟩:=hm
    exact ⟨o',es,ep,k _ o' (fun z=>(hch _ z).2.1 rfl) ho,r⟩
  · by_cases hb:b = a
    · subst hb
      rw [aW] at e
      cases e
      exact new
    · rw [aV hb] at e
      refine (I.hok b u e).stay (fun c v hc q=>k c v ?_ q) (fun c q=>by rw [aV (aY q hn)]; exact q) fun c xs q=>by rw [aV (aY q hn)]; exact q
      rcases hc with z | z
      · rw [z]; exact nch b u e
      · exact nch c _ z
end
def Ite (K:PySem.W.Frag) (a:Addr):It :=
  ⟨fun i H=>∃ xs x,SqL K H a xs∧xs[i]? = some x,fun i H v H'=>∃ p x,v = .ref p∧H p = none∧H' = upd H p (.tup [.int i,x])∧∀ xs,SqL K H a xs→xs[i]? = some x,fun i H=>∃ xs,SqL K H a xs∧xs.length ≤ i⟩
theorem ac6 {P:Program} {w:World} {K:PySem.W.Frag} {es:List Expr} {kk:Nat} {tp:Pos} (a e it:Addr) (hne:e ≠ it) :
    Turn P w K (.Tuple es kk tp) (Ite K a) [e,it] e (fun i h=>(∃ old,IsEnum h e it (i:Nat) old)∧h.IsListIter it a i) where
  mem:=by simp
  obj:=fun i h st b hb=>by
    obtain ⟨⟨old,s1⟩,s2⟩:=st
    rcases List.mem_cons.mp hb with z | z
    · subst z
      exact ⟨_,s1,fun v q=>by
        have q':Data.fields _ = Data.cell v:=q
        cases q'⟩
    · have z:b = it:=by simpa using z
      subst z
      obtain ⟨o,e1,c,d⟩:=s2
      exact ⟨o,e1,fun v q=>by rw [d] at q; cases q⟩
  keep:=fun i h h' st k=>by
    obtain ⟨⟨old,s1⟩,s2⟩:=st
    exact ⟨⟨old,k e (by simp) _ s1⟩,s2.at fun o q=>k it (by simp) o q⟩
  item:=by
    intro X hP hw hK hc i pins s σ H E I hf st hg
    subst hP hw hK
    obtain ⟨xs,x,hq,hx⟩:=hg
    obtain ⟨⟨old,s1⟩,s2⟩:=st
    obtain ⟨its,rv,p,hz⟩:=I.list hq
    obtain ⟨u,hu,ru⟩:=rv.get hx
    refine wpAny_pyNext_enum_item s1 s2 p.isList (x:=u) (by simpa using hu) hne fun h1 eo li tu sz kk'=>⟨_,rfl,wpAny_letOwnedTupleGo_enum eo fun h2 ie sb=>?_⟩
    have hp:H s.heap.objs.size = none:=I.hok.fresh (Nat.le_refl _)
    have lt1:e < s.heap.objs.size:=Heap.lt_size s1
    have ne1:s.heap.objs.size ≠ e:=Nat.ne_of_gt lt1
    have tu2:h2.get? s.heap.objs.size = some { cls:=.type "tuple",data:=.seq #[.int i s.toks,u] }:=(sb.2 _ ne1).trans tu
    have I2:Inv X pins σ (upd H s.heap.objs.size (.tup [.int i,x])) { s with heap:=h2,toks:=s.toks + 1 }:=I.abW (ch:=[e,it]) hf (fun b o hb q=>by
        have hb1:b ≠ e:=fun z=>hb (by simp [z])
        have hb2:b ≠ it:=fun z=>hb (by simp [z])
        exact (sb.2 b hb1).trans (kk' b o hb1 hb2 q)) (Nat.le_refl _) ⟨by show 2 ≤ sizeLine; decide,[.int i s.toks,u],.cons ⟨_,rfl⟩ (.cons ru .nil),_,tu2,rfl,0,rfl⟩
    refine ⟨.ref s.heap.objs.size,_,I2,rfl,⟨_,x,rfl,hp,rfl,fun ys hy=>by rw [I.Zj hy hq]; exact hx⟩,⟨⟨u,?_⟩,?_⟩,fun b hb=>?_⟩
    · have q:IsEnum h2 e it ((i:Int) + 1) u:=ie
      rw [show ((i:Int) + 1) = ((i + 1:Nat):Int) by omega] at q
      exact q
    · obtain ⟨o,e1,r⟩:=li
      exact ⟨o,(sb.2 it (Ne.symm hne)).trans e1,r⟩
    · have lt2:b < s.heap.objs.size:=by
        rcases List.mem_cons.mp hb with z | z
        · rw [z]; exact lt1
        · have z:b = it:=by simpa using z
          rw [z]
          obtain ⟨o,e1,_⟩:=s2
          exact Heap.lt_size e1
      rw [aV (Nat.ne_of_lt lt2)]
      exact (hf b hb).1
  done:=by
    intro X hP hw hK hc i pins s σ H E I hf st hg
    subst hP hw hK
    obtain ⟨xs,hq,hx⟩:=hg
    obtain ⟨⟨old,s1⟩,s2⟩:=st
    obtain ⟨its,rv,p,hz⟩:=I.list hq
    obtain ⟨f0,f1,f2,f3,f4,f5⟩:=hf it (by simp)
    have hl:=rv.length
    exact wpAny_pyNext_enum_end (I.ok.hd hc) s1 s2 p.isList (by simp; omega) fun h' eb=>⟨rfl,I.turned (t':=s.toks) (fun b o hb q=>eb b o hb q) f0 f1 f3 f4 f5⟩
  self:=fun _ _ _ _ _ st h=>wpAny_pyIter_enum st.1.choose_spec h
section
variable {X:Cx}
def iEnum (K:PySem.W.Frag) (ta:TA):TI:=fun σ H R=>ta σ H fun vs H1=>∃ a,vs = [.ref a]∧(∃ xs,SqL K H1 a xs)∧R (Ite K a) H1
theorem pi_enum {es:List Expr} {kk:Nat} {tp:Pos} {l:Expr} {ta:TA} {p pos:Pos} (hg:Gl X "enumerate") (hm:X.mg "enumerate" = none) (ha:PA X [l] ta) (hs:starEach [l] X.env = [(false,eval l X.env)]:=by rfl) :
    PI X (.Tuple es kk tp) (.Call (.Name "enumerate" p) [l] [] pos) (iEnum X.K ta):=by
  intro pins s σ H R I h
  refine Call_ (J4 I hg hm PyProof.Rows.boot_enumerate (PyProof.Rows.callWith_type1 (thn (ha pos pins s σ H _ I h) fun us s1 ⟨vs,H1,I1,r1,q1⟩=>?_) hs rfl))
  obtain ⟨a,e,⟨xs,hq⟩,q⟩:=q1
  subst e
  cases r1 with
  | cons r rr =>
    cases rr
    cases r
    obtain ⟨its,rv,pl,hz⟩:=I1.list hq
    refine call_enumerate_list pl.isList fun h' ie li sz kp=>?_
    refine wpAny_pyIter_enum (it:=s1.heap.objs.size) (i:=0) (old:=.none) ie ?_
    have I2:Inv X pins σ H1 { s1 with heap:=h' }:=I1.kept (t':=s1.toks) kp
    refine ⟨s1.heap.objs.size + 1,[s1.heap.objs.size + 1,s1.heap.objs.size],_,_,H1,rfl,I2,ac6 a (s1.heap.objs.size + 1) s1.heap.objs.size (Nat.succ_ne_self _),⟨⟨.none,ie⟩,li⟩,fun b hb=>?_,q⟩
    have hb':s1.heap.objs.size ≤ b:=by
      rcases List.mem_cons.mp hb with z | z
      · rw [z]; exact Nat.le_succ _
      · have z:b = s1.heap.objs.size:=by simpa using z
        exact Nat.le_of_eq z.symm
    obtain ⟨g1,g2,g3,g4,g5,g6⟩:=I1.fpOk hb' (I1.hok.fresh hb')
    exact ⟨g1,g2,g3,g4,g5,g6⟩
end
section
variable {X:Cx} {e:Expr} {es:List Expr} {pos:Pos}
end
end L2
namespace L2
open PySem PySem.Spec PyProof.Rows MX
section
variable {X:Cx} {CX:CXT} {k:Nat} {f C:Addr} {fd:FuncData} {ps:List Str} {sp:Sp} {dvs:List V} {ds:List Value} {E:XK} {x m:Str} {p pos apos:Pos} {e:Expr} {es:List Expr} {t:TA}
structure Hc (K:PySem.W.Frag) (C:Addr) (m:Str) (v:Value):Prop where
  sp:PySem.W.specialIn K (.ref C) "__getattribute__" = some (some (.builtin "type.__getattribute__"))
  rd:PySem.W.readsIn K C (.type "type") = true
  at_:PySem.W.findCls K (.ref C) (.type "type") m = some (.val v)
theorem ZD {pl:Sem Bool} (F:bC X.prog X.w X.K X.mg X.base CX k f fd ps sp) (hr:gJ k X.A) (hg:Gl X x) (hm:X.mg x = some (.ref C)) (ca:Hc X.K C m (.ref f)) (hk:PySem.W.keepIn X.K (.ref f) = true) (hb:Binds X.K fd ps ds) (hd:Vals dvs ds) (hx:qz CX X E)
    (ha:PA X (e :: es) t) (hdb:(x == ("__debug__":Str)) = false:=by decide) (he:starEach (e :: es) X.env = (false,eval e X.env) :: starEach es X.env:=by rfl) (hpl:(backTo pos (starEach es X.env)).any (·.1) = false:=by rfl)
    (ht:eval (.Call (.Attribute (.Name x p) m apos) (e :: es) [] pos) X.env = (do
      let ov ← eval (.Name x p) X.env
      standAt apos.atName
      let (f,first) ← holding [ov] (getMethod ov m pl)
      callWith pos f first (backTo pos (starEach (e :: es) X.env)) (backToKw pos (keywordEach [] X.env))):=by rfl) :
    PE X (.Call (.Attribute (.Name x p) m apos) (e :: es) [] pos) (Z8 sp dvs E t):=by
  intro pins s σ H Q I h
  refine PySem.W.methodCall_KW (pl:=pl) (Bt I hg hm ?_ hdb) ht
  refine PySem.W.method_cls I.kIn ca.sp (PySem.W.cls_value I.kIn ca.rd ca.at_ rfl ?_)
  have I1:=I.tok (s.toks + 1)
  refine PySem.W.callWith_K (first:=[]) (h₀:=X.base) I.ok.mod.kin hk (thn (ha pos pins _ σ H _ I1 h) fun us s1 ⟨vs,H1,I2,r,q⟩=>⟨I2.kIn,?_⟩) he hpl
  exact Wy F hr hb hd hx I2 r q
end
def excP (n:Bool) (C:Addr) (dd:Option Addr) (e:Addr) (h:Heap):Prop:=∃ o vs t,h.get? e = some o∧o.cls = .ref C∧o.dict = dd∧o.data = .fields vs∧vs[0]? = some (.ref t)∧(n = true→vs = #[.ref t,.none,.none,.none,.bool false,.none])
def xdP (fs:List (Str × V)) (d:Addr) (h:Heap):Prop:=∃ mA,h.Ns1 d mA∧(∀ f,vK (fs.lookup f) (mA f))∧PySem.Within mA (fs.map (·.1))
abbrev HO.exc (n:Bool) (C:Addr) (dd:Option Addr) (e:Addr):HO:=.ext (excP n C dd e)
abbrev HO.xds (fs:List (Str × V)) (d:Addr):HO:=.ext (xdP fs d)
theorem excP.ok {P:Program} {w:World} {H:Hp} {h:Heap} {n:Bool} {C e:Addr} {dd:Option Addr} (x:excP n C dd e h):cU P w H h e (.exc n C dd e):=by
  refine ⟨x,?_,fun h1 h2 y k=>?_⟩
  · obtain ⟨o,_,_,q,_⟩:=x
    exact ⟨o,q⟩
  · obtain ⟨o,vs,t,q,r⟩:=y
    exact ⟨o,vs,t,k o q,r⟩
theorem xdP.ok {P:Program} {w:World} {H:Hp} {h:Heap} {fs:List (Str × V)} {d:Addr} (x:xdP fs d h):cU P w H h d (.xds fs d):=by
  refine ⟨x,?_,fun h1 h2 y k=>?_⟩
  · obtain ⟨_,⟨o,_,_,q,_⟩,_⟩:=x
    exact ⟨o,q⟩
  · obtain ⟨mA,⟨o,es,ep,q,r⟩,z⟩:=y
    exact ⟨mA,⟨o,es,ep,k o q,r⟩,z⟩
structure ExcC (K:PySem.W.Frag) (C N:Addr):Prop extends ExcGet K C where
  obj:∃ nm q bs bm sn sub ab col dd k0 k1 k2 k3 k5,K.lookup C = some (excClassObj nm q C N bs bm true sn sub ab col dd k0 k1 k2 k3 k5 "ValueError.__new__")∧PySem.W.tailIn K bmV bm = true
  ns:PySem.W.nsOkIn K N = true
  kp:PySem.W.keepIn K (.ref C) = true
section
variable {X:Cx} {CX:CXT} {k:Nat} {f C N:Addr} {fd:FuncData} {ps:List Str} {sp:Sp} {dvs:List V} {ds:List Value} {E:XK} {x m:Str} {p pos apos:Pos} {e:Expr} {es:List Expr} {t:TA}
end
end L2
namespace L2
open PySem PySem.Spec PyProof.Rows MX
section
variable {X:Cx} {pins:List (Addr × Obj)} {σ:St} {H:Hp} {s:Shared} {h':Heap}
end
section
variable {X:Cx} {o e value:Expr} {f:Str} {pos pos':Pos} {ta tv:TE}
inductive TyX (K:PySem.W.Frag) (H:Hp):V→Value→Prop where
  | of {x:V} {t:Value} (h:CJ K H x t):TyX K H x t
  | e0 {n:Bool} {a C:Addr} (h:H a = some (.exc n C none a)) (g:ExcGet K C):TyX K H (.ref a) (.ref C)
  | e1 {n:Bool} {a C d:Addr} {fs:List (Str × V)} (h:H a = some (.exc n C (some d) a)) (h':H d = some (.xds fs d)) (g:ExcGet K C):TyX K H (.ref a) (.ref C)
def clsV:V→Value
  | .ref C=>.ref C
  | .ty n=>.type n
  | _=>.none
def rIsi (K:PySem.W.Frag) (xs:List V) (H:Hp) (Q:VK):Prop:=∃ x c t b,xs = [x,c]∧(c = .ref (match c with | .ref C=>C | _=>0) ∨ c = .ty (match c with | .ty n=>n | _=>""))∧TyX K H x t∧PySem.W.kitOne K t (clsV c) = some b∧Q (.bl b) H
theorem call_isi:mV X (.builtin "isinstance") (rIsi X.K):=by
  intro pins s σ H xs us Q I r h
  obtain ⟨x,c,t,b,rfl,hc,ty,ek,q⟩:=h
  cases r with
  | @cons _ u _ _ rx rr =>
    cases rr with
    | @cons _ cu _ _ rc rr =>
      cases rr
      have ec:cu = clsV c:=by
        rcases hc with z | z <;> · rw [z] at rc ⊢; exact rc
      subst ec
      have fin:∀ tk,EP X pins σ Q (.bool b) { s with toks:=tk }:=fun tk=>⟨.bl b,H,I.tok tk,rfl,q⟩
      cases ty with
      | of ty=>exact acN I rx ty ek fin
      | @e0 n a C hH G =>
        cases rx
        obtain ⟨⟨ob,vs,t0,e1,e2,e3,e4,e5⟩,_,_⟩:=I.hok a _ hH
        have IA:PySem.W.InstAt s.heap a ob C none:=⟨e1,e2,by unfold PySem.W.notCls; rw [e4],by rw [e3]; trivial⟩
        exact PySem.W.kia_one (excKit G) I.kIn IA ek (fun z=>nomatch z) fin
      | @e1 n a C d fs hH hD G =>
        cases rx
        obtain ⟨⟨ob,vs,t0,e1,e2,e3,e4,e5⟩,_,_⟩:=I.hok a _ hH
        obtain ⟨⟨mA,n1,rl,wi⟩,_,_⟩:=I.hok d _ hD
        obtain ⟨oD,esD,epD,eD,_⟩:=n1
        have IA:PySem.W.InstAt s.heap a ob C (some oD):=⟨e1,e2,by unfold PySem.W.notCls; rw [e4],by rw [e3]; exact eD⟩
        exact PySem.W.kia_one (excKit G) I.kIn IA ek (fun z=>nomatch z) fin
end
end L2
namespace L2
open PySem PySem.Spec PyProof.Rows
mutual
inductive Cr (K:PySem.W.Frag) (H:Hp):V→PyData→Prop
  | non:Cr K H .non .none
  | bl (b:Bool):Cr K H (.bl b) (.bool b)
  | int (i:Int):Cr K H (.int i) (.int i)
  | str (x:Str):Cr K H (.str x) (.str x)
  | lst {a:Addr} {xs:List V} {ds:List PyData} (h:SqL K H a xs) (r:jJ K H xs ds):Cr K H (.ref a) (.list ds)
  | tup {a:Addr} {xs:List V} {ds:List PyData} (h:SqT K H a xs) (r:jJ K H xs ds):Cr K H (.ref a) (.tuple ds)
inductive jJ (K:PySem.W.Frag) (H:Hp):List V→List PyData→Prop
  | nil:jJ K H [] []
  | cons {x:V} {xs:List V} {d:PyData} {ds:List PyData} (h:Cr K H x d) (r:jJ K H xs ds):jJ K H (x :: xs) (d :: ds)
end
section
variable {X:Cx} {pins:List (Addr × Obj)} {σ:St} {H:Hp} {s:Shared}
mutual
theorem Cr.reads (I:Inv X pins σ H s):∀ {x:V} {d:PyData} {u:Value},Cr X.K H x d→RelV x u→∃ as,Reads s.heap u d as
  | _,_,_,.non,r=>by cases r; exact ⟨_,.none⟩
  | _,_,_,.bl b,r=>by cases r; exact ⟨_,.bool b⟩
  | _,_,_,.int i,r=>by obtain ⟨t,rfl⟩:=r; exact ⟨_,.int i t⟩
  | _,_,_,.str x,r=>by obtain ⟨t,rfl⟩:=r; exact ⟨_,.str x t⟩
  | _,_,_,.lst h q,r=>by
    cases r
    obtain ⟨its,rv,p,_⟩:=I.list h
    obtain ⟨as,z⟩:=jJ.reads I q rv
    obtain ⟨o,e,c,n,dd⟩:=p.isList
    exact ⟨_,.list e c dd (by simpa using z)⟩
  | _,_,_,.tup h q,r=>by
    cases r
    obtain ⟨its,rv,p,_⟩:=I.tuple h
    obtain ⟨as,z⟩:=jJ.reads I q rv
    obtain ⟨o,e,c,n,dd⟩:=p
    exact ⟨_,.tuple e c dd (by simpa using z)⟩
theorem jJ.reads (I:Inv X pins σ H s):∀ {xs:List V} {ds:List PyData} {us:List Value},jJ X.K H xs ds→Vals xs us→∃ as,ReadsAll s.heap us ds as
  | _,_,_,.nil,.nil=>⟨_,.nil⟩
  | _,_,_,.cons h q,.cons r rr=>by
    obtain ⟨as,z⟩:=Cr.reads I h r
    obtain ⟨bs,y⟩:=jJ.reads I q rr
    exact ⟨_,.cons z y⟩
end
end
def rEqD (K:PySem.W.Frag) (neg:Bool):R2:=fun x y H Q=>∃ da db,Cr K H x da∧Cr K H y db∧da.canLay0 = true∧db.canLay0 = true∧da.depth ≤ 50∧Q (.bl (PyData.eqv da db != neg)) H
section
variable {X:Cx}
theorem op_eqD (hu:X.A.units + 64 < cLine):OpR X (compareOp .Eq) (rEqD X.K false):=by
  intro pins s σ H x y v u Q I rx ry h
  obtain ⟨da,db,d1,d2,c1,c2,dp,q⟩:=h
  obtain ⟨as,r1⟩:=d1.reads I rx
  obtain ⟨bs,r2⟩:=d2.reads I ry
  exact SeqAt.compareEq_reads r1 r2 c1 c2 (by omega) ⟨.bl (PyData.eqv da db),H,I,rfl,by simpa using q⟩
theorem op_neD (hu:X.A.units + 64 < cLine):OpR X (compareOp .NotEq) (rEqD X.K true):=by
  intro pins s σ H x y v u Q I rx ry h
  obtain ⟨da,db,d1,d2,c1,c2,dp,q⟩:=h
  obtain ⟨as,r1⟩:=d1.reads I rx
  obtain ⟨bs,r2⟩:=d2.reads I ry
  exact SeqAt.compareNe_reads r1 r2 c1 c2 (by omega) ⟨.bl (!PyData.eqv da db),H,I,rfl,by simpa using q⟩
theorem op_mulS:OpR X (binaryOp .Mult) (fun x y H Q=>∃ i n,x = .str i∧y = .int n∧i.length ≤ 1000∧0 ≤ n∧n ≤ 1000∧Q (.str (Txt.mul i n)) H):=by
  intro pins s σ H x y v u Q I rx ry h
  obtain ⟨i,n,rfl,rfl,h1,h2,h3,q⟩:=h
  obtain ⟨t,rfl⟩:=rx
  obtain ⟨t',rfl⟩:=ry
  exact PySem.SB.mul (mulOk_of 1000 1000 h1 (by omega) (by omega) (by decide) (by decide)) fun t'' k=>⟨.str (Txt.mul i n),H,I.tok k,⟨_,rfl⟩,q⟩
end
end L2
namespace L2
open PySem PySem.Spec PyProof.Rows
section
variable {κ:Type} [DecidableEq κ]
def xT (kvs:List (κ × V)) (k:κ):Option V:=(kvs.find? fun kv=>decide (kv.1 = k)).map (·.2)
def putK (kvs:List (κ × V)) (k:κ) (v:V):List (κ × V) :=
  if (kvs.any fun kv=>decide (kv.1 = k)) = true then kvs.map (fun kv=>if kv.1 = k then (kv.1,v) else kv) else kvs ++ [(k,v)]
def dropK (kvs:List (κ × V)) (k:κ):List (κ × V):=kvs.filter fun kv=>decide (kv.1 ≠ k)
theorem Cm {p:κ × V} {r:List (κ × V)} {k:κ} (e:p.1 = k):xT (p :: r) k = some p.2:=by simp [xT,List.find?_cons,e]
theorem Ck {p:κ × V} {r:List (κ × V)} {k:κ} (e:¬ p.1 = k):xT (p :: r) k = xT r k:=by simp [xT,List.find?_cons,e]
theorem Lr (k:κ):∀ kvs:List (κ × V),(kvs.any fun kv=>decide (kv.1 = k)) = (xT kvs k).isSome
  | []=>rfl
  | p :: r=>by
    rw [List.any_cons]
    by_cases e:p.1 = k
    · simp only [Cm e,decide_eq_true e,Bool.true_or,Option.isSome_some]
    · rw [Ck e,decide_eq_false e,Bool.false_or]; exact Lr k r
theorem Ff (kvs:List (κ × V)) (k:κ) (v:V):(putK kvs k v).length ≤ kvs.length + 1:=by
  unfold putK
  split
  · rw [List.length_map]; omega
  · rw [List.length_append,List.length_cons,List.length_nil]; omega
theorem vK.Dd {o:Option V} {u:Option Value} (r:vK o u):o.isSome = u.isSome:=by
  cases o with
  | none=>cases u with
    | none=>rfl
    | some _=>exact (show False from r).elim
  | some _=>cases u with
    | none=>exact (show False from r).elim
    | some _=>rfl
theorem vK.getD {o:Option V} {u:Option Value} {d:V} {d':Value} (r:vK o u) (rd:RelV d d'):RelV (o.getD d) (u.getD d'):=by
  cases o with
  | none=>cases u with
    | none=>exact rd
    | some _=>exact (show False from r).elim
  | some _=>cases u with
    | none=>exact (show False from r).elim
    | some _=>exact r
theorem KV.val {kvs:List (κ × V)} {vs:List (κ × Value)} (r:KV kvs vs) (k:κ):vK (xT kvs k) (valueAt vs k):=by
  unfold KV at r
  induction r with
  | nil=>exact True.intro
  | @cons p q ps qs h t ih =>
    obtain ⟨h1,h2⟩:=h
    by_cases e:p.1 = k
    · have e':q.1 = k:=h1.symm.trans e
      have b:valueAt (q :: qs) k = some q.2:=by simp [valueAt,List.find?_cons,e']
      rw [Cm e,b]; exact h2
    · have e':¬ q.1 = k:=fun z=>e (h1.trans z)
      have b:valueAt (q :: qs) k = valueAt qs k:=by simp [valueAt,List.find?_cons,e']
      rw [Ck e,b]; exact ih
theorem KV.any {kvs:List (κ × V)} {vs:List (κ × Value)} (r:KV kvs vs) (k:κ):(kvs.any fun kv=>decide (kv.1 = k)) = vs.any fun kv=>decide (kv.1 = k):=by
  unfold KV at r
  induction r with
  | nil=>rfl
  | cons h t ih=>rw [List.any_cons,List.any_cons,ih,h.1]
theorem KV.repl {kvs:List (κ × V)} {vs:List (κ × Value)} (r:KV kvs vs) (k:κ) {y:V} {u:Value} (ry:RelV y u) :
    KV (kvs.map fun kv=>if kv.1 = k then (kv.1,y) else kv) (vs.map fun kv=>if kv.1 = k then (kv.1,u) else kv):=by
  unfold KV at r ⊢
  induction r with
  | nil=>exact .nil
  | @cons p q ps qs h t ih =>
    rw [List.map_cons,List.map_cons]
    refine .cons ?_ ih
    obtain ⟨h1,h2⟩:=h
    by_cases e:p.1 = k
    · rw [if_pos e,if_pos (h1.symm.trans e)]; exact ⟨h1,ry⟩
    · rw [if_neg e,if_neg (fun z=>e (h1.trans z))]; exact ⟨h1,h2⟩
theorem KV.put {kvs:List (κ × V)} {vs:List (κ × Value)} (r:KV kvs vs) (k:κ) {y:V} {u:Value} (ry:RelV y u):KV (putK kvs k y) (stored vs k u):=by
  unfold putK stored
  rw [r.any k]
  by_cases e:(vs.any fun kv=>decide (kv.1 = k)) = true
  · rw [if_pos e,if_pos e]; exact r.repl k ry
  · rw [if_neg e,if_neg e]; exact Paired.snoc r ⟨rfl,ry⟩
theorem KV.drop {kvs:List (κ × V)} {vs:List (κ × Value)} (r:KV kvs vs) (k:κ):KV (dropK kvs k) (without vs k):=by
  unfold KV at r ⊢
  unfold dropK without
  induction r with
  | nil=>exact .nil
  | @cons p q ps qs h t ih =>
    obtain ⟨h1,h2⟩:=h
    rw [List.filter_cons,List.filter_cons]
    by_cases e:p.1 = k
    · have a:¬ decide (p.1 ≠ k) = true:=by simp [e]
      have b:¬ decide (q.1 ≠ k) = true:=by simp [h1.symm.trans e]
      rw [if_neg a,if_neg b]; exact ih
    · have e':¬ q.1 = k:=fun z=>e (h1.trans z)
      have a:decide (p.1 ≠ k) = true:=by simp [e]
      have b:decide (q.1 ≠ k) = true:=by simp [e']
      rw [if_pos a,if_pos b]; exact .cons ⟨h1,h2⟩ ih
theorem KV.length {kvs:List (κ × V)} {vs:List (κ × Value)} (r:KV kvs vs):kvs.length = vs.length:=Paired.length r
end
theorem Zh {P:Program} {w:World} {k:Key} {u:Value} (r:RelV (kV k) u):(cZ P w).is k u = true:=by
  cases k with
  | inl i=>obtain ⟨t,e⟩:=(show ∃ t,u = Value.int i t from r); subst e; exact Zk P w i t
  | inr x=>obtain ⟨t,e⟩:=(show ∃ t,u = Value.str x t from r); subst e; exact Zm P w x t
theorem QM {P:Program} {w:World}:∀ {ks:List Key} {us:List Value},Vals (ks.map kV) us→ItemsAre (cZ P w) ks us
  | [],_,r=>by rw [List.map_nil] at r; cases r; exact .nil
  | k :: ks,_,r=>by
    rw [List.map_cons] at r
    cases r with
    | cons h t=>exact .cons (Zh h) (QM t)
abbrev KT (H:Hp):List (List Key × V)→List (List Key × Addr × Value)→Prop:=Paired fun p q=>p.1 = q.1∧H q.2.1 = some (.tup (p.1.map kV))∧RelV p.2 q.2.2
theorem KT.val {H:Hp} {kvs:List (List Key × V)} {xs:List (List Key × Addr × Value)} (r:KT H kvs xs) (k:List Key):vK (xT kvs k) ((atKey xs k).map (·.2)):=by
  induction r with
  | nil=>exact True.intro
  | @cons p q ps qs h t ih =>
    obtain ⟨h1,_,h2⟩:=h
    by_cases e:p.1 = k
    · have e':q.1 = k:=h1.symm.trans e
      have b:atKey (q :: qs) k = some q.2:=by simp [atKey,List.find?_cons,e']
      rw [Cm e,b]; exact h2
    · have e':¬ q.1 = k:=fun z=>e (h1.trans z)
      have b:atKey (q :: qs) k = atKey qs k:=by simp [atKey,List.find?_cons,e']
      rw [Ck e,b]; exact ih
theorem KT.repl {H:Hp} {kvs:List (List Key × V)} {xs:List (List Key × Addr × Value)} (r:KT H kvs xs) (k:List Key) {y:V} {u:Value} (ry:RelV y u) :
    KT H (kvs.map fun kv=>if kv.1 = k then (kv.1,y) else kv) (xs.map (putAt k u)):=by
  induction r with
  | nil=>exact .nil
  | @cons p q ps qs h t ih =>
    rw [List.map_cons,List.map_cons]
    refine .cons ?_ ih
    obtain ⟨h1,h2,h3⟩:=h
    unfold putAt
    by_cases e:p.1 = k
    · rw [if_pos e,if_pos (h1.symm.trans e)]; exact ⟨h1,h2,ry⟩
    · rw [if_neg e,if_neg (fun z=>e (h1.trans z))]; exact ⟨h1,h2,h3⟩
theorem KT.put {H:Hp} {kvs:List (List Key × V)} {xs:List (List Key × Addr × Value)} (r:KT H kvs xs) (k:List Key) {b:Addr} {y:V} {u:Value} (hb:H b = some (.tup (k.map kV))) (ry:RelV y u) :
    KT H (putK kvs k y) (storedH xs k b u):=by
  have e:(kvs.any fun kv=>decide (kv.1 = k)) = (atKey xs k).isSome:=by
    rw [Lr,(r.val k).Dd,Option.isSome_map]
  unfold putK storedH
  rw [e]
  by_cases q:(atKey xs k).isSome = true
  · rw [if_pos q,if_pos q]; exact r.repl k ry
  · rw [if_neg q,if_neg q]; exact Paired.snoc r ⟨rfl,hb,ry⟩
theorem KT.keeps {H H':Hp} {kvs:List (List Key × V)} {xs:List (List Key × Addr × Value)} (r:KT H kvs xs) (ht:∀ b ys,H b = some (.tup ys)→H' b = some (.tup ys)):KT H' kvs xs :=
  Paired.mapP r fun _ _ z=>⟨z.1,ht _ _ z.2.1,z.2.2⟩
section
variable {P:Program} {w:World} {H:Hp} {h:Heap} {a:Addr}
theorem rd_of {u:HO} (ok:HOk P w H h) (e:Rd H a u):cU P w H h a u:=e.ok ok
theorem YS {kvs:List (Key × V)} (ok:HOk P w H h) (e:Rd H a (.dK kvs)):kvs.length ≤ sizeLine∧(a == sysModules) = false∧∃ vs,KV kvs vs∧h.DictOf (cZ P w) a vs :=
  show cU P w H h a (.dK kvs) from rd_of ok e
theorem dk_of {kvs:List (Key × V)} (ok:HOk P w H h) (e:H a = some (.dK kvs)):kvs.length ≤ sizeLine∧(a == sysModules) = false∧∃ vs,KV kvs vs∧h.DictOf (cZ P w) a vs:=YS ok (.inl e)
theorem J2 {ks:List Key} (ok:HOk P w H h) (e:H a = some (.tup (ks.map kV))):(tupleKind (cZ P w)).is h ks a:=by
  obtain ⟨_,its,r,o,h1,h2,n,h3⟩:=(show cU P w H h a (.tup (ks.map kV)) from ok a _ e)
  exact ⟨o,its.toArray,n,h1,h2,h3,by simpa using QM r⟩
theorem YX {kvs:List (List Key × V)} (ok:HOk P w H h) (e:Rd H a (.dT kvs)):kvs.length ≤ sizeLine∧(a == sysModules) = false ∧
    ∃ xs,KT H kvs xs∧h.DictOfH (tupleKind (cZ P w)) a xs:=by
  obtain ⟨z,y,xs,r,o,es,ep,h1,h2,h3,h4,h5⟩:=(show cU P w H h a (.dT kvs) from rd_of ok e)
  refine ⟨z,y,xs,r,o,es,ep,h1,h2,h3,h4,fun x hx=>?_,h5⟩
  have all:∀ {l:List (List Key × V)} {m:List (List Key × Addr × Value)},KT H l m→∀ x ∈ m,(tupleKind (cZ P w)).is h x.1 x.2.1:=by
    intro l m q
    induction q with
    | nil=>intro x hx; exact nomatch hx
    | @cons p q ps qs hq t ih =>
      intro x hx
      rcases List.mem_cons.mp hx with e | hx
      · subst e
        exact J2 ok (by rw [← hq.1]; exact hq.2.1)
      · exact ih x hx
  exact all r x hx
theorem dt_of {kvs:List (List Key × V)} (ok:HOk P w H h) (e:H a = some (.dT kvs)):kvs.length ≤ sizeLine∧(a == sysModules) = false ∧
    ∃ xs,KT H kvs xs∧h.DictOfH (tupleKind (cZ P w)) a xs:=YX ok (.inl e)
end
def yl (H:Hp) (a:Addr) (y:V) (r:Option V):Prop :=
  (∃ kvs k,Rd H a (.dK kvs)∧y = kV k∧r = xT kvs k) ∨ ∃ kvs k b,Rd H a (.dT kvs)∧y = .ref b∧H b = some (.tup (k.map kV))∧r = xT kvs k
def DPut (H:Hp) (a:Addr) (y v:V) (H':Hp):Prop :=
  (∃ kvs k,H a = some (.dK kvs)∧y = kV k∧kvs.length < sizeLine∧H' = upd H a (.dK (putK kvs k v))) ∨
  ∃ kvs k b,H a = some (.dT kvs)∧y = .ref b∧H b = some (.tup (k.map kV))∧kvs.length < sizeLine∧H' = upd H a (.dT (putK kvs k v))
theorem yl.k {H:Hp} {a:Addr} {kvs:List (Key × V)} {k:Key} (e:H a = some (.dK kvs)):yl H a (kV k) (xT kvs k):=.inl ⟨kvs,k,.inl e,rfl,rfl⟩
theorem yl.t {H:Hp} {a b:Addr} {kvs:List (List Key × V)} {k:List Key} (e:H a = some (.dT kvs)) (eb:H b = some (.tup (k.map kV))):yl H a (.ref b) (xT kvs k):=.inr ⟨kvs,k,b,.inl e,rfl,eb,rfl⟩
theorem DPut.k {H:Hp} {a:Addr} {kvs:List (Key × V)} {k:Key} {v:V} (e:H a = some (.dK kvs)) (hl:kvs.length < sizeLine):DPut H a (kV k) v (upd H a (.dK (putK kvs k v))):=.inl ⟨kvs,k,e,rfl,hl,rfl⟩
theorem DPut.t {H:Hp} {a b:Addr} {kvs:List (List Key × V)} {k:List Key} {v:V} (e:H a = some (.dT kvs)) (eb:H b = some (.tup (k.map kV))) (hl:kvs.length < sizeLine) :
    DPut H a (.ref b) v (upd H a (.dT (putK kvs k v))):=.inr ⟨kvs,k,b,e,rfl,eb,hl,rfl⟩
section
variable {X:Cx} {pins:List (Addr × Obj)} {σ:St} {H:Hp} {s:Shared} {a:Addr} {y v:V} {u r:Value} {o:Option V} {A:Around} {E:Value→Shared→Prop}
theorem Inv.big (I:Inv X pins σ H s):sysModules < s.heap.objs.size:=by
  have h:mainGlobals < s.heap.objs.size:=(I.mod.glob.keeps I.bk).lt
  exact Nat.lt_trans (by decide) h
theorem d_notIn {Q:Value→Shared→Prop} (hu:A.units + 1 < cLine) (I:Inv X pins σ H s) (g:yl H a y o) (ry:RelV y u) (h:∀ s',Inv X pins σ H s'→Q (.bool (!o.isSome)) s') :
    wpAny (model X.prog X.w) A (compareOp .NotIn u (.ref a)) Q E s:=by
  rcases g with ⟨kvs,k,e,ey,l⟩ | ⟨kvs,k,b,e,ey,eb,l⟩
  · subst ey
    obtain ⟨z,hd,vs,rel,dd⟩:=YS I.hok e
    refine wpAny_notIn_of (Zh ry) hd dd.mapOf ?_
    rw [← (rel.val k).Dd,← l]
    exact h _ (I.tok _)
  · subst ey
    cases (show u = Value.ref b from ry)
    obtain ⟨z,hd,xs,rel,dd⟩:=YX I.hok e
    refine wpAny_notIn_heap (tupleKind_room_in1 hu) (J2 I.hok eb) hd dd ?_
    have q:=(rel.val k).Dd
    rw [Option.isSome_map] at q
    rw [← q,← l]
    exact h _ (I.tok _)
theorem ab1 {h':Heap} {t':Nat} {ob:HO} (I:Inv X pins σ H s) (mu:Mut (H a)) (hs:Heap.SameBut a s.heap h') (he:∃ q,h'.get? a = some q) (new:cU X.prog X.w (upd H a ob) h' a ob) :
    Inv X pins σ (upd H a ob) { s with heap:=h',toks:=t' } :=
  I.write (x:=a) (e:=a) mu (.inl rfl) (fun b q hb z=>(hs.2 b hb).trans z) he new
theorem dk_new {P:Program} {w:World} {H':Hp} {h':Heap} {kvs:List (Key × V)} {vs:List (Key × Value)} (z:kvs.length ≤ sizeLine) (hd:(a == sysModules) = false) (rel:KV kvs vs) (dd:h'.DictOf (cZ P w) a vs) :
    cU P w H' h' a (.dK kvs):=⟨z,hd,vs,rel,dd⟩
theorem acD {H':Hp} {Q:Unit→Shared→Prop} (hu:A.units + 1 < cLine) (I:Inv X pins σ H s) (g:DPut H a y v H') (ry:RelV y u) (rv:RelV v r) (h:∀ s',Inv X pins σ H' s'→Q () s') :
    wpAny (model X.prog X.w) A (setItem (.ref a) u r) Q E s:=by
  rcases g with ⟨kvs,k,e,ey,l,eH⟩ | ⟨kvs,k,b,e,ey,eb,l,eH⟩
  · subst ey eH
    obtain ⟨z,hd,vs,rel,dd⟩:=dk_of I.hok e
    have hz:vs.length ≤ sizeLine:=by rw [← rel.length]; exact z
    have hl:(putK kvs k v).length ≤ sizeLine:=by have:=Ff kvs k v; omega
    refine wpAny_setItem_pairs (hsz:=hz) (Zh ry) dd fun h' dd' hs=>h _ ?_
    have he:∃ q,h'.get? a = some q:=let ⟨q,_,_,hq,_⟩:=dd'; ⟨q,hq⟩
    exact ab1 I (by rw [e]; exact True.intro) hs he (dk_new hl hd (rel.put k rv) dd')
  · subst ey eH
    cases (show u = Value.ref b from ry)
    obtain ⟨z,hd,xs,rel,dd⟩:=dt_of I.hok e
    have hz:xs.length ≤ sizeLine:=by rw [← Paired.length rel]; exact z
    have hl:(putK kvs k v).length ≤ sizeLine:=by have:=Ff kvs k v; omega
    refine wpAny_setItem_heap (hsz:=hz) (tupleKind_room_in1 hu) (J2 I.hok eb) dd fun h' dd' hs=>h _ ?_
    obtain ⟨q,es,ep,hq,h2,h3,h4,_,h5⟩:=dd'
    refine ab1 I (by rw [e]; exact True.intro) hs ⟨q,hq⟩ ⟨hl,hd,_,(rel.put k eb rv).keeps fun c ys ec=>?_,q,es,ep,hq,h2,h3,h4,h5⟩
    rw [aV (ne_of ec e (fun z=>nomatch z))]
    exact ec
end
section
variable {X:Cx} {pins:List (Addr × Obj)} {σ:St} {H:Hp} {s:Shared} {a:Addr} {kvs:List (Key × V)} {k:Key} {u:Value} {A:Around} {E:Value→Shared→Prop}
end
def tDNotIn (ty td:TE):TE:=fun σ H Q=>ty σ H fun y H1=>td σ H1 fun x H2=>∃ a o,x = .ref a∧yl H2 a y o∧Q (.bl (!o.isSome)) H2
def sDPut (td ty tv:TE):TS:=fun D σ H=>tv σ H fun v H1=>td σ H1 fun x H2=>ty σ H2 fun y H3=>∃ a H4,x = .ref a∧DPut H3 a y v H4∧D.nx σ H4
section
variable {X:Cx} {o i e value:Expr} {pos pos' tpos:Pos} {td ty tv:TE}
theorem QT (hu:X.A.units + 1 < cLine) (hi:PE X i ty) (ho:PE X o td):PC X .NotIn i o (tDNotIn ty td):=by
  intro pins s σ H Q I h
  refine thn (hi pins s σ H _ I h) fun iv s1 ⟨y,H1,I1,ry,q1⟩=>thn (ho pins s1 σ H1 _ I1 q1) fun u s2 ⟨x,H2,I2,rx,a,ov,ex,g,q2⟩=>?_
  subst ex
  obtain rfl:u = Value.ref a:=rx
  exact d_notIn hu I2 g ry fun s3 I3=>⟨.bl (!ov.isSome),H2,I3,rfl,q2⟩
theorem ps_dput (hu:X.A.units + 1 < cLine) (ho:PE X o td) (hi:PE X i ty) (hv:PE X value tv) (hs:swapsWith value (some (.Subscript o i pos')) pos.line X.env = pure false) :
    PS X (.Assign [.Subscript o i pos'] value pos) (sDPut td ty tv):=by
  intro pins s σ H D I h
  refine wpAny_Assign_Subscript (thn (hv pins s σ H _ I h) fun r s1 ⟨v,H1,I1,rv,q1⟩=>thn (ho pins s1 σ H1 _ I1 q1) fun u s2 ⟨x,H2,I2,rx,q2⟩=>thn (hi pins s2 σ H2 _ I2 q2) fun iv s3 ⟨y,H3,I3,ry,a,H4,ex,g,q3⟩=>?_) hs
  subst ex
  obtain rfl:u = Value.ref a:=rx
  exact acD hu I3 g ry rv fun s4 I4=>⟨σ,H4,I4,q3⟩
end
theorem dk_empty {P:Program} {w:World} {H:Hp} (h:Heap) (hb:sysModules < h.objs.size):cU P w H (h.push { cls:=.type "dict",data:=.dict #[] }) h.objs.size (.dK []) :=
  ⟨Nat.zero_le _,beq_eq_false_iff_ne.mpr (Ne.symm (Nat.ne_of_lt hb)),[],.nil,Heap.DictOf.new h⟩
def tDNewK:TE:=fun _ H Q=>∀ p,H p = none→Q (.ref p) (upd H p (.dK []))
section
variable {X:Cx} {pos:Pos}
theorem pe_dnewK:PE X (.Dict [] [] pos) tDNewK:=fun pins s σ H Q I h =>
  wpAny_Dict_empty ⟨.ref s.heap.objs.size,_,I.laid (a:=s.heap.objs.size) (o:=.dK []) (t':=s.toks) (fun _ _ q=>Heap.get?_push_of_some _ q) (Nat.le_refl _) (dk_empty s.heap I.big),rfl,h _ (I.hok.fresh (Nat.le_refl _))⟩
end
structure M1 (X:Cx) (o:Expr) (m:Str) (apos:Pos) (e:Expr) (cpos:Pos):Prop where
  base:attributeBase o m X.env (eval o X.env) = eval o X.env
  few:((backTo cpos (starEach [e] X.env)).all (fun x=>!x.1) && (backToKw cpos (keywordEach [] X.env)).all (fun x=>x.1.isSome)
    && decide (([e]:List Expr).length + ([]:List Keyword).length + (if ([]:List Keyword).isEmpty then 0 else 1) < 30)) = true
  line:(apos.endLine == cpos.line) = true
  trees:backTo cpos (starEach [e] X.env) = [(false,eval e X.env)]
structure M2 (X:Cx) (o:Expr) (m:Str) (apos:Pos) (e f:Expr) (cpos:Pos):Prop where
  base:attributeBase o m X.env (eval o X.env) = eval o X.env
  few:((backTo cpos (starEach [e,f] X.env)).all (fun x=>!x.1) && (backToKw cpos (keywordEach [] X.env)).all (fun x=>x.1.isSome)
    && decide (([e,f]:List Expr).length + ([]:List Keyword).length + (if ([]:List Keyword).isEmpty then 0 else 1) < 30)) = true
  line:(apos.endLine == cpos.line) = true
  trees:backTo cpos (starEach [e,f] X.env) = [(false,eval e X.env),(false,eval f X.env)]
def IsD (H:Hp) (a:Addr):Prop:=(∃ kvs,Rd H a (.dK kvs)) ∨ ∃ kvs,Rd H a (.dT kvs)
theorem isD_at {X:Cx} {pins:List (Addr × Obj)} {σ:St} {H:Hp} {s:Shared} {a:Addr} (I:Inv X pins σ H s) (d:IsD H a) :
    s.TypeIs (.ref a) "dict"∧(∀ b,Value.ref a = .ref b→∃ ob,s.heap.get? b = some ob∧ob.dict = none)∧(a == sysModules) = false:=by
  rcases d with ⟨kvs,e⟩ | ⟨kvs,e⟩
  · obtain ⟨_,hd,vs,_,dd⟩:=YS I.hok e
    refine ⟨dd.typeIs,fun b q=>?_,hd⟩
    cases q
    obtain ⟨ob,_,_,h1,h2,_⟩:=dd
    exact ⟨ob,h1,h2.2.1⟩
  · obtain ⟨_,hd,xs,_,dd⟩:=YX I.hok e
    refine ⟨dd.typeIs,fun b q=>?_,hd⟩
    cases q
    obtain ⟨ob,_,_,h1,h2,_⟩:=dd
    exact ⟨ob,h1,h2.2.1⟩
section
variable {X:Cx} {pins:List (Addr × Obj)} {σ:St} {H:Hp} {s:Shared} {a:Addr} {y d:V} {u r:Value} {o:Option V} {A:Around} {E:Value→Shared→Prop}
theorem d_get1 {Q:Value→Shared→Prop} (hu:A.units + 1 < cLine) (I:Inv X pins σ H s) (g:yl H a y o) (ry:RelV y u) (h:∀ w' s',Inv X pins σ H s'→RelV (o.getD .non) w'→Q w' s') :
    wpAny (model X.prog X.w) A (call (.builtin "dict.get") [.ref a,u]) Q E s:=by
  rcases g with ⟨kvs,k,e,ey,l⟩ | ⟨kvs,k,b,e,ey,eb,l⟩
  · subst ey
    obtain ⟨z,hd,vs,rel,dd⟩:=YS I.hok e
    refine call_meetsIn PySem.F.slot_dict_get dd.typeIs PySem.F.entry_dict_get (PySem.F.args_dict_get_2 _ _) (meets_dict_get (cZ X.prog X.w) a (Zh ry) hd) ⟨_,dd.mapOf,h _ _ (I.tok _) ?_⟩
    rw [l]
    exact (rel.val k).getD rfl
  · subst ey
    cases (show u = Value.ref b from ry)
    obtain ⟨z,hd,xs,rel,dd⟩:=YX I.hok e
    refine call_meetsIn PySem.F.slot_dict_get dd.typeIs PySem.F.entry_dict_get (PySem.F.args_dict_get_2 _ _) (meetsH_dict_get (tupleKind (cZ X.prog X.w)) a b hd) ⟨tupleKind_room_in1 hu,k,xs,J2 I.hok eb,dd,h _ _ (I.tok _) ?_⟩
    rw [l]
    exact (rel.val k).getD rfl
theorem d_get2 {Q:Value→Shared→Prop} (hu:A.units + 1 < cLine) (I:Inv X pins σ H s) (g:yl H a y o) (ry:RelV y u) (rd:RelV d r) (h:∀ w' s',Inv X pins σ H s'→RelV (o.getD d) w'→Q w' s') :
    wpAny (model X.prog X.w) A (call (.builtin "dict.get") [.ref a,u,r]) Q E s:=by
  rcases g with ⟨kvs,k,e,ey,l⟩ | ⟨kvs,k,b,e,ey,eb,l⟩
  · subst ey
    obtain ⟨z,hd,vs,rel,dd⟩:=YS I.hok e
    refine call_meetsIn PySem.F.slot_dict_get dd.typeIs PySem.F.entry_dict_get (PySem.F.args_dict_get_3 _ _ _) (meets_dict_get_default (cZ X.prog X.w) a (Zh ry) hd r) ⟨_,dd.mapOf,h _ _ (I.tok _) ?_⟩
    rw [l]
    exact (rel.val k).getD rd
  · subst ey
    cases (show u = Value.ref b from ry)
    obtain ⟨z,hd,xs,rel,dd⟩:=YX I.hok e
    refine call_meetsIn PySem.F.slot_dict_get dd.typeIs PySem.F.entry_dict_get (PySem.F.args_dict_get_3 _ _ _) (meetsH_dict_get_default (tupleKind (cZ X.prog X.w)) a b hd r) ⟨tupleKind_room_in1 hu,k,xs,J2 I.hok eb,dd,h _ _ (I.tok _) ?_⟩
    rw [l]
    exact (rel.val k).getD rd
end
def tDGet1 (td ty:TE):TE:=fun σ H Q=>td σ H fun x H1=>∃ a,x = .ref a∧IsD H1 a∧ty σ H1 fun y H2=>∃ o,yl H2 a y o∧Q (o.getD .non) H2
def tDGet2 (td ty tx:TE):TE:=fun σ H Q=>td σ H fun x H1=>∃ a,x = .ref a∧IsD H1 a∧ty σ H1 fun y H2=>tx σ H2 fun z H3=>∃ o,yl H3 a y o∧Q (o.getD z) H3
section
variable {X:Cx} {o e f:Expr} {apos cpos:Pos} {td ty tx:TE}
theorem pe_dget1 (hu:X.A.units + 1 < cLine) (ho:PE X o td) (he:PE X e ty) (m:M1 X o "get" apos e cpos):PE X (.Call (.Attribute o "get" apos) [e] [] cpos) (tDGet1 td ty):=by
  intro pins s σ H Q I h
  refine wpAny_Call_method m.base m.few m.line PySem.F.plainAttrs_dict PySem.F.slot_dict_get PySem.F.type_dict_get (thn (ho pins s σ H _ I h) fun u s1 ⟨x,H1,I1,rx,a,ex,d,q1⟩=>?_)
  subst ex
  obtain rfl:u = Value.ref a:=rx
  obtain ⟨t1,t2,_⟩:=isD_at I1 d
  refine ⟨t1,t2,?_⟩
  rw [m.trees]
  refine Calls.callWith_builtin rfl (Calls.evalArgs_plain (Calls.spliced_cons (thn (he pins s1 σ H1 _ I1 q1) fun iv s2 ⟨y,H2,I2,ry,ov,g,q2⟩=>Calls.spliced_nil ?_)))
  exact d_get1 hu I2 g ry fun w' s3 I3 rw'=>⟨_,H2,I3,rw',q2⟩
theorem pe_dget2 (hu:X.A.units + 1 < cLine) (ho:PE X o td) (he:PE X e ty) (hf:PE X f tx) (m:M2 X o "get" apos e f cpos):PE X (.Call (.Attribute o "get" apos) [e,f] [] cpos) (tDGet2 td ty tx):=by
  intro pins s σ H Q I h
  refine wpAny_Call_method m.base m.few m.line PySem.F.plainAttrs_dict PySem.F.slot_dict_get PySem.F.type_dict_get (thn (ho pins s σ H _ I h) fun u s1 ⟨x,H1,I1,rx,a,ex,d,q1⟩=>?_)
  subst ex
  obtain rfl:u = Value.ref a:=rx
  obtain ⟨t1,t2,_⟩:=isD_at I1 d
  refine ⟨t1,t2,?_⟩
  rw [m.trees]
  refine Calls.callWith_builtin rfl (Calls.evalArgs_plain (Calls.spliced_cons (thn (he pins s1 σ H1 _ I1 q1) fun iv s2 ⟨y,H2,I2,ry,q2⟩ =>
    Calls.spliced_cons (thn (hf pins s2 σ H2 _ I2 q2) fun fv s3 ⟨z,H3,I3,rz,ov,g,q3⟩=>Calls.spliced_nil ?_))))
  exact d_get2 hu I3 g ry rz fun w' s4 I4 rw'=>⟨_,H3,I4,rw',q3⟩
end
section
variable {X:Cx} {pins:List (Addr × Obj)} {σ:St} {H:Hp} {s:Shared} {a:Addr} {kvs:List (Key × V)} {A:Around} {E:Value→Shared→Prop}
end
section
variable {X:Cx} {pins:List (Addr × Obj)} {σ:St} {H:Hp} {s:Shared} {a:Addr} {y:V} {u:Value} {A:Around} {E:Value→Shared→Prop}
end
end L2
namespace DL
open PySem PySem.Spec PyProof.Rows MX L2
inductive D where
  | non | bl (b:Bool) | int (i:Int) | str (x:Str) | ty (n:String) | cls (c:Nat)
  | lst (xs:List D) | tup (xs:List D) | rol (xs:List D) | rot (xs:List D)
  | dK (kvs:List (Key × D)) | dT (kvs:List (List Key × D))
  | obj (c:Nat) (fs:List (Str × D)) | exc (c:Nat) (fs:List (Str × D))
inductive Out (α:Type) where
  | ok (a:α) | ex (x:D) | stuck
namespace Out
def bind {α β:Type} (o:Out α) (k:α→Out β):Out β:=match o with
  | .ok a=>k a
  | .ex x=>.ex x
  | .stuck=>.stuck
def opt {α:Type}:Option α→Out α
  | some a=>.ok a
  | none=>.stuck
def bA {α:Type}:Out α→Out α
  | .ok a=>.ok a
  | _=>.stuck
@[simp] theorem bu {α β:Type} (a:α) (k:α→Out β):(Out.ok a).bind k = k a:=rfl
@[simp] theorem Hg {α β:Type} (x:D) (k:α→Out β):(Out.ex x).bind k = .ex x:=rfl
@[simp] theorem tL {α β:Type} (k:α→Out β):(Out.stuck:Out α).bind k = .stuck:=rfl
@[simp] theorem fH {α:Type} (a:α):opt (some a) = .ok a:=rfl
@[simp] theorem BK {α:Type}:(opt none:Out α) = .stuck:=rfl
@[simp] theorem nJ {α:Type} (a:α):bA (Out.ok a) = .ok a:=rfl
end Out
def wpO {α:Type} (o:Out α) (P:α→Prop) (R:D→Prop):Prop:=match o with
  | .ok a=>P a
  | .ex x=>R x
  | .stuck=>False
theorem au {α β:Type} {o:Out α} {k:α→Out β} {P:β→Prop} {R:D→Prop} (h:wpO (o.bind k) P R):wpO o (fun a=>wpO (k a) P R) R:=by
  cases o <;> exact h
theorem wpO.mono {α:Type} {o:Out α} {P P':α→Prop} {R R':D→Prop} (h:wpO o P R) (k:∀ a,P a→P' a) (r:∀ x,R x→R' x):wpO o P' R':=by
  cases o with
  | ok a=>exact k a h
  | ex x=>exact r x h
  | stuck=>exact h
theorem bJ {α:Type} {o:Option α} {P:α→Prop} {R:D→Prop} (h:wpO (Out.opt o) P R):∃ a,o = some a∧P a:=by
  cases o with
  | none=>exact False.elim h
  | some a=>exact ⟨a,rfl,h⟩
theorem fK {α:Type} {o:Out α} {P:α→Prop} {R R':D→Prop} (h:wpO o.bA P R):wpO o P R':=by
  cases o with
  | ok a=>exact h
  | ex x=>exact False.elim h
  | stuck=>exact h
section
variable (K:PySem.W.Frag) (Γ:Nat→Option Addr)
mutual
inductive Rep (G:Hp):V→D→Prop
  | non:Rep G .non .non
  | bl (b:Bool):Rep G (.bl b) (.bl b)
  | int (i:Int):Rep G (.int i) (.int i)
  | str (x:Str):Rep G (.str x) (.str x)
  | ty (n:String):Rep G (.ty n) (.ty n)
  | cls {c:Nat} {C:Addr} (h:Γ c = some C):Rep G (.ref C) (.cls c)
  | lst {a:Addr} {vs:List V} {ds:List D} (h:G a = some (.lst vs)) (r:aC G vs ds):Rep G (.ref a) (.lst ds)
  | tup {a:Addr} {vs:List V} {ds:List D} (h:G a = some (.tup vs)) (r:aC G vs ds):Rep G (.ref a) (.tup ds)
  | rol {a:Addr} {vs:List V} {ds:List D} (h:SqL K G a vs) (r:aC G vs ds):Rep G (.ref a) (.rol ds)
  | rot {a:Addr} {vs:List V} {ds:List D} (h:SqT K G a vs) (r:aC G vs ds):Rep G (.ref a) (.rot ds)
  | dK {a:Addr} {kvs:List (Key × V)} {kds:List (Key × D)} (h:G a = some (.dK kvs)) (r:iY G kvs kds):Rep G (.ref a) (.dK kds)
  | dT {a:Addr} {kvs:List (List Key × V)} {kds:List (List Key × D)} (h:G a = some (.dT kvs)) (r:RepT G kvs kds):Rep G (.ref a) (.dT kds)
  | obj {a:Addr} {c:Nat} {C dx:Addr} {fs:List (Str × V)} {fds:List (Str × D)} (h:G a = some (.ins C dx fs)) (g:Γ c = some C) (r:jM G fs fds):Rep G (.ref a) (.obj c fds)
  | e0 {n:Bool} {a:Addr} {c:Nat} {C:Addr} (h:G a = some (.exc n C none a)) (g:Γ c = some C):Rep G (.ref a) (.exc c [])
  | e1 {n:Bool} {a:Addr} {c:Nat} {C d:Addr} {fs:List (Str × V)} {fds:List (Str × D)} (h:G a = some (.exc n C (some d) a)) (h':G d = some (.xds fs d)) (g:Γ c = some C) (r:jM G fs fds):Rep G (.ref a) (.exc c fds)
inductive aC (G:Hp):List V→List D→Prop
  | nil:aC G [] []
  | cons {v:V} {vs:List V} {d:D} {ds:List D} (h:Rep G v d) (r:aC G vs ds):aC G (v :: vs) (d :: ds)
inductive jM (G:Hp):List (Str × V)→List (Str × D)→Prop
  | nil:jM G [] []
  | cons {f:Str} {v:V} {fs:List (Str × V)} {d:D} {fds:List (Str × D)} (h:Rep G v d) (r:jM G fs fds):jM G ((f,v) :: fs) ((f,d) :: fds)
inductive iY (G:Hp):List (Key × V)→List (Key × D)→Prop
  | nil:iY G [] []
  | cons {k:Key} {v:V} {fs:List (Key × V)} {d:D} {fds:List (Key × D)} (h:Rep G v d) (r:iY G fs fds):iY G ((k,v) :: fs) ((k,d) :: fds)
inductive RepT (G:Hp):List (List Key × V)→List (List Key × D)→Prop
  | nil:RepT G [] []
  | cons {k:List Key} {v:V} {fs:List (List Key × V)} {d:D} {fds:List (List Key × D)} (h:Rep G v d) (r:RepT G fs fds):RepT G ((k,v) :: fs) ((k,d) :: fds)
end
end
section
variable {K:PySem.W.Frag} {Γ:Nat→Option Addr} {G G':Hp}
theorem SqT.same (e:bx G G') {a:Addr} {xs:List V} (h:SqT K G a xs):SqT K G' a xs:=by
  rcases h with h | h
  · rcases h with h | ⟨o,h⟩
    · exact .inl (.inl (e _ _ h))
    · exact .inl (.inr ⟨o,e _ _ h⟩)
  · exact .inr h
mutual
theorem Rep.mono (e:bx G G'):∀ {v:V} {d:D},Rep K Γ G v d→Rep K Γ G' v d
  | _,_,.non=>.non
  | _,_,.bl b=>.bl b
  | _,_,.int i=>.int i
  | _,_,.str x=>.str x
  | _,_,.ty n=>.ty n
  | _,_,.cls h=>.cls h
  | _,_,.lst h r=>.lst (e _ _ h) (aC.mono e r)
  | _,_,.tup h r=>.tup (e _ _ h) (aC.mono e r)
  | _,_,.rol h r=>.rol (e.seq h) (aC.mono e r)
  | _,_,.rot h r=>.rot (SqT.same e h) (aC.mono e r)
  | _,_,.dK h r=>.dK (e _ _ h) (iY.mono e r)
  | _,_,.dT h r=>.dT (e _ _ h) (RepT.mono e r)
  | _,_,.obj h g r=>.obj (e _ _ h) g (jM.mono e r)
  | _,_,.e0 h g=>.e0 (e _ _ h) g
  | _,_,.e1 h h' g r=>.e1 (e _ _ h) (e _ _ h') g (jM.mono e r)
theorem aC.mono (e:bx G G'):∀ {v:List V} {d:List D},aC K Γ G v d→aC K Γ G' v d
  | _,_,.nil=>.nil
  | _,_,.cons h r=>.cons (Rep.mono e h) (aC.mono e r)
theorem jM.mono (e:bx G G'):∀ {v:List (Str × V)} {d:List (Str × D)},jM K Γ G v d→jM K Γ G' v d
  | _,_,.nil=>.nil
  | _,_,.cons h r=>.cons (Rep.mono e h) (jM.mono e r)
theorem iY.mono (e:bx G G'):∀ {v:List (Key × V)} {d:List (Key × D)},iY K Γ G v d→iY K Γ G' v d
  | _,_,.nil=>.nil
  | _,_,.cons h r=>.cons (Rep.mono e h) (iY.mono e r)
theorem RepT.mono (e:bx G G'):∀ {v:List (List Key × V)} {d:List (List Key × D)},RepT K Γ G v d→RepT K Γ G' v d
  | _,_,.nil=>.nil
  | _,_,.cons h r=>.cons (Rep.mono e h) (RepT.mono e r)
end
theorem aC.length:∀ {vs:List V} {ds:List D},aC K Γ G vs ds→vs.length = ds.length
  | _,_,.nil=>rfl
  | _,_,.cons _ r=>by rw [List.length_cons,List.length_cons,r.length]
theorem aC.get:∀ {vs:List V} {ds:List D} {i:Nat} {d:D},aC K Γ G vs ds→ds[i]? = some d→∃ v,vs[i]? = some v∧Rep K Γ G v d
  | _,_,_,_,.nil,e=>by simp at e
  | _,_,0,_,.cons h _,e=>by simp at e; subst e; exact ⟨_,rfl,h⟩
  | _,_,i + 1,d,.cons _ r,e=>by
    obtain ⟨v,h1,h2⟩:=aC.get (i:=i) (d:=d) r (by simpa using e)
    exact ⟨v,by simpa using h1,h2⟩
theorem aC.append:∀ {vs ws:List V} {ds es:List D},aC K Γ G vs ds→aC K Γ G ws es→aC K Γ G (vs ++ ws) (ds ++ es)
  | _,_,_,_,.nil,s=>s
  | _,_,_,_,.cons h r,s=>.cons h (r.append s)
theorem aC.take:∀ {vs:List V} {ds:List D} (n:Nat),aC K Γ G vs ds→aC K Γ G (vs.take n) (ds.take n)
  | _,_,0,_=>by simpa using aC.nil
  | _,_,_ + 1,.nil=>.nil
  | _,_,n + 1,.cons h r=>.cons h (r.take n)
theorem aC.drop:∀ {vs:List V} {ds:List D} (n:Nat),aC K Γ G vs ds→aC K Γ G (vs.drop n) (ds.drop n)
  | _,_,0,r=>r
  | _,_,_ + 1,.nil=>.nil
  | _,_,n + 1,.cons _ r=>r.drop n
theorem aC.set {v:V} {d:D} (h:Rep K Γ G v d):∀ {vs:List V} {ds:List D} (n:Nat),aC K Γ G vs ds→aC K Γ G (vs.set n v) (ds.set n d)
  | _,_,_,.nil=>.nil
  | _,_,0,.cons _ r=>.cons h r
  | _,_,n + 1,.cons h' r=>.cons h' (aC.set h n r)
theorem aC.rep {vs:List V} {ds:List D} (h:aC K Γ G vs ds):∀ k:Nat,aC K Γ G (List.replicate k vs).flatten (List.replicate k ds).flatten
  | 0=>.nil
  | k + 1=>by
    rw [List.replicate_succ,List.replicate_succ,List.flatten_cons,List.flatten_cons]
    exact h.append (h.rep k)
theorem aC.reverse {vs:List V} {ds:List D} (h:aC K Γ G vs ds):aC K Γ G vs.reverse ds.reverse:=by
  induction vs generalizing ds with
  | nil=>cases h; exact .nil
  | cons v vs ih =>
    cases h with
    | cons h r =>
      rw [List.reverse_cons,List.reverse_cons]
      exact (ih r).append (.cons h .nil)
theorem jM.look {f:Str}:∀ {fs:List (Str × V)} {fds:List (Str × D)} {d:D},jM K Γ G fs fds→fds.lookup f = some d→∃ v,fs.lookup f = some v∧Rep K Γ G v d
  | _,_,_,.nil,e=>by simp at e
  | _,_,d,.cons (f:=g) h r,e=>by
    by_cases q:f = g
    · subst q
      simp only [List.lookup_cons,beq_self_eq_true] at e
      cases e
      exact ⟨_,by simp [List.lookup_cons],h⟩
    · have q':(f == g) = false:=beq_eq_false_iff_ne.mpr q
      simp only [List.lookup_cons,q'] at e
      obtain ⟨v,h1,h2⟩:=r.look e
      exact ⟨v,by simp only [List.lookup_cons,q']; exact h1,h2⟩
theorem jM.none {f:Str}:∀ {fs:List (Str × V)} {fds:List (Str × D)},jM K Γ G fs fds→fds.lookup f = none→fs.lookup f = none
  | _,_,.nil,_=>rfl
  | _,_,.cons (f:=g) h r,e=>by
    by_cases q:f = g
    · subst q
      simp only [List.lookup_cons,beq_self_eq_true] at e
      cases e
    · have q':(f == g) = false:=beq_eq_false_iff_ne.mpr q
      simp only [List.lookup_cons,q'] at e ⊢
      exact r.none e
theorem jM.length:∀ {fs:List (Str × V)} {fds:List (Str × D)},jM K Γ G fs fds→fs.length = fds.length
  | _,_,.nil=>rfl
  | _,_,.cons _ r=>by rw [List.length_cons,List.length_cons,r.length]
def putD (f:Str) (d:D):List (Str × D)→List (Str × D)
  | []=>[(f,d)]
  | (g,e) :: r=>if g = f then (g,d) :: r else (g,e) :: putD f d r
theorem jM.put {f:Str} {v:V} {d:D} (h:Rep K Γ G v d):∀ {fs:List (Str × V)} {fds:List (Str × D)},jM K Γ G fs fds→jM K Γ G (lr f v fs) (putD f d fds)
  | _,_,.nil=>.cons h .nil
  | _,_,.cons (f:=g) h' r=>by
    unfold lr putD
    by_cases q:g = f
    · rw [if_pos q,if_pos q]; exact .cons h r
    · rw [if_neg q,if_neg q]; exact .cons h' (jM.put h r)
end
structure Step (G H G' H':Hp):Prop where
  gg:bx G G'
  hh:bx H H'
  gh:bx G' H'
  sep:∀ b,H b ≠ none→G b = none→G' b = none
theorem Step.refl {G H:Hp} (s:bx G H):Step G H G H:=⟨bx.refl _,bx.refl _,s,fun _ _ h=>h⟩
theorem Step.trans {G H G1 H1 G2 H2:Hp} (a:Step G H G1 H1) (b:Step G1 H1 G2 H2):Step G H G2 H2 :=
  ⟨a.gg.trans b.gg,a.hh.trans b.hh,b.gh,fun x h g=>b.sep x (fun q=>by
    cases e:H x with
    | none=>exact h e
    | some o=>rw [a.hh _ _ e] at q; cases q) (a.sep x h g)⟩
theorem bx.up {H:Hp} {p:Addr} {o:HO} (h:H p = none):bx H (upd H p o):=fun b u q=>by rw [aV (aY q h)]; exact q
theorem aQ {G H:Hp} (s:bx G H) {p:Addr} (h:H p = none):G p = none:=s.free h
theorem Step.new {G H:Hp} (s:bx G H) {p:Addr} {o:HO} (h:H p = none):Step G H (upd G p o) (upd H p o):=by
  refine ⟨bx.up (aQ s h),bx.up h,fun b u q=>?_,fun b hb g=>?_⟩
  · by_cases e:b = p
    · subst e; rw [aW] at q ⊢; exact q
    · rw [aV e] at q ⊢; exact s _ _ q
  · have e:b ≠ p:=fun e=>hb (e ▸ h)
    rw [aV e]; exact g
theorem Step.aside {G H:Hp} (s:bx G H) {p:Addr} {o:HO} (h:H p = none):Step G H G (upd H p o) :=
  ⟨bx.refl _,bx.up h,s.trans (bx.up h),fun _ _ g=>g⟩
inductive Mx where
  | own (ds:List D) | fix (d:D)
def Mx.d:Mx→D
  | .own ds=>.lst ds
  | .fix d=>d
inductive Sl where
  | sh (d:D) | ol (ds:List D) | oll (dss:List (List D)) | od (kvs:List (Key × D)) | odT (kvs:List (List Key × D)) | omx (es:List Mx)
abbrev DSt:=List (Option Sl)
section
variable (K:PySem.W.Frag) (Γ:Nat→Option Addr) (G0 H0 G H:Hp) (O:Addr→Option Nat)
inductive Inner (i:Nat):List V→List (List D)→Prop
  | nil:Inner i [] []
  | cons {b:Addr} {vs ws:List V} {ds:List D} {dss:List (List D)} (h:H b = some (.lst ws)) (g:G b = none) (h0:H0 b = none) (o:O b = some i) (r:aC K Γ G ws ds) (n:V.ref b ∉ vs) (t:Inner i vs dss):Inner i (.ref b :: vs) (ds :: dss)
inductive b7 (i:Nat):List V→List Mx→List Addr→Prop
  | nil:b7 i [] [] []
  | own {b:Addr} {vs ws:List V} {ds:List D} {es:List Mx} {bs:List Addr} (h:H b = some (.lst ws)) (g:G b = none) (h0:H0 b = none) (o:O b = some i) (r:aC K Γ G ws ds) (n:b ∉ bs) (t:b7 i vs es bs):b7 i (.ref b :: vs) (.own ds :: es) (b :: bs)
  | fix {v:V} {vs:List V} {d:D} {es:List Mx} {bs:List Addr} (r:Rep K Γ G v d) (t:b7 i vs es bs):b7 i (v :: vs) (.fix d :: es) bs
def dg (i:Nat) (v:V):Sl→Prop
  | .sh d=>Rep K Γ G v d
  | .ol ds=>∃ a vs,v = .ref a∧H a = some (.lst vs)∧G a = none∧H0 a = none∧O a = some i∧aC K Γ G vs ds
  | .oll dss=>∃ a vs,v = .ref a∧H a = some (.lst vs)∧G a = none∧H0 a = none∧O a = some i∧V.ref a ∉ vs∧Inner K Γ H0 G H O i vs dss
  | .od kvs=>∃ a vs,v = .ref a∧H a = some (.dK vs)∧G a = none∧H0 a = none∧O a = some i∧iY K Γ G vs kvs
  | .odT kvs=>∃ a vs,v = .ref a∧H a = some (.dT vs)∧G a = none∧H0 a = none∧O a = some i∧RepT K Γ G vs kvs
  | .omx es=>∃ a vs bs,v = .ref a∧H a = some (.lst vs)∧G a = none∧H0 a = none∧O a = some i∧a ∉ bs∧b7 K Γ H0 G H O i vs es bs
def Slots (σ:L2.St) (δ:DSt):Prop:=∃ O:Addr→Option Nat,∀ i s,δ[i]? = some (some s)→∃ v,σ[i]? = some (some v)∧dg K Γ H0 G H O i v s
structure SR (σ:L2.St) (δ:DSt):Prop where
  st:Step G0 H0 G H
  len:δ.length = σ.length
  sl:Slots K Γ H0 G H σ δ
end
section
variable {K:PySem.W.Frag} {Γ:Nat→Option Addr} {G0 H0 G H G' H':Hp} {O:Addr→Option Nat} {σ:L2.St} {δ:DSt}
theorem Inner.step (s:Step G H G' H') {i:Nat}:∀ {vs:List V} {dss:List (List D)},Inner K Γ H0 G H O i vs dss→Inner K Γ H0 G' H' O i vs dss
  | _,_,.nil=>.nil
  | _,_,.cons h g h0 o r n t=>.cons (s.hh _ _ h) (s.sep _ (by rw [h]; exact fun q=>nomatch q) g) h0 o (r.mono s.gg) n (t.step s)
theorem b7.step (s:Step G H G' H') {i:Nat}:∀ {vs:List V} {es:List Mx} {bs:List Addr},b7 K Γ H0 G H O i vs es bs→b7 K Γ H0 G' H' O i vs es bs
  | _,_,_,.nil=>.nil
  | _,_,_,.own h g h0 o r n t=>.own (s.hh _ _ h) (s.sep _ (by rw [h]; exact fun q=>nomatch q) g) h0 o (r.mono s.gg) n (t.step s)
  | _,_,_,.fix r t=>.fix (r.mono s.gg) (t.step s)
theorem dg.step (s:Step G H G' H') {i:Nat} {v:V} {x:Sl} (h:dg K Γ H0 G H O i v x):dg K Γ H0 G' H' O i v x:=by
  have sp:∀ {a:Addr} {o:HO},H a = some o→G a = none→G' a = none:=fun h g=>s.sep _ (by rw [h]; exact fun q=>nomatch q) g
  cases x with
  | sh d=>exact Rep.mono s.gg h
  | ol ds =>
    obtain ⟨a,vs,e,h1,h2,h3,h4,h5⟩:=h
    exact ⟨a,vs,e,s.hh _ _ h1,sp h1 h2,h3,h4,h5.mono s.gg⟩
  | oll ds =>
    obtain ⟨a,vs,e,h1,h2,h3,h4,h5,h6⟩:=h
    exact ⟨a,vs,e,s.hh _ _ h1,sp h1 h2,h3,h4,h5,h6.step s⟩
  | od ds =>
    obtain ⟨a,vs,e,h1,h2,h3,h4,h5⟩:=h
    exact ⟨a,vs,e,s.hh _ _ h1,sp h1 h2,h3,h4,h5.mono s.gg⟩
  | odT ds =>
    obtain ⟨a,vs,e,h1,h2,h3,h4,h5⟩:=h
    exact ⟨a,vs,e,s.hh _ _ h1,sp h1 h2,h3,h4,h5.mono s.gg⟩
  | omx ds =>
    obtain ⟨a,vs,bs,e,h1,h2,h3,h4,h5,h6⟩:=h
    exact ⟨a,vs,bs,e,s.hh _ _ h1,sp h1 h2,h3,h4,h5,h6.step s⟩
theorem SR.step (S:SR K Γ G0 H0 G H σ δ) (s:Step G H G' H'):SR K Γ G0 H0 G' H' σ δ:=by
  obtain ⟨O,q⟩:=S.sl
  refine ⟨S.st.trans s,S.len,O,fun i x e=>?_⟩
  obtain ⟨v,h1,h2⟩:=q i x e
  exact ⟨v,h1,h2.step s⟩
theorem SR.set (S:SR K Γ G0 H0 G H σ δ) {i:Nat} {v:V} {d:D} (r:Rep K Γ G v d):SR K Γ G0 H0 G H (σ.set i (some v)) (δ.set i (some (.sh d))):=by
  obtain ⟨O,q⟩:=S.sl
  refine ⟨S.st,by rw [List.length_set,List.length_set]; exact S.len,O,fun j x e=>?_⟩
  by_cases ij:i = j
  · subst ij
    rw [List.getElem?_set_self'] at e
    cases h:δ[i]? with
    | none=>rw [h] at e; simp at e
    | some y =>
      rw [h] at e
      simp at e
      have lt:i < σ.length:=by rw [← S.len]; exact (List.getElem?_eq_some_iff.mp h).1
      subst e
      exact ⟨v,by rw [List.getElem?_set_self lt],r⟩
  · rw [List.getElem?_set_ne ij] at e
    obtain ⟨v',h1,h2⟩:=q j x e
    exact ⟨v',by rw [List.getElem?_set_ne ij]; exact h1,h2⟩
theorem SR.drop (S:SR K Γ G0 H0 G H σ δ) {δ':DSt} (hl:δ'.length = δ.length) (h:∀ (i:Nat) x,δ'[i]? = some (some x)→δ[i]? = some (some x)):SR K Γ G0 H0 G H σ δ':=by
  obtain ⟨O,q⟩:=S.sl
  exact ⟨S.st,hl.trans S.len,O,fun i x e=>q i x (h i x e)⟩
end
inductive bK (K:PySem.W.Frag) (Γ:Nat→Option Addr) (H G' H':Hp):List V→List (List D)→Prop
  | nil:bK K Γ H G' H' [] []
  | cons {b:Addr} {vs ws:List V} {ds:List D} {dss:List (List D)} (f:H b = none) (h:H' b = some (.lst ws)) (g:G' b = none) (r:aC K Γ G' ws ds) (n:V.ref b ∉ vs) (t:bK K Γ H G' H' vs dss):bK K Γ H G' H' (.ref b :: vs) (ds :: dss)
section
variable (K:PySem.W.Frag) (Γ:Nat→Option Addr) (E:XK)
def okD (G H:Hp) (Q:VK) (d:D):Prop:=∀ v G' H',Step G H G' H'→Rep K Γ G' v d→Q v H'
def exD (G H:Hp) (x:D):Prop:=∀ a G' H',Step G H G' H'→Rep K Γ G' (.ref a) x→E (.ref a) none H'
def teD (f:DSt→Out D):TE:=fun σ H Q=>∃ G0 H0 G δ,SR K Γ G0 H0 G H σ δ∧wpO (f δ) (okD K Γ G H Q) (exD K Γ E G H)
def ttD (f:DSt→Out Bool):TT:=fun σ H Q=>∃ G0 H0 G δ,SR K Γ G0 H0 G H σ δ∧wpO (f δ) (fun b=>∀ G' H',Step G H G' H'→Q b H') (exD K Γ E G H)
def taD (f:DSt→Out (List D)):TA:=fun σ H Q=>∃ G0 H0 G δ,SR K Γ G0 H0 G H σ δ∧wpO (f δ) (fun ds=>∀ vs G' H',Step G H G' H'→aC K Γ G' vs ds→Q vs H') (exD K Γ E G H)
def tbD (f:DSt→Out D):TE:=fun σ H Q=>∃ G0 H0 G δ,SR K Γ G0 H0 G H σ δ∧wpO (f δ) (fun d=>∀ v G' H',Step G H G' H'→Rep K Γ H' v d→Q v H') (exD K Γ E G H)
inductive Fl where
  | nx (δ:DSt) | rt (d:D) | bk (δ:DSt) | ct (δ:DSt) | rl (ds:List D) | rll (dss:List (List D))
def FlOk (G0 H0:Hp) (N:Ends):Fl→Prop
  | .nx δ=>∀ σ G H,SR K Γ G0 H0 G H σ δ→N.nx σ H
  | .rt d=>∀ v G H,Step G0 H0 G H→Rep K Γ G v d→N.rt v H
  | .bk δ=>∀ σ G H,SR K Γ G0 H0 G H σ δ→N.bk σ H
  | .ct δ=>∀ σ G H,SR K Γ G0 H0 G H σ δ→N.ct σ H
  | .rl ds=>∀ a vs G H,Step G0 H0 G H→H0 a = none→H a = some (.lst vs)→G a = none→aC K Γ G vs ds→N.rt (.ref a) H
  | .rll dss=>∀ a vs G H,Step G0 H0 G H→H0 a = none→H a = some (.lst vs)→G a = none→V.ref a ∉ vs→bK K Γ H0 G H vs dss→N.rt (.ref a) H
def tsD (g:DSt→Out Fl):TS:=fun N σ H=>∃ G0 H0 G δ,SR K Γ G0 H0 G H σ δ∧wpO (g δ) (FlOk K Γ G0 H0 N) (exD K Γ E G0 H0)
end
section
variable {K:PySem.W.Frag} {Γ:Nat→Option Addr} {E:XK} {G H G1 H1:Hp}
theorem okD.step {Q:VK} {d:D} (h:okD K Γ G H Q d) (s:Step G H G1 H1):okD K Γ G1 H1 Q d:=fun v G' H' s' r=>h v G' H' (s.trans s') r
theorem exD.step {x:D} (h:exD K Γ E G H x) (s:Step G H G1 H1):exD K Γ E G1 H1 x:=fun v G' H' s' r=>h v G' H' (s.trans s') r
end
abbrev DE (X:Cx) (Γ:Nat→Option Addr) (E:XK) (e:Expr) (f:DSt→Out D):Prop:=PE X e (teD X.K Γ E f)
abbrev DB (X:Cx) (Γ:Nat→Option Addr) (E:XK) (e:Expr) (f:DSt→Out D):Prop:=PE X e (tbD X.K Γ E f)
abbrev DT (X:Cx) (Γ:Nat→Option Addr) (E:XK) (e:Expr) (f:DSt→Out Bool):Prop:=PT X e (ttD X.K Γ E f)
abbrev DW (X:Cx) (Γ:Nat→Option Addr) (E:XK) (e:Expr) (f:DSt→Out Bool):Prop:=PW X e (ttD X.K Γ E f)
abbrev DA (X:Cx) (Γ:Nat→Option Addr) (E:XK) (es:List Expr) (f:DSt→Out (List D)):Prop:=PA X es (taD X.K Γ E f)
abbrev DS (X:Cx) (Γ:Nat→Option Addr) (E:XK) (st:Stmt) (g:DSt→Out Fl):Prop:=PS X st (tsD X.K Γ E g)
abbrev DSs (X:Cx) (Γ:Nat→Option Addr) (E:XK) (st:List Stmt) (g:DSt→Out Fl):Prop:=PSs X st (tsD X.K Γ E g)
section
variable {X:Cx}
theorem PE.imp {e:Expr} {t t':TE} (h:PE X e t) (k:∀ σ H Q,t' σ H Q→t σ H Q):PE X e t':=fun pins s σ H Q I q=>h pins s σ H Q I (k _ _ _ q)
theorem PT.imp {e:Expr} {t t':TT} (h:PT X e t) (k:∀ σ H Q,t' σ H Q→t σ H Q):PT X e t':=fun pins s σ H Q I q=>h pins s σ H Q I (k _ _ _ q)
theorem PW.imp {e:Expr} {t t':TT} (h:PW X e t) (k:∀ σ H Q,t' σ H Q→t σ H Q):PW X e t':=fun wh pins s σ H Q I q=>h wh pins s σ H Q I (k _ _ _ q)
theorem PA.imp {e:List Expr} {t t':TA} (h:PA X e t) (k:∀ σ H Q,t' σ H Q→t σ H Q):PA X e t':=fun p pins s σ H Q I q=>h p pins s σ H Q I (k _ _ _ q)
theorem PS.imp {e:Stmt} {t t':TS} (h:PS X e t) (k:∀ D σ H,t' D σ H→t D σ H):PS X e t':=fun pins s σ H Q I q=>h pins s σ H Q I (k _ _ _ q)
theorem PSs.imp {e:List Stmt} {t t':TS} (h:PSs X e t) (k:∀ D σ H,t' D σ H→t D σ H):PSs X e t':=fun pins s σ H Q I q=>h pins s σ H Q I (k _ _ _ q)
end
end DL
namespace DL
open PySem PySem.Spec PyProof.Rows MX L2
def gv (i:Nat):DSt→Out D:=fun δ=>match δ[i]? with
  | some (some (.sh d))=>.ok d
  | _=>.stuck
def slD:Sl→D
  | .sh d=>d
  | .ol ds=>.lst ds
  | .oll dss=>.lst (dss.map .lst)
  | .od kvs=>.dK kvs
  | .odT kvs=>.dT kvs
  | .omx es=>.lst (es.map Mx.d)
def gb (i:Nat):DSt→Out D:=fun δ=>match δ[i]? with
  | some (some s)=>.ok (slD s)
  | _=>.stuck
section
variable {X:Cx} {Γ:Nat→Option Addr} {E:XK} {e a b c:Expr} {pos:Pos}
theorem aj (i:Nat) {x:Str} (h:PE X (.Name x pos) (vq i)):DE X Γ E (.Name x pos) (gv i):=PE.imp h fun σ H Q ⟨G0,H0,G,δ,S,w⟩=>by
  unfold gv at w
  split at w
  · rename_i d e
    obtain ⟨O,q⟩:=S.sl
    obtain ⟨v,h1,h2⟩:=q i _ e
    exact ⟨v,h1,w v G H (.refl S.st.gh) h2⟩
  · exact False.elim w
theorem Inner.rep {K:PySem.W.Frag} {H0 G H:Hp} {O:Addr→Option Nat} (s:bx G H) {i:Nat}:∀ {vs:List V} {dss:List (List D)},Inner K Γ H0 G H O i vs dss→aC K Γ H vs (dss.map .lst)
  | _,_,.nil=>.nil
  | _,_,.cons h g h0 o r n t=>.cons (.lst h (r.mono s)) (t.rep s)
theorem b7.rep {K:PySem.W.Frag} {H0 G H:Hp} {O:Addr→Option Nat} (s:bx G H) {i:Nat}:∀ {vs:List V} {es:List Mx} {bs:List Addr},b7 K Γ H0 G H O i vs es bs→aC K Γ H vs (es.map Mx.d)
  | _,_,_,.nil=>.nil
  | _,_,_,.own h g h0 o r n t=>.cons (.lst h (r.mono s)) (t.rep s)
  | _,_,_,.fix r t=>.cons (r.mono s) (t.rep s)
theorem dg.rep {K:PySem.W.Frag} {H0 G H:Hp} {O:Addr→Option Nat} (s:bx G H) {i:Nat} {v:V} {x:Sl} (h:dg K Γ H0 G H O i v x):Rep K Γ H v (slD x):=by
  cases x with
  | sh d=>exact Rep.mono s h
  | ol ds=>obtain ⟨a,vs,e,h1,h2,h3,h4,h5⟩:=h; subst e; exact .lst h1 (h5.mono s)
  | oll ds=>obtain ⟨a,vs,e,h1,h2,h3,h4,h5,h6⟩:=h; subst e; exact .lst h1 (h6.rep s)
  | od ds=>obtain ⟨a,vs,e,h1,h2,h3,h4,h5⟩:=h; subst e; exact .dK h1 (h5.mono s)
  | odT ds=>obtain ⟨a,vs,e,h1,h2,h3,h4,h5⟩:=h; subst e; exact .dT h1 (h5.mono s)
  | omx ds=>obtain ⟨a,vs,bs,e,h1,h2,h3,h4,h5,h6⟩:=h; subst e; exact .lst h1 (h6.rep s)
theorem aK (i:Nat) {x:Str} (h:PE X (.Name x pos) (vq i)):DB X Γ E (.Name x pos) (gb i):=PE.imp h fun σ H Q ⟨G0,H0,G,δ,S,w⟩=>by
  unfold gb at w
  split at w
  · rename_i d e
    obtain ⟨O,q⟩:=S.sl
    obtain ⟨v,h1,h2⟩:=q i _ e
    exact ⟨v,h1,w v G H (.refl S.st.gh) (h2.rep S.st.gh)⟩
  · exact False.elim w
theorem aD {f:DSt→Out D} (h:DE X Γ E e f):DB X Γ E e f:=PE.imp h fun σ H Q ⟨G0,H0,G,δ,S,w⟩ =>
  ⟨G0,H0,G,δ,S,w.mono (fun d k v G' H' s r=>k v G' H' s (r.mono s.gh)) fun _ k=>k⟩
theorem de_c {v:V} {d:D} (h:PE X e (tC v)) (r:∀ G,Rep X.K Γ G v d):DE X Γ E e (fun _=>.ok d):=PE.imp h fun σ H Q ⟨G0,H0,G,δ,S,w⟩=>w v G H (.refl S.st.gh) (r G)
theorem az {i j}:DE X Γ E (.Constant (.int i) j pos) (fun _=>.ok (.int i)):=de_c pe_int fun _=>.int i
theorem iz {i j}:DE X Γ E (.Constant (.bool i) j pos) (fun _=>.ok (.bl i)):=de_c pe_bl fun _=>.bl i
theorem zy {j}:DE X Γ E (.Constant .none j pos) (fun _=>.ok .non):=de_c abw fun _=>.non
theorem cL {x j}:DE X Γ E (.Constant (.str x) j pos) (fun _=>.ok (.str x)):=de_c pe_str fun _=>.str x
def o2 (g:D→D→Option D) (fa fb:DSt→Out D):DSt→Out D:=fun δ=>(fa δ).bind fun x=>(fb δ).bind fun y=>.opt (g x y)
def DR2 (K:PySem.W.Frag) (Γ:Nat→Option Addr) (r:R2) (g:D→D→Option D):Prop :=
  ∀ G H x y dx dy d Q,bx G H→Rep K Γ G x dx→Rep K Γ G y dy→g dx dy = some d→okD K Γ G H Q d→r x y H Q
theorem d2 {r:R2} {g:D→D→Option D} {fa fb:DSt→Out D} (hr:DR2 X.K Γ r g) (h:PE X e (tOp r (teD X.K Γ E fa) (teD X.K Γ E fb))):DE X Γ E e (o2 g fa fb):=PE.imp h fun σ H Q ⟨G0,H0,G,δ,S,w⟩=>by
  refine ⟨G0,H0,G,δ,S,(au w).mono (fun x w v G1 H1 s1 r1=>?_) fun _ k=>k⟩
  refine ⟨G0,H0,G1,δ,S.step s1,(au w).mono (fun y w u G2 H2 s2 r2=>?_) fun _ k=>k.step s1⟩
  obtain ⟨d,e,k⟩:=bJ w
  exact hr G2 H2 v u x y d Q s2.gh (r1.mono s2.gg) r2 e (k.step (s1.trans s2))
def o2b (g:D→D→Option Bool) (fa fb:DSt→Out D):DSt→Out Bool:=fun δ=>(fa δ).bind fun x=>(fb δ).bind fun y=>.opt (g x y)
def bV (f:DSt→Out Bool):DSt→Out D:=fun δ=>(f δ).bind fun b=>.ok (.bl b)
def DRB (K:PySem.W.Frag) (Γ:Nat→Option Addr) (r:R2) (g:D→D→Option Bool):Prop :=
  ∀ H x y dx dy b Q,Rep K Γ H x dx→Rep K Γ H y dy→g dx dy = some b→Q (.bl b) H→r x y H Q
theorem d2b {r:R2} {g:D→D→Option Bool} {fa fb:DSt→Out D} (hr:DRB X.K Γ r g) (h:PE X e (tOp r (tbD X.K Γ E fa) (tbD X.K Γ E fb))):DE X Γ E e (bV (o2b g fa fb)):=PE.imp h fun σ H Q ⟨G0,H0,G,δ,S,w⟩=>by
  refine ⟨G0,H0,G,δ,S,(au (au w)).mono (fun x w v G1 H1 s1 r1=>?_) fun _ k=>k⟩
  refine ⟨G0,H0,G1,δ,S.step s1,(au w).mono (fun y w u G2 H2 s2 r2=>?_) fun _ k=>k.step s1⟩
  obtain ⟨d,e,k⟩:=bJ w
  exact hr H2 v u x y d Q (r1.mono s2.hh) r2 e (k _ G2 H2 (s1.trans s2) (.bl d))
theorem d2t {r:R2} {g:D→D→Option Bool} {fa fb:DSt→Out D} (hr:DRB X.K Γ r g) (h:PT X e (tTest (tOp r (tbD X.K Γ E fa) (tbD X.K Γ E fb)))):DT X Γ E e (o2b g fa fb):=PT.imp h fun σ H Q ⟨G0,H0,G,δ,S,w⟩=>by
  refine ⟨G0,H0,G,δ,S,(au w).mono (fun x w v G1 H1 s1 r1=>?_) fun _ k=>k⟩
  refine ⟨G0,H0,G1,δ,S.step s1,(au w).mono (fun y w u G2 H2 s2 r2=>?_) fun _ k=>k.step s1⟩
  obtain ⟨d,e,k⟩:=bJ w
  exact hr H2 v u x y d _ (r1.mono s2.hh) r2 e ⟨d,rfl,k G2 H2 (s1.trans s2)⟩
def cP:D→D→Option D
  | .int i,.int j=>some (.int (i + j))
  | .str i,.str j=>if i.length + j.length ≤ sizeLine then some (.str (i ++ j)) else none
  | .lst i,.lst j=>if i.length + j.length ≤ sizeLine then some (.lst (i ++ j)) else none
  | _,_=>none
def Dp:D→D→Option D
  | .int i,.int j=>some (.int (i - j))
  | _,_=>none
instance (i j:Int):Decidable (vm i j):=by unfold vm; infer_instance
instance (i j:Int):Decidable (CDiv i j):=by unfold CDiv; infer_instance
def vp:D→D→Option D
  | .int i,.int j=>if vm i j then some (.int (i * j)) else none
  | .str i,.int j=>if i.length ≤ 1000∧0 ≤ j∧j ≤ 1000 then some (.str (Txt.mul i j)) else none
  | .lst i,.int j=>if -(2 ^ 63) ≤ j∧j < 2 ^ 63∧i.length * j.toNat ≤ sizeLine then some (.lst (List.replicate j.toNat i).flatten) else none
  | _,_=>none
def dq:D→D→Option D
  | .int i,.int j=>if CDiv i j then some (.int (i / j)) else none
  | _,_=>none
def c7:D→D→Option D
  | .int i,.int j=>if 0 < j then some (.int (i % j)) else none
  | _,_=>none
theorem dr_add {K:PySem.W.Frag}:DR2 K Γ (fun x y H Q=>(rI0 fun i j=>.int (i + j)) x y H Q ∨ (∃ i j,x = .str i∧y = .str j∧i.length + j.length ≤ sizeLine∧Q (.str (i ++ j)) H) ∨ rCat x y H Q) cP:=by
  intro G H x y dx dy d Q s rx ry e k
  unfold cP at e
  split at e
  · cases e; cases rx; cases ry; exact .inl ⟨_,_,rfl,rfl,k _ G H (.refl s) (.int _)⟩
  · split at e
    · cases e; cases rx; cases ry; rename_i h; exact .inr (.inl ⟨_,_,rfl,rfl,h,k _ G H (.refl s) (.str _)⟩)
    · cases e
  · split at e
    · cases e
      rename_i h
      cases rx with
      | lst h1 r1 =>
        cases ry with
        | lst h2 r2 =>
          refine .inr (.inr ⟨_,_,_,_,rfl,rfl,s _ _ h1,s _ _ h2,by rw [r1.length,r2.length]; exact h,fun p hp=>k _ _ _ (.new s hp) (.lst aW ?_)⟩)
          exact (r1.append r2).mono (bx.up (aQ s hp))
    · cases e
  · cases e
theorem bG {fa fb:DSt→Out D} (ha:DE X Γ E a fa) (hb:DE X Γ E b fb):DE X Γ E (.BinOp a .Add b pos) (o2 cP fa fb):=d2 dr_add (Kw (op_add.or (abv.or op_cat)) ha hb)
theorem Ti {fa fb:DSt→Out D} (ha:DE X Γ E a fa) (hb:DE X Γ E b fb):DE X Γ E (.BinOp a .Sub b pos) (o2 Dp fa fb):=d2 (fun G H x y dx dy d Q s rx ry e k=>by
  unfold Dp at e
  split at e
  · cases e; cases rx; cases ry; exact ⟨_,_,rfl,rfl,k _ G H (.refl s) (.int _)⟩
  · cases e) (Kw op_sub ha hb)
theorem dr_mul {K:PySem.W.Frag}:DR2 K Γ (fun x y H Q=>(rI vm fun i j=>.int (i * j)) x y H Q ∨ (∃ i n,x = .str i∧y = .int n∧i.length ≤ 1000∧0 ≤ n∧n ≤ 1000∧Q (.str (Txt.mul i n)) H) ∨ rRep x y H Q) vp:=by
  intro G H x y dx dy d Q s rx ry e k
  unfold vp at e
  split at e
  · split at e
    · rename_i h; cases e; cases rx; cases ry; exact .inl ⟨_,_,rfl,rfl,h,k _ G H (.refl s) (.int _)⟩
    · cases e
  · split at e
    · rename_i h; cases e; cases rx; cases ry; exact .inr (.inl ⟨_,_,rfl,rfl,h.1,h.2.1,h.2.2,k _ G H (.refl s) (.str _)⟩)
    · cases e
  · split at e
    · rename_i h
      cases e
      cases ry
      cases rx with
      | lst h1 r1 =>
        refine .inr (.inr ⟨_,_,_,rfl,rfl,s _ _ h1,h.1,h.2.1,by rw [r1.length]; exact h.2.2,fun p hp=>k _ _ _ (.new s hp) (.lst aW ?_)⟩)
        exact (r1.rep _).mono (bx.up (aQ s hp))
    · cases e
  · cases e
theorem mL {fa fb:DSt→Out D} (ha:DE X Γ E a fa) (hb:DE X Γ E b fb):DE X Γ E (.BinOp a .Mult b pos) (o2 vp fa fb):=d2 dr_mul (Kw (op_mul.or (op_mulS.or op_rep)) ha hb)
theorem iU {fa fb:DSt→Out D} (ha:DE X Γ E a fa) (hb:DE X Γ E b fb):DE X Γ E (.BinOp a .FloorDiv b pos) (o2 dq fa fb):=d2 (fun G H x y dx dy d Q s rx ry e k=>by
  unfold dq at e
  split at e
  · split at e
    · rename_i h; cases e; cases rx; cases ry; exact ⟨_,_,rfl,rfl,h,k _ G H (.refl s) (.int _)⟩
    · cases e
  · cases e) (Kw op_fdiv ha hb)
theorem b8 {fa fb:DSt→Out D} (ha:DE X Γ E a fa) (hb:DE X Γ E b fb):DE X Γ E (.BinOp a .Mod b pos) (o2 c7 fa fb):=d2 (fun G H x y dx dy d Q s rx ry e k=>by
  unfold c7 at e
  split at e
  · split at e
    · rename_i h; cases e; cases rx; cases ry; exact ⟨_,_,rfl,rfl,h,k _ G H (.refl s) (.int _)⟩
    · cases e
  · cases e) (Kw op_mod ha hb)
def o1 (g:D→Option D) (fa:DSt→Out D):DSt→Out D:=fun δ=>(fa δ).bind fun x=>.opt (g x)
def Gn:D→Option D
  | .int i=>some (.int (-i))
  | _=>none
theorem aaQ {fa:DSt→Out D} (ha:DE X Γ E a fa):DE X Γ E (.UnaryOp .USub a pos) (o1 Gn fa):=PE.imp (pe_un un_neg ha) fun σ H Q ⟨G0,H0,G,δ,S,w⟩=>by
  refine ⟨G0,H0,G,δ,S,(au w).mono (fun x w v G1 H1 s1 r1=>?_) fun _ k=>k⟩
  obtain ⟨d,e,k⟩:=bJ w
  unfold Gn at e
  split at e
  · cases e; cases r1; exact ⟨_,rfl,k _ G1 H1 s1 (.int _)⟩
  · cases e
def cmpI (p:Int→Int→Bool):D→D→Option Bool
  | .int i,.int j=>some (p i j)
  | _,_=>none
theorem jQ {K:PySem.W.Frag} {p:Int→Int→Bool}:DRB K Γ (rI0 fun i j=>.bl (p i j)) (cmpI p):=fun H x y dx dy b Q rx ry e k=>by
  unfold cmpI at e
  split at e
  · cases e; cases rx; cases ry; exact ⟨_,_,rfl,rfl,k⟩
  · cases e
abbrev ltD:D→D→Option Bool:=cmpI fun i j=>decide (i < j)
abbrev leD:D→D→Option Bool:=cmpI fun i j=>decide (i ≤ j)
abbrev gtD:D→D→Option Bool:=cmpI fun i j=>decide (j < i)
abbrev geD:D→D→Option Bool:=cmpI fun i j=>decide (j ≤ i)
mutual
def toPy:D→Option PyData
  | .non=>some .none
  | .bl b=>some (.bool b)
  | .int i=>some (.int i)
  | .str x=>some (.str x)
  | .lst xs=>(toPyL xs).map .list
  | .rol xs=>(toPyL xs).map .list
  | .tup xs=>(toPyL xs).map .tuple
  | .rot xs=>(toPyL xs).map .tuple
  | _=>none
def toPyL:List D→Option (List PyData)
  | []=>some []
  | d :: r=>match toPy d,toPyL r with
    | some p,some q=>some (p :: q)
    | _,_=>none
end
mutual
theorem Rep.deep {K:PySem.W.Frag} {H:Hp}:∀ {v:V} {d:D} {p:PyData},Rep K Γ H v d→toPy d = some p→Cr K H v p
  | _,_,_,.non,e=>by simp only [toPy] at e; cases e; exact .non
  | _,_,_,.bl b,e=>by simp only [toPy] at e; cases e; exact .bl b
  | _,_,_,.int b,e=>by simp only [toPy] at e; cases e; exact .int b
  | _,_,_,.str b,e=>by simp only [toPy] at e; cases e; exact .str b
  | _,_,_,.lst h r,e=>by
    simp only [toPy] at e
    obtain ⟨q,e1,rfl⟩:=Option.map_eq_some_iff.mp e
    exact .lst (SqL.of h) (aC.deep r e1)
  | _,_,_,.rol h r,e=>by
    simp only [toPy] at e
    obtain ⟨q,e1,rfl⟩:=Option.map_eq_some_iff.mp e
    exact .lst h (aC.deep r e1)
  | _,_,_,.tup h r,e=>by
    simp only [toPy] at e
    obtain ⟨q,e1,rfl⟩:=Option.map_eq_some_iff.mp e
    exact .tup (SqT.of h) (aC.deep r e1)
  | _,_,_,.rot h r,e=>by
    simp only [toPy] at e
    obtain ⟨q,e1,rfl⟩:=Option.map_eq_some_iff.mp e
    exact .tup h (aC.deep r e1)
  | _,_,_,.ty n,e=>by simp only [toPy] at e; cases e
  | _,_,_,.cls h,e=>by simp only [toPy] at e; cases e
  | _,_,_,.dK h r,e=>by simp only [toPy] at e; cases e
  | _,_,_,.dT h r,e=>by simp only [toPy] at e; cases e
  | _,_,_,.obj h g r,e=>by simp only [toPy] at e; cases e
  | _,_,_,.e0 h g,e=>by simp only [toPy] at e; cases e
  | _,_,_,.e1 h h' g r,e=>by simp only [toPy] at e; cases e
theorem aC.deep {K:PySem.W.Frag} {H:Hp}:∀ {v:List V} {d:List D} {p:List PyData},aC K Γ H v d→toPyL d = some p→jJ K H v p
  | _,_,_,.nil,e=>by simp only [toPyL] at e; cases e; exact .nil
  | _,_,_,.cons (d:=d) (ds:=ds) h r,e=>by
    simp only [toPyL] at e
    cases h1:toPy d with
    | none=>rw [h1] at e; cases e
    | some p =>
      cases h2:toPyL ds with
      | none=>rw [h1,h2] at e; cases e
      | some q =>
        rw [h1,h2] at e
        cases e
        exact .cons (Rep.deep h h1) (aC.deep r h2)
end
def layP (p:PyData):Bool:=p.canLay0 && decide (p.depth ≤ 50)
def eqD (x y:D):Option Bool:=match toPy x,toPy y with
  | some p,some q=>if layP p && layP q then some (PyData.eqv p q) else none
  | _,_=>none
def neD (x y:D):Option Bool:=(eqD x y).map (! ·)
theorem Y4 {x y:D} {b:Bool} (h:eqD x y = some b):∃ p q,toPy x = some p∧toPy y = some q∧p.canLay0 = true∧q.canLay0 = true∧p.depth ≤ 50∧PyData.eqv p q = b:=by
  unfold eqD at h
  split at h
  · rename_i p q h1 h2
    split at h
    · rename_i z
      unfold layP at z
      simp only [Bool.and_eq_true,decide_eq_true_eq] at z
      exact ⟨p,q,h1,h2,z.1.1,z.2.1,z.1.2,Option.some.inj h⟩
    · cases h
  · cases h
theorem drb_eq {K:PySem.W.Frag}:DRB K Γ (rEqD K false) eqD:=fun H x y dx dy b Q rx ry e k=>by
  obtain ⟨p,q,h1,h2,c1,c2,c3,e⟩:=Y4 e
  exact ⟨p,q,rx.deep h1,ry.deep h2,c1,c2,c3,by rw [e]; simpa using k⟩
theorem drb_ne {K:PySem.W.Frag}:DRB K Γ (rEqD K true) neD:=fun H x y dx dy b Q rx ry e k=>by
  obtain ⟨b',e',rfl⟩:=Option.map_eq_some_iff.mp e
  obtain ⟨p,q,h1,h2,c1,c2,c3,e⟩:=Y4 e'
  exact ⟨p,q,rx.deep h1,ry.deep h2,c1,c2,c3,by rw [e]; simpa using k⟩
def wU:D→Bool
  | .non=>true
  | _=>false
def isND (x y:D):Option Bool:=match y with
  | .non=>some (wU x)
  | _=>none
def xM (x y:D):Option Bool:=match y with
  | .non=>some (!wU x)
  | _=>none
theorem Rep.isNon {K:PySem.W.Frag} {H:Hp} {v:V} {d:D} (r:Rep K Γ H v d):decide (v = .non) = wU d:=by
  cases r <;> first | rfl | exact decide_eq_false (fun q=>nomatch q)
theorem drb_is {K:PySem.W.Frag}:DRB K Γ (fun x y H Q=>y = .non∧Q (.bl (decide (x = .non))) H) isND:=fun H x y dx dy b Q rx ry e k=>by
  unfold isND at e
  split at e
  · cases e; cases ry; exact ⟨rfl,by rw [rx.isNon]; exact k⟩
  · cases e
theorem Qy {K:PySem.W.Frag}:DRB K Γ (fun x y H Q=>y = .non∧Q (.bl (!decide (x = .non))) H) xM:=fun H x y dx dy b Q rx ry e k=>by
  unfold xM at e
  split at e
  · cases e; cases ry; exact ⟨rfl,by rw [rx.isNon]; exact k⟩
  · cases e
def QD:D→Option V
  | .non=>some .non
  | .bl b=>some (.bl b)
  | .int i=>some (.int i)
  | .str x=>some (.str x)
  | _=>none
def JD:List D→Option (List V)
  | []=>some []
  | d :: r=>match QD d,JD r with
    | some v,some vs=>some (v :: vs)
    | _,_=>none
theorem Rep.flat {K:PySem.W.Frag} {H:Hp} {v u:V} {d:D} (r:Rep K Γ H v d) (e:QD d = some u):v = u∧u9 v = true:=by
  cases r <;> simp only [QD] at e <;> cases e <;> exact ⟨rfl,rfl⟩
theorem aC.flat {K:PySem.W.Frag} {H:Hp}:∀ {vs us:List V} {ds:List D},aC K Γ H vs ds→JD ds = some us→vs = us∧vs.all u9 = true
  | _,_,_,.nil,e=>by simp only [JD] at e; cases e; exact ⟨rfl,rfl⟩
  | _,_,_,.cons (d:=d) (ds:=ds) h r,e=>by
    simp only [JD] at e
    cases h1:QD d with
    | none=>rw [h1] at e; cases e
    | some p =>
      cases h2:JD ds with
      | none=>rw [h1,h2] at e; cases e
      | some q =>
        rw [h1,h2] at e
        cases e
        obtain ⟨e1,f1⟩:=h.flat h1
        obtain ⟨e2,f2⟩:=r.flat h2
        exact ⟨by rw [e1,e2],by rw [List.all_cons,f1,f2]; rfl⟩
def Ac:D→Option (List D)
  | .lst xs=>some xs
  | .rol xs=>some xs
  | .tup xs=>some xs
  | .rot xs=>some xs
  | _=>none
theorem Rep.seq {K:PySem.W.Frag} {H:Hp} {v:V} {d:D} {ds:List D} (r:Rep K Γ H v d) (e:Ac d = some ds):∃ a vs,v = .ref a∧(SqL K H a vs ∨ SqT K H a vs)∧aC K Γ H vs ds:=by
  cases r <;> simp only [Ac] at e <;> cases e
  · exact ⟨_,_,rfl,.inl (SqL.of ‹_›),‹_›⟩
  · exact ⟨_,_,rfl,.inr (SqT.of ‹_›),‹_›⟩
  · exact ⟨_,_,rfl,.inl ‹_›,‹_›⟩
  · exact ⟨_,_,rfl,.inr ‹_›,‹_›⟩
def inD (x y:D):Option Bool:=match x,y with
  | .str i,.str j=>some (!(Builtin.Str.occurrences j i 0 j.length 1).isEmpty)
  | x,y=>match QD x,(Ac y).bind JD with
    | some v,some vs=>some (inV v vs)
    | _,_=>none
theorem inD_some {K:PySem.W.Frag} {H:Hp} {x y:V} {dx dy:D} {b:Bool} (rx:Rep K Γ H x dx) (ry:Rep K Γ H y dy) (h:inD dx dy = some b) :
    (∃ i j,x = .str i∧y = .str j∧b = !(Builtin.Str.occurrences j i 0 j.length 1).isEmpty) ∨ ∃ p xs,y = .ref p∧(SqL K H p xs ∨ SqT K H p xs)∧u9 x = true∧xs.all u9 = true∧b = inV x xs:=by
  unfold inD at h
  split at h
  · cases h; cases rx; cases ry; exact .inl ⟨_,_,rfl,rfl,rfl⟩
  · cases h1:QD dx with
    | none=>rw [h1] at h; cases h
    | some v =>
      cases h2:Ac dy with
      | none=>rw [h1,h2] at h; cases h
      | some ds =>
        rw [h1,h2] at h
        dsimp only [Option.bind_some] at h
        cases h3:JD ds with
        | none=>rw [h3] at h; cases h
        | some vs =>
          rw [h3] at h
          cases h
          obtain ⟨e1,f1⟩:=rx.flat h1
          obtain ⟨a,ws,e2,sq,ra⟩:=ry.seq h2
          obtain ⟨e3,f3⟩:=ra.flat h3
          exact .inr ⟨a,ws,e2,sq,f1,f3,by rw [e1,e3]⟩
theorem drb_in {K:PySem.W.Frag}:DRB K Γ (fun x y H Q=>(∃ i j,x = .str i∧y = .str j∧Q (.bl (!(Builtin.Str.occurrences j i 0 j.length 1).isEmpty)) H) ∨ rIn K false x y H Q) inD:=fun H x y dx dy b Q rx ry e k=>by
  rcases inD_some rx ry e with ⟨i,j,e1,e2,rfl⟩ | ⟨p,xs,e1,sq,f1,f2,rfl⟩
  · exact .inl ⟨i,j,e1,e2,k⟩
  · exact .inr ⟨p,xs,e1,sq,f1,f2,k⟩
section
variable {fa fb:DSt→Out D} (hu:X.A.units + 64 < cLine) (ha:DB X Γ E a fa) (hb:DB X Γ E b fb)
theorem de_lt (ha:DB X Γ E a fa) (hb:DB X Γ E b fb):DE X Γ E (.Compare a [.Lt] [b] pos) (bV (o2b ltD fa fb)):=d2b jQ (yg op_lt ha hb (mQ _))
theorem de_gt (ha:DB X Γ E a fa) (hb:DB X Γ E b fb):DE X Γ E (.Compare a [.Gt] [b] pos) (bV (o2b gtD fa fb)):=d2b jQ (yg op_gt ha hb (mQ _))
theorem Js (hu:X.A.units + 64 < cLine) (ha:DB X Γ E a fa) (hb:DB X Γ E b fb):DE X Γ E (.Compare a [.Eq] [b] pos) (bV (o2b eqD fa fb)):=d2b drb_eq (yg (op_eqD hu) ha hb (mQ _))
theorem de_is (ha:DB X Γ E a fa) (hb:DB X Γ E b fb):DE X Γ E (.Compare a [.Is] [b] pos) (bV (o2b isND fa fb)):=d2b drb_is (yg op_isN ha hb (mQ _))
theorem de_isnot (ha:DB X Γ E a fa) (hb:DB X Γ E b fb):DE X Γ E (.Compare a [.IsNot] [b] pos) (bV (o2b xM fa fb)):=d2b Qy (yg aci ha hb (mQ _))
theorem de_in (ha:DB X Γ E a fa) (hb:DB X Γ E b fb) (hm:behindInMarks .In b = false:=by rfl):DE X Γ E (.Compare a [.In] [b] pos) (bV (o2b inD fa fb)):=d2b drb_in (yg (acX.or acW) ha hb hm)
theorem Bh (ha:DB X Γ E a fa) (hb:DB X Γ E b fb):DT X Γ E (.Compare a [.Lt] [b] pos) (o2b ltD fa fb):=d2t jQ (uU op_lt ha hb (mQ _))
theorem dt_gt (ha:DB X Γ E a fa) (hb:DB X Γ E b fb):DT X Γ E (.Compare a [.Gt] [b] pos) (o2b gtD fa fb):=d2t jQ (uU op_gt ha hb (mQ _))
theorem dt_ge (ha:DB X Γ E a fa) (hb:DB X Γ E b fb):DT X Γ E (.Compare a [.GtE] [b] pos) (o2b geD fa fb):=d2t jQ (uU op_ge ha hb (mQ _))
theorem iJ (hu:X.A.units + 64 < cLine) (ha:DB X Γ E a fa) (hb:DB X Γ E b fb):DT X Γ E (.Compare a [.Eq] [b] pos) (o2b eqD fa fb):=d2t drb_eq (uU (op_eqD hu) ha hb (mQ _))
theorem dt_ne (hu:X.A.units + 64 < cLine) (ha:DB X Γ E a fa) (hb:DB X Γ E b fb):DT X Γ E (.Compare a [.NotEq] [b] pos) (o2b neD fa fb):=d2t drb_ne (uU (op_neD hu) ha hb (mQ _))
theorem dt_isnot (ha:DB X Γ E a fa) (hb:DB X Γ E b fb):DT X Γ E (.Compare a [.IsNot] [b] pos) (o2b xM fa fb):=d2t Qy (uU aci ha hb (mQ _))
end
def o3 (g g':D→D→Option Bool) (fa fb fc:DSt→Out D):DSt→Out Bool:=fun δ=>(fa δ).bind fun x=>(fb δ).bind fun y=>(Out.opt (g x y)).bind fun k=>if k = true then (fc δ).bind fun z=>.opt (g' y z) else .ok false
theorem d3_aux {r r':R2} {g g':D→D→Option Bool} {fa fb fc:DSt→Out D} (hr:DRB X.K Γ r g) (hr':DRB X.K Γ r' g') {P:Bool→Hp→Prop} {σ:L2.St} {H:Hp}
    (w:ttD X.K Γ E (o3 g g' fa fb fc) σ H P):Lj r r' (tbD X.K Γ E fa) (tbD X.K Γ E fb) (tbD X.K Γ E fc) σ H fun v H'=>∃ k,v = .bl k∧P k H':=by
  obtain ⟨G0,H0,G,δ,S,w⟩:=w
  refine ⟨G0,H0,G,δ,S,(au w).mono (fun x w v G1 H1 s1 r1=>?_) fun _ k=>k⟩
  refine ⟨G0,H0,G1,δ,S.step s1,(au w).mono (fun y w u G2 H2 s2 r2=>?_) fun _ k=>k.step s1⟩
  obtain ⟨k,e,w⟩:=bJ (au w)
  refine hr H2 v u x y k _ (r1.mono s2.hh) r2 e ⟨k,rfl,?_⟩
  cases k with
  | false =>
    rw [if_neg Bool.false_ne_true] at w ⊢
    exact ⟨false,rfl,w G2 H2 (s1.trans s2)⟩
  | true =>
    rw [if_pos rfl] at w ⊢
    refine ⟨G0,H0,G2,δ,(S.step s1).step s2,(au w).mono (fun z w t G3 H3 s3 r3=>?_) fun _ k=>k.step (s1.trans s2)⟩
    obtain ⟨k,e,w⟩:=bJ w
    exact hr' H3 u t y z k _ (r2.mono s3.hh) r3 e ⟨k,rfl,w G3 H3 ((s1.trans s2).trans s3)⟩
theorem d3t {r r':R2} {g g':D→D→Option Bool} {fa fb fc:DSt→Out D} (hr:DRB X.K Γ r g) (hr':DRB X.K Γ r' g') (h:PT X e (tTest (Lj r r' (tbD X.K Γ E fa) (tbD X.K Γ E fb) (tbD X.K Γ E fc)))):DT X Γ E e (o3 g g' fa fb fc):=PT.imp h fun σ H Q w=>d3_aux hr hr' w
theorem d3v {r r':R2} {g g':D→D→Option Bool} {fa fb fc:DSt→Out D} (hr:DRB X.K Γ r g) (hr':DRB X.K Γ r' g') (h:PE X e (Lj r r' (tbD X.K Γ E fa) (tbD X.K Γ E fb) (tbD X.K Γ E fc))):DE X Γ E e (bV (o3 g g' fa fb fc)):=PE.imp h fun σ H Q ⟨G0,H0,G,δ,S,w⟩=>by
  have w:=au w
  refine ⟨G0,H0,G,δ,S,(au w).mono (fun x w v G1 H1 s1 r1=>?_) fun _ k=>k⟩
  refine ⟨G0,H0,G1,δ,S.step s1,(au w).mono (fun y w u G2 H2 s2 r2=>?_) fun _ k=>k.step s1⟩
  obtain ⟨k,e,w⟩:=bJ (au w)
  refine hr H2 v u x y k _ (r1.mono s2.hh) r2 e ⟨k,rfl,?_⟩
  cases k with
  | false =>
    rw [if_neg Bool.false_ne_true] at w ⊢
    exact w _ G2 H2 (s1.trans s2) (.bl _)
  | true =>
    rw [if_pos rfl] at w ⊢
    refine ⟨G0,H0,G2,δ,(S.step s1).step s2,(au w).mono (fun z w t G3 H3 s3 r3=>?_) fun _ k=>k.step (s1.trans s2)⟩
    obtain ⟨k,e,w⟩:=bJ w
    exact hr' H3 u t y z k _ (r2.mono s3.hh) r3 e (w _ G3 H3 ((s1.trans s2).trans s3) (.bl _))
theorem T7 {fa fb fc:DSt→Out D} (ha:DB X Γ E a fa) (hb:DB X Γ E b fb) (hc:DB X Γ E c fc) (hm:lastMarks [.LtE,.LtE] [b,c] = false:=by with_unfolding_all rfl):DT X Γ E (.Compare a [.LtE,.LtE] [b,c] pos) (o3 leD leD fa fb fc):=d3t jQ jQ (ZM op_le op_le ha hb hc hm)
theorem dt_lelt {fa fb fc:DSt→Out D} (ha:DB X Γ E a fa) (hb:DB X Γ E b fb) (hc:DB X Γ E c fc) (hm:lastMarks [.LtE,.Lt] [b,c] = false:=by with_unfolding_all rfl):DT X Γ E (.Compare a [.LtE,.Lt] [b,c] pos) (o3 leD ltD fa fb fc):=d3t jQ jQ (ZM op_le op_lt ha hb hc hm)
theorem de_lelt {fa fb fc:DSt→Out D} (ha:DB X Γ E a fa) (hb:DB X Γ E b fb) (hc:DB X Γ E c fc) (hm:lastMarks [.LtE,.Lt] [b,c] = false:=by with_unfolding_all rfl):DE X Γ E (.Compare a [.LtE,.Lt] [b,c] pos) (bV (o3 leD ltD fa fb fc)):=d3v jQ jQ (pe_chain op_le op_lt ha hb hc hm)
def truD:D→Option Bool
  | .non=>some false
  | .bl b=>some b
  | .int i=>some (i != 0)
  | .str y=>if y.length ≤ sizeLine then some ((y.length:Int) != 0) else none
  | .lst xs=>some (!xs.isEmpty)
  | .rol xs=>some (!xs.isEmpty)
  | .tup xs=>some (!xs.isEmpty)
  | .rot xs=>some (!xs.isEmpty)
  | .dK xs=>some (!xs.isEmpty)
  | _=>none
def tst (f:DSt→Out D):DSt→Out Bool:=fun δ=>(f δ).bind fun d=>.opt (truD d)
theorem yc {K:PySem.W.Frag} {H:Hp} {vs:List V} {ds:List D} (r:aC K Γ H vs ds):(!ds.isEmpty) = !vs.isEmpty:=by cases r <;> rfl
theorem acM {K:PySem.W.Frag} {H:Hp} {vs:List (Key × V)} {ds:List (Key × D)} (r:iY K Γ H vs ds):(!ds.isEmpty) = !vs.isEmpty:=by cases r <;> rfl
theorem Rep.tru {K:PySem.W.Frag} {H:Hp} {v:V} {d:D} {k:Bool} (r:Rep K Γ H v d) (e:truD d = some k):TruV K v H k:=by
  cases r <;> simp only [truD] at e
  case non=>cases e; exact rfl
  case bl=>cases e; exact rfl
  case int=>cases e; exact rfl
  case str =>
    split at e
    · cases e; exact ⟨‹_›,rfl⟩
    · cases e
  case lst h r=>cases e; rw [yc r]; exact .inl ⟨_,SqL.of h,rfl⟩
  case rol h r=>cases e; rw [yc r]; exact .inl ⟨_,h,rfl⟩
  case tup h r=>cases e; rw [yc r]; exact .inr (.inl ⟨_,SqT.of h,rfl⟩)
  case rot h r=>cases e; rw [yc r]; exact .inr (.inl ⟨_,h,rfl⟩)
  case dK h r=>cases e; rw [acM r]; exact .inr (.inr ⟨_,h,rfl⟩)
  all_goals cases e
theorem gm {f:DSt→Out D} (h:DB X Γ E e f) (he:∀ whole,isTrue e X.env whole = (do let v ← whole; standAt e.pos; holding [v] (truthy v)):=by intro _; rfl):DT X Γ E e (tst f):=PT.imp (pt_truth h he) fun σ H Q ⟨G0,H0,G,δ,S,w⟩=>by
  refine ⟨G0,H0,G,δ,S,(au w).mono (fun x w v G1 H1 s1 r1=>?_) fun _ k=>k⟩
  obtain ⟨k,e,q⟩:=bJ w
  exact ⟨k,r1.tru e,q G1 H1 s1⟩
def pN (f g:DSt→Out Bool):DSt→Out Bool:=fun δ=>(f δ).bind fun k=>if k = true then g δ else .ok false
def orT (f g:DSt→Out Bool):DSt→Out Bool:=fun δ=>(f δ).bind fun k=>if k = true then .ok true else g δ
def j9 (f:DSt→Out Bool):DSt→Out Bool:=fun δ=>(f δ).bind fun k=>.ok (!k)
variable {rest:List Expr} {ft gt:DSt→Out Bool}
theorem ud (ha:DT X Γ E a ft):DW X Γ E (.BoolOp .And [a] pos) ft:=pw_and1 ha
theorem oY (ha:DT X Γ E a ft):DW X Γ E (.BoolOp .Or [a] pos) ft:=pw_or1 ha
theorem wF (ha:DT X Γ E a ft) (hb:DW X Γ E (.BoolOp .And (b :: rest) pos) gt):DW X Γ E (.BoolOp .And (a :: b :: rest) pos) (pN ft gt):=PW.imp (pw_and ha hb) fun σ H Q ⟨G0,H0,G,δ,S,w⟩=>by
  refine ⟨G0,H0,G,δ,S,(au w).mono (fun k w G1 H1 s1=>?_) fun _ k=>k⟩
  cases k with
  | false=>rw [if_neg Bool.false_ne_true] at w ⊢; exact w G1 H1 s1
  | true=>rw [if_pos rfl] at w ⊢; exact ⟨G0,H0,G1,δ,S.step s1,w.mono (fun b q G2 H2 s2=>q G2 H2 (s1.trans s2)) fun _ k=>k.step s1⟩
theorem mW (ha:DT X Γ E a ft) (hb:DW X Γ E (.BoolOp .Or (b :: rest) pos) gt):DW X Γ E (.BoolOp .Or (a :: b :: rest) pos) (orT ft gt):=PW.imp (pw_or ha hb) fun σ H Q ⟨G0,H0,G,δ,S,w⟩=>by
  refine ⟨G0,H0,G,δ,S,(au w).mono (fun k w G1 H1 s1=>?_) fun _ k=>k⟩
  cases k with
  | true=>rw [if_pos rfl] at w ⊢; exact w G1 H1 s1
  | false=>rw [if_neg Bool.false_ne_true] at w ⊢; exact ⟨G0,H0,G1,δ,S.step s1,w.mono (fun b q G2 H2 s2=>q G2 H2 (s1.trans s2)) fun _ k=>k.step s1⟩
theorem vo (h:DW X Γ E e ft):DT X Γ E e ft:=L2.PW.pt h
theorem jb (ha:DT X Γ E a ft):DT X Γ E (.UnaryOp .Not a pos) (j9 ft):=PT.imp (pt_not ha) fun σ H Q ⟨G0,H0,G,δ,S,w⟩ =>
  ⟨G0,H0,G,δ,S,(au w).mono (fun k w G1 H1 s1=>w G1 H1 s1) fun _ k=>k⟩
def asB:D→Option Bool
  | .bl b=>some b
  | _=>none
def Ab (f g:DSt→Out D):DSt→Out D:=fun δ=>(f δ).bind fun d=>(Out.opt (asB d)).bind fun k=>if k = true then g δ else .ok (.bl false)
def orV (f g:DSt→Out D):DSt→Out D:=fun δ=>(f δ).bind fun d=>(Out.opt (asB d)).bind fun k=>if k = true then .ok (.bl true) else g δ
def notV (f:DSt→Out D):DSt→Out D:=fun δ=>(f δ).bind fun d=>(Out.opt (asB d)).bind fun k=>.ok (.bl (!k))
theorem Rep.asB {K:PySem.W.Frag} {H:Hp} {v:V} {d:D} {k:Bool} (r:Rep K Γ H v d) (e:asB d = some k):v = .bl k:=by
  cases r <;> simp only [DL.asB] at e <;> cases e; rfl
variable {fa fb:DSt→Out D}
theorem zz {op} (ha:DE X Γ E a fa):DE X Γ E (.BoolOp op [a] pos) fa:=pe_one ha
theorem zx (ha:DE X Γ E a fa) (hb:DE X Γ E (.BoolOp .And (b :: rest) pos) fb):DE X Γ E (.BoolOp .And (a :: b :: rest) pos) (Ab fa fb):=PE.imp (pe_and ha hb) fun σ H Q ⟨G0,H0,G,δ,S,w⟩=>by
  refine ⟨G0,H0,G,δ,S,(au w).mono (fun x w v G1 H1 s1 r1=>?_) fun _ k=>k⟩
  obtain ⟨k,e,w⟩:=bJ (au w)
  refine ⟨k,r1.asB e,?_⟩
  cases k with
  | false=>rw [if_neg Bool.false_ne_true] at w ⊢; exact w _ G1 H1 s1 (.bl false)
  | true=>rw [if_pos rfl] at w ⊢; exact ⟨G0,H0,G1,δ,S.step s1,w.mono (fun b q=>q.step s1) fun _ k=>k.step s1⟩
theorem de_or (ha:DE X Γ E a fa) (hb:DE X Γ E (.BoolOp .Or (b :: rest) pos) fb):DE X Γ E (.BoolOp .Or (a :: b :: rest) pos) (orV fa fb):=PE.imp (pe_or ha hb) fun σ H Q ⟨G0,H0,G,δ,S,w⟩=>by
  refine ⟨G0,H0,G,δ,S,(au w).mono (fun x w v G1 H1 s1 r1=>?_) fun _ k=>k⟩
  obtain ⟨k,e,w⟩:=bJ (au w)
  refine ⟨k,r1.asB e,?_⟩
  cases k with
  | true=>rw [if_pos rfl] at w ⊢; exact w _ G1 H1 s1 (.bl true)
  | false=>rw [if_neg Bool.false_ne_true] at w ⊢; exact ⟨G0,H0,G1,δ,S.step s1,w.mono (fun b q=>q.step s1) fun _ k=>k.step s1⟩
theorem de_not (ha:DE X Γ E a fa):DE X Γ E (.UnaryOp .Not a pos) (notV fa):=PE.imp (pe_not ha) fun σ H Q ⟨G0,H0,G,δ,S,w⟩=>by
  refine ⟨G0,H0,G,δ,S,(au w).mono (fun x w v G1 H1 s1 r1=>?_) fun _ k=>k⟩
  obtain ⟨k,e,w⟩:=bJ (au w)
  exact ⟨k,r1.asB e,w _ G1 H1 s1 (.bl _)⟩
def ifV (t:DSt→Out Bool) (f g:DSt→Out D):DSt→Out D:=fun δ=>(t δ).bind fun k=>if k = true then f δ else g δ
def aN:DSt→Out (List D):=fun _=>.ok []
def aq (f:DSt→Out D) (r:DSt→Out (List D)):DSt→Out (List D):=fun δ=>(f δ).bind fun d=>(r δ).bind fun ds=>.ok (d :: ds)
variable {es:List Expr} {fr:DSt→Out (List D)}
theorem aJ:DA X Γ E [] aN:=PA.imp iG fun σ H Q ⟨G0,H0,G,δ,S,w⟩=>w _ G H (.refl S.st.gh) .nil
theorem ao (ha:DE X Γ E e fa) (hr:DA X Γ E es fr) (hs:starEach (e :: es) X.env = (false,eval e X.env) :: starEach es X.env:=by rfl):DA X Γ E (e :: es) (aq fa fr):=PA.imp (cB ha hr hs) fun σ H Q ⟨G0,H0,G,δ,S,w⟩=>by
  refine ⟨G0,H0,G,δ,S,(au w).mono (fun x w v G1 H1 s1 r1=>?_) fun _ k=>k⟩
  refine ⟨G0,H0,G1,δ,S.step s1,(au w).mono (fun ds w vs G2 H2 s2 r2=>?_) fun _ k=>k.step s1⟩
  exact w _ G2 H2 (s1.trans s2) (.cons (r1.mono s2.gg) r2)
def fj (f:DSt→Out (List D)):DSt→Out D:=fun δ=>(f δ).bind fun ds=>if ds.length ≤ sizeLine then .ok (.tup ds) else .stuck
def iB (f:DSt→Out (List D)):DSt→Out D:=fun δ=>(f δ).bind fun ds=>if ds.length ≤ sizeLine then .ok (.lst ds) else .stuck
theorem iZ {x1} (h:DA X Γ E es fr):DE X Γ E (.Tuple es x1 pos) (fj fr):=PE.imp (pe_tup h) fun σ H Q ⟨G0,H0,G,δ,S,w⟩=>by
  refine ⟨G0,H0,G,δ,S,(au w).mono (fun ds w vs G1 H1 s1 r1=>?_) fun _ k=>k⟩
  split at w
  · rename_i h
    exact ⟨by rw [r1.length]; exact h,fun p hp=>w _ _ _ (s1.trans (.new s1.gh hp)) (.tup aW (r1.mono (bx.up (aQ s1.gh hp))))⟩
  · exact False.elim w
theorem oX (h:DA X Γ E es fr):DE X Γ E (.List es pos) (iB fr):=PE.imp (pe_lst h) fun σ H Q ⟨G0,H0,G,δ,S,w⟩=>by
  refine ⟨G0,H0,G,δ,S,(au w).mono (fun ds w vs G1 H1 s1 r1=>?_) fun _ k=>k⟩
  split at w
  · rename_i h
    exact ⟨by rw [r1.length]; exact h,fun p hp=>w _ _ _ (s1.trans (.new s1.gh hp)) (.lst aW (r1.mono (bx.up (aQ s1.gh hp))))⟩
  · exact False.elim w
theorem aC.atI {K:PySem.W.Frag} {H:Hp} {vs:List V} {ds:List D} {i:Int} {d:D} (r:aC K Γ H vs ds) (e:atI ds i = some d):∃ v,atI vs i = some v∧Rep K Γ H v d:=by
  unfold L2.atI at e ⊢
  rw [r.length]
  cases q:ixN ds.length i with
  | none=>rw [q] at e; cases e
  | some j =>
    rw [q] at e
    exact r.get e
def ixD:D→D→Option D
  | .str z,.int i=>if z.length ≤ sizeLine then (atI z.cps.toList i).map fun c=>.str ⟨#[c]⟩ else none
  | x,.int i=>(Ac x).bind fun ds=>atI ds i
  | _,_=>none
theorem dr_ix {K:PySem.W.Frag}:DR2 K Γ (rIx K) ixD:=by
  intro G H x y dx dy d Q s rx ry e k
  unfold ixD at e
  split at e
  · split at e
    · obtain ⟨c,e1,rfl⟩:=Option.map_eq_some_iff.mp e
      cases rx; cases ry
      exact .inr (.inr ⟨_,_,c,rfl,rfl,‹_›,e1,k _ G H (.refl s) (.str _)⟩)
    · cases e
  · cases ry
    obtain ⟨ds,e1,e2⟩:=Option.bind_eq_some_iff.mp e
    obtain ⟨a,vs,rfl,sq,ra⟩:=rx.seq e1
    obtain ⟨v,h1,h2⟩:=ra.atI e2
    rcases sq with sq | sq
    · exact .inl ⟨a,vs,_,v,rfl,rfl,s.seq sq,h1,k _ G H (.refl s) h2⟩
    · exact .inr (.inl ⟨a,vs,_,v,rfl,rfl,SqT.same s sq,h1,k _ G H (.refl s) h2⟩)
  · cases e
theorem de_ix (ha:DE X Γ E a fa) (hb:DE X Γ E b fb) (hs:Rt b:=by exact fun _ _=>rfl):DE X Γ E (.Subscript a b pos) (o2 ixD fa fb):=d2 dr_ix (pe_ix ix_seq ha hb hs)
def gvo (i:Nat):DSt→Out D:=fun δ=>match δ[i]? with
  | some (some (.sh d))=>.ok d
  | some (some (.ol ds))=>.ok (.lst ds)
  | _=>.stuck
theorem cC (i:Nat) {x:Str} {p:Pos} (h:PE X (.Name x p) (vq i)) (hb:DE X Γ E b fb) (hs:Rt b:=by exact fun _ _=>rfl):DE X Γ E (.Subscript (.Name x p) b pos) (o2 ixD (gvo i) fb):=PE.imp (pe_ix ix_seq h hb hs) fun σ H Q ⟨G0,H0,G,δ,S,w⟩=>by
  obtain ⟨O,q⟩:=id S.sl
  unfold o2 gvo at w
  split at w
  · rename_i d e
    obtain ⟨v,h1,h2⟩:=q i _ e
    refine ⟨v,h1,G0,H0,G,δ,S,(au (o:=fb δ) w).mono (fun y w u G2 H2 s2 r2=>?_) fun _ k=>k⟩
    obtain ⟨d,e,k⟩:=bJ w
    exact dr_ix G2 H2 v u _ y d Q s2.gh (Rep.mono s2.gg h2) r2 e (k.step s2)
  · rename_i ds e
    obtain ⟨v,h1,a,vs,ev,ha,ga,h0,hO,ra⟩:=q i _ e
    subst ev
    refine ⟨_,h1,G0,H0,G,δ,S,(au (o:=fb δ) w).mono (fun y w u G2 H2 s2 r2=>?_) fun _ k=>k⟩
    obtain ⟨d,e,k⟩:=bJ w
    unfold ixD at e
    split at e
    · exact absurd (‹D.lst ds = D.str _›) (fun q=>by cases q)
    · cases r2
      obtain ⟨ds',e1,e2⟩:=Option.bind_eq_some_iff.mp e
      cases e1
      obtain ⟨v,h1,h2⟩:=ra.atI e2
      exact .inl ⟨a,vs,_,v,rfl,rfl,SqL.of (s2.hh _ _ ha),h1,k _ G2 H2 s2 (h2.mono s2.gg)⟩
    · cases e
  · exact False.elim w
def DRC (K:PySem.W.Frag) (Γ:Nat→Option Addr) (r:List V→Hp→VK→Prop) (g:List D→Option D):Prop :=
  ∀ G H vs ds d Q,bx G H→aC K Γ G vs ds→g ds = some d→okD K Γ G H Q d→r vs H Q
def oC (g:List D→Option D) (f:DSt→Out (List D)):DSt→Out D:=fun δ=>(f δ).bind fun ds=>.opt (g ds)
theorem dC {r:List V→Hp→VK→Prop} {g:List D→Option D} (hr:DRC X.K Γ r g) (h:PE X e (tCB r (taD X.K Γ E fr))):DE X Γ E e (oC g fr):=PE.imp h fun σ H Q ⟨G0,H0,G,δ,S,w⟩=>by
  refine ⟨G0,H0,G,δ,S,(au w).mono (fun ds w vs G1 H1 s1 r1=>?_) fun _ k=>k⟩
  obtain ⟨d,e,k⟩:=bJ w
  exact hr G1 H1 vs ds d Q s1.gh r1 e (k.step s1)
def DRC1 (K:PySem.W.Frag) (Γ:Nat→Option Addr) (r:List V→Hp→VK→Prop) (g:D→Option D):Prop :=
  ∀ G H v dx d Q,bx G H→Rep K Γ H v dx→g dx = some d→okD K Γ G H Q d→r [v] H Q
theorem dC1 {r:List V→Hp→VK→Prop} {g:D→Option D} (hr:DRC1 X.K Γ r g) (h:PE X e (tCB r (zc (tbD X.K Γ E fa) Dq))):DE X Γ E e (o1 g fa):=PE.imp h fun σ H Q ⟨G0,H0,G,δ,S,w⟩=>by
  refine ⟨G0,H0,G,δ,S,(au w).mono (fun x w v G1 H1 s1 r1=>?_) fun _ k=>k⟩
  obtain ⟨d,e,k⟩:=bJ w
  exact hr G1 H1 v x d Q s1.gh r1 e (k.step s1)
def cG:D→Option D
  | .str z=>if z.length ≤ sizeLine then some (.int z.length) else none
  | x=>(Ac x).map fun ds=>.int ds.length
theorem drc_len {K:PySem.W.Frag}:DRC1 K Γ (fun xs H Q=>(∃ p ys,xs = [.ref p]∧(SqL K H p ys ∨ SqT K H p ys)∧Q (.int ys.length) H) ∨ ∃ z,xs = [.str z]∧z.length ≤ sizeLine∧Q (.int z.length) H) cG:=by
  intro G H v dx d Q s r e k
  unfold cG at e
  split at e
  · split at e
    · cases e; cases r; exact .inr ⟨_,rfl,‹_›,k _ G H (.refl s) (.int _)⟩
    · cases e
  · obtain ⟨ds,e1,rfl⟩:=Option.map_eq_some_iff.mp e
    obtain ⟨a,vs,rfl,sq,ra⟩:=r.seq e1
    exact .inl ⟨a,vs,rfl,sq,by rw [ra.length]; exact k _ G H (.refl s) (.int _)⟩
variable {p:Pos}
theorem cV (hg:Gl X "len") (hm:X.mg "len" = none) (ha:DB X Γ E a fa) (hs:starEach [a] X.env = [(false,eval a X.env)]:=by rfl):DE X Γ E (.Call (.Name "len" p) [a] [] pos) (o1 cG fa) :=
  dC1 drc_len (xN (R1.or R3) hg hm PySem.boot_len (cB ha iG (by rw [hs]; rfl)) (by decide) (by decide) (by rw [hs]; rfl) (by rfl))
def intD:D→Option D
  | .int i=>some (.int i)
  | .bl k=>some (.int (if k then 1 else 0))
  | _=>none
theorem ab2 (hg:Gl X "int") (hm:X.mg "int" = none) (ha:DE X Γ E a fa) (hs:starEach [a] X.env = [(false,eval a X.env)]:=by rfl):DE X Γ E (.Call (.Name "int" p) [a] [] pos) (o1 intD fa) :=
  dC1 (fun G H v dx d Q s r e k=>by
    unfold intD at e
    split at e
    · cases e; cases r; exact .inl ⟨_,rfl,k _ G H (.refl s) (.int _)⟩
    · cases e; cases r; exact .inr ⟨_,rfl,k _ G H (.refl s) (.int _)⟩
    · cases e) (yf acB hg hm (by decide +kernel) (cB (aD ha) iG (by rw [hs]; rfl)) (by decide) (by decide) (by rw [hs]; rfl) (by rfl))
def maxD:List D→Option D
  | [.int i,.int j]=>some (.int (if j > i then j else i))
  | _=>none
def minD:List D→Option D
  | [.int i,.int j]=>some (.int (if j < i then j else i))
  | _=>none
theorem de_min (hc:X.calm = true) (hg:Gl X "min") (hm:X.mg "min" = none) (ha:DA X Γ E (e :: es) fr) (he:starEach (e :: es) X.env = (false,eval e X.env) :: starEach es X.env:=by rfl) (hpl:(backTo pos (starEach es X.env)).any (·.1) = false:=by rfl):DE X Γ E (.Call (.Name "min" p) (e :: es) [] pos) (oC minD fr) :=
  dC (fun G H vs ds d Q s r e k=>by
    unfold minD at e
    split at e
    · cases e
      cases r with
      | cons r1 r2=>cases r1; cases r2 with
        | cons r2 r3=>cases r2; cases r3; exact ⟨_,_,rfl,k _ G H (.refl s) (.int _)⟩
    · cases e) (xN (acC hc) hg hm (by decide +kernel) ha (by decide) (by decide) he hpl)
def Bu:D→Option D:=fun x=>(Ac x).map .lst
theorem Th (hg:Gl X "list") (hm:X.mg "list" = none) (ha:DE X Γ E a fa) (hs:starEach [a] X.env = [(false,eval a X.env)]:=by rfl):DE X Γ E (.Call (.Name "list" p) [a] [] pos) (oC (fun ds=>match ds with | [x]=>Bu x | _=>none) (aq fa aN)) :=
  dC (fun G H vs ds d Q s r e k=>by
    cases r with
    | nil=>cases e
    | cons r1 r2 =>
      cases r2 with
      | cons _ _=>cases e
      | nil =>
        dsimp only at e
        unfold Bu at e
        obtain ⟨xs,e1,rfl⟩:=Option.map_eq_some_iff.mp e
        obtain ⟨a,vs,rfl,sq,ra⟩:=r1.seq e1
        exact ⟨a,vs,rfl,sq.imp (fun z=>s.seq z) (fun z=>SqT.same s z),fun l hl=>k _ _ _ (.new s hl) (.lst aW (ra.mono (bx.up (aQ s hl))))⟩) (yf R4 hg hm (by decide +kernel) (ao ha aJ (by rw [hs]; rfl)) (by decide) (by decide) (by rw [hs]; rfl) (by rfl))
def zO:D→Option D
  | .lst xs=>some (.tup xs)
  | .rol xs=>some (.tup xs)
  | .tup xs=>some (.tup xs)
  | _=>none
theorem Ju (hg:Gl X "tuple") (hm:X.mg "tuple" = none) (ha:DE X Γ E a fa) (hs:starEach [a] X.env = [(false,eval a X.env)]:=by rfl):DE X Γ E (.Call (.Name "tuple" p) [a] [] pos) (oC (fun ds=>match ds with | [x]=>zO x | _=>none) (aq fa aN)) :=
  dC (fun G H vs ds d Q s r e k=>by
    cases r with
    | nil=>cases e
    | cons r1 r2 =>
      cases r2 with
      | cons _ _=>cases e
      | nil =>
        dsimp only at e
        unfold zO at e
        split at e
        · cases e
          cases r1 with
          | lst h ra=>exact ⟨_,_,rfl,.inl ⟨s.seq (SqL.of h),fun l hl=>k _ _ _ (.new s hl) (.tup aW (ra.mono (bx.up (aQ s hl))))⟩⟩
        · cases e
          cases r1 with
          | rol h ra=>exact ⟨_,_,rfl,.inl ⟨s.seq h,fun l hl=>k _ _ _ (.new s hl) (.tup aW (ra.mono (bx.up (aQ s hl))))⟩⟩
        · cases e
          cases r1 with
          | tup h ra=>exact ⟨_,_,rfl,.inr ⟨SqT.of (s _ _ h),k _ G H (.refl s) (.tup h ra)⟩⟩
        · cases e) (yf Mt hg hm (by decide +kernel) (ao ha aJ (by rw [hs]; rfl)) (by decide) (by decide) (by rw [hs]; rfl) (by rfl))
end
end DL
namespace DL
open PySem PySem.Spec PyProof.Rows MX L2
section
variable {K:PySem.W.Frag} {Γ:Nat→Option Addr} {G0 H0 G H G' H':Hp} {O O':Addr→Option Nat} {σ:L2.St} {δ:DSt}
theorem Inner.reO (k:∀ b,H b ≠ none→O' b = O b) {i:Nat}:∀ {vs:List V} {dss:List (List D)},Inner K Γ H0 G H O i vs dss→Inner K Γ H0 G H O' i vs dss
  | _,_,.nil=>.nil
  | _,_,.cons h g h0 o r n t=>.cons h g h0 (by rw [k _ (by rw [h]; exact fun q=>nomatch q)]; exact o) r n (t.reO k)
theorem b7.reO (k:∀ b,H b ≠ none→O' b = O b) {i:Nat}:∀ {vs:List V} {es:List Mx} {bs:List Addr},b7 K Γ H0 G H O i vs es bs→b7 K Γ H0 G H O' i vs es bs
  | _,_,_,.nil=>.nil
  | _,_,_,.own h g h0 o r n t=>.own h g h0 (by rw [k _ (by rw [h]; exact fun q=>nomatch q)]; exact o) r n (t.reO k)
  | _,_,_,.fix r t=>.fix r (t.reO k)
theorem dg.reO {i:Nat} {v:V} {x:Sl} (h:dg K Γ H0 G H O i v x) (k:∀ b,H b ≠ none→O' b = O b):dg K Γ H0 G H O' i v x:=by
  have kk:∀ {a:Addr} {o:HO},H a = some o→O' a = O a:=fun h=>k _ (by rw [h]; exact fun q=>nomatch q)
  cases x with
  | sh d=>exact h
  | ol ds=>obtain ⟨a,vs,e,h1,h2,h3,h4,h5⟩:=h; exact ⟨a,vs,e,h1,h2,h3,(kk h1).trans h4,h5⟩
  | oll ds=>obtain ⟨a,vs,e,h1,h2,h3,h4,h5,h6⟩:=h; exact ⟨a,vs,e,h1,h2,h3,(kk h1).trans h4,h5,h6.reO k⟩
  | od ds=>obtain ⟨a,vs,e,h1,h2,h3,h4,h5⟩:=h; exact ⟨a,vs,e,h1,h2,h3,(kk h1).trans h4,h5⟩
  | odT ds=>obtain ⟨a,vs,e,h1,h2,h3,h4,h5⟩:=h; exact ⟨a,vs,e,h1,h2,h3,(kk h1).trans h4,h5⟩
  | omx ds=>obtain ⟨a,vs,bs,e,h1,h2,h3,h4,h5,h6⟩:=h; exact ⟨a,vs,bs,e,h1,h2,h3,(kk h1).trans h4,h5,h6.reO k⟩
theorem Inner.frame {i j:Nat} (ij:j ≠ i) (hh:∀ b,O b ≠ some i→H' b = H b) (gg:bx G G') (gn:∀ b,O b ≠ some i→G b = none→G' b = none):∀ {vs:List V} {dss:List (List D)},Inner K Γ H0 G H O j vs dss→Inner K Γ H0 G' H' O j vs dss
  | _,_,.nil=>.nil
  | _,_,.cons h g h0 o r n t=>.cons ((hh _ (by rw [o]; exact fun q=>ij (Option.some.inj q))).trans h) (gn _ (by rw [o]; exact fun q=>ij (Option.some.inj q)) g) h0 o (r.mono gg) n (t.frame ij hh gg gn)
theorem b7.frame {i j:Nat} (ij:j ≠ i) (hh:∀ b,O b ≠ some i→H' b = H b) (gg:bx G G') (gn:∀ b,O b ≠ some i→G b = none→G' b = none):∀ {vs:List V} {es:List Mx} {bs:List Addr},b7 K Γ H0 G H O j vs es bs→b7 K Γ H0 G' H' O j vs es bs
  | _,_,_,.nil=>.nil
  | _,_,_,.own h g h0 o r n t=>.own ((hh _ (by rw [o]; exact fun q=>ij (Option.some.inj q))).trans h) (gn _ (by rw [o]; exact fun q=>ij (Option.some.inj q)) g) h0 o (r.mono gg) n (t.frame ij hh gg gn)
  | _,_,_,.fix r t=>.fix (r.mono gg) (t.frame ij hh gg gn)
theorem dg.frame {i j:Nat} {v:V} {x:Sl} (h:dg K Γ H0 G H O j v x) (ij:j ≠ i) (hh:∀ b,O b ≠ some i→H' b = H b) (gg:bx G G') (gn:∀ b,O b ≠ some i→G b = none→G' b = none):dg K Γ H0 G' H' O j v x:=by
  have nz:∀ {a:Addr},O a = some j→O a ≠ some i:=fun o=>by rw [o]; exact fun q=>ij (Option.some.inj q)
  cases x with
  | sh d=>exact Rep.mono gg h
  | ol ds=>obtain ⟨a,vs,e,h1,h2,h3,h4,h5⟩:=h; exact ⟨a,vs,e,(hh _ (nz h4)).trans h1,gn _ (nz h4) h2,h3,h4,h5.mono gg⟩
  | oll ds=>obtain ⟨a,vs,e,h1,h2,h3,h4,h5,h6⟩:=h; exact ⟨a,vs,e,(hh _ (nz h4)).trans h1,gn _ (nz h4) h2,h3,h4,h5,h6.frame ij hh gg gn⟩
  | od ds=>obtain ⟨a,vs,e,h1,h2,h3,h4,h5⟩:=h; exact ⟨a,vs,e,(hh _ (nz h4)).trans h1,gn _ (nz h4) h2,h3,h4,h5.mono gg⟩
  | odT ds=>obtain ⟨a,vs,e,h1,h2,h3,h4,h5⟩:=h; exact ⟨a,vs,e,(hh _ (nz h4)).trans h1,gn _ (nz h4) h2,h3,h4,h5.mono gg⟩
  | omx ds=>obtain ⟨a,vs,bs,e,h1,h2,h3,h4,h5,h6⟩:=h; exact ⟨a,vs,bs,e,(hh _ (nz h4)).trans h1,gn _ (nz h4) h2,h3,h4,h5,h6.frame ij hh gg gn⟩
theorem Slots.put {i:Nat} {v:V} {x:Sl} (hl:δ.length = σ.length) (q:∀ j s,δ[j]? = some (some s)→j ≠ i→∃ v,σ[j]? = some (some v)∧dg K Γ H0 G H O j v s) (n:dg K Γ H0 G H O i v x):Slots K Γ H0 G H (σ.set i (some v)) (δ.set i (some x)):=by
  refine ⟨O,fun j y e=>?_⟩
  by_cases ij:i = j
  · subst ij
    rw [List.getElem?_set_self'] at e
    cases h:δ[i]? with
    | none=>rw [h] at e; simp at e
    | some z =>
      rw [h] at e
      simp at e
      have lt:i < σ.length:=by rw [← hl]; exact (List.getElem?_eq_some_iff.mp h).1
      subst e
      exact ⟨v,by rw [List.getElem?_set_self lt],n⟩
  · rw [List.getElem?_set_ne ij] at e
    obtain ⟨v',h1,h2⟩:=q j y e (fun z=>ij z.symm)
    exact ⟨v',by rw [List.getElem?_set_ne ij]; exact h1,h2⟩
theorem Cg {α:Type} {l:List α} {i:Nat} {x:α} (h:l[i]? = some x):l.set i x = l:=by
  obtain ⟨lt,e⟩:=List.getElem?_eq_some_iff.mp h
  subst e
  exact List.set_getElem_self lt
theorem SR.setl (S:SR K Γ G0 H0 G H σ δ) (s:Step G H G' H') {i:Nat} {a:Addr} {vs:List V} {ds:List D} (f:H a = none) (h:H' a = some (.lst vs)) (g:G' a = none) (r:aC K Γ G' vs ds) :
    SR K Γ G0 H0 G' H' (σ.set i (some (.ref a))) (δ.set i (some (.ol ds))):=by
  obtain ⟨O,q⟩:=S.sl
  have k:∀ b,H b ≠ none→(fun b=>if b = a then some i else O b) b = O b:=fun b hb=>by
    have:b ≠ a:=fun z=>hb (z ▸ f)
    simp [this]
  refine ⟨S.st.trans s,by rw [List.length_set,List.length_set]; exact S.len,Slots.put (O:=fun b=>if b = a then some i else O b) S.len (fun j y e ij=>?_) ⟨a,vs,rfl,h,g,aQ S.st.hh f,by simp,r⟩⟩
  obtain ⟨v,h1,h2⟩:=q j y e
  exact ⟨v,h1,(h2.reO k).step s⟩
theorem bK.mem {G' H':Hp}:∀ {vs:List V} {dss:List (List D)},bK K Γ H G' H' vs dss→∀ b,V.ref b ∈ vs→H b = none∧H' b ≠ none
  | _,_,.nil,b,hb=>by cases hb
  | _,_,.cons f h g r n t,b,hb=>by
    rcases List.mem_cons.mp hb with z | z
    · cases z; exact ⟨f,by rw [h]; exact fun q=>nomatch q⟩
    · exact t.mem b z
theorem SR.write (S:SR K Γ G0 H0 G H σ δ) (q:∀ i s,δ[i]? = some (some s)→∃ v,σ[i]? = some (some v)∧dg K Γ H0 G H O i v s) {i:Nat} {a:Addr} {o:HO} {v:V} {x:Sl} (g:G a = none) (h0:H0 a = none) (oa:O a = some i) (hv:σ[i]? = some (some v))
    (n:dg K Γ H0 G (upd H a o) O i v x):SR K Γ G0 H0 G (upd H a o) σ (δ.set i (some x)):=by
  have hh:∀ b,O b ≠ some i→upd H a o b = H b:=fun b hb=>aV fun z=>hb (z ▸ oa)
  refine ⟨⟨S.st.gg,fun b u e=>?_,fun b u e=>?_,S.st.sep⟩,by rw [List.length_set]; exact S.len,?_⟩
  · rw [aV (aY e h0)]; exact S.st.hh _ _ e
  · rw [aV (aY e g)]; exact S.st.gh _ _ e
  · have z:=Slots.put (v:=v) (i:=i) (x:=x) S.len (fun j y e ij=>by
      obtain ⟨v',h1,h2⟩:=q j y e
      exact ⟨v',h1,h2.frame ij hh (bx.refl _) (fun _ _ g=>g)⟩) n
    rwa [Cg hv] at z
def fY (G H:Hp) (p:Addr→Bool):Hp:=fun b=>if p b = true then H b else G b
theorem SR.Es (S:SR K Γ G0 H0 G H σ δ) (q:∀ i s,δ[i]? = some (some s)→∃ v,σ[i]? = some (some v)∧dg K Γ H0 G H O i v s) {i:Nat} (p:Addr→Bool) (hp:∀ b,p b = true→O b = some i∧G b = none∧H0 b = none) {v:V} {d:D} (hv:σ[i]? = some (some v))
    (n:Rep K Γ (fY G H p) v d):SR K Γ G0 H0 (fY G H p) H σ (δ.set i (some (.sh d))):=by
  have gg:bx G (fY G H p):=fun b u e=>by
    unfold fY
    split
    · rw [(hp b ‹_›).2.1] at e; cases e
    · exact e
  have gn:∀ b,O b ≠ some i→G b = none→fY G H p b = none:=fun b hb g=>by
    unfold fY
    split
    · exact absurd (hp b ‹_›).1 hb
    · exact g
  refine ⟨⟨S.st.gg.trans gg,S.st.hh,fun b u e=>?_,fun b hb g0=>?_⟩,by rw [List.length_set]; exact S.len,?_⟩
  · unfold fY at e
    split at e
    · exact e
    · exact S.st.gh _ _ e
  · unfold fY
    split
    · exact absurd (hp b ‹_›).2.2 hb
    · exact S.st.sep b hb g0
  · have z:=Slots.put (v:=v) (i:=i) (x:=.sh d) S.len (fun j y e ij=>by
      obtain ⟨v',h1,h2⟩:=q j y e
      exact ⟨v',h1,h2.frame ij (fun _ _=>rfl) gg gn⟩) n
    rwa [Cg hv] at z
theorem Inner.facts {i:Nat}:∀ {vs:List V} {dss:List (List D)},Inner K Γ H0 G H O i vs dss→∀ b,V.ref b ∈ vs→O b = some i∧G b = none∧H0 b = none
  | _,_,.nil,b,hb=>by cases hb
  | _,_,.cons h g h0 o r n t,b,hb=>by
    rcases List.mem_cons.mp hb with z | z
    · cases z; exact ⟨o,g,h0⟩
    · exact t.facts b z
theorem Inner.frozen {i:Nat} {p:Addr→Bool} (gg:bx G (fY G H p)):∀ {vs:List V} {dss:List (List D)},(∀ b,V.ref b ∈ vs→p b = true)→Inner K Γ H0 G H O i vs dss→aC K Γ (fY G H p) vs (dss.map .lst)
  | _,_,_,.nil=>.nil
  | _,_,m,.cons h g h0 o r n t=>.cons (.lst (by unfold fY; rw [if_pos (m _ List.mem_cons_self)]; exact h) (r.mono gg)) (Inner.frozen gg (fun b' hb=>m b' (List.mem_cons_of_mem _ hb)) t)
theorem b7.facts {i:Nat}:∀ {vs:List V} {es:List Mx} {bs:List Addr},b7 K Γ H0 G H O i vs es bs→∀ b ∈ bs,O b = some i∧G b = none∧H0 b = none
  | _,_,_,.nil,b,hb=>by cases hb
  | _,_,_,.own h g h0 o r n t,b,hb=>by
    rcases List.mem_cons.mp hb with z | z
    · cases z; exact ⟨o,g,h0⟩
    · exact t.facts b z
  | _,_,_,.fix r t,b,hb=>t.facts b hb
theorem b7.frozen {i:Nat} {p:Addr→Bool} (gg:bx G (fY G H p)):∀ {vs:List V} {es:List Mx} {bs:List Addr},(∀ b ∈ bs,p b = true)→b7 K Γ H0 G H O i vs es bs→aC K Γ (fY G H p) vs (es.map Mx.d)
  | _,_,_,_,.nil=>.nil
  | _,_,_,m,.own h g h0 o r n t=>.cons (.lst (by unfold fY; rw [if_pos (m _ List.mem_cons_self)]; exact h) (r.mono gg)) (b7.frozen gg (fun b' hb=>m b' (List.mem_cons_of_mem _ hb)) t)
  | _,_,_,m,.fix r t=>.cons (r.mono gg) (b7.frozen gg m t)
def frzS:Sl→Sl
  | .sh d=>.sh d
  | .ol ds=>.sh (.lst ds)
  | .oll dss=>.sh (.lst (dss.map .lst))
  | .od kvs=>.sh (.dK kvs)
  | .odT kvs=>.sh (.dT kvs)
  | .omx es=>.sh (.lst (es.map Mx.d))
def frz (i:Nat) (δ:DSt):DSt:=match δ[i]? with
  | some (some s)=>δ.set i (some (frzS s))
  | _=>δ
theorem dZ {p:Addr→Bool} (hp:∀ b,p b = true→G b = none):bx G (fY G H p):=fun b u e=>by
  unfold fY
  split
  · rw [hp b ‹_›] at e; cases e
  · exact e
theorem SR.freeze (S:SR K Γ G0 H0 G H σ δ) (i:Nat):∃ G',SR K Γ G0 H0 G' H σ (frz i δ):=by
  obtain ⟨O,q⟩:=id S.sl
  unfold frz
  split
  · rename_i s e
    obtain ⟨v,hv,h⟩:=q i s e
    cases s with
    | sh d=>exact ⟨G,by rw [show frzS (.sh d) = .sh d from rfl,Cg e]; exact S⟩
    | ol ds =>
      obtain ⟨a,vs,ev,h1,h2,h3,h4,h5⟩:=h
      subst ev
      have hp:∀ b,decide (b = a) = true→O b = some i∧G b = none∧H0 b = none:=fun b z=>by obtain rfl:=of_decide_eq_true z; exact ⟨h4,h2,h3⟩
      exact ⟨_,S.Es q (fun b=>decide (b = a)) hp hv (.lst (by unfold fY; rw [if_pos (by simp)]; exact h1) (h5.mono (dZ fun b z=>(hp b z).2.1)))⟩
    | oll ds =>
      obtain ⟨a,vs,ev,h1,h2,h3,h4,h5,h6⟩:=h
      subst ev
      have hp:∀ b,decide (b = a ∨ V.ref b ∈ vs) = true→O b = some i∧G b = none∧H0 b = none:=fun b z=>by
        rcases of_decide_eq_true z with z | z
        · subst z; exact ⟨h4,h2,h3⟩
        · exact h6.facts b z
      exact ⟨_,S.Es q (fun b=>decide (b = a ∨ V.ref b ∈ vs)) hp hv (.lst (by unfold fY; rw [if_pos (by simp)]; exact h1) (h6.frozen (dZ fun b z=>(hp b z).2.1) fun b hb=>by simp [hb]))⟩
    | od ds =>
      obtain ⟨a,vs,ev,h1,h2,h3,h4,h5⟩:=h
      subst ev
      have hp:∀ b,decide (b = a) = true→O b = some i∧G b = none∧H0 b = none:=fun b z=>by obtain rfl:=of_decide_eq_true z; exact ⟨h4,h2,h3⟩
      exact ⟨_,S.Es q (fun b=>decide (b = a)) hp hv (.dK (by unfold fY; rw [if_pos (by simp)]; exact h1) (h5.mono (dZ fun b z=>(hp b z).2.1)))⟩
    | odT ds =>
      obtain ⟨a,vs,ev,h1,h2,h3,h4,h5⟩:=h
      subst ev
      have hp:∀ b,decide (b = a) = true→O b = some i∧G b = none∧H0 b = none:=fun b z=>by obtain rfl:=of_decide_eq_true z; exact ⟨h4,h2,h3⟩
      exact ⟨_,S.Es q (fun b=>decide (b = a)) hp hv (.dT (by unfold fY; rw [if_pos (by simp)]; exact h1) (h5.mono (dZ fun b z=>(hp b z).2.1)))⟩
    | omx ds =>
      obtain ⟨a,vs,bs,ev,h1,h2,h3,h4,h5,h6⟩:=h
      subst ev
      have hp:∀ b,decide (b = a ∨ b ∈ bs) = true→O b = some i∧G b = none∧H0 b = none:=fun b z=>by
        rcases of_decide_eq_true z with z | z
        · subst z; exact ⟨h4,h2,h3⟩
        · exact h6.facts b z
      exact ⟨_,S.Es q (fun b=>decide (b = a ∨ b ∈ bs)) hp hv (.lst (by unfold fY; rw [if_pos (by simp)]; exact h1) (h6.frozen (dZ fun b z=>(hp b z).2.1) fun b hb=>by simp [hb]))⟩
  · exact ⟨G,S⟩
end
section
variable (K:PySem.W.Frag) (Γ:Nat→Option Addr) (E:XK)
def okF (G H:Hp) (Q:VK) (ds:List D):Prop:=∀ a vs G' H',Step G H G' H'→H a = none→H' a = some (.lst vs)→G' a = none→aC K Γ G' vs ds→Q (.ref a) H'
def okFF (G H:Hp) (Q:VK) (dss:List (List D)):Prop:=∀ a vs G' H',Step G H G' H'→H a = none→H' a = some (.lst vs)→G' a = none→V.ref a ∉ vs→bK K Γ H G' H' vs dss→Q (.ref a) H'
def tfD (f:DSt→Out (List D)):TE:=fun σ H Q=>∃ G0 H0 G δ,SR K Γ G0 H0 G H σ δ∧wpO (f δ) (okF K Γ G H Q) (exD K Γ E G H)
end
abbrev DF (X:Cx) (Γ:Nat→Option Addr) (E:XK) (e:Expr) (f:DSt→Out (List D)):Prop:=PE X e (tfD X.K Γ E f)
section
variable {X:Cx} {Γ:Nat→Option Addr} {E:XK} {e a b c:Expr} {pos:Pos} {es:List Expr} {fa fb:DSt→Out D} {fr:DSt→Out (List D)}
theorem bK.frozen {K:PySem.W.Frag} {G0 H0 G H:Hp} {p:Addr→Bool} (gg:bx G (fY G H p)):∀ {vs:List V} {dss:List (List D)},(∀ b,V.ref b ∈ vs→p b = true)→bK K Γ H0 G H vs dss→aC K Γ (fY G H p) vs (dss.map .lst)
  | _,_,_,.nil=>.nil
  | _,_,m,.cons f h g r n t=>.cons (.lst (by unfold fY; rw [if_pos (m _ List.mem_cons_self)]; exact h) (r.mono gg)) (bK.frozen (G0:=G0) gg (fun b' hb=>m b' (List.mem_cons_of_mem _ hb)) t)
theorem bK.gnone {K:PySem.W.Frag} {H G' H':Hp}:∀ {vs:List V} {dss:List (List D)},bK K Γ H G' H' vs dss→∀ b,V.ref b ∈ vs→G' b = none
  | _,_,.nil,b,hb=>by cases hb
  | _,_,.cons f h g r n t,b,hb=>by
    rcases List.mem_cons.mp hb with z | z
    · cases z; exact g
    · exact t.gnone b z
theorem Step.frz {G H G' H':Hp} (s:Step G H G' H') (p:Addr→Bool) (hp:∀ b,p b = true→G' b = none∧H b = none):Step G H (fY G' H' p) H' :=
  ⟨s.gg.trans (dZ fun b z=>(hp b z).1),s.hh,fun b u e=>by
    unfold fY at e
    split at e
    · exact e
    · exact s.gh _ _ e,fun b hb g=>by
    unfold fY
    split
    · exact absurd (hp b ‹_›).2 hb
    · exact s.sep b hb g⟩
def nH (f:DSt→Out (List D)):DSt→Out D:=fun δ=>(f δ).bind fun ds=>.ok (.lst ds)
def lstVV (f:DSt→Out (List (List D))):DSt→Out D:=fun δ=>(f δ).bind fun dss=>.ok (.lst (dss.map .lst))
theorem yS {f:DSt→Out (List D)} (h:DF X Γ E e f):DE X Γ E e (nH f):=PE.imp h fun σ H Q ⟨G0,H0,G,δ,S,w⟩=>by
  refine ⟨G0,H0,G,δ,S,(au w).mono (fun ds w a vs G1 H1 s1 f h g r=>?_) fun _ k=>k⟩
  have hp:∀ b,decide (b = a) = true→G1 b = none∧H b = none:=fun b z=>by obtain rfl:=of_decide_eq_true z; exact ⟨g,f⟩
  exact w _ _ H1 (s1.frz (fun b=>decide (b = a)) hp) (.lst (by unfold fY; rw [if_pos (by simp)]; exact h) (r.mono (dZ fun b z=>(hp b z).1)))
def Ja (f:DSt→Out (List D)):DSt→Out (List D):=fun δ=>(f δ).bind fun ds=>if ds.length ≤ sizeLine then .ok ds else .stuck
theorem aaV (h:DA X Γ E es fr):DF X Γ E (.List es pos) (Ja fr):=PE.imp (pe_lst h) fun σ H Q ⟨G0,H0,G,δ,S,w⟩=>by
  refine ⟨G0,H0,G,δ,S,(au w).mono (fun ds w vs G1 H1 s1 r1=>?_) fun _ k=>k⟩
  split at w
  · rename_i h
    exact ⟨by rw [r1.length]; exact h,fun p hp=>w p vs G1 _ (s1.trans (.aside s1.gh hp)) (aQ s1.hh hp) aW (aQ s1.gh hp) r1⟩
  · exact False.elim w
def jh (f:DSt→Out D):DSt→Out (List D):=fun δ=>(f δ).bind fun d=>.opt (Ac d)
end
section
variable {X:Cx} {Γ:Nat→Option Addr} {E:XK} {e a b c:Expr} {pos:Pos} {es:List Expr} {fa fb:DSt→Out D} {fr:DSt→Out (List D)} {ft:DSt→Out Bool} {st:Stmt} {rest sa sb:List Stmt} {g g':DSt→Out Fl}
def dh:DSt→Out Fl:=fun δ=>.ok (.nx δ)
def bf (g g':DSt→Out Fl):DSt→Out Fl:=fun δ=>(g δ).bind fun fl=>match fl with
  | .nx δ'=>g' δ'
  | fl=>.ok fl
theorem bc:DSs X Γ E [] dh:=PSs.imp pss_nil fun N σ H ⟨G0,H0,G,δ,S,w⟩=>w σ G H S
theorem aA (h1:DS X Γ E st g) (h2:DSs X Γ E rest g'):DSs X Γ E (st :: rest) (bf g g'):=PSs.imp (BV h1 h2) fun N σ H ⟨G0,H0,G,δ,S,w⟩=>by
  refine ⟨G0,H0,G,δ,S,(au w).mono (fun fl w=>?_) fun _ k=>k⟩
  cases fl with
  | nx δ'=>exact fun σ' G' H' S'=>⟨G0,H0,G',δ',S',w⟩
  | rt d=>exact w
  | bk d=>exact w
  | ct d=>exact w
  | rl d=>exact w
  | rll d=>exact w
theorem aB (h1:DS X Γ E st g):DSs X Γ E [st] g:=yj h1
theorem T5 (i:Nat) (h:DS X Γ E st g):DS X Γ E st (fun δ=>g (frz i δ)):=PS.imp h fun N σ H ⟨G0,H0,G,δ,S,w⟩=>by
  obtain ⟨G',S'⟩:=S.freeze i
  exact ⟨G0,H0,G',_,S',w⟩
def sExpr (f:DSt→Out D):DSt→Out Fl:=fun δ=>(f δ).bind fun _=>.ok (.nx δ)
theorem Bg:DS X Γ E st (fun _=>.stuck):=PS.imp ps_never fun N σ H ⟨G0,H0,G,δ,S,w⟩=>w
def bB (f:DSt→Out D):DSt→Out Fl:=fun δ=>(f δ).bind fun d=>.ok (.rt d)
theorem aL (he:DE X Γ E e fa):DS X Γ E (.Return (some e) pos) (bB fa):=PS.imp (abF he) fun N σ H ⟨G0,H0,G,δ,S,w⟩ =>
  ⟨G0,H0,G,δ,S,(au w).mono (fun d w v G' H' s r=>w v G' H' (S.st.trans s) r) fun x k=>exD.step k S.st⟩
theorem bK.reF {K:PySem.W.Frag} {H H2 G' H':Hp} (k:∀ b,H b = none→H2 b = none):∀ {vs:List V} {dss:List (List D)},bK K Γ H G' H' vs dss→bK K Γ H2 G' H' vs dss
  | _,_,.nil=>.nil
  | _,_,.cons f h g r n t=>.cons (k _ f) h g r n (bK.reF k t)
def sRetv (i:Nat):DSt→Out Fl:=fun δ=>match δ[i]? with
  | some (some (.sh d))=>.ok (.rt d)
  | some (some (.ol ds))=>.ok (.rl ds)
  | some (some (.oll dss))=>.ok (.rll dss)
  | _=>.stuck
theorem Inner.toN {K:PySem.W.Frag} {H0 G H:Hp} {O:Addr→Option Nat} {i:Nat}:∀ {vs:List V} {dss:List (List D)},Inner K Γ H0 G H O i vs dss→bK K Γ H0 G H vs dss
  | _,_,.nil=>.nil
  | _,_,.cons h g h0 o r n t=>.cons h0 h g r n t.toN
theorem ab5 (i:Nat) {x:Str} {p:Pos} (hv:PE X (.Name x p) (vq i)):DS X Γ E (.Return (some (.Name x p)) pos) (sRetv i):=PS.imp (abF hv) fun N σ H ⟨G0,H0,G,δ,S,w⟩=>by
  obtain ⟨O,q⟩:=id S.sl
  unfold sRetv at w
  split at w
  · rename_i d e
    obtain ⟨v,hv,h⟩:=q i _ e
    exact ⟨v,hv,w v G H S.st h⟩
  · rename_i d e
    obtain ⟨v,hv,a,vs,ev,h1,h2,h3,h4,h5⟩:=q i _ e
    subst ev
    exact ⟨_,hv,w a vs G H S.st h3 h1 h2 h5⟩
  · rename_i d e
    obtain ⟨v,hv,a,vs,ev,h1,h2,h3,h4,h5,h6⟩:=q i _ e
    subst ev
    exact ⟨_,hv,w a vs G H S.st h3 h1 h2 h5 h6.toN⟩
  · exact False.elim w
def sIf (t:DSt→Out Bool) (g g':DSt→Out Fl):DSt→Out Fl:=fun δ=>(t δ).bind fun k=>if k = true then g δ else g' δ
theorem cg (hc:DT X Γ E c ft) (ha:DSs X Γ E sa g) (hb:DSs X Γ E sb g'):DS X Γ E (.If c sa sb pos) (sIf ft g g'):=PS.imp (ps_if hc ha hb) fun N σ H ⟨G0,H0,G,δ,S,w⟩=>by
  refine ⟨G0,H0,G,δ,S,(au w).mono (fun k w G1 H1 s1=>?_) fun x k=>exD.step k S.st⟩
  cases k with
  | true=>rw [if_pos rfl] at w ⊢; exact ⟨G0,H0,G1,δ,S.step s1,w⟩
  | false=>rw [if_neg Bool.false_ne_true] at w ⊢; exact ⟨G0,H0,G1,δ,S.step s1,w⟩
def tgD (K:PySem.W.Frag) (Γ:Nat→Option Addr) (f:D→DSt→Option DSt):TG:=fun v σ H Q=>∃ G0 H0 G δ d δ',SR K Γ G0 H0 G H σ δ∧Rep K Γ G v d∧f d δ = some δ'∧∀ σ',SR K Γ G0 H0 G H σ' δ'→Q σ' H
def tgsD (K:PySem.W.Frag) (Γ:Nat→Option Addr) (f:List D→DSt→Option DSt):TGs:=fun vs σ H Q=>∃ G0 H0 G δ ds δ',SR K Γ G0 H0 G H σ δ∧aC K Γ G vs ds∧f ds δ = some δ'∧∀ σ',SR K Γ G0 H0 G H σ' δ'→Q σ' H
abbrev DG (X:Cx) (Γ:Nat→Option Addr) (e:Expr) (f:D→DSt→Option DSt):Prop:=PG X e (tgD X.K Γ f)
abbrev DGs (X:Cx) (Γ:Nat→Option Addr) (es:List Expr) (f:List D→DSt→Option DSt):Prop:=PGs X es (tgsD X.K Γ f)
theorem PG.imp {e:Expr} {t t':TG} (h:PG X e t) (k:∀ v σ H Q,t' v σ H Q→t v σ H Q):PG X e t':=fun pins s σ H v u Q I r q=>h pins s σ H v u Q I r (k _ _ _ _ q)
theorem PGs.imp {e:List Expr} {t t':TGs} (h:PGs X e t) (k:∀ v σ H Q,t' v σ H Q→t v σ H Q):PGs X e t':=fun pins s σ H v u Q I r q=>h pins s σ H v u Q I r (k _ _ _ _ q)
def gN (i:Nat):D→DSt→Option DSt:=fun d δ=>some (δ.set i (some (.sh d)))
theorem bh {i:Nat} {x:Str} (h:PG X (.Name x pos) (Et i)):DG X Γ (.Name x pos) (gN i):=PG.imp h fun v σ H Q ⟨G0,H0,G,δ,d,δ',S,r,e,q⟩=>by
  cases e
  exact q _ (S.set r)
def d7:List D→DSt→Option DSt:=fun ds δ=>match ds with
  | []=>some δ
  | _=>none
def aP (f:D→DSt→Option DSt) (g:List D→DSt→Option DSt):List D→DSt→Option DSt:=fun ds δ=>match ds with
  | d :: r=>(f d δ).bind (g r)
  | []=>none
theorem pW:DGs X Γ [] d7:=PGs.imp pgs_nil fun vs σ H Q ⟨G0,H0,G,δ,ds,δ',S,r,e,q⟩=>by
  cases r with
  | nil=>cases e; exact ⟨rfl,q _ S⟩
  | cons _ _=>cases e
theorem bM {f:D→DSt→Option DSt} {h:List D→DSt→Option DSt} (h1:DG X Γ e f) (h2:DGs X Γ es h) (hh:∀ {t:TG} {u:TGs},PG X e t→PGs X es u→PGs X (e :: es) (gCons t u)):DGs X Γ (e :: es) (aP f h):=PGs.imp (hh h1 h2) fun vs σ H Q ⟨G0,H0,G,δ,ds,δ',S,r,e,q⟩=>by
  cases r with
  | nil=>cases e
  | cons r1 r2 =>
    unfold aP at e
    obtain ⟨δ1,e1,e2⟩:=Option.bind_eq_some_iff.mp e
    exact ⟨_,_,rfl,G0,H0,G,δ,_,δ1,S,r1,e1,fun σ' S'=>⟨G0,H0,G,δ1,_,δ',S',r2,e2,q⟩⟩
def gT (n:Nat) (f:List D→DSt→Option DSt):D→DSt→Option DSt:=fun d δ=>match d with
  | .tup ds=>if ds.length = n then f ds δ else none
  | _=>none
theorem wC {f:List D→DSt→Option DSt} {n:Nat} (hh:∀ {t:TGs},PGs X es t→PG X e (gTup X.K n t)) (h:DGs X Γ es f):DG X Γ e (gT n f):=PG.imp (hh h) fun v σ H Q ⟨G0,H0,G,δ,d,δ',S,r,e,q⟩=>by
  unfold gT at e
  split at e
  · split at e
    · cases r with
      | tup h1 r1=>exact ⟨_,_,rfl,SqT.of (S.st.gh _ _ h1),by rw [r1.length]; assumption,G0,H0,G,δ,_,δ',S,r1,e,q⟩
    · cases e
  · cases e
def GQ (f:DSt→Out D) (g:D→DSt→Option DSt):DSt→Out Fl:=fun δ=>(f δ).bind fun d=>(Out.opt (g d δ)).bind fun δ'=>.ok (.nx δ')
theorem aaY {tg:Expr} {f:D→DSt→Option DSt} (hh:∀ {te:TE} {g:TG},PE X e te→PG X tg g→PS X (.Assign [tg] e pos) (tAsg te g)) (he:DE X Γ E e fa) (hg:DG X Γ tg f):DS X Γ E (.Assign [tg] e pos) (GQ fa f):=PS.imp (hh he hg) fun N σ H ⟨G0,H0,G,δ,S,w⟩=>by
  refine ⟨G0,H0,G,δ,S,(au w).mono (fun d w v G1 H1 s1 r1=>?_) fun x k=>exD.step k S.st⟩
  obtain ⟨δ',e,w⟩:=bJ (au w)
  exact ⟨G0,H0,G1,δ,d,δ',S.step s1,r1,e,fun σ' S'=>w σ' G1 H1 S'⟩
def cM (i:Nat) (f:DSt→Out D):DSt→Out Fl:=fun δ=>(f δ).bind fun d=>.ok (.nx (δ.set i (some (.sh d))))
theorem bW (i:Nat) {x:Str} {pos':Pos} (hh:∀ {te:TE},PE X e te→PS X (.Assign [.Name x pos'] e pos) (tAsg te (Et i))) (he:DE X Γ E e fa):DS X Γ E (.Assign [.Name x pos'] e pos) (cM i fa):=PS.imp (hh he) fun N σ H ⟨G0,H0,G,δ,S,w⟩ =>
  ⟨G0,H0,G,δ,S,(au w).mono (fun d w v G1 H1 s1 r1=>w _ G1 H1 ((S.step s1).set r1)) fun x k=>exD.step k S.st⟩
def zb (i:Nat) (f:DSt→Out (List D)):DSt→Out Fl:=fun δ=>(f δ).bind fun d=>.ok (.nx (δ.set i (some (.ol d))))
theorem T6 (i:Nat) {x:Str} {pos':Pos} (hh:∀ {te:TE},PE X e te→PS X (.Assign [.Name x pos'] e pos) (tAsg te (Et i))) (he:DF X Γ E e fr):DS X Γ E (.Assign [.Name x pos'] e pos) (zb i fr):=PS.imp (hh he) fun N σ H ⟨G0,H0,G,δ,S,w⟩ =>
  ⟨G0,H0,G,δ,S,(au w).mono (fun d w a vs G1 H1 s1 f h g r=>w _ G1 H1 (S.setl s1 f h g r)) fun x k=>exD.step k S.st⟩
def Wz (i:Nat) (f:DSt→Out (List (List D))):DSt→Out Fl:=fun δ=>(f δ).bind fun d=>.ok (.nx (δ.set i (some (.oll d))))
end
end DL
namespace DL
open PySem PySem.Spec PyProof.Rows MX L2
section
variable {X:Cx} {Γ:Nat→Option Addr} {E:XK} {e a b c:Expr} {pos:Pos} {es:List Expr} {fa fb:DSt→Out D} {fr:DSt→Out (List D)} {ft:DSt→Out Bool} {st:Stmt} {rest sa sb:List Stmt} {g g':DSt→Out Fl}
def K3 (i:Nat) (f:DSt→Out D):DSt→Out Fl:=fun δ=>match δ[i]? with
  | some (some (.ol ds))=>(f δ).bind fun d=>if ds.length < sizeLine then .ok (.nx (δ.set i (some (.ol (ds ++ [d]))))) else .stuck
  | _=>.stuck
theorem aaX (i:Nat) {x m:Str} {p apos cpos:Pos} (hv:PE X (.Name x p) (vq i)) (he:DE X Γ E e fa) (hh:∀ {to te:TE},PE X (.Name x p) to→PE X e te→PS X (.Expr (.Call (.Attribute (.Name x p) m apos) [e] [] cpos) pos) (QZ (tBM X.K "list" acl to (zc te Dq)))) :
    DS X Γ E (.Expr (.Call (.Attribute (.Name x p) m apos) [e] [] cpos) pos) (K3 i fa) :=
  PS.imp (hh hv he) fun N σ H ⟨G0,H0,G,δ,S,w⟩=>by
    obtain ⟨O,q⟩:=id S.sl
    unfold K3 at w
    split at w
    · rename_i ds ei
      obtain ⟨v,hvi,h⟩:=id (q i _ ei)
      obtain ⟨aa,vs,ev,h1,h2,h3,h4,h5⟩:=h
      subst ev
      refine ⟨_,hvi,.inl ⟨rfl,vs,SqL.of h1⟩,G0,H0,G,δ,S,(au w).mono (fun d w u G1 H1 s1 r1=>?_) fun x k=>exD.step k S.st⟩
      split at w
      · rename_i hz
        have S1:=S.step s1
        have q1:∀ i s,δ[i]? = some (some s)→∃ v,σ[i]? = some (some v)∧dg X.K Γ H0 G1 H1 O i v s:=fun j y e=>by
          obtain ⟨v',z1,z2⟩:=q j y e
          exact ⟨v',z1,z2.step s1⟩
        refine ⟨aa,vs,u,rfl,rfl,s1.hh _ _ h1,by rw [h5.length]; exact hz,w σ G1 _ (S1.write q1 (s1.sep aa (by rw [h1]; exact fun z=>nomatch z) h2) h3 h4 hvi ?_)⟩
        exact ⟨aa,vs ++ [u],rfl,aW,s1.sep aa (by rw [h1]; exact fun z=>nomatch z) h2,h3,h4,(h5.mono s1.gg).append (.cons r1 .nil)⟩
      · exact False.elim w
    · exact False.elim w
def sAppl (i:Nat) (f:DSt→Out (List D)):DSt→Out Fl:=fun δ=>match δ[i]? with
  | some (some (.oll dss))=>(f δ).bind fun d=>if dss.length < sizeLine then .ok (.nx (δ.set i (some (.oll (dss ++ [d]))))) else .stuck
  | some (some (.ol []))=>(f δ).bind fun d=>.ok (.nx (δ.set i (some (.oll [d]))))
  | _=>.stuck
theorem Inner.length {K:PySem.W.Frag} {H0 G H:Hp} {O:Addr→Option Nat} {i:Nat}:∀ {vs:List V} {dss:List (List D)},Inner K Γ H0 G H O i vs dss→vs.length = dss.length
  | _,_,.nil=>rfl
  | _,_,.cons h g h0 o r n t=>by rw [List.length_cons,List.length_cons,t.length]
theorem Inner.updI {K:PySem.W.Frag} {H0 G H:Hp} {O:Addr→Option Nat} {i:Nat} {a:Addr} {o:HO}:∀ {vs:List V} {dss:List (List D)},V.ref a ∉ vs→Inner K Γ H0 G H O i vs dss→Inner K Γ H0 G (upd H a o) O i vs dss
  | _,_,_,.nil=>.nil
  | _,_,m,.cons h g h0 oo r n t=>.cons ((aV fun z=>m (by rw [z]; exact List.mem_cons_self)).trans h) g h0 oo r n (Inner.updI (fun z=>m (List.mem_cons_of_mem _ z)) t)
theorem Inner.snoc {K:PySem.W.Frag} {H0 G H:Hp} {O:Addr→Option Nat} {i:Nat} {b:Addr} {ws:List V} {ds:List D} (h:H b = some (.lst ws)) (g:G b = none) (h0:H0 b = none) (o:O b = some i) (r:aC K Γ G ws ds):∀ {vs:List V} {dss:List (List D)},V.ref b ∉ vs→Inner K Γ H0 G H O i vs dss→Inner K Γ H0 G H O i (vs ++ [.ref b]) (dss ++ [ds])
  | _,_,_,.nil=>.cons h g h0 o r (by simp) .nil
  | _,_,m,.cons h' g' h0' o' r' n' t=>.cons h' g' h0' o' r' (fun z=>by
      rcases List.mem_append.mp z with z | z
      · exact n' z
      · exact m (by rw [List.mem_singleton.mp z]; exact List.mem_cons_self)) (Inner.snoc h g h0 o r (fun z=>m (List.mem_cons_of_mem _ z)) t)
def sExt (i:Nat) (f:DSt→Out D):DSt→Out Fl:=fun δ=>match δ[i]? with
  | some (some (.ol ds))=>(f δ).bind fun d=>match d with
    | .lst zs=>if ds.length + zs.length ≤ sizeLine then .ok (.nx (δ.set i (some (.ol (ds ++ zs))))) else .stuck
    | _=>.stuck
  | _=>.stuck
def sClr (i:Nat):DSt→Out Fl:=fun δ=>match δ[i]? with
  | some (some (.ol _))=>.ok (.nx (δ.set i (some (.ol []))))
  | some (some (.oll _))=>.ok (.nx (δ.set i (some (.ol []))))
  | _=>.stuck
theorem Inner.at {K:PySem.W.Frag} {H0 G H:Hp} {O:Addr→Option Nat} {i:Nat}:∀ {vs:List V} {dss:List (List D)} {j:Nat} {ds:List D},Inner K Γ H0 G H O i vs dss→dss[j]? = some ds→∃ b ws,vs[j]? = some (.ref b)∧H b = some (.lst ws)∧G b = none∧H0 b = none∧O b = some i∧aC K Γ G ws ds
  | _,_,_,_,.nil,e=>by simp at e
  | _,_,0,_,.cons h g h0 o r n t,e=>by simp at e; subst e; exact ⟨_,_,rfl,h,g,h0,o,r⟩
  | _,_,j + 1,_,.cons h g h0 o r n t,e=>by
    obtain ⟨b,ws,z1,z⟩:=Inner.at (j:=j) t (by simpa using e)
    exact ⟨b,ws,by simpa using z1,z⟩
theorem Inner.put {K:PySem.W.Frag} {H0 G H:Hp} {O:Addr→Option Nat} {i:Nat} {b:Addr} {ws:List V} {ds:List D} (r:aC K Γ G ws ds):∀ {vs:List V} {dss:List (List D)} {j:Nat},Inner K Γ H0 G H O i vs dss→vs[j]? = some (.ref b)→Inner K Γ H0 G (upd H b (.lst ws)) O i vs (dss.set j ds)
  | _,_,_,.nil,e=>by simp at e
  | _,_,0,.cons h g h0 o r' n t,e=>by
    simp at e
    subst e
    exact .cons aW g h0 o r n (Inner.updI n t)
  | _,_,j + 1,.cons (b:=b') (vs:=vs') h g h0 o r' n t,e=>by
    have e':vs'[j]? = some (V.ref b):=by simpa using e
    have ne:b' ≠ b:=fun z=>n (by rw [z]; exact List.mem_of_getElem? e')
    exact .cons ((aV ne).trans h) g h0 o r' n (Inner.put (j:=j) r t e')
def sClr2 (i:Nat) (fk:DSt→Out D):DSt→Out Fl:=fun δ=>match δ[i]? with
  | some (some (.oll dss))=>(fk δ).bind fun k=>match k with
    | .int k=>match ixN dss.length k with
      | some j=>.ok (.nx (δ.set i (some (.oll (dss.set j [])))))
      | none=>.stuck
    | _=>.stuck
  | _=>.stuck
def sPut (i:Nat) (fe fk:DSt→Out D):DSt→Out Fl:=fun δ=>(fe δ).bind fun d=>match δ[i]? with
  | some (some (.ol ds))=>(fk δ).bind fun k=>match k with
    | .int k=>match ixN ds.length k with
      | some j=>.ok (.nx (δ.set i (some (.ol (ds.set j d)))))
      | none=>.stuck
    | _=>.stuck
  | _=>.stuck
def sPut2 (i:Nat) (fe fk fl:DSt→Out D):DSt→Out Fl:=fun δ=>(fe δ).bind fun d=>match δ[i]? with
  | some (some (.oll dss))=>(fk δ).bind fun k=>match k with
    | .int k=>match ixN dss.length k with
      | some j=>(fl δ).bind fun l=>match l with
        | .int l=>match ixN (dss.getD j []).length l with
          | some m=>.ok (.nx (δ.set i (some (.oll (dss.set j ((dss.getD j []).set m d))))))
          | none=>.stuck
        | _=>.stuck
      | none=>.stuck
    | _=>.stuck
  | _=>.stuck
structure Yl (K:PySem.W.Frag) (Γ:Nat→Option Addr) (G1:Hp) (J:It) (ds:List D):Prop where
  go:∀ i H,bx G1 H→i < ds.length→J.go i H
  yld:∀ i G H x H' d,bx G1 G→bx G H→J.yld i H x H'→ds[i]? = some d→∃ G',Step G H G' H'∧Rep K Γ G' x d
  stop:∀ i H,bx G1 H→ds.length ≤ i→J.stop i H
def tiD (K:PySem.W.Frag) (Γ:Nat→Option Addr) (E:XK) (f:DSt→Out (List D)):TI:=fun σ H R=>∃ G0 H0 G δ,SR K Γ G0 H0 G H σ δ∧wpO (f δ) (fun ds=>∀ J G' H',Step G H G' H'→Yl K Γ G' J ds→R J H') (exD K Γ E G H)
abbrev DI (X:Cx) (Γ:Nat→Option Addr) (E:XK) (tg iter:Expr) (f:DSt→Out (List D)):Prop:=PI X tg iter (tiD X.K Γ E f)
theorem PI.imp {tg iter:Expr} {t t':TI} (h:PI X tg iter t) (k:∀ σ H R,t' σ H R→t σ H R):PI X tg iter t':=fun pins s σ H R I q=>h pins s σ H R I (k _ _ _ q)
theorem acs {K:PySem.W.Frag} {G:Hp} {a:Addr} {vs:List V} {ds:List D} (h:SqL K G a vs) (r:aC K Γ G vs ds):Yl K Γ G (Itl K a) ds:=by
  refine ⟨fun i H s lt=>?_,fun i G' H x H' d s s' y e=>?_,fun i H s le=>⟨vs,s.seq h,by rw [r.length]; exact le⟩⟩
  · obtain ⟨v,e,_⟩:=r.get (i:=i) (d:=ds[i]) (by simp [lt])
    exact ⟨vs,v,s.seq h,e⟩
  · obtain ⟨rfl,y⟩:=y
    obtain ⟨v,e1,e2⟩:=r.get e
    have:=y vs ((s.trans s').seq h)
    rw [e1] at this
    cases this
    exact ⟨G',.refl s',e2.mono s⟩
theorem yl_tup {K:PySem.W.Frag} {G:Hp} {a:Addr} {vs:List V} {ds:List D} (h:SqT K G a vs) (r:aC K Γ G vs ds):Yl K Γ G (Itt K a) ds:=by
  refine ⟨fun i H s lt=>?_,fun i G' H x H' d s s' y e=>?_,fun i H s le=>⟨vs,SqT.same s h,by rw [r.length]; exact le⟩⟩
  · obtain ⟨v,e,_⟩:=r.get (i:=i) (d:=ds[i]) (by simp [lt])
    exact ⟨vs,v,SqT.same s h,e⟩
  · obtain ⟨rfl,y⟩:=y
    obtain ⟨v,e1,e2⟩:=r.get e
    have:=y vs (SqT.same (s.trans s') h)
    rw [e1] at this
    cases this
    exact ⟨G',.refl s',e2.mono s⟩
theorem pi_or {tg iter:Expr} {w w':TI} (h:PI X tg iter w) (h':PI X tg iter w'):PI X tg iter (fun σ H R=>w σ H R ∨ w' σ H R):=fun pins s σ H R I q=>by
  rcases q with q | q
  · exact h pins s σ H R I q
  · exact h' pins s σ H R I q
theorem mO {tg:Expr} (ha:DE X Γ E a fa):DI X Γ E tg a (jh fa):=PI.imp (pi_or (pi_list ha) (pi_tup ha)) fun σ H R ⟨G0,H0,G,δ,S,w⟩=>by
  unfold jh at w
  cases h:fa δ with
  | stuck=>rw [h] at w; exact False.elim w
  | ex x=>rw [h] at w; exact .inl ⟨G0,H0,G,δ,S,by rw [h]; exact w⟩
  | ok d =>
    rw [h] at w
    obtain ⟨ds,e,k⟩:=bJ w
    cases d <;> simp only [Ac] at e <;> cases e
    · refine .inl ⟨G0,H0,G,δ,S,?_⟩
      rw [h]
      intro v G1 H1 s1 r1
      cases r1 with
      | lst h r=>exact ⟨_,rfl,⟨_,SqL.of (s1.gh _ _ h)⟩,k _ G1 H1 s1 (acs (SqL.of h) r)⟩
    · refine .inr ⟨G0,H0,G,δ,S,?_⟩
      rw [h]
      intro v G1 H1 s1 r1
      cases r1 with
      | tup h r=>exact ⟨_,rfl,⟨_,SqT.of (s1.gh _ _ h)⟩,k _ G1 H1 s1 (yl_tup (SqT.of h) r)⟩
    · refine .inl ⟨G0,H0,G,δ,S,?_⟩
      rw [h]
      intro v G1 H1 s1 r1
      cases r1 with
      | rol h r=>exact ⟨_,rfl,⟨_,s1.gh.seq h⟩,k _ G1 H1 s1 (acs h r)⟩
    · refine .inr ⟨G0,H0,G,δ,S,?_⟩
      rw [h]
      intro v G1 H1 s1 r1
      cases r1 with
      | rot h r=>exact ⟨_,rfl,⟨_,SqT.same s1.gh h⟩,k _ G1 H1 s1 (yl_tup h r)⟩
def rngL (lo:Int) (n:Nat):List D:=(List.range n).map fun i=>.int (lo + (i:Nat))
theorem yl_rng {K:PySem.W.Frag} {G:Hp} {lo:Int} {n:Nat}:Yl K Γ G (Itr lo n) (rngL lo n):=by
  have hl:(rngL lo n).length = n:=by simp [rngL]
  refine ⟨fun i H s lt=>by rw [hl] at lt; exact lt,fun i G' H x H' d s s' y e=>?_,fun i H s le=>by rw [hl] at le; exact le⟩
  obtain ⟨rfl,rfl⟩:=y
  unfold rngL at e
  rw [List.getElem?_map] at e
  obtain ⟨j,e1,e2⟩:=Option.map_eq_some_iff.mp e
  obtain ⟨lt,e3⟩:=List.getElem?_eq_some_iff.mp e1
  rw [List.getElem_range] at e3
  subst e2 e3
  exact ⟨G',.refl s',.int _⟩
def rng1 (f:DSt→Out D):DSt→Out (List D):=fun δ=>(f δ).bind fun d=>match d with
  | .int j=>if -(2 ^ 62) ≤ j∧j < 2 ^ 62 then .ok (rngL 0 j.toNat) else .stuck
  | _=>.stuck
theorem rY {tg:Expr} {p:Pos} (hg:Gl X "range") (hm:X.mg "range" = none) (ha:DE X Γ E a fa) (hs:starEach [a] X.env = [(false,eval a X.env)]:=by rfl):DI X Γ E tg (.Call (.Name "range" p) [a] [] pos) (rng1 fa) :=
  PI.imp (acZ hg hm (cB ha iG (by rw [hs]; rfl)) hs) fun σ H R ⟨G0,H0,G,δ,S,w⟩=>by
    refine ⟨G0,H0,G,δ,S,(au w).mono (fun d w v G1 H1 s1 r1=>?_) fun _ k=>k⟩
    split at w
    · split at w
      · rename_i h; cases r1; exact ⟨_,rfl,h.1,h.2,w _ G1 H1 s1 yl_rng⟩
      · exact False.elim w
    · exact False.elim w
def mX:Nat→List D→List D
  | _,[]=>[]
  | n,d :: ds=>.tup [.int n,d] :: mX (n + 1) ds
theorem QB:∀ (ds:List D) (n i:Nat),(mX n ds)[i]? = (ds[i]?).map fun d=>.tup [.int ((n + i:Nat):Int),d]
  | [],n,i=>by simp [mX]
  | d :: ds,n,0=>by simp [mX]
  | d :: ds,n,i + 1=>by
    have:=QB ds (n + 1) i
    simp only [mX,List.getElem?_cons_succ]
    rw [this]
    congr 1
    funext d
    congr 2
    simp only [List.cons.injEq,D.int.injEq,and_true]
    omega
theorem QC (ds:List D):∀ n,(mX n ds).length = ds.length:=by
  induction ds with
  | nil=>intro n; rfl
  | cons d ds ih=>intro n; simp [mX,ih]
theorem acr {K:PySem.W.Frag} {G:Hp} {a:Addr} {vs:List V} {ds:List D} (h:SqL K G a vs) (r:aC K Γ G vs ds):Yl K Γ G (Ite K a) (mX 0 ds):=by
  refine ⟨fun i H s lt=>?_,fun i G' H x H' d s s' y e=>?_,fun i H s le=>⟨vs,s.seq h,by rw [QC] at le; rw [r.length]; exact le⟩⟩
  · rw [QC] at lt
    obtain ⟨v,e,_⟩:=r.get (i:=i) (d:=ds[i]) (by simp [lt])
    exact ⟨vs,v,s.seq h,e⟩
  · obtain ⟨p,x0,rfl,hp,rfl,y⟩:=y
    rw [QB] at e
    obtain ⟨d0,e0,rfl⟩:=Option.map_eq_some_iff.mp e
    obtain ⟨v,e1,e2⟩:=r.get e0
    have:=y vs ((s.trans s').seq h)
    rw [e1] at this
    cases this
    refine ⟨_,.new s' hp,.tup aW (.cons ?_ (.cons ((e2.mono s).mono (bx.up (aQ s' hp))) .nil))⟩
    rw [Nat.zero_add]
    exact .int _
def ym:D→Option (List D)
  | .lst xs=>some xs
  | .rol xs=>some xs
  | _=>none
def enum (f:DSt→Out D):DSt→Out (List D):=fun δ=>(f δ).bind fun d=>(Out.opt (ym d)).bind fun ds=>.ok (mX 0 ds)
theorem TY {es':List Expr} {kk:Nat} {tp p:Pos} (hg:Gl X "enumerate") (hm:X.mg "enumerate" = none) (ha:DE X Γ E a fa) (hs:starEach [a] X.env = [(false,eval a X.env)]:=by rfl):DI X Γ E (.Tuple es' kk tp) (.Call (.Name "enumerate" p) [a] [] pos) (enum fa) :=
  PI.imp (pi_enum hg hm (cB ha iG (by rw [hs]; rfl)) hs) fun σ H R ⟨G0,H0,G,δ,S,w⟩=>by
    refine ⟨G0,H0,G,δ,S,(au w).mono (fun d w v G1 H1 s1 r1=>?_) fun _ k=>k⟩
    obtain ⟨ds,e,w⟩:=bJ (au w)
    unfold ym at e
    split at e
    · cases e
      cases r1 with
      | lst h r=>exact ⟨_,rfl,⟨_,SqL.of (s1.gh _ _ h)⟩,w _ G1 H1 s1 (acr (SqL.of h) r)⟩
    · cases e
      cases r1 with
      | rol h r=>exact ⟨_,rfl,⟨_,s1.gh.seq h⟩,w _ G1 H1 s1 (acr h r)⟩
    · cases e
def qZ (tg:D→DSt→Option DSt) (body:DSt→Out Fl):List D→DSt→Out Fl
  | [],δ=>.ok (.nx δ)
  | d :: ds,δ=>(Out.opt (tg d δ)).bind fun δ1=>(body δ1).bind fun fl=>match fl with
    | .nx δ2=>qZ tg body ds δ2
    | .ct δ2=>qZ tg body ds δ2
    | .bk δ2=>.ok (.nx δ2)
    | fl=>.ok fl
def mD (fi:DSt→Out (List D)) (tg:D→DSt→Option DSt) (body:DSt→Out Fl):DSt→Out Fl:=fun δ=>(fi δ).bind fun ds=>qZ tg body ds δ
def un2 (H0 G1:Hp):Hp:=fun b=>match H0 b with
  | some o=>some o
  | none=>G1 b
theorem pM {H0 G1:Hp} {b:Addr}:un2 H0 G1 b = none ↔ H0 b = none∧G1 b = none:=by
  unfold un2
  cases h:H0 b <;> simp
theorem un2_some {H0 G1:Hp} {b:Addr} {o:HO} (h:un2 H0 G1 b = some o):H0 b = some o ∨ G1 b = some o:=by
  unfold un2 at h
  cases h0:H0 b with
  | none=>rw [h0] at h; exact .inr h
  | some u=>rw [h0] at h; exact .inl h
theorem Inner.reH {K:PySem.W.Frag} {H0 H0' G H:Hp} {O:Addr→Option Nat} {i:Nat} (k:∀ b,H0 b = none→G b = none→H0' b = none):∀ {vs:List V} {dss:List (List D)},Inner K Γ H0 G H O i vs dss→Inner K Γ H0' G H O i vs dss
  | _,_,.nil=>.nil
  | _,_,.cons h g h0 o r n t=>.cons h g (k _ h0 g) o r n (Inner.reH k t)
theorem b7.reH {K:PySem.W.Frag} {H0 H0' G H:Hp} {O:Addr→Option Nat} {i:Nat} (k:∀ b,H0 b = none→G b = none→H0' b = none):∀ {vs:List V} {es:List Mx} {bs:List Addr},b7 K Γ H0 G H O i vs es bs→b7 K Γ H0' G H O i vs es bs
  | _,_,_,.nil=>.nil
  | _,_,_,.own h g h0 o r n t=>.own h g (k _ h0 g) o r n (b7.reH k t)
  | _,_,_,.fix r t=>.fix r (b7.reH k t)
theorem dg.reH {K:PySem.W.Frag} {H0 H0' G H:Hp} {O:Addr→Option Nat} {i:Nat} {v:V} {x:Sl} (h:dg K Γ H0 G H O i v x) (k:∀ b,H0 b = none→G b = none→H0' b = none):dg K Γ H0' G H O i v x:=by
  cases x with
  | sh d=>exact h
  | ol ds=>obtain ⟨a,vs,e,h1,h2,h3,h4,h5⟩:=h; exact ⟨a,vs,e,h1,h2,k _ h3 h2,h4,h5⟩
  | oll ds=>obtain ⟨a,vs,e,h1,h2,h3,h4,h5,h6⟩:=h; exact ⟨a,vs,e,h1,h2,k _ h3 h2,h4,h5,h6.reH k⟩
  | od ds=>obtain ⟨a,vs,e,h1,h2,h3,h4,h5⟩:=h; exact ⟨a,vs,e,h1,h2,k _ h3 h2,h4,h5⟩
  | odT ds=>obtain ⟨a,vs,e,h1,h2,h3,h4,h5⟩:=h; exact ⟨a,vs,e,h1,h2,k _ h3 h2,h4,h5⟩
  | omx ds=>obtain ⟨a,vs,bs,e,h1,h2,h3,h4,h5,h6⟩:=h; exact ⟨a,vs,bs,e,h1,h2,k _ h3 h2,h4,h5,h6.reH k⟩
theorem SR.later {K:PySem.W.Frag} {G0 H0 G1 H1 G H:Hp} {σ:L2.St} {δ:DSt} (s1:Step G0 H0 G1 H1) (S:SR K Γ G0 H0 G H σ δ) (s:bx G1 G):SR K Γ G1 (un2 H0 G1) G H σ δ:=by
  refine ⟨⟨s,fun b o e=>?_,S.st.gh,fun b hb g=>?_⟩,S.len,?_⟩
  · rcases un2_some e with e | e
    · exact S.st.hh _ _ e
    · exact S.st.gh _ _ (s _ _ e)
  · have h0:H0 b ≠ none:=fun z=>hb (pM.mpr ⟨z,g⟩)
    exact S.st.sep b h0 (s1.gg.free g)
  · obtain ⟨O,q⟩:=S.sl
    refine ⟨O,fun i x e=>?_⟩
    obtain ⟨v,h1,h2⟩:=q i x e
    exact ⟨v,h1,h2.reH fun b z g=>pM.mpr ⟨z,s.free g⟩⟩
theorem Step.back {G0 H0 G1 H1 G H:Hp} (s1:Step G0 H0 G1 H1) (s:Step G1 (un2 H0 G1) G H):Step G0 H0 G H :=
  ⟨s1.gg.trans s.gg,fun b o e=>s.hh _ _ (by unfold un2; rw [e]),s.gh,fun b hb g=>s.sep b (fun z=>hb (pM.mp z).1) (s1.sep b hb g)⟩
theorem SR.back {K:PySem.W.Frag} {G0 H0 G1 H1 G H:Hp} {σ:L2.St} {δ:DSt} (s1:Step G0 H0 G1 H1) (S:SR K Γ G1 (un2 H0 G1) G H σ δ):SR K Γ G0 H0 G H σ δ:=by
  refine ⟨s1.back S.st,S.len,?_⟩
  obtain ⟨O,q⟩:=S.sl
  refine ⟨O,fun i x e=>?_⟩
  obtain ⟨v,h1,h2⟩:=q i x e
  exact ⟨v,h1,h2.reH fun b z _=>(pM.mp z).1⟩
theorem qT {tg iter:Expr} {body:List Stmt} {fi:DSt→Out (List D)} {t:D→DSt→Option DSt} (hh:∀ {wi:TI} {g:TG} {tb:TS},PI X tg iter wi→PG X tg g→PSs X body tb→PS X (.For tg iter body [] pos) (tFor wi g tb)) (hi:DI X Γ E tg iter fi) (hg:DG X Γ tg t) (hb:DSs X Γ E body g) :
    DS X Γ E (.For tg iter body [] pos) (mD fi t g):=PS.imp (hh hi hg hb) fun N σ H ⟨G0,H0,G,δ,S,w⟩=>by
  refine ⟨G0,H0,G,δ,S,(au w).mono (fun ds w J G1 H1 s1 Y=>?_) fun x k=>exD.step k S.st⟩
  have sb:Step G0 H0 G1 H1:=S.st.trans s1
  refine ⟨fun i m σ H=>∃ G δ,SR X.K Γ G0 H0 G H σ δ∧bx G1 G∧m = ds.length - i∧i ≤ ds.length∧wpO (qZ t g (ds.drop i) δ) (FlOk X.K Γ G0 H0 N) (exD X.K Γ E G0 H0),⟨_,G1,δ,S.step s1,bx.refl _,rfl,Nat.zero_le _,w⟩,?_⟩
  rintro i m σ H ⟨G2,δ2,S2,s2,rfl,hi,w⟩
  by_cases lt:i < ds.length
  · refine .inr ⟨Y.go i H (s2.trans S2.st.gh) lt,fun σ' H'=>∃ G δ,SR X.K Γ G0 H0 G H' σ' δ∧bx G1 G∧wpO (qZ t g (ds.drop (i + 1)) δ) (FlOk X.K Γ G0 H0 N) (exD X.K Γ E G0 H0),fun σ' H' ⟨G',δ',a1,a2,a3⟩=>⟨ds.length - (i + 1),by omega,G',δ',a1,a2,rfl,lt,a3⟩,fun x H' y=>?_⟩
    obtain ⟨G3,s3,r3⟩:=Y.yld i G2 H x H' ds[i] s2 S2.st.gh y (by simp [lt])
    rw [List.drop_eq_getElem_cons lt] at w
    obtain ⟨δ3,e3,w⟩:=bJ (au w)
    have S3:=(S2.step s3).later sb (s2.trans s3.gg)
    refine ⟨G1,un2 H0 G1,G3,δ2,ds[i],δ3,S3,r3,e3,fun σ4 S4=>?_⟩
    refine ⟨G1,un2 H0 G1,G3,δ3,S4,(au w).mono (fun fl w=>?_) fun x k a G' H' s' r'=>k a G' H' (sb.back s') r'⟩
    cases fl with
    | nx δ'=>exact fun σ' G' H' S'=>⟨G',δ',S'.back sb,S'.st.gg,w⟩
    | ct δ'=>exact fun σ' G' H' S'=>⟨G',δ',S'.back sb,S'.st.gg,w⟩
    | bk δ'=>exact fun σ' G' H' S'=>w σ' G' H' (S'.back sb)
    | rt d=>exact fun v G' H' s' r'=>w v G' H' (sb.back s') r'
    | rl d=>exact fun a vs G' H' s' f h g r=>w a vs G' H' (sb.back s') (pM.mp f).1 h g r
    | rll d=>exact fun a vs G' H' s' f h g n r=>w a vs G' H' (sb.back s') (pM.mp f).1 h g n (r.reF fun b z=>(pM.mp z).1)
  · obtain rfl:i = ds.length:=by omega
    rw [List.drop_length] at w
    exact .inl ⟨Y.stop _ H (s2.trans S2.st.gh) (Nat.le_refl _),w σ G2 H S2⟩
def capD (cap:List (Option Nat)) (δ:DSt):DSt:=cap.map fun o=>match o with
  | none=>none
  | some j=>match δ[j]? with
    | some (some (.sh d))=>some (.sh d)
    | _=>none
def Eh {α:Type} (tg:D→DSt→Option DSt) (t:DSt→Out Bool) (fe:DSt→Out α):List D→DSt→Out (List α)
  | [],_=>.ok []
  | d :: ds,δ=>(Out.opt (tg d δ)).bind fun δ1=>(t δ1).bA.bind fun k=>if k = true then (fe δ1).bA.bind fun y=>(Eh tg t fe ds δ1).bind fun ys=>.ok (y :: ys) else Eh tg t fe ds δ1
def iC {α:Type} (cap:List (Option Nat)) (fi:DSt→Out (List D)) (tg:D→DSt→Option DSt) (t:DSt→Out Bool) (fe:DSt→Out α):DSt→Out (List α):=fun δ=>(fi δ).bind fun ds=>if ds.length < sizeLine then Eh tg t fe ds (capD cap δ) else .stuck
abbrev DTs (X:Cx) (Γ:Nat→Option Addr) (E:XK) (ifs:List Expr) (f:DSt→Out Bool):Prop:=PIfs X ifs (ttD X.K Γ E f)
theorem pX:DTs X Γ E [] (fun _=>.ok true):=fun pins s σ H Q I ⟨G0,H0,G,δ,S,w⟩=>pf_nil pins s σ H Q I (w G H (.refl S.st.gh))
theorem T8 (h:DT X Γ E c ft):DTs X Γ E [c] ft:=pf_one h
theorem SR.cap {K:PySem.W.Frag} {G0 H0 G H:Hp} {σ:L2.St} {δ:DSt} (S:SR K Γ G0 H0 G H σ δ) (cap:List (Option Nat)):SR K Γ G H G H (capS cap σ) (capD cap δ):=by
  refine ⟨.refl S.st.gh,by simp [capS,capD],fun _=>none,fun i x e=>?_⟩
  obtain ⟨O,q⟩:=S.sl
  unfold capD at e
  rw [List.getElem?_map] at e
  obtain ⟨o,e1,e2⟩:=Option.map_eq_some_iff.mp e
  cases o with
  | none=>cases e2
  | some j =>
    dsimp only at e2
    split at e2
    · rename_i d ej
      cases e2
      obtain ⟨v,h1,h2⟩:=q j _ ej
      exact ⟨v,by unfold capS; rw [List.getElem?_map,e1]; simp [h1],h2⟩
    · cases e2
def Xu (δ:DSt):Prop:=∀ (i:Nat) x,δ[i]? = some (some x)→∃ d,x = .sh d
def ShT (t:D→DSt→Option DSt):Prop:=∀ d δ δ',t d δ = some δ'→Xu δ→Xu δ'
theorem sh_cap (cap:List (Option Nat)) (δ:DSt):Xu (capD cap δ):=fun i x e=>by
  unfold capD at e
  rw [List.getElem?_map] at e
  obtain ⟨o,e1,e2⟩:=Option.map_eq_some_iff.mp e
  cases o with
  | none=>cases e2
  | some j =>
    dsimp only at e2
    split at e2
    · cases e2; exact ⟨_,rfl⟩
    · cases e2
theorem Li (i:Nat):ShT (gN i):=fun d δ δ' e h j x ej=>by
  cases e
  rw [List.getElem?_set] at ej
  split at ej
  · split at ej
    · cases ej; exact ⟨_,rfl⟩
    · cases ej
  · exact h j x ej
theorem SR.beside {K:PySem.W.Frag} {G0 H0 G H:Hp} {σ:L2.St} {δ:DSt} (S:SR K Γ G0 H0 G H σ δ) (sh:Xu δ) {a:Addr} {o:HO} (g:G a = none) (h0:H0 a = none):SR K Γ G0 H0 G (upd H a o) σ δ:=by
  have sx:=S.st
  refine ⟨⟨sx.gg,fun b u e=>by rw [aV (aY e h0)]; exact sx.hh _ _ e,fun b u e=>by rw [aV (aY e g)]; exact sx.gh _ _ e,sx.sep⟩,S.len,?_⟩
  obtain ⟨O,q⟩:=S.sl
  refine ⟨O,fun i x e=>?_⟩
  obtain ⟨d,rfl⟩:=sh i x e
  exact q i _ e
theorem En {cap:List (Option Nat)} {fi:DSt→Out (List D)} {t:D→DSt→Option DSt} {ft:DSt→Out Bool} {fe:DSt→Out D} (sh:ShT t) (σ:L2.St) (H:Hp) (Q:VK):tfD X.K Γ E (iC cap fi t ft fe) σ H Q→QX cap (tiD X.K Γ E fi) (tgD X.K Γ t) (ttD X.K Γ E0 ft) (teD X.K Γ E0 fe) σ H Q:=fun ⟨G0,H0,G,δ,S,w⟩=>by
  refine ⟨G0,H0,G,δ,S,(au w).mono (fun ds w J G1 H1 s1 Y=>?_) fun x k=>k⟩
  by_cases hz:ds.length < sizeLine
  · rw [if_pos hz] at w
    intro acc hacc
    have Sc:=(S.step s1).cap cap
    refine ⟨fun i m ys τ H=>∃ G δ done,Step G1 H1 G H∧SR X.K Γ G1 H1 G H τ δ∧Xu δ∧H acc = some (.lst ys)∧G acc = none∧aC X.K Γ G ys done∧m = ds.length - i∧i ≤ ds.length∧ys.length ≤ i ∧
      wpO (Eh t ft fe (ds.drop i) δ) (fun rest=>∀ G' H' vs,Step G1 H1 G' H'→H' acc = some (.lst vs)→G' acc = none→aC X.K Γ G' vs (done ++ rest)→Q (.ref acc) H') (fun _=>True),?_,?_⟩
    · have g1:G1 acc = none:=aQ s1.gh hacc
      have st:=Step.aside s1.gh (o:=.lst []) hacc
      refine ⟨_,G1,_,[],st,Sc.step st,sh_cap _ _,aW,g1,.nil,rfl,Nat.zero_le _,Nat.le_refl _,w.mono (fun rest k G' H' vs s' h' g' r'=>k acc vs G' H' (s1.trans s') (aQ s1.hh hacc) h' g' r') fun _ _=>trivial⟩
    · rintro i m ys τ H ⟨G2,δ2,done,st,S2,sh2,h2,g2,r2,rfl,hi,hl,w⟩
      refine ⟨h2,Nat.lt_of_le_of_lt (Nat.le_trans hl hi) hz,?_⟩
      by_cases lt:i < ds.length
      · refine .inr ⟨Y.go i H (st.gg.trans st.gh) lt,fun x H' y=>?_⟩
        obtain ⟨G3,s3,r3⟩:=Y.yld i G2 H x H' ds[i] st.gg st.gh y (by simp [lt])
        rw [List.drop_eq_getElem_cons lt] at w
        obtain ⟨δ3,e3,w⟩:=bJ (au w)
        refine ⟨G1,H1,G3,δ2,ds[i],δ3,S2.step s3,r3,e3,fun σ4 S4=>?_⟩
        have w:=fK (R':=exD X.K Γ E0 G3 H') (au w)
        refine ⟨G1,H1,G3,δ3,S4,w.mono (fun k w G5 H5 s5=>?_) fun _ k=>k⟩
        have s25:=s3.trans s5
        have sh3:=sh _ _ _ e3 sh2
        cases k with
        | false =>
          rw [if_neg Bool.false_ne_true] at w
          dsimp only
          rw [if_neg Bool.false_ne_true]
          exact ⟨_,Nat.sub_lt_sub_left lt (Nat.lt_succ_self i),G5,δ3,done,st.trans s25,S4.step s5,sh3,s25.hh _ _ h2,s25.sep acc (by rw [h2]; exact fun z=>nomatch z) g2,r2.mono s25.gg,rfl,lt,Nat.le_succ_of_le hl,w⟩
        | true =>
          rw [if_pos rfl] at w
          dsimp only
          rw [if_pos rfl]
          have w:=fK (R':=exD X.K Γ E0 G5 H5) (au w)
          refine ⟨G1,H1,G5,δ3,S4.step s5,w.mono (fun y w v G6 H6 s6 r6=>?_) fun _ k=>k⟩
          have s26:=s25.trans s6
          have h6:=s26.hh _ _ h2
          have g6:G6 acc = none:=s26.sep acc (by rw [h2]; exact fun z=>nomatch z) g2
          have n1:H1 acc = none:=hacc
          refine ⟨h6,_,Nat.sub_lt_sub_left lt (Nat.lt_succ_self i),G6,δ3,done ++ [y],?_,?_,sh3,aW,g6,(r2.mono s26.gg).append (.cons r6 .nil),rfl,lt,by rw [List.length_append]; exact Nat.succ_le_succ hl,?_⟩
          · have sx:=st.trans s26
            exact ⟨sx.gg,fun b u e=>by rw [aV (aY e n1)]; exact sx.hh _ _ e,fun b u e=>by rw [aV (aY e g6)]; exact sx.gh _ _ e,sx.sep⟩
          · exact ((S4.step s5).step s6).beside sh3 g6 n1
          · refine (au w).mono (fun rest k G' H' vs s' h' g' r'=>k G' H' vs s' h' g' (by simpa using r')) fun _ k=>k
      · obtain rfl:i = ds.length:=by omega
        rw [List.drop_length] at w
        exact .inl ⟨Y.stop _ H (st.gg.trans st.gh) (Nat.le_refl _),w G2 H ys st h2 g2 (by simpa using r2)⟩
  · rw [if_neg hz] at w
    exact False.elim w
theorem mY {tg iter elt:Expr} {ifs:List Expr} {sc:Scope} {cl:List (Str × Addr)} {N':List Str} {cap:List (Option Nat)} {fi:DSt→Out (List D)} {t:D→DSt→Option DSt} {ft:DSt→Out Bool} {fe:DSt→Out D}
    (hh:∀ {wi:TI} {g:TG} {tt:TT} {te:TE},PI X tg iter wi→(∀ s₀ H₀ C fp pn,PG (bO X N' sc cl s₀ H₀ C fp pn) tg g)→(∀ s₀ H₀ C fp pn,PIfs (bO X N' sc cl s₀ H₀ C fp pn) ifs tt)→(∀ s₀ H₀ C fp pn,PE (bO X N' sc cl s₀ H₀ C fp pn) elt te)→PE X (.ListComp elt [⟨tg,iter,ifs,0⟩] sc pos) (QX cap wi g tt te))
    (hi:DI X Γ E tg iter fi) (sh:ShT t) (hg:∀ s₀ H₀ C fp pn,PG (bO X N' sc cl s₀ H₀ C fp pn) tg (tgD X.K Γ t)) (ht:∀ s₀ H₀ C fp pn,PIfs (bO X N' sc cl s₀ H₀ C fp pn) ifs (ttD X.K Γ E0 ft)) (he:∀ s₀ H₀ C fp pn,PE (bO X N' sc cl s₀ H₀ C fp pn) elt (teD X.K Γ E0 fe)) :
    DF X Γ E (.ListComp elt [⟨tg,iter,ifs,0⟩] sc pos) (iC cap fi t ft fe):=PE.imp (hh hi hg ht he) (En sh)
theorem bK.snoc {K:PySem.W.Frag} {H G' H':Hp} {b:Addr} {ws:List V} {ds:List D} (f:H b = none) (h:H' b = some (.lst ws)) (g:G' b = none) (r:aC K Γ G' ws ds):∀ {vs:List V} {dss:List (List D)},V.ref b ∉ vs→bK K Γ H G' H' vs dss→bK K Γ H G' H' (vs ++ [.ref b]) (dss ++ [ds])
  | _,_,_,.nil=>.cons f h g r (by simp) .nil
  | _,_,m,.cons f' h' g' r' n' t=>.cons f' h' g' r' (fun z=>by
      rcases List.mem_append.mp z with z | z
      · exact n' z
      · exact m (by rw [List.mem_singleton.mp z]; exact List.mem_cons_self)) (bK.snoc f h g r (fun z=>m (List.mem_cons_of_mem _ z)) t)
theorem bK.step {K:PySem.W.Frag} {H G H1 G2 H2:Hp} (s:Step G H1 G2 H2):∀ {vs:List V} {dss:List (List D)},bK K Γ H G H1 vs dss→bK K Γ H G2 H2 vs dss
  | _,_,.nil=>.nil
  | _,_,.cons f h g r n t=>.cons f (s.hh _ _ h) (s.sep _ (by rw [h]; exact fun q=>nomatch q) g) (r.mono s.gg) n (bK.step s t)
theorem bK.updI {K:PySem.W.Frag} {H G' H':Hp} {a:Addr} {o:HO}:∀ {vs:List V} {dss:List (List D)},V.ref a ∉ vs→bK K Γ H G' H' vs dss→bK K Γ H G' (upd H' a o) vs dss
  | _,_,_,.nil=>.nil
  | _,_,m,.cons f h g r n t=>.cons f ((aV fun z=>m (by rw [z]; exact List.mem_cons_self)).trans h) g r n (bK.updI (fun z=>m (List.mem_cons_of_mem _ z)) t)
theorem bK.length {K:PySem.W.Frag} {H G' H':Hp}:∀ {vs:List V} {dss:List (List D)},bK K Γ H G' H' vs dss→vs.length = dss.length
  | _,_,.nil=>rfl
  | _,_,.cons f h g r n t=>by rw [List.length_cons,List.length_cons,t.length]
section
variable {tg iter elt:Expr} {ifs:List Expr} {sc:Scope} {cl:List (Str × Addr)} {N':List Str} {cap:List (Option Nat)} {fi:DSt→Out (List D)} {t:D→DSt→Option DSt} {ft:DSt→Out Bool} {x:Str} {pos' spos:Pos}
theorem ab6 (i:Nat) {fe:DSt→Out D}
    (hh:∀ {wi:TI} {g:TG} {tt:TT} {te:TE},PI X tg iter wi→(∀ s₀ H₀ C fp pn,PG (bO X N' sc cl s₀ H₀ C fp pn) tg g)→(∀ s₀ H₀ C fp pn,PIfs (bO X N' sc cl s₀ H₀ C fp pn) ifs tt)→(∀ s₀ H₀ C fp pn,PE (bO X N' sc cl s₀ H₀ C fp pn) elt te)→PS X (.Assign [.Name x pos'] (.ListComp elt [⟨tg,iter,ifs,0⟩] sc pos) spos) (tAsg (QX cap wi g tt te) (Et i)))
    (hi:DI X Γ E tg iter fi) (sh:ShT t) (hg:∀ s₀ H₀ C fp pn,PG (bO X N' sc cl s₀ H₀ C fp pn) tg (tgD X.K Γ t)) (ht:∀ s₀ H₀ C fp pn,PIfs (bO X N' sc cl s₀ H₀ C fp pn) ifs (ttD X.K Γ E0 ft)) (he:∀ s₀ H₀ C fp pn,PE (bO X N' sc cl s₀ H₀ C fp pn) elt (teD X.K Γ E0 fe)) :
    DS X Γ E (.Assign [.Name x pos'] (.ListComp elt [⟨tg,iter,ifs,0⟩] sc pos) spos) (cM i (nH (iC cap fi t ft fe))):=PS.imp (hh hi hg ht he) fun N σ H ⟨G0,H0,G,δ,S,w⟩=>En sh _ _ _
  ⟨G0,H0,G,δ,S,(au (au w)).mono (fun ds w a vs G1 H1 s1 f h g r=>by
    have hp:∀ b,decide (b = a) = true→G1 b = none∧H b = none:=fun b z=>by obtain rfl:=of_decide_eq_true z; exact ⟨g,f⟩
    have s2:=s1.frz (fun b=>decide (b = a)) hp
    exact w _ _ H1 ((S.step s2).set (.lst (by unfold fY; rw [if_pos (by simp)]; exact h) (r.mono (dZ fun b z=>(hp b z).1))))) fun x k=>exD.step k S.st⟩
end
end
end DL
namespace DL
open PySem PySem.Spec PyProof.Rows MX L2
def lC (n:Nat) (ds:List D):DSt:=ds.map (fun d=>some (.sh d)) ++ List.replicate (n - ds.length) none
def kW:Fl→Out D
  | .nx _=>.ok .non
  | .rt d=>.ok d
  | .rl ds=>.ok (.lst ds)
  | .rll dss=>.ok (.lst (dss.map .lst))
  | _=>.stuck
def endF:Fl→Out (List D)
  | .rl ds=>.ok ds
  | _=>.stuck
def endFF:Fl→Out (List (List D))
  | .rll ds=>.ok ds
  | _=>.stuck
def cX (n:Nat) (g:DSt→Out Fl) (ds:List D):Out D:=(g (lC n ds)).bind kW
def runL (n:Nat) (g:DSt→Out Fl) (ds:List D):Out (List D):=(g (lC n ds)).bind endF
def runLL (n:Nat) (g:DSt→Out Fl) (ds:List D):Out (List (List D)):=(g (lC n ds)).bind endFF
def spF (K:PySem.W.Frag) (Γ:Nat→Option Addr) (n:Nat) (F:List D→Out (List D)):Sp:=fun vs H Q E=>vs.length = n∧∃ G ds,bx G H∧aC K Γ G vs ds∧wpO (F ds) (okF K Γ G H Q) (exD K Γ E G H)
def spFF (K:PySem.W.Frag) (Γ:Nat→Option Addr) (n:Nat) (F:List D→Out (List (List D))):Sp:=fun vs H Q E=>vs.length = n∧∃ G ds,bx G H∧aC K Γ G vs ds∧wpO (F ds) (okFF K Γ G H Q) (exD K Γ E G H)
def spD (K:PySem.W.Frag) (Γ:Nat→Option Addr) (n:Nat) (F:List D→Out D):Sp:=fun vs H Q E=>vs.length = n∧∃ G ds,bx G H∧aC K Γ G vs ds∧wpO (F ds) (okD K Γ G H Q) (exD K Γ E G H)
theorem SR.Xj {K:PySem.W.Frag} {Γ:Nat→Option Addr} {G H:Hp} {vs:List V} {ds:List D} {N:List Str} (s:bx G H) (r:aC K Γ G vs ds):SR K Γ G H G H (L2.start N vs) (lC N.length ds):=by
  refine ⟨.refl s,by simp [lC,L2.start,r.length],fun _=>none,fun i x e=>?_⟩
  unfold lC at e
  by_cases h:i < ds.length
  · rw [List.getElem?_append_left (by simpa using h),List.getElem?_map] at e
    obtain ⟨d,e1,e2⟩:=Option.map_eq_some_iff.mp e
    cases e2
    obtain ⟨v,h1,h2⟩:=r.get e1
    refine ⟨v,?_,h2⟩
    unfold L2.start
    rw [List.getElem?_append_left (by rw [List.length_map,r.length]; exact h),List.getElem?_map,h1]
    rfl
  · rw [List.getElem?_append_right (by simpa using h),List.getElem?_replicate] at e
    split at e <;> cases e
theorem frz_rl {K:PySem.W.Frag} {Γ:Nat→Option Addr} {G H:Hp} {Q:VK} {ds:List D} (q:okD K Γ G H Q (.lst ds)):okF K Γ G H Q ds:=fun a vs G1 H1 s1 f h g r=>by
  have hp:∀ b,decide (b = a) = true→G1 b = none∧H b = none:=fun b z=>by obtain rfl:=of_decide_eq_true z; exact ⟨g,f⟩
  exact q _ _ H1 (s1.frz (fun b=>decide (b = a)) hp) (.lst (by unfold fY; rw [if_pos (by simp)]; exact h) (r.mono (dZ fun b z=>(hp b z).1)))
theorem frz_rll {K:PySem.W.Frag} {Γ:Nat→Option Addr} {G H:Hp} {Q:VK} {dss:List (List D)} (q:okD K Γ G H Q (.lst (dss.map .lst))):okFF K Γ G H Q dss:=fun a vs G1 H1 s1 f h g n r=>by
  have hp:∀ b,decide (b = a ∨ V.ref b ∈ vs) = true→G1 b = none∧H b = none:=fun b z=>by
    rcases of_decide_eq_true z with z | z
    · subst z; exact ⟨g,f⟩
    · exact ⟨r.gnone b z,(r.mem b z).1⟩
  exact q _ _ H1 (s1.frz (fun b=>decide (b = a ∨ V.ref b ∈ vs)) hp) (.lst (by unfold fY; rw [if_pos (by simp)]; exact h) (bK.frozen (G0:=G) (dZ fun b z=>(hp b z).1) (fun b hb=>by simp [hb]) r))
section
variable {P:Program} {w:World} {K:PySem.W.Frag} {mg:Str→Option Value} {base:Heap} {Γ:Nat→Option Addr}
theorem Fun.okD {x qual:Str} {st:Stmt} {f:Addr} {fd:FuncData} {N ps:List Str} {k:Nat} {g:DSt→Out Fl} (F:L2.Fun K x qual st f fd) (S:aO N ps (ak st))
    (h:∀ (cdv:Value) (A:Around) (outer:List Env) (s:Shared) (H:Hp) (E:XK),gJ k (A.deeper (envOfC qual (ak st) s.heap.objs.size f cdv))→DSs (cxOf CX0 P w K mg base N qual (ak st) f cdv A outer s H E).nox Γ E0 (aH st) g) :
    bC P w K mg base CX0 (k + 1) f fd ps (spD K Γ ps.length fun ds=>(cX N.length g ds).bA) :=
  L2.Fun.ok F S (fun vs H Q E h=>h.1) fun cdv A outer s H vs Q E hr ⟨hl,G,ds,sg,r,q⟩=>by
    refine ⟨_,h cdv A outer s H E hr,G,H,G,lC N.length ds,SR.Xj sg r,(au (fK (R':=exD K Γ E0 G H) q)).mono (fun fl q=>?_) fun _ k=>k⟩
    cases fl with
    | nx δ=>exact fun σ G' H' S'=>q _ G' H' S'.st .non
    | rt d=>exact fun v G' H' s' r'=>q v G' H' s' r'
    | bk δ=>exact False.elim q
    | ct δ=>exact False.elim q
    | rl ds=>exact frz_rl q
    | rll dss=>exact frz_rll q
theorem Fun.okF {x qual:Str} {st:Stmt} {f:Addr} {fd:FuncData} {N ps:List Str} {k:Nat} {g:DSt→Out Fl} (F:L2.Fun K x qual st f fd) (S:aO N ps (ak st))
    (h:∀ (cdv:Value) (A:Around) (outer:List Env) (s:Shared) (H:Hp) (E:XK),gJ k (A.deeper (envOfC qual (ak st) s.heap.objs.size f cdv))→DSs (cxOf CX0 P w K mg base N qual (ak st) f cdv A outer s H E).nox Γ E0 (aH st) g) :
    bC P w K mg base CX0 (k + 1) f fd ps (spF K Γ ps.length fun ds=>(runL N.length g ds).bA) :=
  L2.Fun.ok F S (fun vs H Q E h=>h.1) fun cdv A outer s H vs Q E hr ⟨hl,G,ds,sg,r,q⟩=>by
    refine ⟨_,h cdv A outer s H E hr,G,H,G,lC N.length ds,SR.Xj sg r,(au (fK (R':=exD K Γ E0 G H) q)).mono (fun fl q=>?_) fun _ k=>k⟩
    cases fl with
    | rl ds=>exact fun a vs G' H' s f h g r=>q a vs G' H' s f h g r
    | _=>exact False.elim q
theorem Fun.okFF {x qual:Str} {st:Stmt} {f:Addr} {fd:FuncData} {N ps:List Str} {k:Nat} {g:DSt→Out Fl} (F:L2.Fun K x qual st f fd) (S:aO N ps (ak st))
    (h:∀ (cdv:Value) (A:Around) (outer:List Env) (s:Shared) (H:Hp) (E:XK),gJ k (A.deeper (envOfC qual (ak st) s.heap.objs.size f cdv))→DSs (cxOf CX0 P w K mg base N qual (ak st) f cdv A outer s H E).nox Γ E0 (aH st) g) :
    bC P w K mg base CX0 (k + 1) f fd ps (spFF K Γ ps.length fun ds=>(runLL N.length g ds).bA) :=
  L2.Fun.ok F S (fun vs H Q E h=>h.1) fun cdv A outer s H vs Q E hr ⟨hl,G,ds,sg,r,q⟩=>by
    refine ⟨_,h cdv A outer s H E hr,G,H,G,lC N.length ds,SR.Xj sg r,(au (fK (R':=exD K Γ E0 G H) q)).mono (fun fl q=>?_) fun _ k=>k⟩
    cases fl with
    | rll ds=>exact fun a vs G' H' s f h g n r=>q a vs G' H' s f h g n r
    | _=>exact False.elim q
end
section
variable {X:Cx} {Γ:Nat→Option Addr} {E:XK} {e a b c o:Expr} {pos apos:Pos} {es:List Expr} {fa fb fo:DSt→Out D} {fr:DSt→Out (List D)} {CX:CXT}
def oF (n:Nat) (F:List D→Out D) (fr:DSt→Out (List D)):DSt→Out D:=fun δ=>(fr δ).bind fun ds=>if ds.length = n then F ds else .stuck
theorem cH {n:Nat} {F:List D→Out D} (h:PE X e (Z8 (spD X.K Γ n F) [] E (taD X.K Γ E fr))):DE X Γ E e (oF n F fr):=PE.imp h fun σ H Q ⟨G0,H0,G,δ,S,w⟩=>by
  refine ⟨G0,H0,G,δ,S,(au w).mono (fun ds w vs G1 H1 s1 r1=>?_) fun _ k=>k⟩
  split at w
  · rename_i h
    rw [List.append_nil]
    exact ⟨by rw [r1.length]; exact h,G1,ds,s1.gh,r1,w.mono (fun d k=>k.step s1) fun x k=>k.step s1⟩
  · exact False.elim w
def HQ {α:Type} (X:Cx) (Γ:Nat→Option Addr) (CX:CXT) (m:Str) (sp:(List D→Out α)→Sp):List (Nat × (List D→Out α))→Prop
  | []=>True
  | (c,F) :: r=>(∃ C f fd ps k,Γ c = some C∧Cls X.K C∧Meth X.K C m f∧bC X.prog X.w X.K X.mg X.base CX k f fd ps (sp F)∧gJ k X.A∧Binds X.K fd ps [])∧HQ X Γ CX m sp r
theorem HQ.get {α:Type} {m:Str} {sp:(List D→Out α)→Sp}:∀ {M:List (Nat × (List D→Out α))} {c:Nat} {F:List D→Out α},HQ X Γ CX m sp M→M.lookup c = some F →
    ∃ C f fd ps k,Γ c = some C∧Cls X.K C∧Meth X.K C m f∧bC X.prog X.w X.K X.mg X.base CX k f fd ps (sp F)∧gJ k X.A∧Binds X.K fd ps []
  | [],_,_,_,e=>by cases e
  | (c',F') :: r,c,F,h,e=>by
    by_cases q:c = c'
    · subst q
      simp only [List.lookup_cons,beq_self_eq_true] at e
      cases e
      exact h.1
    · have q':(c == c') = false:=beq_eq_false_iff_ne.mpr q
      simp only [List.lookup_cons,q'] at e
      exact h.2.get e
def tMethD {α:Type} (Γ:Nat→Option Addr) (m:Str) (sp:(List D→Out α)→Sp) (M:List (Nat × (List D→Out α))) (E:XK) (ta:TE) (t:TA):TE:=fun σ H Q=>ta σ H fun x H1=>∃ c a C dx fs F,x = .ref a∧H1 a = some (.ins C dx fs)∧Γ c = some C∧M.lookup c = some F∧fs.lookup m = none ∧
  t σ H1 fun vs H2=>sp F (x :: vs) H2 Q E
theorem yh {α:Type} {m:Str} {sp:(List D→Out α)→Sp} {M:List (Nat × (List D→Out α))} {ta:TE} {pl:Sem Bool} (hM:HQ X Γ CX m sp M) (hx:qz CX X E) (he:PE X o ta)
    (ht:eval (.Call (.Attribute o m apos) [] [] pos) X.env = (do
      let ov ← eval o X.env
      standAt apos.atName
      let (f,first) ← holding [ov] (getMethod ov m pl)
      callWith pos f first (backTo pos (starEach [] X.env)) (backToKw pos (keywordEach [] X.env))):=by rfl) :
    PE X (.Call (.Attribute o m apos) [] [] pos) (tMethD Γ m sp M E ta Dq):=by
  intro pins s σ H Q I h
  refine PySem.W.methodCall_KW (pl:=pl) (thn (he pins s σ H _ I h) fun u s1 ⟨x,H1,I1,rx,c,a,C,dx,fs,F,ex,ea,hc,hF,l,q⟩=>?_) ht
  subst ex
  obtain rfl:u = Value.ref a:=rx
  obtain ⟨C',f,fd,ps,k,hc',cl,hm,G,hr,hb⟩:=hM.get hF
  rw [hc] at hc'
  cases hc'
  refine JH I1 ea cl hm l ?_
  exact PySem.W.callWith_K0 (first:=[.ref a]) I1.kIn hm.kp (Wy (dvs:=[]) (us:=[.ref a]) (vs:=[.ref a]) G hr hb .nil hx I1 (.cons rfl .nil) (by rw [List.append_nil]; exact q))
def oM (m:Str) (n:Nat) (M:List (Nat × (List D→Out D))) (fo:DSt→Out D) (fr:DSt→Out (List D)):DSt→Out D:=fun δ=>(fo δ).bind fun o=>match o with
  | .obj c fs=>match M.lookup c with
    | some F=>if (fs.lookup m).isNone = true then (fr δ).bind fun ds=>if ds.length + 1 = n then F (o :: ds) else .stuck else .stuck
    | none=>.stuck
  | _=>.stuck
theorem Be {m:Str} {n:Nat} {M:List (Nat × (List D→Out D))} (h:PE X e (tMethD Γ m (spD X.K Γ n) M E (teD X.K Γ E fo) Dq)):DE X Γ E e (oM m n M fo aN):=PE.imp h fun σ H Q ⟨G0,H0,G,δ,S,w⟩=>by
  refine ⟨G0,H0,G,δ,S,(au w).mono (fun d w v G1 H1 s1 r1=>?_) fun _ k=>k⟩
  split at w
  · rename_i c fs
    split at w
    · rename_i F hF
      split at w
      · rename_i hn
        have r1':=r1
        cases r1 with
        | obj ha hc rf =>
          refine ⟨c,_,_,_,_,F,rfl,s1.gh _ _ ha,hc,hF,rf.none (Option.isNone_iff_eq_none.mp hn),?_⟩
          have w:wpO (if 0 + 1 = n then F [.obj c fs] else .stuck) (okD X.K Γ G H Q) (exD X.K Γ E G H):=w
          split at w
          · rename_i hl
            exact ⟨hl,G1,_,s1.gh,.cons r1' .nil,w.mono (fun d k=>k.step s1) fun x k=>k.step s1⟩
          · exact False.elim w
      · exact False.elim w
    · exact False.elim w
  · exact False.elim w
def FldOk (K:PySem.W.Frag) (Γ:Nat→Option Addr) (f:Str):List Nat→Prop
  | []=>True
  | c :: r=>(∃ C,Γ c = some C∧Cls K C∧dY K C f)∧FldOk K Γ f r
theorem FldOk.get {K:PySem.W.Frag} {f:Str}:∀ {cs:List Nat} {c:Nat},FldOk K Γ f cs→cs.contains c = true→∃ C,Γ c = some C∧Cls K C∧dY K C f
  | [],_,_,e=>by cases e
  | d :: r,c,h,e=>by
    by_cases q:c = d
    · subst q; exact h.1
    · exact h.2.get (by simpa [q] using e)
def yo (f:Str) (cs:List Nat) (fo:DSt→Out D):DSt→Out D:=fun δ=>(fo δ).bind fun o=>match o with
  | .obj c fs=>if cs.contains c = true then .opt (fs.lookup f) else .stuck
  | _=>.stuck
theorem Jt {f:Str} {cs:List Nat} (hf:FldOk X.K Γ f cs) (he:DE X Γ E o fo) (hb:attributeBase o f X.env (eval o X.env) = eval o X.env:=by rfl):DE X Γ E (.Attribute o f pos) (yo f cs fo):=PE.imp (pe_fld he hb) fun σ H Q ⟨G0,H0,G,δ,S,w⟩=>by
  refine ⟨G0,H0,G,δ,S,(au w).mono (fun d w v G1 H1 s1 r1=>?_) fun _ k=>k⟩
  split at w
  · rename_i c fs
    split at w
    · rename_i hc
      obtain ⟨d,e,k⟩:=bJ w
      cases r1 with
      | obj ha hC rf =>
        obtain ⟨C',hC',cl,na⟩:=hf.get hc
        rw [hC] at hC'
        cases hC'
        obtain ⟨v,h1,h2⟩:=rf.look e
        exact ⟨_,_,_,_,v,rfl,s1.gh _ _ ha,cl,na,h1,k _ G1 H1 s1 h2⟩
    · exact False.elim w
  · exact False.elim w
def spI (K:PySem.W.Frag) (Γ:Nat→Option Addr) (c n:Nat) (F:List D→Out (List (Str × D))):Sp:=fun vs H Q E=>vs.length = n + 1∧∃ a dx C us G ds,vs = .ref a :: us∧H a = some (.ins C dx [])∧Γ c = some C∧G a = none∧bx G H∧aC K Γ G us ds ∧
  wpO (F ds) (fun fds=>∀ fs G' H',bx G G'→(∀ b o,H b = some o→b ≠ a→H' b = some o)→bx G' H'→(∀ b,H b ≠ none→G b = none→G' b = none)→H' a = some (.ins C dx fs)→jM K Γ G' fs fds→Q .non H')
    (fun x=>∀ a' G' H',bx G G'→(∀ b o,H b = some o→b ≠ a→H' b = some o)→bx G' H'→(∀ b,H b ≠ none→G b = none→G' b = none)→Rep K Γ G' (.ref a') x→E (.ref a') none H')
def oMk (c n:Nat) (F:List D→Out (List (Str × D))) (fr:DSt→Out (List D)):DSt→Out D:=fun δ=>(fr δ).bind fun ds=>if ds.length = n then (F ds).bind fun fds=>.ok (.obj c fds) else .stuck
theorem acg {c n:Nat} {C:Addr} {F:List D→Out (List (Str × D))} {G H G1 H1:Hp} {Q:VK} {vs:List V} {ds:List D} (hC:Γ c = some C) (s1:Step G H G1 H1) (r1:aC X.K Γ G1 vs ds) (hl:ds.length = n) (w:wpO ((F ds).bind fun fds=>.ok (.obj c fds)) (okD X.K Γ G H Q) (exD X.K Γ E G H)) (x dx:Addr) (hx:H1 x = none) (hdx:H1 dx = none) (ne:dx ≠ x) :
    spI X.K Γ c n F (.ref x :: vs) (upd (upd H1 dx (.own x)) x (.ins C dx [])) (fun v H2=>v = .non∧Q (.ref x) H2) E:=by
  have gx:G1 x = none:=aQ s1.gh hx
  have gdx:G1 dx = none:=aQ s1.gh hdx
  have up:∀ b o,H1 b = some o→b ≠ x∧upd (upd H1 dx (.own x)) x (.ins C dx []) b = some o:=fun b o e=>⟨aY e hx,by rw [aV (aY e hx),aV (aY e hdx)]; exact e⟩
  have nn:∀ b,H1 b ≠ none→upd (upd H1 dx (.own x)) x (.ins C dx []) b ≠ none:=fun b hb z=>by
    cases q:H1 b with
    | none=>exact hb q
    | some o=>rw [(up b o q).2] at z; cases z
  refine ⟨by rw [List.length_cons,r1.length,hl],x,dx,C,vs,G1,ds,rfl,aW,hC,gx,fun b o e=>(up b o (s1.gh _ _ e)).2,r1,(au w).mono (fun fds w fs G' H' a1 a2 a3 a4 a5 a6=>⟨rfl,?_⟩) fun ex k a' G' H' a1 a2 a3 a4 a5=>k a' G' H' (s1.trans ⟨a1,fun b o e=>a2 b o (up b o e).2 (up b o e).1,a3,fun b hb g=>a4 b (nn b hb) g⟩) a5⟩
  have gx':G' x = none:=a4 x (by rw [aW]; exact fun z=>nomatch z) gx
  refine w _ (upd G' x (.ins C dx fs)) H' (s1.trans ⟨a1.trans (bx.up gx'),fun b o e=>a2 b o (up b o e).2 (up b o e).1,fun b o e=>?_,fun b hb g=>?_⟩) (.obj aW hC (a6.mono (bx.up gx')))
  · by_cases z:b = x
    · subst z; rw [aW] at e; cases e; exact a5
    · rw [aV z] at e; exact a3 _ _ e
  · have z:b ≠ x:=fun z=>hb (by rw [z]; exact hx)
    rw [aV z]; exact a4 b (nn b hb) g
theorem YT {c n:Nat} {C:Addr} {F:List D→Out (List (Str × D))} (hC:Γ c = some C) (h:PE X e (tMake C (spI X.K Γ c n F) [] E (taD X.K Γ E fr))):DE X Γ E e (oMk c n F fr):=PE.imp h fun σ H Q ⟨G0,H0,G,δ,S,w⟩=>by
  refine ⟨G0,H0,G,δ,S,(au w).mono (fun ds w vs G1 H1 s1 r1=>?_) fun _ k=>k⟩
  split at w
  · rename_i hl
    intro x dx hx hdx ne
    rw [List.append_nil]
    exact acg hC s1 r1 hl w x dx hx hdx ne
  · exact False.elim w
theorem T3 {c n:Nat} {C:Addr} {F:List D→Out (List (Str × D))} (hC:Γ c = some C) (h:PE X e (tMake C (spI X.K Γ c n F) [] E Dq)):DE X Γ E e (oMk c n F aN):=PE.imp h fun σ H Q ⟨G0,H0,G,δ,S,w⟩=>by
  have w:wpO (if 0 = n then (F []).bind fun fds=>.ok (.obj c fds) else .stuck) (okD X.K Γ G H Q) (exD X.K Γ E G H):=w
  split at w
  · rename_i hl
    intro x dx hx hdx ne
    rw [List.append_nil]
    exact acg (G:=G) (H:=H) hC (.refl S.st.gh) .nil hl w x dx hx hdx ne
  · exact False.elim w
structure pO (K:PySem.W.Frag) (C:Addr):Prop where
  cls:Cls K C
  ha:PySem.W.findIn K (.ref C) "__class__" = some (some (.builtin "object.__class__"))
  hn:PySem.W.specialIn K (.builtin "object.__class__") "__get__" = some (some (.builtin "getset_descriptor.__get__"))
  htk:PySem.W.takesIn K (.builtin "object.__class__") = some true
  hm:PySem.W.mroIn K C (.type "object") = some true
  ty:PySem.W.typeIn K (.ref C) = some (.type "type")
  cd:∃ cd,PySem.W.clsIn K C = some cd
def HJ (K:PySem.W.Frag) (Γ:Nat→Option Addr) (cv:V) (isi:D→Option Bool):Prop:=∀ H v d b,Rep K Γ H v d→isi d = some b→∃ t,TyX K H v t∧PySem.W.kitOne K t (clsV cv) = some b
def zM (isi:D→Option Bool) (fo:DSt→Out D):DSt→Out D:=fun δ=>(fo δ).bind fun d=>(Out.opt (isi d)).bind fun b=>.ok (.bl b)
theorem uc {cv:V} {isi:D→Option Bool} {p:Pos} (hc:(cv = .ref (match cv with | .ref C=>C | _=>0) ∨ cv = .ty (match cv with | .ty n=>n | _=>""))) (hi:HJ X.K Γ cv isi) (hg:Gl X "isinstance") (hm:X.mg "isinstance" = none) (ho:DB X Γ E o fo) (hcv:PE X c (tC cv))
    (hs:starEach [o,c] X.env = (false,eval o X.env) :: starEach [c] X.env:=by rfl) (hs2:starEach [c] X.env = [(false,eval c X.env)]:=by rfl):DE X Γ E (.Call (.Name "isinstance" p) [o,c] [] pos) (zM isi fo) :=
  PE.imp (xN call_isi hg hm PyProof.Rows.boot_isinstance (cB ho (cB hcv iG (by rw [hs2]; rfl)) hs) (by decide) (by decide) hs (by rw [hs2]; rfl)) fun σ H Q ⟨G0,H0,G,δ,S,w⟩=>by
    refine ⟨G0,H0,G,δ,S,(au w).mono (fun d w v G1 H1 s1 r1=>?_) fun _ k=>k⟩
    obtain ⟨b,e,k⟩:=bJ (au w)
    obtain ⟨t,ty,kt⟩:=hi H1 v d b r1 e
    exact ⟨v,cv,t,b,rfl,hc,ty,kt,k _ G1 H1 s1 (.bl b)⟩
end
end DL
namespace DL
open PySem PySem.Spec PyProof.Rows MX L2
abbrev kc (d:D):DSt→Out D:=fun _=>.ok d
abbrev BJ (g:D→Option D):List D→Option D:=fun ds=>match ds with
  | [x]=>g x
  | _=>none
abbrev frzd (i:Nat) (g:DSt→Out Fl):DSt→Out Fl:=fun δ=>g (frz i δ)
structure Def (P:Program) (w:World) (K:PySem.W.Frag) (mg:Str→Option Value) (base:Heap) (x:Str) (k:Nat) (ps:List Str) (sp:Sp):Prop where
  ex:∃ f fd,bC P w K mg base CX0 k f fd ps sp∧Binds K fd ps []∧mg x = some (.ref f)∧PySem.W.keepIn K (.ref f) = true
structure Ini (P:Program) (w:World) (K:PySem.W.Frag) (mg:Str→Option Value) (base:Heap) (C:Addr) (k:Nat) (ps:List Str) (sp:Sp):Prop where
  ex:∃ f fd,Mk K C f∧bC P w K mg base CX0 k f fd ps sp∧Binds K fd ps []
def MTab {α:Type} (P:Program) (w:World) (K:PySem.W.Frag) (mg:Str→Option Value) (base:Heap) (Γ:Nat→Option Addr) (m:Str) (sp:(List D→Out α)→Sp) (k:Nat):List (Nat × (List D→Out α))→Prop
  | []=>True
  | (c,F) :: r=>(∃ C f fd ps,Γ c = some C∧Cls K C∧Meth K C m f∧bC P w K mg base CX0 k f fd ps (sp F)∧Binds K fd ps [])∧MTab P w K mg base Γ m sp k r
theorem MTab.ok {α:Type} {X:Cx} {Γ:Nat→Option Addr} {m:Str} {sp:(List D→Out α)→Sp} {k:Nat} (hr:gJ k X.A):∀ {M:List (Nat × (List D→Out α))},MTab X.prog X.w X.K X.mg X.base Γ m sp k M→HQ X Γ CX0 m sp M
  | [],_=>trivial
  | (c,F) :: r,⟨⟨C,f,fd,ps,h1,h2,h3,h4,h5⟩,t⟩=>⟨⟨C,f,fd,ps,k,h1,h2,h3,h4,hr,h5⟩,MTab.ok hr t⟩
def Rg (K:PySem.W.Frag) (Γ:Nat→Option Addr) (cv:Value):List (Nat × Bool)→Prop
  | []=>True
  | (c,b) :: r=>(∃ C',Γ c = some C'∧pO K C'∧PySem.W.kitOne K (.ref C') cv = some b)∧Rg K Γ cv r
theorem Rg.get {K:PySem.W.Frag} {Γ:Nat→Option Addr} {cv:Value}:∀ {tab:List (Nat × Bool)} {c:Nat} {b:Bool},Rg K Γ cv tab→tab.lookup c = some b→∃ C',Γ c = some C'∧pO K C'∧PySem.W.kitOne K (.ref C') cv = some b
  | [],_,_,_,e=>by cases e
  | (c',b') :: r,c,b,h,e=>by
    by_cases q:c = c'
    · subst q
      simp only [List.lookup_cons,beq_self_eq_true] at e
      cases e
      exact h.1
    · have q':(c == c') = false:=beq_eq_false_iff_ne.mpr q
      simp only [List.lookup_cons,q'] at e
      exact h.2.get e
def su (n:String) (tab:List (Nat × Bool)):D→Option Bool
  | .obj c _=>tab.lookup c
  | .non=>some false
  | .bl _=>some (n == "bool" || n == "int")
  | .int _=>some (n == "int")
  | .str _=>some (n == "str")
  | .lst _=>some (n == "list")
  | .tup _=>some (n == "tuple")
  | .dK _=>some (n == "dict")
  | .dT _=>some (n == "dict")
  | _=>none
def ttB (a b:String):Option Bool:=if (Value.type a == Value.type b) = true then some true else if PySem.W.kitMeta b = true then (PySem.fastBuiltinMro a).map (·.contains (.type b)) else none
def Ln (n:String):Bool:=ttB "NoneType" n == some false && ttB "bool" n == some (n == "bool" || n == "int") && ttB "int" n == some (n == "int") && ttB "str" n == some (n == "str") && ttB "list" n == some (n == "list") && ttB "tuple" n == some (n == "tuple") && ttB "dict" n == some (n == "dict")
theorem Bq {K:PySem.W.Frag} {Γ:Nat→Option Addr} {n:String} {tab:List (Nat × Bool)} (a:Ln n = true) (h:Rg K Γ (.type n) tab):HJ K Γ (.ty n) (su n tab):=by
  unfold Ln at a
  simp only [Bool.and_eq_true,beq_iff_eq] at a
  obtain ⟨⟨⟨⟨⟨⟨a0,a1⟩,a2⟩,a3⟩,a4⟩,a5⟩,a6⟩:=a
  intro H v d b r e
  cases r <;> simp only [su] at e
  case non=>cases e; exact ⟨_,.of .non,a0⟩
  case bl=>cases e; exact ⟨_,.of (.bl _),a1⟩
  case int=>cases e; exact ⟨_,.of (.int _),a2⟩
  case str=>cases e; exact ⟨_,.of (.str _),a3⟩
  case lst h1 _=>cases e; exact ⟨_,.of (.lst h1),a4⟩
  case tup h1 _=>cases e; exact ⟨_,.of (.tup h1),a5⟩
  case dK h1 _=>cases e; exact ⟨_,.of (.dK h1),a6⟩
  case dT h1 _=>cases e; exact ⟨_,.of (.dT h1),a6⟩
  case obj h1 g _ =>
    obtain ⟨C',g',i,k⟩:=h.get e
    rw [g] at g'
    cases g'
    exact ⟨_,.of (.ins h1 i.cls i.ha i.hn i.htk i.hm),k⟩
  all_goals cases e
theorem tt_bool:Ln "bool" = true:=by decide +kernel
theorem tt_int:Ln "int" = true:=by decide +kernel
theorem tt_str:Ln "str" = true:=by decide +kernel
theorem tt_list:Ln "list" = true:=by decide +kernel
theorem tt_tuple:Ln "tuple" = true:=by decide +kernel
end DL
namespace DL
open PySem PySem.Spec PyProof.Rows MX L2
theorem Hd (i j:Int):cP (.int i) (.int j) = some (.int (i + j)):=rfl
theorem Hv (i j:Int):Dp (.int i) (.int j) = some (.int (i - j)):=rfl
theorem Bw {i j:Int} (h:vm i j):vp (.int i) (.int j) = some (.int (i * j)):=by show (if vm i j then _ else _) = _; rw [if_pos h]
theorem wH {i j:Int} (h:CDiv i j):dq (.int i) (.int j) = some (.int (i / j)):=by show (if CDiv i j then _ else _) = _; rw [if_pos h]
theorem Bv {i j:Int} (h:0 < j):c7 (.int i) (.int j) = some (.int (i % j)):=by show (if 0 < j then _ else _) = _; rw [if_pos h]
theorem Hh (p:Int→Int→Bool) (i j:Int):cmpI p (.int i) (.int j) = some (p i j):=rfl
theorem Xl (b:Bool):truD (.bl b) = some b:=rfl
theorem Yd (b:Bool):asB (.bl b) = some b:=rfl
theorem Vf (xs:List D):cG (.lst xs) = some (.int xs.length):=rfl
theorem Vg (xs:List D):cG (.rol xs) = some (.int xs.length):=rfl
theorem Vh (xs:List D):cG (.tup xs) = some (.int xs.length):=rfl
theorem Za (xs:List D) (i:Int):ixD (.lst xs) (.int i) = atI xs i:=rfl
theorem ixD_r (xs:List D) (i:Int):ixD (.rol xs) (.int i) = atI xs i:=rfl
theorem Fb (xs:List D) (i:Int):ixD (.tup xs) (.int i) = atI xs i:=rfl
theorem UJ (i:Int):intD (.int i) = some (.int i):=rfl
theorem JR (b:Bool):intD (.bl b) = some (.int (if b then 1 else 0)):=rfl
theorem Vj (i j:Int):maxD [.int i,.int j] = some (.int (if j > i then j else i)):=rfl
theorem Vk (i j:Int):minD [.int i,.int j] = some (.int (if j < i then j else i)):=rfl
theorem modb (a b:Int) {m:Int} (h:0 < m) (h2:m ≤ 2 ^ 32):vm (a % m) b:=by
  have h3:=Int.emod_nonneg a (show m ≠ 0 by omega)
  have h4:=Int.emod_lt_of_pos a h
  exact .inl ⟨by omega,by omega⟩
theorem Aj {a b:Int} (h1:-1000000000 ≤ a) (h2:a ≤ 1000000000):vm a b:=.inl ⟨by omega,by omega⟩
def nxP (o:Out Fl) (I:DSt→Prop):Prop:=match o with
  | .ok (.nx δ)=>I δ
  | _=>False
theorem Vt (δ:DSt) (I:DSt→Prop):nxP (.ok (.nx δ)) I = I δ:=rfl
theorem ach {o:Out Fl} {I:DSt→Prop} (h:nxP o I):∃ δ,o = .ok (.nx δ)∧I δ:=by
  unfold nxP at h
  split at h
  · exact ⟨_,rfl,h⟩
  · exact h.elim
theorem if_t {α:Type} {a b:α}:(if true = true then a else b) = a:=if_pos rfl
theorem if_f {α:Type} {a b:α}:(if false = true then a else b) = b:=if_neg Bool.false_ne_true
theorem Vv {a b:String}:Str.ofString a = Str.ofString b ↔ a = b:=by
  constructor
  · intro h
    rw [Str.ofString_eq_toList,Str.ofString_eq_toList] at h
    have h1:a.toList.map Char.toNat = b.toList.map Char.toNat:=by
      have:=congrArg (fun s:Str=>s.cps.toList) h
      simpa using this
    have inj:∀ {x y:List Char},x.map Char.toNat = y.map Char.toNat→x = y:=by
      intro x
      induction x with
      | nil=>intro y h; cases y with | nil=>rfl | cons _ _=>cases h
      | cons c x ih =>
        intro y h
        cases y with
        | nil=>cases h
        | cons d y =>
          simp only [List.map_cons,List.cons.injEq] at h
          rw [ih h.2]
          congr 1
          exact Char.ext (UInt32.toNat_inj.mp h.1)
    exact String.toList_inj.mp (inj h1)
  · rintro rfl; rfl
theorem Hs (a b:String):(Str.ofString a == Str.ofString b) = (a == b):=by
  by_cases h:a = b
  · subst h; simp
  · rw [beq_eq_false_iff_ne.mpr h,beq_eq_false_iff_ne.mpr (fun q=>h (Vv.mp q))]
mutual
theorem eqv_refl:∀ d:PyData,d.canLay0 = true→PyData.eqv d d = true
  | .none,_=>by simp [PyData.eqv]
  | .bool b,_=>by simp [PyData.eqv]
  | .int i,_=>by simp [PyData.eqv]
  | .str x,_=>by simp [PyData.eqv]
  | .list xs,h=>by
    simp only [PyData.eqv]
    exact eqvAll_refl xs (by simpa [PyData.canLay0] using h)
  | .tuple xs,h=>by
    simp only [PyData.eqv]
    exact eqvAll_refl xs (by simpa [PyData.canLay0] using h)
  | .dict _,h=>by simp [PyData.canLay0] at h
theorem eqvAll_refl:∀ ds:List PyData,PyData.canLayAll0 ds = true→PyData.eqvAll ds ds = true
  | [],_=>by simp [PyData.eqvAll]
  | d :: ds,h=>by
    simp only [PyData.canLayAll0,Bool.and_eq_true] at h
    simp only [PyData.eqvAll,eqv_refl d h.1,eqvAll_refl ds h.2,Bool.and_self]
end
mutual
def dw:Nat→D→Bool
  | _,.non=>true
  | _,.bl _=>true
  | _,.int _=>true
  | _,.str x=>PyData.strOk x
  | n + 1,.lst xs=>vd n xs
  | n + 1,.tup xs=>vd n xs
  | n + 1,.rol xs=>vd n xs
  | n + 1,.rot xs=>vd n xs
  | _,_=>false
def vd:Nat→List D→Bool
  | _,[]=>true
  | n,d :: ds=>dw n d && vd n ds
end
mutual
theorem Bs:∀ (d:D) (n:Nat),dw n d = true→∃ p,toPy d = some p∧p.canLay0 = true∧p.depth ≤ n
  | .non,n,_=>⟨_,rfl,by simp [PyData.canLay0],by simp [PyData.depth]⟩
  | .bl b,n,_=>⟨_,rfl,by simp [PyData.canLay0],by simp [PyData.depth]⟩
  | .int b,n,_=>⟨_,rfl,by simp [PyData.canLay0],by simp [PyData.depth]⟩
  | .str x,n,h=>⟨_,rfl,by simpa [PyData.canLay0,dw] using h,by simp [PyData.depth]⟩
  | .lst xs,n + 1,h=>by
    obtain ⟨q,e,c,k⟩:=xH xs n (by simpa [dw] using h)
    exact ⟨.list q,by simp [toPy,e],by simpa [PyData.canLay0] using c,by simp [PyData.depth]; omega⟩
  | .rol xs,n + 1,h=>by
    obtain ⟨q,e,c,k⟩:=xH xs n (by simpa [dw] using h)
    exact ⟨.list q,by simp [toPy,e],by simpa [PyData.canLay0] using c,by simp [PyData.depth]; omega⟩
  | .tup xs,n + 1,h=>by
    obtain ⟨q,e,c,k⟩:=xH xs n (by simpa [dw] using h)
    exact ⟨.tuple q,by simp [toPy,e],by simpa [PyData.canLay0] using c,by simp [PyData.depth]; omega⟩
  | .rot xs,n + 1,h=>by
    obtain ⟨q,e,c,k⟩:=xH xs n (by simpa [dw] using h)
    exact ⟨.tuple q,by simp [toPy,e],by simpa [PyData.canLay0] using c,by simp [PyData.depth]; omega⟩
  | .lst xs,0,h=>by simp [dw] at h
  | .rol xs,0,h=>by simp [dw] at h
  | .tup xs,0,h=>by simp [dw] at h
  | .rot xs,0,h=>by simp [dw] at h
  | .ty _,n,h=>by simp [dw] at h
  | .cls _,n,h=>by simp [dw] at h
  | .dK _,n,h=>by simp [dw] at h
  | .dT _,n,h=>by simp [dw] at h
  | .obj _ _,n,h=>by simp [dw] at h
  | .exc _ _,n,h=>by simp [dw] at h
theorem xH:∀ (ds:List D) (n:Nat),vd n ds = true→∃ p,toPyL ds = some p∧PyData.canLayAll0 p = true∧PyData.depthAll p ≤ n
  | [],n,_=>⟨_,rfl,by simp [PyData.canLayAll0],by simp [PyData.depthAll]⟩
  | d :: ds,n,h=>by
    simp only [vd,Bool.and_eq_true] at h
    obtain ⟨p,e1,c1,k1⟩:=Bs d n h.1
    obtain ⟨q,e2,c2,k2⟩:=xH ds n h.2
    exact ⟨p :: q,by simp [toPyL,e1,e2],by simp [PyData.canLayAll0,c1,c2],by simp [PyData.depthAll]; omega⟩
end
def eqB (x y:D):Bool:=match toPy x,toPy y with
  | some p,some q=>PyData.eqv p q
  | _,_=>false
theorem xW {x y:D} (hx:dw 50 x = true) (hy:dw 50 y = true):eqD x y = some (eqB x y):=by
  obtain ⟨p,e1,c1,k1⟩:=Bs x 50 hx
  obtain ⟨q,e2,c2,k2⟩:=Bs y 50 hy
  unfold eqD eqB layP
  rw [e1,e2]
  simp [c1,c2,k1,k2]
theorem Vq {x y:D} (hx:dw 50 x = true) (hy:dw 50 y = true):neD x y = some (!eqB x y):=by
  unfold neD
  rw [xW hx hy]
  rfl
theorem YZ {n:Nat} {x:D} (hx:dw n x = true):eqB x x = true:=by
  obtain ⟨p,e1,c1,k1⟩:=Bs x n hx
  unfold eqB
  rw [e1]
  exact eqv_refl p c1
theorem Y0 {x:D} (hx:dw 50 x = true):eqD x x = some true:=by rw [xW hx hx,YZ hx]
theorem J8 {x:D} (hx:dw 50 x = true):neD x x = some false:=by rw [Vq hx hx,YZ hx]; rfl
theorem ab7 (i j:Int):eqB (.int i) (.int j) = (i == j):=by simp [eqB,toPy,PyData.eqv]
theorem eqB_bl (i j:Bool):eqB (.bl i) (.bl j) = (i == j):=by simp [eqB,toPy,PyData.eqv]
theorem zA (i j:Int):eqD (.int i) (.int j) = some (i == j):=by rw [xW (by simp [dw]) (by simp [dw]),ab7]
theorem Vp (i j:Int):neD (.int i) (.int j) = some (!(i == j)):=by rw [Vq (by simp [dw]) (by simp [dw]),ab7]
theorem Ua:eqD .non .non = some true:=Y0 (by simp [dw])
theorem Vr:neD .non .non = some false:=J8 (by simp [dw])
theorem T9 (i j:Bool):eqD (.bl i) (.bl j) = some (i == j):=by rw [xW (by simp [dw]) (by simp [dw]),eqB_bl]
theorem Vo (i j:Bool):neD (.bl i) (.bl j) = some (!(i == j)):=by rw [Vq (by simp [dw]) (by simp [dw]),eqB_bl]
theorem Ye {α:Type} (x0:α) (r:List α):atI (x0 :: r) 0 = some x0:=dH (j:=0) rfl
theorem Yg {α:Type} (x0 x1:α) (r:List α):atI (x0 :: x1 :: r) 1 = some x1:=dH (j:=1) rfl
theorem Yh {α:Type} (x0 x1 x2:α) (r:List α):atI (x0 :: x1 :: x2 :: r) 2 = some x2:=dH (j:=2) rfl
theorem atI_3 {α:Type} (x0 x1 x2 x3:α) (r:List α):atI (x0 :: x1 :: x2 :: x3 :: r) 3 = some x3:=dH (j:=3) rfl
theorem atI_4 {α:Type} (x0 x1 x2 x3 x4:α) (r:List α):atI (x0 :: x1 :: x2 :: x3 :: x4 :: r) 4 = some x4:=dH (j:=4) rfl
theorem atI_5 {α:Type} (x0 x1 x2 x3 x4 x5:α) (r:List α):atI (x0 :: x1 :: x2 :: x3 :: x4 :: x5 :: r) 5 = some x5:=dH (j:=5) rfl
theorem atI_6 {α:Type} (x0 x1 x2 x3 x4 x5 x6:α) (r:List α):atI (x0 :: x1 :: x2 :: x3 :: x4 :: x5 :: x6 :: r) 6 = some x6:=dH (j:=6) rfl
theorem atI_7 {α:Type} (x0 x1 x2 x3 x4 x5 x6 x7:α) (r:List α):atI (x0 :: x1 :: x2 :: x3 :: x4 :: x5 :: x6 :: x7 :: r) 7 = some x7:=dH (j:=7) rfl
theorem atI_8 {α:Type} (x0 x1 x2 x3 x4 x5 x6 x7 x8:α) (r:List α):atI (x0 :: x1 :: x2 :: x3 :: x4 :: x5 :: x6 :: x7 :: x8 :: r) 8 = some x8:=dH (j:=8) rfl
theorem atI_9 {α:Type} (x0 x1 x2 x3 x4 x5 x6 x7 x8 x9:α) (r:List α):atI (x0 :: x1 :: x2 :: x3 :: x4 :: x5 :: x6 :: x7 :: x8 :: x9 :: r) 9 = some x9:=dH (j:=9) rfl
theorem RT {α:Type} (x0 x1 x2 x3 x4 x5 x6 x7 x8 x9 x10:α) (r:List α):atI (x0 :: x1 :: x2 :: x3 :: x4 :: x5 :: x6 :: x7 :: x8 :: x9 :: x10 :: r) 10 = some x10:=dH (j:=10) rfl
theorem RV {α:Type} (x0 x1 x2 x3 x4 x5 x6 x7 x8 x9 x10 x11:α) (r:List α):atI (x0 :: x1 :: x2 :: x3 :: x4 :: x5 :: x6 :: x7 :: x8 :: x9 :: x10 :: x11 :: r) 11 = some x11:=dH (j:=11) rfl
end DL
namespace DL
open PySem PySem.Spec PyProof.Rows MX L2
section
variable {X:Cx} {Γ:Nat→Option Addr} {E:XK} {e a b c o:Expr} {pos apos p:Pos} {es:List Expr} {fa fb fo:DSt→Out D} {fr:DSt→Out (List D)}
theorem Ls:∀ {bs:List Bool} {us:List Value},Vals (bs.map V.bl) us→us = bs.map Value.bool
  | [],_,r=>by cases r; rfl
  | b :: bs,_,r=>by
    cases r with
    | cons r1 r2=>cases r1; rw [Ls r2]; rfl
theorem all_range (bs:List Bool):(List.range bs.length).all (fun i=>bs.getD i true) = bs.all id:=by
  induction bs with
  | nil=>rfl
  | cons b bs ih =>
    rw [List.length_cons,List.range_succ_eq_map,List.all_cons,List.all_map,List.all_cons]
    have:((fun i=>(b :: bs).getD i true) ∘ Nat.succ) = fun i=>bs.getD i true:=by funext i; simp
    rw [this,ih]; simp
theorem Iv (hc:X.calm = true):mV X (.builtin "all") (fun xs H Q=>∃ (q:Addr) (bs:List Bool),xs = [.ref q]∧SqL X.K H q (bs.map V.bl)∧Q (.bl (bs.all id)) H):=by
  intro pins s σ H xs us Q I r h
  obtain ⟨q,bs,rfl,hq,k⟩:=h
  obtain ⟨u,rfl,rx⟩:=vals1 r
  cases rx
  obtain ⟨its,r',pl,hz⟩:=I.list hq
  have ei:=Ls r'
  subst ei
  refine call_all_walk (PySem.wpAny_pyIter_list pl.isList ?_)
  have hh:X.A.in1.handled = none:=I.ok.hd hc
  have hlt:q < s.heap.objs.size:=by obtain ⟨ob,hob,_⟩:=pl.isList; exact Heap.lt_size hob
  refine ⟨_,_,_,_,_,_,fun i=>bs.getD i true,rfl,Walks.list hh s.heap.objs.size q (Nat.ne_of_lt hlt) _,⟨⟨_,Heap.get?_push_size _ rfl,rfl,rfl⟩,pl.isList.push _⟩,fun i v s' Q' E' hv hQ=>?_,fun h' tk kp=>?_⟩
  · have hv:(bs.map Value.bool)[i]? = some v:=by simpa using hv
    rw [List.getElem?_map] at hv
    obtain ⟨b,hb,rfl⟩:=Option.map_eq_some_iff.mp hv
    have hQ:Q' (bs.getD i true) s':=hQ
    rw [List.getD_eq_getElem?_getD,hb] at hQ
    exact wpAny_truthy_bool hQ
  · have es:(bs.map Value.bool).toArray.size = bs.length:=by simp
    rw [es,all_range]
    exact ⟨.bl _,H,I.kept (t':=tk) fun b ob hb=>kp b ob (by simp; exact Nat.ne_of_lt (Heap.lt_size hb)) (Heap.get?_push_of_some _ hb),rfl,k⟩
def v6:List D→Option (List Bool)
  | []=>some []
  | d :: r=>match asB d,v6 r with
    | some b,some bs=>some (b :: bs)
    | _,_=>none
theorem aC.bools {K:PySem.W.Frag} {H:Hp}:∀ {vs:List V} {ds:List D} {bs:List Bool},aC K Γ H vs ds→v6 ds = some bs→vs = bs.map V.bl
  | _,_,_,.nil,e=>by simp only [v6] at e; cases e; rfl
  | _,_,_,.cons (d:=d) (ds:=ds) h r,e=>by
    simp only [v6] at e
    cases h1:asB d with
    | none=>rw [h1] at e; cases e
    | some b =>
      cases h2:v6 ds with
      | none=>rw [h1,h2] at e; cases e
      | some bs =>
        rw [h1,h2] at e
        cases e
        rw [h.asB h1,r.bools h2]; rfl
def allD (d:D):Option D:=(ym d).bind fun ds=>(v6 ds).map fun bs=>.bl (bs.all id)
theorem Rep.ym {K:PySem.W.Frag} {H:Hp} {v:V} {d:D} {ds:List D} (r:Rep K Γ H v d) (e:ym d = some ds):∃ a vs,v = .ref a∧SqL K H a vs∧aC K Γ H vs ds:=by
  cases r <;> simp only [DL.ym] at e <;> cases e
  · exact ⟨_,_,rfl,SqL.of ‹_›,‹_›⟩
  · exact ⟨_,_,rfl,‹_›,‹_›⟩
theorem aaP (hc:X.calm = true) (hg:Gl X "all") (hm:X.mg "all" = none) (ha:DB X Γ E a fa) (hs:starEach [a] X.env = [(false,eval a X.env)]:=by rfl):DE X Γ E (.Call (.Name "all" p) [a] [] pos) (o1 allD fa) :=
  dC1 (fun G H v dx d Q s r e k=>by
    unfold allD at e
    obtain ⟨ds,e1,e2⟩:=Option.bind_eq_some_iff.mp e
    obtain ⟨bs,e3,rfl⟩:=Option.map_eq_some_iff.mp e2
    obtain ⟨q,vs,rfl,sq,ra⟩:=r.ym e1
    exact ⟨q,bs,rfl,(ra.bools e3) ▸ sq,k _ G H (.refl s) (.bl _)⟩) (xN (Iv hc) hg hm (by decide +kernel) (cB ha iG (by rw [hs]; rfl)) (by decide) (by decide) (by rw [hs]; rfl) (by rfl))
def Its (x:Str):It:=⟨fun i _=>i < x.cps.size,fun i H v H'=>H' = H∧∃ c,x.cps[i]? = some c∧v = .str ⟨#[c]⟩,fun i _=>x.cps.size ≤ i⟩
theorem Lp {P:Program} {w:World} {K:PySem.W.Frag} {tg:Expr} (x:Str) (tk:Tok) (it:Addr):Turn P w K tg (Its x) [it] it (fun i h=>h.IsStrIter it "str_ascii_iterator" x tk i) where
  mem:=by simp
  obj:=fun i h st b hb=>by
    have z:b = it:=by simpa using hb
    subst z
    obtain ⟨ob,e1,e2,e3⟩:=st
    exact ⟨ob,e1,fun v z=>by rw [e3] at z; cases z⟩
  keep:=fun i h h' st kp=>by
    obtain ⟨ob,e1,e2⟩:=st
    exact ⟨ob,kp it (by simp) ob e1,e2⟩
  item:=by
    intro X hP hw hK hc i pins s σ H E I hf st hg
    subst hP hw hK
    obtain ⟨f0,f1,f2,f3,f4,f5⟩:=hf it (by simp)
    have lt:i < x.cps.size:=hg
    have hx:x.cps[i]? = some x.cps[i]:=Array.getElem?_eq_getElem lt
    refine wpAny_pyNext_ascii_item st hx fun h' st' sb=>?_
    have I1:Inv X pins σ H { s with heap:=h',toks:=s.toks + 1 }:=I.turned (t':=s.toks + 1) (fun b ob hb q=>(sb.2 b hb).trans q) f0 f1 f3 f4 f5
    obtain ⟨ob,e1,e2,e3⟩:=id st'
    exact ⟨_,rfl,Y8 (s:={ s with heap:=h',toks:=s.toks + 1 }) e1 e2 e3 (by decide) ⟨.str ⟨#[x.cps[i]]⟩,H,I1,⟨_,rfl⟩,⟨rfl,_,hx,rfl⟩,st',fun b hb=>(hf b hb).1⟩⟩
  done:=by
    intro X hP hw hK hc i pins s σ H E I hf st hg
    subst hP hw hK
    obtain ⟨f0,f1,f2,f3,f4,f5⟩:=hf it (by simp)
    have hx:x.cps[i]? = none:=by
      have:x.cps.size ≤ i:=hg
      simp [this]
    exact wpAny_pyNext_ascii_end (I.ok.hd hc) st hx fun h' eb=>⟨rfl,I.turned (t':=s.toks) (fun b ob hb q=>eb b ob hb q) f0 f1 f3 f4 f5⟩
  self:=fun _ _ _ _ _ st h=>wpAny_pyIter_striter_ascii st h
theorem Ql {P:Program} {w:World} {K:PySem.W.Frag} {tg:Expr} (x:Str) (tk:Tok) (it:Addr):Turn P w K tg (Its x) [it] it (fun i h=>h.IsStrIter it "str_iterator" x tk i) where
  mem:=by simp
  obj:=fun i h st b hb=>by
    have z:b = it:=by simpa using hb
    subst z
    obtain ⟨ob,e1,e2,e3⟩:=st
    exact ⟨ob,e1,fun v z=>by rw [e3] at z; cases z⟩
  keep:=fun i h h' st kp=>by
    obtain ⟨ob,e1,e2⟩:=st
    exact ⟨ob,kp it (by simp) ob e1,e2⟩
  item:=by
    intro X hP hw hK hc i pins s σ H E I hf st hg
    subst hP hw hK
    obtain ⟨f0,f1,f2,f3,f4,f5⟩:=hf it (by simp)
    have lt:i < x.cps.size:=hg
    have hx:x.cps[i]? = some x.cps[i]:=Array.getElem?_eq_getElem lt
    refine wpAny_pyNext_wide_item st hx fun h' st' sb=>?_
    have I1:Inv X pins σ H { s with heap:=h',toks:=s.toks + 1 }:=I.turned (t':=s.toks + 1) (fun b ob hb q=>(sb.2 b hb).trans q) f0 f1 f3 f4 f5
    obtain ⟨ob,e1,e2,e3⟩:=id st'
    exact ⟨_,rfl,Y8 (s:={ s with heap:=h',toks:=s.toks + 1 }) e1 e2 e3 (by decide) ⟨.str ⟨#[x.cps[i]]⟩,H,I1,⟨_,rfl⟩,⟨rfl,_,hx,rfl⟩,st',fun b hb=>(hf b hb).1⟩⟩
  done:=by
    intro X hP hw hK hc i pins s σ H E I hf st hg
    subst hP hw hK
    obtain ⟨f0,f1,f2,f3,f4,f5⟩:=hf it (by simp)
    have hx:x.cps[i]? = none:=by
      have:x.cps.size ≤ i:=hg
      simp [this]
    exact wpAny_pyNext_wide_end (I.ok.hd hc) st hx fun h' eb=>⟨rfl,I.turned (t':=s.toks) (fun b ob hb q=>eb b ob hb q) f0 f1 f3 f4 f5⟩
  self:=fun _ _ _ _ _ st h=>wpAny_pyIter_striter_wide st h
def iStr (tl:TE):TI:=fun σ H R=>tl σ H fun v H1=>∃ x,v = .str x∧R (Its x) H1
theorem pi_str {tg l:Expr} {tl:TE} (hl:PE X l tl):PI X tg l (iStr tl):=by
  intro pins s σ H R I h
  refine thn (hl pins s σ H _ I h) fun v s1 ⟨x,H1,I1,r1,q1⟩=>?_
  obtain ⟨z,ez,q⟩:=q1
  subst ez
  obtain ⟨tk,rfl⟩:=r1
  have fp:∀ b ∈ [s1.heap.objs.size],Fj X pins H1 b:=fun b hb=>by
    have eb:b = s1.heap.objs.size:=by simpa using hb
    subst eb
    exact I1.fpOk (Nat.le_refl _) (I1.hok.fresh (Nat.le_refl _))
  cases ha:z.cps.all (· < 128) with
  | true=>exact wpAny_pyIter_ascii ha ⟨s1.heap.objs.size,[s1.heap.objs.size],_,_,H1,rfl,I1.kept (t':=s1.toks) fun b ob q=>Heap.get?_push_of_some _ q,Lp z tk _,⟨_,Heap.get?_push_size _ rfl,rfl,rfl⟩,fp,q⟩
  | false=>exact wpAny_pyIter_wide ha ⟨s1.heap.objs.size,[s1.heap.objs.size],_,_,H1,rfl,I1.kept (t':=s1.toks) fun b ob q=>Heap.get?_push_of_some _ q,Ql z tk _,⟨_,Heap.get?_push_size _ rfl,rfl,rfl⟩,fp,q⟩
def Z6 (x:Str):List D:=x.cps.toList.map fun c=>.str ⟨#[c]⟩
theorem yl_str {K:PySem.W.Frag} {G:Hp} {x:Str}:Yl K Γ G (Its x) (Z6 x):=by
  have hl:(Z6 x).length = x.cps.size:=by simp [Z6]
  refine ⟨fun i H s lt=>by rw [hl] at lt; exact lt,fun i G' H v H' d s s' y ed=>?_,fun i H s le=>by rw [hl] at le; exact le⟩
  obtain ⟨rfl,ch,hx,rfl⟩:=y
  unfold Z6 at ed
  rw [List.getElem?_map] at ed
  obtain ⟨ch',e1,rfl⟩:=Option.map_eq_some_iff.mp ed
  have e2:x.cps.toList[i]? = some ch:=by simpa using hx
  rw [e1] at e2
  cases e2
  exact ⟨G',.refl s',.str _⟩
def strO (f:DSt→Out D):DSt→Out (List D):=fun δ=>(f δ).bind fun d=>match d with
  | .str x=>.ok (Z6 x)
  | _=>.stuck
theorem di_str {tg:Expr} (ha:DE X Γ E a fa):DI X Γ E tg a (strO fa):=PI.imp (pi_str ha) fun σ H R ⟨G0,H0,G,δ,S,w⟩=>by
  refine ⟨G0,H0,G,δ,S,(au w).mono (fun d w v G1 H1 s1 r1=>?_) fun _ k=>k⟩
  split at w
  · cases r1; exact ⟨_,rfl,w _ G1 H1 s1 yl_str⟩
  · exact False.elim w
def rSlS:V→Option Int→Option Int→Hp→VK→Prop:=fun x lo hi H Q=>∃ z,x = .str z∧z.length ≤ sizeLine∧Q (.str (Txt.slice z lo hi)) H
theorem sl_str:SlR X rSlS:=by
  intro pins s σ H x v vl vu lo hi sl Q I rx hs pl pu h
  obtain ⟨z,rfl,hz,q⟩:=h
  obtain ⟨t,rfl⟩:=rx
  obtain ⟨ob,h1,h2,h3⟩:=hs
  refine ⟨"str",_,PySem.F.slot_str_getitem.lookup,typeIs_str _ _ _,?_⟩
  have fin:∀ t' k,EP X pins σ Q (.str (Txt.slice z lo hi) t') { s with toks:=k }:=fun t' k=>⟨.str _,H,I.tok k,⟨_,rfl⟩,q⟩
  cases pl with
  | none =>
    cases pu with
    | none=>exact wpAny_getItem_str_slice (l:=none) (u:=none) (st:=none) ⟨ob,h1,h2,h3⟩ rfl (post_val_or_str ⟨Nat.le_trans (Txt.slice_le z _ _) hz,fun t' k=>fin t' k⟩)
    | int j u=>exact wpAny_getItem_str_slice (l:=none) (u:=some (j,u)) (st:=none) ⟨ob,h1,h2,h3⟩ rfl (post_val_or_str ⟨Nat.le_trans (Txt.slice_le z _ _) hz,fun t' k=>fin t' k⟩)
  | int i u' =>
    cases pu with
    | none=>exact wpAny_getItem_str_slice (l:=some (i,u')) (u:=none) (st:=none) ⟨ob,h1,h2,h3⟩ rfl (post_val_or_str ⟨Nat.le_trans (Txt.slice_le z _ _) hz,fun t' k=>fin t' k⟩)
    | int j u=>exact wpAny_getItem_str_slice (l:=some (i,u')) (u:=some (j,u)) (st:=none) ⟨ob,h1,h2,h3⟩ rfl (post_val_or_str ⟨Nat.le_trans (Txt.slice_le z _ _) hz,fun t' k=>fin t' k⟩)
def toD (K:PySem.W.Frag) (Γ:Nat→Option Addr) (E:XK) (f:DSt→Out (Option Int)):TO:=fun σ H Q=>∃ G0 H0 G δ,SR K Γ G0 H0 G H σ δ∧wpO (f δ) (fun b=>∀ G' H',Step G H G' H'→Q b H') (exD K Γ E G H)
abbrev DO (X:Cx) (Γ:Nat→Option Addr) (E:XK) (lo:Option Expr) (f:DSt→Out (Option Int)):Prop:=PO X lo (toD X.K Γ E f)
theorem PO.imp {lo:Option Expr} {t t':TO} (h:PO X lo t) (k:∀ σ H Q,t' σ H Q→t σ H Q):PO X lo t':=fun pins s σ H Q I q=>h pins s σ H Q I (k _ _ _ q)
def noI:DSt→Out (Option Int):=fun _=>.ok none
def soI (f:DSt→Out D):DSt→Out (Option Int):=fun δ=>(f δ).bind fun d=>match d with
  | .int i=>.ok (some i)
  | _=>.stuck
theorem iV:DO X Γ E none noI:=PO.imp po_none fun σ H Q ⟨G0,H0,G,δ,S,w⟩=>w G H (.refl S.st.gh)
theorem dI (h:DE X Γ E e fa):DO X Γ E (some e) (soI fa):=PO.imp (po_some h) fun σ H Q ⟨G0,H0,G,δ,S,w⟩=>by
  refine ⟨G0,H0,G,δ,S,(au w).mono (fun d w v G1 H1 s1 r1=>?_) fun _ k=>k⟩
  split at w
  · cases r1; exact ⟨_,rfl,w G1 H1 s1⟩
  · exact False.elim w
def Al (xs:List D) (lo hi:Option Int):List D:=List.take (HT.sIx xs.length xs.length hi - HT.sIx xs.length 0 lo) (List.drop (HT.sIx xs.length 0 lo) xs)
def cutD:D→Option Int→Option Int→Option D
  | .str z,lo,hi=>if z.length ≤ sizeLine then some (.str (Txt.slice z lo hi)) else none
  | .lst xs,lo,hi=>some (.lst (Al xs lo hi))
  | .rol xs,lo,hi=>some (.lst (Al xs lo hi))
  | _,_,_=>none
def oSl (fa:DSt→Out D) (fl fh:DSt→Out (Option Int)):DSt→Out D:=fun δ=>(fa δ).bind fun x=>(fl δ).bind fun l=>(fh δ).bind fun h=>.opt (cutD x l h)
theorem aC.cut {K:PySem.W.Frag} {H:Hp} {vs:List V} {ds:List D} (r:aC K Γ H vs ds) (lo hi:Option Int):aC K Γ H (cutV vs lo hi) (Al ds lo hi):=by
  unfold cutV Al
  rw [r.length]
  exact (r.drop _).take _
theorem dm {lo hi:Option Expr} {p2:Pos} {fl fh:DSt→Out (Option Int)} (he:DE X Γ E e fa) (hl:DO X Γ E lo fl) (hu:DO X Γ E hi fh):DE X Γ E (.Subscript e (.Slice lo hi none p2) pos) (oSl fa fl fh):=PE.imp (pe_slice (sl_str.or sl_list) he hl hu) fun σ H Q ⟨G0,H0,G,δ,S,w⟩=>by
  refine ⟨G0,H0,G,δ,S,(au w).mono (fun x w v G1 H1 s1 r1=>?_) fun _ k=>k⟩
  refine ⟨G0,H0,G1,δ,S.step s1,(au w).mono (fun l w G2 H2 s2=>?_) fun _ k=>k.step s1⟩
  refine ⟨G0,H0,G2,δ,(S.step s1).step s2,(au w).mono (fun h w G3 H3 s3=>?_) fun _ k=>k.step (s1.trans s2)⟩
  obtain ⟨d,e,k⟩:=bJ w
  have r3:=(r1.mono s2.gg).mono s3.gg
  have k3:=k.step ((s1.trans s2).trans s3)
  unfold cutD at e
  split at e
  · split at e
    · cases e; cases r1; exact .inl ⟨_,rfl,‹_›,k3 _ G3 H3 (.refl s3.gh) (.str _)⟩
    · cases e
  · cases e
    cases r3 with
    | lst h r=>exact .inr ⟨_,_,rfl,SqL.of (s3.gh _ _ h),fun q hq=>k3 _ _ _ (.new s3.gh hq) (.lst aW ((r.cut _ _).mono (bx.up (aQ s3.gh hq))))⟩
  · cases e
    cases r3 with
    | rol h r=>exact .inr ⟨_,_,rfl,s3.gh.seq h,fun q hq=>k3 _ _ _ (.new s3.gh hq) (.lst aW ((r.cut _ _).mono (bx.up (aQ s3.gh hq))))⟩
  · cases e
theorem acq:∀ {ss:List Str} {us:List Value},Vals (ss.map V.str) us→StrsAre us ss
  | [],_,r=>by cases r; exact .nil
  | x :: ss,_,r=>by
    cases r with
    | cons r1 r2=>obtain ⟨t,rfl⟩:=r1; exact .cons x t (acq r2)
def rJoin (K:PySem.W.Frag):V→List V→Hp→VK→Prop:=fun x vs H Q=>∃ (z:Str) (q:Addr) (ss:List Str),x = .str z∧vs = [.ref q]∧SqL K H q (ss.map V.str)∧(ss.map (·.length)).sum + ss.length * z.length ≤ 16777216∧Q (.str (Txt.join z ss)) H
theorem mt_join:MtR X "str.join" (rJoin X.K):=by
  intro pins s σ H x vs v us Q I rx rv h
  obtain ⟨z,q,ss,rfl,rfl,hq,hz,k⟩:=h
  obtain ⟨t,rfl⟩:=rx
  obtain ⟨u,rfl,ru⟩:=rv.one
  cases ru
  obtain ⟨its,r',pl,_⟩:=I.list hq
  exact join_list pl.isList (by simpa using acq r') hz fun t' tk=>⟨.str _,H,I.tok tk,⟨_,rfl⟩,k⟩
def Fi:List D→Option (List Str)
  | []=>some []
  | .str x :: r=>(Fi r).map (x :: ·)
  | _=>none
theorem aC.strs {K:PySem.W.Frag} {H:Hp}:∀ {vs:List V} {ds:List D} {ss:List Str},aC K Γ H vs ds→Fi ds = some ss→vs = ss.map V.str
  | _,_,_,.nil,e=>by simp only [Fi] at e; cases e; rfl
  | _,_,_,.cons (d:=d) (ds:=ds) h r,e=>by
    unfold Fi at e
    split at e
    · rename_i z; cases z
    · rename_i z
      cases z
      obtain ⟨q,e1,rfl⟩:=Option.map_eq_some_iff.mp e
      cases h
      rw [aC.strs r e1]; rfl
    · cases e
def joinD (z:Str) (d:D):Option D:=(ym d).bind fun ds=>(Fi ds).bind fun ss=>if (ss.map (·.length)).sum + ss.length * z.length ≤ 16777216 then some (.str (Txt.join z ss)) else none
def oJoin (fo fa:DSt→Out D):DSt→Out D:=fun δ=>(fo δ).bind fun d=>match d with
  | .str z=>(fa δ).bind fun y=>.opt (joinD z y)
  | _=>.stuck
theorem de_join {m:Str} {apos cpos:Pos} (ho:DE X Γ E o fo) (ha:DE X Γ E a fa) (hh:∀ {to te:TE},PE X o to→PE X a te→PE X (.Call (.Attribute o m apos) [a] [] cpos) (tBM X.K "str" (rJoin X.K) to (zc te Dq))):DE X Γ E (.Call (.Attribute o m apos) [a] [] cpos) (oJoin fo fa):=PE.imp (hh ho ha) fun σ H Q ⟨G0,H0,G,δ,S,w⟩=>by
  refine ⟨G0,H0,G,δ,S,(au w).mono (fun d w v G1 H1 s1 r1=>?_) fun _ k=>k⟩
  split at w
  · rename_i z
    cases r1
    refine ⟨rfl,G0,H0,G1,δ,S.step s1,(au w).mono (fun y w u G2 H2 s2 r2=>?_) fun _ k=>k.step s1⟩
    obtain ⟨r,e,k⟩:=bJ w
    unfold joinD at e
    obtain ⟨ds,e1,e2⟩:=Option.bind_eq_some_iff.mp e
    obtain ⟨ss,e3,e4⟩:=Option.bind_eq_some_iff.mp e2
    split at e4
    · cases e4
      obtain ⟨q,vs,rfl,sq,ra⟩:=r2.ym e1
      exact ⟨z,q,ss,rfl,rfl,(ra.strs e3) ▸ s2.gh.seq sq,‹_›,k _ G2 H2 (s1.trans s2) (.str _)⟩
    · cases e4
  · exact False.elim w
def mR:List Str→List Str→List Str
  | acc,[]=>acc
  | acc,x :: r=>mR (if acc.contains x then acc else acc ++ [x]) r
end
end DL
namespace DL
open PySem PySem.Spec PyProof.Rows MX L2
theorem Do:∀ (l acc:List Str) (x:Str),mR acc (l ++ [x]) = if (mR acc l).contains x then mR acc l else mR acc l ++ [x]
  | [],acc,x=>rfl
  | y :: l,acc,x=>by simp only [List.cons_append,mR]; exact Do l _ x
theorem Kc:∀ (l acc:List Str),(mR acc l).length ≤ acc.length + l.length
  | [],acc=>Nat.le_refl _
  | y :: l,acc=>by
    simp only [mR,List.length_cons]
    have h1:=Kc l (if acc.contains y then acc else acc ++ [y])
    have h2:(if acc.contains y = true then acc else acc ++ [y]).length ≤ acc.length + 1:=by split <;> simp
    omega
theorem Kd:∀ (l acc:List Str),(acc ++ l).Nodup→mR acc l = acc ++ l
  | [],acc,_=>by simp [mR]
  | y :: l,acc,h=>by
    have hy:y ∉ acc:=fun z=>by
      have:=(List.nodup_append.mp h).2.2 y z y List.mem_cons_self
      exact this rfl
    simp only [mR]
    rw [if_neg (by simpa using hy),Kd l (acc ++ [y]) (by simpa using h)]
    simp
section
variable {prog:Program} {w:World} {A:Around} {E:Value→Shared→Prop} {R:Result→Shared→Prop}
theorem isS (x:Str) (t:Tok):(PySem.strKind prog w).is x (.str x t) = true:=strKind_is prog w x t
theorem ZZ {h h':Heap} {a:Addr} {S:Str→Bool} {n:Nat} (x:h.SetOf (PySem.strKind prog w) a S n) (k:∀ o,h.get? a = some o→h'.get? a = some o):h'.SetOf (PySem.strKind prog w) a S n:=by
  obtain ⟨o,es,ep,tb,ho,z⟩:=x
  exact ⟨o,es,ep,tb,k o ho,z⟩
theorem Z0 {h:Heap} {a:Addr} {S S':Str→Bool} {n n':Nat} (x:h.SetOf (PySem.strKind prog w) a S n) (e:S = S') (en:n = n'):h.SetOf (PySem.strKind prog w) a S' n':=by subst e en; exact x
theorem set_loop {I l S:Addr} {items:Array Value} {ss:List Str} (hi:items.toList.length = ss.length) (hv:∀ (i:Nat) v,items[i]? = some v→∃ x t,ss[i]? = some x∧v = .str x t) (W:Walks prog w A.in1 I [I,l] [I] items.size (fun i v=>items[i]? = some v) (fun i h=>h.IsListIter I l i∧h.IsList l items))
    (nI:S ≠ I) (nl:S ≠ l) (few:ss.length + 1 < scanBound):∀ (k i:Nat) (s:Shared),items.size - i = k→i ≤ items.size→(s.heap.IsListIter I l i∧s.heap.IsList l items) →
      s.heap.SetOf (PySem.strKind prog w) S (fun x=>(mR [] (ss.take i)).contains x) (mR [] (ss.take i)).length →
      (∀ h' tk,(∀ b o,b ≠ S→b ≠ I→s.heap.get? b = some o→h'.get? b = some o)→h'.SetOf (PySem.strKind prog w) S (fun x=>(mR [] ss).contains x) (mR [] ss).length→R (.ok (.ret .none)) { s with heap:=h',toks:=tk }) →
      codeAny (model prog w) A (.builtin "set.update.loop" ⟨[.ref S,.ref I],[]⟩) R s:=by
  have hsz:items.size = ss.length:=by simpa using hi
  intro k
  induction k with
  | zero =>
    intro i s ek le st hS q
    obtain rfl:i = items.size:=by omega
    refine codeAny_builtin PyProof.Rows.F.entry_set_update_loop ?_
    rw [Around.under_plainId PyProof.Rows.F.plain_set_update_loop _]
    show wpAny _ A.in1 (pyNext (.ref I) >>= _) _ _ s
    refine wpAny_bind (W.done s _ _ st fun h' tk kp=>wpAny_pure (q h' tk (fun b o h1 h2 z=>kp b o (by simpa using h2) z) ?_))
    have z:=ZZ hS fun o ho=>kp S o (by simpa using nI) ho
    rwa [hsz,List.take_length] at z
  | succ k ih =>
    intro i s ek le st hS q
    have lt:i < items.size:=by omega
    refine codeAny_builtin PyProof.Rows.F.entry_set_update_loop ?_
    rw [Around.under_plainId PyProof.Rows.F.plain_set_update_loop _]
    show wpAny _ A.in1 (pyNext (.ref I) >>= _) _ _ s
    refine wpAny_bind (W.item i s _ _ lt st fun v h1 tk1 pv st1 kp1=>?_)
    obtain ⟨x,t,hx,rfl⟩:=hv i v pv
    have hS1:=ZZ (h':=h1) hS fun o ho=>kp1 S o (by simpa using nI) ho
    show wpAny _ A.in1 (holding [Value.str x t] (setAdd S (.str x t)) >>= _) _ _ _
    refine wpAny_bind (wpAny_holding ?_)
    unfold setAdd
    refine wpAny_holding (wpAny_bind ((PySem.strKind prog w).pyHash (k:=x) (isS x t) ?_))
    have nl2:=Kc (ss.take i) []
    have tl:(ss.take i).length ≤ ss.length:=List.length_take_le' i ss
    refine wpAny_setAddHashed_of (knd:=PySem.strKind prog w) (k:=x) (isS x t) rfl hS1 (by simp at nl2; omega) fun h2 sb hS2=>?_
    have tk2:ss.take (i + 1) = ss.take i ++ [x]:=by
      obtain ⟨hl,e⟩:=List.getElem?_eq_some_iff.mp hx
      rw [List.take_succ,hx]; rfl
    have hS3:h2.SetOf (PySem.strKind prog w) S (fun x=>(mR [] (ss.take (i + 1))).contains x) (mR [] (ss.take (i + 1))).length:=by
      refine Z0 hS2 (funext fun y=>?_) ?_
      · rw [tk2,Do]
        by_cases c:(mR [] (ss.take i)).contains x = true
        · rw [if_pos c]
          by_cases e:y = x
          · subst e; simp only [c,Bool.true_or]
          · simp [e]
        · rw [if_neg c]
          simp
      · rw [tk2,Do]
        by_cases c:(mR [] (ss.take i)).contains x = true
        · rw [if_pos c,if_pos c]
        · rw [if_neg c,if_neg c]; simp
    refine wpAny_pure ⟨plainId_quiet PyProof.Rows.F.plain_set_update_loop _,ih (i + 1) _ (by omega) lt ?_ hS3 fun h3 tk3 kp3 z=>q h3 tk3 (fun b o b1 b2 y=>kp3 b o b1 b2 ((sb.2 b b1).trans (kp1 b o (by simpa using b2) y))) z⟩
    refine W.frame _ _ _ st1 fun b hb o y=>?_
    have bS:b ≠ S:=fun z=>by
      subst z
      rcases List.mem_cons.mp hb with z | z
      · exact nI z
      · exact nl (by simpa using z)
    exact (sb.2 b bS).trans y
set_option maxHeartbeats 4000000 in
theorem Ms {s:Shared} {l:Addr} {items:Array Value} {ss:List Str} {Q:Value→Shared→Prop} (hh:A.handled = none) (hl:s.heap.IsList l items) (hi:items.toList.length = ss.length) (hv:∀ (i:Nat) v,items[i]? = some v→∃ x t,ss[i]? = some x∧v = .str x t) (few:ss.length + 1 < scanBound)
    (q:∀ (h':Heap) (tk:Nat),h'.SetOf (PySem.strKind prog w) s.heap.objs.size (fun x=>(mR [] ss).contains x) (mR [] ss).length→(∀ b o,s.heap.get? b = some o→h'.get? b = some o)→Q (.ref s.heap.objs.size) { s with heap:=h',toks:=tk }) :
    wpAny (model prog w) A (call (.type "set") [.ref l]) Q E s:=by
  obtain ⟨c0,tl0,mro0⟩:=PySem.F.called_set.mro
  have made0:=PySem.F.called_set.made
  have sub0:=PySem.F.called_set.sub
  have nt0:=PySem.F.called_set.notType
  have cc0:=PySem.F.called_set.canCreate
  have tc0:=PySem.F.typeCall_set_1 (.ref l)
  refine wpAny_call (codeAny_of_tree ?_)
  show wpAny _ _ (callAny (.type "set") _) _ _ _
  refine wpAny_pure ⟨Code.quiet_builtin _ (by decide +kernel),codeAny_builtin PySem.F.entry_type_call ?_⟩
  rw [Around.under_plain (weight_type_call_type "set" [.ref l] []) rfl]
  repeat (any_goals (first | assumption | wp_step))
  refine codeAny_mono (code_set_new_1 (.ref l) (E:=E) (Q₁:=fun ob s1=>∃ led:Bool,ob = .ref s.heap.objs.size∧s1 = { s with heap:=s.heap.push { cls:=.type "set",dict:=none,data:=.set #[] 0 (.fresh 0 0 led) } }) fun led=>⟨led,rfl,rfl⟩) fun r1 s1 z1=>?_
  cases r1 with
  | error e=>exact z1
  | ok fl1 =>
    cases fl1 with
    | ret ob1 =>
      obtain ⟨led,rfl,rfl⟩:=z1
      have hS:=Heap.get?_push_size s.heap (o:={ cls:=.type "set",dict:=none,data:=.set #[] 0 (.fresh 0 0 led) }) rfl
      have hT:Shared.TypeIs { s with heap:=s.heap.push { cls:=.type "set",dict:=none,data:=.set #[] 0 (.fresh 0 0 led) } } (.ref s.heap.objs.size) "set":=⟨_,hS,rfl⟩
      have il0:=PySem.F.called_set.init.lookup
      have ib0:=PySem.F.called_set.init.bind (.ref s.heap.objs.size)
      repeat (any_goals (first | assumption | wp_step))
      refine codeAny_mono (codeAny_call_builtin (R:=wants (fun r2 s2=>r2 = .none∧∃ h' tk,s2 = { s with heap:=h',toks:=tk }∧h'.SetOf (PySem.strKind prog w) s.heap.objs.size (fun x=>(mR [] ss).contains x) (mR [] ss).length∧(∀ b o,s.heap.get? b = some o→h'.get? b = some o)) E)
        PySem.F.called_set.init.plain PySem.F.entry_set_init (check_set_init_1 hT ?_)) fun r2 s2 z2=>?_
      · obtain ⟨⟨cl,dl,dt,sl⟩,hol,hc1,nn,hd1⟩:=hl
        dsimp only at hc1 hd1
        subst hc1
        subst hd1
        have hol1:=Heap.get?_push_of_some (h:=s.heap) { cls:=.type "set",dict:=none,data:=.set #[] 0 (.fresh 0 0 led) } hol
        have sls:=PySem.F.sub_list_set
        have slf:=PySem.F.sub_list_frozenset
        have nld:(Value.type "list" == Value.type "dict") = false:=by decide
        have hl1:(s.heap.push { cls:=.type "set",dict:=none,data:=.set #[] 0 (.fresh 0 0 led) }).IsList l items:=⟨_,hol1,rfl,nn,rfl⟩
        unfold Builtin.«set.__init__» noKeywords Builtin.Frozenset.updateFrom
        generalize hPI:pyIter = PI
        wp_walk
        subst hPI
        refine wpAny_pyIter_list hl1 (wpAny_bind (wpAny_runValue ?_))
        have lS:l < s.heap.objs.size:=Heap.lt_size hol
        have h3:A.in1.in1.in1.handled = none:=by simp [hh]
        have sz1:(s.heap.push { cls:=.type "set",dict:=none,data:=.set #[] 0 (.fresh 0 0 led) }).objs.size = s.heap.objs.size + 1:=Heap.size_push ..
        have nel:l ≠ (s.heap.push { cls:=.type "set",dict:=none,data:=.set #[] 0 (.fresh 0 0 led) }).objs.size:=by rw [sz1]; exact Nat.ne_of_lt (Nat.lt_succ_of_lt lS)
        refine set_loop hi hv (Walks.list h3 _ l nel items) (by rw [sz1]; exact Nat.ne_of_lt (Nat.lt_succ_self _)) (Nat.ne_of_gt lS) few (items.size - 0) 0 _ rfl (Nat.zero_le _) ⟨⟨_,Heap.get?_push_size _ rfl,rfl,rfl⟩,hl1.push _⟩ ?_ fun h' tk kp z=>?_
        · exact Z0 ((PyProof.Rows.setObjOf_fresh (knd:=PySem.strKind prog w) led).setOf (Heap.get?_push_of_some _ hS) (by decide)) rfl rfl
        · refine wpAny_pure (wpAny_pure ⟨rfl,h',tk,rfl,z,fun b o y=>?_⟩)
          have blt:=Heap.lt_size y
          exact kp b o (Nat.ne_of_lt blt) (by rw [sz1]; exact Nat.ne_of_lt (Nat.lt_succ_of_lt blt)) (Heap.get?_push_of_some _ (Heap.get?_push_of_some _ y))
      · cases r2 with
        | error e=>exact z2
        | ok fl2 =>
          cases fl2 with
          | ret r =>
            obtain ⟨rfl,h',tk,rfl,zS,kp⟩:=z2
            repeat (any_goals (first | assumption | wp_step))
            exact q _ _ zS kp
          | _=>exact z2.elim
    | _=>exact z1.elim
end
def sstP (n:Nat) (a:Addr) (h:Heap):Prop:=∃ o es ep tb,h.get? a = some o∧o.ExactSet∧o.data = .set es ep tb∧tb.fits es.size = true∧es.size = n
section
variable {X:Cx} {Γ:Nat→Option Addr} {E:XK} {e a b c o:Expr} {pos apos p p2 pos2:Pos} {fa:DSt→Out D}
theorem sst_ok {P:Program} {w:World} {H:Hp} {h:Heap} {n:Nat} {a:Addr} (x:sstP n a h):cU P w H h a (.ext (sstP n a)):=by
  refine ⟨x,?_,fun h1 h2 y k=>?_⟩
  · obtain ⟨o,_,_,_,q,_⟩:=x
    exact ⟨o,q⟩
  · obtain ⟨o,es,ep,tb,q,r⟩:=y
    exact ⟨o,es,ep,tb,k o q,r⟩
theorem aaE (hc:X.calm = true):mV X (.type "set") (fun xs H Q=>∃ (q:Addr) (ss:List Str),xs = [.ref q]∧SqL X.K H q (ss.map V.str)∧ss.length ≤ 1000∧∀ z,H z = none→Q (.ref z) (upd H z (.ext (sstP (mR [] ss).length z)))):=by
  intro pins s σ H xs us Q I r h
  obtain ⟨q,ss,rfl,hq,hz,k⟩:=h
  obtain ⟨u,rfl,rx⟩:=vals1 r
  cases rx
  obtain ⟨its,r',pl,_⟩:=I.list hq
  have hl:=r'.length
  rw [List.length_map] at hl
  refine Ms (ss:=ss) (I.ok.hd hc) pl.isList (by simpa using hl.symm) (fun i v hv=>?_) (by unfold scanBound; omega) fun h' tk hS kp=>?_
  · have hv:its[i]? = some v:=by simpa using hv
    have lt:i < its.length:=(List.getElem?_eq_some_iff.mp hv).1
    have:(ss.map V.str)[i]? = some (V.str ss[i]):=by rw [List.getElem?_map,List.getElem?_eq_getElem (by omega)]; rfl
    obtain ⟨u,hu,ru⟩:=r'.get this
    rw [hv] at hu
    cases hu
    obtain ⟨t,rfl⟩:=ru
    exact ⟨_,t,List.getElem?_eq_getElem (by omega),rfl⟩
  · obtain ⟨ob,es,ep,tb,h1,h2,h3,_,_,_,h4,h5⟩:=hS
    exact ⟨.ref s.heap.objs.size,_,I.laid (t':=tk) kp (Nat.le_refl _) (sst_ok ⟨ob,es,ep,tb,h1,h2,h3,h4,h5⟩),rfl,k _ (I.hok.fresh (Nat.le_refl _))⟩
theorem aaD:mV X (.builtin "len") (fun xs H Q=>∃ (z:Addr) (n:Nat),xs = [.ref z]∧H z = some (.ext (sstP n z))∧n ≤ 1000∧Q (.int n) H):=by
  intro pins s σ H xs us Q I r h
  obtain ⟨z,n,rfl,hz,hn,k⟩:=h
  obtain ⟨u,rfl,rx⟩:=vals1 r
  cases rx
  obtain ⟨⟨ob,es,ep,tb,h1,h2,h3,h4,h5⟩,_,_⟩:=I.hok z _ hz
  refine call_len_set h1 h2 h3 h4 (by omega) ⟨.int n,H,I.tok _,⟨s.toks + 1,by rw [h5]⟩,k⟩
def J5:D→Option D:=fun d=>(ym d).bind fun ds=>(Fi ds).bind fun ss=>if ss.length ≤ 1000 then some (.int (mR [] ss).length) else none
theorem acE (hc:X.calm = true) (hg:Gl X "len") (hm:X.mg "len" = none) (hg2:Gl X "set") (hm2:X.mg "set" = none) (ha:DE X Γ E a fa) (hs:starEach [a] X.env = [(false,eval a X.env)]:=by rfl) (hs2:starEach [.Call (.Name "set" p2) [a] [] pos2] X.env = [(false,eval (.Call (.Name "set" p2) [a] [] pos2) X.env)]:=by rfl) :
    DE X Γ E (.Call (.Name "len" p) [.Call (.Name "set" p2) [a] [] pos2] [] pos) (o1 J5 fa) :=
  PE.imp (xN aaD hg hm PySem.boot_len (cB (yf (aaE hc) hg2 hm2 (by decide +kernel) (cB ha iG (by rw [hs]; rfl)) (by decide) (by decide) (by rw [hs]; rfl) (by rfl)) iG (by rw [hs2]; rfl)) (by decide) (by decide) (by rw [hs2]; rfl) (by rfl)) fun σ H Q ⟨G0,H0,G,δ,S,w⟩=>by
    refine ⟨G0,H0,G,δ,S,(au w).mono (fun d w v G1 H1 s1 r1=>?_) fun _ k=>k⟩
    obtain ⟨r,e,k⟩:=bJ w
    unfold J5 at e
    obtain ⟨ds,e1,e2⟩:=Option.bind_eq_some_iff.mp e
    obtain ⟨ss,e3,e4⟩:=Option.bind_eq_some_iff.mp e2
    split at e4
    · rename_i hz
      cases e4
      obtain ⟨q,vs,rfl,sq,ra⟩:=r1.ym e1
      have ev:=ra.strs e3
      subst ev
      have hn:=Kc ss []
      exact ⟨q,ss,rfl,s1.gh.seq sq,hz,fun z hz0=>⟨z,_,rfl,aW,by simp at hn; omega,k _ G1 _ (s1.trans (.aside s1.gh hz0)) (.int _)⟩⟩
    · cases e4
end
end DL
namespace DL
open PySem PySem.Spec PyProof.Rows MX L2
mutual
def noL:D→Bool
  | .non=>true
  | .bl _=>true
  | .int _=>true
  | .str _=>true
  | .ty _=>true
  | .cls _=>true
  | .tup xs=>J9 xs
  | .obj _ fs=>noLf fs
  | _=>false
def J9:List D→Bool
  | []=>true
  | d :: r=>noL d && J9 r
def noLf:List (Str × D)→Bool
  | []=>true
  | (_,d) :: r=>noL d && noLf r
end
def Fd:HO→Bool
  | .lst _=>true
  | .dK _=>true
  | _=>false
section
variable {K:PySem.W.Frag} {Γ:Nat→Option Addr} {G1 G2:Hp}
mutual
theorem Rep.less (e:∀ b o,G1 b = some o→Fd o = false→G2 b = some o):∀ {v:V} {d:D},Rep K Γ G1 v d→noL d = true→Rep K Γ G2 v d
  | _,_,.non,_=>.non
  | _,_,.bl b,_=>.bl b
  | _,_,.int i,_=>.int i
  | _,_,.str x,_=>.str x
  | _,_,.ty n,_=>.ty n
  | _,_,.cls h,_=>.cls h
  | _,_,.tup h r,q=>.tup (e _ _ h rfl) (aC.less e r (by simpa [noL] using q))
  | _,_,.obj h g r,q=>.obj (e _ _ h rfl) g (jM.less e r (by simpa [noL] using q))
  | _,_,.lst _ _,q=>by simp [noL] at q
  | _,_,.rol _ _,q=>by simp [noL] at q
  | _,_,.rot _ _,q=>by simp [noL] at q
  | _,_,.dK _ _,q=>by simp [noL] at q
  | _,_,.dT _ _,q=>by simp [noL] at q
  | _,_,.e0 _ _,q=>by simp [noL] at q
  | _,_,.e1 _ _ _ _,q=>by simp [noL] at q
theorem aC.less (e:∀ b o,G1 b = some o→Fd o = false→G2 b = some o):∀ {v:List V} {d:List D},aC K Γ G1 v d→J9 d = true→aC K Γ G2 v d
  | _,_,.nil,_=>.nil
  | _,_,.cons h r,q=>by
    simp only [J9,Bool.and_eq_true] at q
    exact .cons (Rep.less e h q.1) (aC.less e r q.2)
theorem jM.less (e:∀ b o,G1 b = some o→Fd o = false→G2 b = some o):∀ {v:List (Str × V)} {d:List (Str × D)},jM K Γ G1 v d→noLf d = true→jM K Γ G2 v d
  | _,_,.nil,_=>.nil
  | _,_,.cons h r,q=>by
    simp only [noLf,Bool.and_eq_true] at q
    exact .cons (Rep.less e h q.1) (jM.less e r q.2)
end
end
section
variable {K:PySem.W.Frag} {Γ:Nat→Option Addr} {G0 H0 G H:Hp} {σ:L2.St} {δ:DSt}
def lends:Sl→Bool
  | .sh _=>true
  | .ol _=>true
  | .oll _=>true
  | .od _=>true
  | _=>false
theorem Inner.lsts {O:Addr→Option Nat} {i:Nat}:∀ {vs:List V} {dss:List (List D)},Inner K Γ H0 G H O i vs dss→∀ b,V.ref b ∈ vs→∃ us,H b = some (.lst us)
  | _,_,.nil,b,hb=>by cases hb
  | _,_,.cons h g h0 o r n t,b,hb=>by
    rcases List.mem_cons.mp hb with z | z
    · cases z; exact ⟨_,h⟩
    · exact t.lsts b z
theorem SR.lend (S:SR K Γ G0 H0 G H σ δ) (i:Nat) (hl:∀ s,δ[i]? = some (some s)→lends s = true):∃ G',SR K Γ G0 H0 G' H σ (frz i δ)∧∀ b,G' b = G b ∨ (G b = none∧∃ o,G' b = some o∧Fd o = true):=by
  obtain ⟨O,q⟩:=id S.sl
  unfold frz
  split
  · rename_i s e
    obtain ⟨v,hv,h⟩:=q i s e
    cases s with
    | sh d=>exact ⟨G,by rw [show frzS (.sh d) = .sh d from rfl,Cg e]; exact S,fun _=>.inl rfl⟩
    | ol ds =>
      obtain ⟨a,vs,ev,h1,h2,h3,h4,h5⟩:=h
      subst ev
      have hp:∀ b,decide (b = a) = true→O b = some i∧G b = none∧H0 b = none:=fun b z=>by obtain rfl:=of_decide_eq_true z; exact ⟨h4,h2,h3⟩
      refine ⟨_,S.Es q (fun b=>decide (b = a)) hp hv (.lst (by unfold fY; rw [if_pos (by simp)]; exact h1) (h5.mono (dZ fun b z=>(hp b z).2.1))),fun b=>?_⟩
      unfold fY
      by_cases z:b = a
      · subst z
        exact .inr ⟨h2,_,by rw [if_pos (by simp)]; exact h1,rfl⟩
      · exact .inl (if_neg (by simp [z]))
    | oll ds =>
      obtain ⟨a,vs,ev,h1,h2,h3,h4,h5,h6⟩:=h
      subst ev
      have hp:∀ b,decide (b = a ∨ V.ref b ∈ vs) = true→O b = some i∧G b = none∧H0 b = none:=fun b z=>by
        rcases of_decide_eq_true z with z | z
        · subst z; exact ⟨h4,h2,h3⟩
        · exact h6.facts b z
      refine ⟨_,S.Es q (fun b=>decide (b = a ∨ V.ref b ∈ vs)) hp hv (.lst (by unfold fY; rw [if_pos (by simp)]; exact h1) (h6.frozen (dZ fun b z=>(hp b z).2.1) fun b hb=>by simp [hb])),fun b=>?_⟩
      unfold fY
      by_cases z:b = a ∨ V.ref b ∈ vs
      · refine .inr ⟨(hp b (decide_eq_true z)).2.1,?_⟩
        rw [if_pos (decide_eq_true z)]
        rcases z with z | z
        · subst z; exact ⟨_,h1,rfl⟩
        · obtain ⟨us,hus⟩:=h6.lsts b z; exact ⟨_,hus,rfl⟩
      · exact .inl (if_neg (by simp [z]))
    | od ds =>
      obtain ⟨a,vs,ev,h1,h2,h3,h4,h5⟩:=h
      subst ev
      have hp:∀ b,decide (b = a) = true→O b = some i∧G b = none∧H0 b = none:=fun b z=>by obtain rfl:=of_decide_eq_true z; exact ⟨h4,h2,h3⟩
      refine ⟨_,S.Es q (fun b=>decide (b = a)) hp hv (.dK (by unfold fY; rw [if_pos (by simp)]; exact h1) (h5.mono (dZ fun b z=>(hp b z).2.1))),fun b=>?_⟩
      unfold fY
      by_cases z:b = a
      · subst z
        exact .inr ⟨h2,_,by rw [if_pos (by simp)]; exact h1,rfl⟩
      · exact .inl (if_neg (by simp [z]))
    | odT ds=>exact absurd (hl _ e) (by simp [lends])
    | omx ds=>exact absurd (hl _ e) (by simp [lends])
  · exact ⟨G,S,fun _=>.inl rfl⟩
end
section
variable {X:Cx} {Γ:Nat→Option Addr} {E:XK} {e:Expr}
def QR (i:Nat) (f:DSt→Out D):DSt→Out D:=fun δ=>match δ[i]? with
  | some (some s)=>if lends s = true then (f (frz i δ)).bA.bind fun d=>if noL d = true then .ok d else .stuck else .stuck
  | _=>.stuck
theorem ab3 (i:Nat) {f:DSt→Out D} (h:DE X Γ E e f):DE X Γ E e (QR i f):=PE.imp h fun σ H Q ⟨G0,H0,G,δ,S,w⟩=>by
  unfold QR at w
  split at w
  · rename_i s es
    by_cases hl:lends s = true
    · rw [if_pos hl] at w
      obtain ⟨G',S',hG⟩:=S.lend i (fun s' e'=>by rw [es] at e'; cases e'; exact hl)
      refine ⟨G0,H0,G',_,S',(fK (au w)).mono (fun d w v G1 H1 s1 r1=>?_) fun _ k=>k⟩
      by_cases hd:noL d = true
      · rw [if_pos hd] at w
        have key:∀ b,(∃ o,G' b = some o∧Fd o = true)∧G b = none ∨ G' b = G b:=fun b=>by
          rcases hG b with z | ⟨z1,z2⟩
          · exact .inr z
          · exact .inl ⟨z2,z1⟩
        classical
        refine w v (fun b=>if G b = none∧G' b ≠ none then none else G1 b) H1 ⟨fun b o q=>?_,s1.hh,fun b o q=>?_,fun b hb g=>?_⟩ (r1.less (fun b o q n=>?_) hd)
        · rw [if_neg (fun z=>by rw [q] at z; cases z.1)]
          refine s1.gg b o ?_
          rcases key b with ⟨_,z⟩ | z
          · rw [q] at z; cases z
          · rw [z]; exact q
        · split at q
          · cases q
          · exact s1.gh b o q
        · split
          · rfl
          · rename_i nz
            have:G' b = none:=by
              cases z:G' b with
              | none=>rfl
              | some o=>exact absurd ⟨g,by rw [z]; exact fun z=>nomatch z⟩ nz
            exact s1.sep b hb this
        · rw [if_neg fun z=>?_]
          · exact q
          · rcases key b with ⟨⟨o',z1,z3⟩,_⟩ | z1
            · have:=s1.gg b _ z1
              rw [q] at this
              rw [Option.some.inj this,z3] at n
              cases n
            · exact z.2 (z1.trans z.1)
      · rw [if_neg hd] at w
        exact False.elim w
    · rw [if_neg hl] at w
      exact False.elim w
  · exact False.elim w
end
end DL
namespace DL
open PySem PySem.Spec PyProof.Rows MX L2
def keyD:D→Option Key
  | .int i=>some (.inl i)
  | .str x=>some (.inr x)
  | _=>none
def Bp (kvs:List (Key × D)) (k:Key):Bool:=kvs.any fun kv=>decide (kv.1 = k)
def BW (kvs:List (Key × D)) (k:Key) (v:D):List (Key × D) :=
  if (kvs.any fun kv=>decide (kv.1 = k)) = true then kvs.map (fun kv=>if kv.1 = k then (kv.1,v) else kv) else kvs ++ [(k,v)]
section
variable {X:Cx} {Γ:Nat→Option Addr} {E:XK} {e a b c:Expr} {pos:Pos} {es:List Expr} {fa fb:DSt→Out D} {fr:DSt→Out (List D)} {ft:DSt→Out Bool} {K:PySem.W.Frag} {G H:Hp}
theorem Rep.key {v:V} {d:D} {k:Key} (r:Rep K Γ G v d) (e:keyD d = some k):v = kV k:=by
  cases r <;> simp only [keyD] at e <;> cases e <;> rfl
theorem iY.any {k:Key}:∀ {kvs:List (Key × V)} {kds:List (Key × D)},iY K Γ G kvs kds→(kvs.any fun kv=>decide (kv.1 = k)) = (kds.any fun kv=>decide (kv.1 = k))
  | _,_,.nil=>rfl
  | _,_,.cons h r=>by rw [List.any_cons,List.any_cons,r.any]
theorem iY.snoc {k:Key} {v:V} {d:D} (h:Rep K Γ G v d):∀ {kvs:List (Key × V)} {kds:List (Key × D)},iY K Γ G kvs kds→iY K Γ G (kvs ++ [(k,v)]) (kds ++ [(k,d)])
  | _,_,.nil=>.cons h .nil
  | _,_,.cons h' r=>.cons h' (r.snoc h)
theorem iY.repl {k:Key} {v:V} {d:D} (h:Rep K Γ G v d):∀ {kvs:List (Key × V)} {kds:List (Key × D)},iY K Γ G kvs kds→iY K Γ G (kvs.map fun kv=>if kv.1 = k then (kv.1,v) else kv) (kds.map fun kv=>if kv.1 = k then (kv.1,d) else kv)
  | _,_,.nil=>.nil
  | _,_,.cons (k:=k') h' r=>by
    rw [List.map_cons,List.map_cons]
    by_cases z:k' = k
    · simp only [z,if_true]; exact .cons h (r.repl h)
    · simp only [z,if_false]; exact .cons h' (r.repl h)
theorem iY.put {k:Key} {v:V} {d:D} (h:Rep K Γ G v d) {kvs:List (Key × V)} {kds:List (Key × D)} (r:iY K Γ G kvs kds):iY K Γ G (putK kvs k v) (BW kds k d):=by
  unfold putK BW
  rw [r.any]
  split
  · exact r.repl h
  · exact r.snoc h
theorem iY.length:∀ {kvs:List (Key × V)} {kds:List (Key × D)},iY K Γ G kvs kds→kvs.length = kds.length
  | _,_,.nil=>rfl
  | _,_,.cons _ r=>by rw [List.length_cons,List.length_cons,r.length]
theorem SR.setd {G0 H0 G' H':Hp} {σ:L2.St} {δ:DSt} (S:SR K Γ G0 H0 G H σ δ) (s:Step G H G' H') {i:Nat} {a:Addr} {vs:List (Key × V)} {ds:List (Key × D)} (f:H a = none) (h:H' a = some (.dK vs)) (g:G' a = none) (r:iY K Γ G' vs ds) :
    SR K Γ G0 H0 G' H' (σ.set i (some (.ref a))) (δ.set i (some (.od ds))):=by
  obtain ⟨O,q⟩:=id S.sl
  have S':=S.step s
  have k:∀ b,H b ≠ none→(fun b=>if b = a then some i else O b) b = O b:=fun b hb=>by
    have:b ≠ a:=fun z=>hb (z ▸ f)
    simp [this]
  refine ⟨S'.st,by rw [List.length_set,List.length_set]; exact S.len,Slots.put S.len (O:=fun b=>if b = a then some i else O b) (fun j x e ij=>?_) ⟨a,vs,rfl,h,g,aQ S.st.hh f,by simp,r⟩⟩
  obtain ⟨v,h1,h2⟩:=q j x e
  exact ⟨v,h1,(h2.reO k).step s⟩
def abH (i:Nat):DSt→Out Fl:=fun δ=>.ok (.nx (δ.set i (some (.od []))))
theorem YW (i:Nat) {x:Str} {pos' p:Pos} (hh:∀ {te:TE},PE X (.Dict [] [] p) te→PS X (.Assign [.Name x pos'] (.Dict [] [] p) pos) (tAsg te (Et i))):DS X Γ E (.Assign [.Name x pos'] (.Dict [] [] p) pos) (abH i) :=
  PS.imp (hh pe_dnewK) fun N σ H ⟨G0,H0,G,δ,S,w⟩=>fun q hq=>w _ G _ (S.setd (.aside S.st.gh hq) hq aW (aQ S.st.gh hq) .nil)
def SJ (i:Nat) (fk:DSt→Out D):DSt→Out Bool:=fun δ=>(fk δ).bind fun k=>match keyD k,δ[i]? with
  | some key,some (some (.od kvs))=>.ok (!Bp kvs key)
  | _,_=>.stuck
theorem iY.has {k:Key} {kvs:List (Key × V)} {kds:List (Key × D)} (r:iY K Γ G kvs kds):(xT kvs k).isSome = Bp kds k:=by
  unfold Bp
  rw [← Lr,r.any]
theorem acF (i:Nat) {x:Str} {p:Pos} (hu:X.A.units + 64 < cLine) (hv:PE X (.Name x p) (vq i)) (ha:DE X Γ E a fa) (hm:behindInMarks .NotIn (.Name x p) = false:=by rfl):DT X Γ E (.Compare a [.NotIn] [.Name x p] pos) (SJ i fa) :=
  PT.imp (pt_cmp (QT (by omega) ha hv) hm) fun σ H Q ⟨G0,H0,G,δ,S,w⟩=>by
    refine ⟨G0,H0,G,δ,S,(au w).mono (fun d w v G1 H1 s1 r1=>?_) fun _ k=>k⟩
    split at w
    · rename_i key kvs ek ei
      obtain ⟨O,q⟩:=(S.step s1).sl
      obtain ⟨u,hu,aa,vs,ev,h1,h2,h3,h4,h5⟩:=q i _ ei
      subst ev
      have e:=r1.key ek
      subst e
      refine ⟨_,hu,aa,xT vs key,rfl,yl.k h1,_,rfl,?_⟩
      rw [h5.has]
      exact w G1 H1 s1
    · exact False.elim w
def K5 (i:Nat) (fv fk:DSt→Out D):DSt→Out Fl:=fun δ=>(fv δ).bind fun v=>match δ[i]? with
  | some (some (.od kvs))=>(fk δ).bind fun k=>match keyD k with
    | some key=>if kvs.length < sizeLine then .ok (.nx (δ.set i (some (.od (BW kvs key v))))) else .stuck
    | none=>.stuck
  | _=>.stuck
theorem ab4 (i:Nat) {x:Str} {p p2:Pos} (hu:X.A.units + 64 < cLine) (hv:PE X (.Name x p) (vq i)) (he:DE X Γ E e fa) (hb:DE X Γ E b fb) (hs:swapsWith e (some (.Subscript (.Name x p) b p2)) pos.line X.env = pure false:=by rfl) :
    DS X Γ E (.Assign [.Subscript (.Name x p) b p2] e pos) (K5 i fa fb) :=
  PS.imp (ps_dput (by omega) hv hb he hs) fun N σ H ⟨G0,H0,G,δ,S,w⟩=>by
    refine ⟨G0,H0,G,δ,S,(au w).mono (fun d w u G1 H1 s1 r1=>?_) fun x k=>exD.step k S.st⟩
    have S1:=S.step s1
    obtain ⟨O,q⟩:=id S1.sl
    split at w
    · rename_i kvs ei
      obtain ⟨v,hvi,aa,vs,ev,h1,h2,h3,h4,h5⟩:=id (q i _ ei)
      subst ev
      refine ⟨_,hvi,G0,H0,G1,δ,S1,(au w).mono (fun d2 w u2 G2 H2 s2 r2=>?_) fun x k=>exD.step k S1.st⟩
      split at w
      · rename_i key ek
        split at w
        · rename_i hz
          have S2:=S1.step s2
          have q1:∀ i s,δ[i]? = some (some s)→∃ v,σ[i]? = some (some v)∧dg X.K Γ H0 G2 H2 O i v s:=fun j y e=>by
            obtain ⟨v',z1,z2⟩:=q j y e
            exact ⟨v',z1,z2.step s2⟩
          have ga:G2 aa = none:=s2.sep aa (by rw [h1]; exact fun z=>nomatch z) h2
          have e:=r2.key ek
          subst e
          refine ⟨aa,_,rfl,DPut.k (s2.hh _ _ h1) (by rw [h5.length]; exact hz),w σ G2 _ (S2.write q1 ga h3 h4 hvi ⟨aa,_,rfl,aW,ga,h3,h4,iY.put (r1.mono s2.gg) (h5.mono s2.gg)⟩)⟩
        · exact False.elim w
      · exact False.elim w
    · exact False.elim w
def repL (fa fb:DSt→Out D):DSt→Out (List D):=fun δ=>(fa δ).bind fun x=>(fb δ).bind fun y=>match x,y with
  | .lst i,.int j=>if -(2 ^ 63) ≤ j∧j < 2 ^ 63∧i.length * j.toNat ≤ sizeLine then .ok (List.replicate j.toNat i).flatten else .stuck
  | _,_=>.stuck
theorem df_rep (ha:DE X Γ E a fa) (hb:DE X Γ E b fb):DF X Γ E (.BinOp a .Mult b pos) (repL fa fb):=PE.imp (Kw op_rep ha hb) fun σ H Q ⟨G0,H0,G,δ,S,w⟩=>by
  refine ⟨G0,H0,G,δ,S,(au w).mono (fun x w v G1 H1 s1 r1=>?_) fun _ k=>k⟩
  refine ⟨G0,H0,G1,δ,S.step s1,(au w).mono (fun y w u G2 H2 s2 r2=>?_) fun _ k=>k.step s1⟩
  split at w
  · split at w
    · rename_i h
      cases r2
      cases r1 with
      | lst h1 r1 =>
        refine ⟨_,_,_,rfl,rfl,s2.gh _ _ (s2.gg _ _ h1),h.1,h.2.1,by rw [r1.length]; exact h.2.2,fun l hl=>?_⟩
        have st:=(s1.trans s2)
        exact w l _ G2 _ (st.trans (.aside st.gh hl)) (aQ st.hh hl) aW (aQ st.gh hl) ((r1.rep _).mono s2.gg)
    · exact False.elim w
  · exact False.elim w
end
end DL
namespace DL
open PySem PySem.Spec PyProof.Rows MX L2
theorem bF {X:Cx} {E:XK}:qz CX0 X E:=fun _ _ _ _ _ _ _ h=>h.elim
def dkOf (i:Nat) (δ:DSt):Option (List (Key × D)):=match δ[i]? with
  | some (some (.od kvs))=>some kvs
  | some (some (.sh (.dK kvs)))=>some kvs
  | _=>none
def iK (kvs:List (Key × D)) (k:Key):Option D:=(kvs.find? fun kv=>decide (kv.1 = k)).map (·.2)
section
variable {X:Cx} {Γ:Nat→Option Addr} {E:XK} {e a b c:Expr} {pos:Pos} {es:List Expr} {fa fb:DSt→Out D} {fr:DSt→Out (List D)} {ft:DSt→Out Bool} {K:PySem.W.Frag} {G H:Hp}
theorem iY.get {k:Key}:∀ {kvs:List (Key × V)} {kds:List (Key × D)},iY K Γ G kvs kds→(xT kvs k = none∧iK kds k = none) ∨ ∃ v d,xT kvs k = some v∧iK kds k = some d∧Rep K Γ G v d
  | _,_,.nil=>.inl ⟨rfl,rfl⟩
  | _,_,.cons (k:=k') (v:=v) (d:=d) (fds:=fds) h r=>by
    by_cases z:k' = k
    · exact .inr ⟨v,d,Cm z,by simp [iK,List.find?_cons,z],h⟩
    · rw [Ck (p:=(k',v)) z,show iK ((k',d) :: fds) k = iK fds k by simp [iK,List.find?_cons,z]]
      exact r.get
theorem SR.dk {G0 H0:Hp} {σ:L2.St} {δ:DSt} {i:Nat} {kds:List (Key × D)} (S:SR K Γ G0 H0 G H σ δ) (e:dkOf i δ = some kds):∃ a vs,σ[i]? = some (some (.ref a))∧H a = some (.dK vs)∧iY K Γ G vs kds:=by
  obtain ⟨O,q⟩:=S.sl
  unfold dkOf at e
  split at e
  · rename_i kvs ei
    cases e
    obtain ⟨v,hv,a,vs,ev,h1,h2,h3,h4,h5⟩:=q i _ ei
    subst ev
    exact ⟨a,vs,hv,h1,h5⟩
  · rename_i kvs ei
    cases e
    obtain ⟨v,hv,h⟩:=q i _ ei
    have h:Rep K Γ G v (.dK kds):=h
    cases h with
    | dK h' r=>exact ⟨_,_,hv,S.st.gh _ _ h',r⟩
  · cases e
def Yz (i:Nat) (fk:DSt→Out D):DSt→Out D:=fun δ=>match dkOf i δ with
  | some kvs=>(fk δ).bind fun k=>match keyD k with
    | some key=>.ok ((iK kvs key).getD .non)
    | none=>.stuck
  | none=>.stuck
def yR (i:Nat) (fk fx:DSt→Out D):DSt→Out D:=fun δ=>match dkOf i δ with
  | some kvs=>(fk δ).bind fun k=>(fx δ).bind fun x=>match keyD k with
    | some key=>.ok ((iK kvs key).getD x)
    | none=>.stuck
  | none=>.stuck
theorem de_dget1 (i:Nat) {x:Str} {p apos cpos:Pos} (hu:X.A.units + 64 < cLine) (hv:PE X (.Name x p) (vq i)) (ha:DE X Γ E a fa) (m:M1 X (.Name x p) "get" apos a cpos):DE X Γ E (.Call (.Attribute (.Name x p) "get" apos) [a] [] cpos) (Yz i fa) :=
  PE.imp (pe_dget1 (by omega) hv ha m) fun σ H Q ⟨G0,H0,G,δ,S,w⟩=>by
    unfold Yz at w
    split at w
    · rename_i kds ek
      obtain ⟨aa,vs,hvi,h1,r⟩:=S.dk ek
      refine ⟨_,hvi,aa,rfl,.inl ⟨vs,.inl h1⟩,G0,H0,G,δ,S,(au w).mono (fun d w u G1 H1 s1 r1=>?_) fun _ k=>k⟩
      split at w
      · rename_i key ekey
        have e:=r1.key ekey
        subst e
        rcases (r.mono s1.gg).get (k:=key) with ⟨z1,z2⟩ | ⟨v,d',z1,z2,z3⟩
        · refine ⟨_,yl.k (s1.hh _ _ h1),?_⟩
          rw [z1]
          rw [z2] at w
          exact w _ G1 H1 s1 .non
        · refine ⟨_,yl.k (s1.hh _ _ h1),?_⟩
          rw [z1]
          rw [z2] at w
          exact w _ G1 H1 s1 z3
      · exact False.elim w
    · exact False.elim w
theorem YH (i:Nat) {x:Str} {p apos cpos:Pos} (hu:X.A.units + 64 < cLine) (hv:PE X (.Name x p) (vq i)) (ha:DE X Γ E a fa) (hb:DE X Γ E b fb) (m:M2 X (.Name x p) "get" apos a b cpos):DE X Γ E (.Call (.Attribute (.Name x p) "get" apos) [a,b] [] cpos) (yR i fa fb) :=
  PE.imp (pe_dget2 (by omega) hv ha hb m) fun σ H Q ⟨G0,H0,G,δ,S,w⟩=>by
    unfold yR at w
    split at w
    · rename_i kds ek
      obtain ⟨aa,vs,hvi,h1,r⟩:=S.dk ek
      refine ⟨_,hvi,aa,rfl,.inl ⟨vs,.inl h1⟩,G0,H0,G,δ,S,(au w).mono (fun d w u G1 H1 s1 r1=>?_) fun _ k=>k⟩
      refine ⟨G0,H0,G1,δ,S.step s1,(au w).mono (fun d2 w u2 G2 H2 s2 r2=>?_) fun _ k=>k.step s1⟩
      split at w
      · rename_i key ekey
        have e:=r1.key ekey
        subst e
        rcases ((r.mono s1.gg).mono s2.gg).get (k:=key) with ⟨z1,z2⟩ | ⟨v,d',z1,z2,z3⟩
        · refine ⟨_,yl.k (s2.hh _ _ (s1.hh _ _ h1)),?_⟩
          rw [z1]
          rw [z2] at w
          exact w _ G2 H2 (s1.trans s2) r2
        · refine ⟨_,yl.k (s2.hh _ _ (s1.hh _ _ h1)),?_⟩
          rw [z1]
          rw [z2] at w
          exact w _ G2 H2 (s1.trans s2) z3
      · exact False.elim w
    · exact False.elim w
def xV (i:Nat) (fk:DSt→Out D):DSt→Out Bool:=fun δ=>(fk δ).bind fun k=>match keyD k,dkOf i δ with
  | some key,some kvs=>.ok (!Bp kvs key)
  | _,_=>.stuck
theorem aaZ (i:Nat) {x:Str} {p:Pos} (hu:X.A.units + 64 < cLine) (hv:PE X (.Name x p) (vq i)) (ha:DE X Γ E a fa) (hm:behindInMarks .NotIn (.Name x p) = false:=by rfl):DT X Γ E (.Compare a [.NotIn] [.Name x p] pos) (xV i fa) :=
  PT.imp (pt_cmp (QT (by omega) ha hv) hm) fun σ H Q ⟨G0,H0,G,δ,S,w⟩=>by
    refine ⟨G0,H0,G,δ,S,(au w).mono (fun d w v G1 H1 s1 r1=>?_) fun _ k=>k⟩
    split at w
    · rename_i key kvs ek ei
      obtain ⟨aa,vs,hvi,h1,r⟩:=(S.step s1).dk ei
      have e:=r1.key ek
      subst e
      refine ⟨_,hvi,aa,xT vs key,rfl,yl.k h1,_,rfl,?_⟩
      rw [r.has]
      exact w G1 H1 s1
    · exact False.elim w
def powD:D→D→Option D
  | .int i,.int j=>if 0 ≤ j∧j ≤ 1000000∧i.natAbs < 2 ^ 64 then some (.int (i ^ j.toNat)) else none
  | _,_=>none
theorem de_pow (ha:DE X Γ E a fa) (hb:DE X Γ E b fb):DE X Γ E (.BinOp a .Pow b pos) (o2 powD fa fb):=d2 (fun G H x y dx dy d Q s rx ry e k=>by
  unfold powD at e
  split at e
  · split at e
    · rename_i h; cases e; cases rx; cases ry; exact ⟨_,_,rfl,rfl,h,k _ G H (.refl s) (.int _)⟩
    · cases e
  · cases e) (Kw op_pow ha hb)
theorem acY:OpR X (compareOp .IsNot) (fun x y H Q=>∃ c d,x = .bl c∧y = .bl d∧Q (.bl (c != d)) H):=by
  intro pins s σ H x y v u Q I rx ry h
  obtain ⟨c,d,rfl,rfl,q⟩:=h
  cases rx; cases ry
  exact isnot_bool (Ub I q rfl)
def Ka:D→D→Option Bool
  | .bl c,.bl d=>some (c != d)
  | _,_=>none
theorem aaW {K:PySem.W.Frag}:DRB K Γ (fun x y H Q=>∃ c d,x = .bl c∧y = .bl d∧Q (.bl (c != d)) H) Ka:=fun H x y dx dy b Q rx ry e k=>by
  unfold Ka at e
  split at e
  · cases e; cases rx; cases ry; exact ⟨_,_,rfl,rfl,k⟩
  · cases e
theorem Qz (ha:DB X Γ E a fa) (hb:DB X Γ E b fb):DT X Γ E (.Compare a [.IsNot] [b] pos) (o2b Ka fa fb):=d2t aaW (uU acY ha hb (mQ _))
end
section
variable {X:Cx} {Γ:Nat→Option Addr} {E:XK} {e:Expr} {K:PySem.W.Frag}
theorem acR {G G' G1 H H1:Hp} (hG:∀ b,G' b = G b ∨ (G b = none∧∃ o,G' b = some o∧Fd o = true)) (s1:Step G' H G1 H1):∃ G2,Step G H G2 H1∧(∀ b o,G1 b = some o→Fd o = false→G2 b = some o)∧∀ b,G1 b = none→G2 b = none:=by
  have key:∀ b,(∃ o,G' b = some o∧Fd o = true)∧G b = none ∨ G' b = G b:=fun b=>by
    rcases hG b with z | ⟨z1,z2⟩
    · exact .inr z
    · exact .inl ⟨z2,z1⟩
  classical
  refine ⟨fun b=>if G b = none∧G' b ≠ none then none else G1 b,⟨fun b o q=>?_,s1.hh,fun b o q=>?_,fun b hb g=>?_⟩,fun b o q n=>?_,fun b z=>?_⟩
  · rw [if_neg (fun z=>by rw [q] at z; cases z.1)]
    refine s1.gg b o ?_
    rcases key b with ⟨_,z⟩ | z
    · rw [q] at z; cases z
    · rw [z]; exact q
  · split at q
    · cases q
    · exact s1.gh b o q
  · split
    · rfl
    · rename_i nz
      have:G' b = none:=by
        cases z:G' b with
        | none=>rfl
        | some o=>exact absurd ⟨g,by rw [z]; exact fun z=>nomatch z⟩ nz
      exact s1.sep b hb this
  · dsimp only
    rw [if_neg fun z=>?_]
    · exact q
    · rcases key b with ⟨⟨o',z1,z3⟩,_⟩ | z1
      · have:=s1.gg b _ z1
        rw [q] at this
        rw [Option.some.inj this,z3] at n
        cases n
      · exact z.2 (z1.trans z.1)
  · dsimp only
    split
    · rfl
    · exact z
def Zi (i:Nat) (f:DSt→Out (List D)):DSt→Out (List D):=fun δ=>match δ[i]? with
  | some (some s)=>if lends s = true then (f (frz i δ)).bA.bind fun d=>if J9 d = true then .ok d else .stuck else .stuck
  | _=>.stuck
theorem df_lent (i:Nat) {f:DSt→Out (List D)} (h:DF X Γ E e f):DF X Γ E e (Zi i f):=PE.imp h fun σ H Q ⟨G0,H0,G,δ,S,w⟩=>by
  unfold Zi at w
  split at w
  · rename_i s es
    by_cases hl:lends s = true
    · rw [if_pos hl] at w
      obtain ⟨G',S',hG⟩:=S.lend i (fun s' e'=>by rw [es] at e'; cases e'; exact hl)
      refine ⟨G0,H0,G',_,S',(fK (au w)).mono (fun d w a vs G1 H1 s1 fa ha ga r1=>?_) fun _ k=>k⟩
      by_cases hd:J9 d = true
      · rw [if_pos hd] at w
        obtain ⟨G2,s2,l2,n2⟩:=acR hG s1
        exact w a vs G2 H1 s2 fa ha (n2 _ ga) (r1.less l2 hd)
      · rw [if_neg hd] at w
        exact False.elim w
    · rw [if_neg hl] at w
      exact False.elim w
  · exact False.elim w
end
end DL
namespace K4
open PySem L2 MX DL
def top (i:Nat):Stmt:=PySem.Challenge.pw_mustmay_k42_ranked_rows_let_by.main.body.getD i (.Pass ⟨0,0,0,0⟩)
structure Ad where
  Door:Addr
  Must:Addr
  May:Addr
  Shut:Addr
  Torn:Addr
  Draft:Addr
def Ga (t:Ad):Nat→Option Addr:=fun c=>[t.Door,t.Must,t.May,t.Shut,t.Torn,t.Draft][c]?
abbrev lQ:Nat:=1
abbrev v7:Nat:=2
abbrev km:Nat:=3
abbrev kE:Nat:=4
abbrev aR:Nat:=5
def fC:D→Option Bool:=su "bool" []
def qg:D→Option Bool:=su "int" []
def gr:D→Option Bool:=su "list" []
def jY:D→Option Bool:=su "str" []
def jk:D→Option Bool:=su "tuple" []
structure Txt (K:PySem.W.Frag) (mg:Str→Option Value) (t:Ad):Prop where
  g_Door:mg "Door" = some (.ref t.Door)
  i_Door:pO K t.Door
  g_Must:mg "Must" = some (.ref t.Must)
  CW:pO K t.Must
  g_May:mg "May" = some (.ref t.May)
  QL:pO K t.May
  g_Shut:mg "Shut" = some (.ref t.Shut)
  CZ:pO K t.Shut
  g_Torn:mg "Torn" = some (.ref t.Torn)
  Dc:pO K t.Torn
  g_Draft:mg "Draft" = some (.ref t.Draft)
  uy:pO K t.Draft
  cR:dY K t.Draft "actions"
  cW:dY K t.Draft "rooms"
  lq:dY K t.May "to"
  je:dY K t.Must "to"
  jf:dY K t.Shut "to"
  jg:dY K t.Torn "to"
  b_all:mg "all" = none
  b_bool:mg "bool" = none
  vZ:mg "enumerate" = none
  b_int:mg "int" = none
  cJ:mg "isinstance" = none
  fZ:mg "len" = none
  CP:mg "list" = none
  b_min:mg "min" = none
  Ai:mg "range" = none
  b_set:mg "set" = none
  b_str:mg "str" = none
  Hf:mg "tuple" = none
  fC:HJ K (Ga t) (.ty "bool") fC
  qg:HJ K (Ga t) (.ty "int") qg
  gr:HJ K (Ga t) (.ty "list") gr
  jY:HJ K (Ga t) (.ty "str") jY
  jk:HJ K (Ga t) (.ty "tuple") jk
  rW:∃ u,mg "LETTERS" = some u∧RelV (.str "abcdefghijklmnopqrstuvwxyz") u
  gk:∃ u,mg "MOST_ACTIONS" = some u∧RelV (.int 8) u
  jN:∃ u,mg "MOST_ROOMS" = some u∧RelV (.int 2000) u
  jO:∃ u,mg "MOST_SIGNS" = some u∧RelV (.int 8) u
section
variable {P:Program} {w:World} {K:PySem.W.Frag} {mg:Str→Option Value} {base:Heap} {t:Ad}
abbrev jt:Stmt:=inClass (top 2) 0
abbrev jy:Stmt:=inClass (top 5) 0
abbrev jA:Stmt:=inClass (top 6) 0
def vI:List D→Out (List (Str × D)):=fun ds=>match ds with
  | [d]=>.ok [("to",d)]
  | _=>.stuck
def Qm:List D→Out (List (Str × D)):=vI
def vJ:List D→Out (List (Str × D)):=fun ds=>match ds with
  | []=>.ok [("to",.non)]
  | _=>.stuck
def zj:List D→Out (List (Str × D)):=vJ
def Xh (K:PySem.W.Frag):Sp:=fun vs H Q _=>∃ a C dx v,vs = [.ref a,v]∧H a = some (.ins C dx [])∧Cls K C∧dY K C "to"∧Q .non (upd H a (.ins C dx [("to",v)]))
theorem WM:aO ["self","to"] ["self","to"] (ak jt):=⟨rfl,rfl,rfl,by decide +kernel,rfl,by decide +kernel,by decide +kernel⟩
theorem VP {f:Addr} {fd:FuncData} (F:L2.Fun K "__init__" "Door.__init__" jt f fd):bC P w K mg base CX0 1 f fd ["self","to"] (Xh K):=by
  refine F.ok WM (fun vs H Q E h=>?_) (fun cdv A outer s H vs Q E hr h=>?_)
  · obtain ⟨a,C,dx,v,rfl,_⟩:=h
    rfl
  · obtain ⟨a,C,dx,v,rfl,hH,cl,na,q⟩:=h
    refine ⟨_,yj (abE (pv 0) (pv 1) rfl),?_⟩
    exact ⟨_,rfl,_,rfl,a,C,dx,_,rfl,hH,cl,na,(by decide),q⟩
theorem Xi {K:PySem.W.Frag} {Γ:Nat→Option Addr} {G H:Hp} {a C dx:Addr} {v:V} {d:D} {f:Str} {Q:VK} (ga:G a = none) (sg:bx G H) (r:Rep K Γ G v d)
    (w:∀ fs G' H',bx G G'→(∀ b o,H b = some o→b ≠ a→H' b = some o)→bx G' H'→(∀ b,H b ≠ none→G b = none→G' b = none)→H' a = some (.ins C dx fs)→jM K Γ G' fs [(f,d)]→Q .non H'):Q .non (upd H a (.ins C dx [(f,v)])) :=
  w [(f,v)] G _ (bx.refl _) (fun b o e hb=>by rw [aV hb]; exact e) (fun b o e=>by rw [aV (aY e ga)]; exact sg _ _ e) (fun _ _ g=>g) aW (.cons r .nil)
theorem ok_to {c:Nat} {f C0:Addr} {fd:FuncData} (F:bC P w K mg base CX0 1 f fd ["self","to"] (Xh K)) (hc:Ga t c = some C0) (cl:Cls K C0) (na:dY K C0 "to"):bC P w K mg base CX0 1 f fd ["self","to"] (spI K (Ga t) c 1 vI):=F.imp fun vs H Q E h=>by
  obtain ⟨hl,a,dx,C,us,G,ds,rfl,hH,hC,ga,sg,r,w⟩:=h
  rw [hc] at hC
  cases hC
  cases r with
  | nil=>cases hl
  | cons r1 r2 =>
    cases r2 with
    | cons _ _=>cases hl
    | nil=>exact ⟨a,C0,dx,_,rfl,hH,cl,na,Xi ga sg r1 w⟩
theorem WR:aO ["self"] ["self"] (ak jy):=⟨rfl,rfl,rfl,by decide +kernel,rfl,by decide +kernel,by decide +kernel⟩
theorem WW:aO ["self"] ["self"] (ak jA):=⟨rfl,rfl,rfl,by decide +kernel,rfl,by decide +kernel,by decide +kernel⟩
theorem V1 {f fD:Addr} {fd fdD:FuncData} (F:L2.Fun K "__init__" "Shut.__init__" jy f fd) (T:Txt K mg t) (G0:bC P w K mg base CX0 1 fD fdD ["self","to"] (Xh K)) (ca:Hc K t.Door "__init__" (.ref fD)) (hk:PySem.W.keepIn K (.ref fD) = true) (hb:Binds K fdD ["self","to"] []):bC P w K mg base CX0 2 f fd ["self"] (spI K (Ga t) km 0 vJ):=by
  refine F.ok WR (fun vs H Q E h=>h.1) (fun cdv A outer s H vs Q E hr h=>?_)
  obtain ⟨hl,a,dx,C,us,G,ds,rfl,hH,hC,ga,sg,r,w⟩:=h
  cases hC
  cases r with
  | cons _ _=>cases hl
  | nil =>
    refine ⟨_,yj (uT (ZD G0 hr rfl T.g_Door ca hk hb .nil pass0 (cB (pv 0) (cB abw iG)))),?_⟩
    exact ⟨_,rfl,a,_,dx,_,rfl,hH,T.CZ.cls,T.jf,Xi ga sg .non w⟩
theorem V3 {f fD:Addr} {fd fdD:FuncData} (F:L2.Fun K "__init__" "Torn.__init__" jA f fd) (T:Txt K mg t) (G0:bC P w K mg base CX0 1 fD fdD ["self","to"] (Xh K)) (ca:Hc K t.Door "__init__" (.ref fD)) (hk:PySem.W.keepIn K (.ref fD) = true) (hb:Binds K fdD ["self","to"] []):bC P w K mg base CX0 2 f fd ["self"] (spI K (Ga t) kE 0 zj):=by
  refine F.ok WW (fun vs H Q E h=>h.1) (fun cdv A outer s H vs Q E hr h=>?_)
  obtain ⟨hl,a,dx,C,us,G,ds,rfl,hH,hC,ga,sg,r,w⟩:=h
  cases hC
  cases r with
  | cons _ _=>cases hl
  | nil =>
    refine ⟨_,yj (uT (ZD G0 hr rfl T.g_Door ca hk hb .nil pass0 (cB (pv 0) (cB abw iG)))),?_⟩
    exact ⟨_,rfl,a,_,dx,_,rfl,hH,T.Dc.cls,T.jg,Xi ga sg .non w⟩
abbrev jx:Stmt:=inClass (top 3) 0
theorem WQ:aO ["self"] ["self"] (ak jx):=⟨rfl,rfl,rfl,by decide +kernel,rfl,by decide +kernel,by decide +kernel⟩
def Eu:DSt→Out Fl:=(bB (kc (.str "must")))
def vD:List D→Out D:=fun ds=>(cX 1 Eu ds).bA
theorem V0 {f:Addr} {fd:FuncData} (F:L2.Fun K "word" "Must.word" jx f fd) (T:Txt K mg t) :bC P w K mg base CX0 1 f fd ["self"] (spD K (Ga t) 1 vD):=by
  refine DL.Fun.okD F WQ fun cdv A outer s H E hr=>?_
  exact (aB (aL cL))
abbrev lu:Stmt:=inClass (top 4) 0
theorem ZS:aO ["self"] ["self"] (ak lu):=⟨rfl,rfl,rfl,by decide +kernel,rfl,by decide +kernel,by decide +kernel⟩
def JG:DSt→Out Fl:=(bB (kc (.str "may")))
def zg:List D→Out D:=fun ds=>(cX 1 JG ds).bA
theorem Zw {f:Addr} {fd:FuncData} (F:L2.Fun K "word" "May.word" lu f fd) (T:Txt K mg t) :bC P w K mg base CX0 1 f fd ["self"] (spD K (Ga t) 1 zg):=by
  refine DL.Fun.okD F ZS fun cdv A outer s H E hr=>?_
  exact (aB (aL cL))
abbrev jz:Stmt:=inClass (top 5) 1
theorem WT:aO ["self"] ["self"] (ak jz):=⟨rfl,rfl,rfl,by decide +kernel,rfl,by decide +kernel,by decide +kernel⟩
def Ew:DSt→Out Fl:=(bB (kc (.str "shut")))
def vG:List D→Out D:=fun ds=>(cX 1 Ew ds).bA
theorem V2 {f:Addr} {fd:FuncData} (F:L2.Fun K "word" "Shut.word" jz f fd) (T:Txt K mg t) :bC P w K mg base CX0 1 f fd ["self"] (spD K (Ga t) 1 vG):=by
  refine DL.Fun.okD F WT fun cdv A outer s H E hr=>?_
  exact (aB (aL cL))
abbrev jB:Stmt:=inClass (top 6) 1
theorem WX:aO ["self"] ["self"] (ak jB):=⟨rfl,rfl,rfl,by decide +kernel,rfl,by decide +kernel,by decide +kernel⟩
def Ex:DSt→Out Fl:=(bB (kc (.str "torn")))
def vH:List D→Out D:=fun ds=>(cX 1 Ex ds).bA
theorem V4 {f:Addr} {fd:FuncData} (F:L2.Fun K "word" "Torn.word" jB f fd) (T:Txt K mg t) :bC P w K mg base CX0 1 f fd ["self"] (spD K (Ga t) 1 vH):=by
  refine DL.Fun.okD F WX fun cdv A outer s H E hr=>?_
  exact (aB (aL cL))
def iT:List (Nat × (List D→Out D)):=[(lQ,vD),(v7,zg),(km,vG),(kE,vH)]
abbrev g8:Stmt:=inClass (top 3) 1
theorem PL:aO ["self"] ["self"] (ak g8):=⟨rfl,rfl,rfl,by decide +kernel,rfl,by decide +kernel,by decide +kernel⟩
def Ug:DSt→Out Fl:=(bB (kc (.bl true)))
def Q5:List D→Out D:=fun ds=>(cX 1 Ug ds).bA
theorem O2 {f:Addr} {fd:FuncData} (F:L2.Fun K "needs" "Must.needs" g8 f fd) (T:Txt K mg t) :bC P w K mg base CX0 1 f fd ["self"] (spD K (Ga t) 1 Q5):=by
  refine DL.Fun.okD F PL fun cdv A outer s H E hr=>?_
  exact (aB (aL iz))
abbrev jw:Stmt:=inClass (top 4) 1
theorem WP:aO ["self"] ["self"] (ak jw):=⟨rfl,rfl,rfl,by decide +kernel,rfl,by decide +kernel,by decide +kernel⟩
def Y6:DSt→Out Fl:=(bB (kc (.bl false)))
def Xw:List D→Out D:=fun ds=>(cX 1 Y6 ds).bA
theorem VV {f:Addr} {fd:FuncData} (F:L2.Fun K "needs" "May.needs" jw f fd) (T:Txt K mg t) :bC P w K mg base CX0 1 f fd ["self"] (spD K (Ga t) 1 Xw):=by
  refine DL.Fun.okD F WP fun cdv A outer s H E hr=>?_
  exact (aB (aL iz))
abbrev ig:Stmt:=inClass (top 5) 2
theorem PN:aO ["self"] ["self"] (ak ig):=⟨rfl,rfl,rfl,by decide +kernel,rfl,by decide +kernel,by decide +kernel⟩
def Uh:DSt→Out Fl:=(bB (kc (.bl false)))
def Q6:List D→Out D:=fun ds=>(cX 1 Uh ds).bA
theorem O3 {f:Addr} {fd:FuncData} (F:L2.Fun K "needs" "Shut.needs" ig f fd) (T:Txt K mg t) :bC P w K mg base CX0 1 f fd ["self"] (spD K (Ga t) 1 Q6):=by
  refine DL.Fun.okD F PN fun cdv A outer s H E hr=>?_
  exact (aB (aL iz))
abbrev ik:Stmt:=inClass (top 6) 2
theorem PP:aO ["self"] ["self"] (ak ik):=⟨rfl,rfl,rfl,by decide +kernel,rfl,by decide +kernel,by decide +kernel⟩
def Ui:DSt→Out Fl:=(bB (kc (.bl true)))
def Q7:List D→Out D:=fun ds=>(cX 1 Ui ds).bA
theorem O4 {f:Addr} {fd:FuncData} (F:L2.Fun K "needs" "Torn.needs" ik f fd) (T:Txt K mg t) :bC P w K mg base CX0 1 f fd ["self"] (spD K (Ga t) 1 Q7):=by
  refine DL.Fun.okD F PP fun cdv A outer s H E hr=>?_
  exact (aB (aL iz))
abbrev fO:Stmt:=inClass (top 3) 2
theorem K7:aO ["self"] ["self"] (ak fO):=⟨rfl,rfl,rfl,by decide +kernel,rfl,by decide +kernel,by decide +kernel⟩
def NK:DSt→Out Fl:=(bB (kc (.bl true)))
def Lw:List D→Out D:=fun ds=>(cX 1 NK ds).bA
theorem Kp {f:Addr} {fd:FuncData} (F:L2.Fun K "allows" "Must.allows" fO f fd) (T:Txt K mg t) :bC P w K mg base CX0 1 f fd ["self"] (spD K (Ga t) 1 Lw):=by
  refine DL.Fun.okD F K7 fun cdv A outer s H E hr=>?_
  exact (aB (aL iz))
abbrev gZ:Stmt:=inClass (top 4) 2
theorem PK:aO ["self"] ["self"] (ak gZ):=⟨rfl,rfl,rfl,by decide +kernel,rfl,by decide +kernel,by decide +kernel⟩
def Ue:DSt→Out Fl:=(bB (kc (.bl true)))
def Q4:List D→Out D:=fun ds=>(cX 1 Ue ds).bA
theorem O1 {f:Addr} {fd:FuncData} (F:L2.Fun K "allows" "May.allows" gZ f fd) (T:Txt K mg t) :bC P w K mg base CX0 1 f fd ["self"] (spD K (Ga t) 1 Q4):=by
  refine DL.Fun.okD F PK fun cdv A outer s H E hr=>?_
  exact (aB (aL iz))
abbrev fP:Stmt:=inClass (top 5) 3
theorem K8:aO ["self"] ["self"] (ak fP):=⟨rfl,rfl,rfl,by decide +kernel,rfl,by decide +kernel,by decide +kernel⟩
def NP:DSt→Out Fl:=(bB (kc (.bl false)))
def Lx:List D→Out D:=fun ds=>(cX 1 NP ds).bA
theorem Kq {f:Addr} {fd:FuncData} (F:L2.Fun K "allows" "Shut.allows" fP f fd) (T:Txt K mg t) :bC P w K mg base CX0 1 f fd ["self"] (spD K (Ga t) 1 Lx):=by
  refine DL.Fun.okD F K8 fun cdv A outer s H E hr=>?_
  exact (aB (aL iz))
abbrev fQ:Stmt:=inClass (top 6) 3
theorem K9:aO ["self"] ["self"] (ak fQ):=⟨rfl,rfl,rfl,by decide +kernel,rfl,by decide +kernel,by decide +kernel⟩
def NQ:DSt→Out Fl:=(bB (kc (.bl false)))
def Ly:List D→Out D:=fun ds=>(cX 1 NQ ds).bA
theorem Kr {f:Addr} {fd:FuncData} (F:L2.Fun K "allows" "Torn.allows" fQ f fd) (T:Txt K mg t) :bC P w K mg base CX0 1 f fd ["self"] (spD K (Ga t) 1 Ly):=by
  refine DL.Fun.okD F K9 fun cdv A outer s H E hr=>?_
  exact (aB (aL iz))
abbrev lw:Stmt:=inClass (top 3) 3
theorem ZV:aO ["self","to"] ["self","to"] (ak lw):=⟨rfl,rfl,rfl,by decide +kernel,rfl,by decide +kernel,by decide +kernel⟩
def aa2:DSt→Out Fl:=(bB (oMk lQ 1 vI (aq (gv 1) aN)))
def aaa:List D→Out D:=fun ds=>(cX 2 aa2 ds).bA
theorem Zx {f:Addr} {fd:FuncData} (F:L2.Fun K "led" "Must.led" lw f fd) (T:Txt K mg t) (Cw:Ini P w K mg base t.Must 1 ["self","to"] (spI K (Ga t) lQ 1 vI)):bC P w K mg base CX0 3 f fd ["self","to"] (spD K (Ga t) 2 aaa):=by
  obtain ⟨f_Must,fd_Must,aak,aah,aaz⟩:=Cw.ex
  refine DL.Fun.okD F ZV fun cdv A outer s H E hr=>?_
  exact (aB (aL (YT (c:=lQ) rfl (BL aak aah (hr.mono (by decide)) rfl T.g_Must aaz .nil bF (ao (aj 1 (pv 1)) aJ)))))
abbrev nU:Stmt:=inClass (top 4) 3
theorem abJ:aO ["self","to"] ["self","to"] (ak nU):=⟨rfl,rfl,rfl,by decide +kernel,rfl,by decide +kernel,by decide +kernel⟩
def acG:DSt→Out Fl:=(bB (oMk v7 1 Qm (aq (gv 1) aN)))
def acu:List D→Out D:=fun ds=>(cX 2 acG ds).bA
theorem abq {f:Addr} {fd:FuncData} (F:L2.Fun K "led" "May.led" nU f fd) (T:Txt K mg t) (Qn:Ini P w K mg base t.May 1 ["self","to"] (spI K (Ga t) v7 1 Qm)):bC P w K mg base CX0 3 f fd ["self","to"] (spD K (Ga t) 2 acu):=by
  obtain ⟨f_May,fd_May,M_May,G_May,b_May⟩:=Qn.ex
  refine DL.Fun.okD F abJ fun cdv A outer s H E hr=>?_
  exact (aB (aL (YT (c:=v7) rfl (BL M_May G_May (hr.mono (by decide)) rfl T.g_May b_May .nil bF (ao (aj 1 (pv 1)) aJ)))))
abbrev lz:Stmt:=inClass (top 5) 4
theorem ZW:aO ["self","to"] ["self","to"] (ak lz):=⟨rfl,rfl,rfl,by decide +kernel,rfl,by decide +kernel,by decide +kernel⟩
def aa3:DSt→Out Fl:=(bB (oMk km 0 vJ aN))
def aab:List D→Out D:=fun ds=>(cX 2 aa3 ds).bA
theorem Zy {f:Addr} {fd:FuncData} (F:L2.Fun K "led" "Shut.led" lz f fd) (T:Txt K mg t) (Cy:Ini P w K mg base t.Shut 2 ["self"] (spI K (Ga t) km 0 vJ)):bC P w K mg base CX0 4 f fd ["self","to"] (spD K (Ga t) 2 aab):=by
  obtain ⟨f_Shut,fd_Shut,aal,aai,aaA⟩:=Cy.ex
  refine DL.Fun.okD F ZW fun cdv A outer s H E hr=>?_
  exact (aB (aL (T3 (c:=km) rfl (BP aal aai (hr.mono (by decide)) rfl T.g_Shut aaA .nil bF))))
abbrev lA:Stmt:=inClass (top 6) 4
theorem ZX:aO ["self","to"] ["self","to"] (ak lA):=⟨rfl,rfl,rfl,by decide +kernel,rfl,by decide +kernel,by decide +kernel⟩
def aa4:DSt→Out Fl:=(bB (oMk kE 0 zj aN))
def aac:List D→Out D:=fun ds=>(cX 2 aa4 ds).bA
theorem Zz {f:Addr} {fd:FuncData} (F:L2.Fun K "led" "Torn.led" lA f fd) (T:Txt K mg t) (Cz:Ini P w K mg base t.Torn 2 ["self"] (spI K (Ga t) kE 0 zj)):bC P w K mg base CX0 4 f fd ["self","to"] (spD K (Ga t) 2 aac):=by
  obtain ⟨f_Torn,fd_Torn,aam,aaj,aaB⟩:=Cz.ex
  refine DL.Fun.okD F ZX fun cdv A outer s H E hr=>?_
  exact (aB (aL (T3 (c:=kE) rfl (BP aam aaj (hr.mono (by decide)) rfl T.g_Torn aaB .nil bF))))
abbrev ju:Stmt:=inClass (top 2) 1
theorem WN:aO ["self"] ["self"] (ak ju):=⟨rfl,rfl,rfl,by decide +kernel,rfl,by decide +kernel,by decide +kernel⟩
def Y5:DSt→Out Fl:=(bB (fj (aq (oM "word" 1 iT (gv 0) aN) (aq (yo "to" [lQ,v7,km,kE] (gv 0)) aN))))
def Xv:List D→Out D:=fun ds=>(cX 1 Y5 ds).bA
theorem VR {f:Addr} {fd:FuncData} (F:L2.Fun K "told" "Door.told" ju f fd) (T:Txt K mg t) (zm:MTab P w K mg base (Ga t) "word" (spD K (Ga t) 1) 1 iT):bC P w K mg base CX0 2 f fd ["self"] (spD K (Ga t) 1 Xv):=by
  refine DL.Fun.okD F WN fun cdv A outer s H E hr=>?_
  exact (aB (aL (iZ (ao (Be (yh (zm.ok (hr.mono (by decide))) bF (aj 0 (pv 0)))) (ao (Jt (cs:=[lQ,v7,km,kE]) ⟨⟨t.Must,rfl,T.CW.cls,T.je⟩,⟨t.May,rfl,T.QL.cls,T.lq⟩,⟨t.Shut,rfl,T.CZ.cls,T.jf⟩,⟨t.Torn,rfl,T.Dc.cls,T.jg⟩,trivial⟩ (aj 0 (pv 0))) aJ)))))
abbrev nW:Stmt:=top 7
theorem abK:aO ["needs","allows","to"] ["needs","allows","to"] (ak nW):=⟨rfl,rfl,rfl,by decide +kernel,rfl,by decide +kernel,by decide +kernel⟩
def QG:DSt→Out Fl:=(bf (sIf (pN (tst (gb 0)) (tst (gb 1))) (bB (oMk lQ 1 vI (aq (gv 2) aN))) dh)
  (bf (sIf (tst (gb 1)) (bB (oMk v7 1 Qm (aq (gv 2) aN))) dh)
  (bf (sIf (tst (gb 0)) (bB (oMk kE 0 zj aN)) dh)
  (bB (oMk km 0 vJ aN)))))
def nQ:List D→Out D:=fun ds=>(cX 3 QG ds).bA
theorem abr {f:Addr} {fd:FuncData} (F:L2.Fun K "door_of" "door_of" nW f fd) (T:Txt K mg t) (Cw:Ini P w K mg base t.Must 1 ["self","to"] (spI K (Ga t) lQ 1 vI)) (Qn:Ini P w K mg base t.May 1 ["self","to"] (spI K (Ga t) v7 1 Qm)) (Cz:Ini P w K mg base t.Torn 2 ["self"] (spI K (Ga t) kE 0 zj)) (Cy:Ini P w K mg base t.Shut 2 ["self"] (spI K (Ga t) km 0 vJ)):bC P w K mg base CX0 4 f fd ["needs","allows","to"] (spD K (Ga t) 3 nQ):=by
  obtain ⟨f_Must,fd_Must,aak,aah,aaz⟩:=Cw.ex
  obtain ⟨f_May,fd_May,M_May,G_May,b_May⟩:=Qn.ex
  obtain ⟨f_Torn,fd_Torn,aam,aaj,aaB⟩:=Cz.ex
  obtain ⟨f_Shut,fd_Shut,aal,aai,aaA⟩:=Cy.ex
  refine DL.Fun.okD F abK fun cdv A outer s H E hr=>?_
  exact (aA (cg (vo (wF (gm (aK 0 (pv 0))) (ud (gm (aK 1 (pv 1)))))) (aB (aL (YT (c:=lQ) rfl (BL aak aah (hr.mono (by decide)) rfl T.g_Must aaz .nil bF (ao (aj 2 (pv 2)) aJ))))) bc)
      (aA (cg (gm (aK 1 (pv 1))) (aB (aL (YT (c:=v7) rfl (BL M_May G_May (hr.mono (by decide)) rfl T.g_May b_May .nil bF (ao (aj 2 (pv 2)) aJ))))) bc)
      (aA (cg (gm (aK 0 (pv 0))) (aB (aL (T3 (c:=kE) rfl (BP aam aaj (hr.mono (by decide)) rfl T.g_Torn aaB .nil bF)))) bc)
      (aB (aL (T3 (c:=km) rfl (BP aal aai (hr.mono (by decide)) rfl T.g_Shut aaA .nil bF)))))))
abbrev nY:Stmt:=top 16
theorem abL:aO ["thing"] ["thing"] (ak nY):=⟨rfl,rfl,rfl,by decide +kernel,rfl,by decide +kernel,by decide +kernel⟩
def xK:DSt→Out D:=(bV (o2b inD (gb 0) (kc (.str "abcdefghijklmnopqrstuvwxyz"))))
def QH:DSt→Out Fl:=(bf (sIf (orT (j9 (tst (zM jY (gb 0)))) (j9 (o3 leD leD (kc (.int 1)) (o1 cG (gb 0)) (kc (.int 8))))) (bB (kc (.bl false))) dh)
  (bB (o1 allD (nH (iC [none] (strO (gv 0)) (gN 0) (fun _=>.ok true) xK)))))
def kJ:List D→Out D:=fun ds=>(cX 1 QH ds).bA
theorem abt {f:Addr} {fd:FuncData} (F:L2.Fun K "is_name" "is_name" nY f fd) (T:Txt K mg t) :bC P w K mg base CX0 1 f fd ["thing"] (spD K (Ga t) 1 kJ):=by
  obtain ⟨u_MOST_SIGNS,Uk,Wx⟩:=T.jO
  obtain ⟨u_LETTERS,acH,ac1⟩:=T.rW
  refine DL.Fun.okD F abL fun cdv A outer s H E hr=>?_
  exact (aA (cg (vo (mW (jb (gm (aD (uc (cv:=.ty "str") (.inr rfl) T.jY rfl T.cJ (aK 0 (pv 0)) (nM rfl T.b_str (by decide +kernel) rfl))))) (oY (jb (T7 (aD az) (aD (cV rfl T.fZ (aK 0 (pv 0)))) (aD (de_c (Ht (v:=.int 8) rfl Uk Wx) (fun _=>.int _)))))))) (aB (aL iz)) bc)
      (aB (aL (aaP rfl rfl T.b_all (aD (yS (mY (fun a b c d=>kh (N':=["sign"]) (cap:=[none]) ⟨rfl,rfl,by decide +kernel,by decide +kernel,by rfl,trivial,⟨trivial,trivial⟩⟩ rfl a b c d) (di_str (aj 0 (pv 0))) (Li 0) (fun _ _ _ _ _=>(bh (bj (i:=0) (show (["sign"]:List Str).Nodup by decide +kernel) rfl (by first | exact .inl rfl | exact .inr rfl)))) (fun _ _ _ _ _=>pX) (fun _ _ _ _ _=>(de_in (aK 0 (pv 0)) (aD (de_c (Ht (v:=.str "abcdefghijklmnopqrstuvwxyz") rfl acH ac1) (fun _=>.str _))))))))))))
abbrev cT:Stmt:=top 17
theorem Cd:aO ["thing"] ["thing"] (ak cT):=⟨rfl,rfl,rfl,by decide +kernel,rfl,by decide +kernel,by decide +kernel⟩
def jd:DSt→Out D:=(oF 1 kJ (aq (gv 0) aN))
def sr:DSt→Out Fl:=(bf (sIf (orT (j9 (tst (zM gr (gb 0)))) (j9 (o3 leD leD (kc (.int 1)) (o1 cG (gb 0)) (kc (.int 8))))) (bB (kc (.bl false))) dh)
  (bB (Ab (o1 allD (nH (iC [none] (jh (gv 0)) (gN 0) (fun _=>.ok true) jd))) (bV (o2b eqD (o1 J5 (gv 0)) (o1 cG (gb 0)))))))
def dU:List D→Out D:=fun ds=>(cX 1 sr ds).bA
theorem By {f:Addr} {fd:FuncData} (F:L2.Fun K "is_action_list" "is_action_list" cT f fd) (T:Txt K mg t) (Cq:Def P w K mg base "is_name" 1 ["thing"] (spD K (Ga t) 1 kJ)):bC P w K mg base CX0 2 f fd ["thing"] (spD K (Ga t) 1 dU):=by
  obtain ⟨u_MOST_ACTIONS,JK,KZ⟩:=T.gk
  obtain ⟨xZ,fd_is_name,acx,CN,sE,nT⟩:=Cq.ex
  refine DL.Fun.okD F Cd fun cdv A outer s H E hr=>?_
  exact (aA (cg (vo (mW (jb (gm (aD (uc (cv:=.ty "list") (.inr rfl) T.gr rfl T.cJ (aK 0 (pv 0)) (nM rfl T.CP (by decide +kernel) rfl))))) (oY (jb (T7 (aD az) (aD (cV rfl T.fZ (aK 0 (pv 0)))) (aD (de_c (Ht (v:=.int 8) rfl JK KZ) (fun _=>.int _)))))))) (aB (aL iz)) bc)
      (aB (aL (zx (aaP rfl rfl T.b_all (aD (yS (mY (fun a b c d=>kh (N':=["name"]) (cap:=[none]) ⟨rfl,rfl,by decide +kernel,by decide +kernel,by rfl,trivial,⟨trivial,trivial⟩⟩ rfl a b c d) (mO (aj 0 (pv 0))) (Li 0) (fun _ _ _ _ _=>(bh (bj (i:=0) (show (["name"]:List Str).Nodup by decide +kernel) rfl (by first | exact .inl rfl | exact .inr rfl)))) (fun _ _ _ _ _=>pX) (fun _ _ _ _ _=>(cH (bw acx (hr.mono (by decide)) rfl sE nT CN .nil bF (ao (aj 0 (pv 0)) aJ)))))))) (zz (Js hr.units (aD (acE rfl rfl T.fZ rfl T.b_set (aj 0 (pv 0)))) (aD (cV rfl T.fZ (aK 0 (pv 0))))))))))
abbrev eY:Stmt:=top 18
theorem GX:aO ["actions"] ["actions"] (ak eY):=⟨rfl,rfl,rfl,by decide +kernel,rfl,by decide +kernel,by decide +kernel⟩
def wR:DSt→Out Fl:=(sIf (j9 (tst (oF 1 dU (aq (gv 0) aN)))) (fun _=>.stuck) dh)
def dX:List D→Out D:=fun ds=>(cX 1 wR ds).bA
theorem Gz {f:Addr} {fd:FuncData} (F:L2.Fun K "need_actions" "need_actions" eY f fd) (T:Txt K mg t) (kI:Def P w K mg base "is_action_list" 2 ["thing"] (spD K (Ga t) 1 dU)):bC P w K mg base CX0 3 f fd ["actions"] (spD K (Ga t) 1 dX):=by
  obtain ⟨gM,ab9,Cu,kO,eO,cQ⟩:=kI.ex
  refine DL.Fun.okD F GX fun cdv A outer s H E hr=>?_
  exact (aB (cg (jb (gm (aD (cH (bw Cu (hr.mono (by decide)) rfl eO cQ kO .nil bF (ao (aj 0 (pv 0)) aJ)))))) (aB Bg) bc))
abbrev nZ:Stmt:=top 19
theorem abM:aO ["thing","many"] ["thing","many"] (ak nZ):=⟨rfl,rfl,rfl,by decide +kernel,rfl,by decide +kernel,by decide +kernel⟩
def CV:DSt→Out Fl:=(bB (Ab (zM qg (gb 0)) (Ab (notV (zM fC (gb 0))) (bV (o3 leD ltD (kc (.int 0)) (gb 0) (gb 1))))))
def di:List D→Out D:=fun ds=>(cX 2 CV ds).bA
theorem abu {f:Addr} {fd:FuncData} (F:L2.Fun K "is_room" "is_room" nZ f fd) (T:Txt K mg t) :bC P w K mg base CX0 1 f fd ["thing","many"] (spD K (Ga t) 2 di):=by
  refine DL.Fun.okD F abM fun cdv A outer s H E hr=>?_
  exact (aB (aL (zx (uc (cv:=.ty "int") (.inr rfl) T.qg rfl T.cJ (aK 0 (pv 0)) (nM rfl T.b_int (by decide +kernel) rfl)) (zx (de_not (uc (cv:=.ty "bool") (.inr rfl) T.fC rfl T.cJ (aK 0 (pv 0)) (nM rfl T.b_bool (by decide +kernel) rfl))) (zz (de_lelt (aD az) (aK 0 (pv 0)) (aK 1 (pv 1))))))))
abbrev eX:Stmt:=top 20
theorem vh:aO ["thing","many","torn_too","word"] ["thing","many","torn_too"] (ak eX):=⟨rfl,rfl,rfl,by decide +kernel,rfl,by decide +kernel,by decide +kernel⟩
def wQ:DSt→Out Fl:=(bf (sIf (orT (j9 (tst (zM jk (gb 0)))) (o2b neD (o1 cG (gb 0)) (kc (.int 2)))) (bB (kc (.bl false))) dh)
  (bf (cM 3 (o2 ixD (gvo 0) (kc (.int 0))))
  (bf (sIf (j9 (tst (zM jY (gb 3)))) (bB (kc (.bl false))) dh)
  (bf (sIf (orT (o2b eqD (gb 3) (kc (.str "must"))) (o2b eqD (gb 3) (kc (.str "may")))) (bB (oF 2 di (aq (o2 ixD (gvo 0) (kc (.int 1))) (aq (gv 1) aN)))) dh)
  (bB (Ab (bV (o2b isND (o2 ixD (gvo 0) (kc (.int 1))) (kc .non))) (orV (bV (o2b eqD (gb 3) (kc (.str "shut")))) (Ab (bV (o2b eqD (gb 3) (kc (.str "torn")))) (gv 2)))))))))
def dW:List D→Out D:=fun ds=>(cX 4 wQ ds).bA
theorem Gy {f:Addr} {fd:FuncData} (F:L2.Fun K "is_told_door" "is_told_door" eX f fd) (T:Txt K mg t) (nP:Def P w K mg base "is_room" 1 ["thing","many"] (spD K (Ga t) 2 di)):bC P w K mg base CX0 2 f fd ["thing","many","torn_too"] (spD K (Ga t) 3 dW):=by
  obtain ⟨rZ,aa0,Cv,rT,lg,jo⟩:=nP.ex
  refine DL.Fun.okD F vh fun cdv A outer s H E hr=>?_
  exact (aA (cg (vo (mW (jb (gm (aD (uc (cv:=.ty "tuple") (.inr rfl) T.jk rfl T.cJ (aK 0 (pv 0)) (nM rfl T.Hf (by decide +kernel) rfl))))) (oY (dt_ne hr.units (aD (cV rfl T.fZ (aK 0 (pv 0)))) (aD az))))) (aB (aL iz)) bc)
      (aA (bW 3 (fun h=>bI (i:=3) vh.nd rfl (by first | exact .inl rfl | exact .inr rfl) h) (cC 0 (pv 0) az))
      (aA (cg (jb (gm (aD (uc (cv:=.ty "str") (.inr rfl) T.jY rfl T.cJ (aK 3 (pv 3)) (nM rfl T.b_str (by decide +kernel) rfl))))) (aB (aL iz)) bc)
      (aA (cg (vo (mW (iJ hr.units (aK 3 (pv 3)) (aD cL)) (oY (iJ hr.units (aK 3 (pv 3)) (aD cL))))) (aB (aL (cH (bw Cv (hr.mono (by decide)) rfl lg jo rT .nil bF (ao (cC 0 (pv 0) az) (ao (aj 1 (pv 1)) aJ)))))) bc)
      (aB (aL (zx (de_is (aD (cC 0 (pv 0) az)) (aD zy)) (zz (de_or (Js hr.units (aK 3 (pv 3)) (aD cL)) (zz (zx (Js hr.units (aK 3 (pv 3)) (aD cL)) (zz (aj 2 (pv 2))))))))))))))
abbrev iy:Stmt:=top 21
theorem iR:aO ["rows","many_actions","torn_too","room","row","action","thing"] ["rows","many_actions","torn_too"] (ak iy):=⟨rfl,rfl,rfl,by decide +kernel,rfl,by decide +kernel,by decide +kernel⟩
def pI:DSt→Out Fl:=(sIf (j9 (tst (oF 3 dW (aq (gv 6) (aq (o1 cG (gb 0)) (aq (gv 2) aN)))))) (fun _=>.stuck) dh)
def pH:DSt→Out Fl:=(bf (sIf (orT (j9 (tst (zM gr (gb 4)))) (o2b neD (o1 cG (gb 4)) (gb 1))) (fun _=>.stuck) dh)
  (mD (enum (gv 4)) (gT 2 (aP (gN 5) (aP (gN 6) d7))) pI))
def Bo:DSt→Out Fl:=(bf (sIf (orT (j9 (tst (zM gr (gb 0)))) (j9 (o3 leD leD (kc (.int 1)) (o1 cG (gb 0)) (kc (.int 2000))))) (fun _=>.stuck) dh)
  (mD (enum (gv 0)) (gT 2 (aP (gN 3) (aP (gN 4) d7))) pH))
def dj:List D→Out D:=fun ds=>(cX 7 Bo ds).bA
theorem O9 {f:Addr} {fd:FuncData} (F:L2.Fun K "need_rooms" "need_rooms" iy f fd) (T:Txt K mg t) (ou:Def P w K mg base "is_told_door" 2 ["thing","many","torn_too"] (spD K (Ga t) 3 dW)):bC P w K mg base CX0 3 f fd ["rows","many_actions","torn_too"] (spD K (Ga t) 3 dj):=by
  obtain ⟨u_MOST_ROOMS,Uj,Ww⟩:=T.jN
  obtain ⟨jW,adb,HD,oJ,gF,eF⟩:=ou.ex
  refine DL.Fun.okD F iR fun cdv A outer s H E hr=>?_
  exact (aA (cg (vo (mW (jb (gm (aD (uc (cv:=.ty "list") (.inr rfl) T.gr rfl T.cJ (aK 0 (pv 0)) (nM rfl T.CP (by decide +kernel) rfl))))) (oY (jb (T7 (aD az) (aD (cV rfl T.fZ (aK 0 (pv 0)))) (aD (de_c (Ht (v:=.int 2000) rfl Uj Ww) (fun _=>.int _)))))))) (aB Bg) bc)
      (aB (qT (fun a b c=>rO PassesOwn.never rfl a b c) (TY rfl T.vZ (aj 0 (pv 0))) (wC (n:=2) (fun h=>xO rfl h) (bM (bh (bj (i:=3) iR.nd rfl (by first | exact .inl rfl | exact .inr rfl))) (bM (bh (bj (i:=4) iR.nd rfl (by first | exact .inl rfl | exact .inr rfl))) pW (fun a b=>bN a b)) (fun a b=>bN a b))) (aA (cg (vo (mW (jb (gm (aD (uc (cv:=.ty "list") (.inr rfl) T.gr rfl T.cJ (aK 4 (pv 4)) (nM rfl T.CP (by decide +kernel) rfl))))) (oY (dt_ne hr.units (aD (cV rfl T.fZ (aK 4 (pv 4)))) (aK 1 (pv 1)))))) (aB Bg) bc)
      (aB (qT (fun a b c=>rO PassesOwn.never rfl a b c) (TY rfl T.vZ (aj 4 (pv 4))) (wC (n:=2) (fun h=>xO rfl h) (bM (bh (bj (i:=5) iR.nd rfl (by first | exact .inl rfl | exact .inr rfl))) (bM (bh (bj (i:=6) iR.nd rfl (by first | exact .inl rfl | exact .inr rfl))) pW (fun a b=>bN a b)) (fun a b=>bN a b))) (aB (cg (jb (gm (aD (cH (bw HD (hr.mono (by decide)) rfl gF eF oJ .nil bF (ao (aj 6 (pv 6)) (ao (cV rfl T.fZ (aK 0 (pv 0))) (ao (aj 2 (pv 2)) aJ)))))))) (aB Bg) bc))))))))
abbrev jF:Stmt:=top 22
theorem Ce:aO ["told","word"] ["told"] (ak jF):=⟨rfl,rfl,rfl,by decide +kernel,rfl,by decide +kernel,by decide +kernel⟩
def Ez:DSt→Out Fl:=(bf (cM 1 (o2 ixD (gvo 0) (kc (.int 0))))
  (bB (oF 3 nQ (aq (bV (o2b inD (gb 1) (fj (aq (kc (.str "must")) (aq (kc (.str "torn")) aN))))) (aq (bV (o2b inD (gb 1) (fj (aq (kc (.str "must")) (aq (kc (.str "may")) aN))))) (aq (o2 ixD (gvo 0) (kc (.int 1))) aN))))))
def gf:List D→Out D:=fun ds=>(cX 2 Ez ds).bA
theorem V8 {f:Addr} {fd:FuncData} (F:L2.Fun K "made_door" "made_door" jF f fd) (T:Txt K mg t) (Cp:Def P w K mg base "door_of" 4 ["needs","allows","to"] (spD K (Ga t) 3 nQ)):bC P w K mg base CX0 5 f fd ["told"] (spD K (Ga t) 1 gf):=by
  obtain ⟨xY,fd_door_of,acw,CK,sy,nR⟩:=Cp.ex
  refine DL.Fun.okD F Ce fun cdv A outer s H E hr=>?_
  exact (aA (bW 1 (fun h=>bI (i:=1) Ce.nd rfl (by first | exact .inl rfl | exact .inr rfl) h) (cC 0 (pv 0) az))
      (aB (aL (cH (bw acw (hr.mono (by decide)) rfl sy nR CK .nil bF (ao (de_in (aK 1 (pv 1)) (aD (iZ (ao cL (ao cL aJ))))) (ao (de_in (aK 1 (pv 1)) (aD (iZ (ao cL (ao cL aJ))))) (ao (cC 0 (pv 0) az) aJ))))))))
abbrev jG:Stmt:=top 23
theorem W0:aO ["row"] ["row"] (ak jG):=⟨rfl,rfl,rfl,by decide +kernel,rfl,by decide +kernel,by decide +kernel⟩
def rM:DSt→Out D:=(oF 1 gf (aq (gv 0) aN))
def EY:DSt→Out Fl:=(bB (oC (BJ zO) (aq (nH (iC [none] (jh (gv 0)) (gN 0) (fun _=>.ok true) rM)) aN)))
def gj:List D→Out D:=fun ds=>(cX 1 EY ds).bA
theorem V9 {f:Addr} {fd:FuncData} (F:L2.Fun K "made_room" "made_room" jG f fd) (T:Txt K mg t) (vB:Def P w K mg base "made_door" 5 ["told"] (spD K (Ga t) 1 gf)):bC P w K mg base CX0 6 f fd ["row"] (spD K (Ga t) 1 gj):=by
  obtain ⟨qd,fd_made_door,XF,v4,my,jq⟩:=vB.ex
  refine DL.Fun.okD F W0 fun cdv A outer s H E hr=>?_
  exact (aB (aL (Ju rfl T.Hf (yS (mY (fun a b c d=>kh (N':=["told"]) (cap:=[none]) ⟨rfl,rfl,by decide +kernel,by decide +kernel,by rfl,trivial,⟨trivial,trivial⟩⟩ rfl a b c d) (mO (aj 0 (pv 0))) (Li 0) (fun _ _ _ _ _=>(bh (bj (i:=0) (show (["told"]:List Str).Nodup by decide +kernel) rfl (by first | exact .inl rfl | exact .inr rfl)))) (fun _ _ _ _ _=>pX) (fun _ _ _ _ _=>(cH (bw XF (hr.mono (by decide)) rfl my jq v4 .nil bF (ao (aj 0 (pv 0)) aJ)))))))))
abbrev gU:Stmt:=inClass (top 25) 0
theorem Pz:aO ["self","actions","rows"] ["self","actions","rows"] (ak gU):=⟨rfl,rfl,rfl,by decide +kernel,rfl,by decide +kernel,by decide +kernel⟩
def pJ:DSt→Out D:=(oF 1 gj (aq (gv 0) aN))
def Hi:DSt→Out D:=(oF 1 dX (aq (gv 1) aN))
def Hj:DSt→Out D:=(o1 cG (gb 1))
def Hk:DSt→Out D:=(oC (BJ zO) (aq (gv 1) aN))
def Hl:DSt→Out D:=(oC (BJ zO) (aq (nH (iC [none] (jh (gv 2)) (gN 0) (fun _=>.ok true) pJ)) aN))
def Y9 (torn:Bool) (ds:List D):Out (List (Str × D)):=match ds with
  | [acts,rows] =>
    let δ:DSt:=[none,some (.sh acts),some (.sh rows)]
    (Hi δ).bA.bind fun _=>(Hj δ).bA.bind fun n=>(dj [rows,n,.bl torn]).bA.bind fun _=>(Hk δ).bA.bind fun ta=>(Hl δ).bA.bind fun tr=>.ok [("actions",ta),("rooms",tr)]
  | _=>.stuck
def Rf:List D→Out (List (Str × D)):=Y9 true
def spT (b:Bool):Sp:=fun vs H Q _=>∃ v,vs = [v]∧Q (.bl b) H
abbrev gW:Stmt:=inClass (top 25) 1
theorem PB:aO ["self"] ["self"] (ak gW):=⟨rfl,rfl,rfl,by decide +kernel,rfl,by decide +kernel,by decide +kernel⟩
theorem OD {f:Addr} {fd:FuncData} (F:L2.Fun K "lets_torn" "Draft.lets_torn" gW f fd):bC P w K mg base CX0 1 f fd ["self"] (spT true):=by
  refine F.ok PB (fun vs H Q E h=>?_) (fun cdv A outer s H vs Q E hr h=>?_)
  · obtain ⟨v,rfl,_⟩:=h
    rfl
  · obtain ⟨v,rfl,q⟩:=h
    exact ⟨_,yj (abF pe_bl),q⟩
theorem acK {K:PySem.W.Frag} {Γ:Nat→Option Addr} {G H:Hp} {a C dx:Addr} {v1 v2:V} {acts rows:D} {torn:Bool} {Q:VK} {E:XK} (hH:H a = some (.ins C dx [])) (ga:G a = none) (sg:bx G H) (r1:Rep K Γ G v1 acts) (r2:Rep K Γ G v2 rows) (cl:Cls K C) (na1:dY K C "actions") (na2:dY K C "rooms")
    (w:wpO (Y9 torn [acts,rows]) (fun fds=>∀ fs G' H',bx G G'→(∀ b o,H b = some o→b ≠ a→H' b = some o)→bx G' H'→(∀ b,H b ≠ none→G b = none→G' b = none)→H' a = some (.ins C dx fs)→jM K Γ G' fs fds→Q .non H')
      (fun x=>∀ a' G' H',bx G G'→(∀ b o,H b = some o→b ≠ a→H' b = some o)→bx G' H'→(∀ b,H b ≠ none→G b = none→G' b = none)→Rep K Γ G' (.ref a') x→E (.ref a') none H')) :
    tSeq (QZ (teD K Γ E0 Hi)) (tSeq (QZ (Z8 (spD K Γ 3 dj) [] E0 (zc (teD K Γ E0 (gv 2)) (zc (teD K Γ E0 Hj) (zc (tMeth C "lets_torn" (spT torn) [] E0 (vq 0) Dq) Dq))))) (tSeq (sFld K (vq 0) (teD K Γ E0 Hk) "actions") (sFld K (vq 0) (teD K Γ E0 Hl) "rooms"))) { nx:=fun _ H'=>Q .non H',rt:=Q } [some (.ref a),some v1,some v2] H:=by
  have S0:SR K Γ G H G H [some (.ref a),some v1,some v2] [none,some (.sh acts),some (.sh rows)]:=by
    refine ⟨.refl sg,rfl,fun _=>none,fun i x e=>?_⟩
    match i,e with
    | 1,e=>cases e; exact ⟨v1,rfl,r1⟩
    | 2,e=>cases e; exact ⟨v2,rfl,r2⟩
    | i + 3,e=>simp at e
  have g2:gv 2 [none,some (.sh acts),some (.sh rows)] = .ok rows:=rfl
  have w1:=fK (R':=exD K Γ E0 G H) (au w)
  refine ⟨G,H,G,_,S0,w1.mono (fun d1 w1 u1 G1 H1 s1 _=>?_) fun _ k=>k⟩
  have S1:=S0.step s1
  refine ⟨G,H,G1,_,S1,?_⟩
  rw [g2]
  intro u2 G2 H2 s2 q2
  have S2:=S1.step s2
  have w2:=fK (R':=exD K Γ E0 G2 H2) (au w1)
  refine ⟨G,H,G2,_,S2,w2.mono (fun n w2 u3 G3 H3 s3 q3=>?_) fun _ k=>k⟩
  have s03:=((s1.trans s2).trans s3)
  refine ⟨_,rfl,a,dx,[],rfl,s03.hh _ _ hH,rfl,_,rfl,rfl,G3,[rows,n,.bl torn],s03.gh,.cons (q2.mono s3.gg) (.cons q3 (.cons (.bl _) .nil)),?_⟩
  have w3:=fK (R':=exD K Γ E0 G3 H3) (au w2)
  refine w3.mono (fun d3 w3 u4 G4 H4 s4 _=>?_) fun _ k=>k
  have s04:=s03.trans s4
  have S4:=S0.step s04
  have w4:=fK (R':=exD K Γ E0 G4 H4) (au w3)
  refine ⟨G,H,G4,_,S4,w4.mono (fun ta w4 u5 G5 H5 s5 q5=>?_) fun _ k=>k⟩
  have s05:=s04.trans s5
  have g5:G5 a = none:=s05.sep a (by rw [hH]; exact fun z=>nomatch z) ga
  refine ⟨_,rfl,a,C,dx,[],rfl,s05.hh _ _ hH,cl,na1,(by decide),?_⟩
  have st5:Step G5 (upd H5 a (.ins C dx (lr "actions" u5 []))) G5 (upd H5 a (.ins C dx (lr "actions" u5 []))):=.refl fun b o e=>by rw [aV (aY e g5)]; exact s05.gh _ _ e
  have S5:SR K Γ G5 (upd H5 a (.ins C dx (lr "actions" u5 []))) G5 (upd H5 a (.ins C dx (lr "actions" u5 []))) [some (.ref a),some v1,some v2] [none,some (.sh acts),some (.sh rows)]:=by
    refine ⟨st5,rfl,fun _=>none,fun i x e=>?_⟩
    match i,e with
    | 1,e=>cases e; exact ⟨v1,rfl,r1.mono s05.gg⟩
    | 2,e=>cases e; exact ⟨v2,rfl,r2.mono s05.gg⟩
    | i + 3,e=>simp at e
  have w5:=fK (R':=exD K Γ E0 G5 (upd H5 a (.ins C dx (lr "actions" u5 [])))) (au w4)
  refine ⟨_,_,G5,_,S5,w5.mono (fun tr w5 u6 G6 H6 s6 q6=>?_) fun _ k=>k⟩
  have h6:=s6.hh _ _ (aW (H:=H5) (a:=a) (o:=.ins C dx (lr "actions" u5 [])))
  refine ⟨_,rfl,a,C,dx,_,rfl,h6,cl,na2,(by show 1 < 1000; decide),?_⟩
  have g6:G6 a = none:=s6.sep a (by rw [aW]; exact fun z=>nomatch z) g5
  have ne:¬ (("actions":Str) = "rooms"):=by decide +kernel
  have ef:lr "rooms" u6 (lr "actions" u5 []) = [(("actions":Str),u5),(("rooms":Str),u6)]:=by
    show (if ("actions":Str) = "rooms" then _ else (("actions":Str),u5) :: lr "rooms" u6 []) = _
    rw [if_neg ne]
    rfl
  refine w5 [("actions",u5),("rooms",u6)] G6 _ (s05.gg.trans s6.gg) (fun b o e hb=>?_) (fun b o e=>?_) (fun b hb g0=>?_) (by rw [aW,ef]) (.cons (q5.mono s6.gg) (.cons q6 .nil))
  · rw [aV hb]
    exact s6.hh _ _ (by rw [aV hb]; exact s05.hh _ _ e)
  · rw [aV (aY e g6)]
    exact s6.gh _ _ e
  · refine s6.sep b (fun z=>?_) (s05.sep b hb g0)
    by_cases e:b = a
    · subst e; rw [aW] at z; cases z
    · rw [aV e] at z
      cases q:H b with
      | none=>exact hb q
      | some o=>rw [s05.hh _ _ q] at z; cases z
theorem Oz {f fT C:Addr} {fd fdT:FuncData} {c:Nat} {torn:Bool} (F:L2.Fun K "__init__" "Draft.__init__" gU f fd) (T:Txt K mg t) (oA:Def P w K mg base "need_actions" 3 ["actions"] (spD K (Ga t) 1 dX)) (sO:Def P w K mg base "need_rooms" 3 ["rows","many_actions","torn_too"] (spD K (Ga t) 3 dj)) (vC:Def P w K mg base "made_room" 6 ["row"] (spD K (Ga t) 1 gj)) (hC:Ga t c = some C) (cl:Cls K C) (na1:dY K C "actions") (na2:dY K C "rooms") (hmT:Meth K C "lets_torn" fT) (GT:bC P w K mg base CX0 1 fT fdT ["self"] (spT torn)) (bT:Binds K fdT ["self"] []):bC P w K mg base CX0 7 f fd ["self","actions","rows"] (spI K (Ga t) c 2 (Y9 torn)):=by
  obtain ⟨jX,adc,HH,oK,gG,eG⟩:=oA.ex
  obtain ⟨nA,fd_need_rooms,Rc,tK,j7,gR⟩:=sO.ex
  obtain ⟨qe,fd_made_room,XH,v5,mz,jr⟩:=vC.ex
  refine F.ok Pz (fun vs H Q E h=>h.1) (fun cdv A outer s H vs Q E hr h=>?_)
  obtain ⟨hl,a,dx,C',us,G,ds,rfl,hH,hC',ga,sg,r,w⟩:=h
  rw [hC] at hC'
  cases hC'
  cases r with
  | nil=>cases hl
  | @cons v1 us acts ds r1 r =>
    cases r with
    | nil=>cases hl
    | @cons v2 us rows ds r2 r =>
      cases r with
      | cons _ _=>cases hl
      | nil =>
        refine ⟨tSeq (QZ (teD K (Ga t) E0 Hi)) (tSeq (QZ (Z8 (spD K (Ga t) 3 dj) [] E0 (zc (teD K (Ga t) E0 (gv 2)) (zc (teD K (Ga t) E0 Hj) (zc (tMeth C "lets_torn" (spT torn) [] E0 (vq 0) Dq) Dq))))) (tSeq (sFld K (vq 0) (teD K (Ga t) E0 Hk) "actions") (sFld K (vq 0) (teD K (Ga t) E0 Hl) "rooms"))),BV (uT (cH (bw HH (hr.mono (by decide)) rfl gG eG oK .nil bF (ao (aj 1 (pv 1)) aJ)))) (BV (uT (bw Rc (hr.mono (by decide)) rfl j7 gR tK .nil bF (cB (aj 2 (pv 2)) (cB (cV rfl T.fZ (aK 1 (pv 1))) (cB (pe_meth0 (pv 0) cl hmT GT (hr.mono (by decide)) bT .nil bF) iG))))) (BV (abE (pv 0) (Ju rfl T.Hf (aj 1 (pv 1))) rfl) (yj (abE (pv 0) (Ju rfl T.Hf (yS (mY (fun a b c d=>kh (N':=["row"]) (cap:=[none]) ⟨rfl,rfl,by decide +kernel,by decide +kernel,by rfl,trivial,⟨trivial,trivial⟩⟩ rfl a b c d) (mO (aj 2 (pv 2))) (Li 0) (fun _ _ _ _ _=>(bh (bj (i:=0) (show (["row"]:List Str).Nodup by decide +kernel) rfl (by first | exact .inl rfl | exact .inr rfl)))) (fun _ _ _ _ _=>pX) (fun _ _ _ _ _=>(cH (bw XH (hr.mono (by decide)) rfl mz jr v5 .nil bF (ao (aj 0 (pv 0)) aJ))))))) rfl)))),?_⟩
        exact acK hH ga sg r1 r2 cl na1 na2 w
abbrev gY:Stmt:=inClass (top 25) 3
theorem PJ:aO ["self"] ["self"] (ak gY):=⟨rfl,rfl,rfl,by decide +kernel,rfl,by decide +kernel,by decide +kernel⟩
def ut:DSt→Out Fl:=(bB (o1 cG (yo "rooms" [aR] (gv 0))))
def sS:List D→Out D:=fun ds=>(cX 1 ut ds).bA
theorem OJ {f:Addr} {fd:FuncData} (F:L2.Fun K "many" "Draft.many" gY f fd) (T:Txt K mg t) :bC P w K mg base CX0 1 f fd ["self"] (spD K (Ga t) 1 sS):=by
  refine DL.Fun.okD F PJ fun cdv A outer s H E hr=>?_
  exact (aB (aL (cV rfl T.fZ (aD (Jt (cs:=[aR]) ⟨⟨t.Draft,rfl,T.uy.cls,T.cW⟩,trivial⟩ (aj 0 (pv 0)))))))
def pL:List (Nat × (List D→Out D)):=[(aR,sS)]
abbrev fW:Stmt:=top 27
theorem La:aO ["door","ranks"] ["door","ranks"] (ak fW):=⟨rfl,rfl,rfl,by decide +kernel,rfl,by decide +kernel,by decide +kernel⟩
def rA:DSt→Out Fl:=(bf (sIf (o2b eqD (oM "word" 1 iT (gv 0) aN) (kc (.str "torn"))) (bB (o1 Gn (kc (.int 1)))) dh)
  (bf (sIf (o2b eqD (oM "word" 1 iT (gv 0) aN) (kc (.str "must"))) (bB (Yz 1 (yo "to" [lQ,v7,km,kE] (gv 0)))) dh)
  (bB (kc .non))))
def iH:List D→Out D:=fun ds=>(cX 2 rA ds).bA
theorem Kv {f:Addr} {fd:FuncData} (F:L2.Fun K "rank_behind" "rank_behind" fW f fd) (T:Txt K mg t) (zm:MTab P w K mg base (Ga t) "word" (spD K (Ga t) 1) 1 iT):bC P w K mg base CX0 2 f fd ["door","ranks"] (spD K (Ga t) 2 iH):=by
  refine DL.Fun.okD F La fun cdv A outer s H E hr=>?_
  exact (aA (cg (iJ hr.units (aD (Be (yh (zm.ok (hr.mono (by decide))) bF (aj 0 (pv 0))))) (aD cL)) (aB (aL (aaQ az))) bc)
      (aA (cg (iJ hr.units (aD (Be (yh (zm.ok (hr.mono (by decide))) bF (aj 0 (pv 0))))) (aD cL)) (aB (aL (de_dget1 1 hr.units (pv 1) (Jt (cs:=[lQ,v7,km,kE]) ⟨⟨t.Must,rfl,T.CW.cls,T.je⟩,⟨t.May,rfl,T.QL.cls,T.lq⟩,⟨t.Shut,rfl,T.CZ.cls,T.jf⟩,⟨t.Torn,rfl,T.Dc.cls,T.jg⟩,trivial⟩ (aj 0 (pv 0))) ⟨rfl,rfl,rfl,rfl⟩))) bc)
      (aB (aL zy))))
abbrev eV:Stmt:=top 28
theorem fJ:aO ["draft","row","ranks","room","rank","action","behind"] ["draft","row","ranks"] (ak eV):=⟨rfl,rfl,rfl,by decide +kernel,rfl,by decide +kernel,by decide +kernel⟩
def pA:DSt→Out Fl:=(bf (cM 3 (o2 ixD (gvo 1) (kc (.int 0))))
  (bf (cM 4 (o2 ixD (gvo 1) (kc (.int 1))))
  (bf (cM 5 (o2 ixD (gvo 1) (kc (.int 2))))
  (bf (sIf (orT (j9 (tst (oF 2 di (aq (gv 3) (aq (oM "many" 1 pL (gv 0) aN) aN))))) (orT (j9 (o3 leD ltD (kc (.int 0)) (gb 5) (o1 cG (yo "actions" [aR] (gv 0))))) (o2b ltD (gb 4) (kc (.int 0))))) (bB (kc (.bl false))) dh)
  (bf (cM 6 (oF 2 iH (aq (o2 ixD (o2 ixD (yo "rooms" [aR] (gv 0)) (gv 3)) (gv 5)) (aq (gv 2) aN))))
  (bB (Ab (bV (o2b xM (gb 6) (kc .non))) (bV (o2b ltD (gb 6) (gb 4))))))))))
def f9:List D→Out D:=fun ds=>(cX 7 pA ds).bA
theorem Gx {f:Addr} {fd:FuncData} (F:L2.Fun K "is_borne_out" "is_borne_out" eV f fd) (T:Txt K mg t) (nP:Def P w K mg base "is_room" 1 ["thing","many"] (spD K (Ga t) 2 di)) (HN:MTab P w K mg base (Ga t) "many" (spD K (Ga t) 1) 1 pL) (qx:Def P w K mg base "rank_behind" 2 ["door","ranks"] (spD K (Ga t) 2 iH)):bC P w K mg base CX0 3 f fd ["draft","row","ranks"] (spD K (Ga t) 3 f9):=by
  obtain ⟨rZ,aa0,Cv,rT,lg,jo⟩:=nP.ex
  obtain ⟨lK,fd_rank_behind,Lz,qF,iQ,fL⟩:=qx.ex
  refine DL.Fun.okD F fJ fun cdv A outer s H E hr=>?_
  exact (aA (bW 3 (fun h=>bI (i:=3) fJ.nd rfl (by first | exact .inl rfl | exact .inr rfl) h) (cC 1 (pv 1) az))
      (aA (bW 4 (fun h=>bI (i:=4) fJ.nd rfl (by first | exact .inl rfl | exact .inr rfl) h) (cC 1 (pv 1) az))
      (aA (bW 5 (fun h=>bI (i:=5) fJ.nd rfl (by first | exact .inl rfl | exact .inr rfl) h) (cC 1 (pv 1) az))
      (aA (cg (vo (mW (jb (gm (aD (cH (bw Cv (hr.mono (by decide)) rfl lg jo rT .nil bF (ao (aj 3 (pv 3)) (ao (Be (yh (HN.ok (hr.mono (by decide))) bF (aj 0 (pv 0)))) aJ))))))) (mW (jb (dt_lelt (aD az) (aK 5 (pv 5)) (aD (cV rfl T.fZ (aD (Jt (cs:=[aR]) ⟨⟨t.Draft,rfl,T.uy.cls,T.cR⟩,trivial⟩ (aj 0 (pv 0)))))))) (oY (Bh (aK 4 (pv 4)) (aD az)))))) (aB (aL iz)) bc)
      (aA (bW 6 (fun h=>bI (i:=6) fJ.nd rfl (by first | exact .inl rfl | exact .inr rfl) h) (cH (bw Lz (hr.mono (by decide)) rfl iQ fL qF .nil bF (ao (de_ix (de_ix (Jt (cs:=[aR]) ⟨⟨t.Draft,rfl,T.uy.cls,T.cW⟩,trivial⟩ (aj 0 (pv 0))) (aj 3 (pv 3))) (aj 5 (pv 5))) (ao (aj 2 (pv 2)) aJ)))))
      (aB (aL (zx (de_isnot (aK 6 (pv 6)) (aD zy)) (zz (de_lt (aK 6 (pv 6)) (aK 4 (pv 4))))))))))))
abbrev fV:Stmt:=top 29
theorem gH:aO ["draft","rows","ranks","room","rank","action"] ["draft","rows"] (ak fV):=⟨rfl,rfl,rfl,by decide +kernel,rfl,by decide +kernel,by decide +kernel⟩
def iW:DSt→Out Fl:=(K5 2 (oC minD (aq (yR 2 (gv 3) (gv 4)) (aq (gv 4) aN))) (gv 3))
def fG:DSt→Out D:=(oF 3 f9 (aq (gv 1) (aq (gv 0) (aq (gv 2) aN))))
def rn:DSt→Out Fl:=(bf (abH 2)
  (bf (mD (jh (gv 1)) (gT 3 (aP (gN 3) (aP (gN 4) (aP (gN 5) d7)))) iW)
  (frzd 2 (bB (o1 allD (nH (iC [none,some 0,some 2] (jh (gv 1)) (gN 0) (fun _=>.ok true) fG)))))))
def bQ:List D→Out D:=fun ds=>(cX 6 rn ds).bA
theorem Ku {f:Addr} {fd:FuncData} (F:L2.Fun K "is_torn_row" "is_torn_row" fV f fd) (T:Txt K mg t) (oh:Def P w K mg base "is_borne_out" 3 ["draft","row","ranks"] (spD K (Ga t) 3 f9)):bC P w K mg base CX0 4 f fd ["draft","rows"] (spD K (Ga t) 2 bQ):=by
  obtain ⟨jV,ada,HB,oH,gD,eE⟩:=oh.ex
  refine DL.Fun.okD F gH fun cdv A outer s H E hr=>?_
  exact (aA (YW 2 (fun h=>bI (i:=2) gH.nd rfl (by first | exact .inl rfl | exact .inr rfl) h))
      (aA (qT (fun a b c=>rO PassesOwn.never rfl a b c) (mO (aj 1 (pv 1))) (wC (n:=3) (fun h=>xO rfl h) (bM (bh (bj (i:=3) gH.nd rfl (by first | exact .inl rfl | exact .inr rfl))) (bM (bh (bj (i:=4) gH.nd rfl (by first | exact .inl rfl | exact .inr rfl))) (bM (bh (bj (i:=5) gH.nd rfl (by first | exact .inl rfl | exact .inr rfl))) pW (fun a b=>bN a b)) (fun a b=>bN a b)) (fun a b=>bN a b))) (aB (ab4 2 hr.units (pv 2) (de_min rfl rfl T.b_min (ao (YH 2 hr.units (pv 2) (aj 3 (pv 3)) (aj 4 (pv 4)) ⟨rfl,rfl,rfl,rfl⟩) (ao (aj 4 (pv 4)) aJ))) (aj 3 (pv 3)))))
      (aB (T5 2 (aL (aaP rfl rfl T.b_all (aD (yS (mY (fun a b c d=>kh (N':=["row","draft","ranks"]) (cap:=[none,some 0,some 2]) ⟨rfl,rfl,by decide +kernel,by decide +kernel,by rfl,⟨⟨rfl,by first | exact .inl rfl | exact .inr rfl⟩,⟨rfl,by first | exact .inl rfl | exact .inr rfl⟩,trivial⟩,⟨trivial,⟨rfl,rfl,by first | exact .inl rfl | exact .inr rfl⟩,⟨rfl,rfl,by first | exact .inl rfl | exact .inr rfl⟩,trivial⟩⟩ rfl a b c d) (mO (aj 1 (pv 1))) (Li 0) (fun _ _ _ _ _=>(bh (bj (i:=0) (show (["row","draft","ranks"]:List Str).Nodup by decide +kernel) rfl (by first | exact .inl rfl | exact .inr rfl)))) (fun _ _ _ _ _=>pX) (fun _ _ _ _ _=>(cH (bw HB (hr.mono (by decide)) rfl gD eE oH .nil bF (ao (aj 1 (pv 1)) (ao (aj 0 (pv 0)) (ao (aj 2 (pv 2)) aJ)))))))))))))))
abbrev eQ:Stmt:=top 31
theorem GR:aO ["_law_script","_law_k"] ["_law_script","_law_k"] (ak eQ):=⟨rfl,rfl,rfl,by decide +kernel,rfl,by decide +kernel,by decide +kernel⟩
def wM:DSt→Out Fl:=(bf (sIf (o2b ltD (gb 1) (o1 cG (gb 0))) (bB (o2 ixD (gvo 0) (gv 1))) dh)
  (bB (kc (.int 0))))
def dO:List D→Out D:=fun ds=>(cX 2 wM ds).bA
theorem Gv {f:Addr} {fd:FuncData} (F:L2.Fun K "_law_cell_at" "_law_cell_at" eQ f fd) (T:Txt K mg t) :bC P w K mg base CX0 1 f fd ["_law_script","_law_k"] (spD K (Ga t) 2 dO):=by
  refine DL.Fun.okD F GR fun cdv A outer s H E hr=>?_
  exact (aA (cg (Bh (aK 1 (pv 1)) (aD (cV rfl T.fZ (aK 0 (pv 0))))) (aB (aL (cC 0 (pv 0) (aj 1 (pv 1))))) bc)
      (aB (aL az)))
abbrev ir:Stmt:=top 32
theorem rP:aO ["_law_cell","_law_k","_law_number_here"] ["_law_cell","_law_k"] (ak ir):=⟨rfl,rfl,rfl,by decide +kernel,rfl,by decide +kernel,by decide +kernel⟩
def Bm:DSt→Out Fl:=(bf (cM 2 (o2 c7 (o2 cP (o2 cP (o2 vp (gv 0) (kc (.int 48271))) (o2 vp (gv 1) (kc (.int 7919)))) (kc (.int 104729))) (kc (.int 2147483647))))
  (bf (cM 2 (o2 c7 (o2 cP (o2 cP (o2 vp (o2 c7 (o2 vp (gv 2) (gv 2)) (kc (.int 2147483629))) (kc (.int 16807))) (o2 vp (gv 1) (kc (.int 104729)))) (kc (.int 11))) (kc (.int 2147483587))))
  (bB (o2 c7 (o2 vp (gv 2) (gv 2)) (kc (.int 2147483549))))))
def aZ:List D→Out D:=fun ds=>(cX 3 Bm ds).bA
theorem O6 {f:Addr} {fd:FuncData} (F:L2.Fun K "_law_mixed" "_law_mixed" ir f fd) (T:Txt K mg t) :bC P w K mg base CX0 1 f fd ["_law_cell","_law_k"] (spD K (Ga t) 2 aZ):=by
  refine DL.Fun.okD F rP fun cdv A outer s H E hr=>?_
  exact (aA (bW 2 (fun h=>bI (i:=2) rP.nd rfl (by first | exact .inl rfl | exact .inr rfl) h) (b8 (bG (bG (mL (aj 0 (pv 0)) az) (mL (aj 1 (pv 1)) az)) az) az))
      (aA (bW 2 (fun h=>bI (i:=2) rP.nd rfl (by first | exact .inl rfl | exact .inr rfl) h) (b8 (bG (bG (mL (b8 (mL (aj 2 (pv 2)) (aj 2 (pv 2))) az) az) (mL (aj 1 (pv 1)) az)) az) az))
      (aB (aL (b8 (mL (aj 2 (pv 2)) (aj 2 (pv 2))) az)))))
abbrev iu:Stmt:=top 33
theorem dG:aO ["_law_cell","_law_many_here","_law_letters","_law_size","_law_at","_law_names_here","_law_k","_law_signs"] ["_law_cell","_law_many_here"] (ak iu):=⟨rfl,rfl,rfl,by decide +kernel,rfl,by decide +kernel,by decide +kernel⟩
def j0:DSt→Out D:=(o2 ixD (gvo 1) (o2 c7 (o2 cP (oF 2 aZ (aq (gv 2) (aq (o2 cP (kc (.int 4)) (gv 0)) aN))) (o2 vp (gv 3) (o1 intD (bV (o2b eqD (gb 0) (gb 4)))))) (kc (.int 26))))
def gw:DSt→Out Fl:=(bf (cM 7 (nH (iC [none,some 2,some 0,some 6,some 4] (rng1 (gv 3)) (gN 0) (fun _=>.ok true) j0)))
  (K3 5 (oJoin (kc (.str "")) (gv 7))))
def uw:DSt→Out Fl:=(bf (cM 2 (kc (.str "abcdefghijklmnopqrstuvwxyz")))
  (bf (cM 3 (o2 cP (kc (.int 1)) (o2 c7 (oF 2 aZ (aq (gv 0) (aq (kc (.int 2)) aN))) (kc (.int 8)))))
  (bf (cM 4 (o2 c7 (oF 2 aZ (aq (gv 0) (aq (kc (.int 3)) aN))) (gv 3)))
  (bf (zb 5 (Ja aN))
  (bf (mD (rng1 (gv 1)) (gN 6) gw)
  (sRetv 5))))))
def jK:List D→Out D:=fun ds=>(cX 8 uw ds).bA
theorem O7 {f:Addr} {fd:FuncData} (F:L2.Fun K "_law_names" "_law_names" iu f fd) (T:Txt K mg t) (bL:Def P w K mg base "_law_mixed" 1 ["_law_cell","_law_k"] (spD K (Ga t) 2 aZ)):bC P w K mg base CX0 2 f fd ["_law_cell","_law_many_here"] (spD K (Ga t) 2 jK):=by
  obtain ⟨fu,qU,bU,bH,bD,bz⟩:=bL.ex
  refine DL.Fun.okD F dG fun cdv A outer s H E hr=>?_
  exact (aA (bW 2 (fun h=>bI (i:=2) dG.nd rfl (by first | exact .inl rfl | exact .inr rfl) h) cL)
      (aA (bW 3 (fun h=>bI (i:=3) dG.nd rfl (by first | exact .inl rfl | exact .inr rfl) h) (bG az (b8 (cH (bw bU (hr.mono (by decide)) rfl bD bz bH .nil bF (ao (aj 0 (pv 0)) (ao az aJ)))) az)))
      (aA (bW 4 (fun h=>bI (i:=4) dG.nd rfl (by first | exact .inl rfl | exact .inr rfl) h) (b8 (cH (bw bU (hr.mono (by decide)) rfl bD bz bH .nil bF (ao (aj 0 (pv 0)) (ao az aJ)))) (aj 3 (pv 3))))
      (aA (T6 5 (fun h=>bI (i:=5) dG.nd rfl (by first | exact .inl rfl | exact .inr rfl) h) (aaV aJ))
      (aA (qT (fun a b c=>rO PassesOwn.never rfl a b c) (rY rfl T.Ai (aj 1 (pv 1))) (bh (bj (i:=6) dG.nd rfl (by first | exact .inl rfl | exact .inr rfl))) (aA (ab6 7 (fun a b c d=>KY (i:=7) (N':=["_law_j","_law_letters","_law_cell","_law_k","_law_at"]) (cap:=[none,some 2,some 0,some 6,some 4]) ⟨rfl,rfl,by decide +kernel,by decide +kernel,by rfl,⟨⟨rfl,by first | exact .inl rfl | exact .inr rfl⟩,⟨rfl,by first | exact .inl rfl | exact .inr rfl⟩,⟨rfl,by first | exact .inl rfl | exact .inr rfl⟩,⟨rfl,by first | exact .inl rfl | exact .inr rfl⟩,trivial⟩,⟨trivial,⟨rfl,rfl,by first | exact .inl rfl | exact .inr rfl⟩,⟨rfl,rfl,by first | exact .inl rfl | exact .inr rfl⟩,⟨rfl,rfl,by first | exact .inl rfl | exact .inr rfl⟩,⟨rfl,rfl,by first | exact .inl rfl | exact .inr rfl⟩,trivial⟩⟩ rfl dG.nd rfl (by first | exact .inl rfl | exact .inr rfl) a b c d rfl) (rY rfl T.Ai (aj 3 (pv 3))) (Li 0) (fun _ _ _ _ _=>(bh (bj (i:=0) (show (["_law_j","_law_letters","_law_cell","_law_k","_law_at"]:List Str).Nodup by decide +kernel) rfl (by first | exact .inl rfl | exact .inr rfl)))) (fun _ _ _ _ _=>pX) (fun _ _ _ _ _=>(cC 1 (pv 1) (b8 (bG (cH (bw bU (hr.mono (by decide)) rfl bD bz bH .nil bF (ao (aj 2 (pv 2)) (ao (bG az (aj 0 (pv 0))) aJ)))) (mL (aj 3 (pv 3)) (ab2 rfl T.b_int (Js hr.units (aK 0 (pv 0)) (aK 4 (pv 4)))))) az))))
      (aB (aaX 5 (pv 5) (de_join cL (aj 7 (pv 7)) (fun a b=>pe_bm PySem.F.plainAttrs_str PySem.F.slot_str_join PySem.F.type_str_join mt_join a (cB b iG))) (fun a b=>uT (pe_bm PySem.F.plainAttrs_list PySem.F.slot_list_append PySem.F.type_list_append ye a (cB b iG)))))))
      (aB (ab5 5 (pv 5))))))))
abbrev jC:Stmt:=top 34
theorem Ca:aO ["_law_number_here","_law_rooms","_law_torn","_law_way"] ["_law_number_here","_law_rooms","_law_torn"] (ak jC):=⟨rfl,rfl,rfl,by decide +kernel,rfl,by decide +kernel,by decide +kernel⟩
def wN:DSt→Out Fl:=(bf (cM 3 (o2 c7 (gv 0) (kc (.int 12))))
  (bf (sIf (pN (o2b eqD (gb 3) (kc (.int 0))) (tst (gb 2))) (bB (fj (aq (kc (.str "torn")) (aq (kc .non) aN)))) dh)
  (bf (sIf (o2b ltD (gb 3) (kc (.int 4))) (bB (fj (aq (kc (.str "must")) (aq (o2 c7 (o2 dq (gv 0) (kc (.int 12))) (gv 1)) aN)))) dh)
  (bf (sIf (o2b ltD (gb 3) (kc (.int 9))) (bB (fj (aq (kc (.str "may")) (aq (o2 c7 (o2 dq (gv 0) (kc (.int 12))) (gv 1)) aN)))) dh)
  (bB (fj (aq (kc (.str "shut")) (aq (kc .non) aN))))))))
def lN:List D→Out D:=fun ds=>(cX 4 wN ds).bA
theorem V5 {f:Addr} {fd:FuncData} (F:L2.Fun K "_law_door" "_law_door" jC f fd) (T:Txt K mg t) :bC P w K mg base CX0 1 f fd ["_law_number_here","_law_rooms","_law_torn"] (spD K (Ga t) 3 lN):=by
  refine DL.Fun.okD F Ca fun cdv A outer s H E hr=>?_
  exact (aA (bW 3 (fun h=>bI (i:=3) Ca.nd rfl (by first | exact .inl rfl | exact .inr rfl) h) (b8 (aj 0 (pv 0)) az))
      (aA (cg (vo (wF (iJ hr.units (aK 3 (pv 3)) (aD az)) (ud (gm (aK 2 (pv 2)))))) (aB (aL (iZ (ao cL (ao zy aJ))))) bc)
      (aA (cg (Bh (aK 3 (pv 3)) (aD az)) (aB (aL (iZ (ao cL (ao (b8 (iU (aj 0 (pv 0)) az) (aj 1 (pv 1))) aJ))))) bc)
      (aA (cg (Bh (aK 3 (pv 3)) (aD az)) (aB (aL (iZ (ao cL (ao (b8 (iU (aj 0 (pv 0)) az) (aj 1 (pv 1))) aJ))))) bc)
      (aB (aL (iZ (ao cL (ao zy aJ)))))))))
abbrev jE:Stmt:=top 35
theorem nO:aO ["_law_cells","_law_many_here","_law_torn","_law_some","_law_rows_here","_law_cell"] ["_law_cells","_law_many_here","_law_torn"] (ak jE):=⟨rfl,rfl,rfl,by decide +kernel,rfl,by decide +kernel,by decide +kernel⟩
def lL:DSt→Out D:=(oF 3 lN (aq (oF 2 aZ (aq (gv 2) (aq (o2 cP (o2 cP (kc (.int 20)) (o2 vp (kc (.int 10)) (o1 cG (gb 4)))) (gv 0)) aN))) (aq (o1 cG (gb 3)) (aq (gv 1) aN))))
def iM:DSt→Out Fl:=(K3 4 (nH (Zi 4 (iC [none,some 2,some 5,some 3,some 4] (rng1 (gv 1)) (gN 0) (fun _=>.ok true) lL))))
def wO:DSt→Out Fl:=(bf (cM 3 (o2 cP (gv 0) (nH (repL (iB (aq (kc (.int 5)) aN)) (o1 intD (bV (o2b eqD (gb 0) (iB aN))))))))
  (bf (zb 4 (Ja aN))
  (bf (mD (jh (gv 3)) (gN 5) iM)
  (sRetv 4))))
def lO:List D→Out D:=fun ds=>(cX 6 wO ds).bA
theorem V7 {f:Addr} {fd:FuncData} (F:L2.Fun K "_law_rows" "_law_rows" jE f fd) (T:Txt K mg t) (vy:Def P w K mg base "_law_door" 1 ["_law_number_here","_law_rooms","_law_torn"] (spD K (Ga t) 3 lN)) (bL:Def P w K mg base "_law_mixed" 1 ["_law_cell","_law_k"] (spD K (Ga t) 2 aZ)):bC P w K mg base CX0 2 f fd ["_law_cells","_law_many_here","_law_torn"] (spD K (Ga t) 3 lO):=by
  obtain ⟨p7,fd__law_door,Xz,vW,lZ,jl⟩:=vy.ex
  obtain ⟨fu,qU,bU,bH,bD,bz⟩:=bL.ex
  refine DL.Fun.okD F nO fun cdv A outer s H E hr=>?_
  exact (aA (bW 3 (fun h=>bI (i:=3) nO.nd rfl (by first | exact .inl rfl | exact .inr rfl) h) (bG (aj 0 (pv 0)) (yS (df_rep (oX (ao az aJ)) (ab2 rfl T.b_int (Js hr.units (aK 0 (pv 0)) (aD (oX aJ))))))))
      (aA (T6 4 (fun h=>bI (i:=4) nO.nd rfl (by first | exact .inl rfl | exact .inr rfl) h) (aaV aJ))
      (aA (qT (fun a b c=>rO PassesOwn.never rfl a b c) (mO (aj 3 (pv 3))) (bh (bj (i:=5) nO.nd rfl (by first | exact .inl rfl | exact .inr rfl))) (aB (aaX 4 (pv 4) (yS (df_lent 4 (mY (fun a b c d=>kh (N':=["_law_k","_law_torn","_law_cell","_law_some","_law_rows_here"]) (cap:=[none,some 2,some 5,some 3,some 4]) ⟨rfl,rfl,by decide +kernel,by decide +kernel,by rfl,⟨⟨rfl,by first | exact .inl rfl | exact .inr rfl⟩,⟨rfl,by first | exact .inl rfl | exact .inr rfl⟩,⟨rfl,by first | exact .inl rfl | exact .inr rfl⟩,⟨rfl,by first | exact .inl rfl | exact .inr rfl⟩,trivial⟩,⟨trivial,⟨rfl,rfl,by first | exact .inl rfl | exact .inr rfl⟩,⟨rfl,rfl,by first | exact .inl rfl | exact .inr rfl⟩,⟨rfl,rfl,by first | exact .inl rfl | exact .inr rfl⟩,⟨rfl,rfl,by first | exact .inl rfl | exact .inr rfl⟩,trivial⟩⟩ rfl a b c d) (rY rfl T.Ai (aj 1 (pv 1))) (Li 0) (fun _ _ _ _ _=>(bh (bj (i:=0) (show (["_law_k","_law_torn","_law_cell","_law_some","_law_rows_here"]:List Str).Nodup by decide +kernel) rfl (by first | exact .inl rfl | exact .inr rfl)))) (fun _ _ _ _ _=>pX) (fun _ _ _ _ _=>(cH (bw Xz (hr.mono (by decide)) rfl lZ jl vW .nil bF (ao (cH (bw bU (hr.mono (by decide)) rfl bD bz bH .nil bF (ao (aj 2 (pv 2)) (ao (bG (bG az (mL az (cV rfl T.fZ (aK 4 (pv 4))))) (aj 0 (pv 0))) aJ)))) (ao (cV rfl T.fZ (aK 3 (pv 3))) (ao (aj 1 (pv 1)) aJ))))))))) (fun a b=>uT (pe_bm PySem.F.plainAttrs_list PySem.F.slot_list_append PySem.F.type_list_append ye a (cB b iG))))))
      (aB (ab5 4 (pv 4))))))
abbrev jD:Stmt:=top 36
theorem WY:aO ["_law_cell"] ["_law_cell"] (ak jD):=⟨rfl,rfl,rfl,by decide +kernel,rfl,by decide +kernel,by decide +kernel⟩
def Ey:DSt→Out Fl:=(bf (sIf (o2b eqD (o2 c7 (oF 2 aZ (aq (gv 0) (aq (kc (.int 1)) aN))) (kc (.int 8))) (kc (.int 0))) (bB (o2 cP (kc (.int 1)) (o2 c7 (oF 2 aZ (aq (gv 0) (aq (kc (.int 0)) aN))) (kc (.int 8))))) dh)
  (bB (o2 cP (kc (.int 1)) (o2 c7 (oF 2 aZ (aq (gv 0) (aq (kc (.int 0)) aN))) (kc (.int 4))))))
def jj:List D→Out D:=fun ds=>(cX 1 Ey ds).bA
theorem V6 {f:Addr} {fd:FuncData} (F:L2.Fun K "_law_many" "_law_many" jD f fd) (T:Txt K mg t) (bL:Def P w K mg base "_law_mixed" 1 ["_law_cell","_law_k"] (spD K (Ga t) 2 aZ)):bC P w K mg base CX0 2 f fd ["_law_cell"] (spD K (Ga t) 1 jj):=by
  obtain ⟨fu,qU,bU,bH,bD,bz⟩:=bL.ex
  refine DL.Fun.okD F WY fun cdv A outer s H E hr=>?_
  exact (aA (cg (iJ hr.units (aD (b8 (cH (bw bU (hr.mono (by decide)) rfl bD bz bH .nil bF (ao (aj 0 (pv 0)) (ao az aJ)))) az)) (aD az)) (aB (aL (bG az (b8 (cH (bw bU (hr.mono (by decide)) rfl bD bz bH .nil bF (ao (aj 0 (pv 0)) (ao az aJ)))) az)))) bc)
      (aB (aL (bG az (b8 (cH (bw bU (hr.mono (by decide)) rfl bD bz bH .nil bF (ao (aj 0 (pv 0)) (ao az aJ)))) az)))))
abbrev lB:Stmt:=top 37
theorem xR:aO ["_law_doors","_law_ranks_here","_law_rank","_law_action","_law_door_here"] ["_law_doors","_law_ranks_here","_law_rank"] (ak lB):=⟨rfl,rfl,rfl,by decide +kernel,rfl,by decide +kernel,by decide +kernel⟩
def cA:DSt→Out Fl:=(bf (sIf (pN (o2b eqD (gb 2) (kc (.int 0))) (o2b eqD (o2 ixD (gvo 4) (kc (.int 0))) (kc (.str "torn")))) (bB (gv 3)) dh)
  (sIf (pN (o2b gtD (gb 2) (kc (.int 0))) (pN (o2b eqD (o2 ixD (gvo 4) (kc (.int 0))) (kc (.str "must"))) (o2b eqD (yR 1 (o2 ixD (gvo 4) (kc (.int 1))) (o1 Gn (kc (.int 2)))) (o2 Dp (gv 2) (kc (.int 1)))))) (bB (gv 3)) dh))
def aa5:DSt→Out Fl:=(bf (mD (enum (gv 0)) (gT 2 (aP (gN 3) (aP (gN 4) d7))) cA)
  (bB (kc .non)))
def dz:List D→Out D:=fun ds=>(cX 5 aa5 ds).bA
theorem ZC {f:Addr} {fd:FuncData} (F:L2.Fun K "_law_why" "_law_why" lB f fd) (T:Txt K mg t) :bC P w K mg base CX0 1 f fd ["_law_doors","_law_ranks_here","_law_rank"] (spD K (Ga t) 3 dz):=by
  refine DL.Fun.okD F xR fun cdv A outer s H E hr=>?_
  exact (aA (qT (fun a b c=>rO PassesOwn.never rfl a b c) (TY rfl T.vZ (aj 0 (pv 0))) (wC (n:=2) (fun h=>xO rfl h) (bM (bh (bj (i:=3) xR.nd rfl (by first | exact .inl rfl | exact .inr rfl))) (bM (bh (bj (i:=4) xR.nd rfl (by first | exact .inl rfl | exact .inr rfl))) pW (fun a b=>bN a b)) (fun a b=>bN a b))) (aA (cg (vo (wF (iJ hr.units (aK 2 (pv 2)) (aD az)) (ud (iJ hr.units (aD (cC 4 (pv 4) az)) (aD cL))))) (aB (aL (aj 3 (pv 3)))) bc)
      (aB (cg (vo (wF (dt_gt (aK 2 (pv 2)) (aD az)) (wF (iJ hr.units (aD (cC 4 (pv 4) az)) (aD cL)) (ud (iJ hr.units (aD (YH 1 hr.units (pv 1) (cC 4 (pv 4) az) (aaQ az) ⟨rfl,rfl,rfl,rfl⟩)) (aD (Ti (aj 2 (pv 2)) az))))))) (aB (aL (aj 3 (pv 3)))) bc))))
      (aB (aL zy)))
abbrev iw:Stmt:=top 38
theorem bR:aO ["_law_rows_here","_law_ranks_here","_law_told","_law_rank","_law_fresh","_law_room","_law_place","_law_action"] ["_law_rows_here"] (ak iw):=⟨rfl,rfl,rfl,by decide +kernel,rfl,by decide +kernel,by decide +kernel⟩
def eN:DSt→Out Fl:=(sIf (pN (SJ 1 (gv 5)) (o2b xM (QR 1 (oF 3 dz (aq (o2 ixD (gvo 0) (gv 5)) (aq (gv 1) (aq (gv 3) aN))))) (kc .non))) (K3 4 (fj (aq (gv 5) (aq (gv 3) (aq (QR 1 (oF 3 dz (aq (o2 ixD (gvo 0) (gv 5)) (aq (gv 1) (aq (gv 3) aN))))) aN))))) dh)
def jZ:DSt→Out Fl:=(K5 1 (gv 3) (gv 5))
def gA:DSt→Out Fl:=(bf (zb 4 (Ja aN))
  (bf (mD (rng1 (o1 cG (gb 0))) (gN 5) eN)
  (bf (frzd 4 (mD (jh (gv 4)) (gT 3 (aP (gN 5) (aP (gN 6) (aP (gN 7) d7)))) jZ))
  (frzd 4 (cM 2 (o2 cP (gv 2) (gv 4)))))))
def ux:DSt→Out Fl:=(bf (abH 1)
  (bf (cM 2 (iB aN))
  (bf (mD (rng1 (o2 cP (o1 cG (gb 0)) (kc (.int 1)))) (gN 3) gA)
  (frzd 1 (bB (fj (aq (gv 1) (aq (gv 2) aN))))))))
def jL:List D→Out D:=fun ds=>(cX 8 ux ds).bA
theorem O8 {f:Addr} {fd:FuncData} (F:L2.Fun K "_law_ranks" "_law_ranks" iw f fd) (T:Txt K mg t) (zf:Def P w K mg base "_law_why" 1 ["_law_doors","_law_ranks_here","_law_rank"] (spD K (Ga t) 3 dz)):bC P w K mg base CX0 2 f fd ["_law_rows_here"] (spD K (Ga t) 1 jL):=by
  obtain ⟨uh,fd__law_why,Hz,tH,kZ,jc⟩:=zf.ex
  refine DL.Fun.okD F bR fun cdv A outer s H E hr=>?_
  exact (aA (YW 1 (fun h=>bI (i:=1) bR.nd rfl (by first | exact .inl rfl | exact .inr rfl) h))
      (aA (bW 2 (fun h=>bI (i:=2) bR.nd rfl (by first | exact .inl rfl | exact .inr rfl) h) (oX aJ))
      (aA (qT (fun a b c=>rO PassesOwn.never rfl a b c) (rY rfl T.Ai (bG (cV rfl T.fZ (aK 0 (pv 0))) az)) (bh (bj (i:=3) bR.nd rfl (by first | exact .inl rfl | exact .inr rfl))) (aA (T6 4 (fun h=>bI (i:=4) bR.nd rfl (by first | exact .inl rfl | exact .inr rfl) h) (aaV aJ))
      (aA (qT (fun a b c=>rO PassesOwn.never rfl a b c) (rY rfl T.Ai (cV rfl T.fZ (aK 0 (pv 0)))) (bh (bj (i:=5) bR.nd rfl (by first | exact .inl rfl | exact .inr rfl))) (aB (cg (vo (wF (acF 1 hr.units (pv 1) (aj 5 (pv 5))) (ud (dt_isnot (aD (ab3 1 (cH (bw Hz (hr.mono (by decide)) rfl kZ jc tH .nil bF (ao (cC 0 (pv 0) (aj 5 (pv 5))) (ao (aj 1 (pv 1)) (ao (aj 3 (pv 3)) aJ))))))) (aD zy))))) (aB (aaX 4 (pv 4) (iZ (ao (aj 5 (pv 5)) (ao (aj 3 (pv 3)) (ao (ab3 1 (cH (bw Hz (hr.mono (by decide)) rfl kZ jc tH .nil bF (ao (cC 0 (pv 0) (aj 5 (pv 5))) (ao (aj 1 (pv 1)) (ao (aj 3 (pv 3)) aJ)))))) aJ)))) (fun a b=>uT (pe_bm PySem.F.plainAttrs_list PySem.F.slot_list_append PySem.F.type_list_append ye a (cB b iG))))) bc)))
      (aA (T5 4 (qT (fun a b c=>rO PassesOwn.never rfl a b c) (mO (aj 4 (pv 4))) (wC (n:=3) (fun h=>xO rfl h) (bM (bh (bj (i:=5) bR.nd rfl (by first | exact .inl rfl | exact .inr rfl))) (bM (bh (bj (i:=6) bR.nd rfl (by first | exact .inl rfl | exact .inr rfl))) (bM (bh (bj (i:=7) bR.nd rfl (by first | exact .inl rfl | exact .inr rfl))) pW (fun a b=>bN a b)) (fun a b=>bN a b)) (fun a b=>bN a b))) (aB (ab4 1 hr.units (pv 1) (aj 3 (pv 3)) (aj 5 (pv 5))))))
      (aB (T5 4 (bW 2 (fun h=>bI (i:=2) bR.nd rfl (by first | exact .inl rfl | exact .inr rfl) h) (bG (aj 2 (pv 2)) (aj 4 (pv 4))))))))))
      (aB (T5 1 (aL (iZ (ao (aj 1 (pv 1)) (ao (aj 2 (pv 2)) aJ)))))))))
abbrev fU:Stmt:=top 39
theorem xQ:aO ["_law_number_here","_law_most","_law_way"] ["_law_number_here","_law_most"] (ak fU):=⟨rfl,rfl,rfl,by decide +kernel,rfl,by decide +kernel,by decide +kernel⟩
def rm:DSt→Out Fl:=(bf (cM 2 (o2 c7 (gv 0) (kc (.int 9))))
  (bf (sIf (o2b eqD (gb 2) (kc (.int 0))) (bB (o1 Gn (kc (.int 1)))) dh)
  (bf (sIf (o2b eqD (gb 2) (kc (.int 1))) (bB (gv 1)) dh)
  (bf (sIf (o2b eqD (gb 2) (kc (.int 2))) (bB (o2 vp (o2 vp (gv 0) (o2 powD (kc (.int 10)) (kc (.int 20)))) (o2 Dp (kc (.int 1)) (o2 vp (kc (.int 2)) (o2 c7 (o2 dq (gv 0) (kc (.int 9))) (kc (.int 2))))))) dh)
  (bB (o2 c7 (o2 dq (gv 0) (kc (.int 9))) (gv 1)))))))
def cN:List D→Out D:=fun ds=>(cX 3 rm ds).bA
theorem Ks {f:Addr} {fd:FuncData} (F:L2.Fun K "_law_number" "_law_number" fU f fd) (T:Txt K mg t) :bC P w K mg base CX0 1 f fd ["_law_number_here","_law_most"] (spD K (Ga t) 2 cN):=by
  refine DL.Fun.okD F xQ fun cdv A outer s H E hr=>?_
  exact (aA (bW 2 (fun h=>bI (i:=2) xQ.nd rfl (by first | exact .inl rfl | exact .inr rfl) h) (b8 (aj 0 (pv 0)) az))
      (aA (cg (iJ hr.units (aK 2 (pv 2)) (aD az)) (aB (aL (aaQ az))) bc)
      (aA (cg (iJ hr.units (aK 2 (pv 2)) (aD az)) (aB (aL (aj 1 (pv 1)))) bc)
      (aA (cg (iJ hr.units (aK 2 (pv 2)) (aD az)) (aB (aL (mL (mL (aj 0 (pv 0)) (de_pow az az)) (Ti az (mL az (b8 (iU (aj 0 (pv 0)) az) az)))))) bc)
      (aB (aL (b8 (iU (aj 0 (pv 0)) az) (aj 1 (pv 1)))))))))
abbrev eU:Stmt:=top 40
theorem bZ:aO ["_law_row","_law_cell","_law_rooms","_law_many_here","_law_number_here","_law_fresh","_law_at","_law_room","_law_rank","_law_action"] ["_law_row","_law_cell","_law_rooms","_law_many_here"] (ak eU):=⟨rfl,rfl,rfl,by decide +kernel,rfl,by decide +kernel,by decide +kernel⟩
def pq:DSt→Out Fl:=(bf (cM 4 (oF 2 aZ (aq (gv 1) (aq (kc (.int 60)) aN))))
  (bf (cM 5 (fj (aq (oF 2 cN (aq (o2 dq (gv 4) (kc (.int 64))) (aq (gv 2) aN))) (aq (o2 Dp (o2 c7 (o2 dq (gv 4) (kc (.int 8))) (kc (.int 7))) (kc (.int 1))) (aq (oF 2 cN (aq (o2 dq (gv 4) (kc (.int 128))) (aq (gv 3) aN))) aN)))))
  (bf (sIf (orT (o2b eqD (gb 0) (iB aN)) (o2b eqD (o2 c7 (gv 4) (kc (.int 8))) (kc (.int 0)))) (bf (cM 6 (o2 c7 (o2 dq (gv 4) (kc (.int 8))) (o2 cP (o1 cG (gb 0)) (kc (.int 1)))))
  (bB (o2 cP (o2 cP (oSl (gv 0) noI (soI (gv 6))) (iB (aq (gv 5) aN))) (oSl (gv 0) (soI (gv 6)) noI)))) dh)
  (bf (cM 6 (o2 c7 (o2 dq (gv 4) (kc (.int 16))) (o1 cG (gb 0))))
  (bf (GQ (o2 ixD (gvo 0) (gv 6)) (gT 3 (aP (gN 7) (aP (gN 8) (aP (gN 9) d7)))))
  (bf (sIf (o2b eqD (o2 c7 (gv 4) (kc (.int 8))) (kc (.int 1))) (bB (o2 cP (oSl (gv 0) noI (soI (gv 6))) (oSl (gv 0) (soI (o2 cP (gv 6) (kc (.int 1)))) noI))) dh)
  (bf (sIf (o2b eqD (o2 c7 (gv 4) (kc (.int 8))) (kc (.int 2))) (bB (o2 cP (gv 0) (iB (aq (fj (aq (gv 7) (aq (o2 cP (gv 8) (o2 c7 (o2 dq (gv 4) (kc (.int 1024))) (kc (.int 3)))) (aq (gv 9) aN)))) aN)))) dh)
  (bf (sIf (o2b ltD (o2 c7 (gv 4) (kc (.int 8))) (kc (.int 5))) (bB (o2 cP (o2 cP (oSl (gv 0) noI (soI (gv 6))) (iB (aq (fj (aq (gv 7) (aq (o2 Dp (o2 cP (gv 8) (kc (.int 1))) (o2 vp (kc (.int 2)) (o2 c7 (o2 dq (gv 4) (kc (.int 8))) (kc (.int 2))))) (aq (gv 9) aN)))) aN))) (oSl (gv 0) (soI (o2 cP (gv 6) (kc (.int 1)))) noI))) dh)
  (bf (sIf (o2b eqD (o2 c7 (gv 4) (kc (.int 8))) (kc (.int 5))) (bB (o2 cP (o2 cP (oSl (gv 0) noI (soI (gv 6))) (iB (aq (fj (aq (gv 7) (aq (gv 8) (aq (o2 ixD (gvo 5) (kc (.int 2))) aN)))) aN))) (oSl (gv 0) (soI (o2 cP (gv 6) (kc (.int 1)))) noI))) dh)
  (bf (sIf (o2b eqD (o2 c7 (gv 4) (kc (.int 8))) (kc (.int 6))) (bB (o2 cP (o2 cP (oSl (gv 0) noI (soI (gv 6))) (iB (aq (fj (aq (o2 ixD (gvo 5) (kc (.int 0))) (aq (gv 8) (aq (gv 9) aN)))) aN))) (oSl (gv 0) (soI (o2 cP (gv 6) (kc (.int 1)))) noI))) dh)
  (bB (o2 cP (o2 cP (oSl (gv 0) noI (soI (gv 6))) (iB (aq (fj (aq (gv 7) (aq (o2 cP (gv 8) (o2 c7 (o2 dq (gv 4) (kc (.int 1024))) (kc (.int 1000000)))) (aq (gv 9) aN)))) aN))) (oSl (gv 0) (soI (o2 cP (gv 6) (kc (.int 1)))) noI)))))))))))))
def dR:List D→Out D:=fun ds=>(cX 10 pq ds).bA
theorem Gw {f:Addr} {fd:FuncData} (F:L2.Fun K "_law_changed" "_law_changed" eU f fd) (T:Txt K mg t) (bL:Def P w K mg base "_law_mixed" 1 ["_law_cell","_law_k"] (spD K (Ga t) 2 aZ)) (qu:Def P w K mg base "_law_number" 1 ["_law_number_here","_law_most"] (spD K (Ga t) 2 cN)):bC P w K mg base CX0 2 f fd ["_law_row","_law_cell","_law_rooms","_law_many_here"] (spD K (Ga t) 4 dR):=by
  obtain ⟨fu,qU,bU,bH,bD,bz⟩:=bL.ex
  obtain ⟨lH,fd__law_number,yp,lD,fM,dB⟩:=qu.ex
  refine DL.Fun.okD F bZ fun cdv A outer s H E hr=>?_
  exact (aA (bW 4 (fun h=>bI (i:=4) bZ.nd rfl (by first | exact .inl rfl | exact .inr rfl) h) (cH (bw bU (hr.mono (by decide)) rfl bD bz bH .nil bF (ao (aj 1 (pv 1)) (ao az aJ)))))
      (aA (bW 5 (fun h=>bI (i:=5) bZ.nd rfl (by first | exact .inl rfl | exact .inr rfl) h) (iZ (ao (cH (bw yp (hr.mono (by decide)) rfl fM dB lD .nil bF (ao (iU (aj 4 (pv 4)) az) (ao (aj 2 (pv 2)) aJ)))) (ao (Ti (b8 (iU (aj 4 (pv 4)) az) az) az) (ao (cH (bw yp (hr.mono (by decide)) rfl fM dB lD .nil bF (ao (iU (aj 4 (pv 4)) az) (ao (aj 3 (pv 3)) aJ)))) aJ)))))
      (aA (cg (vo (mW (iJ hr.units (aK 0 (pv 0)) (aD (oX aJ))) (oY (iJ hr.units (aD (b8 (aj 4 (pv 4)) az)) (aD az))))) (aA (bW 6 (fun h=>bI (i:=6) bZ.nd rfl (by first | exact .inl rfl | exact .inr rfl) h) (b8 (iU (aj 4 (pv 4)) az) (bG (cV rfl T.fZ (aK 0 (pv 0))) az)))
      (aB (aL (bG (bG (dm (aj 0 (pv 0)) iV (dI (aj 6 (pv 6)))) (oX (ao (aj 5 (pv 5)) aJ))) (dm (aj 0 (pv 0)) (dI (aj 6 (pv 6))) iV))))) bc)
      (aA (bW 6 (fun h=>bI (i:=6) bZ.nd rfl (by first | exact .inl rfl | exact .inr rfl) h) (b8 (iU (aj 4 (pv 4)) az) (cV rfl T.fZ (aK 0 (pv 0)))))
      (aA (aaY (fun a b=>abD a b) (cC 0 (pv 0) (aj 6 (pv 6))) (wC (n:=3) (fun h=>xO rfl h) (bM (bh (bj (i:=7) bZ.nd rfl (by first | exact .inl rfl | exact .inr rfl))) (bM (bh (bj (i:=8) bZ.nd rfl (by first | exact .inl rfl | exact .inr rfl))) (bM (bh (bj (i:=9) bZ.nd rfl (by first | exact .inl rfl | exact .inr rfl))) pW (fun a b=>bN a b)) (fun a b=>bN a b)) (fun a b=>bN a b))))
      (aA (cg (iJ hr.units (aD (b8 (aj 4 (pv 4)) az)) (aD az)) (aB (aL (bG (dm (aj 0 (pv 0)) iV (dI (aj 6 (pv 6)))) (dm (aj 0 (pv 0)) (dI (bG (aj 6 (pv 6)) az)) iV)))) bc)
      (aA (cg (iJ hr.units (aD (b8 (aj 4 (pv 4)) az)) (aD az)) (aB (aL (bG (aj 0 (pv 0)) (oX (ao (iZ (ao (aj 7 (pv 7)) (ao (bG (aj 8 (pv 8)) (b8 (iU (aj 4 (pv 4)) az) az)) (ao (aj 9 (pv 9)) aJ)))) aJ))))) bc)
      (aA (cg (Bh (aD (b8 (aj 4 (pv 4)) az)) (aD az)) (aB (aL (bG (bG (dm (aj 0 (pv 0)) iV (dI (aj 6 (pv 6)))) (oX (ao (iZ (ao (aj 7 (pv 7)) (ao (Ti (bG (aj 8 (pv 8)) az) (mL az (b8 (iU (aj 4 (pv 4)) az) az))) (ao (aj 9 (pv 9)) aJ)))) aJ))) (dm (aj 0 (pv 0)) (dI (bG (aj 6 (pv 6)) az)) iV)))) bc)
      (aA (cg (iJ hr.units (aD (b8 (aj 4 (pv 4)) az)) (aD az)) (aB (aL (bG (bG (dm (aj 0 (pv 0)) iV (dI (aj 6 (pv 6)))) (oX (ao (iZ (ao (aj 7 (pv 7)) (ao (aj 8 (pv 8)) (ao (cC 5 (pv 5) az) aJ)))) aJ))) (dm (aj 0 (pv 0)) (dI (bG (aj 6 (pv 6)) az)) iV)))) bc)
      (aA (cg (iJ hr.units (aD (b8 (aj 4 (pv 4)) az)) (aD az)) (aB (aL (bG (bG (dm (aj 0 (pv 0)) iV (dI (aj 6 (pv 6)))) (oX (ao (iZ (ao (cC 5 (pv 5) az) (ao (aj 8 (pv 8)) (ao (aj 9 (pv 9)) aJ)))) aJ))) (dm (aj 0 (pv 0)) (dI (bG (aj 6 (pv 6)) az)) iV)))) bc)
      (aB (aL (bG (bG (dm (aj 0 (pv 0)) iV (dI (aj 6 (pv 6)))) (oX (ao (iZ (ao (aj 7 (pv 7)) (ao (bG (aj 8 (pv 8)) (b8 (iU (aj 4 (pv 4)) az) az)) (ao (aj 9 (pv 9)) aJ)))) aJ))) (dm (aj 0 (pv 0)) (dI (bG (aj 6 (pv 6)) az)) iV))))))))))))))
abbrev il:Stmt:=top 41
theorem fX:aO ["_law_row","_law_one","_law_rows_here","_law_room","_law_rank","_law_action","_law_door_here","_law_lower"] ["_law_row","_law_one","_law_rows_here"] (ak il):=⟨rfl,rfl,rfl,by decide +kernel,rfl,by decide +kernel,by decide +kernel⟩
def xJ:DSt→Out D:=(gv 0)
def uv:DSt→Out Fl:=(bf (GQ (gv 1) (gT 3 (aP (gN 3) (aP (gN 4) (aP (gN 5) d7)))))
  (bf (sIf (orT (o2b ltD (gb 3) (kc (.int 0))) (orT (o2b geD (gb 3) (o1 cG (gb 2))) (orT (o2b ltD (gb 4) (kc (.int 0))) (orT (o2b ltD (gb 5) (kc (.int 0))) (o2b geD (gb 5) (o1 cG (o2 ixD (gvo 2) (kc (.int 0))))))))) (bB (kc (.bl false))) dh)
  (bf (cM 6 (o2 ixD (o2 ixD (gvo 2) (gv 3)) (gv 5)))
  (bf (sIf (o2b eqD (o2 ixD (gvo 6) (kc (.int 0))) (kc (.str "torn"))) (bB (kc (.bl true))) dh)
  (bf (cM 7 (nH (iC [none,some 4,some 6] (jh (gv 0)) (gN 0) (pN (o2b eqD (o2 ixD (gvo 0) (kc (.int 0))) (o2 ixD (gvo 2) (kc (.int 1)))) (o2b ltD (o2 ixD (gvo 0) (kc (.int 1))) (gb 1))) xJ)))
  (bB (Ab (bV (o2b eqD (o2 ixD (gvo 6) (kc (.int 0))) (kc (.str "must")))) (bV (o2b gtD (o1 cG (gb 7)) (kc (.int 0)))))))))))
def cj:List D→Out D:=fun ds=>(cX 8 uv ds).bA
theorem O5 {f:Addr} {fd:FuncData} (F:L2.Fun K "_law_leans" "_law_leans" il f fd) (T:Txt K mg t) :bC P w K mg base CX0 1 f fd ["_law_row","_law_one","_law_rows_here"] (spD K (Ga t) 3 cj):=by
  refine DL.Fun.okD F fX fun cdv A outer s H E hr=>?_
  exact (aA (aaY (fun a b=>abD a b) (aj 1 (pv 1)) (wC (n:=3) (fun h=>xO rfl h) (bM (bh (bj (i:=3) fX.nd rfl (by first | exact .inl rfl | exact .inr rfl))) (bM (bh (bj (i:=4) fX.nd rfl (by first | exact .inl rfl | exact .inr rfl))) (bM (bh (bj (i:=5) fX.nd rfl (by first | exact .inl rfl | exact .inr rfl))) pW (fun a b=>bN a b)) (fun a b=>bN a b)) (fun a b=>bN a b))))
      (aA (cg (vo (mW (Bh (aK 3 (pv 3)) (aD az)) (mW (dt_ge (aK 3 (pv 3)) (aD (cV rfl T.fZ (aK 2 (pv 2))))) (mW (Bh (aK 4 (pv 4)) (aD az)) (mW (Bh (aK 5 (pv 5)) (aD az)) (oY (dt_ge (aK 5 (pv 5)) (aD (cV rfl T.fZ (aD (cC 2 (pv 2) az))))))))))) (aB (aL iz)) bc)
      (aA (bW 6 (fun h=>bI (i:=6) fX.nd rfl (by first | exact .inl rfl | exact .inr rfl) h) (de_ix (cC 2 (pv 2) (aj 3 (pv 3))) (aj 5 (pv 5))))
      (aA (cg (iJ hr.units (aD (cC 6 (pv 6) az)) (aD cL)) (aB (aL iz)) bc)
      (aA (ab6 7 (fun a b c d=>KY (i:=7) (N':=["_law_other","_law_rank","_law_door_here"]) (cap:=[none,some 4,some 6]) ⟨rfl,rfl,by decide +kernel,by decide +kernel,by rfl,⟨⟨rfl,by first | exact .inl rfl | exact .inr rfl⟩,⟨rfl,by first | exact .inl rfl | exact .inr rfl⟩,trivial⟩,⟨trivial,⟨rfl,rfl,by first | exact .inl rfl | exact .inr rfl⟩,⟨rfl,rfl,by first | exact .inl rfl | exact .inr rfl⟩,trivial⟩⟩ rfl fX.nd rfl (by first | exact .inl rfl | exact .inr rfl) a b c d rfl) (mO (aj 0 (pv 0))) (Li 0) (fun _ _ _ _ _=>(bh (bj (i:=0) (show (["_law_other","_law_rank","_law_door_here"]:List Str).Nodup by decide +kernel) rfl (by first | exact .inl rfl | exact .inr rfl)))) (fun _ _ _ _ _=>(T8 (vo (wF (iJ hr.units (aD (cC 0 (pv 0) az)) (aD (cC 2 (pv 2) az))) (ud (Bh (aD (cC 0 (pv 0) az)) (aK 1 (pv 1)))))))) (fun _ _ _ _ _=>(aj 0 (pv 0))))
      (aB (aL (zx (Js hr.units (aD (cC 6 (pv 6) az)) (aD cL)) (zz (de_gt (aD (cV rfl T.fZ (aK 7 (pv 7)))) (aD az)))))))))))
abbrev BZ:Stmt:=top 42
theorem mU:aO ["_law_script","_law_cell","_law_many_here","_law_rows_here","_law_draft","_law_ranks_here","_law_row","_law_one","_law_handed","_law_due","_law_found"] ["_law_script"] (ak BZ):=⟨rfl,rfl,rfl,by decide +kernel,rfl,by decide +kernel,by decide +kernel⟩
def acd:DSt→Out D:=(oC (BJ Bu) (aq (gv 0) aN))
def Ho:DSt→Out D:=(gv 0)
def Ve:DSt→Out D:=(gv 0)
def Hn:DSt→Out Fl:=(bf (cM 6 (oF 4 dR (aq (gv 6) (aq (gv 7) (aq (o1 cG (gb 3)) (aq (gv 2) aN))))))
  (bf (cM 8 (oC (BJ Bu) (aq (gv 6) aN)))
  (bf (cM 9 (bV (o2b eqD (o1 cG (nH (iC [none,some 6,some 3] (jh (gv 6)) (gN 0) (j9 (tst (oF 3 cj (aq (gv 1) (aq (gv 0) (aq (gv 2) aN)))))) Ho))) (kc (.int 0)))))
  (bf (cM 10 (oF 2 bQ (aq (gv 4) (aq (gv 8) aN))))
  (bf (sIf (orT (j9 (tst (zM fC (gb 10)))) (orT (o2b neD (gb 10) (gb 9)) (o2b neD (gb 8) (gb 6)))) (bB (kc (.bl false))) dh)
  (sIf (pN (tst (gb 10)) (o2b gtD (o1 cG (nH (iC [none,some 5] (jh (gv 6)) (gN 0) (xV 1 (o2 ixD (gvo 0) (kc (.int 0)))) Ve))) (kc (.int 0)))) (bB (kc (.bl false))) dh))))))
def g_law:DSt→Out Fl:=(bf (cM 1 (oF 2 dO (aq (gv 0) (aq (kc (.int 0)) aN))))
  (bf (cM 2 (oF 1 jj (aq (gv 1) aN)))
  (bf (cM 3 (oF 3 lO (aq (oSl (gv 0) (soI (kc (.int 1))) (soI (kc (.int 9)))) (aq (gv 2) (aq (kc (.bl true)) aN)))))
  (bf (cM 4 (oMk aR 2 Rf (aq (oF 2 jK (aq (gv 1) (aq (gv 2) aN))) (aq (nH (iC [none] (jh (gv 3)) (gN 0) (fun _=>.ok true) acd)) aN))))
  (bf (GQ (oF 1 jL (aq (gv 3) aN)) (gT 2 (aP (gN 5) (aP (gN 6) d7))))
  (bf (sIf (orT (o2b Ka (oF 2 bQ (aq (gv 4) (aq (iB aN) aN))) (kc (.bl true))) (o2b Ka (oF 2 bQ (aq (gv 4) (aq (oC (BJ Bu) (aq (gv 6) aN)) aN))) (kc (.bl true)))) (bB (kc (.bl false))) dh)
  (bf (mD (jh (oSl (gv 0) (soI (kc (.int 9))) (soI (kc (.int 30))))) (gN 7) Hn)
  (bB (kc (.bl true))))))))))
def F_law:List D→Out D:=fun ds=>(cX 11 g_law ds).bA
theorem ok_law {f:Addr} {fd:FuncData} (F:L2.Fun K "law" "law" BZ f fd) (T:Txt K mg t) (n6:Def P w K mg base "_law_cell_at" 1 ["_law_script","_law_k"] (spD K (Ga t) 2 dO)) (vz:Def P w K mg base "_law_many" 2 ["_law_cell"] (spD K (Ga t) 1 jj)) (vA:Def P w K mg base "_law_rows" 2 ["_law_cells","_law_many_here","_law_torn"] (spD K (Ga t) 3 lO)) (Rh:Ini P w K mg base t.Draft 7 ["self","actions","rows"] (spI K (Ga t) aR 2 Rf)) (sI:Def P w K mg base "_law_names" 2 ["_law_cell","_law_many_here"] (spD K (Ga t) 2 jK)) (sJ:Def P w K mg base "_law_ranks" 2 ["_law_rows_here"] (spD K (Ga t) 1 jL)) (qw:Def P w K mg base "is_torn_row" 4 ["draft","rows"] (spD K (Ga t) 2 bQ)) (n8:Def P w K mg base "_law_changed" 2 ["_law_row","_law_cell","_law_rooms","_law_many_here"] (spD K (Ga t) 4 dR)) (sH:Def P w K mg base "_law_leans" 1 ["_law_row","_law_one","_law_rows_here"] (spD K (Ga t) 3 cj)):bC P w K mg base CX0 9 f fd ["_law_script"] (spD K (Ga t) 1 F_law):=by
  obtain ⟨jT,ac8,Hx,oE,gB,d8⟩:=n6.ex
  obtain ⟨p8,fd__law_many,XC,vX,mj,jm⟩:=vz.ex
  obtain ⟨qb,fd__law_rows,XD,vY,mq,jn⟩:=vA.ex
  obtain ⟨f_Draft,fd_Draft,M_Draft,G_Draft,b_Draft⟩:=Rh.ex
  obtain ⟨nq,fd__law_names,Ra,tE,j5,gP⟩:=sI.ex
  obtain ⟨nu,fd__law_ranks,Rb,tG,j6,gQ⟩:=sJ.ex
  obtain ⟨lJ,fd_is_torn_row,qy,iI,dD,cO⟩:=qw.ex
  obtain ⟨jU,ac9,Hy,oG,gC,d9⟩:=n8.ex
  obtain ⟨nj,fd__law_leans,Q9,sZ,j4,gO⟩:=sH.ex
  refine DL.Fun.okD F mU fun cdv A outer s H E hr=>?_
  exact (aA (bW 1 (fun h=>bI (i:=1) mU.nd rfl (by first | exact .inl rfl | exact .inr rfl) h) (cH (bw Hx (hr.mono (by decide)) rfl gB d8 oE .nil bF (ao (aj 0 (pv 0)) (ao az aJ)))))
      (aA (bW 2 (fun h=>bI (i:=2) mU.nd rfl (by first | exact .inl rfl | exact .inr rfl) h) (cH (bw XC (hr.mono (by decide)) rfl mj jm vX .nil bF (ao (aj 1 (pv 1)) aJ))))
      (aA (bW 3 (fun h=>bI (i:=3) mU.nd rfl (by first | exact .inl rfl | exact .inr rfl) h) (cH (bw XD (hr.mono (by decide)) rfl mq jn vY .nil bF (ao (dm (aj 0 (pv 0)) (dI az) (dI az)) (ao (aj 2 (pv 2)) (ao iz aJ))))))
      (aA (bW 4 (fun h=>bI (i:=4) mU.nd rfl (by first | exact .inl rfl | exact .inr rfl) h) (YT (c:=aR) rfl (BL M_Draft G_Draft (hr.mono (by decide)) rfl T.g_Draft b_Draft .nil bF (ao (cH (bw Ra (hr.mono (by decide)) rfl j5 gP tE .nil bF (ao (aj 1 (pv 1)) (ao (aj 2 (pv 2)) aJ)))) (ao (yS (mY (fun a b c d=>kh (N':=["_law_doors"]) (cap:=[none]) ⟨rfl,rfl,by decide +kernel,by decide +kernel,by rfl,trivial,⟨trivial,trivial⟩⟩ rfl a b c d) (mO (aj 3 (pv 3))) (Li 0) (fun _ _ _ _ _=>(bh (bj (i:=0) (show (["_law_doors"]:List Str).Nodup by decide +kernel) rfl (by first | exact .inl rfl | exact .inr rfl)))) (fun _ _ _ _ _=>pX) (fun _ _ _ _ _=>(Th rfl T.CP (aj 0 (pv 0)))))) aJ)))))
      (aA (aaY (fun a b=>abD a b) (cH (bw Rb (hr.mono (by decide)) rfl j6 gQ tG .nil bF (ao (aj 3 (pv 3)) aJ))) (wC (n:=2) (fun h=>xO rfl h) (bM (bh (bj (i:=5) mU.nd rfl (by first | exact .inl rfl | exact .inr rfl))) (bM (bh (bj (i:=6) mU.nd rfl (by first | exact .inl rfl | exact .inr rfl))) pW (fun a b=>bN a b)) (fun a b=>bN a b))))
      (aA (cg (vo (mW (Qz (aD (cH (bw qy (hr.mono (by decide)) rfl dD cO iI .nil bF (ao (aj 4 (pv 4)) (ao (oX aJ) aJ))))) (aD iz)) (oY (Qz (aD (cH (bw qy (hr.mono (by decide)) rfl dD cO iI .nil bF (ao (aj 4 (pv 4)) (ao (Th rfl T.CP (aj 6 (pv 6))) aJ))))) (aD iz))))) (aB (aL iz)) bc)
      (aA (qT (fun a b c=>rO PassesOwn.never rfl a b c) (mO (dm (aj 0 (pv 0)) (dI az) (dI az))) (bh (bj (i:=7) mU.nd rfl (by first | exact .inl rfl | exact .inr rfl))) (aA (bW 6 (fun h=>bI (i:=6) mU.nd rfl (by first | exact .inl rfl | exact .inr rfl) h) (cH (bw Hy (hr.mono (by decide)) rfl gC d9 oG .nil bF (ao (aj 6 (pv 6)) (ao (aj 7 (pv 7)) (ao (cV rfl T.fZ (aK 3 (pv 3))) (ao (aj 2 (pv 2)) aJ)))))))
      (aA (bW 8 (fun h=>bI (i:=8) mU.nd rfl (by first | exact .inl rfl | exact .inr rfl) h) (Th rfl T.CP (aj 6 (pv 6))))
      (aA (bW 9 (fun h=>bI (i:=9) mU.nd rfl (by first | exact .inl rfl | exact .inr rfl) h) (Js hr.units (aD (cV rfl T.fZ (aD (yS (mY (fun a b c d=>kh (N':=["_law_tuple_of","_law_row","_law_rows_here"]) (cap:=[none,some 6,some 3]) ⟨rfl,rfl,by decide +kernel,by decide +kernel,by rfl,⟨⟨rfl,by first | exact .inl rfl | exact .inr rfl⟩,⟨rfl,by first | exact .inl rfl | exact .inr rfl⟩,trivial⟩,⟨trivial,⟨rfl,rfl,by first | exact .inl rfl | exact .inr rfl⟩,⟨rfl,rfl,by first | exact .inl rfl | exact .inr rfl⟩,trivial⟩⟩ rfl a b c d) (mO (aj 6 (pv 6))) (Li 0) (fun _ _ _ _ _=>(bh (bj (i:=0) (show (["_law_tuple_of","_law_row","_law_rows_here"]:List Str).Nodup by decide +kernel) rfl (by first | exact .inl rfl | exact .inr rfl)))) (fun _ _ _ _ _=>(T8 (jb (gm (aD (cH (bw Q9 (hr.mono (by decide)) rfl j4 gO sZ .nil bF (ao (aj 1 (pv 1)) (ao (aj 0 (pv 0)) (ao (aj 2 (pv 2)) aJ)))))))))) (fun _ _ _ _ _=>(aj 0 (pv 0)))))))) (aD az)))
      (aA (bW 10 (fun h=>bI (i:=10) mU.nd rfl (by first | exact .inl rfl | exact .inr rfl) h) (cH (bw qy (hr.mono (by decide)) rfl dD cO iI .nil bF (ao (aj 4 (pv 4)) (ao (aj 8 (pv 8)) aJ)))))
      (aA (cg (vo (mW (jb (gm (aD (uc (cv:=.ty "bool") (.inr rfl) T.fC rfl T.cJ (aK 10 (pv 10)) (nM rfl T.b_bool (by decide +kernel) rfl))))) (mW (dt_ne hr.units (aK 10 (pv 10)) (aK 9 (pv 9))) (oY (dt_ne hr.units (aK 8 (pv 8)) (aK 6 (pv 6))))))) (aB (aL iz)) bc)
      (aB (cg (vo (wF (gm (aK 10 (pv 10))) (ud (dt_gt (aD (cV rfl T.fZ (aD (yS (mY (fun a b c d=>kh (N':=["_law_tuple_of","_law_ranks_here"]) (cap:=[none,some 5]) ⟨rfl,rfl,by decide +kernel,by decide +kernel,by rfl,⟨⟨rfl,by first | exact .inl rfl | exact .inr rfl⟩,trivial⟩,⟨trivial,⟨rfl,rfl,by first | exact .inl rfl | exact .inr rfl⟩,trivial⟩⟩ rfl a b c d) (mO (aj 6 (pv 6))) (Li 0) (fun _ _ _ _ _=>(bh (bj (i:=0) (show (["_law_tuple_of","_law_ranks_here"]:List Str).Nodup by decide +kernel) rfl (by first | exact .inl rfl | exact .inr rfl)))) (fun _ _ _ _ _=>(T8 (aaZ 1 hr.units (pv 1) (cC 0 (pv 0) az)))) (fun _ _ _ _ _=>(aj 0 (pv 0)))))))) (aD az))))) (aB (aL iz)) bc))))))))
      (aB (aL iz)))))))))
end
end K4
namespace DL
open PySem MX L2
theorem Yr {α β:Type} {fe:DSt→Out β} (g:α→D) (h:α→β):∀ (xs:List α) (δ:DSt),(∀ x ∈ xs,fe (δ.set 0 (some (.sh (g x)))) = .ok (h x))→Eh (gN 0) (fun _=>.ok true) fe (xs.map g) δ = .ok (xs.map h)
  | [],_,_=>rfl
  | x :: xs,δ,k=>by
    have e1:=k x List.mem_cons_self
    have e2:=Yr g h xs (δ.set 0 (some (.sh (g x)))) (fun y hy=>by rw [List.set_set]; exact k y (List.mem_cons_of_mem _ hy))
    rw [List.map_cons,List.map_cons]
    unfold Eh
    simp only [gN,Out.fH,Out.bu,Out.nJ,e1,e2,if_true]
theorem pR {α β:Type} {cap:List (Option Nat)} {fi:DSt→Out (List D)} {fe:DSt→Out β} {δ:DSt} (g:α→D) (h:α→β) (xs:List α) (e:fi δ = .ok (xs.map g)) (hz:xs.length < 1000000) (k:∀ x ∈ xs,fe ((capD cap δ).set 0 (some (.sh (g x)))) = .ok (h x)):iC cap fi (gN 0) (fun _=>.ok true) fe δ = .ok (xs.map h):=by
  unfold iC
  rw [e]
  simp only [Out.bu]
  rw [if_pos (by rw [List.length_map]; exact Nat.lt_of_lt_of_le hz (by decide)),Yr g h xs _ k]
theorem aaC (l:List Bool):v6 (l.map D.bl) = some l:=by
  induction l with
  | nil=>rfl
  | cons b l ih=>simp [v6,ih,asB]
theorem QW (l:List Str):Fi (l.map D.str) = some l:=by
  induction l with
  | nil=>rfl
  | cons b l ih=>simp [Fi,ih]
theorem Ij {α:Type} (f:α→Bool) (l:List α):allD (.lst (l.map fun x=>.bl (f x))) = some (.bl (l.all f)):=by
  unfold allD
  have:(l.map fun x=>D.bl (f x)) = (l.map f).map D.bl:=by simp
  rw [this]
  simp only [ym,Option.bind_some,aaC,Option.map_some]
  congr 2
  induction l with
  | nil=>rfl
  | cons a l ih=>simp
theorem rngL_map (n:Nat):rngL 0 n = (List.range n).map fun i=>D.int (i:Nat):=by
  unfold rngL
  congr 1
  funext i
  rw [Int.zero_add]
theorem Ud {α:Type} {body:DSt→Out Fl} {tg:D→DSt→Option DSt} (g:α→D) (I:List α→DSt→Prop):∀ (xs done:List α) (δ:DSt),(∀ x done δ,I done δ→x ∈ xs→∃ δ1,tg (g x) δ = some δ1∧nxP (body δ1) (I (done ++ [x])))→I done δ→∃ δ',qZ tg body (xs.map g) δ = .ok (.nx δ')∧I (done ++ xs) δ'
  | [],done,δ,_,i=>⟨δ,rfl,by simpa using i⟩
  | x :: xs,done,δ,h,i=>by
    obtain ⟨δ1,e1,w⟩:=h x done δ i List.mem_cons_self
    obtain ⟨δ',e2,i'⟩:=ach w
    obtain ⟨δ2,e3,i2⟩:=Ud g I xs (done ++ [x]) δ' (fun y dn δ hi hy=>h y dn δ hi (List.mem_cons_of_mem _ hy)) i'
    exact ⟨δ2,by rw [List.map_cons]; unfold qZ; rw [e1]; simp only [Out.fH,Out.bu,e2]; exact e3,by simpa using i2⟩
theorem ph {α:Type} {body:DSt→Out Fl} {tg:D→DSt→Option DSt} (g:α→D) (I:List α→DSt→Prop) (xs:List α) (δ:DSt) (h:∀ x done rest δ,xs = done ++ x :: rest→I done δ→∃ δ1,tg (g x) δ = some δ1∧nxP (body δ1) (I (done ++ [x]))) (i:I [] δ):∃ δ',qZ tg body (xs.map g) δ = .ok (.nx δ')∧I xs δ':=by
  have go:∀ (ys done:List α) (δ:DSt),xs = done ++ ys→I done δ→∃ δ',qZ tg body (ys.map g) δ = .ok (.nx δ')∧I xs δ':=by
    intro ys
    induction ys with
    | nil=>intro done δ e i; exact ⟨δ,rfl,by rw [e,List.append_nil]; exact i⟩
    | cons x ys ih =>
      intro done δ e i
      obtain ⟨δ1,e1,w⟩:=h x done ys δ e i
      obtain ⟨δ',e2,i'⟩:=ach w
      obtain ⟨δ2,e3,i2⟩:=ih (done ++ [x]) δ' (by rw [e]; simp) i'
      exact ⟨δ2,by rw [List.map_cons]; unfold qZ; rw [e1]; simp only [Out.fH,Out.bu,e2]; exact e3,i2⟩
  exact go xs [] δ rfl i
theorem rng_lo (j:Int) (h:0 ≤ j):(-(2 ^ 62):Int) ≤ j:=by omega
theorem rng_hi (j:Int) (h:j < 1000000):j < (2 ^ 62:Int):=by omega
theorem rng1_int {f:DSt→Out D} {δ:DSt} {j:Int} (h:f δ = .ok (.int j)) (h0:0 ≤ j) (h1:j < 1000000):rng1 f δ = .ok (rngL 0 j.toNat):=by
  unfold rng1
  rw [h]
  simp only [Out.bu]
  rw [if_pos ⟨rng_lo j h0,rng_hi j h1⟩]
theorem xP {f:DSt→Out D} {δ:DSt} {n:Nat} (h:f δ = .ok (.int (n:Nat))) (hn:n < 1000000):rng1 f δ = .ok ((List.range n).map fun i=>D.int (i:Nat)):=by
  have a:(n:Int) < 1000000:=by omega
  have b:(0:Int) ≤ (n:Int):=by omega
  generalize hj:(n:Int) = j at h a b
  have e:=rng1_int h b a
  have t:j.toNat = n:=by omega
  rw [e,t,rngL_map]
theorem aG {A B:DSt→Out Fl} {δ δ':DSt} {r:Out D} (h:A δ = .ok (.nx δ')) (k:((B δ').bind kW).bA = r):((bf A B δ).bind kW).bA = r:=by
  unfold bf
  rw [h]
  exact k
theorem lM {f:DSt→Out D} {δ:DSt} {d:D} (h:f δ = .ok d):((bB f δ).bind kW).bA = .ok d:=by
  unfold bB
  rw [h]
  rfl
end DL
namespace DL
open PySem MX L2 PySem.Builtin PySem.Builtin.Str
def ofL (l:List Nat):Str:=⟨l.toArray⟩
theorem Vu (l:List Nat):(ofL l).length = l.length:=by show l.toArray.size = _; simp
theorem ofL_inj {a b:List Nat} (h:ofL a = ofL b):a = b:=by
  have:=congrArg (fun s:Str=>s.cps.toList) h
  simpa [ofL] using this
theorem abc:(Str.ofString "abcdefghijklmnopqrstuvwxyz") = ofL ((List.range 26).map (97 + ·)):=by decide +kernel
theorem abc_at {i:Int} (h0:0 ≤ i) (h1:i < 26):ixD (.str "abcdefghijklmnopqrstuvwxyz") (.int i) = some (.str (ofL [97 + i.toNat])):=by
  obtain ⟨k,rfl⟩:=Int.eq_ofNat_of_zero_le h0
  have hk:k < 26:=by omega
  have key:∀ k:Fin 26,ixD (.str (Str.ofString "abcdefghijklmnopqrstuvwxyz")) (.int ((k.val:Nat):Int)) = some (.str (ofL [97 + ((k.val:Nat):Int).toNat])):=by
    intro k
    have e:(if (Str.ofString "abcdefghijklmnopqrstuvwxyz").length ≤ sizeLine then (atI (Str.ofString "abcdefghijklmnopqrstuvwxyz").cps.toList ((k.val:Nat):Int)).map fun c=>D.str ⟨#[c]⟩ else none) = ixD (.str (Str.ofString "abcdefghijklmnopqrstuvwxyz")) (.int ((k.val:Nat):Int)):=rfl
    rw [← e,abc,Vu,if_pos (by simp; decide)]
    show (atI (((List.range 26).map (97 + ·)).toArray.toList) ((k.val:Nat):Int)).map _ = _
    have:atI (((List.range 26).map (97 + ·)).toArray.toList) ((k.val:Nat):Int) = some (97 + k.val):=dH (by simp)
    rw [this]
    simp [ofL]
  exact key ⟨k,hk⟩
theorem abc_in {c:Nat} (h0:97 ≤ c) (h1:c < 123):inD (.str (ofL [c])) (.str "abcdefghijklmnopqrstuvwxyz") = some true:=by
  have key:∀ k:Fin 26,(!(occurrences (Str.ofString "abcdefghijklmnopqrstuvwxyz") (ofL [97 + k.val]) 0 (Str.ofString "abcdefghijklmnopqrstuvwxyz").length 1).isEmpty) = true:=by decide +kernel
  have:=key ⟨c - 97,by omega⟩
  rw [show 97 + (c - 97) = c by omega] at this
  show some _ = some true
  rw [this]
theorem join_ones (l:List Nat):Txt.join (Str.ofString "") (l.map fun c=>ofL [c]) = ofL l:=by
  have e0:(Str.ofString "").cps = #[]:=by decide +kernel
  have go:∀ (l:List Nat) (a:Array Nat),(l.map fun c=>ofL [c]).foldl (fun acc p=>acc ++ (Str.ofString "").cps ++ p.cps) a = a ++ l.toArray:=by
    intro l
    induction l with
    | nil=>intro a; simp
    | cons c l ih =>
      intro a
      rw [List.map_cons,List.foldl_cons,ih,e0]
      apply Array.ext'
      simp [ofL]
  show glued _ _ = _
  unfold glued
  cases l with
  | nil=>rfl
  | cons c l =>
    simp only [List.map_cons,List.drop_one,List.tail_cons,List.headD_cons]
    rw [go]
    unfold ofL
    congr 1
    apply Array.ext'
    simp
end DL
local macro_rules
  | `(tactic| walk_at $s:str)=>do
    let t:=s.getString
    unless t.startsWith "ev" do Lean.Macro.throwUnsupported
    let (h,r):=match t.splitOn ":" with
      | [h,r]=>(h,r)
      | _=>(t,"")
    let minus:=(h.splitOn "-").drop 1
    let all:=("cX lC kW bf dh sExpr cM zb Wz sIf bB mD K3 sAppl sExt sClr sClr2 sPut sPut2 GQ gv gb gvo slD o1 o2 o2b o3 oC oF oM oMk yo zM bV pN orT j9 tst Ab orV notV ifV aN aq fj iB Ja jh nH lstVV kc BJ frzd frz frzS Gn Hd Hv Bw wH Bv Hh Xl Yd Vf Vg Vh Za ixD_r Fb UJ JR Ye Yg Yh atI_3 atI_4 atI_5 atI_6 atI_7 atI_8 atI_9 RT RV Vj Vk zA Vp T9 Vo Ua Vr isND xM wU gN d7 aP gT Out.bu Out.Hg Out.tL Out.fH Out.BK Out.nJ Vt List.map_cons List.map_nil List.length_cons List.length_nil List.append_assoc List.nil_append List.cons_append List.getElem?_cons_zero List.getElem?_cons_succ List.getElem?_nil List.set_cons_zero List.set_cons_succ Nat.zero_add Nat.reduceAdd Nat.reduceSub List.replicate_succ List.replicate_zero List.lookup_cons List.lookup_nil Option.some.injEq Option.bind_some Option.map_some Nat.reduceBEq Nat.reduceEqDiff Int.reduceLT Int.reduceLE Int.reduceNeg Int.reduceAdd Int.reduceMul Int.reduceSub Nat.reduceLeDiff reduceIte if_t if_f ite_true decide_true decide_false Bool.not_true Bool.not_false Nat.reduceEqDiff Bool.false_eq_true Option.isNone_none Option.isNone_some Hs String.reduceBEq String.reduceEq beq_self_eq_true List.contains_cons List.contains_nil Bool.or_false Bool.or_true Bool.true_or Bool.false_or Bool.and_true Bool.and_false Bool.true_and Bool.false_and Bool.not_eq_true eq_self_iff_true Int.cast_ofNat_Int Int.reduceBEq Int.natCast_zero".splitOn " ").filter fun x=>!minus.contains x
    let ids:=(all ++ (r.splitOn " ").filter (· ≠ "")).toArray.map fun x=>Lean.mkIdent x.toName
    let args ← ids.mapM fun i=>`(Lean.Parser.Tactic.simpLemma| $i:term)
    `(tactic| simp only [$args,*])
namespace K4
open PySem L2 MX DL
inductive Dr where
  | must (n:Nat) | may (n:Nat) | shut | torn
def Dr.w:Dr→Str
  | .must _=>"must"
  | .may _=>"may"
  | .shut=>"shut"
  | .torn=>"torn"
def Dr.to:Dr→D
  | .must n=>.int n
  | .may n=>.int n
  | .shut=>.non
  | .torn=>.non
def Dr.d (x:Dr):D:=.tup [.str x.w,x.to]
def Dr.ob:Dr→D
  | .must n=>.obj lQ [("to",.int n)]
  | .may n=>.obj v7 [("to",.int n)]
  | .shut=>.obj km [("to",.non)]
  | .torn=>.obj kE [("to",.non)]
def Dr.ok (many:Nat) (t:Bool):Dr→Prop
  | .must n=>n < many
  | .may n=>n < many
  | .shut=>True
  | .torn=>t = true
theorem s0:(0:Nat) ≤ sizeLine:=by decide
theorem s1:(1:Nat) ≤ sizeLine:=by decide
theorem s2:(2:Nat) ≤ sizeLine:=by decide
theorem q11:eqD (.str "must") (.str "must") = some true:=by decide +kernel
theorem q21:eqD (.str "may") (.str "must") = some false:=by decide +kernel
theorem q22:eqD (.str "may") (.str "may") = some true:=by decide +kernel
theorem q31:eqD (.str "shut") (.str "must") = some false:=by decide +kernel
theorem q32:eqD (.str "shut") (.str "may") = some false:=by decide +kernel
theorem q33:eqD (.str "shut") (.str "shut") = some true:=by decide +kernel
theorem q41:eqD (.str "torn") (.str "must") = some false:=by decide +kernel
theorem q42:eqD (.str "torn") (.str "may") = some false:=by decide +kernel
theorem q43:eqD (.str "torn") (.str "shut") = some false:=by decide +kernel
theorem q44:eqD (.str "torn") (.str "torn") = some true:=by decide +kernel
theorem n1:inD (.str "must") (.tup [.str "must",.str "torn"]) = some true:=by decide +kernel
theorem n2:inD (.str "may") (.tup [.str "must",.str "torn"]) = some false:=by decide +kernel
theorem n3:inD (.str "shut") (.tup [.str "must",.str "torn"]) = some false:=by decide +kernel
theorem n4:inD (.str "torn") (.tup [.str "must",.str "torn"]) = some true:=by decide +kernel
theorem m1:inD (.str "must") (.tup [.str "must",.str "may"]) = some true:=by decide +kernel
theorem m2:inD (.str "may") (.tup [.str "must",.str "may"]) = some true:=by decide +kernel
theorem m3:inD (.str "shut") (.tup [.str "must",.str "may"]) = some false:=by decide +kernel
theorem m4:inD (.str "torn") (.tup [.str "must",.str "may"]) = some false:=by decide +kernel
theorem p2:inD (.str "may") (.tup [.str "must",.str "shut"]) = some false:=by decide +kernel
theorem Hw (n many:Nat) (h:n < many):di [.int n,.int many] = .ok (.bl true):=by
  unfold di CV
  have h1:(n:Int) < (many:Int):=by omega
  have h0:(0:Int) ≤ (n:Int):=by omega
  walk_at "ev: qg fC su h0 h1"
theorem Xy (x:Dr) (many:Nat) (t:Bool) (h:x.ok many t):dW [x.d,.int many,.bl t] = .ok (.bl true):=by
  unfold dW wQ Dr.d
  cases x with
  | must n=>simp only [cX,lC,kW,bf,dh,sExpr,cM,zb,Wz,sIf,bB,mD,K3,sAppl,sExt,sClr,sClr2,sPut,sPut2,GQ,gv,gb,gvo,slD,o1,o2,o2b,o3,oC,oF,oM,oMk,yo,zM,bV,pN,orT,j9,tst,Ab,orV,notV,ifV,aN,aq,fj,iB,Ja,jh,nH,lstVV,kc,BJ,frzd,frz,frzS,Gn,Hd,Hv,Bw,wH,Bv,Hh,Xl,Yd,Vf,Vg,Vh,Za,ixD_r,Fb,UJ,JR,Ye,Yg,Yh,atI_3,atI_4,atI_5,atI_6,atI_7,atI_8,atI_9,RT,RV,Vj,Vk,zA,Vp,T9,Vo,Ua,Vr,isND,xM,wU,gN,d7,aP,gT,Out.bu,Out.Hg,Out.tL,Out.fH,Out.BK,Out.nJ,Vt,List.map_cons,List.map_nil,List.length_cons,List.length_nil,List.append_assoc,List.nil_append,List.cons_append,List.getElem?_cons_zero,List.getElem?_cons_succ,List.getElem?_nil,List.set_cons_zero,List.set_cons_succ,Nat.zero_add,Nat.reduceAdd,Nat.reduceSub,List.replicate_succ,List.replicate_zero,List.lookup_cons,List.lookup_nil,Option.some.injEq,Option.bind_some,Option.map_some,Nat.reduceBEq,Nat.reduceEqDiff,Int.reduceLT,Int.reduceLE,Int.reduceNeg,Int.reduceAdd,Int.reduceMul,Int.reduceSub,Nat.reduceLeDiff,reduceIte,if_t,if_f,ite_true,decide_true,decide_false,Bool.not_true,Bool.not_false,Nat.reduceEqDiff,Bool.false_eq_true,Option.isNone_none,Option.isNone_some,Hs,String.reduceBEq,String.reduceEq,beq_self_eq_true,List.contains_cons,List.contains_nil,Bool.or_false,Bool.or_true,Bool.true_or,Bool.false_or,Bool.and_true,Bool.and_false,Bool.true_and,Bool.false_and,Bool.not_eq_true,eq_self_iff_true,Int.cast_ofNat_Int,Int.reduceBEq,Int.natCast_zero,jk,jY,su,Dr.w,Dr.to,q11,Hw n many h]
  | may n=>simp only [cX,lC,kW,bf,dh,sExpr,cM,zb,Wz,sIf,bB,mD,K3,sAppl,sExt,sClr,sClr2,sPut,sPut2,GQ,gv,gb,gvo,slD,o1,o2,o2b,o3,oC,oF,oM,oMk,yo,zM,bV,pN,orT,j9,tst,Ab,orV,notV,ifV,aN,aq,fj,iB,Ja,jh,nH,lstVV,kc,BJ,frzd,frz,frzS,Gn,Hd,Hv,Bw,wH,Bv,Hh,Xl,Yd,Vf,Vg,Vh,Za,ixD_r,Fb,UJ,JR,Ye,Yg,Yh,atI_3,atI_4,atI_5,atI_6,atI_7,atI_8,atI_9,RT,RV,Vj,Vk,zA,Vp,T9,Vo,Ua,Vr,isND,xM,wU,gN,d7,aP,gT,Out.bu,Out.Hg,Out.tL,Out.fH,Out.BK,Out.nJ,Vt,List.map_cons,List.map_nil,List.length_cons,List.length_nil,List.append_assoc,List.nil_append,List.cons_append,List.getElem?_cons_zero,List.getElem?_cons_succ,List.getElem?_nil,List.set_cons_zero,List.set_cons_succ,Nat.zero_add,Nat.reduceAdd,Nat.reduceSub,List.replicate_succ,List.replicate_zero,List.lookup_cons,List.lookup_nil,Option.some.injEq,Option.bind_some,Option.map_some,Nat.reduceBEq,Nat.reduceEqDiff,Int.reduceLT,Int.reduceLE,Int.reduceNeg,Int.reduceAdd,Int.reduceMul,Int.reduceSub,Nat.reduceLeDiff,reduceIte,if_t,if_f,ite_true,decide_true,decide_false,Bool.not_true,Bool.not_false,Nat.reduceEqDiff,Bool.false_eq_true,Option.isNone_none,Option.isNone_some,Hs,String.reduceBEq,String.reduceEq,beq_self_eq_true,List.contains_cons,List.contains_nil,Bool.or_false,Bool.or_true,Bool.true_or,Bool.false_or,Bool.and_true,Bool.and_false,Bool.true_and,Bool.false_and,Bool.not_eq_true,eq_self_iff_true,Int.cast_ofNat_Int,Int.reduceBEq,Int.natCast_zero,jk,jY,su,Dr.w,Dr.to,q21,q22,Hw n many h]
  | shut=>walk_at "ev: jk jY su Dr.w Dr.to q31 q32 q33"
  | torn =>
    obtain rfl:t = true:=h
    walk_at "ev: jk jY su Dr.w Dr.to q41 q42 q43 q44"
theorem aad (n a:Bool) (to:D):nQ [.bl n,.bl a,to] = .ok (match n,a with | true,true=>.obj lQ [("to",to)] | false,true=>.obj v7 [("to",to)] | true,false=>.obj kE [("to",.non)] | false,false=>.obj km [("to",.non)]):=by
  unfold nQ QG
  cases n <;> cases a <;> walk_at "ev: vI Qm zj vJ" <;> rfl
theorem F_made (x:Dr):gf [x.d] = .ok x.ob:=by
  unfold gf Ez Dr.d
  cases x <;> walk_at "ev: Dr.w Dr.to Dr.ob s2 n1 n2 n3 n4 m1 m2 m3 m4 aad"
theorem ab0 (x:Dr) (δ:DSt) (fo:DSt→Out D) (h:fo δ = .ok x.ob):oM "word" 1 iT fo aN δ = .ok (.str x.w):=by
  cases x <;> · unfold Dr.ob at h; walk_at "ev: h Dr.w iT lQ v7 km kE vD Eu zg JG vG Ew vH Ex"
theorem fld_to (x:Dr) (δ:DSt) (fo:DSt→Out D) (h:fo δ = .ok x.ob):yo "to" [lQ,v7,km,kE] fo δ = .ok x.to:=by
  cases x <;> · unfold Dr.ob at h; walk_at "ev: h Dr.to lQ v7 km kE"
theorem Q8 (r:List Dr) (h:r.length ≤ 100):gj [.lst (r.map Dr.d)] = .ok (.tup (r.map Dr.ob)):=by
  unfold gj EY
  have e:=pR (cap:=[none]) (fi:=jh (gv 0)) (fe:=rM) (δ:=[some (.sh (.lst (r.map Dr.d)))]) Dr.d Dr.ob r rfl (by omega) (fun x _=>by
    unfold rM
    show (oF 1 gf (aq (gv 0) aN) [some (.sh x.d)]) = _
    simp only [cX,lC,kW,bf,dh,sExpr,cM,zb,Wz,sIf,bB,mD,K3,sAppl,sExt,sClr,sClr2,sPut,sPut2,GQ,gv,gb,gvo,slD,o1,o2,o2b,o3,oC,oF,oM,oMk,yo,zM,bV,pN,orT,j9,tst,Ab,orV,notV,ifV,aN,aq,fj,iB,Ja,jh,nH,lstVV,kc,BJ,frzd,frz,frzS,Gn,Hd,Hv,Bw,wH,Bv,Hh,Xl,Yd,Vf,Vg,Vh,Za,ixD_r,Fb,UJ,JR,Ye,Yg,Yh,atI_3,atI_4,atI_5,atI_6,atI_7,atI_8,atI_9,RT,RV,Vj,Vk,zA,Vp,T9,Vo,Ua,Vr,isND,xM,wU,gN,d7,aP,gT,Out.bu,Out.Hg,Out.tL,Out.fH,Out.BK,Out.nJ,Vt,List.map_cons,List.map_nil,List.length_cons,List.length_nil,List.append_assoc,List.nil_append,List.cons_append,List.getElem?_cons_zero,List.getElem?_cons_succ,List.getElem?_nil,List.set_cons_zero,List.set_cons_succ,Nat.zero_add,Nat.reduceAdd,Nat.reduceSub,List.replicate_succ,List.replicate_zero,List.lookup_cons,List.lookup_nil,Option.some.injEq,Option.bind_some,Option.map_some,Nat.reduceBEq,Nat.reduceEqDiff,Int.reduceLT,Int.reduceLE,Int.reduceNeg,Int.reduceAdd,Int.reduceMul,Int.reduceSub,Nat.reduceLeDiff,reduceIte,if_t,if_f,ite_true,decide_true,decide_false,Bool.not_true,Bool.not_false,Nat.reduceEqDiff,Bool.false_eq_true,Option.isNone_none,Option.isNone_some,Hs,String.reduceBEq,String.reduceEq,beq_self_eq_true,List.contains_cons,List.contains_nil,Bool.or_false,Bool.or_true,Bool.true_or,Bool.false_or,Bool.and_true,Bool.and_false,Bool.true_and,Bool.false_and,Bool.not_eq_true,eq_self_iff_true,Int.cast_ofNat_Int,Int.reduceBEq,Int.natCast_zero,F_made x])
  walk_at "ev: e zO"
def aU (rows:List (List Dr)):D:=.lst (rows.map fun r=>.lst (r.map Dr.d))
def rowsO (rows:List (List Dr)):D:=.tup (rows.map fun r=>.tup (r.map Dr.ob))
structure Rows (many acts:Nat) (t:Bool) (rows:List (List Dr)):Prop where
  n:rows.length = many
  row:∀ r ∈ rows,r.length = acts∧∀ x ∈ r,x.ok many t
theorem JC {α:Type} (g:α→D):∀ (xs:List α) (k:Nat),mX k (xs.map g) = (List.zipIdx xs k).map fun p=>D.tup [.int p.2,g p.1]
  | [],_=>rfl
  | x :: xs,k=>by rw [List.map_cons,List.zipIdx_cons,List.map_cons,← JC g xs (k + 1)]; rfl
theorem F_rows (many acts:Nat) (t:Bool) (rows:List (List Dr)) (R:Rows many acts t rows) (h1:1 ≤ many) (h2:many ≤ 2000) (h3:acts ≤ 8):dj [aU rows,.int acts,.bl t] = .ok .non:=by
  unfold dj Bo aU
  have hn:=R.n
  have a1:(1:Int) ≤ (rows.length:Int):=by omega
  have a2:(rows.length:Int) ≤ 2000:=by omega
  walk_at "ev: gr su List.length_map a1 a2 enum ym JC"
  have step:∀ (p:List Dr × Nat) (done:List (List Dr × Nat)) (δ:DSt),(∃ a b c d:Option Sl,δ = [some (.sh (aU rows)),some (.sh (.int acts)),some (.sh (.bl t)),a,b,c,d])→p ∈ rows.zipIdx →
      ∃ δ1,gT 2 (aP (gN 3) (aP (gN 4) d7)) (D.tup [.int p.2,.lst (p.1.map Dr.d)]) δ = some δ1∧nxP (pH δ1) fun δ=>∃ a b c d:Option Sl,δ = [some (.sh (aU rows)),some (.sh (.int acts)),some (.sh (.bl t)),a,b,c,d]:=by
    rintro ⟨r,i⟩ done δ ⟨a,b,c,d,rfl⟩ hp
    refine ⟨_,rfl,?_⟩
    have hr:=R.row r (List.fst_mem_of_mem_zipIdx hp)
    have hl:(r.length:Int) = (acts:Int):=by rw [hr.1]
    have step2:∀ (p:Dr × Nat) (done:List (Dr × Nat)) (δ:DSt),(∃ a b:Option Sl,δ = [some (.sh (aU rows)),some (.sh (.int acts)),some (.sh (.bl t)),some (.sh (.int i)),some (.sh (.lst (r.map Dr.d))),a,b])→p ∈ r.zipIdx →
        ∃ δ1,gT 2 (aP (gN 5) (aP (gN 6) d7)) (D.tup [.int p.2,p.1.d]) δ = some δ1∧nxP (pI δ1) fun δ=>∃ a b:Option Sl,δ = [some (.sh (aU rows)),some (.sh (.int acts)),some (.sh (.bl t)),some (.sh (.int i)),some (.sh (.lst (r.map Dr.d))),a,b]:=by
      rintro ⟨x,j⟩ done δ ⟨a,b,rfl⟩ hq
      refine ⟨_,rfl,?_⟩
      have e:=Xy x many t (hr.2 x (List.fst_mem_of_mem_zipIdx hq))
      unfold pI
      unfold aU
      walk_at "ev: List.length_map hn e"
      exact ⟨_,_,rfl⟩
    obtain ⟨δ',e1,i1⟩:=Ud (fun p:Dr × Nat=>D.tup [.int p.2,p.1.d]) (fun _ δ=>∃ a b:Option Sl,δ = [some (.sh (aU rows)),some (.sh (.int acts)),some (.sh (.bl t)),some (.sh (.int i)),some (.sh (.lst (r.map Dr.d))),a,b]) r.zipIdx [] [some (.sh (aU rows)),some (.sh (.int acts)),some (.sh (.bl t)),some (.sh (.int i)),some (.sh (.lst (r.map Dr.d))),c,d] step2 ⟨_,_,rfl⟩
    unfold pH
    walk_at "ev: gr su List.length_map hl enum ym JC e1"
    obtain ⟨a,b,rfl⟩:=i1
    exact ⟨_,_,_,_,rfl⟩
  obtain ⟨δ',e1,i1⟩:=Ud (fun p:List Dr × Nat=>D.tup [.int p.2,.lst (p.1.map Dr.d)]) (fun _ δ=>∃ a b c d:Option Sl,δ = [some (.sh (aU rows)),some (.sh (.int acts)),some (.sh (.bl t)),a,b,c,d]) rows.zipIdx [] [some (.sh (aU rows)),some (.sh (.int acts)),some (.sh (.bl t)),none,none,none,none] step ⟨_,_,_,_,rfl⟩
  unfold aU at e1
  walk_at "ev: e1"
def NameL (l:List Nat):Prop:=1 ≤ l.length∧l.length ≤ 8∧∀ c ∈ l,97 ≤ c∧c < 123
theorem F_name (l:List Nat) (h:NameL l):kJ [.str (ofL l)] = .ok (.bl true):=by
  unfold kJ QH
  have a1:(1:Int) ≤ (l.length:Int):=by have:=h.1; omega
  have a2:(l.length:Int) ≤ 8:=by have:=h.2.1; omega
  have a3:l.length ≤ sizeLine:=Nat.le_trans h.2.1 (by decide)
  have e:=pR (cap:=[none]) (fi:=strO (gv 0)) (fe:=xK) (δ:=[some (.sh (.str (ofL l)))]) (fun c=>D.str (ofL [c])) (fun _=>D.bl true) l rfl (by have:=h.2.1; omega) (fun c hc=>by
    unfold xK
    have e:=abc_in (h.2.2 c hc).1 (h.2.2 c hc).2
    show bV (o2b inD (gb 0) (kc (.str "abcdefghijklmnopqrstuvwxyz"))) [some (.sh (.str (ofL [c])))] = _
    walk_at "ev: e")
  have e2:=Ij (fun _:Nat=>true) l
  walk_at "ev: jY su cG Vu a1 a2 a3 e e2"
  simp
def cI (ns:List (List Nat)):List D:=ns.map fun l=>.str (ofL l)
structure Names (ns:List (List Nat)):Prop where
  ok:∀ l ∈ ns,NameL l
  lo:1 ≤ ns.length
  hi:ns.length ≤ 8
  nd:ns.Nodup
theorem F_acts (ns:List (List Nat)) (N:Names ns):dX [.lst (cI ns)] = .ok .non:=by
  unfold dX wR dU sr
  have h1:=N.lo
  have h2:=N.hi
  have a1:(1:Int) ≤ (ns.length:Int):=by omega
  have a2:(ns.length:Int) ≤ 8:=by omega
  have e:=pR (cap:=[none]) (fi:=jh (gv 0)) (fe:=jd) (δ:=[some (.sh (.lst (cI ns)))]) (fun l=>D.str (ofL l)) (fun _=>D.bl true) ns rfl (by omega) (fun l hl=>by
    unfold jd
    have e:=F_name l (N.ok l hl)
    show oF 1 kJ (aq (gv 0) aN) [some (.sh (.str (ofL l)))] = _
    walk_at "ev: e")
  have e2:=Ij (fun _:List Nat=>true) ns
  have e3:ns.all (fun _=>true) = true:=by simp
  have e4:J5 (.lst (cI ns)) = some (.int ns.length):=by
    unfold J5
    have q:cI ns = (ns.map ofL).map D.str:=by unfold cI; simp
    simp only [ym,Option.bind_some,q,QW]
    rw [if_pos (by rw [List.length_map]; omega),Kd _ _ (by
      simp only [List.nil_append]
      exact List.pairwise_map.mpr (N.nd.imp fun h q=>h (ofL_inj q)))]
    simp
  have e5:(cI ns).length = ns.length:=by simp [cI]
  walk_at "ev: gr su e5 a1 a2 e e2 e3 e4"
def plan (c:Nat) (ns:List (List Nat)) (rows:List (List Dr)):D:=.obj c [("actions",.tup (cI ns)),("rooms",rowsO rows)]
theorem F_init (t:Bool) (many:Nat) (ns:List (List Nat)) (rows:List (List Dr)) (N:Names ns) (R:Rows many ns.length t rows) (h1:1 ≤ many) (h2:many ≤ 60):Y9 t [.lst (cI ns),aU rows] = .ok [("actions",.tup (cI ns)),("rooms",rowsO rows)]:=by
  have e5:(cI ns).length = ns.length:=by simp [cI]
  have e1:=F_acts ns N
  have e2:=F_rows many ns.length t rows R h1 (by omega) N.hi
  have hn:=R.n
  have e3:=pR (cap:=[none]) (fi:=jh (gv 2)) (fe:=pJ) (δ:=[none,some (.sh (.lst (cI ns))),some (.sh (aU rows))]) (fun r:List Dr=>D.lst (r.map Dr.d)) (fun r=>D.tup (r.map Dr.ob)) rows rfl (by omega) (fun r hr=>by
    unfold pJ
    have h8:=N.hi
    have e:=Q8 r (by rw [(R.row r hr).1]; omega)
    show oF 1 gj (aq (gv 0) aN) [some (.sh (.lst (r.map Dr.d)))] = _
    walk_at "ev: e")
  unfold Y9 Hi Hj Hk Hl
  walk_at "ev: e1 e2 e5 e3 zO rowsO"
structure Pl (c many:Nat) (t:Bool) (ns:List (List Nat)) (rows:List (List Dr)):Prop where
  c:c = aR
  N:Names ns
  R:Rows many ns.length t rows
  lo:1 ≤ many
  hi:many ≤ 60
def toN:Dr→Option Nat
  | .must n=>some n
  | .may n=>some n
  | _=>none
section
variable {c many:Nat} {t:Bool} {ns:List (List Nat)} {rows:List (List Dr)} {δ:DSt} {fo:DSt→Out D}
theorem QF (P:Pl c many t ns rows) (h:fo δ = .ok (plan c ns rows)):yo "rooms" [aR] fo δ = .ok (rowsO rows):=by
  unfold plan at h
  rcases P.c with rfl; walk_at "ev: h aR"
theorem get_ok (R:Rows many ns.length t rows) {i a:Nat} (hi:i < many) (ha:a < ns.length):∃ r x,rows[i]? = some r∧r[a]? = some x∧x.ok many t:=by
  have h1:i < rows.length:=by rw [R.n]; exact hi
  have hr:=R.row rows[i] (List.getElem_mem h1)
  have h2:a < (rows[i]).length:=by rw [hr.1]; exact ha
  exact ⟨rows[i],(rows[i])[a],by simp [h1],by simp [h2],hr.2 _ (List.getElem_mem h2)⟩
end
theorem Dl {α:Type} (n:Nat) (f:α→D):∀ xs:List α,(∀ x ∈ xs,dw n (f x) = true)→vd n (xs.map f) = true
  | [],_=>by simp [vd]
  | x :: xs,h=>by
    rw [List.map_cons]
    simp only [vd,Bool.and_eq_true]
    exact ⟨h x List.mem_cons_self,Dl n f xs fun y hy=>h y (List.mem_cons_of_mem _ hy)⟩
def sG (c k:Int):Int :=
  let n:=(c * 48271 + k * 7919 + 104729) % 2147483647
  let n:=(n * n % 2147483629 * 16807 + k * 104729 + 11) % 2147483587
  n * n % 2147483549
theorem mixI_nn (c k:Int):0 ≤ sG c k:=by unfold sG; exact Int.emod_nonneg _ (by decide)
theorem sU (c k:Int) (h0:0 ≤ k) (h1:k ≤ 1000000):aZ [.int c,.int k] = .ok (.int (sG c k)):=by
  unfold aZ Bm
  have m1:∀ a b:Int,vm (a % 2147483647) b:=fun a b=>modb a b (by decide) (by decide)
  have m2:∀ a b:Int,vm (a % 2147483629) b:=fun a b=>modb a b (by decide) (by decide)
  have m3:∀ a b:Int,vm (a % 2147483587) b:=fun a b=>modb a b (by decide) (by decide)
  have mk:∀ b:Int,vm k b:=fun b=>Aj (by omega) (by omega)
  have mc:vm c 48271:=Or.inr ⟨by decide,by decide⟩
  walk_at "ev: m1 m2 m3 mk mc"
  rfl
theorem F_cell (ns:List Int) (k:Nat):dO [.rol (ns.map .int),.int k] = .ok (.int (ns.getD k 0)):=by
  unfold dO wM
  walk_at "ev: List.length_map"
  by_cases h:k < ns.length
  · have h':(k:Int) < (ns.length:Int):=by omega
    have e:atI (ns.map D.int) (k:Int) = some (.int ns[k]):=dH (by simp [h])
    walk_at "ev: h' e"
    simp [h]
  · have h':¬ (k:Int) < (ns.length:Int):=by omega
    walk_at "ev: h'"
    simp [h]
theorem yd (x:Int) {m:Nat} (h:1 ≤ m):∃ n:Nat,x % (m:Int) = (n:Int)∧n < m:=by
  have h1:=Int.emod_nonneg x (show (m:Int) ≠ 0 by omega)
  have h2:=Int.emod_lt_of_pos x (show (0:Int) < m by omega)
  exact ⟨(x % (m:Int)).toNat,by omega,by omega⟩
theorem pK {A B:DSt→Out Fl} {δ δ':DSt} (h:A δ = .ok (.nx δ')):bf A B δ = B δ':=by
  unfold bf
  rw [h]
  rfl
theorem aax {f:DSt→Out D} {i:Nat} {δ δ':DSt} {ds:List D} {d:D} (h1:δ[i]? = some (some (.ol ds))) (h2:f δ = .ok d) (h3:ds.length < sizeLine) (h4:δ.set i (some (.ol (ds ++ [d]))) = δ'):K3 i f δ = .ok (.nx δ'):=by
  unfold K3
  rw [h1]
  simp only [h2,Out.bu]
  rw [if_pos h3,h4]
theorem run_rt {A B:DSt→Out Fl} {δ:DSt} {d:D} (h:A δ = .ok (.rt d)):((bf A B δ).bind kW).bA = .ok d:=by
  unfold bf
  rw [h]
  rfl
theorem sIf_t {t:DSt→Out Bool} {A B:DSt→Out Fl} {δ:DSt} (h:t δ = .ok true):sIf t A B δ = A δ:=by
  unfold sIf
  rw [h]
  rfl
theorem kj {f:DSt→Out D} {δ:DSt} {d:D} (h:f δ = .ok d):bB f δ = .ok (.rt d):=by
  unfold bB
  rw [h]
  rfl
theorem qp {f:DSt→Out (List D)} {δ:DSt} {l:List D} (h:f δ = .ok l):nH f δ = .ok (.lst l):=by
  unfold nH
  rw [h]
  rfl
theorem nodup_range {f:Nat→List Nat} {n:Nat} (h:∀ i j,i < j→j < n→f i ≠ f j):((List.range n).map f).Nodup:=by
  refine List.pairwise_map.mpr (List.Pairwise.imp_of_mem (fun {a b} ha hb hab=>h a b hab (List.mem_range.mp hb)) List.pairwise_lt_range)
theorem cF {i:Nat} {f:DSt→Out D} {δ δ':DSt} {d:D} (h:f δ = .ok d) (e:δ.set i (some (.sh d)) = δ'):cM i f δ = .ok (.nx δ'):=by
  unfold cM
  rw [h]
  simp only [Out.bu]
  rw [e]
theorem W2 {i:Nat} {f:DSt→Out (List D)} {δ δ':DSt} {d:List D} (h:f δ = .ok d) (e:δ.set i (some (.ol d)) = δ'):zb i f δ = .ok (.nx δ'):=by
  unfold zb
  rw [h]
  simp only [Out.bu]
  rw [e]
theorem mk_ok {c n:Nat} {F:List D→Out (List (Str × D))} {fr:DSt→Out (List D)} {δ:DSt} {ds:List D} {fds:List (Str × D)} (h:fr δ = .ok ds) (hl:ds.length = n) (e:F ds = .ok fds):oMk c n F fr δ = .ok (.obj c fds):=by
  unfold oMk
  rw [h]
  simp only [Out.bu]
  rw [if_pos hl,e]
  rfl
theorem aF {f:DSt→Out D} {r:DSt→Out (List D)} {δ:DSt} {d:D} {ds:List D} (h:f δ = .ok d) (h2:r δ = .ok ds):aq f r δ = .ok (d :: ds):=by
  unfold aq
  rw [h]
  simp only [Out.bu]
  rw [h2]
  rfl
theorem ace {i:Nat} {f:DSt→Out D} {δ δ':DSt} {s:Sl} {d:D} (h:δ[i]? = some (some s)) (hs:lends s = true) (e:frz i δ = δ') (hf:f δ' = .ok d) (hd:noL d = true):QR i f δ = .ok d:=by
  unfold QR
  rw [h]
  simp only []
  rw [if_pos hs,e,hf]
  simp only [Out.nJ,Out.bu]
  rw [if_pos hd]
theorem Zn {α:Type} (f:α→D):∀ xs:List α,(∀ x ∈ xs,noL (f x) = true)→J9 (xs.map f) = true
  | [],_=>by simp [J9]
  | x :: xs,h=>by
    rw [List.map_cons]
    simp only [J9,Bool.and_eq_true]
    exact ⟨h x List.mem_cons_self,Zn f xs fun y hy=>h y (List.mem_cons_of_mem _ hy)⟩
theorem iD {n:Nat} {F:List D→Out D} {fr:DSt→Out (List D)} {δ:DSt} {ds:List D} {d:D} (h:fr δ = .ok ds) (hl:ds.length = n) (e:F ds = .ok d):oF n F fr δ = .ok d:=by
  unfold oF
  rw [h]
  simp only [Out.bu]
  rw [if_pos hl,e]
theorem QS:∀ (many:Nat) (o:List Nat),o.Nodup→(∀ x ∈ o,x < many)→o.length ≤ many
  | 0,o,_,h=>by
    cases o with
    | nil=>simp
    | cons x o=>exact absurd (h x List.mem_cons_self) (by omega)
  | m + 1,o,nd,h=>by
    have e:=QS m (o.erase m) (nd.erase m) fun x hx=>by
      have hx':=(nd.mem_erase_iff).mp hx
      have:=h x hx'.2
      have:=hx'.1
      omega
    by_cases q:m ∈ o
    · rw [List.length_erase_of_mem q] at e; omega
    · rw [List.erase_of_not_mem q] at e; omega
section
variable {c many:Nat} {ns:List (List Nat)} {rows:List (List Dr)}
end
theorem Yq {α β:Type} {t:DSt→Out Bool} {fe:DSt→Out β} (g:α→D) (h:α→Option β):∀ (xs:List α) (δ:DSt),(∀ x ∈ xs,t (δ.set 0 (some (.sh (g x)))) = .ok (h x).isSome∧∀ y,h x = some y→fe (δ.set 0 (some (.sh (g x)))) = .ok y)→Eh (gN 0) t fe (xs.map g) δ = .ok (xs.filterMap h)
  | [],_,_=>rfl
  | x :: xs,δ,k=>by
    have e1:=k x List.mem_cons_self
    have e2:=Yq g h xs (δ.set 0 (some (.sh (g x)))) (fun y hy=>by rw [List.set_set]; exact k y (List.mem_cons_of_mem _ hy))
    rw [List.map_cons]
    unfold Eh
    cases hx:h x with
    | none =>
      rw [hx] at e1
      simp only [gN,Out.fH,Out.bu,Out.nJ,e1.1,e2,Option.isSome_none,Bool.false_eq_true,if_false,List.filterMap_cons,hx]
    | some y =>
      have e3:=e1.2 y hx
      rw [hx] at e1
      simp only [gN,Out.fH,Out.bu,Out.nJ,e1.1,e2,e3,Option.isSome_some,if_true,List.filterMap_cons,hx]
theorem R6 {α β:Type} {cap:List (Option Nat)} {fi:DSt→Out (List D)} {t:DSt→Out Bool} {fe:DSt→Out β} {δ:DSt} (g:α→D) (h:α→Option β) (xs:List α) (e:fi δ = .ok (xs.map g)) (hz:xs.length < 1000000) (k:∀ x ∈ xs,t ((capD cap δ).set 0 (some (.sh (g x)))) = .ok (h x).isSome∧∀ y,h x = some y→fe ((capD cap δ).set 0 (some (.sh (g x)))) = .ok y):iC cap fi (gN 0) t fe δ = .ok (xs.filterMap h):=by
  unfold iC
  rw [e]
  simp only [Out.bu]
  rw [if_pos (by rw [List.length_map]; exact Nat.lt_of_lt_of_le hz (by decide)),Yq g h xs _ k]
section
variable {many acts:Nat} {rows:List (List Dr)}
end
theorem mixI_lt (c k:Int):sG c k < 2147483549:=by unfold sG; exact Int.emod_lt_of_pos _ (by decide)
theorem qt {g:D→D→Option D} {fa fb:DSt→Out D} {δ:DSt} {x y z:D} (h1:fa δ = .ok x) (h2:fb δ = .ok y) (e:g x y = some z):o2 g fa fb δ = .ok z:=by
  unfold o2
  rw [h1,Out.bu,h2,Out.bu,e]
  rfl
theorem o1_ok {g:D→Option D} {fa:DSt→Out D} {δ:DSt} {x z:D} (h1:fa δ = .ok x) (e:g x = some z):o1 g fa δ = .ok z:=by
  unfold o1
  rw [h1,Out.bu,e]
  rfl
theorem dF {g:D→D→Option Bool} {fa fb:DSt→Out D} {δ:DSt} {x y:D} {z:Bool} (h1:fa δ = .ok x) (h2:fb δ = .ok y) (e:g x y = some z):o2b g fa fb δ = .ok z:=by
  unfold o2b
  rw [h1,Out.bu,h2,Out.bu,e]
  rfl
theorem Qt {f:DSt→Out Bool} {δ:DSt} {b:Bool} (h:f δ = .ok b):bV f δ = .ok (.bl b):=by
  unfold bV
  rw [h]
  rfl
theorem tup2 {fa fb:DSt→Out D} {δ:DSt} {a b:D} (h1:fa δ = .ok a) (h2:fb δ = .ok b):fj (aq fa (aq fb aN)) δ = .ok (.tup [a,b]):=by
  unfold fj
  rw [aF h1 (aF h2 rfl)]
  show (if 2 ≤ sizeLine then Out.ok (D.tup [a,b]) else .stuck) = _
  rw [if_pos s2]
def vg (f:List (List Dr)):List D:=f.map fun r=>D.lst (r.map Dr.d)
theorem zN {t:DSt→Out Bool} {A:DSt→Out Fl} {δ:DSt} {b:Bool} (h:t δ = .ok b):sIf t A dh δ = if b = true then A δ else .ok (.nx δ):=by
  unfold sIf
  rw [h,Out.bu]
  rfl
end K4
namespace K4
open PySem L2 MX DL
theorem sV {fa fb:DSt→Out D} {δ:DSt} {i j:Int} (h1:fa δ = .ok (.int i)) (h2:fb δ = .ok (.int j)):o2 cP fa fb δ = .ok (.int (i + j)):=qt h1 h2 rfl
theorem Xk {fa fb:DSt→Out D} {δ:DSt} {i j:Int} (h1:fa δ = .ok (.int i)) (h2:fb δ = .ok (.int j)):o2 Dp fa fb δ = .ok (.int (i - j)):=qt h1 h2 rfl
theorem Dn {fa fb:DSt→Out D} {δ:DSt} {i j:Int} (h1:fa δ = .ok (.int i)) (h2:fb δ = .ok (.int j)) (h:vm i j):o2 vp fa fb δ = .ok (.int (i * j)):=qt h1 h2 (Bw h)
theorem j8 {fa fb:DSt→Out D} {δ:DSt} {i j:Int} (h1:fa δ = .ok (.int i)) (h2:fb δ = .ok (.int j)) (h:0 < j):o2 c7 fa fb δ = .ok (.int (i % j)):=qt h1 h2 (Bv h)
theorem wD {fa fb:DSt→Out D} {δ:DSt} {i j:Int} (h1:fa δ = .ok (.int i)) (h2:fb δ = .ok (.int j)) (h:CDiv i j):o2 dq fa fb δ = .ok (.int (i / j)):=qt h1 h2 (wH h)
theorem wG {fa fb:DSt→Out D} {δ:DSt} {i j:Int} (h1:fa δ = .ok (.int i)) (h2:fb δ = .ok (.int j)):o2b eqD fa fb δ = .ok (i == j):=dF h1 h2 (zA i j)
theorem za {fa fb:DSt→Out D} {δ:DSt} {i j:Int} (h1:fa δ = .ok (.int i)) (h2:fb δ = .ok (.int j)):o2b ltD fa fb δ = .ok (decide (i < j)):=dF h1 h2 rfl
theorem ge_ok {fa fb:DSt→Out D} {δ:DSt} {i j:Int} (h1:fa δ = .ok (.int i)) (h2:fb δ = .ok (.int j)):o2b geD fa fb δ = .ok (decide (i ≥ j)):=dF h1 h2 rfl
theorem gt_ok {fa fb:DSt→Out D} {δ:DSt} {i j:Int} (h1:fa δ = .ok (.int i)) (h2:fb δ = .ok (.int j)):o2b gtD fa fb δ = .ok (decide (i > j)):=dF h1 h2 rfl
theorem int_ok {fa:DSt→Out Bool} {δ:DSt} {b:Bool} (h:fa δ = .ok b):o1 intD (bV fa) δ = .ok (.int (if b then 1 else 0)):=o1_ok (Qt h) (JR b)
theorem Zb {fa fb:DSt→Out D} {δ:DSt} {ds:List D} {n:Nat} {d:D} (h1:fa δ = .ok (.lst ds)) (h2:fb δ = .ok (.int (n:Nat))) (h:ds[n]? = some d):o2 ixD fa fb δ = .ok d:=qt h1 h2 (by rw [Za,dH h])
theorem mC {t:DSt→Out Bool} {A B:DSt→Out Fl} {δ:DSt} {d:D} (h:t δ = .ok true) (h2:A δ = .ok (.rt d)):((bf (sIf t A dh) B δ).bind kW).bA = .ok d:=run_rt (by rw [sIf_t h,h2])
theorem bY {t:DSt→Out Bool} {A B:DSt→Out Fl} {δ:DSt} {r:Out D} (h:t δ = .ok false) (h2:((B δ).bind kW).bA = r):((bf (sIf t A dh) B δ).bind kW).bA = r:=aG (δ':=δ) (by rw [zN h]; rfl) h2
theorem gK {a b:DSt→Out Bool} {δ:DSt} {x y:Bool} (h1:a δ = .ok x) (h2:x = true→b δ = .ok y):pN a b δ = .ok (x && y):=by
  unfold pN
  rw [h1]
  cases x
  · rfl
  · simp only [Out.bu,if_true,Bool.true_and]; exact h2 rfl
theorem rN {a b:DSt→Out Bool} {δ:DSt} {x y:Bool} (h1:a δ = .ok x) (h2:x = false→b δ = .ok y):orT a b δ = .ok (x || y):=by
  unfold orT
  rw [h1]
  cases x
  · simp only [Out.bu,Bool.false_or]; exact h2 rfl
  · rfl
theorem Hr {a:DSt→Out Bool} {δ:DSt} {x:Bool} (h1:a δ = .ok x):j9 a δ = .ok (!x):=by
  unfold j9
  rw [h1]
  rfl
theorem Dt {a:DSt→Out D} {δ:DSt} {x:Bool} (h1:a δ = .ok (.bl x)):tst a δ = .ok x:=by
  unfold tst
  rw [h1]
  rfl
theorem tup3 {fa fb fc:DSt→Out D} {δ:DSt} {a b c:D} (h1:fa δ = .ok a) (h2:fb δ = .ok b) (h3:fc δ = .ok c):fj (aq fa (aq fb (aq fc aN))) δ = .ok (.tup [a,b,c]):=by
  unfold fj
  rw [aF h1 (aF h2 (aF h3 rfl))]
  rfl
abbrev LET:Option Sl:=some (.sh (.str "abcdefghijklmnopqrstuvwxyz"))
theorem ones_sum (l:List Nat):((l.map fun c=>ofL [c]).map (·.length)).sum = l.length:=by
  induction l with
  | nil=>rfl
  | cons c l ih=>simp only [List.map_cons,List.sum_cons,ih,Vu,List.length_cons,List.length_nil]; omega
def Ke (cell:Int) (at' k j:Nat):Int:=sG cell (4 + (j:Int)) + (k:Int) * (if ((j:Int) == (at':Int)) = true then 1 else 0)
def chN (cell:Int) (at' k j:Nat):Nat:=97 + (Ke cell at' k j % 26).toNat
def nmN (cell:Int) (sz at' k:Nat):List Nat:=(List.range sz).map (chN cell at' k)
theorem acT (cell:Int) {at' k j:Nat} (hk:k < 8) (hj:j < 8):j0 [some (.sh (.int j)),LET,some (.sh (.int cell)),some (.sh (.int k)),some (.sh (.int at'))] = .ok (.str (ofL [chN cell at' k j])):=by
  unfold j0
  have m:=sU cell (4 + (j:Int)) (by omega) (by omega)
  have c1:vm (k:Int) (if ((j:Int) == (at':Int)) = true then 1 else 0):=Aj (by omega) (by omega)
  have n0:0 ≤ Ke cell at' k j % 26:=Int.emod_nonneg _ (by decide)
  have n1:Ke cell at' k j % 26 < 26:=Int.emod_lt_of_pos _ (by decide)
  refine qt (x:=.str "abcdefghijklmnopqrstuvwxyz") rfl ?_ (abc_at n0 n1)
  unfold Ke
  apply j8 (h:=by decide)
  · apply sV
    · exact iD (ds:=[.int cell,.int (4 + (j:Int))]) (aF rfl (aF rfl rfl)) rfl m
    · apply Dn (h:=c1)
      · rfl
      · exact int_ok (wG rfl rfl)
  · rfl
def stN (cell:Int) (many sz at':Nat) (f:List D) (x6 x7:Option Sl):DSt:=[some (.sh (.int cell)),some (.sh (.int many)),LET,some (.sh (.int sz)),some (.sh (.int at')),some (.ol f),x6,x7]
theorem acU (cell:Int) (many:Nat) {sz at' k:Nat} (hz:sz ≤ 8) (hk:k < 8) (f:List D) (hf:f.length ≤ 8) (x7:Option Sl):∃ y7,gw (stN cell many sz at' f (some (.sh (.int k))) x7) = .ok (.nx (stN cell many sz at' (f ++ [.str (ofL (nmN cell sz at' k))]) (some (.sh (.int k))) y7)):=by
  have er:=xP (f:=gv 3) (δ:=stN cell many sz at' f (some (.sh (.int k))) x7) (n:=sz) rfl (by omega)
  have e:=pR (cap:=[none,some 2,some 0,some 6,some 4]) (fe:=j0) (fun k:Nat=>D.int k) (fun j:Nat=>D.str (ofL [chN cell at' k j])) (List.range sz) er (by simp; omega) (fun j hj=>by
    have hj:j < sz:=List.mem_range.mp hj
    exact acT cell hk (by omega))
  have e2:(List.range sz).map (fun j:Nat=>D.str (ofL [chN cell at' k j])) = ((nmN cell sz at' k).map fun c=>ofL [c]).map D.str:=by
    unfold nmN
    simp only [List.map_map]
    rfl
  rw [e2] at e
  unfold gw
  rw [pK (δ':=stN cell many sz at' f (some (.sh (.int k))) (some (.sh (.lst (((nmN cell sz at' k).map fun c=>ofL [c]).map D.str))))) (cF (qp e) rfl)]
  refine ⟨_,aax (ds:=f) (d:=.str (ofL (nmN cell sz at' k))) rfl ?_ (Nat.lt_of_le_of_lt hf (by decide)) rfl⟩
  unfold oJoin
  show (Out.ok (D.str (Str.ofString ""))).bind _ = _
  have z0:(Str.ofString "").length = 0:=by decide +kernel
  have nl:(nmN cell sz at' k).length = sz:=by simp [nmN]
  show Out.opt (joinD (Str.ofString "") (.lst (((nmN cell sz at' k).map fun c=>ofL [c]).map D.str))) = _
  simp only [joinD,ym,Option.bind_some,QW]
  rw [if_pos (by rw [ones_sum,nl,z0,Nat.mul_zero]; omega),join_ones]
  rfl
theorem abl (cell:Int) (many:Nat) (hm:many ≤ 8) {sz at':Nat} (hz:sz ≤ 8) :
    ∃ y6 y7,qZ (gN 6) gw ((List.range many).map fun k:Nat=>D.int k) (stN cell many sz at' [] none none) = .ok (.nx (stN cell many sz at' (cI ((List.range many).map (nmN cell sz at'))) y6 y7)):=by
  have hh:=ph (body:=gw) (tg:=gN 6) (fun k:Nat=>D.int k) (fun done δ=>∃ y6 y7,δ = stN cell many sz at' (cI (done.map (nmN cell sz at'))) y6 y7) (List.range many) (stN cell many sz at' [] none none) (by
    rintro k done rest δ e ⟨y6,y7,rfl⟩
    have hk:k < many:=List.mem_range.mp (by rw [e]; simp)
    have hd:done.length ≤ 8:=by
      have:=congrArg List.length e
      simp at this
      omega
    obtain ⟨z7,q⟩:=acU cell many (at':=at') hz (k:=k) (by omega) (cI (done.map (nmN cell sz at'))) (by simpa [cI] using hd) y7
    refine ⟨stN cell many sz at' (cI (done.map (nmN cell sz at'))) (some (.sh (.int k))) y7,rfl,?_⟩
    rw [q]
    exact ⟨_,_,by simp [cI]; rfl⟩) ⟨none,none,rfl⟩
  obtain ⟨δ',e,y6,y7,rfl⟩:=hh
  exact ⟨y6,y7,e⟩
theorem names_ok {cell:Int} {sz at' many:Nat} (hz1:1 ≤ sz) (hz:sz ≤ 8) (ha:at' < sz) (h1:1 ≤ many) (h2:many ≤ 8):Names ((List.range many).map (nmN cell sz at')):=by
  refine ⟨fun l hl=>?_,by simpa using h1,by simpa using h2,nodup_range fun i j ij hj e=>?_⟩
  · obtain ⟨k,_,rfl⟩:=List.mem_map.mp hl
    refine ⟨by simp [nmN]; omega,by simp [nmN]; omega,fun c hc=>?_⟩
    obtain ⟨j,_,rfl⟩:=List.mem_map.mp hc
    unfold chN
    have n0:0 ≤ Ke cell at' k j % 26:=Int.emod_nonneg _ (by decide)
    have n1:Ke cell at' k j % 26 < 26:=Int.emod_lt_of_pos _ (by decide)
    omega
  · have e1:=congrArg (fun l=>l[at']?) e
    simp only [nmN,List.getElem?_map,List.getElem?_range ha,Option.map_some,Option.some.injEq] at e1
    unfold chN at e1
    have n0:0 ≤ Ke cell at' i at' % 26:=Int.emod_nonneg _ (by decide)
    have n1:0 ≤ Ke cell at' j at' % 26:=Int.emod_nonneg _ (by decide)
    have q:Ke cell at' i at' % 26 = Ke cell at' j at' % 26:=by omega
    unfold Ke at q
    simp only [beq_self_eq_true,if_true,Int.mul_one] at q
    generalize sG cell (4 + (at':Int)) = y at q
    omega
theorem F_names (cell:Int) (many:Nat) (h1:1 ≤ many) (h2:many ≤ 8):∃ ns,jK [.int cell,.int many] = .ok (.lst (cI ns))∧Names ns∧ns.length = many:=by
  have ma:=sU cell 2 (by decide) (by decide)
  have mb:=sU cell 3 (by decide) (by decide)
  obtain ⟨s,es,hs⟩:=yd (sG cell 2) (m:=8) (by decide)
  simp only [Int.cast_ofNat_Int] at es
  obtain ⟨a,ea,haa⟩:=yd (sG cell 3) (m:=1 + s) (by omega)
  obtain ⟨y6,y7,e⟩:=abl cell many h2 (sz:=1 + s) (at':=a) (by omega)
  refine ⟨_,?_,names_ok (cell:=cell) (sz:=1 + s) (at':=a) (by omega) (by omega) haa h1 h2,by simp⟩
  show ((uw [some (.sh (.int cell)),some (.sh (.int many)),none,none,none,none,none,none]).bind kW).bA = _
  unfold uw
  have cs:(1:Int) + (s:Int) = ((1 + s:Nat):Int):=by omega
  have cz:((1 + s:Nat):Int) ≠ 0:=by omega
  refine aG (δ':=[some (.sh (.int cell)),some (.sh (.int many)),LET,none,none,none,none,none]) rfl ?_
  refine aG (δ':=[some (.sh (.int cell)),some (.sh (.int many)),LET,some (.sh (.int ((1 + s:Nat):Int))),none,none,none,none]) (cF (d:=.int ((1 + s:Nat):Int)) (by walk_at "ev: ma es cs") rfl) ?_
  refine aG (δ':=[some (.sh (.int cell)),some (.sh (.int many)),LET,some (.sh (.int ((1 + s:Nat):Int))),some (.sh (.int a)),none,none,none]) (cF (d:=.int a) (by have e:=j8 (fa:=oF 2 aZ (aq (gv 0) (aq (kc (.int 3)) aN))) (fb:=gv 3) (δ:=[some (.sh (.int cell)),some (.sh (.int many)),LET,some (.sh (.int ((1 + s:Nat):Int))),none,none,none,none]) (i:=sG cell 3) (j:=((1 + s:Nat):Int)) (iD (aF rfl (aF rfl rfl)) rfl mb) rfl (by omega); rw [ea] at e; exact e) rfl) ?_
  refine aG (δ':=stN cell many (1 + s) a [] none none) (W2 (d:=[]) (by unfold Ja; walk_at "ev: s0") rfl) ?_
  have rg:=xP (f:=gv 1) (δ:=stN cell many (1 + s) a [] none none) (n:=many) rfl (by omega)
  refine aG (δ':=stN cell many (1 + s) a (cI ((List.range many).map (nmN cell (1 + s) a))) y6 y7) (by unfold mD; rw [rg]; exact e) ?_
  rfl
theorem F_many (cell:Int):∃ m:Nat,jj [.int cell] = .ok (.int m)∧1 ≤ m∧m ≤ 8:=by
  have ma:=sU cell 0 (by decide) (by decide)
  have mb:=sU cell 1 (by decide) (by decide)
  obtain ⟨s,es,hs⟩:=yd (sG cell 0) (m:=8) (by decide)
  obtain ⟨u,eu,hu⟩:=yd (sG cell 0) (m:=4) (by decide)
  simp only [Int.cast_ofNat_Int] at es eu
  unfold jj Ey
  by_cases h:sG cell 1 % 8 = 0
  · exact ⟨1 + s,by walk_at "ev: ma mb h es"; simp,by omega,by omega⟩
  · have hb:(sG cell 1 % 8 == 0) = false:=by simpa using h
    exact ⟨1 + u,by walk_at "ev: ma mb hb eu"; simp,by omega,by omega⟩
def drN (x:Int) (many:Nat) (t:Bool):Dr :=
  if (x % 12 == 0) = true∧t = true then .torn else if x % 12 < 4 then .must (x / 12 % (many:Int)).toNat else if x % 12 < 9 then .may (x / 12 % (many:Int)).toNat else .shut
theorem drN_ok (x:Int) {many:Nat} (h:1 ≤ many) (t:Bool):(drN x many t).ok many t:=by
  have a:=Int.emod_nonneg (x / 12) (show (many:Int) ≠ 0 by omega)
  have b:=Int.emod_lt_of_pos (x / 12) (show (0:Int) < many by omega)
  unfold drN
  split
  · rename_i z; exact z.2
  · split
    · show _ < _; omega
    · split
      · show _ < _; omega
      · trivial
theorem F_door (x:Int) {many:Nat} (h:1 ≤ many) (t:Bool):lN [.int x,.int many,.bl t] = .ok (drN x many t).d:=by
  have a:=Int.emod_nonneg (x / 12) (show (many:Int) ≠ 0 by omega)
  have ht:((x / 12 % (many:Int)).toNat:Int) = x / 12 % (many:Int):=by omega
  show ((wN [some (.sh (.int x)),some (.sh (.int many)),some (.sh (.bl t)),none]).bind kW).bA = _
  unfold wN drN
  refine aG (δ':=[some (.sh (.int x)),some (.sh (.int many)),some (.sh (.bl t)),some (.sh (.int (x % 12)))]) (cF (j8 rfl rfl (by decide)) rfl) ?_
  have e1:pN (o2b eqD (gb 3) (kc (.int 0))) (tst (gb 2)) [some (.sh (.int x)),some (.sh (.int many)),some (.sh (.bl t)),some (.sh (.int (x % 12)))] = .ok ((x % 12 == 0) && t):=gK (wG rfl rfl) fun _=>Dt rfl
  have e2:o2b ltD (gb 3) (kc (.int 4)) [some (.sh (.int x)),some (.sh (.int many)),some (.sh (.bl t)),some (.sh (.int (x % 12)))] = .ok (decide (x % 12 < 4)):=za rfl rfl
  have e3:o2b ltD (gb 3) (kc (.int 9)) [some (.sh (.int x)),some (.sh (.int many)),some (.sh (.bl t)),some (.sh (.int (x % 12)))] = .ok (decide (x % 12 < 9)):=za rfl rfl
  have e4:o2 c7 (o2 dq (gv 0) (kc (.int 12))) (gv 1) [some (.sh (.int x)),some (.sh (.int many)),some (.sh (.bl t)),some (.sh (.int (x % 12)))] = .ok (.int (x / 12 % (many:Int))):=j8 (wD rfl rfl ⟨by decide,by decide⟩) rfl (by omega)
  by_cases h1:(x % 12 == 0) = true∧t = true
  · rw [if_pos h1]
    rw [show ((x % 12 == 0) && t) = true by rw [h1.1,h1.2]; rfl] at e1
    exact mC e1 (kj (tup2 rfl rfl))
  · rw [if_neg h1]
    have b:((x % 12 == 0) && t) = false:=by
      cases z:(x % 12 == 0) <;> cases t <;> simp_all
    rw [b] at e1
    refine bY e1 ?_
    by_cases h2:x % 12 < 4
    · rw [if_pos h2]
      rw [decide_eq_true h2] at e2
      refine mC e2 (kj ?_)
      rw [tup2 rfl e4,← ht]
      rfl
    · rw [if_neg h2]
      rw [decide_eq_false h2] at e2
      refine bY e2 ?_
      by_cases h3:x % 12 < 9
      · rw [if_pos h3]
        rw [decide_eq_true h3] at e3
        refine mC e3 (kj ?_)
        rw [tup2 rfl e4,← ht]
        rfl
      · rw [if_neg h3]
        rw [decide_eq_false h3] at e3
        refine bY e3 (lM (tup2 rfl rfl))
end K4
namespace K4
open PySem L2 MX DL
theorem ab8 (xs:List D) (h:dw 50 (.lst xs) = true):eqD (.lst xs) (.lst []) = some xs.isEmpty:=by
  cases xs with
  | nil=>exact Y0 h
  | cons x l =>
    rw [xW h (by simp [dw,vd])]
    have e:eqB (.lst (x :: l)) (.lst []) = false:=by
      have q:∃ p ps,toPy (.lst (x :: l)) = some (.list (p :: ps)):=by
        obtain ⟨p,e,_,_⟩:=Bs (.lst (x :: l)) 50 h
        have e':=e
        simp only [toPy,toPyL] at e'
        split at e'
        · cases e'
          exact ⟨_,_,e⟩
        · cases e'
      obtain ⟨p,ps,q⟩:=q
      unfold eqB
      rw [q]
      show PyData.eqv (.list (p :: ps)) (.list []) = false
      simp [PyData.eqv,PyData.eqvAll]
    rw [e]
    rfl
theorem acQ (l:List Int) (n:Nat):dw (n + 1) (.lst (l.map .int)) = true:=Dl n _ l fun x _=>by cases n <;> simp [dw]
theorem lentF_ok {i:Nat} {f:DSt→Out (List D)} {δ δ':DSt} {s:Sl} {d:List D} (h:δ[i]? = some (some s)) (hs:lends s = true) (e:frz i δ = δ') (hf:f δ' = .ok d) (hd:J9 d = true):Zi i f δ = .ok d:=by
  unfold Zi
  rw [h]
  dsimp only
  rw [if_pos hs,e,hf]
  simp only [Out.nJ,Out.bu]
  rw [if_pos hd]
theorem vf {fa:DSt→Out D} {δ:DSt} {ds:List D} (h:fa δ = .ok (.lst ds)):o1 cG fa δ = .ok (.int (ds.length:Nat)):=o1_ok h rfl
theorem len_t {fa:DSt→Out D} {δ:DSt} {ds:List D} (h:fa δ = .ok (.tup ds)):o1 cG fa δ = .ok (.int (ds.length:Nat)):=o1_ok h rfl
theorem noL_d (x:Dr):noL x.d = true:=by cases x <;> simp [Dr.d,Dr.w,Dr.to,noL,J9]
def rowR (so:List Int) (acts:Nat) (t:Bool) (c:Int) (i:Nat):List Dr:=(List.range acts).map fun k:Nat=>drN (sG c (20 + 10 * (i:Int) + (k:Int))) so.length t
def stR (cells:List Int) (acts:Nat) (t:Bool) (so:List Int) (f:List (List Dr)) (x5:Option Sl):DSt:=[some (.sh (.lst (cells.map .int))),some (.sh (.int acts)),some (.sh (.bl t)),some (.sh (.lst (so.map .int))),some (.ol (vg f)),x5]
theorem row_step (cells:List Int) {acts:Nat} (ha:acts ≤ 8) (t:Bool) (so:List Int) (hs:1 ≤ so.length) (f:List (List Dr)) (hf:f.length ≤ 8) (c:Int):iM (stR cells acts t so f (some (.sh (.int c)))) = .ok (.nx (stR cells acts t so (f ++ [rowR so acts t c f.length]) (some (.sh (.int c))))):=by
  have er:=xP (f:=gv 1) (δ:=[some (.sh (.lst (cells.map .int))),some (.sh (.int acts)),some (.sh (.bl t)),some (.sh (.lst (so.map .int))),some (.sh (.lst (vg f))),some (.sh (.int c))]) (n:=acts) rfl (by omega)
  have e:=pR (cap:=[none,some 2,some 5,some 3,some 4]) (fe:=lL) (fun k:Nat=>D.int k) (fun k:Nat=>(drN (sG c (20 + 10 * (f.length:Int) + (k:Int))) so.length t).d) (List.range acts) er (by simp; omega) (fun k hk=>by
    have hk:k < acts:=List.mem_range.mp hk
    have m:=sU c (20 + 10 * (f.length:Int) + (k:Int)) (by omega) (by omega)
    have dd:=F_door (sG c (20 + 10 * (f.length:Int) + (k:Int))) hs t
    show lL [some (.sh (.int k)),some (.sh (.bl t)),some (.sh (.int c)),some (.sh (.lst (so.map .int))),some (.sh (.lst (vg f)))] = _
    unfold lL
    refine iD (ds:=[.int (sG c (20 + 10 * (f.length:Int) + (k:Int))),.int so.length,.bl t]) (aF ?_ (aF ?_ rfl)) rfl dd
    · refine iD (ds:=[.int c,.int (20 + 10 * (f.length:Int) + (k:Int))]) (aF rfl (aF ?_ rfl)) rfl m
      have q:o1 cG (gb 4) [some (.sh (.int k)),some (.sh (.bl t)),some (.sh (.int c)),some (.sh (.lst (so.map .int))),some (.sh (.lst (vg f)))] = .ok (.int (f.length:Nat)):=by
        rw [vf (ds:=vg f) rfl]; simp [vg]
      apply sV
      · apply sV
        · rfl
        · exact Dn rfl q (Aj (by decide) (by decide))
      · rfl
    · rw [vf (ds:=so.map .int) rfl]; simp)
  unfold iM
  refine aax (ds:=vg f) (d:=.lst ((rowR so acts t c f.length).map Dr.d)) rfl (qp (lentF_ok (s:=.ol (vg f)) rfl rfl rfl ?_ ?_)) (by simp only [vg,List.length_map]; exact Nat.lt_of_le_of_lt hf (by decide)) ?_
  · rw [show (rowR so acts t c f.length).map Dr.d = (List.range acts).map fun k:Nat=>(drN (sG c (20 + 10 * (f.length:Int) + (k:Int))) so.length t).d by unfold rowR; rw [List.map_map]; rfl]
    exact e
  · exact Zn _ _ fun x _=>noL_d x
  · have q:vg (f ++ [rowR so acts t c f.length]) = vg f ++ [.lst ((rowR so acts t c f.length).map Dr.d)]:=by simp [vg]
    unfold stR
    rw [q]
    rfl
theorem ac3 (cells:List Int) {acts:Nat} (ha:acts ≤ 8) (t:Bool) (so:List Int) (hs:1 ≤ so.length) (hs8:so.length ≤ 8) :
    ∃ f y5,qZ (gN 5) iM (so.map D.int) (stR cells acts t so [] none) = .ok (.nx (stR cells acts t so f y5))∧Rows so.length acts t f:=by
  have hh:=ph (body:=iM) (tg:=gN 5) (fun k:Int=>D.int k) (fun done δ=>∃ f y5,δ = stR cells acts t so f y5∧f.length = done.length∧∀ r ∈ f,r.length = acts∧∀ x ∈ r,x.ok so.length t) so (stR cells acts t so [] none) (by
    rintro c done rest δ e ⟨f,y5,rfl,hl,hr⟩
    have hd:done.length ≤ 8:=by
      have:=congrArg List.length e
      simp at this
      omega
    refine ⟨stR cells acts t so f (some (.sh (.int c))),rfl,?_⟩
    rw [row_step cells ha t so hs f (by omega) c]
    refine ⟨_,_,rfl,by simp [hl],fun r hrr=>?_⟩
    rcases List.mem_append.mp hrr with z | z
    · exact hr r z
    · rw [List.mem_singleton.mp z]
      refine ⟨by simp [rowR],fun x hx=>?_⟩
      obtain ⟨k,_,rfl⟩:=List.mem_map.mp hx
      exact drN_ok _ hs t) ⟨[],none,rfl,rfl,by simp⟩
  obtain ⟨δ',e,f,y5,rfl,hl,hr⟩:=hh
  exact ⟨f,y5,e,⟨hl,hr⟩⟩
theorem F_rows1 (cells:List Int) (hc:cells.length ≤ 8) {acts:Nat} (ha:acts ≤ 8) (t:Bool):∃ many rows,lO [.lst (cells.map .int),.int acts,.bl t] = .ok (aU rows)∧Rows many acts t rows∧1 ≤ many∧many ≤ 8:=by
  have hso:1 ≤ (cells ++ (List.replicate (if cells.isEmpty then 1 else 0) 5)).length∧(cells ++ (List.replicate (if cells.isEmpty then 1 else 0) (5:Int))).length ≤ 8:=by
    cases cells with
    | nil=>simp
    | cons x l=>simp at hc ⊢; omega
  obtain ⟨f,y5,e,R⟩:=ac3 cells ha t (cells ++ (List.replicate (if cells.isEmpty then 1 else 0) 5)) hso.1 hso.2
  refine ⟨_,f,?_,R,hso.1,hso.2⟩
  show ((wO [some (.sh (.lst (cells.map .int))),some (.sh (.int acts)),some (.sh (.bl t)),none,none,none]).bind kW).bA = _
  unfold wO
  refine aG (δ':=[some (.sh (.lst (cells.map .int))),some (.sh (.int acts)),some (.sh (.bl t)),some (.sh (.lst ((cells ++ (List.replicate (if cells.isEmpty then 1 else 0) (5:Int))).map .int))),none,none]) (cF (qt (x:=.lst (cells.map .int)) (y:=.lst ((List.replicate (if cells.isEmpty then 1 else 0) (5:Int)).map .int)) rfl (qp ?_) ?_) rfl) ?_
  · have q:o1 intD (bV (o2b eqD (gb 0) (iB aN))) [some (.sh (.lst (cells.map .int))),some (.sh (.int acts)),some (.sh (.bl t)),none,none,none] = .ok (.int (if (cells.map D.int).isEmpty then 1 else 0)):=int_ok (dF (y:=.lst []) rfl rfl (ab8 _ (acQ _ 49)))
    unfold repL
    rw [q]
    cases cells with
    | nil=>rfl
    | cons x l=>rfl
  · show (if _ then _ else _) = _
    rw [if_pos (by
      cases cells with
      | nil=>decide
      | cons x l=>simp at hc ⊢; exact Nat.le_trans (show l.length + 1 ≤ 8 by omega) (by decide)),List.map_append]
  refine aG (δ':=stR cells acts t (cells ++ (List.replicate (if cells.isEmpty then 1 else 0) 5)) [] none) (W2 (d:=[]) (by unfold Ja; walk_at "ev: s0") rfl) ?_
  refine aG (δ':=stR cells acts t (cells ++ (List.replicate (if cells.isEmpty then 1 else 0) 5)) f y5) ?_ ?_
  · unfold mD
    exact e
  · rfl
end K4
namespace K4
open PySem L2 MX DL
theorem lX {p:Key × D} {r:List (Key × D)} {k:Key} (e:p.1 = k):iK (p :: r) k = some p.2:=by simp [iK,List.find?_cons,e]
theorem lW {p:Key × D} {r:List (Key × D)} {k:Key} (e:¬ p.1 = k):iK (p :: r) k = iK r k:=by simp [iK,List.find?_cons,e]
theorem JM (k:Key):∀ d:List (Key × D),Bp d k = (iK d k).isSome
  | []=>rfl
  | p :: r=>by
    have ih:=JM k r
    unfold Bp at ih ⊢
    rw [List.any_cons]
    by_cases e:p.1 = k
    · rw [lX e]; simp [e]
    · rw [lW e,← ih]; simp [e]
theorem QJ (k j:Key) (v:D):∀ d:List (Key × D),iK (d.map fun kv=>if kv.1 = k then (kv.1,v) else kv) j = if j = k then (iK d j).map fun _=>v else iK d j
  | []=>by simp [iK]
  | p :: r=>by
    have ih:=QJ k j v r
    rw [List.map_cons]
    by_cases e:p.1 = k
    · rw [if_pos e]
      by_cases q:p.1 = j
      · rw [lX (p:=(p.1,v)) q,lX q,if_pos (q.symm.trans e)]; rfl
      · rw [lW (p:=(p.1,v)) q,lW q,ih]
    · rw [if_neg e]
      by_cases q:p.1 = j
      · rw [lX q,lX q,if_neg (fun z=>e (q.trans z))]
      · rw [lW q,lW q,ih]
theorem QK (k j:Key) (v:D):∀ d:List (Key × D),iK (d ++ [(k,v)]) j = if (iK d j).isSome then iK d j else if j = k then some v else none
  | []=>by
    by_cases q:k = j
    · rw [List.nil_append,lX (p:=(k,v)) q]; simp [iK,q]
    · rw [List.nil_append,lW (p:=(k,v)) q,if_neg (fun z:j = k=>q z.symm)]
      rfl
  | p :: r=>by
    rw [List.cons_append]
    by_cases q:p.1 = j
    · rw [lX q,lX q]; rfl
    · rw [lW q,lW q]; exact QK k j v r
theorem Y7 (d:List (Key × D)) (k j:Key) (v:D):iK (BW d k v) j = if j = k then some v else iK d j:=by
  unfold BW
  have h:=JM k d
  unfold Bp at h
  rw [h]
  split
  · rename_i z
    rw [QJ]
    by_cases q:j = k
    · subst q
      rw [if_pos rfl,if_pos rfl]
      obtain ⟨x,hx⟩:=Option.isSome_iff_exists.mp z
      rw [hx]; rfl
    · rw [if_neg q,if_neg q]
  · rename_i z
    rw [QK]
    by_cases q:j = k
    · subst q
      rw [if_neg z,if_pos rfl,if_pos rfl]
    · rw [if_neg q,if_neg q]
      split
      · rfl
      · rename_i y
        cases w:iK d j with
        | none=>rfl
        | some x=>rw [w] at y; exact absurd rfl y
theorem ack (d:List (Key × D)) (k:Key) (v:D):(BW d k v).length ≤ d.length + 1:=by
  unfold BW
  split
  · simp
  · simp
abbrev Tr:=Int × Int × Int
def tD (t:Tr):D:=.tup [.int t.1,.int t.2.1,.int t.2.2]
def trs (ts:List Tr):D:=.lst (ts.map tD)
structure Rk (d:List (Key × D)) (done:List Tr):Prop where
  get:∀ n:Int,(iK d (.inl n) = none∧∀ o ∈ done,o.1 ≠ n) ∨ ∃ m:Int,iK d (.inl n) = some (.int m)∧∀ k,(m < k ↔ ∃ o ∈ done,o.1 = n∧o.2.1 < k)
  len:d.length ≤ done.length
theorem Rk.snoc {d:List (Key × D)} {done:List Tr} (R:Rk d done) (t:Tr) (m':Int) (h:∀ k,(m' < k ↔ t.2.1 < k ∨ ∃ m,iK d (.inl t.1) = some (.int m)∧m < k)):Rk (BW d (.inl t.1) (.int m')) (done ++ [t]):=by
  refine ⟨fun n=>?_,by rw [List.length_append]; exact Nat.le_trans (ack _ _ _) (Nat.succ_le_succ R.len)⟩
  rw [Y7]
  by_cases e:n = t.1
  · subst e
    refine .inr ⟨m',by rw [if_pos rfl],fun k=>?_⟩
    rw [h k]
    constructor
    · rintro (z | ⟨m,z1,z2⟩)
      · exact ⟨t,by simp,rfl,z⟩
      · rcases R.get t.1 with ⟨y,_⟩ | ⟨m2,y1,y2⟩
        · rw [y] at z1; cases z1
        · rw [y1] at z1; cases z1
          obtain ⟨o,ho,q⟩:=(y2 k).mp z2
          exact ⟨o,by simp [ho],q⟩
    · rintro ⟨o,ho,q1,q2⟩
      rcases List.mem_append.mp ho with z | z
      · rcases R.get t.1 with ⟨_,y⟩ | ⟨m2,y1,y2⟩
        · exact absurd q1 (y o z)
        · exact .inr ⟨m2,y1,(y2 k).mpr ⟨o,z,q1,q2⟩⟩
      · rw [List.mem_singleton.mp z] at q2; exact .inl q2
  · have ne:¬ ((.inl n:Key) = .inl t.1):=fun z=>e (Sum.inl.inj z)
    rw [if_neg ne]
    rcases R.get n with ⟨y1,y2⟩ | ⟨m,y1,y2⟩
    · exact .inl ⟨y1,fun o ho=>by
        rcases List.mem_append.mp ho with z | z
        · exact y2 o z
        · rw [List.mem_singleton.mp z]; exact fun q=>e q.symm⟩
    · refine .inr ⟨m,y1,fun k=>(y2 k).trans ⟨fun ⟨o,ho,q⟩=>⟨o,by simp [ho],q⟩,fun ⟨o,ho,q1,q2⟩=>?_⟩⟩
      rcases List.mem_append.mp ho with z | z
      · exact ⟨o,z,q1,q2⟩
      · rw [List.mem_singleton.mp z] at q1; exact absurd q1.symm e
def stT (p rs:D) (d:List (Key × D)) (x3 x4 x5:Option Sl):DSt:=[some (.sh p),some (.sh rs),some (.od d),x3,x4,x5]
theorem aca {i:Nat} {fk fx:DSt→Out D} {δ:DSt} {d:List (Key × D)} {n:Int} {x:D} (h:dkOf i δ = some d) (h1:fk δ = .ok (.int n)) (h2:fx δ = .ok x):yR i fk fx δ = .ok ((iK d (.inl n)).getD x):=by
  unfold yR
  rw [h]
  dsimp only
  rw [h1,h2]
  rfl
theorem get1_ok {i:Nat} {fk:DSt→Out D} {δ:DSt} {d:List (Key × D)} {n:Int} (h:dkOf i δ = some d) (h1:fk δ = .ok (.int n)):Yz i fk δ = .ok ((iK d (.inl n)).getD .non):=by
  unfold Yz
  rw [h]
  dsimp only
  rw [h1]
  rfl
theorem T4 {i:Nat} {fv fk:DSt→Out D} {δ:DSt} {d:List (Key × D)} {n:Int} {v:D} (h:δ[i]? = some (some (.od d))) (h1:fv δ = .ok v) (h2:fk δ = .ok (.int n)) (hl:d.length ≤ 1000):K5 i fv fk δ = .ok (.nx (δ.set i (some (.od (BW d (.inl n) v))))):=by
  unfold K5
  rw [h1]
  simp only [Out.bu]
  rw [h]
  dsimp only
  rw [h2]
  simp only [Out.bu,keyD]
  rw [if_pos (Nat.lt_of_le_of_lt hl (by decide))]
theorem tr_step (p rs:D) {d:List (Key × D)} {done:List Tr} (R:Rk d done) (hl:done.length ≤ 1000) (t:Tr):∃ d',iW (stT p rs d (some (.sh (.int t.1))) (some (.sh (.int t.2.1))) (some (.sh (.int t.2.2)))) = .ok (.nx (stT p rs d' (some (.sh (.int t.1))) (some (.sh (.int t.2.1))) (some (.sh (.int t.2.2)))))∧Rk d' (done ++ [t]):=by
  have hd:d.length ≤ 1000:=Nat.le_trans R.len hl
  have g:=aca (i:=2) (fk:=gv 3) (fx:=gv 4) (δ:=stT p rs d (some (.sh (.int t.1))) (some (.sh (.int t.2.1))) (some (.sh (.int t.2.2)))) (d:=d) (n:=t.1) (x:=.int t.2.1) rfl rfl rfl
  rcases R.get t.1 with ⟨y1,_⟩ | ⟨m,y1,_⟩
  · rw [y1] at g
    have q:oC minD (aq (yR 2 (gv 3) (gv 4)) (aq (gv 4) aN)) (stT p rs d (some (.sh (.int t.1))) (some (.sh (.int t.2.1))) (some (.sh (.int t.2.2)))) = .ok (.int (if t.2.1 < t.2.1 then t.2.1 else t.2.1)):=by
      unfold oC
      rw [aF g (aF (d:=.int t.2.1) rfl rfl)]
      rfl
    rw [ite_self] at q
    refine ⟨_,T4 rfl q rfl hd,R.snoc t _ fun k=>⟨.inl,?_⟩⟩
    rintro (z | ⟨m,z,_⟩)
    · exact z
    · rw [y1] at z; cases z
  · rw [y1] at g
    have q:oC minD (aq (yR 2 (gv 3) (gv 4)) (aq (gv 4) aN)) (stT p rs d (some (.sh (.int t.1))) (some (.sh (.int t.2.1))) (some (.sh (.int t.2.2)))) = .ok (.int (if t.2.1 < m then t.2.1 else m)):=by
      unfold oC
      rw [aF g (aF (d:=.int t.2.1) rfl rfl)]
      rfl
    refine ⟨_,T4 rfl q rfl hd,R.snoc t _ fun k=>?_⟩
    constructor
    · intro z
      split at z
      · exact .inl z
      · exact .inr ⟨m,y1,z⟩
    · rintro (z | ⟨m2,z1,z2⟩)
      · split <;> omega
      · rw [y1] at z1; cases z1
        split <;> omega
theorem tr_loop (p rs:D) (ts:List Tr) (hl:ts.length ≤ 1000):∃ d x3 x4 x5,qZ (gT 3 (aP (gN 3) (aP (gN 4) (aP (gN 5) d7)))) iW (ts.map tD) (stT p rs [] none none none) = .ok (.nx (stT p rs d x3 x4 x5))∧Rk d ts:=by
  have hh:=ph (body:=iW) (tg:=gT 3 (aP (gN 3) (aP (gN 4) (aP (gN 5) d7)))) tD (fun done δ=>∃ d x3 x4 x5,δ = stT p rs d x3 x4 x5∧Rk d done) ts (stT p rs [] none none none) (by
    rintro t done rest δ e ⟨d,x3,x4,x5,rfl,R⟩
    have hd:done.length ≤ 1000:=by
      have:=congrArg List.length e
      simp at this
      omega
    obtain ⟨d',q,R'⟩:=tr_step p rs R hd t
    refine ⟨stT p rs d (some (.sh (.int t.1))) (some (.sh (.int t.2.1))) (some (.sh (.int t.2.2))),rfl,?_⟩
    rw [q]
    exact ⟨d',_,_,_,rfl,R'⟩) ⟨[],none,none,none,rfl,⟨fun n=>.inl ⟨rfl,by simp⟩,Nat.le_refl _⟩⟩
  obtain ⟨δ',e,d,x3,x4,x5,rfl,R⟩:=hh
  exact ⟨d,x3,x4,x5,e,R⟩
theorem w1t:eqD (.str "must") (.str "torn") = some false:=by decide +kernel
theorem w2t:eqD (.str "may") (.str "torn") = some false:=by decide +kernel
theorem w3t:eqD (.str "shut") (.str "torn") = some false:=by decide +kernel
def isT:Dr→Bool
  | .torn=>true
  | _=>false
def isM:Dr→Bool
  | .must _=>true
  | _=>false
theorem eqT (x:Dr):eqD (.str x.w) (.str "torn") = some (isT x):=by cases x <;> first | exact w1t | exact w2t | exact w3t | exact q44
theorem eqM (x:Dr):eqD (.str x.w) (.str "must") = some (isM x):=by cases x <;> first | exact q11 | exact q21 | exact q31 | exact q41
def rbD (x:Dr) (d:List (Key × D)):D:=match x with
  | .torn=>.int (-1)
  | .must n=>(iK d (.inl (n:Int))).getD .non
  | _=>.non
theorem F_behind (x:Dr) (d:List (Key × D)):iH [x.ob,.dK d] = .ok (rbD x d):=by
  show ((rA [some (.sh x.ob),some (.sh (.dK d))]).bind kW).bA = _
  unfold rA
  have e1:o2b eqD (oM "word" 1 iT (gv 0) aN) (kc (.str "torn")) [some (.sh x.ob),some (.sh (.dK d))] = .ok (isT x):=dF (ab0 x _ _ rfl) rfl (eqT x)
  have e2:o2b eqD (oM "word" 1 iT (gv 0) aN) (kc (.str "must")) [some (.sh x.ob),some (.sh (.dK d))] = .ok (isM x):=dF (ab0 x _ _ rfl) rfl (eqM x)
  cases x with
  | torn=>exact mC e1 rfl
  | must n =>
    refine bY e1 (mC e2 (kj ?_))
    exact get1_ok rfl (fld_to (.must n) _ _ rfl)
  | may n=>exact bY e1 (bY e2 (lM rfl))
  | shut=>exact bY e1 (bY e2 (lM rfl))
theorem aae (r:Int) (many:Nat):di [.int r,.int many] = .ok (.bl (decide (0 ≤ r) && decide (r < (many:Int)))):=by
  unfold di CV
  by_cases h0:0 ≤ r
  · by_cases h1:r < (many:Int)
    · walk_at "ev: qg fC su h0 h1"
    · walk_at "ev: qg fC su h0 h1"
  · walk_at "ev: qg fC su h0"
def inR (many acts:Nat) (t:Tr):Bool:=decide (0 ≤ t.1) && decide (t.1 < (many:Int)) && (decide (0 ≤ t.2.2) && decide (t.2.2 < (acts:Int))) && decide (0 ≤ t.2.1)
def drAt (rows:List (List Dr)) (t:Tr):Dr:=((rows.getD t.1.toNat []).getD t.2.2.toNat .shut)
def leans (ts:List Tr) (rows:List (List Dr)) (many acts:Nat) (t:Tr):Bool:=inR many acts t && match drAt rows t with
  | .torn=>true
  | .must n=>ts.any fun o=>decide (o.1 = (n:Int)) && decide (o.2.1 < t.2.1)
  | _=>false
end K4
namespace K4
open PySem L2 MX DL
theorem Lk {fa:DSt→Out D} {δ:DSt} {a:D} {r:List D} (h:fa δ = .ok (.tup (a :: r))):o2 ixD fa (kc (.int 0)) δ = .ok a:=qt h rfl (by rw [Fb,Ye])
theorem tix1 {fa:DSt→Out D} {δ:DSt} {a b:D} {r:List D} (h:fa δ = .ok (.tup (a :: b :: r))):o2 ixD fa (kc (.int 1)) δ = .ok b:=qt h rfl (by rw [Fb,Yg])
theorem tix2 {fa:DSt→Out D} {δ:DSt} {a b c:D} {r:List D} (h:fa δ = .ok (.tup (a :: b :: c :: r))):o2 ixD fa (kc (.int 2)) δ = .ok c:=qt h rfl (by rw [Fb,Yh])
theorem ixt_ok {fa fb:DSt→Out D} {δ:DSt} {ds:List D} {n:Nat} {d:D} (h1:fa δ = .ok (.tup ds)) (h2:fb δ = .ok (.int (n:Nat))) (h:ds[n]? = some d):o2 ixD fa fb δ = .ok d:=qt h1 h2 (by rw [Fb,dH h])
theorem o3_ok {fa fb fc:DSt→Out D} {δ:DSt} {i j k:Int} (h1:fa δ = .ok (.int i)) (h2:fb δ = .ok (.int j)) (h3:fc δ = .ok (.int k)):o3 leD ltD fa fb fc δ = .ok (decide (i ≤ j) && decide (j < k)):=by
  unfold o3
  rw [h1,h2,h3]
  by_cases h:i ≤ j
  · simp only [Out.bu,leD,ltD,cmpI,Out.fH,decide_eq_true h,if_true,Bool.true_and]
  · simp only [Out.bu,leD,cmpI,Out.fH,decide_eq_false h,Bool.false_eq_true,if_false,Bool.false_and]
theorem RP {a b:DSt→Out D} {δ:DSt} {x y:Bool} (h1:a δ = .ok (.bl x)) (h2:x = true→b δ = .ok (.bl y)):Ab a b δ = .ok (.bl (x && y)):=by
  unfold Ab
  rw [h1]
  cases x
  · rfl
  · simp only [Out.bu,Yd,Out.fH,if_true,Bool.true_and]; exact h2 rfl
theorem fld_acts {ns:List (List Nat)} {rows:List (List Dr)} {δ:DSt} {fo:DSt→Out D} (h:fo δ = .ok (plan aR ns rows)):yo "actions" [aR] fo δ = .ok (.tup (cI ns)):=by
  unfold plan at h
  walk_at "ev: h aR"
theorem HN {many:Nat} {ns:List (List Nat)} {rows:List (List Dr)} {δ:DSt} {fo:DSt→Out D} (P:Pl aR many true ns rows) (h:fo δ = .ok (plan aR ns rows)):oM "many" 1 pL fo aN δ = .ok (.int many):=by
  have e:sS [plan aR ns rows] = .ok (.int many):=by
    show ((ut [some (.sh (plan aR ns rows))]).bind kW).bA = _
    unfold ut
    refine lM ?_
    rw [len_t (ds:=rows.map fun r=>.tup (r.map Dr.ob)) (QF P rfl),List.length_map,P.R.n]
  unfold plan at h e
  walk_at "ev: h pL aR e"
theorem borne {many:Nat} {ns:List (List Nat)} {rows:List (List Dr)} (P:Pl aR many true ns rows) {d:List (Key × D)} {ts:List Tr} (R:Rk d ts) (t:Tr):f9 [plan aR ns rows,tD t,.dK d] = .ok (.bl (leans ts rows many ns.length t)):=by
  show ((pA [some (.sh (plan aR ns rows)),some (.sh (tD t)),some (.sh (.dK d)),none,none,none,none]).bind kW).bA = _
  unfold pA
  refine aG (δ':=[some (.sh (plan aR ns rows)),some (.sh (tD t)),some (.sh (.dK d)),some (.sh (.int t.1)),none,none,none]) (cF (Lk rfl) rfl) ?_
  refine aG (δ':=[some (.sh (plan aR ns rows)),some (.sh (tD t)),some (.sh (.dK d)),some (.sh (.int t.1)),some (.sh (.int t.2.1)),none,none]) (cF (tix1 rfl) rfl) ?_
  refine aG (δ':=[some (.sh (plan aR ns rows)),some (.sh (tD t)),some (.sh (.dK d)),some (.sh (.int t.1)),some (.sh (.int t.2.1)),some (.sh (.int t.2.2)),none]) (cF (tix2 rfl) rfl) ?_
  have e1:orT (j9 (tst (oF 2 di (aq (gv 3) (aq (oM "many" 1 pL (gv 0) aN) aN))))) (orT (j9 (o3 leD ltD (kc (.int 0)) (gb 5) (o1 cG (yo "actions" [aR] (gv 0))))) (o2b ltD (gb 4) (kc (.int 0)))) [some (.sh (plan aR ns rows)),some (.sh (tD t)),some (.sh (.dK d)),some (.sh (.int t.1)),some (.sh (.int t.2.1)),some (.sh (.int t.2.2)),none] = .ok (!inR many ns.length t):=by
    have a1:=Dt (iD (n:=2) (F:=di) (fr:=aq (gv 3) (aq (oM "many" 1 pL (gv 0) aN) aN)) (δ:=[some (.sh (plan aR ns rows)),some (.sh (tD t)),some (.sh (.dK d)),some (.sh (.int t.1)),some (.sh (.int t.2.1)),some (.sh (.int t.2.2)),none]) (ds:=[.int t.1,.int many]) (aF rfl (aF (HN P rfl) rfl)) rfl (aae t.1 many))
    have a2:o1 cG (yo "actions" [aR] (gv 0)) [some (.sh (plan aR ns rows)),some (.sh (tD t)),some (.sh (.dK d)),some (.sh (.int t.1)),some (.sh (.int t.2.1)),some (.sh (.int t.2.2)),none] = .ok (.int (ns.length:Nat)):=by
      rw [len_t (ds:=cI ns) (fld_acts rfl)]; simp [cI]
    have a3:=o3_ok (fa:=kc (.int 0)) (fb:=gb 5) (δ:=[some (.sh (plan aR ns rows)),some (.sh (tD t)),some (.sh (.dK d)),some (.sh (.int t.1)),some (.sh (.int t.2.1)),some (.sh (.int t.2.2)),none]) (i:=0) (j:=t.2.2) rfl rfl a2
    rw [rN (Hr a1) fun _=>rN (Hr a3) fun _=>za (i:=t.2.1) (j:=0) rfl rfl]
    unfold inR
    have z:decide (t.2.1 < 0) = !decide (0 ≤ t.2.1):=by by_cases h:t.2.1 < 0 <;> simp [h] <;> omega
    rw [z,← Bool.not_and,← Bool.not_and]
    simp only [Bool.and_assoc]
  cases hi:inR many ns.length t with
  | false =>
    rw [hi] at e1
    rw [show leans ts rows many ns.length t = false by unfold leans; rw [hi]; rfl]
    exact mC e1 rfl
  | true =>
    rw [hi] at e1
    refine bY e1 ?_
    have hi':=hi
    unfold inR at hi
    simp only [Bool.and_eq_true,decide_eq_true_eq] at hi
    obtain ⟨⟨⟨h1,h2⟩,h3,h4⟩,h5⟩:=hi
    obtain ⟨r,x,er,ex,_⟩:=get_ok P.R (i:=t.1.toNat) (a:=t.2.2.toNat) (by omega) (by omega)
    have c1:((t.1.toNat:Nat):Int) = t.1:=by omega
    have c2:((t.2.2.toNat:Nat):Int) = t.2.2:=by omega
    have ed:drAt rows t = x:=by
      unfold drAt
      rw [List.getD_eq_getElem?_getD,List.getD_eq_getElem?_getD,er]
      dsimp only [Option.getD_some]
      rw [ex]
      rfl
    have b1:o2 ixD (o2 ixD (yo "rooms" [aR] (gv 0)) (gv 3)) (gv 5) [some (.sh (plan aR ns rows)),some (.sh (tD t)),some (.sh (.dK d)),some (.sh (.int t.1)),some (.sh (.int t.2.1)),some (.sh (.int t.2.2)),none] = .ok x.ob:=by
      refine ixt_ok (ds:=r.map Dr.ob) (n:=t.2.2.toNat) (ixt_ok (ds:=rows.map fun r=>.tup (r.map Dr.ob)) (n:=t.1.toNat) (QF P rfl) (by rw [c1]; rfl) ?_) (by rw [c2]; rfl) ?_
      · rw [List.getElem?_map,er]; rfl
      · rw [List.getElem?_map,ex]; rfl
    refine aG (δ':=[some (.sh (plan aR ns rows)),some (.sh (tD t)),some (.sh (.dK d)),some (.sh (.int t.1)),some (.sh (.int t.2.1)),some (.sh (.int t.2.2)),some (.sh (rbD x d))]) (cF (iD (aF b1 (aF rfl rfl)) rfl (F_behind x d)) rfl) ?_
    refine lM ?_
    unfold leans
    rw [hi',ed]
    cases x with
    | torn =>
      rw [RP (x:=true) (y:=decide ((-1:Int) < t.2.1)) rfl fun _=>Qt (za rfl rfl),decide_eq_true (by omega)]
    | may n=>rfl
    | shut=>rfl
    | must n =>
      dsimp only [rbD]
      rcases R.get (n:Int) with ⟨y1,y2⟩ | ⟨m,y1,y2⟩
      · rw [y1]
        have z:(ts.any fun o=>decide (o.1 = (n:Int)) && decide (o.2.1 < t.2.1)) = false:=by
          rw [List.any_eq_false]
          intro o ho
          simp [y2 o ho]
        rw [z]
        rfl
      · rw [y1]
        have z:(ts.any fun o=>decide (o.1 = (n:Int)) && decide (o.2.1 < t.2.1)) = decide (m < t.2.1):=by
          rw [Bool.eq_iff_iff,List.any_eq_true,decide_eq_true_eq,y2]
          simp
        rw [z]
        exact RP (x:=true) rfl fun _=>Qt (za rfl rfl)
theorem aag {many:Nat} {ns:List (List Nat)} {rows:List (List Dr)} (P:Pl aR many true ns rows) (ts:List Tr) (hl:ts.length ≤ 1000):bQ [plan aR ns rows,trs ts] = .ok (.bl (ts.all (leans ts rows many ns.length))):=by
  obtain ⟨d,x3,x4,x5,e,R⟩:=tr_loop (plan aR ns rows) (trs ts) ts hl
  show ((rn [some (.sh (plan aR ns rows)),some (.sh (trs ts)),none,none,none,none]).bind kW).bA = _
  unfold rn
  refine aG (δ':=stT (plan aR ns rows) (trs ts) [] none none none) rfl ?_
  refine aG (δ':=stT (plan aR ns rows) (trs ts) d x3 x4 x5) (by unfold mD; exact e) ?_
  show ((bB (o1 allD (nH (iC [none,some 0,some 2] (jh (gv 1)) (gN 0) (fun _=>.ok true) fG))) [some (.sh (plan aR ns rows)),some (.sh (trs ts)),some (.sh (.dK d)),x3,x4,x5]).bind kW).bA = _
  have c:=pR (cap:=[none,some 0,some 2]) (fi:=jh (gv 1)) (fe:=fG) (δ:=[some (.sh (plan aR ns rows)),some (.sh (trs ts)),some (.sh (.dK d)),x3,x4,x5]) tD (fun t=>D.bl (leans ts rows many ns.length t)) ts rfl (by omega) (fun t _=>by
    show fG [some (.sh (tD t)),some (.sh (plan aR ns rows)),some (.sh (.dK d))] = _
    unfold fG
    exact iD (aF rfl (aF rfl (aF rfl rfl))) rfl (borne P R t))
  exact lM (o1_ok (qp c) (Ij _ ts))
end K4
namespace K4
open PySem L2 MX DL
theorem Uc {α β:Type} (p:α→Bool) (g:α→β):∀ xs:List α,(xs.filterMap fun o=>if p o = true then some (g o) else none).isEmpty = !xs.any p
  | []=>rfl
  | x :: xs=>by
    rw [List.filterMap_cons,List.any_cons]
    cases h:p x with
    | true=>simp
    | false=>simpa using Uc p g xs
theorem len_gt {β:Type} (l:List β):decide ((l.length:Int) > 0) = !l.isEmpty:=by
  cases l with
  | nil=>rfl
  | cons x l=>simp
theorem len_eq0 {β:Type} (l:List β):((l.length:Int) == 0) = l.isEmpty:=by
  cases l with
  | nil=>rfl
  | cons x l =>
    have:((((x :: l).length:Nat):Int) == 0) = false:=by simp; omega
    rw [this]; rfl
theorem eqD_in (i:Int):eqD (.int i) .non = some false:=by
  rw [xW (by simp [dw]) (by simp [dw])]
  simp [eqB,toPy,PyData.eqv]
def cD (x:Dr) (o:Tr):Bool:=match x with
  | .must n=>o.1 == (n:Int)
  | .may n=>o.1 == (n:Int)
  | _=>false
theorem eq_cD (x:Dr) (o:Tr):eqD (.int o.1) x.to = some (cD x o):=by
  cases x with
  | must n=>exact zA _ _
  | may n=>exact zA _ _
  | shut=>exact eqD_in _
  | torn=>exact eqD_in _
theorem asg3 {f:DSt→Out D} {i j k:Nat} {δ:DSt} {a b c:D} (h:f δ = .ok (.tup [a,b,c])):GQ f (gT 3 (aP (gN i) (aP (gN j) (aP (gN k) d7)))) δ = .ok (.nx (((δ.set i (some (.sh a))).set j (some (.sh b))).set k (some (.sh c)))):=by
  unfold GQ
  rw [h]
  rfl
theorem F_lean {many acts:Nat} {rows:List (List Dr)} (R:Rows many acts true rows) (h1:1 ≤ many) (ts:List Tr) (hl:ts.length ≤ 1000) (t:Tr):cj [trs ts,tD t,aU rows] = .ok (.bl (leans ts rows many acts t)):=by
  show ((uv [some (.sh (trs ts)),some (.sh (tD t)),some (.sh (aU rows)),none,none,none,none,none]).bind kW).bA = _
  unfold uv
  refine aG (δ':=[some (.sh (trs ts)),some (.sh (tD t)),some (.sh (aU rows)),some (.sh (.int t.1)),some (.sh (.int t.2.1)),some (.sh (.int t.2.2)),none,none]) (asg3 rfl) ?_
  have e1:orT (o2b ltD (gb 3) (kc (.int 0))) (orT (o2b geD (gb 3) (o1 cG (gb 2))) (orT (o2b ltD (gb 4) (kc (.int 0))) (orT (o2b ltD (gb 5) (kc (.int 0))) (o2b geD (gb 5) (o1 cG (o2 ixD (gvo 2) (kc (.int 0)))))))) [some (.sh (trs ts)),some (.sh (tD t)),some (.sh (aU rows)),some (.sh (.int t.1)),some (.sh (.int t.2.1)),some (.sh (.int t.2.2)),none,none] = .ok (!inR many acts t):=by
    have a2:o1 cG (gb 2) [some (.sh (trs ts)),some (.sh (tD t)),some (.sh (aU rows)),some (.sh (.int t.1)),some (.sh (.int t.2.1)),some (.sh (.int t.2.2)),none,none] = .ok (.int (many:Nat)):=by
      rw [vf (ds:=rows.map fun r=>.lst (r.map Dr.d)) rfl,List.length_map,R.n]
    have a3:o1 cG (o2 ixD (gvo 2) (kc (.int 0))) [some (.sh (trs ts)),some (.sh (tD t)),some (.sh (aU rows)),some (.sh (.int t.1)),some (.sh (.int t.2.1)),some (.sh (.int t.2.2)),none,none] = .ok (.int (acts:Nat)):=by
      have hn:=R.n
      cases hr:rows with
      | nil=>rw [hr] at hn; simp at hn; omega
      | cons r rs =>
        rw [vf (ds:=r.map Dr.d) (Zb (n:=0) (ds:=(r :: rs).map fun r=>.lst (r.map Dr.d)) rfl rfl rfl),List.length_map,(R.row r (by rw [hr]; exact List.mem_cons_self)).1]
    rw [rN (za (i:=t.1) (j:=0) rfl rfl) fun _=>rN (ge_ok (i:=t.1) rfl a2) fun _=>rN (za (i:=t.2.1) (j:=0) rfl rfl) fun _=>rN (za (i:=t.2.2) (j:=0) rfl rfl) fun _=>ge_ok (i:=t.2.2) rfl a3]
    unfold inR
    have z:∀ i:Int,decide (i < 0) = !decide (0 ≤ i):=fun i=>by by_cases h:i < 0 <;> simp [h] <;> omega
    have y:∀ i j:Int,decide (i ≥ j) = !decide (i < j):=fun i j=>by by_cases h:i < j <;> simp [h] <;> omega
    rw [z t.1,z t.2.1,z t.2.2,y t.1 (many:Int),y t.2.2 (acts:Int)]
    cases decide (0 ≤ t.1) <;> cases decide (t.1 < (many:Int)) <;> cases decide (0 ≤ t.2.1) <;> cases decide (0 ≤ t.2.2) <;> cases decide (t.2.2 < (acts:Int)) <;> rfl
  cases hi:inR many acts t with
  | false =>
    rw [hi] at e1
    rw [show leans ts rows many acts t = false by unfold leans; rw [hi]; rfl]
    exact mC e1 rfl
  | true =>
    rw [hi] at e1
    refine bY e1 ?_
    have hi':=hi
    unfold inR at hi
    simp only [Bool.and_eq_true,decide_eq_true_eq] at hi
    obtain ⟨⟨⟨h1,h2⟩,h3,h4⟩,h5⟩:=hi
    have c1:((t.1.toNat:Nat):Int) = t.1:=by omega
    have c2:((t.2.2.toNat:Nat):Int) = t.2.2:=by omega
    obtain ⟨r,x,er,ex⟩:∃ r x,rows[t.1.toNat]? = some r∧r[t.2.2.toNat]? = some x:=by
      have l1:t.1.toNat < rows.length:=by rw [R.n]; omega
      have l2:t.2.2.toNat < rows[t.1.toNat].length:=by rw [(R.row _ (List.getElem_mem l1)).1]; omega
      exact ⟨_,_,List.getElem?_eq_getElem l1,List.getElem?_eq_getElem l2⟩
    have ed:drAt rows t = x:=by
      unfold drAt
      rw [List.getD_eq_getElem?_getD,List.getD_eq_getElem?_getD,er]
      dsimp only [Option.getD_some]
      rw [ex]
      rfl
    have b1:o2 ixD (o2 ixD (gvo 2) (gv 3)) (gv 5) [some (.sh (trs ts)),some (.sh (tD t)),some (.sh (aU rows)),some (.sh (.int t.1)),some (.sh (.int t.2.1)),some (.sh (.int t.2.2)),none,none] = .ok x.d:=by
      refine Zb (ds:=r.map Dr.d) (n:=t.2.2.toNat) (Zb (ds:=rows.map fun r=>.lst (r.map Dr.d)) (n:=t.1.toNat) rfl (by rw [c1]; rfl) ?_) (by rw [c2]; rfl) ?_
      · rw [List.getElem?_map,er]; rfl
      · rw [List.getElem?_map,ex]; rfl
    refine aG (δ':=[some (.sh (trs ts)),some (.sh (tD t)),some (.sh (aU rows)),some (.sh (.int t.1)),some (.sh (.int t.2.1)),some (.sh (.int t.2.2)),some (.sh x.d),none]) (cF b1 rfl) ?_
    unfold leans
    rw [hi',ed]
    have e2:o2b eqD (o2 ixD (gvo 6) (kc (.int 0))) (kc (.str "torn")) [some (.sh (trs ts)),some (.sh (tD t)),some (.sh (aU rows)),some (.sh (.int t.1)),some (.sh (.int t.2.1)),some (.sh (.int t.2.2)),some (.sh x.d),none] = .ok (isT x):=dF (Lk (a:=.str x.w) (r:=[x.to]) rfl) rfl (eqT x)
    cases hx:isT x with
    | true =>
      rw [hx] at e2
      have:x = .torn:=by cases x <;> first | rfl | cases hx
      subst this
      exact mC e2 rfl
    | false =>
      rw [hx] at e2
      refine bY e2 ?_
      have c:=R6 (cap:=[none,some 4,some 6]) (fi:=jh (gv 0)) (t:=pN (o2b eqD (o2 ixD (gvo 0) (kc (.int 0))) (o2 ixD (gvo 2) (kc (.int 1)))) (o2b ltD (o2 ixD (gvo 0) (kc (.int 1))) (gb 1))) (fe:=xJ) (δ:=[some (.sh (trs ts)),some (.sh (tD t)),some (.sh (aU rows)),some (.sh (.int t.1)),some (.sh (.int t.2.1)),some (.sh (.int t.2.2)),some (.sh x.d),none]) tD (fun o=>if (cD x o && decide (o.2.1 < t.2.1)) = true then some (tD o) else none) ts rfl (by omega) (fun o _=>by
        refine ⟨?_,fun y hy=>?_⟩
        · show pN (o2b eqD (o2 ixD (gvo 0) (kc (.int 0))) (o2 ixD (gvo 2) (kc (.int 1)))) (o2b ltD (o2 ixD (gvo 0) (kc (.int 1))) (gb 1)) [some (.sh (tD o)),some (.sh (.int t.2.1)),some (.sh x.d)] = _
          rw [gK (dF (Lk rfl) (tix1 (a:=.str x.w) (b:=x.to) (r:=[]) rfl) (eq_cD x o)) fun _=>za (tix1 rfl) rfl]
          cases (cD x o && decide (o.2.1 < t.2.1)) <;> rfl
        · split at hy
          · cases hy; rfl
          · cases hy)
      refine aG (δ':=[some (.sh (trs ts)),some (.sh (tD t)),some (.sh (aU rows)),some (.sh (.int t.1)),some (.sh (.int t.2.1)),some (.sh (.int t.2.2)),some (.sh x.d),some (.sh (.lst (ts.filterMap fun o=>if (cD x o && decide (o.2.1 < t.2.1)) = true then some (tD o) else none)))]) (cF (qp c) rfl) ?_
      refine lM ?_
      rw [RP (Qt (dF (Lk (a:=.str x.w) (r:=[x.to]) rfl) rfl (eqM x))) fun _=>Qt (gt_ok (vf rfl) rfl),len_gt,Uc,Bool.not_not]
      cases x with
      | must n =>
        simp only [isM,Bool.true_and,cD]
        congr 2
      | may n=>rfl
      | shut=>rfl
      | torn=>cases hx
theorem cut_take {α:Type} (g:α→D) (xs:List α) (a:Nat):Al (xs.map g) none (some (a:Int)) = (xs.take a).map g:=by
  unfold Al
  rw [List.length_map,HT.Hu,HT.ZR,Nat.sub_zero,List.drop_zero,← List.map_take]
  congr 1
  rw [Nat.min_comm,← List.take_take,List.take_of_length_le (by rw [List.length_take]; omega)]
theorem cut_drop {α:Type} (g:α→D) (xs:List α) (b:Nat):Al (xs.map g) (some (b:Int)) none = (xs.drop b).map g:=by
  unfold Al
  rw [List.length_map,HT.Hu,HT.ZR,← List.map_drop,← List.map_take]
  congr 1
  by_cases h:b ≤ xs.length
  · rw [Nat.min_eq_left h,List.take_of_length_le (by rw [List.length_drop]; omega)]
  · rw [Nat.min_eq_right (by omega),List.drop_of_length_le (Nat.le_refl _),List.drop_of_length_le (by omega)]
    simp
theorem Iw {fa fb:DSt→Out D} {δ:DSt} {a b:List D} (h1:fa δ = .ok (.lst a)) (h2:fb δ = .ok (.lst b)) (h:a.length + b.length ≤ 5000):o2 cP fa fb δ = .ok (.lst (a ++ b)):=qt h1 h2 (by
  show (if _ then _ else _) = _
  rw [if_pos (Nat.le_trans h (by decide))])
theorem sl_to {fa fb:DSt→Out D} {δ:DSt} {ts:List Tr} {a:Nat} (h1:fa δ = .ok (trs ts)) (h2:fb δ = .ok (.int (a:Nat))):oSl fa noI (soI fb) δ = .ok (trs (ts.take a)):=by
  unfold oSl noI soI
  rw [h1,h2]
  show Out.opt (some (D.lst (Al (ts.map tD) none (some (a:Int))))) = _
  rw [cut_take]
  rfl
theorem aco {fa fb:DSt→Out D} {δ:DSt} {ts:List Tr} {a:Nat} (h1:fa δ = .ok (trs ts)) (h2:fb δ = .ok (.int (a:Nat))):oSl fa (soI fb) noI δ = .ok (trs (ts.drop a)):=by
  unfold oSl noI soI
  rw [h1,h2]
  show Out.opt (some (D.lst (Al (ts.map tD) (some (a:Int)) none))) = _
  rw [cut_drop]
  rfl
theorem lst1 {fa:DSt→Out D} {δ:DSt} {a:D} (h1:fa δ = .ok a):iB (aq fa aN) δ = .ok (.lst [a]):=by
  unfold iB
  rw [aF h1 rfl]
  rfl
theorem ret3 {f fb:DSt→Out D} {δ:DSt} {ts:List Tr} {a b:Nat} {x:Tr} (hl:ts.length ≤ 1000) (h0:gv 0 δ = .ok (trs ts)) (h6:gv 6 δ = .ok (.int (a:Nat))) (hf:f δ = .ok (tD x)) (hb:fb δ = .ok (.int (b:Nat))):o2 cP (o2 cP (oSl (gv 0) noI (soI (gv 6))) (iB (aq f aN))) (oSl (gv 0) (soI fb) noI) δ = .ok (trs (ts.take a ++ [x] ++ ts.drop b)):=by
  have l1:(ts.take a).length ≤ 1000:=by rw [List.length_take]; omega
  have l2:(ts.drop b).length ≤ 1000:=by rw [List.length_drop]; omega
  rw [Iw (a:=(ts.take a).map tD ++ [tD x]) (b:=(ts.drop b).map tD) (Iw (sl_to h0 h6) (lst1 hf) (by simp only [List.length_map,List.length_cons,List.length_nil]; omega)) (aco h0 hb) (by simp only [List.length_append,List.length_map,List.length_cons,List.length_nil]; omega)]
  simp [trs]
end K4
namespace K4
open PySem L2 MX DL
theorem cd (x:Int) {j:Int} (h:0 < j) (h2:j < 1073741824):CDiv x j:=⟨h,h2⟩
theorem Xx (x:Int) (h0:0 ≤ x) (h1:x < 2147483549) {most:Nat} (hm:1 ≤ most):∃ r:Int,cN [.int x,.int most] = .ok (.int r):=by
  have key:∀ b:Int,(x % 9 == 0) = true ∨ (x % 9 == 1) = true ∨ (x % 9 == 2) = true ∨ ((x % 9 == 0) = false∧(x % 9 == 1) = false∧(x % 9 == 2) = false):=fun _=>by
    cases (x % 9 == 0) <;> cases (x % 9 == 1) <;> cases (x % 9 == 2) <;> simp
  show ∃ r:Int,((rm [some (.sh (.int x)),some (.sh (.int most)),none]).bind kW).bA = .ok (.int r)
  unfold rm
  have e0:o2b eqD (gb 2) (kc (.int 0)) [some (.sh (.int x)),some (.sh (.int most)),some (.sh (.int (x % 9)))] = .ok (x % 9 == 0):=wG rfl rfl
  have e1:o2b eqD (gb 2) (kc (.int 1)) [some (.sh (.int x)),some (.sh (.int most)),some (.sh (.int (x % 9)))] = .ok (x % 9 == 1):=wG rfl rfl
  have e2:o2b eqD (gb 2) (kc (.int 2)) [some (.sh (.int x)),some (.sh (.int most)),some (.sh (.int (x % 9)))] = .ok (x % 9 == 2):=wG rfl rfl
  have st:cM 2 (o2 c7 (gv 0) (kc (.int 9))) [some (.sh (.int x)),some (.sh (.int most)),none] = .ok (.nx [some (.sh (.int x)),some (.sh (.int most)),some (.sh (.int (x % 9)))]):=cF (j8 rfl rfl (by decide)) rfl
  cases h0':(x % 9 == 0) with
  | true =>
    rw [h0'] at e0
    exact ⟨_,aG st (mC e0 rfl)⟩
  | false =>
    rw [h0'] at e0
    cases h1':(x % 9 == 1) with
    | true =>
      rw [h1'] at e1
      exact ⟨_,aG st (bY e0 (mC e1 rfl))⟩
    | false =>
      rw [h1'] at e1
      cases h2':(x % 9 == 2) with
      | true =>
        rw [h2'] at e2
        have d2:o2 c7 (o2 dq (gv 0) (kc (.int 9))) (kc (.int 2)) [some (.sh (.int x)),some (.sh (.int most)),some (.sh (.int (x % 9)))] = .ok (.int (x / 9 % 2)):=j8 (wD rfl rfl (cd _ (by decide) (by decide))) rfl (by decide)
        have d3:o2 Dp (kc (.int 1)) (o2 vp (kc (.int 2)) (o2 c7 (o2 dq (gv 0) (kc (.int 9))) (kc (.int 2)))) [some (.sh (.int x)),some (.sh (.int most)),some (.sh (.int (x % 9)))] = .ok (.int (1 - 2 * (x / 9 % 2))):=Xk rfl (Dn rfl d2 (Aj (by decide) (by decide)))
        have d4:o2 powD (kc (.int 10)) (kc (.int 20)) [some (.sh (.int x)),some (.sh (.int most)),some (.sh (.int (x % 9)))] = .ok (.int (10 ^ (20:Int).toNat)):=qt rfl rfl (by show (if 0 ≤ (20:Int)∧(20:Int) ≤ 1000000∧(10:Int).natAbs < 2 ^ 64 then some (D.int (10 ^ (20:Int).toNat)) else none) = _; rw [if_pos (by decide)])
        have b0:=Int.emod_nonneg (x / 9) (show (2:Int) ≠ 0 by decide)
        have b1:=Int.emod_lt_of_pos (x / 9) (show (0:Int) < 2 by decide)
        have d5:=Dn (Dn (fa:=gv 0) (i:=x) rfl d4 (.inl ⟨by omega,by omega⟩)) d3 (.inr ⟨by omega,by omega⟩)
        exact ⟨_,aG st (bY e0 (bY e1 (mC e2 (kj d5))))⟩
      | false =>
        rw [h2'] at e2
        have d2:o2 c7 (o2 dq (gv 0) (kc (.int 9))) (gv 1) [some (.sh (.int x)),some (.sh (.int most)),some (.sh (.int (x % 9)))] = .ok (.int (x / 9 % (most:Int))):=j8 (wD rfl rfl (cd _ (by decide) (by decide))) rfl (by omega)
        exact ⟨_,aG st (bY e0 (bY e1 (bY e2 (lM d2))))⟩
def stC (ts:List Tr) (cell:Int) (rooms acts:Nat) (n:Int) (x5 x6 x7 x8 x9:Option Sl):DSt:=[some (.sh (trs ts)),some (.sh (.int cell)),some (.sh (.int rooms)),some (.sh (.int acts)),some (.sh (.int n)),x5,x6,x7,x8,x9]
theorem lay_tr (t:Tr) (n:Nat):dw (n + 1) (tD t) = true:=by simp [tD,dw,vd]
theorem acb (ts:List Tr):dw 50 (trs ts) = true:=Dl 49 _ _ fun t _=>lay_tr t 48
theorem acv (ts:List Tr) (hl:ts.length ≤ 900) (cell:Int) {rooms acts:Nat} (hr:1 ≤ rooms) (ha:1 ≤ acts):∃ ts',dR [trs ts,.int cell,.int rooms,.int acts] = .ok (trs ts')∧ts'.length ≤ ts.length + 1:=by
  have n0:=mixI_nn cell 60
  have n1:=mixI_lt cell 60
  have m:=sU cell 60 (by decide) (by decide)
  generalize sG cell 60 = n at n0 n1 m
  obtain ⟨fa,ea⟩:=Xx (n / 64) (by omega) (by omega) hr
  obtain ⟨fc,ec⟩:=Xx (n / 128) (by omega) (by omega) ha
  show ∃ ts',((pq [some (.sh (trs ts)),some (.sh (.int cell)),some (.sh (.int rooms)),some (.sh (.int acts)),none,none,none,none,none,none]).bind kW).bA = .ok (trs ts')∧_
  unfold pq
  have s1:cM 4 (oF 2 aZ (aq (gv 1) (aq (kc (.int 60)) aN))) [some (.sh (trs ts)),some (.sh (.int cell)),some (.sh (.int rooms)),some (.sh (.int acts)),none,none,none,none,none,none] = .ok (.nx (stC ts cell rooms acts n none none none none none)):=cF (iD (aF rfl (aF rfl rfl)) rfl m) rfl
  have f8:∀ x5 x6 x7 x8 x9,o2 dq (gv 4) (kc (.int 8)) (stC ts cell rooms acts n x5 x6 x7 x8 x9) = .ok (.int (n / 8)):=fun _ _ _ _ _=>wD rfl rfl (cd _ (by decide) (by decide))
  have f1024:∀ x5 x6 x7 x8 x9,o2 dq (gv 4) (kc (.int 1024)) (stC ts cell rooms acts n x5 x6 x7 x8 x9) = .ok (.int (n / 1024)):=fun _ _ _ _ _=>wD rfl rfl (cd _ (by decide) (by decide))
  have m8:∀ x5 x6 x7 x8 x9,o2 c7 (gv 4) (kc (.int 8)) (stC ts cell rooms acts n x5 x6 x7 x8 x9) = .ok (.int (n % 8)):=fun _ _ _ _ _=>j8 rfl rfl (by decide)
  have s2:cM 5 (fj (aq (oF 2 cN (aq (o2 dq (gv 4) (kc (.int 64))) (aq (gv 2) aN))) (aq (o2 Dp (o2 c7 (o2 dq (gv 4) (kc (.int 8))) (kc (.int 7))) (kc (.int 1))) (aq (oF 2 cN (aq (o2 dq (gv 4) (kc (.int 128))) (aq (gv 3) aN))) aN)))) (stC ts cell rooms acts n none none none none none) = .ok (.nx (stC ts cell rooms acts n (some (.sh (tD (fa,n / 8 % 7 - 1,fc)))) none none none none)):=by
    refine cF (tup3 (iD (ds:=[.int (n / 64),.int rooms]) (aF (wD rfl rfl (cd _ (by decide) (by decide))) (aF rfl rfl)) rfl ea) (Xk (j8 (f8 _ _ _ _ _) rfl (by decide)) rfl) (iD (ds:=[.int (n / 128),.int acts]) (aF (wD rfl rfl (cd _ (by decide) (by decide))) (aF rfl rfl)) rfl ec)) rfl
  have t1:orT (o2b eqD (gb 0) (iB aN)) (o2b eqD (o2 c7 (gv 4) (kc (.int 8))) (kc (.int 0))) (stC ts cell rooms acts n (some (.sh (tD (fa,n / 8 % 7 - 1,fc)))) none none none none) = .ok ((ts.map tD).isEmpty || (n % 8 == 0)):=rN (dF (x:=trs ts) (y:=.lst []) rfl rfl (ab8 _ (acb ts))) fun _=>wG (m8 _ _ _ _ _) rfl
  cases h1:((ts.map tD).isEmpty || (n % 8 == 0)) with
  | true =>
    rw [h1] at t1
    obtain ⟨a,eaa,hal⟩:=yd (n / 8) (m:=ts.length + 1) (by omega)
    have q:o2 c7 (o2 dq (gv 4) (kc (.int 8))) (o2 cP (o1 cG (gb 0)) (kc (.int 1))) (stC ts cell rooms acts n (some (.sh (tD (fa,n / 8 % 7 - 1,fc)))) none none none none) = .ok (.int (a:Nat)):=by
      have l:o1 cG (gb 0) (stC ts cell rooms acts n (some (.sh (tD (fa,n / 8 % 7 - 1,fc)))) none none none none) = .ok (.int (ts.length:Nat)):=by rw [vf (ds:=ts.map tD) rfl,List.length_map]
      rw [j8 (f8 _ _ _ _ _) (sV l rfl) (by omega),show ((ts.length:Int) + 1) = ((ts.length + 1:Nat):Int) by omega,eaa]
    have s3:cM 6 (o2 c7 (o2 dq (gv 4) (kc (.int 8))) (o2 cP (o1 cG (gb 0)) (kc (.int 1)))) (stC ts cell rooms acts n (some (.sh (tD (fa,n / 8 % 7 - 1,fc)))) none none none none) = .ok (.nx (stC ts cell rooms acts n (some (.sh (tD (fa,n / 8 % 7 - 1,fc)))) (some (.sh (.int a))) none none none)):=cF q rfl
    refine ⟨ts.take a ++ [(fa,n / 8 % 7 - 1,fc)] ++ ts.drop a,aG s1 (aG s2 (mC t1 ?_)),?_⟩
    · rw [pK s3]
      exact kj (ret3 (by omega) rfl rfl rfl rfl)
    · simp only [List.length_append,List.length_take,List.length_drop,List.length_cons,List.length_nil]; omega
  | false =>
    rw [h1] at t1
    have hne:1 ≤ ts.length:=by
      cases ts with
      | nil=>cases h1
      | cons x l=>simp
    obtain ⟨a,eaa,hal⟩:=yd (n / 16) (m:=ts.length) hne
    have q:o2 c7 (o2 dq (gv 4) (kc (.int 16))) (o1 cG (gb 0)) (stC ts cell rooms acts n (some (.sh (tD (fa,n / 8 % 7 - 1,fc)))) none none none none) = .ok (.int (a:Nat)):=by
      have l:o1 cG (gb 0) (stC ts cell rooms acts n (some (.sh (tD (fa,n / 8 % 7 - 1,fc)))) none none none none) = .ok (.int (ts.length:Nat)):=by rw [vf (ds:=ts.map tD) rfl,List.length_map]
      rw [j8 (wD rfl rfl (cd _ (by decide) (by decide))) l (by omega),← eaa]
    have s3:cM 6 (o2 c7 (o2 dq (gv 4) (kc (.int 16))) (o1 cG (gb 0))) (stC ts cell rooms acts n (some (.sh (tD (fa,n / 8 % 7 - 1,fc)))) none none none none) = .ok (.nx (stC ts cell rooms acts n (some (.sh (tD (fa,n / 8 % 7 - 1,fc)))) (some (.sh (.int a))) none none none)):=cF q rfl
    obtain ⟨u,eu⟩:∃ u,ts[a]? = some u:=⟨_,List.getElem?_eq_getElem hal⟩
    have s4:GQ (o2 ixD (gvo 0) (gv 6)) (gT 3 (aP (gN 7) (aP (gN 8) (aP (gN 9) d7)))) (stC ts cell rooms acts n (some (.sh (tD (fa,n / 8 % 7 - 1,fc)))) (some (.sh (.int a))) none none none) = .ok (.nx (stC ts cell rooms acts n (some (.sh (tD (fa,n / 8 % 7 - 1,fc)))) (some (.sh (.int a))) (some (.sh (.int u.1))) (some (.sh (.int u.2.1))) (some (.sh (.int u.2.2))))):=asg3 (Zb (ds:=ts.map tD) (n:=a) rfl rfl (by rw [List.getElem?_map,eu]; rfl))
    have eq8:∀ k:Int,o2b eqD (o2 c7 (gv 4) (kc (.int 8))) (kc (.int k)) (stC ts cell rooms acts n (some (.sh (tD (fa,n / 8 % 7 - 1,fc)))) (some (.sh (.int a))) (some (.sh (.int u.1))) (some (.sh (.int u.2.1))) (some (.sh (.int u.2.2)))) = .ok (n % 8 == k):=fun k=>wG (m8 _ _ _ _ _) rfl
    have lt8:o2b ltD (o2 c7 (gv 4) (kc (.int 8))) (kc (.int 5)) (stC ts cell rooms acts n (some (.sh (tD (fa,n / 8 % 7 - 1,fc)))) (some (.sh (.int a))) (some (.sh (.int u.1))) (some (.sh (.int u.2.1))) (some (.sh (.int u.2.2)))) = .ok (decide (n % 8 < 5)):=za (m8 _ _ _ _ _) rfl
    have nxt:o2 cP (gv 6) (kc (.int 1)) (stC ts cell rooms acts n (some (.sh (tD (fa,n / 8 % 7 - 1,fc)))) (some (.sh (.int a))) (some (.sh (.int u.1))) (some (.sh (.int u.2.1))) (some (.sh (.int u.2.2)))) = .ok (.int ((a + 1:Nat):Int)):=(sV (i:=(a:Int)) (j:=1) rfl rfl).trans (by rw [Int.natCast_succ])
    have len3:∀ x:Tr,(ts.take a ++ [x] ++ ts.drop (a + 1)).length ≤ ts.length + 1:=fun x=>by simp only [List.length_append,List.length_take,List.length_drop,List.length_cons,List.length_nil]; omega
    have z1:=eq8 1
    have z2:=eq8 2
    have z5:=eq8 5
    have z6:=eq8 6
    cases b1:(n % 8 == 1) with
    | true =>
      rw [b1] at z1
      refine ⟨ts.take a ++ ts.drop (a + 1),aG s1 (aG s2 (bY t1 (aG s3 (aG s4 (mC z1 (kj ?_)))))),?_⟩
      · rw [Iw (sl_to (ts:=ts) (a:=a) rfl rfl) (aco (ts:=ts) rfl nxt) (by simp only [List.length_map,List.length_take,List.length_drop]; omega)]
        simp [trs]
      · simp only [List.length_append,List.length_take,List.length_drop]; omega
    | false =>
      rw [b1] at z1
      cases b2:(n % 8 == 2) with
      | true =>
        rw [b2] at z2
        refine ⟨ts ++ [(u.1,u.2.1 + n / 1024 % 3,u.2.2)],aG s1 (aG s2 (bY t1 (aG s3 (aG s4 (bY z1 (mC z2 (kj ?_))))))),by simp⟩
        rw [Iw (a:=ts.map tD) rfl (lst1 (tup3 rfl (sV rfl (j8 (f1024 _ _ _ _ _) rfl (by decide))) rfl)) (by simp only [List.length_map,List.length_cons,List.length_nil]; omega)]
        simp [trs,tD]
      | false =>
        rw [b2] at z2
        cases b3:decide (n % 8 < 5) with
        | true =>
          rw [b3] at lt8
          exact ⟨_,aG s1 (aG s2 (bY t1 (aG s3 (aG s4 (bY z1 (bY z2 (mC lt8 (kj (ret3 (x:=(u.1,u.2.1 + 1 - 2 * (n / 8 % 2),u.2.2)) (by omega) rfl rfl (tup3 rfl (Xk (sV rfl rfl) (Dn rfl (j8 (f8 _ _ _ _ _) rfl (by decide)) (Aj (by decide) (by decide)))) rfl) nxt))))))))),len3 _⟩
        | false =>
          rw [b3] at lt8
          cases b5:(n % 8 == 5) with
          | true =>
            rw [b5] at z5
            exact ⟨_,aG s1 (aG s2 (bY t1 (aG s3 (aG s4 (bY z1 (bY z2 (bY lt8 (mC z5 (kj (ret3 (x:=(u.1,u.2.1,fc)) (by omega) rfl rfl (tup3 rfl rfl (tix2 rfl)) nxt)))))))))),len3 _⟩
          | false =>
            rw [b5] at z5
            cases b6:(n % 8 == 6) with
            | true =>
              rw [b6] at z6
              exact ⟨_,aG s1 (aG s2 (bY t1 (aG s3 (aG s4 (bY z1 (bY z2 (bY lt8 (bY z5 (mC z6 (kj (ret3 (x:=(fa,u.2.1,u.2.2)) (by omega) rfl rfl (tup3 (Lk rfl) rfl rfl) nxt))))))))))),len3 _⟩
            | false =>
              rw [b6] at z6
              exact ⟨_,aG s1 (aG s2 (bY t1 (aG s3 (aG s4 (bY z1 (bY z2 (bY lt8 (bY z5 (bY z6 (lM (ret3 (x:=(u.1,u.2.1 + n / 1024 % 1000000,u.2.2)) (by omega) rfl rfl (tup3 rfl (sV rfl (j8 (f1024 _ _ _ _ _) rfl (by decide))) rfl) nxt))))))))))),len3 _⟩
end K4
namespace K4
open PySem L2 MX DL
def Dk (d:List (Key × D)) (ρ:Nat→Option Nat):Prop:=∀ n:Nat,iK d (.inl (n:Int)) = (ρ n).map fun v:Nat=>D.int v
def hitM (ρ:Nat→Option Nat) (r:Nat):Dr→Bool
  | .must n=>decide (ρ n = some (r - 1))
  | _=>false
def hit (ρ:Nat→Option Nat) (r:Nat) (x:Dr):Bool:=(decide (r = 0) && isT x) || (decide (0 < r) && hitM ρ r x)
def stY (ds:D) (d:List (Key × D)) (r:Nat) (x3 x4:Option Sl):DSt:=[some (.sh ds),some (.sh (.dK d)),some (.sh (.int r)),x3,x4]
theorem why_step {d:List (Key × D)} {ρ:Nat→Option Nat} (dk:Dk d ρ) (ds:D) (r k:Nat) (x:Dr):cA (stY ds d r (some (.sh (.int k))) (some (.sh x.d))) = .ok (if hit ρ r x = true then .rt (.int k) else .nx (stY ds d r (some (.sh (.int k))) (some (.sh x.d)))):=by
  have t1:pN (o2b eqD (gb 2) (kc (.int 0))) (o2b eqD (o2 ixD (gvo 4) (kc (.int 0))) (kc (.str "torn"))) (stY ds d r (some (.sh (.int k))) (some (.sh x.d))) = .ok (((r:Int) == 0) && isT x):=gK (wG rfl rfl) fun _=>dF (Lk (a:=.str x.w) (r:=[x.to]) rfl) rfl (eqT x)
  have z0:((r:Int) == 0) = decide (r = 0):=by
    rw [Bool.eq_iff_iff]; simp
  rw [z0] at t1
  have t2:pN (o2b gtD (gb 2) (kc (.int 0))) (pN (o2b eqD (o2 ixD (gvo 4) (kc (.int 0))) (kc (.str "must"))) (o2b eqD (yR 1 (o2 ixD (gvo 4) (kc (.int 1))) (o1 Gn (kc (.int 2)))) (o2 Dp (gv 2) (kc (.int 1))))) (stY ds d r (some (.sh (.int k))) (some (.sh x.d))) = .ok (decide (0 < r) && hitM ρ r x):=by
    have z1:decide ((r:Int) > 0) = decide (0 < r):=by rw [Bool.eq_iff_iff]; simp
    rw [← z1]
    refine gK (gt_ok rfl rfl) fun hp=>?_
    have hp:0 < r:=by rw [z1] at hp; simpa using hp
    cases x with
    | must n =>
      have g:=aca (i:=1) (fk:=o2 ixD (gvo 4) (kc (.int 1))) (fx:=o1 Gn (kc (.int 2))) (δ:=stY ds d r (some (.sh (.int k))) (some (.sh (Dr.must n).d))) (d:=d) (n:=(n:Int)) (x:=.int (-2)) rfl (tix1 rfl) rfl
      have s:o2 Dp (gv 2) (kc (.int 1)) (stY ds d r (some (.sh (.int k))) (some (.sh (Dr.must n).d))) = .ok (.int ((r:Int) - 1)):=Xk rfl rfl
      rw [dk n] at g
      have e1:=gK (x:=true) (a:=o2b eqD (o2 ixD (gvo 4) (kc (.int 0))) (kc (.str "must"))) (δ:=stY ds d r (some (.sh (.int k))) (some (.sh (Dr.must n).d))) (b:=o2b eqD (yR 1 (o2 ixD (gvo 4) (kc (.int 1))) (o1 Gn (kc (.int 2)))) (o2 Dp (gv 2) (kc (.int 1)))) (y:=decide (ρ n = some (r - 1))) (dF (Lk (a:=.str "must") (r:=[.int n]) rfl) rfl q11) fun _=>by
        cases hr:ρ n with
        | none =>
          rw [hr] at g
          rw [wG (i:=-2) g s,show ((-2:Int) == (r:Int) - 1) = false by rw [beq_eq_false_iff_ne]; omega]
          simp
        | some v =>
          rw [hr] at g
          rw [wG (i:=(v:Int)) g s]
          congr 1
          rw [Bool.eq_iff_iff]
          simp
          omega
      rw [e1]
      rfl
    | may n=>exact gK (x:=false) (y:=false) (dF (Lk (a:=.str "may") (r:=[.int n]) rfl) rfl q21) fun h=>by cases h
    | shut=>exact gK (x:=false) (y:=false) (dF (Lk (a:=.str "shut") (r:=[.non]) rfl) rfl q31) fun h=>by cases h
    | torn=>exact gK (x:=false) (y:=false) (dF (Lk (a:=.str "torn") (r:=[.non]) rfl) rfl q41) fun h=>by cases h
  unfold cA hit
  cases h1:(decide (r = 0) && isT x) with
  | true =>
    rw [h1] at t1
    unfold bf
    rw [sIf_t t1]
    rfl
  | false =>
    rw [h1] at t1
    rw [pK (δ':=stY ds d r (some (.sh (.int k))) (some (.sh x.d))) (by rw [zN t1]; rfl),zN t2,Bool.false_or]
    cases (decide (0 < r) && hitM ρ r x) <;> rfl
theorem Z9 {d:List (Key × D)} {ρ:Nat→Option Nat} (dk:Dk d ρ) (ds:D) (r:Nat):∀ (xs:List Dr) (k:Nat) (x3 x4:Option Sl),
    (∃ j x,xs[j]? = some x∧hit ρ r x = true∧qZ (gT 2 (aP (gN 3) (aP (gN 4) d7))) cA (mX k (xs.map Dr.d)) (stY ds d r x3 x4) = .ok (.rt (.int ((k + j:Nat):Int)))) ∨
    ((∀ x ∈ xs,hit ρ r x = false)∧∃ y3 y4,qZ (gT 2 (aP (gN 3) (aP (gN 4) d7))) cA (mX k (xs.map Dr.d)) (stY ds d r x3 x4) = .ok (.nx (stY ds d r y3 y4)))
  | [],k,x3,x4=>.inr ⟨by simp,x3,x4,rfl⟩
  | x :: xs,k,x3,x4=>by
    have st:=why_step dk ds r k x
    have e:qZ (gT 2 (aP (gN 3) (aP (gN 4) d7))) cA (mX k ((x :: xs).map Dr.d)) (stY ds d r x3 x4) = ((cA (stY ds d r (some (.sh (.int k))) (some (.sh x.d)))).bind fun fl=>match fl with
      | .nx δ2=>qZ (gT 2 (aP (gN 3) (aP (gN 4) d7))) cA (mX (k + 1) (xs.map Dr.d)) δ2
      | .ct δ2=>qZ (gT 2 (aP (gN 3) (aP (gN 4) d7))) cA (mX (k + 1) (xs.map Dr.d)) δ2
      | .bk δ2=>.ok (.nx δ2)
      | fl=>.ok fl):=rfl
    rw [e,st]
    cases h:hit ρ r x with
    | true=>exact .inl ⟨0,x,rfl,h,rfl⟩
    | false =>
      simp only [Bool.false_eq_true,if_false,Out.bu]
      rcases Z9 dk ds r xs (k + 1) (some (.sh (.int k))) (some (.sh x.d)) with ⟨j,y,h1,h2,h3⟩ | ⟨h1,h2⟩
      · refine .inl ⟨j + 1,y,h1,h2,?_⟩
        rw [h3,show k + 1 + j = k + (j + 1) by omega]
      · refine .inr ⟨fun y hy=>?_,h2⟩
        rcases List.mem_cons.mp hy with z | z
        · rw [z]; exact h
        · exact h1 y z
theorem F_why {d:List (Key × D)} {ρ:Nat→Option Nat} (dk:Dk d ρ) (r:Nat) (xs:List Dr) (hl:xs.length ≤ 8):(∃ j x,xs[j]? = some x∧hit ρ r x = true∧dz [.lst (xs.map Dr.d),.dK d,.int r] = .ok (.int (j:Nat))) ∨ ((∀ x ∈ xs,hit ρ r x = false)∧dz [.lst (xs.map Dr.d),.dK d,.int r] = .ok .non):=by
  have e:dz [.lst (xs.map Dr.d),.dK d,.int r] = ((bf (mD (enum (gv 0)) (gT 2 (aP (gN 3) (aP (gN 4) d7))) cA) (bB (kc .non)) (stY (.lst (xs.map Dr.d)) d r none none)).bind kW).bA:=rfl
  have en:enum (gv 0) (stY (.lst (xs.map Dr.d)) d r none none) = .ok (mX 0 (xs.map Dr.d)):=by
    unfold enum
    rfl
  rw [e]
  rcases Z9 dk (.lst (xs.map Dr.d)) r xs 0 none none with ⟨j,x,h1,h2,h3⟩ | ⟨h1,y3,y4,h3⟩
  · rw [Nat.zero_add] at h3
    exact .inl ⟨j,x,h1,h2,run_rt (by unfold mD; rw [en]; exact h3)⟩
  · exact .inr ⟨h1,aG (by unfold mD; rw [en]; exact h3) rfl⟩
end K4
namespace K4
open PySem L2 MX DL
def stK (rows:D) (d:List (Key × D)) (ts:List Tr) (r:Nat) (fr:List Tr) (x5 x6 x7:Option Sl):DSt:=[some (.sh rows),some (.od d),some (.sh (trs ts)),some (.sh (.int r)),some (.ol (fr.map tD)),x5,x6,x7]
theorem dn_ok {i:Nat} {f:DSt→Out D} {δ:DSt} {kvs:List (Key × D)} {n:Int} (h:δ[i]? = some (some (.od kvs))) (hf:f δ = .ok (.int n)):SJ i f δ = .ok (!Bp kvs (.inl n)):=by
  unfold SJ
  rw [hf]
  simp only [Out.bu,keyD]
  rw [h]
theorem Dk.has {d:List (Key × D)} {ρ:Nat→Option Nat} (dk:Dk d ρ) (n:Nat):Bp d (.inl (n:Int)) = (ρ n).isSome:=by
  rw [JM,dk n]
  cases ρ n <;> rfl
theorem nN_ok {f:DSt→Out D} {δ:DSt} {x:D} (h:f δ = .ok x):o2b xM f (kc .non) δ = .ok (!wU x):=dF h rfl rfl
section
variable {many acts:Nat} {rows:List (List Dr)}
theorem ac2 (R:Rows many acts true rows) (ha:acts ≤ 8) {d:List (Key × D)} {ρ:Nat→Option Nat} (dk:Dk d ρ) (ts:List Tr) (r:Nat) (fr:List Tr) (hf:fr.length ≤ 100) {i:Nat} (hi:i < many) (x6 x7:Option Sl) :
    ∃ row,rows[i]? = some row∧((∃ j x,ρ i = none∧row[j]? = some x∧hit ρ r x = true∧eN (stK (aU rows) d ts r fr (some (.sh (.int i))) x6 x7) = .ok (.nx (stK (aU rows) d ts r (fr ++ [((i:Int),(r:Int),((j:Nat):Int))]) (some (.sh (.int i))) x6 x7))) ∨
      ((ρ i = none→∀ x ∈ row,hit ρ r x = false)∧eN (stK (aU rows) d ts r fr (some (.sh (.int i))) x6 x7) = .ok (.nx (stK (aU rows) d ts r fr (some (.sh (.int i))) x6 x7)))):=by
  have l1:i < rows.length:=by rw [R.n]; exact hi
  obtain ⟨row,er⟩:∃ row,rows[i]? = some row:=⟨_,List.getElem?_eq_getElem l1⟩
  have hrl:row.length ≤ 8:=by rw [(R.row row (List.mem_of_getElem? er)).1]; exact ha
  refine ⟨row,er,?_⟩
  have t1:=dn_ok (i:=1) (f:=gv 5) (δ:=stK (aU rows) d ts r fr (some (.sh (.int i))) x6 x7) (kvs:=d) (n:=(i:Int)) rfl rfl
  rw [dk.has] at t1
  have args:aq (o2 ixD (gvo 0) (gv 5)) (aq (gv 1) (aq (gv 3) aN)) [some (.sh (aU rows)),some (.sh (.dK d)),some (.sh (trs ts)),some (.sh (.int r)),some (.ol (fr.map tD)),some (.sh (.int i)),x6,x7] = .ok [.lst (row.map Dr.d),.dK d,.int r]:=aF (Zb (ds:=rows.map fun r=>.lst (r.map Dr.d)) (n:=i) rfl rfl (by rw [List.getElem?_map,er]; rfl)) (aF rfl (aF rfl rfl))
  unfold eN
  cases hr:ρ i with
  | some v =>
    rw [hr] at t1
    refine .inr ⟨fun h=>(by cases h),?_⟩
    rw [zN (gK (x:=false) (y:=false) t1 fun h=>by cases h)]
    rfl
  | none =>
    rw [hr] at t1
    rcases F_why dk r row hrl with ⟨j,x,h1,h2,h3⟩ | ⟨h1,h3⟩
    · have w:=ace (i:=1) (f:=oF 3 dz (aq (o2 ixD (gvo 0) (gv 5)) (aq (gv 1) (aq (gv 3) aN)))) (δ:=stK (aU rows) d ts r fr (some (.sh (.int i))) x6 x7) (s:=.od d) rfl rfl rfl (iD args rfl h3) rfl
      refine .inl ⟨j,x,rfl,h1,h2,?_⟩
      rw [sIf_t (gK (x:=true) (y:=true) t1 fun _=>nN_ok w)]
      refine aax (ds:=fr.map tD) (d:=tD ((i:Int),(r:Int),((j:Nat):Int))) rfl (tup3 (fa:=gv 5) (fb:=gv 3) (a:=.int (i:Int)) (b:=.int (r:Int)) rfl rfl w) (by rw [List.length_map]; exact Nat.lt_of_le_of_lt hf (by decide)) ?_
      unfold stK
      rw [List.map_append]
      rfl
    · have w:=ace (i:=1) (f:=oF 3 dz (aq (o2 ixD (gvo 0) (gv 5)) (aq (gv 1) (aq (gv 3) aN)))) (δ:=stK (aU rows) d ts r fr (some (.sh (.int i))) x6 x7) (s:=.od d) rfl rfl rfl (iD args rfl h3) rfl
      refine .inr ⟨fun _=>h1,?_⟩
      rw [zN (gK t1 fun _=>nN_ok w)]
      rfl
structure Fr (rows:List (List Dr)) (ρ:Nat→Option Nat) (r:Nat) (done:List Nat) (fr:List Tr):Prop where
  a:∀ t ∈ fr,∃ (i j:Nat) (row:List Dr) (x:Dr),t = ((i:Int),(r:Int),(j:Int))∧i ∈ done∧ρ i = none∧rows[i]? = some row∧row[j]? = some x∧hit ρ r x = true
  b:∀ i ∈ done,ρ i = none→∀ row,rows[i]? = some row→∀ x ∈ row,hit ρ r x = true→∃ j:Nat,((i:Int),(r:Int),(j:Int)) ∈ fr
  c:fr.length ≤ done.length
theorem aa1 (R:Rows many acts true rows) (ha:acts ≤ 8) (hm:many ≤ 8) {d:List (Key × D)} {ρ:Nat→Option Nat} (dk:Dk d ρ) (ts:List Tr) (r:Nat) (x5 x6 x7:Option Sl):∃ fr y5,qZ (gN 5) eN ((List.range many).map fun k:Nat=>D.int k) (stK (aU rows) d ts r [] x5 x6 x7) = .ok (.nx (stK (aU rows) d ts r fr y5 x6 x7))∧Fr rows ρ r (List.range many) fr:=by
  have hh:=ph (body:=eN) (tg:=gN 5) (fun k:Nat=>D.int k) (fun done δ=>∃ fr y5,δ = stK (aU rows) d ts r fr y5 x6 x7∧Fr rows ρ r done fr) (List.range many) (stK (aU rows) d ts r [] x5 x6 x7) (by
    rintro i done rest δ e ⟨fr,y5,rfl,F⟩
    have hi:i < many:=List.mem_range.mp (by rw [e]; simp)
    have hd:done.length ≤ 8:=by
      have:=congrArg List.length e
      simp at this
      omega
    have hc:=F.c
    obtain ⟨row,er,z⟩:=ac2 R ha dk ts r fr (by omega) hi x6 x7
    refine ⟨stK (aU rows) d ts r fr (some (.sh (.int i))) x6 x7,rfl,?_⟩
    rcases z with ⟨j,x,z1,z2,z3,q⟩ | ⟨z1,q⟩
    · rw [q]
      refine ⟨_,_,rfl,fun t ht=>?_,fun i' hi' hn row' er' y hy hh=>?_,by rw [List.length_append,List.length_append]; exact Nat.succ_le_succ hc⟩
      · rcases List.mem_append.mp ht with w | w
        · obtain ⟨i2,j2,row2,y2,w1,w2,w3⟩:=F.a t w
          exact ⟨i2,j2,row2,y2,w1,by simp [w2],w3⟩
        · exact ⟨i,j,row,x,List.mem_singleton.mp w,by simp,z1,er,z2,z3⟩
      · rcases List.mem_append.mp hi' with w | w
        · obtain ⟨j2,w2⟩:=F.b i' w hn row' er' y hy hh
          exact ⟨j2,by simp [w2]⟩
        · rw [List.mem_singleton.mp w]
          exact ⟨j,by simp⟩
    · rw [q]
      refine ⟨_,_,rfl,fun t ht=>?_,fun i' hi' hn row' er' y hy hh=>?_,by rw [List.length_append]; omega⟩
      · obtain ⟨i2,j2,row2,y2,w1,w2,w3⟩:=F.a t ht
        exact ⟨i2,j2,row2,y2,w1,by simp [w2],w3⟩
      · rcases List.mem_append.mp hi' with w | w
        · exact F.b i' w hn row' er' y hy hh
        · have:=List.mem_singleton.mp w
          subst this
          rw [er] at er'
          cases er'
          rw [z1 hn y hy] at hh
          cases hh) ⟨[],x5,rfl,⟨by simp,by simp,Nat.le_refl _⟩⟩
  obtain ⟨δ',e,fr,y5,rfl,F⟩:=hh
  exact ⟨fr,y5,e,F⟩
end
def GP (ρ:Nat→Option Nat) (r:Nat) (fr:List Tr) (n:Nat):Option Nat:=if fr.any (fun t=>decide (t.1 = (n:Int))) = true then some r else ρ n
theorem put_loop {d:List (Key × D)} {ρ:Nat→Option Nat} (dk:Dk d ρ) (rw':D) (ts:List Tr) (r:Nat) (fr:List Tr) (hl:d.length + fr.length ≤ 1000) (x5 x6 x7:Option Sl) :
    ∃ d' y5 y6 y7,qZ (gT 3 (aP (gN 5) (aP (gN 6) (aP (gN 7) d7)))) jZ (fr.map tD) [some (.sh rw'),some (.od d),some (.sh (trs ts)),some (.sh (.int r)),some (.sh (trs fr)),x5,x6,x7] = .ok (.nx [some (.sh rw'),some (.od d'),some (.sh (trs ts)),some (.sh (.int r)),some (.sh (trs fr)),y5,y6,y7])∧Dk d' (GP ρ r fr)∧d'.length ≤ d.length + fr.length:=by
  have hh:=ph (body:=jZ) (tg:=gT 3 (aP (gN 5) (aP (gN 6) (aP (gN 7) d7)))) tD (fun done δ=>∃ d' y5 y6 y7,δ = [some (.sh rw'),some (.od d'),some (.sh (trs ts)),some (.sh (.int r)),some (.sh (trs fr)),y5,y6,y7]∧Dk d' (GP ρ r done)∧d'.length ≤ d.length + done.length) fr [some (.sh rw'),some (.od d),some (.sh (trs ts)),some (.sh (.int r)),some (.sh (trs fr)),x5,x6,x7] (by
    rintro t done rest δ e ⟨d',y5,y6,y7,rfl,k,hl'⟩
    have hd:done.length ≤ fr.length:=by rw [e]; simp
    have q:=T4 (i:=1) (fv:=gv 3) (fk:=gv 5) (δ:=[some (.sh rw'),some (.od d'),some (.sh (trs ts)),some (.sh (.int r)),some (.sh (trs fr)),some (.sh (.int t.1)),some (.sh (.int t.2.1)),some (.sh (.int t.2.2))]) (d:=d') (n:=t.1) (v:=.int r) rfl rfl rfl (by omega)
    refine ⟨[some (.sh rw'),some (.od d'),some (.sh (trs ts)),some (.sh (.int r)),some (.sh (trs fr)),some (.sh (.int t.1)),some (.sh (.int t.2.1)),some (.sh (.int t.2.2))],rfl,?_⟩
    unfold jZ
    rw [q]
    refine ⟨_,_,_,_,rfl,fun n=>?_,Nat.le_trans (ack _ _ _) (by rw [List.length_append]; exact Nat.succ_le_succ hl')⟩
    rw [Y7,k n]
    unfold GP
    rw [List.any_append]
    by_cases en:t.1 = (n:Int)
    · rw [if_pos (by rw [en])]
      simp [en]
    · rw [if_neg (fun z=>en (Sum.inl.inj z).symm),List.any_cons,List.any_nil,decide_eq_false en,Bool.or_false,Bool.or_false]) ⟨d,x5,x6,x7,rfl,fun n=>by rw [dk n]; rfl,Nat.le_refl _⟩
  obtain ⟨δ',e,d',y5,y6,y7,rfl,k,l⟩:=hh
  exact ⟨d',y5,y6,y7,e,k,l⟩
end K4
namespace K4
open PySem L2 MX DL
structure Rd (rows:List (List Dr)) (many:Nat) (r:Nat) (d:List (Key × D)) (ts:List Tr) (ρ:Nat→Option Nat):Prop where
  dk:Dk d ρ
  ld:d.length ≤ r * many
  lt:ts.length ≤ r * many
  inn:∀ n v,ρ n = some v→v < r∧n < many∧∃ j:Nat,((n:Int),(v:Int),(j:Int)) ∈ ts
  tr:∀ t ∈ ts,∃ (i v j:Nat) (row:List Dr) (x:Dr),t = ((i:Int),(v:Int),(j:Int))∧i < many∧rows[i]? = some row∧row[j]? = some x∧((v = 0∧x = .torn) ∨ ∃ n v',x = .must n∧v = v' + 1∧ρ n = some v')
  c0:0 < r→∀ i row,rows[i]? = some row→Dr.torn ∈ row→(ρ i).isSome = true
  c1:∀ i row n v,rows[i]? = some row→Dr.must n ∈ row→ρ n = some v→v + 1 < r→(ρ i).isSome = true
theorem BX {ρ:Nat→Option Nat} {r:Nat} {fr:List Tr} {rows:List (List Dr)} {done:List Nat} (F:Fr rows ρ r done fr) {n v:Nat} (h:ρ n = some v):GP ρ r fr n = some v:=by
  unfold GP
  rw [if_neg,h]
  intro z
  obtain ⟨t,ht,e⟩:=List.any_eq_true.mp z
  obtain ⟨i,j,row,x,rfl,_,hn,_⟩:=F.a t ht
  have:(i:Int) = (n:Int):=by simpa using e
  have:i = n:=by omega
  rw [this,h] at hn
  cases hn
theorem K1 {ρ:Nat→Option Nat} {r:Nat} {fr:List Tr} {n v:Nat} (h:GP ρ r fr n = some v):(v = r∧∃ t ∈ fr,t.1 = (n:Int)) ∨ ρ n = some v:=by
  unfold GP at h
  split at h
  · rename_i z
    obtain ⟨t,ht,e⟩:=List.any_eq_true.mp z
    cases h
    exact .inl ⟨rfl,t,ht,by simpa using e⟩
  · exact .inr h
theorem acn {ρ:Nat→Option Nat} {r:Nat} {fr:List Tr} {n:Nat} {j:Int} {k:Int} (h:((n:Int),k,j) ∈ fr):(GP ρ r fr n).isSome = true:=by
  unfold GP
  rw [if_pos (List.any_eq_true.mpr ⟨_,h,by simp⟩)]
  rfl
theorem Rd.next {rows:List (List Dr)} {many acts r:Nat} {d d':List (Key × D)} {ts fr:List Tr} {ρ:Nat→Option Nat} (Rr:Rows many acts true rows) (R:Rd rows many r d ts ρ) (F:Fr rows ρ r (List.range many) fr) (dk:Dk d' (GP ρ r fr)) (hl:d'.length ≤ d.length + fr.length):Rd rows many (r + 1) d' (ts ++ fr) (GP ρ r fr):=by
  have hc:=F.c
  rw [List.length_range] at hc
  have hld:=R.ld
  have hlt:=R.lt
  have hmul:(r + 1) * many = r * many + many:=by rw [Nat.add_mul,Nat.one_mul]
  have acf:∀ i row,rows[i]? = some row→i < many:=fun i row e=>by
    rw [← Rr.n]
    exact (List.getElem?_eq_some_iff.mp e).1
  refine ⟨dk,by omega,by rw [List.length_append]; omega,fun n v h=>?_,fun t ht=>?_,fun _ i row er ht=>?_,fun i row n v er hm hn hv=>?_⟩
  · rcases K1 h with ⟨rfl,t,ht,e⟩ | h
    · obtain ⟨i,j,row,x,rfl,hi,_⟩:=F.a t ht
      have:i = n:=by have e:(i:Int) = (n:Int):=e; omega
      subst this
      exact ⟨Nat.lt_succ_self _,List.mem_range.mp hi,j,List.mem_append_right _ ht⟩
    · obtain ⟨h1,h2,j,h3⟩:=R.inn n v h
      exact ⟨Nat.lt_succ_of_lt h1,h2,j,List.mem_append_left _ h3⟩
  · rcases List.mem_append.mp ht with z | z
    · obtain ⟨i,v,j,row,x,e1,e2,e3,e4,e5⟩:=R.tr t z
      refine ⟨i,v,j,row,x,e1,e2,e3,e4,?_⟩
      rcases e5 with e5 | ⟨n,v',q1,q2,q3⟩
      · exact .inl e5
      · exact .inr ⟨n,v',q1,q2,BX F q3⟩
    · obtain ⟨i,j,row,x,e1,e2,e3,e4,e5,e6⟩:=F.a t z
      refine ⟨i,r,j,row,x,e1,List.mem_range.mp e2,e4,e5,?_⟩
      unfold hit at e6
      rcases Bool.or_eq_true_iff.mp e6 with q | q
      · obtain ⟨q1,q2⟩:=Bool.and_eq_true_iff.mp q
        exact .inl ⟨of_decide_eq_true q1,by cases x <;> first | rfl | cases q2⟩
      · obtain ⟨q1,q2⟩:=Bool.and_eq_true_iff.mp q
        have q1:=of_decide_eq_true q1
        cases x with
        | must n=>exact .inr ⟨n,r - 1,rfl,by omega,BX F (of_decide_eq_true q2)⟩
        | may n=>cases q2
        | shut=>cases q2
        | torn=>cases q2
  · cases hr:ρ i with
    | some v=>rw [BX F hr]; rfl
    | none =>
      by_cases h0:r = 0
      · obtain ⟨j,hj⟩:=F.b i (List.mem_range.mpr (acf i row er)) hr row er .torn ht (by unfold hit; simp [h0,isT])
        exact acn hj
      · have:=R.c0 (by omega) i row er ht
        rw [hr] at this
        cases this
  · have hn':ρ n = some v:=by
      rcases K1 hn with ⟨z,_⟩ | z
      · omega
      · exact z
    cases hr:ρ i with
    | some v=>rw [BX F hr]; rfl
    | none =>
      by_cases h0:v + 1 < r
      · have:=R.c1 i row n v er hm hn' h0
        rw [hr] at this
        cases this
      · have hv':v = r - 1∧0 < r:=by omega
        obtain ⟨j,hj⟩:=F.b i (List.mem_range.mpr (acf i row er)) hr row er (.must n) hm (by unfold hit hitM; rw [← hv'.1]; simp [hn',hv'.2])
        exact acn hj
theorem abG {many acts:Nat} {rows:List (List Dr)} (Rr:Rows many acts true rows) (ha:acts ≤ 8) (hm:many ≤ 8) {r:Nat} (hr:r ≤ 8) {d:List (Key × D)} {ts:List Tr} {ρ:Nat→Option Nat} (R:Rd rows many r d ts ρ) (x4 x5 x6 x7:Option Sl) :
    ∃ d' ts' ρ' y4 y5 y6 y7,gA [some (.sh (aU rows)),some (.od d),some (.sh (trs ts)),some (.sh (.int r)),x4,x5,x6,x7] = .ok (.nx [some (.sh (aU rows)),some (.od d'),some (.sh (trs ts')),some (.sh (.int r)),y4,y5,y6,y7])∧Rd rows many (r + 1) d' ts' ρ':=by
  have hld:=R.ld
  have hlt:=R.lt
  have hb:r * many ≤ 64:=Nat.mul_le_mul hr hm
  obtain ⟨fr,y5,e1,F⟩:=aa1 Rr ha hm R.dk ts r x5 x6 x7
  have hc:=F.c
  rw [List.length_range] at hc
  obtain ⟨d',z5,z6,z7,e2,dk,l⟩:=put_loop R.dk (aU rows) ts r fr (by omega) y5 x6 x7
  refine ⟨d',ts ++ fr,GP ρ r fr,some (.sh (trs fr)),z5,z6,z7,?_,R.next Rr F dk l⟩
  unfold gA
  rw [pK (δ':=stK (aU rows) d ts r [] x5 x6 x7) (W2 (d:=[]) (by unfold Ja; walk_at "ev: s0") rfl)]
  have ln:o1 cG (gb 0) (stK (aU rows) d ts r [] x5 x6 x7) = .ok (.int (many:Nat)):=by
    rw [vf (ds:=rows.map fun r=>.lst (r.map Dr.d)) rfl,List.length_map,Rr.n]
  have rg:=xP (n:=many) ln (by omega)
  rw [pK (δ':=stK (aU rows) d ts r fr y5 x6 x7) (by unfold mD; rw [rg]; exact e1)]
  rw [pK (δ':=[some (.sh (aU rows)),some (.od d'),some (.sh (trs ts)),some (.sh (.int r)),some (.sh (trs fr)),z5,z6,z7]) (by
    show mD _ _ _ [some (.sh (aU rows)),some (.od d),some (.sh (trs ts)),some (.sh (.int r)),some (.sh (trs fr)),y5,x6,x7] = _
    unfold mD
    exact e2)]
  show cM 2 (o2 cP (gv 2) (gv 4)) [some (.sh (aU rows)),some (.od d'),some (.sh (trs ts)),some (.sh (.int r)),some (.sh (trs fr)),z5,z6,z7] = _
  refine cF (d:=trs (ts ++ fr)) ?_ rfl
  rw [Iw (a:=ts.map tD) (b:=fr.map tD) rfl rfl (by rw [List.length_map,List.length_map]; omega)]
  simp [trs]
theorem rounds {many acts:Nat} {rows:List (List Dr)} (Rr:Rows many acts true rows) (ha:acts ≤ 8) (hm:many ≤ 8) :
    ∃ d ts ρ x3 x4 x5 x6 x7,qZ (gN 3) gA ((List.range (many + 1)).map fun k:Nat=>D.int k) [some (.sh (aU rows)),some (.od []),some (.sh (trs [])),none,none,none,none,none] = .ok (.nx [some (.sh (aU rows)),some (.od d),some (.sh (trs ts)),x3,x4,x5,x6,x7])∧Rd rows many (many + 1) d ts ρ:=by
  have hh:=ph (body:=gA) (tg:=gN 3) (fun k:Nat=>D.int k) (fun done δ=>∃ d ts ρ x3 x4 x5 x6 x7,δ = [some (.sh (aU rows)),some (.od d),some (.sh (trs ts)),x3,x4,x5,x6,x7]∧Rd rows many done.length d ts ρ) (List.range (many + 1)) [some (.sh (aU rows)),some (.od []),some (.sh (trs [])),none,none,none,none,none] (by
    rintro r done rest δ e ⟨d,ts,ρ,x3,x4,x5,x6,x7,rfl,R⟩
    have hr:r = done.length:=by
      have h1:(List.range (many + 1))[done.length]? = some r:=by rw [e]; simp
      have h2:=(List.getElem?_eq_some_iff.mp h1).2
      simpa using h2.symm
    have hd:done.length ≤ 8:=by
      have:=congrArg List.length e
      simp at this
      omega
    subst hr
    obtain ⟨d',ts',ρ',y4,y5,y6,y7,q,R'⟩:=abG Rr ha hm hd R x4 x5 x6 x7
    refine ⟨[some (.sh (aU rows)),some (.od d),some (.sh (trs ts)),some (.sh (.int (done.length:Nat))),x4,x5,x6,x7],rfl,?_⟩
    rw [q]
    exact ⟨d',ts',ρ',_,y4,y5,y6,y7,rfl,by rw [List.length_append]; exact R'⟩) ⟨[],[],fun _=>none,none,none,none,none,none,rfl,⟨fun n=>rfl,Nat.zero_le _,Nat.zero_le _,fun n v h=>(by cases h),by simp,fun h=>absurd h (by simp),fun i row n v _ _ h=>(by cases h)⟩⟩
  obtain ⟨δ',e,d,ts,ρ,x3,x4,x5,x6,x7,rfl,R⟩:=hh
  rw [List.length_range] at R
  exact ⟨d,ts,ρ,x3,x4,x5,x6,x7,e,R⟩
theorem Rd.small {rows:List (List Dr)} {many r:Nat} {d:List (Key × D)} {ts:List Tr} {ρ:Nat→Option Nat} (R:Rd rows many r d ts ρ) {n v:Nat} (h:ρ n = some v):v < many:=by
  have pred:∀ n v,ρ n = some (v + 1)→∃ m,ρ m = some v:=fun n v h=>by
    obtain ⟨_,_,j,hj⟩:=R.inn n (v + 1) h
    obtain ⟨i,v2,j2,row,x,e1,e2,e3,e4,e5⟩:=R.tr _ hj
    have e1:((n:Int),((v + 1:Nat):Int),(j:Int)) = ((i:Int),(v2:Int),(j2:Int)):=e1
    have ev:v + 1 = v2:=by
      have:=congrArg (fun t:Tr=>t.2.1) e1
      simp only at this
      omega
    rcases e5 with ⟨z,_⟩ | ⟨m,v',z1,z2,z3⟩
    · omega
    · exact ⟨m,by rw [z3]; congr 1; omega⟩
  have down:∀ k u,u + k = v→∃ m,ρ m = some u:=by
    intro k
    induction k with
    | zero=>intro u e; exact ⟨n,by rw [h]; congr 1; omega⟩
    | succ k ih =>
      intro u e
      obtain ⟨m,hm⟩:=ih (u + 1) (by omega)
      exact pred m u hm
  have all:∀ u:Nat,∃ m,u ≤ v→ρ m = some u:=fun u=>by
    by_cases hu:u ≤ v
    · obtain ⟨m,hm⟩:=down (v - u) u (by omega)
      exact ⟨m,fun _=>hm⟩
    · exact ⟨0,fun z=>absurd z hu⟩
  obtain ⟨f,hf⟩:=Classical.axiomOfChoice all
  have nd:((List.range (v + 1)).map f).Nodup:=by
    refine List.pairwise_map.mpr (List.Pairwise.imp_of_mem ?_ List.nodup_range)
    intro a b ha hb ne e
    have h1:=hf a (by have:=List.mem_range.mp ha; omega)
    have h2:=hf b (by have:=List.mem_range.mp hb; omega)
    rw [e,h2] at h1
    exact ne (Option.some.inj h1).symm
  have:=QS many _ nd (fun x hx=>by
    obtain ⟨u,hu,rfl⟩:=List.mem_map.mp hx
    exact (R.inn _ _ (hf u (by have:=List.mem_range.mp hu; omega))).2.1)
  rw [List.length_map,List.length_range] at this
  omega
end K4
namespace K4
open PySem L2 MX DL
structure Rx (rows:List (List Dr)) (many acts:Nat) (d:List (Key × D)) (ts:List Tr) (ρ:Nat→Option Nat):Prop where
  dk:Dk d ρ
  lt:ts.length ≤ 100
  al:∀ t ∈ ts,leans ts rows many acts t = true
  c0:∀ i row,rows[i]? = some row→Dr.torn ∈ row→(ρ i).isSome = true
  c1:∀ i row n,rows[i]? = some row→Dr.must n ∈ row→(ρ n).isSome = true→(ρ i).isSome = true
theorem Rd.out {many acts:Nat} {rows:List (List Dr)} (Rr:Rows many acts true rows) (hm:many ≤ 8) {d:List (Key × D)} {ts:List Tr} {ρ:Nat→Option Nat} (R:Rd rows many (many + 1) d ts ρ):Rx rows many acts d ts ρ:=by
  have hlt:=R.lt
  have hb:(many + 1) * many ≤ 9 * 8:=Nat.mul_le_mul (by omega) hm
  refine ⟨R.dk,by omega,fun t ht=>?_,R.c0 (by omega),fun i row n er hm' hn=>?_⟩
  · obtain ⟨i,v,j,row,x,rfl,e2,e3,e4,e5⟩:=R.tr t ht
    have hj:j < acts:=by
      rw [← (Rr.row row (List.mem_of_getElem? e3)).1]
      exact (List.getElem?_eq_some_iff.mp e4).1
    have hi:inR many acts ((i:Int),(v:Int),(j:Int)) = true:=by
      unfold inR
      simp only [Bool.and_eq_true,decide_eq_true_eq]
      omega
    have hd:drAt rows ((i:Int),(v:Int),(j:Int)) = x:=by
      unfold drAt
      rw [Int.toNat_natCast,Int.toNat_natCast,List.getD_eq_getElem?_getD,List.getD_eq_getElem?_getD,e3]
      dsimp only [Option.getD_some]
      rw [e4]
      rfl
    unfold leans
    rw [hi,hd]
    rcases e5 with ⟨_,rfl⟩ | ⟨n,v',rfl,rfl,q⟩
    · rfl
    · obtain ⟨_,_,j',hj'⟩:=R.inn n v' q
      show (true && ts.any _) = true
      rw [Bool.true_and]
      refine List.any_eq_true.mpr ⟨_,hj',?_⟩
      simp only [Bool.and_eq_true,decide_eq_true_eq]
      refine ⟨trivial,?_⟩
      omega
  · obtain ⟨v,hv⟩:=Option.isSome_iff_exists.mp hn
    exact R.c1 i row n v er hm' hv (by have:=R.small hv; omega)
theorem F_ranks {many acts:Nat} {rows:List (List Dr)} (Rr:Rows many acts true rows) (ha:acts ≤ 8) (hm:many ≤ 8):∃ d ts ρ,jL [aU rows] = .ok (.tup [.dK d,trs ts])∧Rx rows many acts d ts ρ:=by
  obtain ⟨d,ts,ρ,x3,x4,x5,x6,x7,e,R⟩:=rounds Rr ha hm
  refine ⟨d,ts,ρ,?_,R.out Rr hm⟩
  show ((ux [some (.sh (aU rows)),none,none,none,none,none,none,none]).bind kW).bA = _
  unfold ux
  refine aG (δ':=[some (.sh (aU rows)),some (.od []),none,none,none,none,none,none]) rfl ?_
  refine aG (δ':=[some (.sh (aU rows)),some (.od []),some (.sh (trs [])),none,none,none,none,none]) (cF (d:=.lst []) rfl rfl) ?_
  have ln:o2 cP (o1 cG (gb 0)) (kc (.int 1)) [some (.sh (aU rows)),some (.od []),some (.sh (trs [])),none,none,none,none,none] = .ok (.int ((many + 1:Nat):Int)):=by
    rw [sV (i:=(many:Int)) (j:=1) (by rw [vf (ds:=rows.map fun r=>.lst (r.map Dr.d)) rfl,List.length_map,Rr.n]) rfl,Int.natCast_succ]
  have rg:=xP (n:=many + 1) ln (by omega)
  refine aG (δ':=[some (.sh (aU rows)),some (.od d),some (.sh (trs ts)),x3,x4,x5,x6,x7]) (by unfold mD; rw [rg]; exact e) ?_
  show ((bB (fj (aq (gv 1) (aq (gv 2) aN))) [some (.sh (aU rows)),some (.sh (.dK d)),some (.sh (trs ts)),x3,x4,x5,x6,x7]).bind kW).bA = _
  exact lM (tup2 rfl rfl)
theorem let_by {many acts:Nat} {rows:List (List Dr)} (Rr:Rows many acts true rows) {d:List (Key × D)} {ts0:List Tr} {ρ:Nat→Option Nat} (R:Rx rows many acts d ts0 ρ) {ts:List Tr} (h:ts.all (leans ts rows many acts) = true):∀ (k:Nat),∀ t ∈ ts,t.2.1 < (k:Int)→Bp d (.inl t.1) = true∧(ρ t.1.toNat).isSome = true∧0 ≤ t.1:=by
  intro k
  induction k with
  | zero =>
    intro t ht hk
    have:=List.all_eq_true.mp h t ht
    unfold leans inR at this
    simp only [Bool.and_eq_true,decide_eq_true_eq] at this
    omega
  | succ k ih =>
    intro t ht hk
    have l:=List.all_eq_true.mp h t ht
    unfold leans at l
    obtain ⟨l1,l2⟩:=Bool.and_eq_true_iff.mp l
    unfold inR at l1
    simp only [Bool.and_eq_true,decide_eq_true_eq] at l1
    obtain ⟨⟨⟨h1,h2⟩,h3,h4⟩,h5⟩:=l1
    obtain ⟨row,x,er,ex⟩:∃ r x,rows[t.1.toNat]? = some r∧r[t.2.2.toNat]? = some x:=by
      have l1:t.1.toNat < rows.length:=by rw [Rr.n]; omega
      have l2:t.2.2.toNat < rows[t.1.toNat].length:=by rw [(Rr.row _ (List.getElem_mem l1)).1]; omega
      exact ⟨_,_,List.getElem?_eq_getElem l1,List.getElem?_eq_getElem l2⟩
    have ed:drAt rows t = x:=by
      unfold drAt
      rw [List.getD_eq_getElem?_getD,List.getD_eq_getElem?_getD,er]
      dsimp only [Option.getD_some]
      rw [ex]
      rfl
    rw [ed] at l2
    have key:(ρ t.1.toNat).isSome = true:=by
      cases x with
      | torn=>exact R.c0 _ row er (List.mem_of_getElem? ex)
      | may n=>cases l2
      | shut=>cases l2
      | must n =>
        obtain ⟨o,ho,q⟩:=List.any_eq_true.mp l2
        simp only [Bool.and_eq_true,decide_eq_true_eq] at q
        obtain ⟨_,z,_⟩:=ih o ho (by omega)
        rw [q.1,Int.toNat_natCast] at z
        exact R.c1 _ row n er (List.mem_of_getElem? ex) z
    refine ⟨?_,key,h1⟩
    have c1:t.1 = ((t.1.toNat:Nat):Int):=by omega
    rw [c1,R.dk.has]
    exact key
end K4
namespace K4
open PySem L2 MX DL
theorem cut_mm {α:Type} (g:α→D) (xs:List α) (a b:Nat):∃ ys:List α,Al (xs.map g) (some (a:Int)) (some (b:Int)) = ys.map g∧ys.length ≤ b - a:=by
  unfold Al
  rw [List.length_map,HT.Hu,HT.Hu,← List.map_drop,← List.map_take]
  refine ⟨_,rfl,?_⟩
  rw [List.length_take,List.length_drop]
  omega
def stL (ns:List Int) (c:Int) (acts:Nat) (rows:List (List Dr)) (nm:List (List Nat)) (d:List (Key × D)) (ts:List Tr) (x7 x8 x9 x10:Option Sl):DSt:=[some (.sh (.rol (ns.map .int))),some (.sh (.int c)),some (.sh (.int acts)),some (.sh (aU rows)),some (.sh (plan aR nm rows)),some (.sh (.dK d)),some (.sh (trs ts)),x7,x8,x9,x10]
theorem Vi {f:DSt→Out D} {δ:DSt} {ds:List D} (h:f δ = .ok (.lst ds)):oC (BJ Bu) (aq f aN) δ = .ok (.lst ds):=by
  unfold oC
  rw [aF h rfl]
  rfl
theorem law_step {ns:List Int} {c:Int} {many acts:Nat} {rows:List (List Dr)} {nm:List (List Nat)} {d:List (Key × D)} {ts0:List Tr} {ρ:Nat→Option Nat} (P:Pl aR many true nm rows) (hn:nm.length = acts) (R:Rx rows many acts d ts0 ρ) (ts:List Tr) (hl:ts.length ≤ 500) (one:Int) (x8 x9 x10:Option Sl) :
    ∃ ts' y8 y9 y10,Hn (stL ns c acts rows nm d ts (some (.sh (.int one))) x8 x9 x10) = .ok (.nx (stL ns c acts rows nm d ts' (some (.sh (.int one))) y8 y9 y10))∧ts'.length ≤ ts.length + 1:=by
  subst hn
  obtain ⟨ts',e,hl'⟩:=acv ts (by omega) one (rooms:=many) (acts:=nm.length) P.lo P.N.lo
  have ln:o1 cG (gb 3) (stL ns c nm.length rows nm d ts (some (.sh (.int one))) x8 x9 x10) = .ok (.int (many:Nat)):=by
    rw [vf (ds:=rows.map fun r=>.lst (r.map Dr.d)) rfl,List.length_map,P.R.n]
  have s1:cM 6 (oF 4 dR (aq (gv 6) (aq (gv 7) (aq (o1 cG (gb 3)) (aq (gv 2) aN))))) (stL ns c nm.length rows nm d ts (some (.sh (.int one))) x8 x9 x10) = .ok (.nx (stL ns c nm.length rows nm d ts' (some (.sh (.int one))) x8 x9 x10)):=cF (iD (aF rfl (aF rfl (aF ln (aF rfl rfl)))) rfl e) rfl
  have s2:cM 8 (oC (BJ Bu) (aq (gv 6) aN)) (stL ns c nm.length rows nm d ts' (some (.sh (.int one))) x8 x9 x10) = .ok (.nx (stL ns c nm.length rows nm d ts' (some (.sh (.int one))) (some (.sh (trs ts'))) x9 x10)):=cF (Vi rfl) rfl
  have cm:=R6 (cap:=[none,some 6,some 3]) (fi:=jh (gv 6)) (t:=j9 (tst (oF 3 cj (aq (gv 1) (aq (gv 0) (aq (gv 2) aN)))))) (fe:=Ho) (δ:=stL ns c nm.length rows nm d ts' (some (.sh (.int one))) (some (.sh (trs ts'))) x9 x10) tD (fun o=>if (!leans ts' rows many nm.length o) = true then some (tD o) else none) ts' rfl (by omega) (fun o _=>by
    refine ⟨?_,fun y hy=>?_⟩
    · show j9 (tst (oF 3 cj (aq (gv 1) (aq (gv 0) (aq (gv 2) aN))))) [some (.sh (tD o)),some (.sh (trs ts')),some (.sh (aU rows))] = _
      have ql:oF 3 cj (aq (gv 1) (aq (gv 0) (aq (gv 2) aN))) [some (.sh (tD o)),some (.sh (trs ts')),some (.sh (aU rows))] = .ok (.bl (leans ts' rows many nm.length o)):=iD (aF rfl (aF rfl (aF rfl rfl))) rfl (F_lean P.R P.lo ts' (by omega) o)
      rw [Hr (Dt ql)]
      cases leans ts' rows many nm.length o <;> rfl
    · split at hy
      · cases hy; rfl
      · cases hy)
  have e9:bV (o2b eqD (o1 cG (nH (iC [none,some 6,some 3] (jh (gv 6)) (gN 0) (j9 (tst (oF 3 cj (aq (gv 1) (aq (gv 0) (aq (gv 2) aN)))))) Ho))) (kc (.int 0))) (stL ns c nm.length rows nm d ts' (some (.sh (.int one))) (some (.sh (trs ts'))) x9 x10) = .ok (.bl (ts'.all (leans ts' rows many nm.length))):=by
    rw [Qt (wG (vf (qp cm)) rfl),len_eq0,Uc]
    congr 2
    rw [List.all_eq_not_any_not]
  have s3:cM 9 (bV (o2b eqD (o1 cG (nH (iC [none,some 6,some 3] (jh (gv 6)) (gN 0) (j9 (tst (oF 3 cj (aq (gv 1) (aq (gv 0) (aq (gv 2) aN)))))) Ho))) (kc (.int 0)))) (stL ns c nm.length rows nm d ts' (some (.sh (.int one))) (some (.sh (trs ts'))) x9 x10) = .ok (.nx (stL ns c nm.length rows nm d ts' (some (.sh (.int one))) (some (.sh (trs ts'))) (some (.sh (.bl (ts'.all (leans ts' rows many nm.length))))) x10)):=cF e9 rfl
  have s4:cM 10 (oF 2 bQ (aq (gv 4) (aq (gv 8) aN))) (stL ns c nm.length rows nm d ts' (some (.sh (.int one))) (some (.sh (trs ts'))) (some (.sh (.bl (ts'.all (leans ts' rows many nm.length))))) x10) = .ok (.nx (stL ns c nm.length rows nm d ts' (some (.sh (.int one))) (some (.sh (trs ts'))) (some (.sh (.bl (ts'.all (leans ts' rows many nm.length))))) (some (.sh (.bl (ts'.all (leans ts' rows many nm.length))))))):=cF (iD (aF rfl (aF rfl rfl)) rfl (aag P ts' (by omega))) rfl
  have t1:orT (j9 (tst (zM fC (gb 10)))) (orT (o2b neD (gb 10) (gb 9)) (o2b neD (gb 8) (gb 6))) (stL ns c nm.length rows nm d ts' (some (.sh (.int one))) (some (.sh (trs ts'))) (some (.sh (.bl (ts'.all (leans ts' rows many nm.length))))) (some (.sh (.bl (ts'.all (leans ts' rows many nm.length)))))) = .ok false :=
    rN (x:=false) (y:=false) (Hr (x:=true) (Dt (by walk_at "ev: stL fC su"))) fun _=>rN (x:=false) (y:=false) (dF (x:=.bl (ts'.all (leans ts' rows many nm.length))) (y:=.bl (ts'.all (leans ts' rows many nm.length))) rfl rfl (J8 rfl)) fun _=>dF (x:=trs ts') (y:=trs ts') rfl rfl (J8 (acb ts'))
  have t2:pN (tst (gb 10)) (o2b gtD (o1 cG (nH (iC [none,some 5] (jh (gv 6)) (gN 0) (xV 1 (o2 ixD (gvo 0) (kc (.int 0)))) Ve))) (kc (.int 0))) (stL ns c nm.length rows nm d ts' (some (.sh (.int one))) (some (.sh (trs ts'))) (some (.sh (.bl (ts'.all (leans ts' rows many nm.length))))) (some (.sh (.bl (ts'.all (leans ts' rows many nm.length)))))) = .ok false:=by
    cases h:ts'.all (leans ts' rows many nm.length) with
    | false=>exact gK (x:=false) (y:=false) (Dt rfl) fun z=>(by cases z)
    | true =>
      have hk:∀ t ∈ ts',Bp d (.inl t.1) = true:=fun t ht=>(let_by P.R R h (t.2.1 + 1).toNat t ht (by omega)).1
      have cm2:=R6 (cap:=[none,some 5]) (fi:=jh (gv 6)) (t:=xV 1 (o2 ixD (gvo 0) (kc (.int 0)))) (fe:=Ve) (δ:=stL ns c nm.length rows nm d ts' (some (.sh (.int one))) (some (.sh (trs ts'))) (some (.sh (.bl true))) (some (.sh (.bl true)))) tD (fun o=>if (!Bp d (.inl o.1)) = true then some (tD o) else none) ts' rfl (by omega) (fun o _=>by
        refine ⟨?_,fun y hy=>?_⟩
        · show xV 1 (o2 ixD (gvo 0) (kc (.int 0))) [some (.sh (tD o)),some (.sh (.dK d))] = _
          unfold xV
          rw [Lk (a:=.int o.1) rfl]
          show Out.ok (!Bp d (.inl o.1)) = _
          cases Bp d (.inl o.1) <;> rfl
        · split at hy
          · cases hy; rfl
          · cases hy)
      refine gK (x:=true) (y:=false) (Dt rfl) fun _=>?_
      rw [gt_ok (vf (qp cm2)) (j:=0) rfl,len_gt,Uc,Bool.not_not]
      congr 1
      rw [List.any_eq_false]
      intro t ht
      rw [hk t ht]
      decide
  refine ⟨ts',some (.sh (trs ts')),some (.sh (.bl (ts'.all (leans ts' rows many nm.length)))),some (.sh (.bl (ts'.all (leans ts' rows many nm.length)))),?_,hl'⟩
  unfold Hn
  rw [pK s1,pK s2,pK s3,pK s4,pK (δ':=stL ns c nm.length rows nm d ts' (some (.sh (.int one))) (some (.sh (trs ts'))) (some (.sh (.bl (ts'.all (leans ts' rows many nm.length))))) (some (.sh (.bl (ts'.all (leans ts' rows many nm.length)))))) (by rw [zN t1]; rfl),zN t2]
  rfl
theorem aaf (ns:List Int) (hl:ns.length ≤ 63):F_law [.rol (ns.map .int)] = .ok (.bl true):=by
  obtain ⟨cells,ec,hc⟩:=cut_mm D.int ns 1 9
  obtain ⟨ones,eo,ho⟩:=cut_mm D.int ns 9 30
  have e1:=F_cell ns 0
  generalize ns.getD 0 0 = c at e1
  obtain ⟨acts,e2,ha1,ha8⟩:=F_many c
  obtain ⟨many,rows,e3,R,hm1,hm8⟩:=F_rows1 cells (by omega) ha8 true
  obtain ⟨nm,e4,N,hn⟩:=F_names c acts ha1 ha8
  have R':Rows many nm.length true rows:=by rw [hn]; exact R
  have P:Pl aR many true nm rows:=⟨rfl,N,R',hm1,by omega⟩
  have e5:=F_init true many nm rows N R' hm1 (by omega)
  obtain ⟨d,ts,ρ,e6,X⟩:=F_ranks R ha8 hm8
  show ((g_law [some (.sh (.rol (ns.map .int))),none,none,none,none,none,none,none,none,none,none]).bind kW).bA = _
  unfold g_law
  refine aG (δ':=[some (.sh (.rol (ns.map .int))),some (.sh (.int c)),none,none,none,none,none,none,none,none,none]) (cF (iD (aF rfl (aF rfl rfl)) rfl e1) rfl) ?_
  refine aG (δ':=[some (.sh (.rol (ns.map .int))),some (.sh (.int c)),some (.sh (.int acts)),none,none,none,none,none,none,none,none]) (cF (iD (aF rfl rfl) rfl e2) rfl) ?_
  have sl:oSl (gv 0) (soI (kc (.int 1))) (soI (kc (.int 9))) [some (.sh (.rol (ns.map .int))),some (.sh (.int c)),some (.sh (.int acts)),none,none,none,none,none,none,none,none] = .ok (.lst (cells.map .int)):=by
    show Out.opt (some (D.lst (Al (ns.map .int) (some ((1:Nat):Int)) (some ((9:Nat):Int))))) = _
    rw [ec]
    rfl
  refine aG (δ':=[some (.sh (.rol (ns.map .int))),some (.sh (.int c)),some (.sh (.int acts)),some (.sh (aU rows)),none,none,none,none,none,none,none]) (cF (iD (aF sl (aF rfl (aF rfl rfl))) rfl e3) rfl) ?_
  have hrl:rows.length < 1000000:=by rw [R.n]; omega
  have cp:=pR (cap:=[none]) (fi:=jh (gv 3)) (fe:=acd) (δ:=[some (.sh (.rol (ns.map .int))),some (.sh (.int c)),some (.sh (.int acts)),some (.sh (aU rows)),none,none,none,none,none,none,none]) (fun r:List Dr=>D.lst (r.map Dr.d)) (fun r:List Dr=>D.lst (r.map Dr.d)) rows rfl hrl (fun r _=>by
    show oC (BJ Bu) (aq (gv 0) aN) [some (.sh (.lst (r.map Dr.d)))] = _
    exact Vi rfl)
  refine aG (δ':=[some (.sh (.rol (ns.map .int))),some (.sh (.int c)),some (.sh (.int acts)),some (.sh (aU rows)),some (.sh (plan aR nm rows)),none,none,none,none,none,none]) (cF (mk_ok (ds:=[.lst (cI nm),aU rows]) (aF (iD (aF rfl (aF rfl rfl)) rfl e4) (aF (qp cp) rfl)) rfl e5) rfl) ?_
  refine aG (δ':=stL ns c acts rows nm d ts none none none none) (by
    unfold GQ
    rw [iD (n:=1) (fr:=aq (gv 3) aN) (δ:=[some (.sh (.rol (ns.map .int))),some (.sh (.int c)),some (.sh (.int acts)),some (.sh (aU rows)),some (.sh (plan aR nm rows)),none,none,none,none,none,none]) (ds:=[aU rows]) (aF rfl rfl) rfl e6]
    rfl) ?_
  have t1:orT (o2b Ka (oF 2 bQ (aq (gv 4) (aq (iB aN) aN))) (kc (.bl true))) (o2b Ka (oF 2 bQ (aq (gv 4) (aq (oC (BJ Bu) (aq (gv 6) aN)) aN))) (kc (.bl true))) (stL ns c acts rows nm d ts none none none none) = .ok false:=by
    have q1:=aag P [] (by decide)
    have q2:=aag P ts (Nat.le_trans X.lt (by decide))
    rw [hn,List.all_eq_true.mpr X.al] at q2
    refine rN (x:=false) (y:=false) (dF (x:=.bl true) (y:=.bl true) (iD (ds:=[plan aR nm rows,trs []]) (aF rfl (aF rfl rfl)) rfl q1) rfl rfl) fun _=>dF (x:=.bl true) (y:=.bl true) (iD (ds:=[plan aR nm rows,trs ts]) (aF rfl (aF (Vi rfl) rfl)) rfl q2) rfl rfl
  refine bY t1 ?_
  have hh:=ph (body:=Hn) (tg:=gN 7) D.int (fun done δ=>∃ ts' x7 x8 x9 x10,δ = stL ns c acts rows nm d ts' x7 x8 x9 x10∧ts'.length ≤ 100 + done.length) ones (stL ns c acts rows nm d ts none none none none) (by
    rintro one done rest δ e ⟨ts',x7,x8,x9,x10,rfl,hl'⟩
    have hd:done.length ≤ 21:=by
      have:=congrArg List.length e
      simp at this
      omega
    obtain ⟨ts2,y8,y9,y10,q,hl2⟩:=law_step (ns:=ns) (c:=c) P hn X ts' (by omega) one x8 x9 x10
    refine ⟨stL ns c acts rows nm d ts' (some (.sh (.int one))) x8 x9 x10,rfl,?_⟩
    rw [q]
    exact ⟨ts2,_,_,_,_,rfl,by rw [List.length_append]; simp only [List.length_cons,List.length_nil]; omega⟩) ⟨ts,none,none,none,none,rfl,by have:=X.lt; simp; omega⟩
  obtain ⟨δ',e,ts',x7,x8,x9,x10,rfl,_⟩:=hh
  have so:jh (oSl (gv 0) (soI (kc (.int 9))) (soI (kc (.int 30)))) (stL ns c acts rows nm d ts none none none none) = .ok (ones.map D.int):=by
    show (Out.opt (some (D.lst (Al (ns.map .int) (some ((9:Nat):Int)) (some ((30:Nat):Int)))))).bind _ = _
    rw [eo]
    rfl
  exact aG (δ':=stL ns c acts rows nm d ts' x7 x8 x9 x10) (by unfold mD; rw [so]; exact e) rfl
end K4
namespace K4
open PySem L2 MX DL
def spLaw (K:PySem.W.Frag):Sp:=fun vs H Q _=>∃ (a:Addr) (ns:List Int),vs = [.ref a]∧SqL K H a (ns.map V.int)∧ns.length ≤ 63∧∀ H',Q (.bl true) H'
theorem ZP {K:PySem.W.Frag} {Γ:Nat→Option Addr} {G:Hp}:∀ ns:List Int,aC K Γ G (ns.map V.int) (ns.map D.int)
  | []=>.nil
  | n :: r=>.cons (.int n) (ZP r)
theorem law_sp {P:Program} {w:World} {K:PySem.W.Frag} {mg:Str→Option Value} {base:Heap} {t:Ad} {f:Addr} {fd:FuncData} (F:bC P w K mg base CX0 9 f fd ["_law_script"] (spD K (Ga t) 1 F_law)):bC P w K mg base CX0 9 f fd ["_law_script"] (spLaw K):=F.imp fun vs H Q E ⟨a,ns,e,hS,hl,k⟩=>by
  subst e
  refine ⟨rfl,H,[.rol (ns.map .int)],bx.refl H,.cons (.rol hS (ZP ns)) .nil,?_⟩
  rw [aaf ns hl]
  intro v G' H' st r
  cases r
  exact k H'
set_option maxHeartbeats 8000000 in
theorem all_mk {l:PySem.W.OpenLaw} {w:World} {K:PySem.W.Frag} {h:Heap} {mg:Str→Option Value} {fa:Addr} (X:K.In h) (G:h.Ns mainGlobals mg) (hfa:mg "law" = some (.ref fa))
    {jH:Addr} {cd_Door:ClassData}
    {dJ:Addr} {cd_Must:ClassData}
    {ji:Addr} {cd_May:ClassData}
    {dM:Addr} {cd_Shut:ClassData}
    {dN:Addr} {cd_Torn:ClassData}
    {cY:Addr} {cd_Draft:ClassData}
    {eZ:Addr}
    {pZ:Addr}
    {p6:Addr}
    {mZ:Addr}
    {lR:Addr}
    {oZ:Addr}
    {lU:Addr}
    {lV:Addr}
    {m7:Addr}
    {pY:Addr}
    {m9:Addr}
    {ni:Addr}
    {lE:Addr}
    {m6:Addr}
    {lF:Addr}
    {lG:Addr}
    {ue:Addr}
    {xX:Addr}
    {uf:Addr}
    {ug:Addr}
    {gq:Addr}
    {jR:Addr}
    {abT:Tok}
    {tk_MS:Tok}
    {tk_MA:Tok}
    {tk_MR:Tok}
    {m5:Addr}
    {xY:Addr}
    {xZ:Addr}
    {gM:Addr}
    {jX:Addr}
    {rZ:Addr}
    {jW:Addr}
    {nA:Addr}
    {qd:Addr}
    {qe:Addr}
    {lK:Addr}
    {jV:Addr}
    {lJ:Addr}
    {jT:Addr}
    {fu:Addr}
    {nq:Addr}
    {p7:Addr}
    {qb:Addr}
    {p8:Addr}
    {uh:Addr}
    {nu:Addr}
    {lH:Addr}
    {jU:Addr}
    {nj:Addr}
    {f_law:Addr}
    {Vw:Value} {Tj Rv:Option Addr} {W3:Array (Option Value)} {UW SM We Am R7:Value}
    {VB:Value} {Tt RB:Option Addr} {W7:Array (Option Value)} {U5 S6 Wi Ar Sg:Value}
    {VF:Value} {Tv RD:Option Addr} {W9:Array (Option Value)} {U7 S8 Wk Aw Sq:Value}
    {Oh:Value} {Nk LR:Option Addr} {PQ:Array (Option Value)} {NT M4 Pa yF Mu:Value}
    {Oi:Value} {Nm Ma:Option Addr} {PX:Array (Option Value)} {NZ M5 Pb yG Mv:Value}
    {Vz:Value} {Tq Rz:Option Addr} {W6:Array (Option Value)} {U4 SX Wh Aq Sd:Value}
    {Zq:Value} {YJ X6:Option Addr} {Z1:Array (Option Value)} {Zc YB ZF Ei Yt:Value}
    {VD:Value} {Tu RC:Option Addr} {W8:Array (Option Value)} {U6 S7 Wj Av Sh:Value}
    {VG:Value} {Tw RG:Option Addr} {Xa:Array (Option Value)} {U8 S9 Wl Ax Ss:Value}
    {Om:Value} {Nr Mh:Option Addr} {Qc:Array (Option Value)} {N7 M8 Pj yJ Mz:Value}
    {Vy:Value} {Tp Ry:Option Addr} {W5:Array (Option Value)} {U3 SQ Wg Ao R9:Value}
    {Oo:Value} {Nt Mi:Option Addr} {Qd:Array (Option Value)} {N8 M9 Pk yK MF:Value}
    {Oq:Value} {Nu Mj:Option Addr} {Qe:Array (Option Value)} {Oa Nb Pn yL MJ:Value}
    {Kf:Value} {Jv Ik:Option Addr} {Lb:Array (Option Value)} {JV Jl KC wu Jb:Value}
    {Ol:Value} {Nq Mg:Option Addr} {Qa:Array (Option Value)} {N6 M7 Ph yI My:Value}
    {Kg:Value} {Jw Il:Option Addr} {Ld:Array (Option Value)} {JW Jm KD ww Jc:Value}
    {Kh:Value} {Jx Im:Option Addr} {Le:Array (Option Value)} {JX Jo KH wy Jd:Value}
    {Zr:Value} {YK X7:Option Addr} {Z2:Array (Option Value)} {Zd YC ZG Ej Yu:Value}
    {abm:Value} {aaR aat:Option Addr} {abO:Array (Option Value)} {abe aaL aby Jh aaG:Value}
    {Zt:Value} {YL X8:Option Addr} {Z3:Array (Option Value)} {Ze YD ZJ Ek Yv:Value}
    {Zu:Value} {YM Yb:Option Addr} {Z4:Array (Option Value)} {Zf YF ZK El Yw:Value}
    {Vx:Value} {Tn Rw:Option Addr} {W4:Array (Option Value)} {U0 SN Wf An R8:Value}
    {abn:Value} {aaS aau:Option Addr} {abP:Array (Option Value)} {abf aaM abz Ji aaH:Value}
    {abo:Value} {aaT aav:Option Addr} {abQ:Array (Option Value)} {abg aaN abA Jj aaI:Value}
    {Bx:Value} {Bf Aa:Option Addr} {Ci:Array (Option Value)} {Br Bd BR pU Ak:Value}
    {Gu:Value} {Gf Fv:Option Addr} {Hb:Array (Option Value)} {Gm FW GK u0 FJ:Value}
    {abp:Value} {aaU aaw:Option Addr} {abR:Array (Option Value)} {abh aaO abB Jk aaJ:Value}
    {Gs:Value} {Ge Ft:Option Addr} {G9:Array (Option Value)} {Gk FT GJ uZ Fz:Value}
    {Ox:Value} {NB Mr:Option Addr} {Qj:Array (Option Value)} {Og Nj Py yQ M3:Value}
    {VM:Value} {TV RM:Option Addr} {Xe:Array (Option Value)} {Vc Tf Wq Bb Sx:Value}
    {VN:Value} {TX RN:Option Addr} {Xf:Array (Option Value)} {Vd Tg Wr Bc Sy:Value}
    {Oj:Value} {Np Mf:Option Addr} {P0:Array (Option Value)} {N5 M6 Pg yH Mw:Value}
    {Ko:Value} {JB Ir:Option Addr} {Lh:Array (Option Value)} {J1 Jr KQ wB Jg:Value}
    {Gr:Value} {Gd Fq:Option Addr} {G8:Array (Option Value)} {Gj FQ GF uY Fy:Value}
    {Km:Value} {Jz Ip:Option Addr} {Lg:Array (Option Value)} {J0 Jq KN wA Jf:Value}
    {Gp:Value} {FZ Fo:Option Addr} {GZ:Array (Option Value)} {Gh FN GC uW Fw:Value}
    {Ou:Value} {Nx Mm:Option Addr} {Qg:Array (Option Value)} {Oc Ng Pr yN MN:Value}
    {Ov:Value} {Ny Mp:Option Addr} {Qh:Array (Option Value)} {Od Nh Pu yO MP:Value}
    {VH:Value} {Tz RJ:Option Addr} {Xb:Array (Option Value)} {U9 Tc Wm Ay Su:Value}
    {VL:Value} {TQ RL:Option Addr} {Xd:Array (Option Value)} {Vb Te Wo Ba Sw:Value}
    {VJ:Value} {TJ RK:Option Addr} {Xc:Array (Option Value)} {Va Td Wn Az Sv:Value}
    {Zv:Value} {YQ Yc:Option Addr} {Z5:Array (Option Value)} {Zg YG ZL Em Yx:Value}
    {Ow:Value} {Nz Mq:Option Addr} {Qi:Array (Option Value)} {Oe Ni Px yP MT:Value}
    {Kl:Value} {Jy Io:Option Addr} {Lf:Array (Option Value)} {JZ Jp KJ wz Je:Value}
    {Gq:Value} {Gb Fp:Option Addr} {G7:Array (Option Value)} {Gi FP GD uX Fx:Value}
    {Ot:Value} {Nv Ml:Option Addr} {Qf:Array (Option Value)} {Ob Nf Pq yM MK:Value}
    {of_law:Value} {df_law an_law:Option Addr} {sf_law:Array (Option Value)} {kV_law dc_law pm_law aaK ct_law:Value}
    (aap:PySem.W.nsIn K mainGlobals "Door" = some (some (.ref jH)))
    (Wa:PySem.W.plainGet K jH Str.empty = true)
    (Uq:PySem.W.hasDictIn K jH = true)
    (Ws:PySem.W.plainOver K jH = true)
    (WD:PySem.W.findIn K (.ref jH) "__setattr__" = some (some (.builtin "object.__setattr__")))
    (Ul:PySem.W.findIn K (.ref jH) "__class__" = some (some (.builtin "object.__class__")))
    (Uu:PySem.W.mroIn K jH (.type "object") = some true)
    (Xm:PySem.W.typeIn K (.ref jH) = some (.type "type"))
    (Iz:PySem.W.clsIn K jH = some cd_Door)
    (aaq:PySem.W.nsIn K mainGlobals "Must" = some (some (.ref dJ)))
    (Wb:PySem.W.plainGet K dJ Str.empty = true)
    (Ur:PySem.W.hasDictIn K dJ = true)
    (Wt:PySem.W.plainOver K dJ = true)
    (WF:PySem.W.findIn K (.ref dJ) "__setattr__" = some (some (.builtin "object.__setattr__")))
    (Um:PySem.W.findIn K (.ref dJ) "__class__" = some (some (.builtin "object.__class__")))
    (Uv:PySem.W.mroIn K dJ (.type "object") = some true)
    (Xn:PySem.W.typeIn K (.ref dJ) = some (.type "type"))
    (IK:PySem.W.clsIn K dJ = some cd_Must)
    (a_May:PySem.W.nsIn K mainGlobals "May" = some (some (.ref ji)))
    (abx:PySem.W.plainGet K ji Str.empty = true)
    (aa8:PySem.W.hasDictIn K ji = true)
    (abC:PySem.W.plainOver K ji = true)
    (abI:PySem.W.findIn K (.ref ji) "__setattr__" = some (some (.builtin "object.__setattr__")))
    (aa7:PySem.W.findIn K (.ref ji) "__class__" = some (some (.builtin "object.__class__")))
    (aa9:PySem.W.mroIn K ji (.type "object") = some true)
    (abX:PySem.W.typeIn K (.ref ji) = some (.type "type"))
    (R5:PySem.W.clsIn K ji = some cd_May)
    (aar:PySem.W.nsIn K mainGlobals "Shut" = some (some (.ref dM)))
    (Wc:PySem.W.plainGet K dM Str.empty = true)
    (Us:PySem.W.hasDictIn K dM = true)
    (Wu:PySem.W.plainOver K dM = true)
    (WK:PySem.W.findIn K (.ref dM) "__setattr__" = some (some (.builtin "object.__setattr__")))
    (Uo:PySem.W.findIn K (.ref dM) "__class__" = some (some (.builtin "object.__class__")))
    (Uw:PySem.W.mroIn K dM (.type "object") = some true)
    (Xo:PySem.W.typeIn K (.ref dM) = some (.type "type"))
    (IV:PySem.W.clsIn K dM = some cd_Shut)
    (aas:PySem.W.nsIn K mainGlobals "Torn" = some (some (.ref dN)))
    (Wd:PySem.W.plainGet K dN Str.empty = true)
    (Ut:PySem.W.hasDictIn K dN = true)
    (Wv:PySem.W.plainOver K dN = true)
    (WL:PySem.W.findIn K (.ref dN) "__setattr__" = some (some (.builtin "object.__setattr__")))
    (Up:PySem.W.findIn K (.ref dN) "__class__" = some (some (.builtin "object.__class__")))
    (Ux:PySem.W.mroIn K dN (.type "object") = some true)
    (Xp:PySem.W.typeIn K (.ref dN) = some (.type "type"))
    (IW:PySem.W.clsIn K dN = some cd_Torn)
    (Ru:PySem.W.nsIn K mainGlobals "Draft" = some (some (.ref cY)))
    (Ky:PySem.W.plainGet K cY Str.empty = true)
    (JN:PySem.W.hasDictIn K cY = true)
    (KR:PySem.W.plainOver K cY = true)
    (K6:PySem.W.findIn K (.ref cY) "__setattr__" = some (some (.builtin "object.__setattr__")))
    (JL:PySem.W.findIn K (.ref cY) "__class__" = some (some (.builtin "object.__class__")))
    (JP:PySem.W.mroIn K cY (.type "object") = some true)
    (Lq:PySem.W.typeIn K (.ref cY) = some (.type "type"))
    (CQ:PySem.W.clsIn K cY = some cd_Draft)
    (hn:PySem.W.specialIn K (.builtin "object.__class__") "__get__" = some (some (.builtin "getset_descriptor.__get__")))
    (htk:PySem.W.takesIn K (.builtin "object.__class__") = some true)
    (cR:PySem.W.findIn K (.ref cY) "actions" = some none)
    (cW:PySem.W.findIn K (.ref cY) "rooms" = some none)
    (lq:PySem.W.findIn K (.ref ji) "to" = some none)
    (je:PySem.W.findIn K (.ref dJ) "to" = some none)
    (jf:PySem.W.findIn K (.ref dM) "to" = some none)
    (jg:PySem.W.findIn K (.ref dN) "to" = some none)
    (z_all:PySem.W.nsIn K mainGlobals "all" = some none)
    (abY:PySem.W.nsIn K mainGlobals "bool" = some none)
    (xU:PySem.W.nsIn K mainGlobals "enumerate" = some none)
    (z_int:PySem.W.nsIn K mainGlobals "int" = some none)
    (uV:PySem.W.nsIn K mainGlobals "isinstance" = some none)
    (z_len:PySem.W.nsIn K mainGlobals "len" = some none)
    (abZ:PySem.W.nsIn K mainGlobals "list" = some none)
    (z_min:PySem.W.nsIn K mainGlobals "min" = some none)
    (Xq:PySem.W.nsIn K mainGlobals "range" = some none)
    (z_set:PySem.W.nsIn K mainGlobals "set" = some none)
    (z_str:PySem.W.nsIn K mainGlobals "str" = some none)
    (Xr:PySem.W.nsIn K mainGlobals "tuple" = some none)
    (Vl:PySem.W.makesIn K dJ = true)
    (Uy:PySem.W.findIn K (.ref dJ) "__init__" = some (some (.ref eZ)))
    (UL:PySem.W.keepIn K (.ref dJ) = true)
    (abk:PySem.W.makesIn K ji = true)
    (aba:PySem.W.findIn K (.ref ji) "__init__" = some (some (.ref eZ)))
    (abd:PySem.W.keepIn K (.ref ji) = true)
    (Vm:PySem.W.makesIn K dM = true)
    (Uz:PySem.W.findIn K (.ref dM) "__init__" = some (some (.ref pZ)))
    (UT:PySem.W.keepIn K (.ref dM) = true)
    (Vn:PySem.W.makesIn K dN = true)
    (UG:PySem.W.findIn K (.ref dN) "__init__" = some (some (.ref p6)))
    (UV:PySem.W.keepIn K (.ref dN) = true)
    (J7:PySem.W.makesIn K cY = true)
    (JQ:PySem.W.findIn K (.ref cY) "__init__" = some (some (.ref mZ)))
    (JT:PySem.W.keepIn K (.ref cY) = true)
    (nD:PySem.W.isFn K (.ref eZ) = true)
    (um:PySem.W.isFn K (.ref pZ) = true)
    (uq:PySem.W.isFn K (.ref p6) = true)
    (qW:PySem.W.isFn K (.ref mZ) = true)
    (sW:PySem.W.findIn K (.ref dJ) "word" = some (some (.ref lR)))
    (vQ:PySem.W.findIn K (.ref ji) "word" = some (some (.ref oZ)))
    (sX:PySem.W.findIn K (.ref dM) "word" = some (some (.ref lU)))
    (sY:PySem.W.findIn K (.ref dN) "word" = some (some (.ref lV)))
    (ul:PySem.W.isFn K (.ref lR) = true)
    (wI:PySem.W.isFn K (.ref oZ) = true)
    (uo:PySem.W.isFn K (.ref lU) = true)
    (ur:PySem.W.isFn K (.ref lV) = true)
    (yC:PySem.W.findIn K (.ref dJ) "needs" = some (some (.ref m7)))
    (Ae:PySem.W.findIn K (.ref ji) "needs" = some (some (.ref pY)))
    (yD:PySem.W.findIn K (.ref dM) "needs" = some (some (.ref m9)))
    (yE:PySem.W.findIn K (.ref dN) "needs" = some (some (.ref ni)))
    (yV:PySem.W.isFn K (.ref m7) = true)
    (Bk:PySem.W.isFn K (.ref pY) = true)
    (yW:PySem.W.isFn K (.ref m9) = true)
    (yX:PySem.W.isFn K (.ref ni) = true)
    (vR:PySem.W.findIn K (.ref dJ) "allows" = some (some (.ref lE)))
    (yz:PySem.W.findIn K (.ref ji) "allows" = some (some (.ref m6)))
    (vU:PySem.W.findIn K (.ref dM) "allows" = some (some (.ref lF)))
    (vV:PySem.W.findIn K (.ref dN) "allows" = some (some (.ref lG)))
    (wJ:PySem.W.isFn K (.ref lE) = true)
    (yU:PySem.W.isFn K (.ref m6) = true)
    (wK:PySem.W.isFn K (.ref lF) = true)
    (wL:PySem.W.isFn K (.ref lG) = true)
    (Ed:PySem.W.findIn K (.ref dJ) "led" = some (some (.ref ue)))
    (Iu:PySem.W.findIn K (.ref ji) "led" = some (some (.ref xX)))
    (Ef:PySem.W.findIn K (.ref dM) "led" = some (some (.ref uf)))
    (Eg:PySem.W.findIn K (.ref dN) "led" = some (some (.ref ug)))
    (Eo:PySem.W.isFn K (.ref ue) = true)
    (JF:PySem.W.isFn K (.ref xX) = true)
    (Ep:PySem.W.isFn K (.ref uf) = true)
    (Er:PySem.W.isFn K (.ref ug) = true)
    (Af:PySem.W.findIn K (.ref dJ) "told" = some (some (.ref gq)))
    (Ec:PySem.W.findIn K (.ref ji) "told" = some (some (.ref gq)))
    (Ag:PySem.W.findIn K (.ref dM) "told" = some (some (.ref gq)))
    (Ah:PySem.W.findIn K (.ref dN) "told" = some (some (.ref gq)))
    (Bj:PySem.W.isFn K (.ref gq) = true)
    (qD:PySem.W.findIn K (.ref cY) "many" = some (some (.ref jR)))
    (qY:PySem.W.isFn K (.ref jR) = true)
    (inD:PySem.W.findIn K (.ref jH) "__init__" = some (some (.ref eZ)))
    (ca1:PySem.W.specialIn K (.ref jH) "__getattribute__" = some (some (.builtin "type.__getattribute__")))
    (ca2:PySem.W.readsIn K jH (.type "type") = true)
    (ca3:PySem.W.findCls K (.ref jH) (.type "type") "__init__" = some (.val (.ref eZ)))
    (rW:PySem.W.nsIn K mainGlobals "LETTERS" = some (some (.str "abcdefghijklmnopqrstuvwxyz" abT)))
    (jO:PySem.W.nsIn K mainGlobals "MOST_SIGNS" = some (some (.int 8 tk_MS)))
    (gk:PySem.W.nsIn K mainGlobals "MOST_ACTIONS" = some (some (.int 8 tk_MA)))
    (jN:PySem.W.nsIn K mainGlobals "MOST_ROOMS" = some (some (.int 2000 tk_MR)))
    (qC:PySem.W.findIn K (.ref cY) "lets_torn" = some (some (.ref m5)))
    (qX:PySem.W.isFn K (.ref m5) = true)
    (sy:PySem.W.nsIn K mainGlobals "door_of" = some (some (.ref xY)))
    (sE:PySem.W.nsIn K mainGlobals "is_name" = some (some (.ref xZ)))
    (eO:PySem.W.nsIn K mainGlobals "is_action_list" = some (some (.ref gM)))
    (gG:PySem.W.nsIn K mainGlobals "need_actions" = some (some (.ref jX)))
    (lg:PySem.W.nsIn K mainGlobals "is_room" = some (some (.ref rZ)))
    (gF:PySem.W.nsIn K mainGlobals "is_told_door" = some (some (.ref jW)))
    (j7:PySem.W.nsIn K mainGlobals "need_rooms" = some (some (.ref nA)))
    (my:PySem.W.nsIn K mainGlobals "made_door" = some (some (.ref qd)))
    (mz:PySem.W.nsIn K mainGlobals "made_room" = some (some (.ref qe)))
    (iQ:PySem.W.nsIn K mainGlobals "rank_behind" = some (some (.ref lK)))
    (gD:PySem.W.nsIn K mainGlobals "is_borne_out" = some (some (.ref jV)))
    (dD:PySem.W.nsIn K mainGlobals "is_torn_row" = some (some (.ref lJ)))
    (gB:PySem.W.nsIn K mainGlobals "_law_cell_at" = some (some (.ref jT)))
    (bD:PySem.W.nsIn K mainGlobals "_law_mixed" = some (some (.ref fu)))
    (j5:PySem.W.nsIn K mainGlobals "_law_names" = some (some (.ref nq)))
    (lZ:PySem.W.nsIn K mainGlobals "_law_door" = some (some (.ref p7)))
    (mq:PySem.W.nsIn K mainGlobals "_law_rows" = some (some (.ref qb)))
    (mj:PySem.W.nsIn K mainGlobals "_law_many" = some (some (.ref p8)))
    (kZ:PySem.W.nsIn K mainGlobals "_law_why" = some (some (.ref uh)))
    (j6:PySem.W.nsIn K mainGlobals "_law_ranks" = some (some (.ref nu)))
    (fM:PySem.W.nsIn K mainGlobals "_law_number" = some (some (.ref lH)))
    (gC:PySem.W.nsIn K mainGlobals "_law_changed" = some (some (.ref jU)))
    (j4:PySem.W.nsIn K mainGlobals "_law_leans" = some (some (.ref nj)))
    (m_law:PySem.W.nsIn K mainGlobals "law" = some (some (.ref f_law)))
    (wZ:K.lookup eZ = some ⟨Vw,Tj,.func (PySem.W.fnOf "__init__" "Door.__init__" (aM jt) (aH jt) (ak jt) .none UW SM We Rv Am R7),W3⟩)
    (tM:PySem.W.codeIn K Am "Door.__init__" = true)
    (lY:PySem.W.keepIn K (.ref eZ) = true)
    (xj:K.lookup pZ = some ⟨VB,Tt,.func (PySem.W.fnOf "__init__" "Shut.__init__" (aM jy) (aH jy) (ak jy) .none U5 S6 Wi RB Ar Sg),W7⟩)
    (tU:PySem.W.codeIn K Ar "Shut.__init__" = true)
    (wX:PySem.W.keepIn K (.ref pZ) = true)
    (xn:K.lookup p6 = some ⟨VF,Tv,.func (PySem.W.fnOf "__init__" "Torn.__init__" (aM jA) (aH jA) (ak jA) .none U7 S8 Wk RD Aw Sq),W9⟩)
    (tW:PySem.W.codeIn K Aw "Torn.__init__" = true)
    (wY:PySem.W.keepIn K (.ref p6) = true)
    (uF:K.lookup mZ = some ⟨Oh,Nk,.func (PySem.W.fnOf "__init__" "Draft.__init__" (aM gU) (aH gU) (ak gU) .none NT M4 Pa LR yF Mu),PQ⟩)
    (qG:PySem.W.codeIn K yF "Draft.__init__" = true)
    (uz:PySem.W.keepIn K (.ref mZ) = true)
    (uG:K.lookup m5 = some ⟨Oi,Nm,.func (PySem.W.fnOf "lets_torn" "Draft.lets_torn" (aM gW) (aH gW) (ak gW) .none NZ M5 Pb Ma yG Mv),PX⟩)
    (qH:PySem.W.codeIn K yG "Draft.lets_torn" = true)
    (nF:PySem.W.keepIn K (.ref m5) = true)
    (xg:K.lookup lR = some ⟨Vz,Tq,.func (PySem.W.fnOf "word" "Must.word" (aM jx) (aH jx) (ak jx) .none U4 SX Wh Rz Aq Sd),W6⟩)
    (tR:PySem.W.codeIn K Aq "Must.word" = true)
    (qi:PySem.W.keepIn K (.ref lR) = true)
    (zG:K.lookup oZ = some ⟨Zq,YJ,.func (PySem.W.fnOf "word" "May.word" (aM lu) (aH lu) (ak lu) .none Zc YB ZF X6 Ei Yt),Z1⟩)
    (v8:PySem.W.codeIn K Ei "May.word" = true)
    (uB:PySem.W.keepIn K (.ref oZ) = true)
    (xm:K.lookup lU = some ⟨VD,Tu,.func (PySem.W.fnOf "word" "Shut.word" (aM jz) (aH jz) (ak jz) .none U6 S7 Wj RC Av Sh),W8⟩)
    (tV:PySem.W.codeIn K Av "Shut.word" = true)
    (qj:PySem.W.keepIn K (.ref lU) = true)
    (xq:K.lookup lV = some ⟨VG,Tw,.func (PySem.W.fnOf "word" "Torn.word" (aM jB) (aH jB) (ak jB) .none U8 S9 Wl RG Ax Ss),Xa⟩)
    (tX:PySem.W.codeIn K Ax "Torn.word" = true)
    (qm:PySem.W.keepIn K (.ref lV) = true)
    (uJ:K.lookup m7 = some ⟨Om,Nr,.func (PySem.W.fnOf "needs" "Must.needs" (aM g8) (aH g8) (ak g8) .none N7 M8 Pj Mh yJ Mz),Qc⟩)
    (qK:PySem.W.codeIn K yJ "Must.needs" = true)
    (uC:PySem.W.keepIn K (.ref m7) = true)
    (xf:K.lookup pY = some ⟨Vy,Tp,.func (PySem.W.fnOf "needs" "May.needs" (aM jw) (aH jw) (ak jw) .none U3 SQ Wg Ry Ao R9),W5⟩)
    (tQ:PySem.W.codeIn K Ao "May.needs" = true)
    (wW:PySem.W.keepIn K (.ref pY) = true)
    (uK:K.lookup m9 = some ⟨Oo,Nt,.func (PySem.W.fnOf "needs" "Shut.needs" (aM ig) (aH ig) (ak ig) .none N8 M9 Pk Mi yK MF),Qd⟩)
    (qL:PySem.W.codeIn K yK "Shut.needs" = true)
    (uD:PySem.W.keepIn K (.ref m9) = true)
    (uL:K.lookup ni = some ⟨Oq,Nu,.func (PySem.W.fnOf "needs" "Torn.needs" (aM ik) (aH ik) (ak ik) .none Oa Nb Pn Mj yL MJ),Qe⟩)
    (qM:PySem.W.codeIn K yL "Torn.needs" = true)
    (uE:PySem.W.keepIn K (.ref ni) = true)
    (rE:K.lookup lE = some ⟨Kf,Jv,.func (PySem.W.fnOf "allows" "Must.allows" (aM fO) (aH fO) (ak fO) .none JV Jl KC Ik wu Jb),Lb⟩)
    (oN:PySem.W.codeIn K wu "Must.allows" = true)
    (rB:PySem.W.keepIn K (.ref lE) = true)
    (uI:K.lookup m6 = some ⟨Ol,Nq,.func (PySem.W.fnOf "allows" "May.allows" (aM gZ) (aH gZ) (ak gZ) .none N6 M7 Ph Mg yI My),Qa⟩)
    (qJ:PySem.W.codeIn K yI "May.allows" = true)
    (uA:PySem.W.keepIn K (.ref m6) = true)
    (rF:K.lookup lF = some ⟨Kg,Jw,.func (PySem.W.fnOf "allows" "Shut.allows" (aM fP) (aH fP) (ak fP) .none JW Jm KD Il ww Jc),Ld⟩)
    (oO:PySem.W.codeIn K ww "Shut.allows" = true)
    (rC:PySem.W.keepIn K (.ref lF) = true)
    (rG:K.lookup lG = some ⟨Kh,Jx,.func (PySem.W.fnOf "allows" "Torn.allows" (aM fQ) (aH fQ) (ak fQ) .none JX Jo KH Im wy Jd),Le⟩)
    (oR:PySem.W.codeIn K wy "Torn.allows" = true)
    (rD:PySem.W.keepIn K (.ref lG) = true)
    (zH:K.lookup ue = some ⟨Zr,YK,.func (PySem.W.fnOf "led" "Must.led" (aM lw) (aH lw) (ak lw) .none Zd YC ZG X7 Ej Yu),Z2⟩)
    (v9:PySem.W.codeIn K Ej "Must.led" = true)
    (zB:PySem.W.keepIn K (.ref ue) = true)
    (Dg:K.lookup xX = some ⟨abm,aaR,.func (PySem.W.fnOf "led" "May.led" (aM nU) (aH nU) (ak nU) .none abe aaL aby aat Jh aaG),abO⟩)
    (zp:PySem.W.codeIn K Jh "May.led" = true)
    (De:PySem.W.keepIn K (.ref xX) = true)
    (zJ:K.lookup uf = some ⟨Zt,YL,.func (PySem.W.fnOf "led" "Shut.led" (aM lz) (aH lz) (ak lz) .none Ze YD ZJ X8 Ek Yv),Z3⟩)
    (wg:PySem.W.codeIn K Ek "Shut.led" = true)
    (zE:PySem.W.keepIn K (.ref uf) = true)
    (zK:K.lookup ug = some ⟨Zu,YM,.func (PySem.W.fnOf "led" "Torn.led" (aM lA) (aH lA) (ak lA) .none Zf YF ZK Yb El Yw),Z4⟩)
    (wj:PySem.W.codeIn K El "Torn.led" = true)
    (zF:PySem.W.keepIn K (.ref ug) = true)
    (w6:K.lookup gq = some ⟨Vx,Tn,.func (PySem.W.fnOf "told" "Door.told" (aM ju) (aH ju) (ak ju) .none U0 SN Wf Rw An R8),W4⟩)
    (tO:PySem.W.codeIn K An "Door.told" = true)
    (wV:PySem.W.keepIn K (.ref gq) = true)
    (Dh:K.lookup xY = some ⟨abn,aaS,.func (PySem.W.fnOf "door_of" "door_of" (aM nW) (aH nW) (ak nW) .none abf aaM abz aau Ji aaH),abP⟩)
    (zq:PySem.W.codeIn K Ji "door_of" = true)
    (nR:PySem.W.keepIn K (.ref xY) = true)
    (Di:K.lookup xZ = some ⟨abo,aaT,.func (PySem.W.fnOf "is_name" "is_name" (aM nY) (aH nY) (ak nY) .none abg aaN abA aav Jj aaI),abQ⟩)
    (zr:PySem.W.codeIn K Jj "is_name" = true)
    (nT:PySem.W.keepIn K (.ref xZ) = true)
    (kY:K.lookup gM = some ⟨Bx,Bf,.func (PySem.W.fnOf "is_action_list" "is_action_list" (aM cT) (aH cT) (ak cT) .none Br Bd BR Aa pU Ak),Ci⟩)
    (jP:PySem.W.codeIn K pU "is_action_list" = true)
    (cQ:PySem.W.keepIn K (.ref gM) = true)
    (pG:K.lookup jX = some ⟨Gu,Gf,.func (PySem.W.fnOf "need_actions" "need_actions" (aM eY) (aH eY) (ak eY) .none Gm FW GK Fv u0 FJ),Hb⟩)
    (mK:PySem.W.codeIn K u0 "need_actions" = true)
    (eG:PySem.W.keepIn K (.ref jX) = true)
    (Dj:K.lookup rZ = some ⟨abp,aaU,.func (PySem.W.fnOf "is_room" "is_room" (aM nZ) (aH nZ) (ak nZ) .none abh aaO abB aaw Jk aaJ),abR⟩)
    (zu:PySem.W.codeIn K Jk "is_room" = true)
    (jo:PySem.W.keepIn K (.ref rZ) = true)
    (pF:K.lookup jW = some ⟨Gs,Ge,.func (PySem.W.fnOf "is_told_door" "is_told_door" (aM eX) (aH eX) (ak eX) .none Gk FT GJ Ft uZ Fz),G9⟩)
    (mJ:PySem.W.codeIn K uZ "is_told_door" = true)
    (eF:PySem.W.keepIn K (.ref jW) = true)
    (uQ:K.lookup nA = some ⟨Ox,NB,.func (PySem.W.fnOf "need_rooms" "need_rooms" (aM iy) (aH iy) (ak iy) .none Og Nj Py Mr yQ M3),Qj⟩)
    (qR:PySem.W.codeIn K yQ "need_rooms" = true)
    (gR:PySem.W.keepIn K (.ref nA) = true)
    (xF:K.lookup qd = some ⟨VM,TV,.func (PySem.W.fnOf "made_door" "made_door" (aM jF) (aH jF) (ak jF) .none Vc Tf Wq RM Bb Sx),Xe⟩)
    (t7:PySem.W.codeIn K Bb "made_door" = true)
    (jq:PySem.W.keepIn K (.ref qd) = true)
    (xG:K.lookup qe = some ⟨VN,TX,.func (PySem.W.fnOf "made_room" "made_room" (aM jG) (aH jG) (ak jG) .none Vd Tg Wr RN Bc Sy),Xf⟩)
    (t8:PySem.W.codeIn K Bc "made_room" = true)
    (jr:PySem.W.keepIn K (.ref qe) = true)
    (uH:K.lookup jR = some ⟨Oj,Np,.func (PySem.W.fnOf "many" "Draft.many" (aM gY) (aH gY) (ak gY) .none N5 M6 Pg Mf yH Mw),P0⟩)
    (qI:PySem.W.codeIn K yH "Draft.many" = true)
    (nG:PySem.W.keepIn K (.ref jR) = true)
    (rK:K.lookup lK = some ⟨Ko,JB,.func (PySem.W.fnOf "rank_behind" "rank_behind" (aM fW) (aH fW) (ak fW) .none J1 Jr KQ Ir wB Jg),Lh⟩)
    (oW:PySem.W.codeIn K wB "rank_behind" = true)
    (fL:PySem.W.keepIn K (.ref lK) = true)
    (pD:K.lookup jV = some ⟨Gr,Gd,.func (PySem.W.fnOf "is_borne_out" "is_borne_out" (aM eV) (aH eV) (ak eV) .none Gj FQ GF Fq uY Fy),G8⟩)
    (mH:PySem.W.codeIn K uY "is_borne_out" = true)
    (eE:PySem.W.keepIn K (.ref jV) = true)
    (rJ:K.lookup lJ = some ⟨Km,Jz,.func (PySem.W.fnOf "is_torn_row" "is_torn_row" (aM fV) (aH fV) (ak fV) .none J0 Jq KN Ip wA Jf),Lg⟩)
    (oV:PySem.W.codeIn K wA "is_torn_row" = true)
    (cO:PySem.W.keepIn K (.ref lJ) = true)
    (pB:K.lookup jT = some ⟨Gp,FZ,.func (PySem.W.fnOf "_law_cell_at" "_law_cell_at" (aM eQ) (aH eQ) (ak eQ) .none Gh FN GC Fo uW Fw),GZ⟩)
    (mF:PySem.W.codeIn K uW "_law_cell_at" = true)
    (d8:PySem.W.keepIn K (.ref jT) = true)
    (uN:K.lookup fu = some ⟨Ou,Nx,.func (PySem.W.fnOf "_law_mixed" "_law_mixed" (aM ir) (aH ir) (ak ir) .none Oc Ng Pr Mm yN MN),Qg⟩)
    (qO:PySem.W.codeIn K yN "_law_mixed" = true)
    (bz:PySem.W.keepIn K (.ref fu) = true)
    (uO:K.lookup nq = some ⟨Ov,Ny,.func (PySem.W.fnOf "_law_names" "_law_names" (aM iu) (aH iu) (ak iu) .none Od Nh Pu Mp yO MP),Qh⟩)
    (qP:PySem.W.codeIn K yO "_law_names" = true)
    (gP:PySem.W.keepIn K (.ref nq) = true)
    (xr:K.lookup p7 = some ⟨VH,Tz,.func (PySem.W.fnOf "_law_door" "_law_door" (aM jC) (aH jC) (ak jC) .none U9 Tc Wm RJ Ay Su),Xb⟩)
    (tY:PySem.W.codeIn K Ay "_law_door" = true)
    (jl:PySem.W.keepIn K (.ref p7) = true)
    (xx:K.lookup qb = some ⟨VL,TQ,.func (PySem.W.fnOf "_law_rows" "_law_rows" (aM jE) (aH jE) (ak jE) .none Vb Te Wo RL Ba Sw),Xd⟩)
    (t6:PySem.W.codeIn K Ba "_law_rows" = true)
    (jn:PySem.W.keepIn K (.ref qb) = true)
    (xu:K.lookup p8 = some ⟨VJ,TJ,.func (PySem.W.fnOf "_law_many" "_law_many" (aM jD) (aH jD) (ak jD) .none Va Td Wn RK Az Sv),Xc⟩)
    (tZ:PySem.W.codeIn K Az "_law_many" = true)
    (jm:PySem.W.keepIn K (.ref p8) = true)
    (zL:K.lookup uh = some ⟨Zv,YQ,.func (PySem.W.fnOf "_law_why" "_law_why" (aM lB) (aH lB) (ak lB) .none Zg YG ZL Yc Em Yx),Z5⟩)
    (wk:PySem.W.codeIn K Em "_law_why" = true)
    (jc:PySem.W.keepIn K (.ref uh) = true)
    (uP:K.lookup nu = some ⟨Ow,Nz,.func (PySem.W.fnOf "_law_ranks" "_law_ranks" (aM iw) (aH iw) (ak iw) .none Oe Ni Px Mq yP MT),Qi⟩)
    (qQ:PySem.W.codeIn K yP "_law_ranks" = true)
    (gQ:PySem.W.keepIn K (.ref nu) = true)
    (rH:K.lookup lH = some ⟨Kl,Jy,.func (PySem.W.fnOf "_law_number" "_law_number" (aM fU) (aH fU) (ak fU) .none JZ Jp KJ Io wz Je),Lf⟩)
    (oU:PySem.W.codeIn K wz "_law_number" = true)
    (dB:PySem.W.keepIn K (.ref lH) = true)
    (pC:K.lookup jU = some ⟨Gq,Gb,.func (PySem.W.fnOf "_law_changed" "_law_changed" (aM eU) (aH eU) (ak eU) .none Gi FP GD Fp uX Fx),G7⟩)
    (mG:PySem.W.codeIn K uX "_law_changed" = true)
    (d9:PySem.W.keepIn K (.ref jU) = true)
    (uM:K.lookup nj = some ⟨Ot,Nv,.func (PySem.W.fnOf "_law_leans" "_law_leans" (aM il) (aH il) (ak il) .none Ob Nf Pq Ml yM MK),Qf⟩)
    (qN:PySem.W.codeIn K yM "_law_leans" = true)
    (gO:PySem.W.keepIn K (.ref nj) = true)
    (l_law:K.lookup f_law = some ⟨of_law,df_law,.func (PySem.W.fnOf "law" "law" (aM BZ) (aH BZ) (ak BZ) .none kV_law dc_law pm_law an_law aaK ct_law),sf_law⟩)
    (aaF:PySem.W.codeIn K aaK "law" = true)
    (k_law:PySem.W.keepIn K (.ref f_law) = true)
   :∃ fd:FuncData,(∀ (s:Shared) (v:Value),BindsTo s fd ⟨[v],[]⟩ [("_law_script",v)])∧∀ base:Heap,K.In base→base.Ns mainGlobals mg→bC l.prog w K mg base CX0 9 fa fd ["_law_script"] (spLaw K):=by
  have e:=hfa.symm.trans (PySem.W.mg_of X G m_law)
  cases e
  let t:Ad:=⟨jH,dJ,ji,dM,dN,cY⟩
  have i_Door:pO K t.Door:=⟨⟨Wa,Uq,Ws,WD⟩,Ul,hn,htk,Uu,Xm,⟨_,Iz⟩⟩
  have CW:pO K t.Must:=⟨⟨Wb,Ur,Wt,WF⟩,Um,hn,htk,Uv,Xn,⟨_,IK⟩⟩
  have QL:pO K t.May:=⟨⟨abx,aa8,abC,abI⟩,aa7,hn,htk,aa9,abX,⟨_,R5⟩⟩
  have CZ:pO K t.Shut:=⟨⟨Wc,Us,Wu,WK⟩,Uo,hn,htk,Uw,Xo,⟨_,IV⟩⟩
  have Dc:pO K t.Torn:=⟨⟨Wd,Ut,Wv,WL⟩,Up,hn,htk,Ux,Xp,⟨_,IW⟩⟩
  have uy:pO K t.Draft:=⟨⟨Ky,JN,KR,K6⟩,JL,hn,htk,JP,Lq,⟨_,CQ⟩⟩
  have T:Txt K mg t:=⟨PySem.W.mg_of X G aap,i_Door,PySem.W.mg_of X G aaq,CW,PySem.W.mg_of X G a_May,QL,PySem.W.mg_of X G aar,CZ,PySem.W.mg_of X G aas,Dc,PySem.W.mg_of X G Ru,uy,cR,cW,lq,je,jf,jg,PySem.W.mg_none_of X G z_all,PySem.W.mg_none_of X G abY,PySem.W.mg_none_of X G xU,PySem.W.mg_none_of X G z_int,PySem.W.mg_none_of X G uV,PySem.W.mg_none_of X G z_len,PySem.W.mg_none_of X G abZ,PySem.W.mg_none_of X G z_min,PySem.W.mg_none_of X G Xq,PySem.W.mg_none_of X G z_set,PySem.W.mg_none_of X G z_str,PySem.W.mg_none_of X G Xr,Bq tt_bool trivial,Bq tt_int trivial,Bq tt_list trivial,Bq tt_str trivial,Bq tt_tuple trivial,⟨_,PySem.W.mg_of X G rW,⟨_,rfl⟩⟩,⟨_,PySem.W.mg_of X G gk,⟨_,rfl⟩⟩,⟨_,PySem.W.mg_of X G jN,⟨_,rfl⟩⟩,⟨_,PySem.W.mg_of X G jO,⟨_,rfl⟩⟩⟩
  have Dv:=aX (st:=jt) wZ tM lY
  have DK:=aX (st:=jy) xj tU wX
  have DP:=aX (st:=jA) xn tW wY
  have zP:=aX (st:=gU) uF qG uz
  have zQ:=aX (st:=gW) uG qH nF
  have Dz:=aX (st:=jx) xg tR qi
  have Ib:=aX (st:=lu) zG v8 uB
  have DN:=aX (st:=jz) xm tV qj
  have DQ:=aX (st:=jB) xq tX qm
  have zU:=aX (st:=g8) uJ qK uC
  have Dy:=aX (st:=jw) xf tQ wW
  have zV:=aX (st:=ig) uK qL uD
  have zW:=aX (st:=ik) uL qM uE
  have yq:=aX (st:=fO) rE oN rB
  have zT:=aX (st:=gZ) uI qJ uA
  have yr:=aX (st:=fP) rF oO rC
  have yt:=aX (st:=fQ) rG oR rD
  have Ie:=aX (st:=lw) zH v9 zB
  have Qo:=aX (st:=nU) Dg zp De
  have Ig:=aX (st:=lz) zJ wg zE
  have Ih:=aX (st:=lA) zK wj zF
  have Dw:=aX (st:=ju) w6 tO wV
  have Qp:=aX (st:=nW) Dh zq nR
  have Qq:=aX (st:=nY) Di zr nT
  have rR:=aX (st:=cT) kY jP cQ
  have vP:=aX (st:=eY) pG mK eG
  have Qs:=aX (st:=nZ) Dj zu jo
  have vO:=aX (st:=eX) pF mJ eF
  have z9:=aX (st:=iy) uQ qR gR
  have Ea:=aX (st:=jF) xF t7 jq
  have Eb:=aX (st:=jG) xG t8 jr
  have zR:=aX (st:=gY) uH qI nG
  have yx:=aX (st:=fW) rK oW fL
  have vN:=aX (st:=eV) pD mH eE
  have yw:=aX (st:=fV) rJ oV cO
  have vL:=aX (st:=eQ) pB mF d8
  have zY:=aX (st:=ir) uN qO bz
  have zZ:=aX (st:=iu) uO qP gP
  have DR:=aX (st:=jC) xr tY jl
  have DY:=aX (st:=jE) xx t6 jn
  have DX:=aX (st:=jD) xu tZ jm
  have Ii:=aX (st:=lB) zL wk jc
  have z8:=aX (st:=iw) uP qQ gQ
  have yu:=aX (st:=fU) rH oU dB
  have vM:=aX (st:=eU) pC mG d9
  have zX:=aX (st:=il) uM qN gO
  have U_law:=aX (st:=BZ) l_law aaF k_law
  refine ⟨PySem.W.fnOf "law" "law" (aM BZ) (aH BZ) (ak BZ) .none kV_law dc_law pm_law an_law aaK ct_law,fun s v=>.of_eq rfl,fun base _ _=>law_sp (t:=t) ?_⟩
  have pQ:=Dv.binds (ps:=["self","to"]) fun _ _ _ _ _ _ us hl=>match us,hl with | [_,_],_=>rfl
  have Yk:=DK.binds (ps:=["self"]) fun _ _ _ _ _ _ us hl=>match us,hl with | [_],_=>rfl
  have Yn:=DP.binds (ps:=["self"]) fun _ _ _ _ _ _ us hl=>match us,hl with | [_],_=>rfl
  have pP:=VP (P:=l.prog) (w:=w) (mg:=mg) (base:=base) Dv
  have ca:Hc K t.Door "__init__" (.ref eZ):=⟨ca1,ca2,ca3⟩
  have XM:=V1 (P:=l.prog) (w:=w) (base:=base) DK T pP ca lY pQ
  have XQ:=V3 (P:=l.prog) (w:=w) (base:=base) DP T pP ca lY pQ
  have Cw:Ini l.prog w K mg base t.Must 1 ["self","to"] (spI K (Ga t) lQ 1 vI):=⟨_,_,⟨Vl,Uy,nD,UL⟩,ok_to (t:=t) pP rfl CW.cls je,pQ⟩
  have Qn:Ini l.prog w K mg base t.May 1 ["self","to"] (spI K (Ga t) v7 1 Qm):=⟨_,_,⟨abk,aba,nD,abd⟩,ok_to (t:=t) pP rfl QL.cls lq,pQ⟩
  have Cy:Ini l.prog w K mg base t.Shut 2 ["self"] (spI K (Ga t) km 0 vJ):=⟨_,_,⟨Vm,Uz,um,UT⟩,XM,Yk⟩
  have Cz:Ini l.prog w K mg base t.Torn 2 ["self"] (spI K (Ga t) kE 0 zj):=⟨_,_,⟨Vn,UG,uq,UV⟩,XQ,Yn⟩
  have Yj:=Dz.binds (ps:=["self"]) fun _ _ _ _ _ _ us hl=>match us,hl with | [_],_=>rfl
  have XJ:=V0 (P:=l.prog) (w:=w) (base:=base) (t:=t) Dz T
  have aay:=Ib.binds (ps:=["self"]) fun _ _ _ _ _ _ us hl=>match us,hl with | [_],_=>rfl
  have aan:=Zw (P:=l.prog) (w:=w) (base:=base) (t:=t) Ib T
  have Ym:=DN.binds (ps:=["self"]) fun _ _ _ _ _ _ us hl=>match us,hl with | [_],_=>rfl
  have XN:=V2 (P:=l.prog) (w:=w) (base:=base) (t:=t) DN T
  have Yo:=DQ.binds (ps:=["self"]) fun _ _ _ _ _ _ us hl=>match us,hl with | [_],_=>rfl
  have XR:=V4 (P:=l.prog) (w:=w) (base:=base) (t:=t) DQ T
  have b_Must_needs:=zU.binds (ps:=["self"]) fun _ _ _ _ _ _ us hl=>match us,hl with | [_],_=>rfl
  have O_Must_needs:=O2 (P:=l.prog) (w:=w) (base:=base) (t:=t) zU T
  have b_May_needs:=Dy.binds (ps:=["self"]) fun _ _ _ _ _ _ us hl=>match us,hl with | [_],_=>rfl
  have O_May_needs:=VV (P:=l.prog) (w:=w) (base:=base) (t:=t) Dy T
  have b_Shut_needs:=zV.binds (ps:=["self"]) fun _ _ _ _ _ _ us hl=>match us,hl with | [_],_=>rfl
  have O_Shut_needs:=O3 (P:=l.prog) (w:=w) (base:=base) (t:=t) zV T
  have b_Torn_needs:=zW.binds (ps:=["self"]) fun _ _ _ _ _ _ us hl=>match us,hl with | [_],_=>rfl
  have O_Torn_needs:=O4 (P:=l.prog) (w:=w) (base:=base) (t:=t) zW T
  have b_Must_allows:=yq.binds (ps:=["self"]) fun _ _ _ _ _ _ us hl=>match us,hl with | [_],_=>rfl
  have O_Must_allows:=Kp (P:=l.prog) (w:=w) (base:=base) (t:=t) yq T
  have b_May_allows:=zT.binds (ps:=["self"]) fun _ _ _ _ _ _ us hl=>match us,hl with | [_],_=>rfl
  have O_May_allows:=O1 (P:=l.prog) (w:=w) (base:=base) (t:=t) zT T
  have b_Shut_allows:=yr.binds (ps:=["self"]) fun _ _ _ _ _ _ us hl=>match us,hl with | [_],_=>rfl
  have O_Shut_allows:=Kq (P:=l.prog) (w:=w) (base:=base) (t:=t) yr T
  have b_Torn_allows:=yt.binds (ps:=["self"]) fun _ _ _ _ _ _ us hl=>match us,hl with | [_],_=>rfl
  have O_Torn_allows:=Kr (P:=l.prog) (w:=w) (base:=base) (t:=t) yt T
  have b_Must_led:=Ie.binds (ps:=["self","to"]) fun _ _ _ _ _ _ us hl=>match us,hl with | [_,_],_=>rfl
  have O_Must_led:=Zx (P:=l.prog) (w:=w) (base:=base) (t:=t) Ie T Cw
  have b_May_led:=Qo.binds (ps:=["self","to"]) fun _ _ _ _ _ _ us hl=>match us,hl with | [_,_],_=>rfl
  have O_May_led:=abq (P:=l.prog) (w:=w) (base:=base) (t:=t) Qo T Qn
  have b_Shut_led:=Ig.binds (ps:=["self","to"]) fun _ _ _ _ _ _ us hl=>match us,hl with | [_,_],_=>rfl
  have O_Shut_led:=Zy (P:=l.prog) (w:=w) (base:=base) (t:=t) Ig T Cy
  have b_Torn_led:=Ih.binds (ps:=["self","to"]) fun _ _ _ _ _ _ us hl=>match us,hl with | [_,_],_=>rfl
  have O_Torn_led:=Zz (P:=l.prog) (w:=w) (base:=base) (t:=t) Ih T Cz
  have zm:MTab l.prog w K mg base (Ga t) "word" (spD K (Ga t) 1) 1 iT:=⟨⟨dJ,lR,_,_,rfl,CW.cls,⟨sW,ul,qi⟩,XJ.mono (by decide),Yj⟩,⟨ji,oZ,_,_,rfl,QL.cls,⟨vQ,wI,uB⟩,aan.mono (by decide),aay⟩,⟨dM,lU,_,_,rfl,CZ.cls,⟨sX,uo,qj⟩,XN.mono (by decide),Ym⟩,⟨dN,lV,_,_,rfl,Dc.cls,⟨sY,ur,qm⟩,XR.mono (by decide),Yo⟩,trivial⟩
  have b_Door_told:=Dw.binds (ps:=["self"]) fun _ _ _ _ _ _ us hl=>match us,hl with | [_],_=>rfl
  have O_Door_told:=VR (P:=l.prog) (w:=w) (base:=base) (t:=t) Dw T zm
  have CK:=Qp.binds (ps:=["needs","allows","to"]) fun _ _ _ _ _ _ us hl=>match us,hl with | [_,_,_],_=>rfl
  have acy:=abr (P:=l.prog) (w:=w) (base:=base) (t:=t) Qp T Cw Qn Cz Cy
  have Cp:Def l.prog w K mg base "door_of" 4 ["needs","allows","to"] (spD K (Ga t) 3 nQ):=⟨_,_,acy,CK,PySem.W.mg_of X G sy,nR⟩
  have CN:=Qq.binds (ps:=["thing"]) fun _ _ _ _ _ _ us hl=>match us,hl with | [_],_=>rfl
  have acz:=abt (P:=l.prog) (w:=w) (base:=base) (t:=t) Qq T
  have Cq:Def l.prog w K mg base "is_name" 1 ["thing"] (spD K (Ga t) 1 kJ):=⟨_,_,acz,CN,PySem.W.mg_of X G sE,nT⟩
  have kO:=rR.binds (ps:=["thing"]) fun _ _ _ _ _ _ us hl=>match us,hl with | [_],_=>rfl
  have CG:=By (P:=l.prog) (w:=w) (base:=base) (t:=t) rR T Cq
  have kI:Def l.prog w K mg base "is_action_list" 2 ["thing"] (spD K (Ga t) 1 dU):=⟨_,_,CG,kO,PySem.W.mg_of X G eO,cQ⟩
  have oK:=vP.binds (ps:=["actions"]) fun _ _ _ _ _ _ us hl=>match us,hl with | [_],_=>rfl
  have HY:=Gz (P:=l.prog) (w:=w) (base:=base) (t:=t) vP T kI
  have oA:Def l.prog w K mg base "need_actions" 3 ["actions"] (spD K (Ga t) 1 dX):=⟨_,_,HY,oK,PySem.W.mg_of X G gG,eG⟩
  have rT:=Qs.binds (ps:=["thing","many"]) fun _ _ _ _ _ _ us hl=>match us,hl with | [_,_],_=>rfl
  have acA:=abu (P:=l.prog) (w:=w) (base:=base) (t:=t) Qs T
  have nP:Def l.prog w K mg base "is_room" 1 ["thing","many"] (spD K (Ga t) 2 di):=⟨_,_,acA,rT,PySem.W.mg_of X G lg,jo⟩
  have oJ:=vO.binds (ps:=["thing","many","torn_too"]) fun _ _ _ _ _ _ us hl=>match us,hl with | [_,_,_],_=>rfl
  have HX:=Gy (P:=l.prog) (w:=w) (base:=base) (t:=t) vO T nP
  have ou:Def l.prog w K mg base "is_told_door" 2 ["thing","many","torn_too"] (spD K (Ga t) 3 dW):=⟨_,_,HX,oJ,PySem.W.mg_of X G gF,eF⟩
  have tK:=z9.binds (ps:=["rows","many_actions","torn_too"]) fun _ _ _ _ _ _ us hl=>match us,hl with | [_,_,_],_=>rfl
  have Rq:=O9 (P:=l.prog) (w:=w) (base:=base) (t:=t) z9 T ou
  have sO:Def l.prog w K mg base "need_rooms" 3 ["rows","many_actions","torn_too"] (spD K (Ga t) 3 dj):=⟨_,_,Rq,tK,PySem.W.mg_of X G j7,gR⟩
  have v4:=Ea.binds (ps:=["told"]) fun _ _ _ _ _ _ us hl=>match us,hl with | [_],_=>rfl
  have X4:=V8 (P:=l.prog) (w:=w) (base:=base) (t:=t) Ea T Cp
  have vB:Def l.prog w K mg base "made_door" 5 ["told"] (spD K (Ga t) 1 gf):=⟨_,_,X4,v4,PySem.W.mg_of X G my,jq⟩
  have v5:=Eb.binds (ps:=["row"]) fun _ _ _ _ _ _ us hl=>match us,hl with | [_],_=>rfl
  have X5:=V9 (P:=l.prog) (w:=w) (base:=base) (t:=t) Eb T vB
  have vC:Def l.prog w K mg base "made_room" 6 ["row"] (spD K (Ga t) 1 gj):=⟨_,_,X5,v5,PySem.W.mg_of X G mz,jr⟩
  have RZ:=zQ.binds (ps:=["self"]) fun _ _ _ _ _ _ us hl=>match us,hl with | [_],_=>rfl
  have Ri:=OD (P:=l.prog) (w:=w) (mg:=mg) (base:=base) zQ
  have RX:=zP.binds (ps:=["self","actions","rows"]) fun _ _ _ _ _ _ us hl=>match us,hl with | [_,_,_],_=>rfl
  have Rh:Ini l.prog w K mg base t.Draft 7 ["self","actions","rows"] (spI K (Ga t) aR 2 Rf):=⟨_,_,⟨J7,JQ,qW,JT⟩,Oz (t:=t) zP T oA sO vC rfl uy.cls cR cW ⟨qC,qX,nF⟩ Ri RZ,RX⟩
  have R0:=zR.binds (ps:=["self"]) fun _ _ _ _ _ _ us hl=>match us,hl with | [_],_=>rfl
  have Rj:=OJ (P:=l.prog) (w:=w) (base:=base) (t:=t) zR T
  have qF:=yx.binds (ps:=["door","ranks"]) fun _ _ _ _ _ _ us hl=>match us,hl with | [_,_],_=>rfl
  have LQ:=Kv (P:=l.prog) (w:=w) (base:=base) (t:=t) yx T zm
  have qx:Def l.prog w K mg base "rank_behind" 2 ["door","ranks"] (spD K (Ga t) 2 iH):=⟨_,_,LQ,qF,PySem.W.mg_of X G iQ,fL⟩
  have HN:MTab l.prog w K mg base (Ga t) "many" (spD K (Ga t) 1) 1 pL:=⟨⟨cY,jR,_,_,rfl,uy.cls,⟨qD,qY,nG⟩,Rj.mono (by decide),R0⟩,trivial⟩
  have oH:=vN.binds (ps:=["draft","row","ranks"]) fun _ _ _ _ _ _ us hl=>match us,hl with | [_,_,_],_=>rfl
  have HW:=Gx (P:=l.prog) (w:=w) (base:=base) (t:=t) vN T nP HN qx
  have oh:Def l.prog w K mg base "is_borne_out" 3 ["draft","row","ranks"] (spD K (Ga t) 3 f9):=⟨_,_,HW,oH,PySem.W.mg_of X G gD,eE⟩
  have iI:=yw.binds (ps:=["draft","rows"]) fun _ _ _ _ _ _ us hl=>match us,hl with | [_,_],_=>rfl
  have LK:=Ku (P:=l.prog) (w:=w) (base:=base) (t:=t) yw T oh
  have qw:Def l.prog w K mg base "is_torn_row" 4 ["draft","rows"] (spD K (Ga t) 2 bQ):=⟨_,_,LK,iI,PySem.W.mg_of X G dD,cO⟩
  have oE:=vL.binds (ps:=["_law_script","_law_k"]) fun _ _ _ _ _ _ us hl=>match us,hl with | [_,_],_=>rfl
  have HR:=Gv (P:=l.prog) (w:=w) (base:=base) (t:=t) vL T
  have n6:Def l.prog w K mg base "_law_cell_at" 1 ["_law_script","_law_k"] (spD K (Ga t) 2 dO):=⟨_,_,HR,oE,PySem.W.mg_of X G gB,d8⟩
  have bH:=zY.binds (ps:=["_law_cell","_law_k"]) fun _ _ _ _ _ _ us hl=>match us,hl with | [_,_],_=>rfl
  have Rn:=O6 (P:=l.prog) (w:=w) (base:=base) (t:=t) zY T
  have bL:Def l.prog w K mg base "_law_mixed" 1 ["_law_cell","_law_k"] (spD K (Ga t) 2 aZ):=⟨_,_,Rn,bH,PySem.W.mg_of X G bD,bz⟩
  have tE:=zZ.binds (ps:=["_law_cell","_law_many_here"]) fun _ _ _ _ _ _ us hl=>match us,hl with | [_,_],_=>rfl
  have Ro:=O7 (P:=l.prog) (w:=w) (base:=base) (t:=t) zZ T bL
  have sI:Def l.prog w K mg base "_law_names" 2 ["_law_cell","_law_many_here"] (spD K (Ga t) 2 jK):=⟨_,_,Ro,tE,PySem.W.mg_of X G j5,gP⟩
  have vW:=DR.binds (ps:=["_law_number_here","_law_rooms","_law_torn"]) fun _ _ _ _ _ _ us hl=>match us,hl with | [_,_,_],_=>rfl
  have XS:=V5 (P:=l.prog) (w:=w) (base:=base) (t:=t) DR T
  have vy:Def l.prog w K mg base "_law_door" 1 ["_law_number_here","_law_rooms","_law_torn"] (spD K (Ga t) 3 lN):=⟨_,_,XS,vW,PySem.W.mg_of X G lZ,jl⟩
  have vY:=DY.binds (ps:=["_law_cells","_law_many_here","_law_torn"]) fun _ _ _ _ _ _ us hl=>match us,hl with | [_,_,_],_=>rfl
  have X3:=V7 (P:=l.prog) (w:=w) (base:=base) (t:=t) DY T vy bL
  have vA:Def l.prog w K mg base "_law_rows" 2 ["_law_cells","_law_many_here","_law_torn"] (spD K (Ga t) 3 lO):=⟨_,_,X3,vY,PySem.W.mg_of X G mq,jn⟩
  have vX:=DX.binds (ps:=["_law_cell"]) fun _ _ _ _ _ _ us hl=>match us,hl with | [_],_=>rfl
  have XX:=V6 (P:=l.prog) (w:=w) (base:=base) (t:=t) DX T bL
  have vz:Def l.prog w K mg base "_law_many" 2 ["_law_cell"] (spD K (Ga t) 1 jj):=⟨_,_,XX,vX,PySem.W.mg_of X G mj,jm⟩
  have tH:=Ii.binds (ps:=["_law_doors","_law_ranks_here","_law_rank"]) fun _ _ _ _ _ _ us hl=>match us,hl with | [_,_,_],_=>rfl
  have aao:=ZC (P:=l.prog) (w:=w) (base:=base) (t:=t) Ii T
  have zf:Def l.prog w K mg base "_law_why" 1 ["_law_doors","_law_ranks_here","_law_rank"] (spD K (Ga t) 3 dz):=⟨_,_,aao,tH,PySem.W.mg_of X G kZ,jc⟩
  have tG:=z8.binds (ps:=["_law_rows_here"]) fun _ _ _ _ _ _ us hl=>match us,hl with | [_],_=>rfl
  have Rp:=O8 (P:=l.prog) (w:=w) (base:=base) (t:=t) z8 T zf
  have sJ:Def l.prog w K mg base "_law_ranks" 2 ["_law_rows_here"] (spD K (Ga t) 1 jL):=⟨_,_,Rp,tG,PySem.W.mg_of X G j6,gQ⟩
  have lD:=yu.binds (ps:=["_law_number_here","_law_most"]) fun _ _ _ _ _ _ us hl=>match us,hl with | [_,_],_=>rfl
  have LC:=Ks (P:=l.prog) (w:=w) (base:=base) (t:=t) yu T
  have qu:Def l.prog w K mg base "_law_number" 1 ["_law_number_here","_law_most"] (spD K (Ga t) 2 cN):=⟨_,_,LC,lD,PySem.W.mg_of X G fM,dB⟩
  have oG:=vM.binds (ps:=["_law_row","_law_cell","_law_rooms","_law_many_here"]) fun _ _ _ _ _ _ us hl=>match us,hl with | [_,_,_,_],_=>rfl
  have HS:=Gw (P:=l.prog) (w:=w) (base:=base) (t:=t) vM T bL qu
  have n8:Def l.prog w K mg base "_law_changed" 2 ["_law_row","_law_cell","_law_rooms","_law_many_here"] (spD K (Ga t) 4 dR):=⟨_,_,HS,oG,PySem.W.mg_of X G gC,d9⟩
  have sZ:=zX.binds (ps:=["_law_row","_law_one","_law_rows_here"]) fun _ _ _ _ _ _ us hl=>match us,hl with | [_,_,_],_=>rfl
  have Rm:=O5 (P:=l.prog) (w:=w) (base:=base) (t:=t) zX T
  have sH:Def l.prog w K mg base "_law_leans" 1 ["_law_row","_law_one","_law_rows_here"] (spD K (Ga t) 3 cj):=⟨_,_,Rm,sZ,PySem.W.mg_of X G j4,gO⟩
  exact ok_law U_law T n6 vz vA Rh sI sJ qw n8 sH
theorem walk {l:PySem.W.OpenLaw} {q:Program} {loose:List Str} {XP:(Str→Option Value)→Heap→Prop} {YP:World→Heap→Prop} {d:DefRec} {K:Params→PySem.W.Frag} (hn:l.most = some 63) (hdf:d.params.defaults = [])
    (hY:∀ (w:World) (h:Heap),YP w h→(K w.params).In h)
    (F:∀ (w:World) (mg:Str→Option Value) (fa:Addr) (h:Heap),(K w.params).In h→h.Ns mainGlobals mg→mg d.name = some (.ref fa) →
      ∃ fd:FuncData,(∀ (s:Shared) (u:Value),BindsTo s fd ⟨[u],[]⟩ [("_law_script",u)])∧∀ base:Heap,(K w.params).In base→base.Ns mainGlobals mg→bC l.prog w (K w.params) mg base CX0 9 fa fd ["_law_script"] (spLaw (K w.params))) :
    PySem.W.WalkO q loose XP YP l.row.toRowW d [] (fun f vs=>PySem.call f vs) :=
  L2.walk_of (n:=63) (k:=9) (x:="_law_script") (CX:=fun _=>CX0) (sp:=fun w=>spLaw (K w.params)) hn (by decide) hdf ⟨rfl,by decide,by decide⟩ hY F (fun _ _ a ns hl _ hS=>⟨a,ns,rfl,hS,hl,fun _=>rfl⟩) fun _ _ _ _ _ z=>z
end K4
namespace K4
open PySem PySem.W L2
noncomputable abbrev pw:Program:=PySem.Challenge.pw_mustmay_k42_ranked_rows_let_by
abbrev hI (i:Int):Value:=.int i 0
abbrev hS (x:Str) (t:Nat):Value:=.str x t
abbrev hR (a:Addr):Value:=.ref a
abbrev hE (P:Params) (x:Str) (t:Nat) (v:Value):DictEntry:=⟨PyData.keyHash P x,.str x t,v⟩
abbrev hT (xs:List Value):Obj:=⟨.type "tuple",none,.seq (Array.mk xs) 0,Array.mk []⟩
abbrev hN (xs:List Value):Obj:=⟨.none,none,.fields (Array.mk xs),Array.mk []⟩
abbrev hK (xs:List Value):Obj:=⟨.type "code",none,.fields (Array.mk xs),Array.mk []⟩
abbrev hD (es:List DictEntry):Obj:=⟨.type "dict",none,.dict (Array.mk es) 0,Array.mk []⟩
abbrev hDn (n:Nat) (es:List DictEntry):Obj:=⟨.type "dict",none,.dict (Array.mk es) n,Array.mk []⟩
abbrev hC (n q:Str) (s:Stmt):Obj:=⟨.none,none,.func ⟨n,q,aM s,.stmts (aH s),ak s,0,[],.none,.none,.none,.none,none,.none,.none,0⟩,Array.mk []⟩
abbrev hF (n q:Str) (s:Stmt) (pm cd:Value):Obj:=⟨.type "function",none,.func ⟨n,q,aM s,.stmts (aH s),ak s,3,[],.none,.none,.none,pm,none,cd,.none,0⟩,Array.mk []⟩
noncomputable def o0:Obj:=hK [(hS "<module>" 182),(hS "<module>" 183),(hS "/claim/cut.py" 184),(hI 1),(hI 0),(hI 0),(hI 0),(hI 0),(hR 11),(.bool false),(hI 181),(hR 12),.none,.none,.none,.none,(hI 185),(hI 1),(hS "/claim/cut.py" 186)]
noncomputable def o1:Obj:=⟨(.type "frame"),none,.plain,Array.mk [(some (hR 13)),(some (hR 3)),(some (hR 3)),none,(some (hS "__main__" 164)),none,(some (hR 0))]⟩
noncomputable def o2 (P:Params):Obj:=hDn 47 [hE P "__name__" 165 (hS "law_mustmay_k42_ranked_rows_let_by" 671),hE P "__doc__" 166 .none,hE P "__package__" 167 .none,hE P "__loader__" 168 (.builtin "__main__.__loader__#opaque"),hE P "__spec__" 169 .none,hE P "__annotations__" 170 (hR 6),hE P "__builtins__" 171 (hR 4),hE P "__file__" 173 (hS "/claim/cut.py" 172),hE P "__cached__" 174 .none,hE P "_wall" 193 (hR 21),hE P "Door" 231 (hR 45),hE P "Must" 276 (hR 87),hE P "May" 321 (hR 127),hE P "Shut" 373 (hR 174),hE P "Torn" 425 (hR 221),hE P "door_of" 434 (hR 230),hE P "HallError" 454 (hR 240),hE P "BadPlan" 481 (hR 260),hE P "LETTERS" 485 (hS "abcdefghijklmnopqrstuvwxyz" 484),hE P "MOST_SIGNS" 487 (.int (8) 486),hE P "MOST_ACTIONS" 489 (.int (8) 488),hE P "MOST_ROOMS" 491 (.int (2000) 490),hE P "is_name" 497 (hR 267),hE P "is_action_list" 503 (hR 272),hE P "need_actions" 510 (hR 279),hE P "is_room" 518 (hR 286),hE P "is_told_door" 528 (hR 293),hE P "need_rooms" 541 (hR 300),hE P "made_door" 549 (hR 307),hE P "made_room" 555 (hR 312),hE P "told_room" 561 (hR 317),hE P "Draft" 641 (hR 379),hE P "rank_behind" 651 (hR 390),hE P "is_borne_out" 664 (hR 397),hE P "is_torn_row" 670 (hR 402),hE P "_law_cell_at" 680 (hR 409),hE P "_law_mixed" 689 (hR 416),hE P "_law_names" 695 (hR 421),hE P "_law_door" 705 (hR 428),hE P "_law_rows" 711 (hR 433),hE P "_law_many" 718 (hR 440),hE P "_law_why" 729 (hR 447),hE P "_law_ranks" 743 (hR 454),hE P "_law_number" 752 (hR 461),hE P "_law_changed" 768 (hR 468),hE P "_law_leans" 774 (hR 473),hE P "law" 780 (hR 478)]
noncomputable def o3:Obj:=hN [(hI 1),(hI 0),(hR 20),(hI 5),(hI 0),(hR 27),(hI 12),(hI 0),(hR 55),(hI 25),(hI 0),(hR 95),(hI 38),(hI 0),(hR 135),(hI 54),(hI 0),(hR 182),(hI 70),(hI 0),(hR 229),(hI 79),(hI 0),(hR 236),(hI 81),(hI 0),(hR 249),(hI 92),(hI 0),(hR 266),(hI 96),(hI 0),(hR 271),(hI 100),(hI 0),(hR 278),(hI 103),(hI 0),(hR 285),(hI 105),(hI 0),(hR 292),(hI 114),(hI 0),(hR 299),(hI 123),(hI 0),(hR 306),(hI 126),(hI 0),(hR 311),(hI 128),(hI 0),(hR 316),(hI 130),(hI 0),(hR 323),(hI 160),(hI 0),(hR 389),(hI 166),(hI 0),(hR 396),(hI 174),(hI 0),(hR 401),(hI 180),(hI 0),(hR 408),(hI 184),(hI 0),(hR 415),(hI 188),(hI 0),(hR 420),(hI 197),(hI 0),(hR 427),(hI 206),(hI 0),(hR 432),(hI 212),(hI 0),(hR 439),(hI 216),(hI 0),(hR 446),(hI 223),(hI 0),(hR 453),(hI 235),(hI 0),(hR 460),(hI 244),(hI 0),(hR 467),(hI 263),(hI 0),(hR 472),(hI 272),(hI 0),(hR 477)]
noncomputable def o4:Obj:=hT [(hS "k" 190)]
noncomputable def o5:Obj:=hC "_wall" "_wall" (top 0)
noncomputable def o6:Obj:=hK [(hS "_wall" 187),(hS "_wall" 188),(hS "/claim/cut.py" 189),(hI 1),(hI 1),(hI 0),(hI 0),(hI 3),(hR 15),(.bool true),(hI 181),(hR 16),.none,(hR 17),(hR 18),(hR 19),(hI 191),(hI 1),(hS "/claim/cut.py" 192)]
noncomputable def o7:Obj:=hF "_wall" "_wall" (top 0) (hS "__main__" 164) (hR 20)
noncomputable def o8:Obj:=⟨(.type "builtin_function_or_method"),none,(.fields (Array.mk [(.builtin "type.__prepare__"),(.type "type")])),Array.mk []⟩
noncomputable def o9 (P:Params):Obj:=hDn 6 [hE P "__module__" 203 (hS "mustmay.doors" 194),hE P "__qualname__" 205 (hS "Door" 204),hE P "__firstlineno__" 207 (.int (5) 206),hE P "__init__" 215 (hR 35),hE P "told" 222 (hR 42),hE P "__static_attributes__" 224 (hR 43)]
noncomputable def o10:Obj:=hN [(hI 7),(hI 4),(hR 34),(hI 10),(hI 4),(hR 41)]
noncomputable def o11:Obj:=hK [(hS "Door" 198),(hS "Door" 199),(hS "/claim/cut.py" 200),(hI 5),(hI 0),(hI 0),(hI 0),(hI 0),(hR 25),(.bool false),(hI 181),(hR 26),.none,.none,.none,.none,(hI 201),(hI 5),(hS "/claim/cut.py" 202)]
noncomputable def o12:Obj:=⟨(.type "frame"),none,.plain,Array.mk [(some (hR 27)),(some (hR 3)),(some (hR 24)),none,(some (hS "mustmay.doors" 194)),none,(some (hR 0))]⟩
noncomputable def o13:Obj:=hT [(hS "self" 211),(hS "to" 212)]
noncomputable def o14:Obj:=hC "__init__" "Door.__init__" (inClass (top 2) 0)
noncomputable def o15:Obj:=hK [(hS "__init__" 208),(hS "Door.__init__" 209),(hS "/claim/cut.py" 210),(hI 7),(hI 2),(hI 0),(hI 0),(hI 3),(hR 29),(.bool true),(hI 181),(hR 30),.none,(hR 31),(hR 32),(hR 33),(hI 213),(hI 7),(hS "/claim/cut.py" 214)]
noncomputable def o16:Obj:=hF "__init__" "Door.__init__" (inClass (top 2) 0) (hS "mustmay.doors" 194) (hR 34)
noncomputable def o17:Obj:=hT [(hS "self" 219)]
noncomputable def o18:Obj:=hC "told" "Door.told" (inClass (top 2) 1)
noncomputable def o19:Obj:=hK [(hS "told" 216),(hS "Door.told" 217),(hS "/claim/cut.py" 218),(hI 10),(hI 1),(hI 0),(hI 0),(hI 3),(hR 36),(.bool true),(hI 181),(hR 37),.none,(hR 38),(hR 39),(hR 40),(hI 220),(hI 10),(hS "/claim/cut.py" 221)]
noncomputable def o20:Obj:=hF "told" "Door.told" (inClass (top 2) 1) (hS "mustmay.doors" 194) (hR 41)
noncomputable def o21:Obj:=hT [(hS "to" 223)]
noncomputable def o22 (P:Params):Obj:=hDn 4 [hE P "__module__" 203 (hS "mustmay.doors" 194),hE P "__firstlineno__" 207 (.int (5) 206),hE P "__init__" 215 (hR 35),hE P "told" 222 (hR 42),hE P "__static_attributes__" 224 (hR 43),hE P "__dict__" 226 (hR 46),hE P "__weakref__" 228 (hR 47),hE P "__doc__" 229 .none]
noncomputable def o23:Obj:=⟨(.type "type"),none,(.cls ⟨"Door",[(.type "object")],[(hR 45),(.type "object")],44,"Door",true,[],[(hR 87),(hR 127),(hR 174),(hR 221)],false,none,false⟩),Array.mk [none,none,(some (hS "Door" 196)),(some (hS "Door" 204)),(some (.builtin "object.__new__")),(some (.bool true))]⟩
noncomputable def o24:Obj:=⟨(.type "getset_descriptor"),none,(.fields (Array.mk [(hS "__dict__" 225),(hR 45),(.builtin "function.__dict__"),(.builtin "function.__dict__#set")])),Array.mk []⟩
noncomputable def o25:Obj:=⟨(.type "getset_descriptor"),none,(.fields (Array.mk [(hS "__weakref__" 227),(hR 45),(.builtin "ExceptionGroup.__weakref__"),.none])),Array.mk []⟩
noncomputable def o26:Obj:=⟨(.type "super"),none,(.fields (Array.mk [(hR 45),(hR 45),(hR 45)])),Array.mk []⟩
noncomputable def o27:Obj:=⟨(.type "builtin_function_or_method"),none,(.fields (Array.mk [(.builtin "object.__init_subclass__"),(hR 45)])),Array.mk []⟩
noncomputable def o28 (P:Params):Obj:=hDn 8 [hE P "__module__" 239 (hS "mustmay.doors" 194),hE P "__qualname__" 241 (hS "Must" 240),hE P "__firstlineno__" 243 (.int (12) 242),hE P "word" 250 (hR 63),hE P "needs" 257 (hR 70),hE P "allows" 264 (hR 77),hE P "led" 272 (hR 84),hE P "__static_attributes__" 273 (hR 85)]
noncomputable def o29:Obj:=hN [(hI 14),(hI 4),(hR 62),(hI 17),(hI 4),(hR 69),(hI 20),(hI 4),(hR 76),(hI 23),(hI 4),(hR 83)]
noncomputable def o30:Obj:=hK [(hS "Must" 234),(hS "Must" 235),(hS "/claim/cut.py" 236),(hI 12),(hI 0),(hI 0),(hI 0),(hI 0),(hR 53),(.bool false),(hI 181),(hR 54),.none,.none,.none,.none,(hI 237),(hI 12),(hS "/claim/cut.py" 238)]
noncomputable def o31:Obj:=⟨(.type "frame"),none,.plain,Array.mk [(some (hR 55)),(some (hR 3)),(some (hR 52)),none,(some (hS "mustmay.doors" 194)),none,(some (hR 0))]⟩
noncomputable def o32:Obj:=hT [(hS "self" 247)]
noncomputable def o33:Obj:=hC "word" "Must.word" (inClass (top 3) 0)
noncomputable def o34:Obj:=hK [(hS "word" 244),(hS "Must.word" 245),(hS "/claim/cut.py" 246),(hI 14),(hI 1),(hI 0),(hI 0),(hI 3),(hR 57),(.bool true),(hI 181),(hR 58),.none,(hR 59),(hR 60),(hR 61),(hI 248),(hI 14),(hS "/claim/cut.py" 249)]
noncomputable def o35:Obj:=hF "word" "Must.word" (inClass (top 3) 0) (hS "mustmay.doors" 194) (hR 62)
noncomputable def o36:Obj:=hT [(hS "self" 254)]
noncomputable def o37:Obj:=hC "needs" "Must.needs" (inClass (top 3) 1)
noncomputable def o38:Obj:=hK [(hS "needs" 251),(hS "Must.needs" 252),(hS "/claim/cut.py" 253),(hI 17),(hI 1),(hI 0),(hI 0),(hI 3),(hR 64),(.bool true),(hI 181),(hR 65),.none,(hR 66),(hR 67),(hR 68),(hI 255),(hI 17),(hS "/claim/cut.py" 256)]
noncomputable def o39:Obj:=hF "needs" "Must.needs" (inClass (top 3) 1) (hS "mustmay.doors" 194) (hR 69)
noncomputable def o40:Obj:=hT [(hS "self" 261)]
noncomputable def o41:Obj:=hC "allows" "Must.allows" (inClass (top 3) 2)
noncomputable def o42:Obj:=hK [(hS "allows" 258),(hS "Must.allows" 259),(hS "/claim/cut.py" 260),(hI 20),(hI 1),(hI 0),(hI 0),(hI 3),(hR 71),(.bool true),(hI 181),(hR 72),.none,(hR 73),(hR 74),(hR 75),(hI 262),(hI 20),(hS "/claim/cut.py" 263)]
noncomputable def o43:Obj:=hF "allows" "Must.allows" (inClass (top 3) 2) (hS "mustmay.doors" 194) (hR 76)
noncomputable def o44:Obj:=hT [(hS "self" 268),(hS "to" 269)]
noncomputable def o45:Obj:=hC "led" "Must.led" (inClass (top 3) 3)
noncomputable def o46:Obj:=hK [(hS "led" 265),(hS "Must.led" 266),(hS "/claim/cut.py" 267),(hI 23),(hI 2),(hI 0),(hI 0),(hI 3),(hR 78),(.bool true),(hI 181),(hR 79),.none,(hR 80),(hR 81),(hR 82),(hI 270),(hI 23),(hS "/claim/cut.py" 271)]
noncomputable def o47:Obj:=hF "led" "Must.led" (inClass (top 3) 3) (hS "mustmay.doors" 194) (hR 83)
noncomputable def o48 (P:Params):Obj:=hDn 2 [hE P "__module__" 239 (hS "mustmay.doors" 194),hE P "__firstlineno__" 243 (.int (12) 242),hE P "word" 250 (hR 63),hE P "needs" 257 (hR 70),hE P "allows" 264 (hR 77),hE P "led" 272 (hR 84),hE P "__static_attributes__" 273 (hR 85),hE P "__doc__" 274 .none]
noncomputable def o49:Obj:=⟨(.type "type"),none,(.cls ⟨"Must",[(hR 45)],[(hR 87),(hR 45),(.type "object")],86,"Must",true,[],[],false,none,false⟩),Array.mk [(some (hR 50)),none,(some (hS "Must" 232)),(some (hS "Must" 240)),(some (.builtin "object.__new__")),(some (.bool true))]⟩
noncomputable def o50:Obj:=⟨(.type "super"),none,(.fields (Array.mk [(hR 87),(hR 87),(hR 87)])),Array.mk []⟩
noncomputable def o51:Obj:=⟨(.type "builtin_function_or_method"),none,(.fields (Array.mk [(.builtin "object.__init_subclass__"),(hR 87)])),Array.mk []⟩
noncomputable def o52 (P:Params):Obj:=hDn 8 [hE P "__module__" 284 (hS "mustmay.doors" 194),hE P "__qualname__" 286 (hS "May" 285),hE P "__firstlineno__" 288 (.int (25) 287),hE P "word" 295 (hR 103),hE P "needs" 302 (hR 110),hE P "allows" 309 (hR 117),hE P "led" 317 (hR 124),hE P "__static_attributes__" 318 (hR 125)]
noncomputable def o53:Obj:=hN [(hI 27),(hI 4),(hR 102),(hI 30),(hI 4),(hR 109),(hI 33),(hI 4),(hR 116),(hI 36),(hI 4),(hR 123)]
noncomputable def o54:Obj:=hK [(hS "May" 279),(hS "May" 280),(hS "/claim/cut.py" 281),(hI 25),(hI 0),(hI 0),(hI 0),(hI 0),(hR 93),(.bool false),(hI 181),(hR 94),.none,.none,.none,.none,(hI 282),(hI 25),(hS "/claim/cut.py" 283)]
noncomputable def o55:Obj:=⟨(.type "frame"),none,.plain,Array.mk [(some (hR 95)),(some (hR 3)),(some (hR 92)),none,(some (hS "mustmay.doors" 194)),none,(some (hR 0))]⟩
noncomputable def o56:Obj:=hT [(hS "self" 292)]
noncomputable def o57:Obj:=hC "word" "May.word" (inClass (top 4) 0)
noncomputable def o58:Obj:=hK [(hS "word" 289),(hS "May.word" 290),(hS "/claim/cut.py" 291),(hI 27),(hI 1),(hI 0),(hI 0),(hI 3),(hR 97),(.bool true),(hI 181),(hR 98),.none,(hR 99),(hR 100),(hR 101),(hI 293),(hI 27),(hS "/claim/cut.py" 294)]
noncomputable def o59:Obj:=hF "word" "May.word" (inClass (top 4) 0) (hS "mustmay.doors" 194) (hR 102)
noncomputable def o60:Obj:=hT [(hS "self" 299)]
noncomputable def o61:Obj:=hC "needs" "May.needs" (inClass (top 4) 1)
noncomputable def o62:Obj:=hK [(hS "needs" 296),(hS "May.needs" 297),(hS "/claim/cut.py" 298),(hI 30),(hI 1),(hI 0),(hI 0),(hI 3),(hR 104),(.bool true),(hI 181),(hR 105),.none,(hR 106),(hR 107),(hR 108),(hI 300),(hI 30),(hS "/claim/cut.py" 301)]
noncomputable def o63:Obj:=hF "needs" "May.needs" (inClass (top 4) 1) (hS "mustmay.doors" 194) (hR 109)
noncomputable def o64:Obj:=hT [(hS "self" 306)]
noncomputable def o65:Obj:=hC "allows" "May.allows" (inClass (top 4) 2)
noncomputable def o66:Obj:=hK [(hS "allows" 303),(hS "May.allows" 304),(hS "/claim/cut.py" 305),(hI 33),(hI 1),(hI 0),(hI 0),(hI 3),(hR 111),(.bool true),(hI 181),(hR 112),.none,(hR 113),(hR 114),(hR 115),(hI 307),(hI 33),(hS "/claim/cut.py" 308)]
noncomputable def o67:Obj:=hF "allows" "May.allows" (inClass (top 4) 2) (hS "mustmay.doors" 194) (hR 116)
noncomputable def o68:Obj:=hT [(hS "self" 313),(hS "to" 314)]
noncomputable def o69:Obj:=hC "led" "May.led" (inClass (top 4) 3)
noncomputable def o70:Obj:=hK [(hS "led" 310),(hS "May.led" 311),(hS "/claim/cut.py" 312),(hI 36),(hI 2),(hI 0),(hI 0),(hI 3),(hR 118),(.bool true),(hI 181),(hR 119),.none,(hR 120),(hR 121),(hR 122),(hI 315),(hI 36),(hS "/claim/cut.py" 316)]
noncomputable def o71:Obj:=hF "led" "May.led" (inClass (top 4) 3) (hS "mustmay.doors" 194) (hR 123)
noncomputable def o72 (P:Params):Obj:=hDn 2 [hE P "__module__" 284 (hS "mustmay.doors" 194),hE P "__firstlineno__" 288 (.int (25) 287),hE P "word" 295 (hR 103),hE P "needs" 302 (hR 110),hE P "allows" 309 (hR 117),hE P "led" 317 (hR 124),hE P "__static_attributes__" 318 (hR 125),hE P "__doc__" 319 .none]
noncomputable def o73:Obj:=⟨(.type "type"),none,(.cls ⟨"May",[(hR 45)],[(hR 127),(hR 45),(.type "object")],126,"May",true,[],[],false,none,false⟩),Array.mk [(some (hR 90)),none,(some (hS "May" 277)),(some (hS "May" 285)),(some (.builtin "object.__new__")),(some (.bool true))]⟩
noncomputable def o74:Obj:=⟨(.type "super"),none,(.fields (Array.mk [(hR 127),(hR 127),(hR 127)])),Array.mk []⟩
noncomputable def o75:Obj:=⟨(.type "builtin_function_or_method"),none,(.fields (Array.mk [(.builtin "object.__init_subclass__"),(hR 127)])),Array.mk []⟩
noncomputable def o76 (P:Params):Obj:=hDn 9 [hE P "__module__" 329 (hS "mustmay.doors" 194),hE P "__qualname__" 331 (hS "Shut" 330),hE P "__firstlineno__" 333 (.int (38) 332),hE P "__init__" 340 (hR 143),hE P "word" 347 (hR 150),hE P "needs" 354 (hR 157),hE P "allows" 361 (hR 164),hE P "led" 369 (hR 171),hE P "__static_attributes__" 370 (hR 172)]
noncomputable def o77:Obj:=hN [(hI 40),(hI 4),(hR 142),(hI 43),(hI 4),(hR 149),(hI 46),(hI 4),(hR 156),(hI 49),(hI 4),(hR 163),(hI 52),(hI 4),(hR 170)]
noncomputable def o78:Obj:=hK [(hS "Shut" 324),(hS "Shut" 325),(hS "/claim/cut.py" 326),(hI 38),(hI 0),(hI 0),(hI 0),(hI 0),(hR 133),(.bool false),(hI 181),(hR 134),.none,.none,.none,.none,(hI 327),(hI 38),(hS "/claim/cut.py" 328)]
noncomputable def o79:Obj:=⟨(.type "frame"),none,.plain,Array.mk [(some (hR 135)),(some (hR 3)),(some (hR 132)),none,(some (hS "mustmay.doors" 194)),none,(some (hR 0))]⟩
noncomputable def o80:Obj:=hT [(hS "self" 337)]
noncomputable def o81:Obj:=hC "__init__" "Shut.__init__" (inClass (top 5) 0)
noncomputable def o82:Obj:=hK [(hS "__init__" 334),(hS "Shut.__init__" 335),(hS "/claim/cut.py" 336),(hI 40),(hI 1),(hI 0),(hI 0),(hI 3),(hR 137),(.bool true),(hI 181),(hR 138),.none,(hR 139),(hR 140),(hR 141),(hI 338),(hI 40),(hS "/claim/cut.py" 339)]
noncomputable def o83:Obj:=hF "__init__" "Shut.__init__" (inClass (top 5) 0) (hS "mustmay.doors" 194) (hR 142)
noncomputable def o84:Obj:=hT [(hS "self" 344)]
noncomputable def o85:Obj:=hC "word" "Shut.word" (inClass (top 5) 1)
noncomputable def o86:Obj:=hK [(hS "word" 341),(hS "Shut.word" 342),(hS "/claim/cut.py" 343),(hI 43),(hI 1),(hI 0),(hI 0),(hI 3),(hR 144),(.bool true),(hI 181),(hR 145),.none,(hR 146),(hR 147),(hR 148),(hI 345),(hI 43),(hS "/claim/cut.py" 346)]
noncomputable def o87:Obj:=hF "word" "Shut.word" (inClass (top 5) 1) (hS "mustmay.doors" 194) (hR 149)
noncomputable def o88:Obj:=hT [(hS "self" 351)]
noncomputable def o89:Obj:=hC "needs" "Shut.needs" (inClass (top 5) 2)
noncomputable def o90:Obj:=hK [(hS "needs" 348),(hS "Shut.needs" 349),(hS "/claim/cut.py" 350),(hI 46),(hI 1),(hI 0),(hI 0),(hI 3),(hR 151),(.bool true),(hI 181),(hR 152),.none,(hR 153),(hR 154),(hR 155),(hI 352),(hI 46),(hS "/claim/cut.py" 353)]
noncomputable def o91:Obj:=hF "needs" "Shut.needs" (inClass (top 5) 2) (hS "mustmay.doors" 194) (hR 156)
noncomputable def o92:Obj:=hT [(hS "self" 358)]
noncomputable def o93:Obj:=hC "allows" "Shut.allows" (inClass (top 5) 3)
noncomputable def o94:Obj:=hK [(hS "allows" 355),(hS "Shut.allows" 356),(hS "/claim/cut.py" 357),(hI 49),(hI 1),(hI 0),(hI 0),(hI 3),(hR 158),(.bool true),(hI 181),(hR 159),.none,(hR 160),(hR 161),(hR 162),(hI 359),(hI 49),(hS "/claim/cut.py" 360)]
noncomputable def o95:Obj:=hF "allows" "Shut.allows" (inClass (top 5) 3) (hS "mustmay.doors" 194) (hR 163)
noncomputable def o96:Obj:=hT [(hS "self" 365),(hS "to" 366)]
noncomputable def o97:Obj:=hC "led" "Shut.led" (inClass (top 5) 4)
noncomputable def o98:Obj:=hK [(hS "led" 362),(hS "Shut.led" 363),(hS "/claim/cut.py" 364),(hI 52),(hI 2),(hI 0),(hI 0),(hI 3),(hR 165),(.bool true),(hI 181),(hR 166),.none,(hR 167),(hR 168),(hR 169),(hI 367),(hI 52),(hS "/claim/cut.py" 368)]
noncomputable def o99:Obj:=hF "led" "Shut.led" (inClass (top 5) 4) (hS "mustmay.doors" 194) (hR 170)
noncomputable def o100 (P:Params):Obj:=hDn 2 [hE P "__module__" 329 (hS "mustmay.doors" 194),hE P "__firstlineno__" 333 (.int (38) 332),hE P "__init__" 340 (hR 143),hE P "word" 347 (hR 150),hE P "needs" 354 (hR 157),hE P "allows" 361 (hR 164),hE P "led" 369 (hR 171),hE P "__static_attributes__" 370 (hR 172),hE P "__doc__" 371 .none]
noncomputable def o101:Obj:=⟨(.type "type"),none,(.cls ⟨"Shut",[(hR 45)],[(hR 174),(hR 45),(.type "object")],173,"Shut",true,[],[],false,none,false⟩),Array.mk [(some (hR 130)),none,(some (hS "Shut" 322)),(some (hS "Shut" 330)),(some (.builtin "object.__new__")),(some (.bool true))]⟩
noncomputable def o102:Obj:=⟨(.type "super"),none,(.fields (Array.mk [(hR 174),(hR 174),(hR 174)])),Array.mk []⟩
noncomputable def o103:Obj:=⟨(.type "builtin_function_or_method"),none,(.fields (Array.mk [(.builtin "object.__init_subclass__"),(hR 174)])),Array.mk []⟩
noncomputable def o104 (P:Params):Obj:=hDn 9 [hE P "__module__" 381 (hS "mustmay.doors" 194),hE P "__qualname__" 383 (hS "Torn" 382),hE P "__firstlineno__" 385 (.int (54) 384),hE P "__init__" 392 (hR 190),hE P "word" 399 (hR 197),hE P "needs" 406 (hR 204),hE P "allows" 413 (hR 211),hE P "led" 421 (hR 218),hE P "__static_attributes__" 422 (hR 219)]
noncomputable def o105:Obj:=hN [(hI 56),(hI 4),(hR 189),(hI 59),(hI 4),(hR 196),(hI 62),(hI 4),(hR 203),(hI 65),(hI 4),(hR 210),(hI 68),(hI 4),(hR 217)]
noncomputable def o106:Obj:=hK [(hS "Torn" 376),(hS "Torn" 377),(hS "/claim/cut.py" 378),(hI 54),(hI 0),(hI 0),(hI 0),(hI 0),(hR 180),(.bool false),(hI 181),(hR 181),.none,.none,.none,.none,(hI 379),(hI 54),(hS "/claim/cut.py" 380)]
noncomputable def o107:Obj:=⟨(.type "frame"),none,.plain,Array.mk [(some (hR 182)),(some (hR 3)),(some (hR 179)),none,(some (hS "mustmay.doors" 194)),none,(some (hR 0))]⟩
noncomputable def o108:Obj:=hT [(hS "self" 389)]
noncomputable def o109:Obj:=hC "__init__" "Torn.__init__" (inClass (top 6) 0)
noncomputable def o110:Obj:=hK [(hS "__init__" 386),(hS "Torn.__init__" 387),(hS "/claim/cut.py" 388),(hI 56),(hI 1),(hI 0),(hI 0),(hI 3),(hR 184),(.bool true),(hI 181),(hR 185),.none,(hR 186),(hR 187),(hR 188),(hI 390),(hI 56),(hS "/claim/cut.py" 391)]
noncomputable def o111:Obj:=hF "__init__" "Torn.__init__" (inClass (top 6) 0) (hS "mustmay.doors" 194) (hR 189)
noncomputable def o112:Obj:=hT [(hS "self" 396)]
noncomputable def o113:Obj:=hC "word" "Torn.word" (inClass (top 6) 1)
noncomputable def o114:Obj:=hK [(hS "word" 393),(hS "Torn.word" 394),(hS "/claim/cut.py" 395),(hI 59),(hI 1),(hI 0),(hI 0),(hI 3),(hR 191),(.bool true),(hI 181),(hR 192),.none,(hR 193),(hR 194),(hR 195),(hI 397),(hI 59),(hS "/claim/cut.py" 398)]
noncomputable def o115:Obj:=hF "word" "Torn.word" (inClass (top 6) 1) (hS "mustmay.doors" 194) (hR 196)
noncomputable def o116:Obj:=hT [(hS "self" 403)]
noncomputable def o117:Obj:=hC "needs" "Torn.needs" (inClass (top 6) 2)
noncomputable def o118:Obj:=hK [(hS "needs" 400),(hS "Torn.needs" 401),(hS "/claim/cut.py" 402),(hI 62),(hI 1),(hI 0),(hI 0),(hI 3),(hR 198),(.bool true),(hI 181),(hR 199),.none,(hR 200),(hR 201),(hR 202),(hI 404),(hI 62),(hS "/claim/cut.py" 405)]
noncomputable def o119:Obj:=hF "needs" "Torn.needs" (inClass (top 6) 2) (hS "mustmay.doors" 194) (hR 203)
noncomputable def o120:Obj:=hT [(hS "self" 410)]
noncomputable def o121:Obj:=hC "allows" "Torn.allows" (inClass (top 6) 3)
noncomputable def o122:Obj:=hK [(hS "allows" 407),(hS "Torn.allows" 408),(hS "/claim/cut.py" 409),(hI 65),(hI 1),(hI 0),(hI 0),(hI 3),(hR 205),(.bool true),(hI 181),(hR 206),.none,(hR 207),(hR 208),(hR 209),(hI 411),(hI 65),(hS "/claim/cut.py" 412)]
noncomputable def o123:Obj:=hF "allows" "Torn.allows" (inClass (top 6) 3) (hS "mustmay.doors" 194) (hR 210)
noncomputable def o124:Obj:=hT [(hS "self" 417),(hS "to" 418)]
noncomputable def o125:Obj:=hC "led" "Torn.led" (inClass (top 6) 4)
noncomputable def o126:Obj:=hK [(hS "led" 414),(hS "Torn.led" 415),(hS "/claim/cut.py" 416),(hI 68),(hI 2),(hI 0),(hI 0),(hI 3),(hR 212),(.bool true),(hI 181),(hR 213),.none,(hR 214),(hR 215),(hR 216),(hI 419),(hI 68),(hS "/claim/cut.py" 420)]
noncomputable def o127:Obj:=hF "led" "Torn.led" (inClass (top 6) 4) (hS "mustmay.doors" 194) (hR 217)
noncomputable def o128 (P:Params):Obj:=hDn 2 [hE P "__module__" 381 (hS "mustmay.doors" 194),hE P "__firstlineno__" 385 (.int (54) 384),hE P "__init__" 392 (hR 190),hE P "word" 399 (hR 197),hE P "needs" 406 (hR 204),hE P "allows" 413 (hR 211),hE P "led" 421 (hR 218),hE P "__static_attributes__" 422 (hR 219),hE P "__doc__" 423 .none]
noncomputable def o129:Obj:=⟨(.type "type"),none,(.cls ⟨"Torn",[(hR 45)],[(hR 221),(hR 45),(.type "object")],220,"Torn",true,[],[],false,none,false⟩),Array.mk [(some (hR 177)),none,(some (hS "Torn" 374)),(some (hS "Torn" 382)),(some (.builtin "object.__new__")),(some (.bool true))]⟩
noncomputable def o130:Obj:=⟨(.type "super"),none,(.fields (Array.mk [(hR 221),(hR 221),(hR 221)])),Array.mk []⟩
noncomputable def o131:Obj:=⟨(.type "builtin_function_or_method"),none,(.fields (Array.mk [(.builtin "object.__init_subclass__"),(hR 221)])),Array.mk []⟩
noncomputable def o132:Obj:=hT [(hS "needs" 429),(hS "allows" 430),(hS "to" 431)]
noncomputable def o133:Obj:=hC "door_of" "door_of" (top 7)
noncomputable def o134:Obj:=hK [(hS "door_of" 426),(hS "door_of" 427),(hS "/claim/cut.py" 428),(hI 70),(hI 3),(hI 0),(hI 0),(hI 3),(hR 224),(.bool true),(hI 181),(hR 225),.none,(hR 226),(hR 227),(hR 228),(hI 432),(hI 70),(hS "/claim/cut.py" 433)]
noncomputable def o135:Obj:=hF "door_of" "door_of" (top 7) (hS "mustmay.doors" 194) (hR 229)
noncomputable def o136:Obj:=hT [(.type "ValueError")]
noncomputable def o137 (P:Params):Obj:=hDn 4 [hE P "__module__" 444 (hS "mustmay.errors" 435),hE P "__qualname__" 446 (hS "HallError" 445),hE P "__firstlineno__" 448 (.int (79) 447),hE P "__static_attributes__" 449 (hR 238)]
noncomputable def o138:Obj:=hK [(hS "HallError" 439),(hS "HallError" 440),(hS "/claim/cut.py" 441),(hI 79),(hI 0),(hI 0),(hI 0),(hI 0),(hR 234),(.bool false),(hI 181),(hR 235),.none,.none,.none,.none,(hI 442),(hI 79),(hS "/claim/cut.py" 443)]
noncomputable def o139:Obj:=⟨(.type "frame"),none,.plain,Array.mk [(some (hR 236)),(some (hR 3)),(some (hR 233)),none,(some (hS "mustmay.errors" 435)),none,(some (hR 0))]⟩
noncomputable def o140 (P:Params):Obj:=hDn 3 [hE P "__module__" 444 (hS "mustmay.errors" 435),hE P "__firstlineno__" 448 (.int (79) 447),hE P "__static_attributes__" 449 (hR 238),hE P "__weakref__" 451 (hR 241),hE P "__doc__" 452 .none]
noncomputable def o141:Obj:=⟨(.type "type"),none,(.cls ⟨"HallError",[(.type "ValueError")],[(hR 240),(.type "ValueError"),(.type "Exception"),(.type "BaseException"),(.type "object")],239,"HallError",true,[],[(hR 260)],false,none,false⟩),Array.mk [(some (hR 231)),none,(some (hS "HallError" 437)),(some (hS "HallError" 445)),(some (.builtin "ValueError.__new__")),(some (.bool true))]⟩
noncomputable def o142:Obj:=⟨(.type "getset_descriptor"),none,(.fields (Array.mk [(hS "__weakref__" 450),(hR 240),(.builtin "ExceptionGroup.__weakref__"),.none])),Array.mk []⟩
noncomputable def o143:Obj:=⟨(.type "super"),none,(.fields (Array.mk [(hR 240),(hR 240),(hR 240)])),Array.mk []⟩
noncomputable def o144:Obj:=⟨(.type "builtin_function_or_method"),none,(.fields (Array.mk [(.builtin "object.__init_subclass__"),(hR 240)])),Array.mk []⟩
noncomputable def o145 (P:Params):Obj:=hDn 5 [hE P "__module__" 462 (hS "mustmay.errors" 435),hE P "__qualname__" 464 (hS "BadPlan" 463),hE P "__firstlineno__" 466 (.int (81) 465),hE P "__init__" 475 (hR 257),hE P "__static_attributes__" 478 (hR 258)]
noncomputable def o146:Obj:=hN [(hI 83),(hI 4),(hR 256)]
noncomputable def o147:Obj:=hK [(hS "BadPlan" 457),(hS "BadPlan" 458),(hS "/claim/cut.py" 459),(hI 81),(hI 0),(hI 0),(hI 0),(hI 0),(hR 247),(.bool false),(hI 181),(hR 248),.none,.none,.none,.none,(hI 460),(hI 81),(hS "/claim/cut.py" 461)]
noncomputable def o148:Obj:=⟨(.type "frame"),none,.plain,Array.mk [(some (hR 249)),(some (hR 3)),(some (hR 246)),none,(some (hS "mustmay.errors" 435)),none,(some (hR 0))]⟩
noncomputable def o149:Obj:=hT [(hS "self" 470),(hS "room" 471),(hS "action" 472)]
noncomputable def o150:Obj:=hC "__init__" "BadPlan.__init__" (inClass (top 10) 0)
noncomputable def o151:Obj:=hK [(hS "__init__" 467),(hS "BadPlan.__init__" 468),(hS "/claim/cut.py" 469),(hI 83),(hI 3),(hI 0),(hI 0),(hI 3),(hR 251),(.bool true),(hI 181),(hR 252),.none,(hR 253),(hR 254),(hR 255),(hI 473),(hI 83),(hS "/claim/cut.py" 474)]
noncomputable def o152:Obj:=hF "__init__" "BadPlan.__init__" (inClass (top 10) 0) (hS "mustmay.errors" 435) (hR 256)
noncomputable def o153:Obj:=hT [(hS "action" 476),(hS "room" 477)]
noncomputable def o154 (P:Params):Obj:=hDn 2 [hE P "__module__" 462 (hS "mustmay.errors" 435),hE P "__firstlineno__" 466 (.int (81) 465),hE P "__init__" 475 (hR 257),hE P "__static_attributes__" 478 (hR 258),hE P "__doc__" 479 .none]
noncomputable def o155:Obj:=⟨(.type "type"),none,(.cls ⟨"BadPlan",[(hR 240)],[(hR 260),(hR 240),(.type "ValueError"),(.type "Exception"),(.type "BaseException"),(.type "object")],259,"BadPlan",true,[],[],false,none,false⟩),Array.mk [(some (hR 244)),none,(some (hS "BadPlan" 455)),(some (hS "BadPlan" 463)),(some (.builtin "ValueError.__new__")),(some (.bool true))]⟩
noncomputable def o156:Obj:=⟨(.type "super"),none,(.fields (Array.mk [(hR 260),(hR 260),(hR 260)])),Array.mk []⟩
noncomputable def o157:Obj:=⟨(.type "builtin_function_or_method"),none,(.fields (Array.mk [(.builtin "object.__init_subclass__"),(hR 260)])),Array.mk []⟩
noncomputable def o158:Obj:=hC "is_name" "is_name" (top 16)
noncomputable def o159:Obj:=hK [(hS "is_name" 492),(hS "is_name" 493),(hS "/claim/cut.py" 494),(hI 92),(hI 1),(hI 0),(hI 0),(hI 3),(hR 263),(.bool true),(hI 181),(hR 264),.none,.none,.none,(hR 265),(hI 495),(hI 92),(hS "/claim/cut.py" 496)]
noncomputable def o160:Obj:=hF "is_name" "is_name" (top 16) (hS "mustmay.plans" 482) (hR 266)
noncomputable def o161:Obj:=hC "is_action_list" "is_action_list" (top 17)
noncomputable def o162:Obj:=hK [(hS "is_action_list" 498),(hS "is_action_list" 499),(hS "/claim/cut.py" 500),(hI 96),(hI 1),(hI 0),(hI 0),(hI 3),(hR 268),(.bool true),(hI 181),(hR 269),.none,.none,.none,(hR 270),(hI 501),(hI 96),(hS "/claim/cut.py" 502)]
noncomputable def o163:Obj:=hF "is_action_list" "is_action_list" (top 17) (hS "mustmay.plans" 482) (hR 271)
noncomputable def o164:Obj:=hT [(hS "actions" 507)]
noncomputable def o165:Obj:=hC "need_actions" "need_actions" (top 18)
noncomputable def o166:Obj:=hK [(hS "need_actions" 504),(hS "need_actions" 505),(hS "/claim/cut.py" 506),(hI 100),(hI 1),(hI 0),(hI 0),(hI 3),(hR 273),(.bool true),(hI 181),(hR 274),.none,(hR 275),(hR 276),(hR 277),(hI 508),(hI 100),(hS "/claim/cut.py" 509)]
noncomputable def o167:Obj:=hF "need_actions" "need_actions" (top 18) (hS "mustmay.plans" 482) (hR 278)
noncomputable def o168:Obj:=hT [(hS "thing" 514),(hS "many" 515)]
noncomputable def o169:Obj:=hC "is_room" "is_room" (top 19)
noncomputable def o170:Obj:=hK [(hS "is_room" 511),(hS "is_room" 512),(hS "/claim/cut.py" 513),(hI 103),(hI 2),(hI 0),(hI 0),(hI 3),(hR 280),(.bool true),(hI 181),(hR 281),.none,(hR 282),(hR 283),(hR 284),(hI 516),(hI 103),(hS "/claim/cut.py" 517)]
noncomputable def o171:Obj:=hF "is_room" "is_room" (top 19) (hS "mustmay.plans" 482) (hR 285)
noncomputable def o172:Obj:=hT [(hS "thing" 522),(hS "many" 523),(hS "torn_too" 524),(hS "word" 525)]
noncomputable def o173:Obj:=hC "is_told_door" "is_told_door" (top 20)
noncomputable def o174:Obj:=hK [(hS "is_told_door" 519),(hS "is_told_door" 520),(hS "/claim/cut.py" 521),(hI 105),(hI 3),(hI 0),(hI 0),(hI 3),(hR 287),(.bool true),(hI 181),(hR 288),.none,(hR 289),(hR 290),(hR 291),(hI 526),(hI 105),(hS "/claim/cut.py" 527)]
noncomputable def o175:Obj:=hF "is_told_door" "is_told_door" (top 20) (hS "mustmay.plans" 482) (hR 292)
noncomputable def o176:Obj:=hT [(hS "rows" 532),(hS "many_actions" 533),(hS "torn_too" 534),(hS "room" 535),(hS "row" 536),(hS "action" 537),(hS "thing" 538)]
noncomputable def o177:Obj:=hC "need_rooms" "need_rooms" (top 21)
noncomputable def o178:Obj:=hK [(hS "need_rooms" 529),(hS "need_rooms" 530),(hS "/claim/cut.py" 531),(hI 114),(hI 3),(hI 0),(hI 0),(hI 3),(hR 294),(.bool true),(hI 181),(hR 295),.none,(hR 296),(hR 297),(hR 298),(hI 539),(hI 114),(hS "/claim/cut.py" 540)]
noncomputable def o179:Obj:=hF "need_rooms" "need_rooms" (top 21) (hS "mustmay.plans" 482) (hR 299)
noncomputable def o180:Obj:=hT [(hS "told" 545),(hS "word" 546)]
noncomputable def o181:Obj:=hC "made_door" "made_door" (top 22)
noncomputable def o182:Obj:=hK [(hS "made_door" 542),(hS "made_door" 543),(hS "/claim/cut.py" 544),(hI 123),(hI 1),(hI 0),(hI 0),(hI 3),(hR 301),(.bool true),(hI 181),(hR 302),.none,(hR 303),(hR 304),(hR 305),(hI 547),(hI 123),(hS "/claim/cut.py" 548)]
noncomputable def o183:Obj:=hF "made_door" "made_door" (top 22) (hS "mustmay.plans" 482) (hR 306)
noncomputable def o184:Obj:=hC "made_room" "made_room" (top 23)
noncomputable def o185:Obj:=hK [(hS "made_room" 550),(hS "made_room" 551),(hS "/claim/cut.py" 552),(hI 126),(hI 1),(hI 0),(hI 0),(hI 3),(hR 308),(.bool true),(hI 181),(hR 309),.none,.none,.none,(hR 310),(hI 553),(hI 126),(hS "/claim/cut.py" 554)]
noncomputable def o186:Obj:=hF "made_room" "made_room" (top 23) (hS "mustmay.plans" 482) (hR 311)
noncomputable def o187:Obj:=hC "told_room" "told_room" (top 24)
noncomputable def o188:Obj:=hK [(hS "told_room" 556),(hS "told_room" 557),(hS "/claim/cut.py" 558),(hI 128),(hI 1),(hI 0),(hI 0),(hI 3),(hR 313),(.bool true),(hI 181),(hR 314),.none,.none,.none,(hR 315),(hI 559),(hI 128),(hS "/claim/cut.py" 560)]
noncomputable def o189:Obj:=hF "told_room" "told_room" (top 24) (hS "mustmay.plans" 482) (hR 316)
noncomputable def o190 (P:Params):Obj:=hDn 12 [hE P "__module__" 569 (hS "mustmay.plans" 482),hE P "__qualname__" 571 (hS "Draft" 570),hE P "__firstlineno__" 573 (.int (130) 572),hE P "__init__" 579 (hR 329),hE P "lets_torn" 586 (hR 336),hE P "action_list" 593 (hR 343),hE P "many" 600 (hR 350),hE P "door" 610 (hR 357),hE P "told" 616 (hR 362),hE P "after" 624 (hR 369),hE P "is_finished" 631 (hR 376),hE P "__static_attributes__" 634 (hR 377)]
noncomputable def o191:Obj:=hN [(hI 132),(hI 4),(hR 328),(hI 138),(hI 4),(hR 335),(hI 141),(hI 4),(hR 342),(hI 144),(hI 4),(hR 349),(hI 147),(hI 4),(hR 356),(hI 151),(hI 4),(hR 361),(hI 154),(hI 4),(hR 368),(hI 157),(hI 4),(hR 375)]
noncomputable def o192:Obj:=hK [(hS "Draft" 564),(hS "Draft" 565),(hS "/claim/cut.py" 566),(hI 130),(hI 0),(hI 0),(hI 0),(hI 0),(hR 321),(.bool false),(hI 181),(hR 322),.none,.none,.none,.none,(hI 567),(hI 130),(hS "/claim/cut.py" 568)]
noncomputable def o193:Obj:=⟨(.type "frame"),none,.plain,Array.mk [(some (hR 323)),(some (hR 3)),(some (hR 320)),none,(some (hS "mustmay.plans" 482)),none,(some (hR 0))]⟩
noncomputable def o194:Obj:=hC "__init__" "Draft.__init__" (inClass (top 25) 0)
noncomputable def o195:Obj:=hK [(hS "__init__" 574),(hS "Draft.__init__" 575),(hS "/claim/cut.py" 576),(hI 132),(hI 3),(hI 0),(hI 0),(hI 3),(hR 325),(.bool true),(hI 181),(hR 326),.none,.none,.none,(hR 327),(hI 577),(hI 132),(hS "/claim/cut.py" 578)]
noncomputable def o196:Obj:=hF "__init__" "Draft.__init__" (inClass (top 25) 0) (hS "mustmay.plans" 482) (hR 328)
noncomputable def o197:Obj:=hT [(hS "self" 583)]
noncomputable def o198:Obj:=hC "lets_torn" "Draft.lets_torn" (inClass (top 25) 1)
noncomputable def o199:Obj:=hK [(hS "lets_torn" 580),(hS "Draft.lets_torn" 581),(hS "/claim/cut.py" 582),(hI 138),(hI 1),(hI 0),(hI 0),(hI 3),(hR 330),(.bool true),(hI 181),(hR 331),.none,(hR 332),(hR 333),(hR 334),(hI 584),(hI 138),(hS "/claim/cut.py" 585)]
noncomputable def o200:Obj:=hF "lets_torn" "Draft.lets_torn" (inClass (top 25) 1) (hS "mustmay.plans" 482) (hR 335)
noncomputable def o201:Obj:=hT [(hS "self" 590)]
noncomputable def o202:Obj:=hC "action_list" "Draft.action_list" (inClass (top 25) 2)
noncomputable def o203:Obj:=hK [(hS "action_list" 587),(hS "Draft.action_list" 588),(hS "/claim/cut.py" 589),(hI 141),(hI 1),(hI 0),(hI 0),(hI 3),(hR 337),(.bool true),(hI 181),(hR 338),.none,(hR 339),(hR 340),(hR 341),(hI 591),(hI 141),(hS "/claim/cut.py" 592)]
noncomputable def o204:Obj:=hF "action_list" "Draft.action_list" (inClass (top 25) 2) (hS "mustmay.plans" 482) (hR 342)
noncomputable def o205:Obj:=hT [(hS "self" 597)]
noncomputable def o206:Obj:=hC "many" "Draft.many" (inClass (top 25) 3)
noncomputable def o207:Obj:=hK [(hS "many" 594),(hS "Draft.many" 595),(hS "/claim/cut.py" 596),(hI 144),(hI 1),(hI 0),(hI 0),(hI 3),(hR 344),(.bool true),(hI 181),(hR 345),.none,(hR 346),(hR 347),(hR 348),(hI 598),(hI 144),(hS "/claim/cut.py" 599)]
noncomputable def o208:Obj:=hF "many" "Draft.many" (inClass (top 25) 3) (hS "mustmay.plans" 482) (hR 349)
noncomputable def o209:Obj:=hT [(hS "self" 604),(hS "room" 605),(hS "action" 606),(hS "kept" 607)]
noncomputable def o210:Obj:=hC "door" "Draft.door" (inClass (top 25) 4)
noncomputable def o211:Obj:=hK [(hS "door" 601),(hS "Draft.door" 602),(hS "/claim/cut.py" 603),(hI 147),(hI 3),(hI 0),(hI 0),(hI 3),(hR 351),(.bool true),(hI 181),(hR 352),.none,(hR 353),(hR 354),(hR 355),(hI 608),(hI 147),(hS "/claim/cut.py" 609)]
noncomputable def o212:Obj:=hF "door" "Draft.door" (inClass (top 25) 4) (hS "mustmay.plans" 482) (hR 356)
noncomputable def o213:Obj:=hC "told" "Draft.told" (inClass (top 25) 5)
noncomputable def o214:Obj:=hK [(hS "told" 611),(hS "Draft.told" 612),(hS "/claim/cut.py" 613),(hI 151),(hI 1),(hI 0),(hI 0),(hI 3),(hR 358),(.bool true),(hI 181),(hR 359),.none,.none,.none,(hR 360),(hI 614),(hI 151),(hS "/claim/cut.py" 615)]
noncomputable def o215:Obj:=hF "told" "Draft.told" (inClass (top 25) 5) (hS "mustmay.plans" 482) (hR 361)
noncomputable def o216:Obj:=hT [(hS "self" 620),(hS "row" 621)]
noncomputable def o217:Obj:=hC "after" "Draft.after" (inClass (top 25) 6)
noncomputable def o218:Obj:=hK [(hS "after" 617),(hS "Draft.after" 618),(hS "/claim/cut.py" 619),(hI 154),(hI 2),(hI 0),(hI 0),(hI 3),(hR 363),(.bool true),(hI 181),(hR 364),.none,(hR 365),(hR 366),(hR 367),(hI 622),(hI 154),(hS "/claim/cut.py" 623)]
noncomputable def o219:Obj:=hF "after" "Draft.after" (inClass (top 25) 6) (hS "mustmay.plans" 482) (hR 368)
noncomputable def o220:Obj:=hT [(hS "self" 628)]
noncomputable def o221:Obj:=hC "is_finished" "Draft.is_finished" (inClass (top 25) 7)
noncomputable def o222:Obj:=hK [(hS "is_finished" 625),(hS "Draft.is_finished" 626),(hS "/claim/cut.py" 627),(hI 157),(hI 1),(hI 0),(hI 0),(hI 3),(hR 370),(.bool true),(hI 181),(hR 371),.none,(hR 372),(hR 373),(hR 374),(hI 629),(hI 157),(hS "/claim/cut.py" 630)]
noncomputable def o223:Obj:=hF "is_finished" "Draft.is_finished" (inClass (top 25) 7) (hS "mustmay.plans" 482) (hR 375)
noncomputable def o224:Obj:=hT [(hS "actions" 632),(hS "rooms" 633)]
noncomputable def o225 (P:Params):Obj:=hDn 4 [hE P "__module__" 569 (hS "mustmay.plans" 482),hE P "__firstlineno__" 573 (.int (130) 572),hE P "__init__" 579 (hR 329),hE P "lets_torn" 586 (hR 336),hE P "action_list" 593 (hR 343),hE P "many" 600 (hR 350),hE P "door" 610 (hR 357),hE P "told" 616 (hR 362),hE P "after" 624 (hR 369),hE P "is_finished" 631 (hR 376),hE P "__static_attributes__" 634 (hR 377),hE P "__dict__" 636 (hR 380),hE P "__weakref__" 638 (hR 381),hE P "__doc__" 639 .none]
noncomputable def o226:Obj:=⟨(.type "type"),none,(.cls ⟨"Draft",[(.type "object")],[(hR 379),(.type "object")],378,"Draft",true,[],[],false,none,false⟩),Array.mk [none,none,(some (hS "Draft" 562)),(some (hS "Draft" 570)),(some (.builtin "object.__new__")),(some (.bool true))]⟩
noncomputable def o227:Obj:=⟨(.type "getset_descriptor"),none,(.fields (Array.mk [(hS "__dict__" 635),(hR 379),(.builtin "function.__dict__"),(.builtin "function.__dict__#set")])),Array.mk []⟩
noncomputable def o228:Obj:=⟨(.type "getset_descriptor"),none,(.fields (Array.mk [(hS "__weakref__" 637),(hR 379),(.builtin "ExceptionGroup.__weakref__"),.none])),Array.mk []⟩
noncomputable def o229:Obj:=⟨(.type "super"),none,(.fields (Array.mk [(hR 379),(hR 379),(hR 379)])),Array.mk []⟩
noncomputable def o230:Obj:=⟨(.type "builtin_function_or_method"),none,(.fields (Array.mk [(.builtin "object.__init_subclass__"),(hR 379)])),Array.mk []⟩
noncomputable def o231:Obj:=hT [(hS "door" 647),(hS "ranks" 648)]
noncomputable def o232:Obj:=hC "rank_behind" "rank_behind" (top 27)
noncomputable def o233:Obj:=hK [(hS "rank_behind" 644),(hS "rank_behind" 645),(hS "/claim/cut.py" 646),(hI 160),(hI 2),(hI 0),(hI 0),(hI 3),(hR 384),(.bool true),(hI 181),(hR 385),.none,(hR 386),(hR 387),(hR 388),(hI 649),(hI 160),(hS "/claim/cut.py" 650)]
noncomputable def o234:Obj:=hF "rank_behind" "rank_behind" (top 27) (hS "mustmay.cleaning" 642) (hR 389)
noncomputable def o235:Obj:=hT [(hS "draft" 655),(hS "row" 656),(hS "ranks" 657),(hS "room" 658),(hS "rank" 659),(hS "action" 660),(hS "behind" 661)]
noncomputable def o236:Obj:=hC "is_borne_out" "is_borne_out" (top 28)
noncomputable def o237:Obj:=hK [(hS "is_borne_out" 652),(hS "is_borne_out" 653),(hS "/claim/cut.py" 654),(hI 166),(hI 3),(hI 0),(hI 0),(hI 3),(hR 391),(.bool true),(hI 181),(hR 392),.none,(hR 393),(hR 394),(hR 395),(hI 662),(hI 166),(hS "/claim/cut.py" 663)]
noncomputable def o238:Obj:=hF "is_borne_out" "is_borne_out" (top 28) (hS "mustmay.cleaning" 642) (hR 396)
noncomputable def o239:Obj:=hC "is_torn_row" "is_torn_row" (top 29)
noncomputable def o240:Obj:=hK [(hS "is_torn_row" 665),(hS "is_torn_row" 666),(hS "/claim/cut.py" 667),(hI 174),(hI 2),(hI 0),(hI 0),(hI 3),(hR 398),(.bool true),(hI 181),(hR 399),.none,.none,.none,(hR 400),(hI 668),(hI 174),(hS "/claim/cut.py" 669)]
noncomputable def o241:Obj:=hF "is_torn_row" "is_torn_row" (top 29) (hS "mustmay.cleaning" 642) (hR 401)
noncomputable def o242:Obj:=hT [(hS "_law_script" 676),(hS "_law_k" 677)]
noncomputable def o243:Obj:=hC "_law_cell_at" "_law_cell_at" (top 31)
noncomputable def o244:Obj:=hK [(hS "_law_cell_at" 673),(hS "_law_cell_at" 674),(hS "/claim/cut.py" 675),(hI 180),(hI 2),(hI 0),(hI 0),(hI 3),(hR 403),(.bool true),(hI 181),(hR 404),.none,(hR 405),(hR 406),(hR 407),(hI 678),(hI 180),(hS "/claim/cut.py" 679)]
noncomputable def o245:Obj:=hF "_law_cell_at" "_law_cell_at" (top 31) (hS "law_mustmay_k42_ranked_rows_let_by" 671) (hR 408)
noncomputable def o246:Obj:=hT [(hS "_law_cell" 684),(hS "_law_k" 685),(hS "_law_number_here" 686)]
noncomputable def o247:Obj:=hC "_law_mixed" "_law_mixed" (top 32)
noncomputable def o248:Obj:=hK [(hS "_law_mixed" 681),(hS "_law_mixed" 682),(hS "/claim/cut.py" 683),(hI 184),(hI 2),(hI 0),(hI 0),(hI 3),(hR 410),(.bool true),(hI 181),(hR 411),.none,(hR 412),(hR 413),(hR 414),(hI 687),(hI 184),(hS "/claim/cut.py" 688)]
noncomputable def o249:Obj:=hF "_law_mixed" "_law_mixed" (top 32) (hS "law_mustmay_k42_ranked_rows_let_by" 671) (hR 415)
noncomputable def o250:Obj:=hC "_law_names" "_law_names" (top 33)
noncomputable def o251:Obj:=hK [(hS "_law_names" 690),(hS "_law_names" 691),(hS "/claim/cut.py" 692),(hI 188),(hI 2),(hI 0),(hI 0),(hI 3),(hR 417),(.bool true),(hI 181),(hR 418),.none,.none,.none,(hR 419),(hI 693),(hI 188),(hS "/claim/cut.py" 694)]
noncomputable def o252:Obj:=hF "_law_names" "_law_names" (top 33) (hS "law_mustmay_k42_ranked_rows_let_by" 671) (hR 420)
noncomputable def o253:Obj:=hT [(hS "_law_number_here" 699),(hS "_law_rooms" 700),(hS "_law_torn" 701),(hS "_law_way" 702)]
noncomputable def o254:Obj:=hC "_law_door" "_law_door" (top 34)
noncomputable def o255:Obj:=hK [(hS "_law_door" 696),(hS "_law_door" 697),(hS "/claim/cut.py" 698),(hI 197),(hI 3),(hI 0),(hI 0),(hI 3),(hR 422),(.bool true),(hI 181),(hR 423),.none,(hR 424),(hR 425),(hR 426),(hI 703),(hI 197),(hS "/claim/cut.py" 704)]
noncomputable def o256:Obj:=hF "_law_door" "_law_door" (top 34) (hS "law_mustmay_k42_ranked_rows_let_by" 671) (hR 427)
noncomputable def o257:Obj:=hC "_law_rows" "_law_rows" (top 35)
noncomputable def o258:Obj:=hK [(hS "_law_rows" 706),(hS "_law_rows" 707),(hS "/claim/cut.py" 708),(hI 206),(hI 3),(hI 0),(hI 0),(hI 3),(hR 429),(.bool true),(hI 181),(hR 430),.none,.none,.none,(hR 431),(hI 709),(hI 206),(hS "/claim/cut.py" 710)]
noncomputable def o259:Obj:=hF "_law_rows" "_law_rows" (top 35) (hS "law_mustmay_k42_ranked_rows_let_by" 671) (hR 432)
noncomputable def o260:Obj:=hT [(hS "_law_cell" 715)]
noncomputable def o261:Obj:=hC "_law_many" "_law_many" (top 36)
noncomputable def o262:Obj:=hK [(hS "_law_many" 712),(hS "_law_many" 713),(hS "/claim/cut.py" 714),(hI 212),(hI 1),(hI 0),(hI 0),(hI 3),(hR 434),(.bool true),(hI 181),(hR 435),.none,(hR 436),(hR 437),(hR 438),(hI 716),(hI 212),(hS "/claim/cut.py" 717)]
noncomputable def o263:Obj:=hF "_law_many" "_law_many" (top 36) (hS "law_mustmay_k42_ranked_rows_let_by" 671) (hR 439)
noncomputable def o264:Obj:=hT [(hS "_law_doors" 722),(hS "_law_ranks_here" 723),(hS "_law_rank" 724),(hS "_law_action" 725),(hS "_law_door_here" 726)]
noncomputable def o265:Obj:=hC "_law_why" "_law_why" (top 37)
noncomputable def o266:Obj:=hK [(hS "_law_why" 719),(hS "_law_why" 720),(hS "/claim/cut.py" 721),(hI 216),(hI 3),(hI 0),(hI 0),(hI 3),(hR 441),(.bool true),(hI 181),(hR 442),.none,(hR 443),(hR 444),(hR 445),(hI 727),(hI 216),(hS "/claim/cut.py" 728)]
noncomputable def o267:Obj:=hF "_law_why" "_law_why" (top 37) (hS "law_mustmay_k42_ranked_rows_let_by" 671) (hR 446)
noncomputable def o268:Obj:=hT [(hS "_law_rows_here" 733),(hS "_law_ranks_here" 734),(hS "_law_told" 735),(hS "_law_rank" 736),(hS "_law_fresh" 737),(hS "_law_room" 738),(hS "_law_place" 739),(hS "_law_action" 740)]
noncomputable def o269:Obj:=hC "_law_ranks" "_law_ranks" (top 38)
noncomputable def o270:Obj:=hK [(hS "_law_ranks" 730),(hS "_law_ranks" 731),(hS "/claim/cut.py" 732),(hI 223),(hI 1),(hI 0),(hI 0),(hI 3),(hR 448),(.bool true),(hI 181),(hR 449),.none,(hR 450),(hR 451),(hR 452),(hI 741),(hI 223),(hS "/claim/cut.py" 742)]
noncomputable def o271:Obj:=hF "_law_ranks" "_law_ranks" (top 38) (hS "law_mustmay_k42_ranked_rows_let_by" 671) (hR 453)
noncomputable def o272:Obj:=hT [(hS "_law_number_here" 747),(hS "_law_most" 748),(hS "_law_way" 749)]
noncomputable def o273:Obj:=hC "_law_number" "_law_number" (top 39)
noncomputable def o274:Obj:=hK [(hS "_law_number" 744),(hS "_law_number" 745),(hS "/claim/cut.py" 746),(hI 235),(hI 2),(hI 0),(hI 0),(hI 3),(hR 455),(.bool true),(hI 181),(hR 456),.none,(hR 457),(hR 458),(hR 459),(hI 750),(hI 235),(hS "/claim/cut.py" 751)]
noncomputable def o275:Obj:=hF "_law_number" "_law_number" (top 39) (hS "law_mustmay_k42_ranked_rows_let_by" 671) (hR 460)
noncomputable def o276:Obj:=hT [(hS "_law_row" 756),(hS "_law_cell" 757),(hS "_law_rooms" 758),(hS "_law_many_here" 759),(hS "_law_number_here" 760),(hS "_law_fresh" 761),(hS "_law_at" 762),(hS "_law_room" 763),(hS "_law_rank" 764),(hS "_law_action" 765)]
noncomputable def o277:Obj:=hC "_law_changed" "_law_changed" (top 40)
noncomputable def o278:Obj:=hK [(hS "_law_changed" 753),(hS "_law_changed" 754),(hS "/claim/cut.py" 755),(hI 244),(hI 4),(hI 0),(hI 0),(hI 3),(hR 462),(.bool true),(hI 181),(hR 463),.none,(hR 464),(hR 465),(hR 466),(hI 766),(hI 244),(hS "/claim/cut.py" 767)]
noncomputable def o279:Obj:=hF "_law_changed" "_law_changed" (top 40) (hS "law_mustmay_k42_ranked_rows_let_by" 671) (hR 467)
noncomputable def o280:Obj:=hC "_law_leans" "_law_leans" (top 41)
noncomputable def o281:Obj:=hK [(hS "_law_leans" 769),(hS "_law_leans" 770),(hS "/claim/cut.py" 771),(hI 263),(hI 3),(hI 0),(hI 0),(hI 3),(hR 469),(.bool true),(hI 181),(hR 470),.none,.none,.none,(hR 471),(hI 772),(hI 263),(hS "/claim/cut.py" 773)]
noncomputable def o282:Obj:=hF "_law_leans" "_law_leans" (top 41) (hS "law_mustmay_k42_ranked_rows_let_by" 671) (hR 472)
noncomputable def o283:Obj:=hC "law" "law" (top 42)
noncomputable def o284:Obj:=hK [(hS "law" 775),(hS "law" 776),(hS "/claim/cut.py" 777),(hI 272),(hI 1),(hI 0),(hI 0),(hI 3),(hR 474),(.bool true),(hI 181),(hR 475),.none,.none,.none,(hR 476),(hI 778),(hI 272),(hS "/claim/cut.py" 779)]
noncomputable def o285:Obj:=hF "law" "law" (top 42) (hS "law_mustmay_k42_ranked_rows_let_by" 671) (hR 477)
noncomputable def HA (P:Params):Heap:=⟨Array.mk [boot_o_0 P,boot_o_1 P,boot_o_2 P,boot_o_3 P,boot_o_4 P,boot_o_5 P,boot_o_6 P,boot_o_7 P,boot_o_8 P,boot_o_9 P,boot_o_10 P,hT [],hN [],o0,o1],{}⟩
noncomputable def TB (P:Params):BT:=(.node (boot_o_0 P) (.node (boot_o_1 P) (.node (boot_o_3 P) (.node (boot_o_7 P) .nil .nil) (.node (hT []) .nil .nil)) (.node (boot_o_5 P) (.node (boot_o_9 P) .nil .nil) (.node (o0) .nil .nil))) (.node (boot_o_2 P) (.node (boot_o_4 P) (.node (boot_o_8 P) .nil .nil) (.node (hN []) .nil .nil)) (.node (boot_o_6 P) (.node (boot_o_10 P) .nil .nil) (.node (o1) .nil .nil))))
noncomputable def TF (P:Params):BT:=(.node (boot_o_0 P) (.node (boot_o_1 P) (.node (o2 P) (.node (boot_o_7 P) (.node (hT []) (.node (o13) (.node (o35) (.node (o73) (.node (o150) .nil .nil) (.node (o230) .nil .nil)) (.node (hT []) (.node (o8) .nil .nil) (.node (o267) .nil .nil))) (.node (o54) (.node (hN []) (.node (hT []) .nil .nil) (.node (o248) .nil .nil)) (.node (o131) (.node (hT []) .nil .nil) .nil))) (.node (o25) (.node (hN []) (.node (o83) (.node (o162) .nil .nil) (.node (hN []) .nil .nil)) (.node (o120) (.node (o199) .nil .nil) (.node (hN []) .nil .nil))) (.node (hT []) (.node (o102) (.node (o180) .nil .nil) (.node (o257) .nil .nil)) (.node (o140 P) (.node (o217) .nil .nil) .nil)))) (.node (o8) (.node (hT []) (.node (hT []) (.node (o78) (.node (hT []) .nil .nil) (.node (hT []) .nil .nil)) (.node (hN []) (.node (o194) .nil .nil) (.node (hT []) .nil .nil))) (.node (o59) (.node (o96) (.node (hN []) .nil .nil) (.node (hN []) .nil .nil)) (.node (o136) (.node (hN []) .nil .nil) .nil))) (.node (o30) (.node (o49) (.node (hT []) (.node (o167) .nil .nil) (.node (o243) .nil .nil)) (.node (hT []) (.node (o204) .nil .nil) (.node (o280) .nil .nil))) (.node (hN []) (.node (o107) (.node (o185) .nil .nil) (.node (o262) .nil .nil)) (.node (hT []) (.node (o222) .nil .nil) .nil))))) (.node (hT []) (.node (o5) (.node (o16) (.node (hT []) (.node (o8) (.node (o154 P) .nil .nil) (.node (hT []) .nil .nil)) (.node (o113) (.node (o192) .nil .nil) (.node (hT []) .nil .nil))) (.node (o56) (.node (o94) (.node (o173) .nil .nil) (.node (o250) .nil .nil)) (.node (hT []) (.node (o210) .nil .nil) .nil))) (.node (o8) (.node (o46) (.node (hT []) (.node (o164) .nil .nil) (.node (hT []) .nil .nil)) (.node (o123) (.node (o201) .nil .nil) (.node (o278) .nil .nil))) (.node (o65) (.node (o104 P) (.node (o183) .nil .nil) (.node (hN []) .nil .nil)) (.node (o144) (.node (hN []) .nil .nil) .nil)))) (.node (o11) (.node (o21) (.node (o41) (.node (o80) (.node (o160) .nil .nil) (.node (o236) .nil .nil)) (.node (o118) (.node (hN []) .nil .nil) (.node (o273) .nil .nil))) (.node (hT []) (.node (o99) (.node (o178) .nil .nil) (.node (o255) .nil .nil)) (.node (hN []) (.node (hT []) .nil .nil) .nil))) (.node (o32) (.node (o8) (.node (o89) (.node (hT []) .nil .nil) (.node (hN []) .nil .nil)) (.node (hT []) (.node (hT []) .nil .nil) (.node (hN []) .nil .nil))) (.node (o70) (.node (hT []) (.node (o187) .nil .nil) (.node (o264) .nil .nil)) (.node (hT []) (.node (o226) .nil .nil) .nil)))))) (.node (boot_o_5 P) (.node (boot_o_9 P) (.node (o4) (.node (o14) (.node (hN []) (.node (o75) (.node (o152) .nil .nil) (.node (hN []) .nil .nil)) (.node (o112) (.node (hT []) .nil .nil) (.node (hN []) .nil .nil))) (.node (hT []) (.node (hT []) (.node (o172) .nil .nil) (.node (hT []) .nil .nil)) (.node (hN []) (.node (o209) .nil .nil) .nil))) (.node (o27) (.node (hT []) (.node (hN []) (.node (hT []) .nil .nil) (.node (o240) .nil .nil)) (.node (o121) (.node (hT []) .nil .nil) (.node (hT []) .nil .nil))) (.node (o64) (.node (hT [(hR 45)]) (.node (o181) .nil .nil) (.node (o259) .nil .nil)) (.node (o142) (.node (o219) .nil .nil) .nil)))) (.node (hT []) (.node (o19) (.node (o40) (.node (hT []) (.node (o158) .nil .nil) (.node (o235) .nil .nil)) (.node (hT []) (.node (o196) .nil .nil) (.node (o272) .nil .nil))) (.node (hN []) (.node (o97) (.node (hT []) .nil .nil) (.node (hT []) .nil .nil)) (.node (o137 P) (.node (o214) .nil .nil) .nil))) (.node (hT []) (.node (o51) (.node (o88) (.node (hN []) .nil .nil) (.node (o245) .nil .nil)) (.node (o126) (.node (hN []) .nil .nil) (.node (o282) .nil .nil))) (.node (hT []) (.node (hN []) (.node (hT []) .nil .nil) (.node (hT []) .nil .nil)) (.node (o147) (.node (o224) .nil .nil) .nil))))) (.node (o0) (.node (o7) (.node (hN []) (.node (o38) (.node (hT []) (.node (o156) .nil .nil) (.node (o233) .nil .nil)) (.node (o115) (.node (hT []) .nil .nil) (.node (o270) .nil .nil))) (.node (o57) (.node (hT []) (.node (o175) .nil .nil) (.node (o252) .nil .nil)) (.node (o134) (.node (o212) .nil .nil) .nil))) (.node (hT []) (.node (hT []) (.node (o86) (.node (o165) .nil .nil) (.node (o242) .nil .nil)) (.node (hN []) (.node (o202) .nil .nil) (.node (hT []) .nil .nil))) (.node (o67) (.node (o105) (.node (hN []) .nil .nil) (.node (hT []) .nil .nil)) (.node (o8) (.node (hT []) .nil .nil) .nil)))) (.node (hT []) (.node (o23) (.node (o43) (.node (o81) (.node (hN []) .nil .nil) (.node (o238) .nil .nil)) (.node (hT []) (.node (hT []) .nil .nil) (.node (o275) .nil .nil))) (.node (o62) (.node (o100 P) (.node (hT []) .nil .nil) (.node (hT []) .nil .nil)) (.node (o139) (.node (o216) .nil .nil) .nil))) (.node (o33) (.node (hT []) (.node (o91) (.node (o170) .nil .nil) (.node (hT []) .nil .nil)) (.node (o129) (.node (o207) .nil .nil) (.node (o284) .nil .nil))) (.node (hT []) (.node (o110) (.node (o189) .nil .nil) (.node (o265) .nil .nil)) (.node (o149) (.node (o228) .nil .nil) .nil))))))) (.node (boot_o_2 P) (.node (boot_o_4 P) (.node (boot_o_8 P) (.node (hN []) (.node (hT []) (.node (hT []) (.node (o74) (.node (o151) .nil .nil) (.node (hT []) .nil .nil)) (.node (hN []) (.node (o190 P) .nil .nil) (.node (hT []) .nil .nil))) (.node (o55) (.node (o92) (.node (hN []) .nil .nil) (.node (o249) .nil .nil)) (.node (hT []) (.node (hN []) .nil .nil) .nil))) (.node (o26) (.node (o44) (.node (hT []) (.node (o163) .nil .nil) (.node (o239) .nil .nil)) (.node (hT []) (.node (o200) .nil .nil) (.node (o276) .nil .nil))) (.node (hN []) (.node (o103) (.node (hT []) .nil .nil) (.node (o258) .nil .nil)) (.node (o141) (.node (o218) .nil .nil) .nil)))) (.node (o9 P) (.node (o18) (.node (hN []) (.node (o79) (.node (hN []) .nil .nil) (.node (hN []) .nil .nil)) (.node (o116) (.node (o195) .nil .nil) (.node (hN []) .nil .nil))) (.node (hT []) (.node (hT []) (.node (o176) .nil .nil) (.node (o253) .nil .nil)) (.node (o8) (.node (o213) .nil .nil) .nil))) (.node (o31) (.node (o50) (.node (hN []) (.node (hT []) .nil .nil) (.node (o244) .nil .nil)) (.node (o125) (.node (hT []) .nil .nil) (.node (o281) .nil .nil))) (.node (o68) (.node (hT []) (.node (o186) .nil .nil) (.node (o263) .nil .nil)) (.node (o146) (.node (o223) .nil .nil) .nil))))) (.node (o3) (.node (o6) (.node (hT []) (.node (o37) (.node (o76 P) (.node (o155) .nil .nil) (.node (o232) .nil .nil)) (.node (o114) (.node (o193) .nil .nil) (.node (o269) .nil .nil))) (.node (hT []) (.node (o95) (.node (o174) .nil .nil) (.node (o251) .nil .nil)) (.node (o133) (.node (o211) .nil .nil) .nil))) (.node (o28 P) (.node (o47) (.node (o85) (.node (hT []) .nil .nil) (.node (hN []) .nil .nil)) (.node (hT []) (.node (hT []) .nil .nil) (.node (o279) .nil .nil))) (.node (o66) (.node (hT []) (.node (hT []) .nil .nil) (.node (o260) .nil .nil)) (.node (hT [(hR 240)]) (.node (o220) .nil .nil) .nil)))) (.node (o12) (.node (o22 P) (.node (o42) (.node (hT []) (.node (hT []) .nil .nil) (.node (o237) .nil .nil)) (.node (o119) (.node (o197) .nil .nil) (.node (o274) .nil .nil))) (.node (o61) (.node (hT []) (.node (o179) .nil .nil) (.node (o256) .nil .nil)) (.node (o138) (.node (hN []) .nil .nil) .nil))) (.node (hT []) (.node (o52 P) (.node (o90) (.node (o169) .nil .nil) (.node (o246) .nil .nil)) (.node (o128 P) (.node (o206) .nil .nil) (.node (o283) .nil .nil))) (.node (o71) (.node (o109) (.node (o188) .nil .nil) (.node (hT []) .nil .nil)) (.node (hN []) (.node (o227) .nil .nil) .nil)))))) (.node (boot_o_6 P) (.node (boot_o_10 P) (.node (hT []) (.node (o15) (.node (o36) (.node (hT [(hR 45)]) (.node (o153) .nil .nil) (.node (o231) .nil .nil)) (.node (hT []) (.node (o191) .nil .nil) (.node (o268) .nil .nil))) (.node (hN []) (.node (o93) (.node (hT []) .nil .nil) (.node (hN []) .nil .nil)) (.node (o132) (.node (hT []) .nil .nil) .nil))) (.node (hT [(hR 45)]) (.node (o45) (.node (o84) (.node (hN []) .nil .nil) (.node (o241) .nil .nil)) (.node (o122) (.node (hN []) .nil .nil) (.node (o277) .nil .nil))) (.node (hT []) (.node (o8) (.node (o182) .nil .nil) (.node (hT []) .nil .nil)) (.node (o143) (.node (hT []) .nil .nil) .nil)))) (.node (o10) (.node (o20) (.node (hT []) (.node (hN []) (.node (o159) .nil .nil) (.node (hT []) .nil .nil)) (.node (o117) (.node (hT []) .nil .nil) (.node (hT []) .nil .nil))) (.node (o60) (.node (o98) (.node (o177) .nil .nil) (.node (o254) .nil .nil)) (.node (hT []) (.node (o215) .nil .nil) .nil))) (.node (hN []) (.node (hT [(hR 45)]) (.node (hT []) (.node (o168) .nil .nil) (.node (hT []) .nil .nil)) (.node (o127) (.node (o205) .nil .nil) (.node (hT []) .nil .nil))) (.node (o69) (.node (o108) (.node (hN []) .nil .nil) (.node (hN []) .nil .nil)) (.node (o148) (.node (o225 P) .nil .nil) .nil))))) (.node (o1) (.node (hT []) (.node (o17) (.node (o39) (.node (o77) (.node (o157) .nil .nil) (.node (o234) .nil .nil)) (.node (hT []) (.node (hN []) .nil .nil) (.node (o271) .nil .nil))) (.node (o58) (.node (hN []) (.node (hT []) .nil .nil) (.node (hT []) .nil .nil)) (.node (o135) (.node (hT []) .nil .nil) .nil))) (.node (o29) (.node (o48 P) (.node (o87) (.node (o166) .nil .nil) (.node (hT []) .nil .nil)) (.node (o124) (.node (o203) .nil .nil) (.node (hN []) .nil .nil))) (.node (hT []) (.node (o106) (.node (o184) .nil .nil) (.node (o261) .nil .nil)) (.node (o145 P) (.node (o221) .nil .nil) .nil)))) (.node (hN []) (.node (o24) (.node (hT []) (.node (o82) (.node (o161) .nil .nil) (.node (hT []) .nil .nil)) (.node (hN []) (.node (o198) .nil .nil) (.node (hT []) .nil .nil))) (.node (o63) (.node (o101) (.node (hN []) .nil .nil) (.node (hN []) .nil .nil)) (.node (hT []) (.node (hT []) .nil .nil) .nil))) (.node (o34) (.node (o53) (.node (hT []) (.node (o171) .nil .nil) (.node (o247) .nil .nil)) (.node (o130) (.node (o208) .nil .nil) (.node (o285) .nil .nil))) (.node (o72 P) (.node (o111) (.node (hT []) .nil .nil) (.node (o266) .nil .nil)) (.node (hT []) (.node (o229) .nil .nil) .nil))))))))
noncomputable def HF (P:Params):Heap:=⟨Array.mk [boot_o_0 P,boot_o_1 P,boot_o_2 P,o2 P,boot_o_4 P,boot_o_5 P,boot_o_6 P,boot_o_7 P,boot_o_8 P,boot_o_9 P,boot_o_10 P,hT [],o3,o0,o1,hT [],hN [],o4,hT [],o5,o6,o7,hT [],o8,o9 P,hT [],o10,o11,o12,hT [],hN [],o13,hT [],o14,o15,o16,hT [],hN [],o17,hT [],o18,o19,o20,o21,o22 P,o23,o24,o25,o26,o27,hT [(hR 45)],o8,o28 P,hT [],o29,o30,o31,hT [],hN [],o32,hT [],o33,o34,o35,hT [],hN [],o36,hT [],o37,o38,o39,hT [],hN [],o40,hT [],o41,o42,o43,hT [],hN [],o44,hT [],o45,o46,o47,hT [],o48 P,o49,o50,o51,hT [(hR 45)],o8,o52 P,hT [],o53,o54,o55,hT [],hN [],o56,hT [],o57,o58,o59,hT [],hN [],o60,hT [],o61,o62,o63,hT [],hN [],o64,hT [],o65,o66,o67,hT [],hN [],o68,hT [],o69,o70,o71,hT [],o72 P,o73,o74,o75,hT [(hR 45)],o8,o76 P,hT [],o77,o78,o79,hT [],hN [],o80,hT [],o81,o82,o83,hT [],hN [],o84,hT [],o85,o86,o87,hT [],hN [],o88,hT [],o89,o90,o91,hT [],hN [],o92,hT [],o93,o94,o95,hT [],hN [],o96,hT [],o97,o98,o99,hT [],o100 P,o101,o102,o103,hT [(hR 45)],o8,o104 P,hT [],o105,o106,o107,hT [],hN [],o108,hT [],o109,o110,o111,hT [],hN [],o112,hT [],o113,o114,o115,hT [],hN [],o116,hT [],o117,o118,o119,hT [],hN [],o120,hT [],o121,o122,o123,hT [],hN [],o124,hT [],o125,o126,o127,hT [],o128 P,o129,o130,o131,hT [],hN [],o132,hT [],o133,o134,o135,o136,o8,o137 P,hT [],hN [],o138,o139,hT [],o140 P,o141,o142,o143,o144,hT [(hR 240)],o8,o145 P,hT [],o146,o147,o148,hT [],hN [],o149,hT [],o150,o151,o152,o153,o154 P,o155,o156,o157,hT [],hN [],o158,o159,o160,hT [],hN [],o161,o162,o163,hT [],hN [],o164,hT [],o165,o166,o167,hT [],hN [],o168,hT [],o169,o170,o171,hT [],hN [],o172,hT [],o173,o174,o175,hT [],hN [],o176,hT [],o177,o178,o179,hT [],hN [],o180,hT [],o181,o182,o183,hT [],hN [],o184,o185,o186,hT [],hN [],o187,o188,o189,hT [],o8,o190 P,hT [],o191,o192,o193,hT [],hN [],o194,o195,o196,hT [],hN [],o197,hT [],o198,o199,o200,hT [],hN [],o201,hT [],o202,o203,o204,hT [],hN [],o205,hT [],o206,o207,o208,hT [],hN [],o209,hT [],o210,o211,o212,hT [],hN [],o213,o214,o215,hT [],hN [],o216,hT [],o217,o218,o219,hT [],hN [],o220,hT [],o221,o222,o223,o224,o225 P,o226,o227,o228,o229,o230,hT [],hN [],o231,hT [],o232,o233,o234,hT [],hN [],o235,hT [],o236,o237,o238,hT [],hN [],o239,o240,o241,hT [],hN [],o242,hT [],o243,o244,o245,hT [],hN [],o246,hT [],o247,o248,o249,hT [],hN [],o250,o251,o252,hT [],hN [],o253,hT [],o254,o255,o256,hT [],hN [],o257,o258,o259,hT [],hN [],o260,hT [],o261,o262,o263,hT [],hN [],o264,hT [],o265,o266,o267,hT [],hN [],o268,hT [],o269,o270,o271,hT [],hN [],o272,hT [],o273,o274,o275,hT [],hN [],o276,hT [],o277,o278,o279,hT [],hN [],o280,o281,o282,hT [],hN [],o283,o284,o285],{}⟩
noncomputable def KK:Params→Frag:=fun P=>(nat_lit 2,boot_o_2 P) :: (nat_lit 3,o2 P) :: (nat_lit 15,hT []) :: (nat_lit 17,o4) :: (nat_lit 18,hT []) :: (nat_lit 20,o6) :: (nat_lit 21,o7) :: (nat_lit 29,hT []) :: (nat_lit 31,o13) :: (nat_lit 32,hT []) :: (nat_lit 34,o15) :: (nat_lit 35,o16) :: (nat_lit 36,hT []) :: (nat_lit 38,o17) :: (nat_lit 39,hT []) :: (nat_lit 41,o19) :: (nat_lit 42,o20) :: (nat_lit 43,o21) :: (nat_lit 44,o22 P) :: (nat_lit 45,o23) :: (nat_lit 46,o24) :: (nat_lit 47,o25) :: (nat_lit 50,hT [(hR 45)]) :: (nat_lit 57,hT []) :: (nat_lit 59,o32) :: (nat_lit 60,hT []) :: (nat_lit 62,o34) :: (nat_lit 63,o35) :: (nat_lit 64,hT []) :: (nat_lit 66,o36) :: (nat_lit 67,hT []) :: (nat_lit 69,o38) :: (nat_lit 70,o39) :: (nat_lit 71,hT []) :: (nat_lit 73,o40) :: (nat_lit 74,hT []) :: (nat_lit 76,o42) :: (nat_lit 77,o43) :: (nat_lit 78,hT []) :: (nat_lit 80,o44) :: (nat_lit 81,hT []) :: (nat_lit 83,o46) :: (nat_lit 84,o47) :: (nat_lit 85,hT []) :: (nat_lit 86,o48 P) :: (nat_lit 87,o49) :: (nat_lit 90,hT [(hR 45)]) :: (nat_lit 97,hT []) :: (nat_lit 99,o56) :: (nat_lit 100,hT []) :: (nat_lit 102,o58) :: (nat_lit 103,o59) :: (nat_lit 104,hT []) :: (nat_lit 106,o60) :: (nat_lit 107,hT []) :: (nat_lit 109,o62) :: (nat_lit 110,o63) :: (nat_lit 111,hT []) :: (nat_lit 113,o64) :: (nat_lit 114,hT []) :: (nat_lit 116,o66) :: (nat_lit 117,o67) :: (nat_lit 118,hT []) :: (nat_lit 120,o68) :: (nat_lit 121,hT []) :: (nat_lit 123,o70) :: (nat_lit 124,o71) :: (nat_lit 125,hT []) :: (nat_lit 126,o72 P) :: (nat_lit 127,o73) :: (nat_lit 130,hT [(hR 45)]) :: (nat_lit 137,hT []) :: (nat_lit 139,o80) :: (nat_lit 140,hT []) :: (nat_lit 142,o82) :: (nat_lit 143,o83) :: (nat_lit 144,hT []) :: (nat_lit 146,o84) :: (nat_lit 147,hT []) :: (nat_lit 149,o86) :: (nat_lit 150,o87) :: (nat_lit 151,hT []) :: (nat_lit 153,o88) :: (nat_lit 154,hT []) :: (nat_lit 156,o90) :: (nat_lit 157,o91) :: (nat_lit 158,hT []) :: (nat_lit 160,o92) :: (nat_lit 161,hT []) :: (nat_lit 163,o94) :: (nat_lit 164,o95) :: (nat_lit 165,hT []) :: (nat_lit 167,o96) :: (nat_lit 168,hT []) :: (nat_lit 170,o98) :: (nat_lit 171,o99) :: (nat_lit 172,hT []) :: (nat_lit 173,o100 P) :: (nat_lit 174,o101) :: (nat_lit 177,hT [(hR 45)]) :: (nat_lit 184,hT []) :: (nat_lit 186,o108) :: (nat_lit 187,hT []) :: (nat_lit 189,o110) :: (nat_lit 190,o111) :: (nat_lit 191,hT []) :: (nat_lit 193,o112) :: (nat_lit 194,hT []) :: (nat_lit 196,o114) :: (nat_lit 197,o115) :: (nat_lit 198,hT []) :: (nat_lit 200,o116) :: (nat_lit 201,hT []) :: (nat_lit 203,o118) :: (nat_lit 204,o119) :: (nat_lit 205,hT []) :: (nat_lit 207,o120) :: (nat_lit 208,hT []) :: (nat_lit 210,o122) :: (nat_lit 211,o123) :: (nat_lit 212,hT []) :: (nat_lit 214,o124) :: (nat_lit 215,hT []) :: (nat_lit 217,o126) :: (nat_lit 218,o127) :: (nat_lit 219,hT []) :: (nat_lit 220,o128 P) :: (nat_lit 221,o129) :: (nat_lit 224,hT []) :: (nat_lit 226,o132) :: (nat_lit 227,hT []) :: (nat_lit 229,o134) :: (nat_lit 230,o135) :: (nat_lit 231,o136) :: (nat_lit 238,hT []) :: (nat_lit 239,o140 P) :: (nat_lit 240,o141) :: (nat_lit 241,o142) :: (nat_lit 244,hT [(hR 240)]) :: (nat_lit 251,hT []) :: (nat_lit 253,o149) :: (nat_lit 254,hT []) :: (nat_lit 256,o151) :: (nat_lit 257,o152) :: (nat_lit 258,o153) :: (nat_lit 259,o154 P) :: (nat_lit 260,o155) :: (nat_lit 263,hT []) :: (nat_lit 266,o159) :: (nat_lit 267,o160) :: (nat_lit 268,hT []) :: (nat_lit 271,o162) :: (nat_lit 272,o163) :: (nat_lit 273,hT []) :: (nat_lit 275,o164) :: (nat_lit 276,hT []) :: (nat_lit 278,o166) :: (nat_lit 279,o167) :: (nat_lit 280,hT []) :: (nat_lit 282,o168) :: (nat_lit 283,hT []) :: (nat_lit 285,o170) :: (nat_lit 286,o171) :: (nat_lit 287,hT []) :: (nat_lit 289,o172) :: (nat_lit 290,hT []) :: (nat_lit 292,o174) :: (nat_lit 293,o175) :: (nat_lit 294,hT []) :: (nat_lit 296,o176) :: (nat_lit 297,hT []) :: (nat_lit 299,o178) :: (nat_lit 300,o179) :: (nat_lit 301,hT []) :: (nat_lit 303,o180) :: (nat_lit 304,hT []) :: (nat_lit 306,o182) :: (nat_lit 307,o183) :: (nat_lit 308,hT []) :: (nat_lit 311,o185) :: (nat_lit 312,o186) :: (nat_lit 313,hT []) :: (nat_lit 316,o188) :: (nat_lit 317,o189) :: (nat_lit 325,hT []) :: (nat_lit 328,o195) :: (nat_lit 329,o196) :: (nat_lit 330,hT []) :: (nat_lit 332,o197) :: (nat_lit 333,hT []) :: (nat_lit 335,o199) :: (nat_lit 336,o200) :: (nat_lit 337,hT []) :: (nat_lit 339,o201) :: (nat_lit 340,hT []) :: (nat_lit 342,o203) :: (nat_lit 343,o204) :: (nat_lit 344,hT []) :: (nat_lit 346,o205) :: (nat_lit 347,hT []) :: (nat_lit 349,o207) :: (nat_lit 350,o208) :: (nat_lit 351,hT []) :: (nat_lit 353,o209) :: (nat_lit 354,hT []) :: (nat_lit 356,o211) :: (nat_lit 357,o212) :: (nat_lit 358,hT []) :: (nat_lit 361,o214) :: (nat_lit 362,o215) :: (nat_lit 363,hT []) :: (nat_lit 365,o216) :: (nat_lit 366,hT []) :: (nat_lit 368,o218) :: (nat_lit 369,o219) :: (nat_lit 370,hT []) :: (nat_lit 372,o220) :: (nat_lit 373,hT []) :: (nat_lit 375,o222) :: (nat_lit 376,o223) :: (nat_lit 377,o224) :: (nat_lit 378,o225 P) :: (nat_lit 379,o226) :: (nat_lit 380,o227) :: (nat_lit 381,o228) :: (nat_lit 384,hT []) :: (nat_lit 386,o231) :: (nat_lit 387,hT []) :: (nat_lit 389,o233) :: (nat_lit 390,o234) :: (nat_lit 391,hT []) :: (nat_lit 393,o235) :: (nat_lit 394,hT []) :: (nat_lit 396,o237) :: (nat_lit 397,o238) :: (nat_lit 398,hT []) :: (nat_lit 401,o240) :: (nat_lit 402,o241) :: (nat_lit 403,hT []) :: (nat_lit 405,o242) :: (nat_lit 406,hT []) :: (nat_lit 408,o244) :: (nat_lit 409,o245) :: (nat_lit 410,hT []) :: (nat_lit 412,o246) :: (nat_lit 413,hT []) :: (nat_lit 415,o248) :: (nat_lit 416,o249) :: (nat_lit 417,hT []) :: (nat_lit 420,o251) :: (nat_lit 421,o252) :: (nat_lit 422,hT []) :: (nat_lit 424,o253) :: (nat_lit 425,hT []) :: (nat_lit 427,o255) :: (nat_lit 428,o256) :: (nat_lit 429,hT []) :: (nat_lit 432,o258) :: (nat_lit 433,o259) :: (nat_lit 434,hT []) :: (nat_lit 436,o260) :: (nat_lit 437,hT []) :: (nat_lit 439,o262) :: (nat_lit 440,o263) :: (nat_lit 441,hT []) :: (nat_lit 443,o264) :: (nat_lit 444,hT []) :: (nat_lit 446,o266) :: (nat_lit 447,o267) :: (nat_lit 448,hT []) :: (nat_lit 450,o268) :: (nat_lit 451,hT []) :: (nat_lit 453,o270) :: (nat_lit 454,o271) :: (nat_lit 455,hT []) :: (nat_lit 457,o272) :: (nat_lit 458,hT []) :: (nat_lit 460,o274) :: (nat_lit 461,o275) :: (nat_lit 462,hT []) :: (nat_lit 464,o276) :: (nat_lit 465,hT []) :: (nat_lit 467,o278) :: (nat_lit 468,o279) :: (nat_lit 469,hT []) :: (nat_lit 472,o281) :: (nat_lit 473,o282) :: (nat_lit 474,hT []) :: (nat_lit 477,o284) :: (nat_lit 478,o285) :: []
noncomputable def as:List Addr:=[2,3,15,17,18,20,21,29,31,32,34,35,36,38,39,41,42,43,44,45,46,47,50,57,59,60,62,63,64,66,67,69,70,71,73,74,76,77,78,80,81,83,84,85,86,87,90,97,99,100,102,103,104,106,107,109,110,111,113,114,116,117,118,120,121,123,124,125,126,127,130,137,139,140,142,143,144,146,147,149,150,151,153,154,156,157,158,160,161,163,164,165,167,168,170,171,172,173,174,177,184,186,187,189,190,191,193,194,196,197,198,200,201,203,204,205,207,208,210,211,212,214,215,217,218,219,220,221,224,226,227,229,230,231,238,239,240,241,244,251,253,254,256,257,258,259,260,263,266,267,268,271,272,273,275,276,278,279,280,282,283,285,286,287,289,290,292,293,294,296,297,299,300,301,303,304,306,307,308,311,312,313,316,317,325,328,329,330,332,333,335,336,337,339,340,342,343,344,346,347,349,350,351,353,354,356,357,358,361,362,363,365,366,368,369,370,372,373,375,376,377,378,379,380,381,384,386,387,389,390,391,393,394,396,397,398,401,402,403,405,406,408,409,410,412,413,415,416,417,420,421,422,424,425,427,428,429,432,433,434,436,437,439,440,441,443,444,446,447,448,450,451,453,454,455,457,458,460,461,462,464,465,467,468,469,472,473,474,477,478]
noncomputable def vw:Program:=PySem.W.view pw [0,2,3,4,5,6,7,9,10,12,13,14,15,16,17,18,19,20,21,22,23,24,25,27,28,29,31,32,33,34,35,36,37,38,39,40,41,42]
noncomputable def en:Env:={ scope:=pw.main.scope,locals:=mainNs,globals:=mainNs,cells:=[],code:=(hR 13),frame:=some 14 }
theorem hk:∀ P,as = (KK P).map (·.1):=fun _=>by kernel_rfl
noncomputable abbrev cE:Code:=.body (behindTheImports pw) en
noncomputable abbrev fB:List Frame:=[topFrame ⟨0,0,0,0⟩]
theorem t_pre (w:World) (os:OsState):topGo treeTable pw w 11 (some (.ref 6)) 12 ⟨boot_heap w.params,Array.mk [],boot_drawn,boot_toks,os⟩ (topStub pw) = some (⟨HA w.params,Array.mk [],{},187,os⟩,⟨denote treeTable cE,cE,⟨0,0,0,0⟩,fB⟩):=by kernel_rfl
theorem t_block (w:World) (os:OsState):segRun treeTable pw w 11 (some (.ref 6)) 1 1 ⟨HA w.params,Array.mk [],{},187,os⟩ (blockOf (behindTheImports pw) en cE ⟨0,0,0,0⟩ fB) = some (.next,(SharedT.mk (TB w.params) 15 {} (Array.mk []) {} 187 os).abs,cE,⟨0,0,0,0⟩):=by kernel_rfl
theorem t_body (w:World) (os:OsState):segRunT treeTable pw w 11 (some (.ref 6)) 1 3391 (SharedT.mk (TB w.params) 15 {} (Array.mk []) {} 187 os) (piecesOf (behindTheImports pw) en cE ⟨0,0,0,0⟩ fB) = some (.next,(SharedT.mk (TF w.params) 479 {} (Array.mk []) {} 781 os),cE,⟨272,0,289,15⟩):=by kernel_rfl
theorem t_fin (w:World) (os:OsState):topRun treeTable pw w 11 (some (.ref 6)) 2 (SharedT.mk (TF w.params) 479 {} (Array.mk []) {} 781 os).abs ⟨doneF .next,cE,⟨272,0,289,15⟩,fB⟩ = some ⟨HF w.params,Array.mk [],{},781,os⟩:=by kernel_rfl
theorem t_run (w:World) (os:OsState):topRun treeTable pw w 11 (some (.ref 6)) (12 + (1 + (3391 + 2))) ⟨boot_heap w.params,Array.mk [],boot_drawn,boot_toks,os⟩ (topStub pw) = some ⟨HF w.params,Array.mk [],{},781,os⟩ :=
  go_top (t_pre w os) (piece_block (q:=⟨0,0,0,0⟩) (t_block w os) (by
    have h:=piece_app (q:=⟨0,0,0,0⟩) (rest:=[]) (N:=2) (r:=⟨HF w.params,Array.mk [],{},781,os⟩) (segRun_of (t_body w os)) (piece_nil (t_fin w os))
    rw [List.append_nil] at h
    exact h))
theorem t_op (w:World):(fencedOpening treeTable pw w 6904).map (fun s=>(s.heap,s.gens,s.drawn,s.toks)) = some (boot_heap w.params,Array.mk [],boot_drawn,boot_toks):=boot_open (by kernel_rfl) (by decide) (fun s=>by kernel_rfl) w
theorem t_size (w:World):((boot_heap w.params).isNs mainGlobals && (Array.mk []:Array GenState).size == 0,(boot_heap w.params).objs.size,(boot_heap w.params).nsMap mainGlobals "__annotations__") = (true,11,(some (.ref 6))):=by kernel_rfl
theorem t_left:LeftO pw vw [] (fun s=>xlAt vw [] s && recOk (RowW.records PySem.Challenge.rw_mustmay_k42_ranked_rows_let_by.row.toRowW) s) (Hook.obs (kHook KK as hk)) (Hook.val (kHook KK as hk)) 6904 true :=
  LeftO.of_pieces (H₀:=boot_heap) (H₁:=HF) (m₀:=11) (ann:=(some (.ref 6))) (M:=(12 + (1 + (3391 + 2)))) t_op t_size t_run (by decide) fun w=>by kernel_rfl
end K4
open PySem PySem.W PyProof.Rows
set_option maxRecDepth 100000 in
set_option maxHeartbeats 0 in
theorem PySem.Challenge.cw_mustmay_k42_ranked_rows_let_by_holds : PySem.Challenge.rw_mustmay_k42_ranked_rows_let_by.Holds := by
  w_on
  refine PySem.W.holds_law (by kernel_rfl) fun said=>?_
  refine holds_open (q:=K4.vw) (loose:=[]) (Xt:=fun s=>xlAt K4.vw [] s && recOk (RowW.records PySem.Challenge.rw_mustmay_k42_ranked_rows_let_by.row.toRowW) s) (XP:=XL K4.vw []) (Yf:=Hook.obs (kHook K4.KK K4.as K4.hk)) (Ya:=Hook.val (kHook K4.KK K4.as K4.hk)) (YP:=Hook.says (kHook K4.KK K4.as K4.hk)) (N:=6904) K4.t_left (Hook.of (kHook K4.KK K4.as K4.hk)) (Hook.keeps (kHook K4.KK K4.as K4.hk)) (fun s e=>xl_of s (Bool.and_eq_true_iff.mp e).1) XL.keeps (by rfl) (by rfl) (by rfl) (fun s e=>recFacts_of (Bool.and_eq_true_iff.mp e).2) (by rfl) said (by decide +kernel) ⟨rfl,rfl,rfl,rfl,rfl,by decide +kernel⟩ ?hw ?hc
  (case hw=>w_witness2)
  k_fill
  refine K4.walk (l:=PySem.Challenge.rw_mustmay_k42_ranked_rows_let_by) rfl rfl (fun w h Y=>PySem.W.kIn_of Y) ?F
  case F =>
    intro w mg fa h KX G hmg
    refine' K4.all_mk KX G hmg ?aap ?Wa ?Uq ?Ws ?WD ?Ul ?Uu ?Xm ?Iz ?aaq ?Wb ?Ur ?Wt ?WF ?Um ?Uv ?Xn ?IK ?a_May ?abx ?aa8 ?abC ?abI ?aa7 ?aa9 ?abX ?R5 ?aar ?Wc ?Us ?Wu ?WK ?Uo ?Uw ?Xo ?IV ?aas ?Wd ?Ut ?Wv ?WL ?Up ?Ux ?Xp ?IW ?Ru ?Ky ?JN ?KR ?K6 ?JL ?JP ?Lq ?CQ ?hn ?htk ?cR ?cW ?lq ?je ?jf ?jg ?z_all ?abY ?xU ?z_int ?uV ?z_len ?abZ ?z_min ?Xq ?z_set ?z_str ?Xr ?Vl ?Uy ?UL ?abk ?aba ?abd ?Vm ?Uz ?UT ?Vn ?UG ?UV ?J7 ?JQ ?JT ?nD ?um ?uq ?qW ?sW ?vQ ?sX ?sY ?ul ?wI ?uo ?ur ?yC ?Ae ?yD ?yE ?yV ?Bk ?yW ?yX ?vR ?yz ?vU ?vV ?wJ ?yU ?wK ?wL ?Ed ?Iu ?Ef ?Eg ?Eo ?JF ?Ep ?Er ?Af ?Ec ?Ag ?Ah ?Bj ?qD ?qY ?inD ?ca1 ?ca2 ?ca3 ?rW ?jO ?gk ?jN ?qC ?qX ?sy ?sE ?eO ?gG ?lg ?gF ?j7 ?my ?mz ?iQ ?gD ?dD ?gB ?bD ?j5 ?lZ ?mq ?mj ?kZ ?j6 ?fM ?gC ?j4 ?m_law ?wZ ?tM ?lY ?xj ?tU ?wX ?xn ?tW ?wY ?uF ?qG ?uz ?uG ?qH ?nF ?xg ?tR ?qi ?zG ?v8 ?uB ?xm ?tV ?qj ?xq ?tX ?qm ?uJ ?qK ?uC ?xf ?tQ ?wW ?uK ?qL ?uD ?uL ?qM ?uE ?rE ?oN ?rB ?uI ?qJ ?uA ?rF ?oO ?rC ?rG ?oR ?rD ?zH ?v9 ?zB ?Dg ?zp ?De ?zJ ?wg ?zE ?zK ?wj ?zF ?w6 ?tO ?wV ?Dh ?zq ?nR ?Di ?zr ?nT ?kY ?jP ?cQ ?pG ?mK ?eG ?Dj ?zu ?jo ?pF ?mJ ?eF ?uQ ?qR ?gR ?xF ?t7 ?jq ?xG ?t8 ?jr ?uH ?qI ?nG ?rK ?oW ?fL ?pD ?mH ?eE ?rJ ?oV ?cO ?pB ?mF ?d8 ?uN ?qO ?bz ?uO ?qP ?gP ?xr ?tY ?jl ?xx ?t6 ?jn ?xu ?tZ ?jm ?zL ?wk ?jc ?uP ?qQ ?gQ ?rH ?oU ?dB ?pC ?mG ?d9 ?uM ?qN ?gO ?l_law ?aaF ?k_law
    (case aap=>k_is)
    (case Wa=>k_is)
    (case Uq=>k_is)
    (case Ws=>k_is)
    (case WD=>k_is)
    (case Ul=>k_is)
    (case Uu=>k_is)
    (case Xm=>k_is)
    (case Iz=>k_is)
    (case aaq=>k_is)
    (case Wb=>k_is)
    (case Ur=>k_is)
    (case Wt=>k_is)
    (case WF=>k_is)
    (case Um=>k_is)
    (case Uv=>k_is)
    (case Xn=>k_is)
    (case IK=>k_is)
    (case a_May=>k_is)
    (case abx=>k_is)
    (case aa8=>k_is)
    (case abC=>k_is)
    (case abI=>k_is)
    (case aa7=>k_is)
    (case aa9=>k_is)
    (case abX=>k_is)
    (case R5=>k_is)
    (case aar=>k_is)
    (case Wc=>k_is)
    (case Us=>k_is)
    (case Wu=>k_is)
    (case WK=>k_is)
    (case Uo=>k_is)
    (case Uw=>k_is)
    (case Xo=>k_is)
    (case IV=>k_is)
    (case aas=>k_is)
    (case Wd=>k_is)
    (case Ut=>k_is)
    (case Wv=>k_is)
    (case WL=>k_is)
    (case Up=>k_is)
    (case Ux=>k_is)
    (case Xp=>k_is)
    (case IW=>k_is)
    (case Ru=>k_is)
    (case Ky=>k_is)
    (case JN=>k_is)
    (case KR=>k_is)
    (case K6=>k_is)
    (case JL=>k_is)
    (case JP=>k_is)
    (case Lq=>k_is)
    (case CQ=>k_is)
    (case hn=>k_is)
    (case htk=>k_is)
    (case cR=>k_is)
    (case cW=>k_is)
    (case lq=>k_is)
    (case je=>k_is)
    (case jf=>k_is)
    (case jg=>k_is)
    (case z_all=>k_is)
    (case abY=>k_is)
    (case xU=>k_is)
    (case z_int=>k_is)
    (case uV=>k_is)
    (case z_len=>k_is)
    (case abZ=>k_is)
    (case z_min=>k_is)
    (case Xq=>k_is)
    (case z_set=>k_is)
    (case z_str=>k_is)
    (case Xr=>k_is)
    (case Vl=>k_is)
    (case Uy=>k_is)
    (case UL=>k_is)
    (case abk=>k_is)
    (case aba=>k_is)
    (case abd=>k_is)
    (case Vm=>k_is)
    (case Uz=>k_is)
    (case UT=>k_is)
    (case Vn=>k_is)
    (case UG=>k_is)
    (case UV=>k_is)
    (case J7=>k_is)
    (case JQ=>k_is)
    (case JT=>k_is)
    (case nD=>k_is)
    (case um=>k_is)
    (case uq=>k_is)
    (case qW=>k_is)
    (case sW=>k_is)
    (case vQ=>k_is)
    (case sX=>k_is)
    (case sY=>k_is)
    (case ul=>k_is)
    (case wI=>k_is)
    (case uo=>k_is)
    (case ur=>k_is)
    (case yC=>k_is)
    (case Ae=>k_is)
    (case yD=>k_is)
    (case yE=>k_is)
    (case yV=>k_is)
    (case Bk=>k_is)
    (case yW=>k_is)
    (case yX=>k_is)
    (case vR=>k_is)
    (case yz=>k_is)
    (case vU=>k_is)
    (case vV=>k_is)
    (case wJ=>k_is)
    (case yU=>k_is)
    (case wK=>k_is)
    (case wL=>k_is)
    (case Ed=>k_is)
    (case Iu=>k_is)
    (case Ef=>k_is)
    (case Eg=>k_is)
    (case Eo=>k_is)
    (case JF=>k_is)
    (case Ep=>k_is)
    (case Er=>k_is)
    (case Af=>k_is)
    (case Ec=>k_is)
    (case Ag=>k_is)
    (case Ah=>k_is)
    (case Bj=>k_is)
    (case qD=>k_is)
    (case qY=>k_is)
    (case inD=>k_is)
    (case ca1=>k_is)
    (case ca2=>k_is)
    (case ca3=>k_is)
    (case rW=>k_is)
    (case jO=>k_is)
    (case gk=>k_is)
    (case jN=>k_is)
    (case qC=>k_is)
    (case qX=>k_is)
    (case sy=>k_is)
    (case sE=>k_is)
    (case eO=>k_is)
    (case gG=>k_is)
    (case lg=>k_is)
    (case gF=>k_is)
    (case j7=>k_is)
    (case my=>k_is)
    (case mz=>k_is)
    (case iQ=>k_is)
    (case gD=>k_is)
    (case dD=>k_is)
    (case gB=>k_is)
    (case bD=>k_is)
    (case j5=>k_is)
    (case lZ=>k_is)
    (case mq=>k_is)
    (case mj=>k_is)
    (case kZ=>k_is)
    (case j6=>k_is)
    (case fM=>k_is)
    (case gC=>k_is)
    (case j4=>k_is)
    (case m_law=>k_is)
    (case wZ=>k_is)
    (case tM=>k_is)
    (case lY=>k_is)
    (case xj=>k_is)
    (case tU=>k_is)
    (case wX=>k_is)
    (case xn=>k_is)
    (case tW=>k_is)
    (case wY=>k_is)
    (case uF=>k_is)
    (case qG=>k_is)
    (case uz=>k_is)
    (case uG=>k_is)
    (case qH=>k_is)
    (case nF=>k_is)
    (case xg=>k_is)
    (case tR=>k_is)
    (case qi=>k_is)
    (case zG=>k_is)
    (case v8=>k_is)
    (case uB=>k_is)
    (case xm=>k_is)
    (case tV=>k_is)
    (case qj=>k_is)
    (case xq=>k_is)
    (case tX=>k_is)
    (case qm=>k_is)
    (case uJ=>k_is)
    (case qK=>k_is)
    (case uC=>k_is)
    (case xf=>k_is)
    (case tQ=>k_is)
    (case wW=>k_is)
    (case uK=>k_is)
    (case qL=>k_is)
    (case uD=>k_is)
    (case uL=>k_is)
    (case qM=>k_is)
    (case uE=>k_is)
    (case rE=>k_is)
    (case oN=>k_is)
    (case rB=>k_is)
    (case uI=>k_is)
    (case qJ=>k_is)
    (case uA=>k_is)
    (case rF=>k_is)
    (case oO=>k_is)
    (case rC=>k_is)
    (case rG=>k_is)
    (case oR=>k_is)
    (case rD=>k_is)
    (case zH=>k_is)
    (case v9=>k_is)
    (case zB=>k_is)
    (case Dg=>k_is)
    (case zp=>k_is)
    (case De=>k_is)
    (case zJ=>k_is)
    (case wg=>k_is)
    (case zE=>k_is)
    (case zK=>k_is)
    (case wj=>k_is)
    (case zF=>k_is)
    (case w6=>k_is)
    (case tO=>k_is)
    (case wV=>k_is)
    (case Dh=>k_is)
    (case zq=>k_is)
    (case nR=>k_is)
    (case Di=>k_is)
    (case zr=>k_is)
    (case nT=>k_is)
    (case kY=>k_is)
    (case jP=>k_is)
    (case cQ=>k_is)
    (case pG=>k_is)
    (case mK=>k_is)
    (case eG=>k_is)
    (case Dj=>k_is)
    (case zu=>k_is)
    (case jo=>k_is)
    (case pF=>k_is)
    (case mJ=>k_is)
    (case eF=>k_is)
    (case uQ=>k_is)
    (case qR=>k_is)
    (case gR=>k_is)
    (case xF=>k_is)
    (case t7=>k_is)
    (case jq=>k_is)
    (case xG=>k_is)
    (case t8=>k_is)
    (case jr=>k_is)
    (case uH=>k_is)
    (case qI=>k_is)
    (case nG=>k_is)
    (case rK=>k_is)
    (case oW=>k_is)
    (case fL=>k_is)
    (case pD=>k_is)
    (case mH=>k_is)
    (case eE=>k_is)
    (case rJ=>k_is)
    (case oV=>k_is)
    (case cO=>k_is)
    (case pB=>k_is)
    (case mF=>k_is)
    (case d8=>k_is)
    (case uN=>k_is)
    (case qO=>k_is)
    (case bz=>k_is)
    (case uO=>k_is)
    (case qP=>k_is)
    (case gP=>k_is)
    (case xr=>k_is)
    (case tY=>k_is)
    (case jl=>k_is)
    (case xx=>k_is)
    (case t6=>k_is)
    (case jn=>k_is)
    (case xu=>k_is)
    (case tZ=>k_is)
    (case jm=>k_is)
    (case zL=>k_is)
    (case wk=>k_is)
    (case jc=>k_is)
    (case uP=>k_is)
    (case qQ=>k_is)
    (case gQ=>k_is)
    (case rH=>k_is)
    (case oU=>k_is)
    (case dB=>k_is)
    (case pC=>k_is)
    (case mG=>k_is)
    (case d9=>k_is)
    (case uM=>k_is)
    (case qN=>k_is)
    (case gO=>k_is)
    (case l_law=>k_is)
    (case aaF=>k_is)
    (case k_law=>k_is)
